/- What has been read is the bytes of what is held. -/
import Derived.Test.YtdinlaoimpoolaaBack
namespace Go.Proofs.Ytdinlaoimpoolaa
open Go.RowKit

def hdr (em ng : Nat) (gs : List Gl) : List Nat := PF ++ (be 2 em ++ (be 2 ng ++ gs.flatMap gb))
/-- the bytes of the parts that are read -/
def done (s : St) : List Nat := match s.nx with
  | 0 => []
  | 1 => [80]
  | 2 => [80, 70]
  | 3 => PF
  | 4 => PF ++ be 2 s.em
  | 5 => hdr s.em s.ng s.gs
  | 6 => hdr s.em s.ng s.gs ++ be 3 s.g.1.toNat
  | 7 => hdr s.em s.ng s.gs ++ (be 3 s.g.1.toNat ++ be 2 s.g.2.1.toNat)
  | 8 => hdr s.em s.ng s.gs ++ (be 3 s.g.1.toNat ++ (be 2 s.g.2.1.toNat ++ be 2 s.g.2.2.1.toNat))
  | 9 => hdr s.em s.ng s.gs
  | 10 => hdr s.em s.ng s.gs ++ (be 2 s.np ++ s.ps.flatMap pb)
  | 11 => hdr s.em s.ng s.gs ++ (be 2 s.np ++ (s.ps.flatMap pb ++ be 3 s.p.1.toNat))
  | 12 => hdr s.em s.ng s.gs ++ (be 2 s.np ++ (s.ps.flatMap pb ++ (be 3 s.p.1.toNat ++ be 3 s.p.2.1.toNat)))
  | 13 => hdr s.em s.ng s.gs ++ (be 2 s.np ++ (s.ps.flatMap pb ++ (be 3 s.p.1.toNat ++ (be 3 s.p.2.1.toNat ++ be 1 1))))
  | 14 => hdr s.em s.ng s.gs ++ (be 2 s.np ++ (s.ps.flatMap pb ++ (be 3 s.p.1.toNat ++ (be 3 s.p.2.1.toNat ++ be 1 2))))
  | 15 => hdr s.em s.ng s.gs ++ (be 2 s.np ++ s.ps.flatMap pb)
  | _ => (hdr s.em s.ng s.gs ++ (be 2 s.np ++ s.ps.flatMap pb)) ++ be 4 s.sm
theorem flat_snoc {α : Type} (f : α → List Nat) (xs : List α) (x : α) : (xs ++ [x]).flatMap f = xs.flatMap f ++ f x := by simp
theorem done_settle {s : St} (G : Good s) {n : Nat} (hf : fits s n = true) : done { put s n with nx := after (put s n), nu := 0, bs := 0 } = done s ++ be (sz s.nx) n := by
  obtain ⟨a1, a2, a3, a4, a5, a6, a7, a8, a9, b1, b2, b3, b4, b5, b6, b7, b8, b9, c1, c2, c3⟩ := G
  obtain ⟨nx, nu, bs, sm, em, gs, ps, ng, np, g, p⟩ := s
  simp only at a1 a4 b3 c1 c2 c3
  clear a2 a3 a5 a6 a7 a8 a9 b1 b2 b4 b5 b6 b7 b8 b9
  have hc : nx = 0 ∨ nx = 1 ∨ nx = 2 ∨ nx = 3 ∨ nx = 4 ∨ nx = 5 ∨ nx = 6 ∨ nx = 7 ∨ nx = 8 ∨ nx = 9 ∨ nx = 10 ∨ nx = 11 ∨ nx = 12 ∨ nx = 13 ∨ nx = 14 ∨ nx = 15 ∨ nx = 16 := by omega
  rcases hc with rfl | rfl | rfl | rfl | rfl | rfl | rfl | rfl | rfl | rfl | rfl | rfl | rfl | rfl | rfl | rfl | rfl
  · have e : n = 80 := by simpa [fits] using hf
    subst e; rfl
  · have e : n = 70 := by simpa [fits] using hf
    subst e; rfl
  · have e : n = 49 := by simpa [fits] using hf
    subst e; rfl
  · rfl
  · have e := a4 (by decide)
    subst e
    have h : hdr em n [] = (PF ++ be 2 em) ++ be 2 n := by simp [hdr]
    by_cases hs : ([] : List Gl).length < n
    · rw [show after (put ⟨4, nu, bs, sm, em, [], ps, ng, np, g, p⟩ n) = 5 from if_pos hs]; exact h
    · rw [show after (put ⟨4, nu, bs, sm, em, [], ps, ng, np, g, p⟩ n) = 9 from if_neg hs]; exact h
  · rfl
  · show hdr em ng gs ++ (be 3 g.1.toNat ++ be 2 n) = (hdr em ng gs ++ be 3 g.1.toNat) ++ be 2 n
    rw [List.append_assoc]
  · show hdr em ng gs ++ (be 3 g.1.toNat ++ (be 2 g.2.1.toNat ++ be 2 n)) = (hdr em ng gs ++ (be 3 g.1.toNat ++ be 2 g.2.1.toNat)) ++ be 2 n
    simp only [List.append_assoc]
  · have h : hdr em ng (gs ++ [(g.1, g.2.1, g.2.2.1, (n : Int))]) = (hdr em ng gs ++ (be 3 g.1.toNat ++ (be 2 g.2.1.toNat ++ be 2 g.2.2.1.toNat))) ++ be 2 n := by
      unfold hdr
      rw [flat_snoc]
      simp only [gb, Int.toNat_natCast, List.append_assoc]
    by_cases hs : (gs ++ [(g.1, g.2.1, g.2.2.1, (n : Int))]).length < ng
    · rw [show after (put ⟨8, nu, bs, sm, em, gs, ps, ng, np, g, p⟩ n) = 5 from if_pos hs]; exact h
    · rw [show after (put ⟨8, nu, bs, sm, em, gs, ps, ng, np, g, p⟩ n) = 9 from if_neg hs]; exact h
  · have e := b3 (by decide)
    subst e
    have h : hdr em ng gs ++ (be 2 n ++ ([] : List Pr).flatMap pb) = hdr em ng gs ++ be 2 n := by simp
    by_cases hs : ([] : List Pr).length < n
    · rw [show after (put ⟨9, nu, bs, sm, em, gs, [], ng, np, g, p⟩ n) = 10 from if_pos hs]; exact h
    · rw [show after (put ⟨9, nu, bs, sm, em, gs, [], ng, np, g, p⟩ n) = 15 from if_neg hs]; exact h
  · show hdr em ng gs ++ (be 2 np ++ (ps.flatMap pb ++ be 3 n)) = (hdr em ng gs ++ (be 2 np ++ ps.flatMap pb)) ++ be 3 n
    simp only [List.append_assoc]
  · show hdr em ng gs ++ (be 2 np ++ (ps.flatMap pb ++ (be 3 p.1.toNat ++ be 3 n))) = (hdr em ng gs ++ (be 2 np ++ (ps.flatMap pb ++ be 3 p.1.toNat))) ++ be 3 n
    simp only [List.append_assoc]
  · have e : n = 1 ∨ n = 2 := by simpa [fits] using hf
    rcases e with rfl | rfl
    · show hdr em ng gs ++ (be 2 np ++ (ps.flatMap pb ++ (be 3 p.1.toNat ++ (be 3 p.2.1.toNat ++ be 1 1)))) = (hdr em ng gs ++ (be 2 np ++ (ps.flatMap pb ++ (be 3 p.1.toNat ++ be 3 p.2.1.toNat)))) ++ be 1 1
      simp only [List.append_assoc]
    · show hdr em ng gs ++ (be 2 np ++ (ps.flatMap pb ++ (be 3 p.1.toNat ++ (be 3 p.2.1.toNat ++ be 1 2)))) = (hdr em ng gs ++ (be 2 np ++ (ps.flatMap pb ++ (be 3 p.1.toNat ++ be 3 p.2.1.toNat)))) ++ be 1 2
      simp only [List.append_assoc]
  · have c := c2 rfl
    have h : hdr em ng gs ++ (be 2 np ++ (ps ++ [(p.1, p.2.1, p.2.2.1, (n : Int), p.2.2.2.2)]).flatMap pb) = (hdr em ng gs ++ (be 2 np ++ (ps.flatMap pb ++ (be 3 p.1.toNat ++ (be 3 p.2.1.toNat ++ be 1 1))))) ++ be 3 n := by
      rw [flat_snoc]
      simp only [pb, c, if_true, Int.toNat_natCast, List.append_assoc]
    by_cases hs : (ps ++ [(p.1, p.2.1, p.2.2.1, (n : Int), p.2.2.2.2)]).length < np
    · rw [show after (put ⟨13, nu, bs, sm, em, gs, ps, ng, np, g, p⟩ n) = 10 from if_pos hs]; exact h
    · rw [show after (put ⟨13, nu, bs, sm, em, gs, ps, ng, np, g, p⟩ n) = 15 from if_neg hs]; exact h
  · have c := c3 rfl
    have h : hdr em ng gs ++ (be 2 np ++ (ps ++ [(p.1, p.2.1, p.2.2.1, p.2.2.2.1, (n : Int) - 32768)]).flatMap pb) = (hdr em ng gs ++ (be 2 np ++ (ps.flatMap pb ++ (be 3 p.1.toNat ++ (be 3 p.2.1.toNat ++ be 1 2))))) ++ be 2 n := by
      rw [flat_snoc]
      have e : ((n : Int) - 32768 + 32768).toNat = n := by omega
      simp only [pb, c, Bool.false_eq_true, if_false, e, List.append_assoc]
    by_cases hs : (ps ++ [(p.1, p.2.1, p.2.2.1, p.2.2.2.1, (n : Int) - 32768)]).length < np
    · rw [show after (put ⟨14, nu, bs, sm, em, gs, ps, ng, np, g, p⟩ n) = 10 from if_pos hs]; exact h
    · rw [show after (put ⟨14, nu, bs, sm, em, gs, ps, ng, np, g, p⟩ n) = 15 from if_neg hs]; exact h
  · have e : n = sm := by simpa [fits] using hf
    subst e; rfl
  · exact absurd hf (by simp [fits])

/-- what has been read -/
structure Ser (s : St) (pre : List Nat) : Prop where
  a : pre = done s ++ be s.bs s.nu
  b : s.nx ≤ 14 → s.sm = sumB pre
  c : 15 ≤ s.nx → s.sm = sumB (hdr s.em s.ng s.gs ++ (be 2 s.np ++ s.ps.flatMap pb))
theorem ser0 : Ser st0 [] := ⟨rfl, fun _ => rfl, fun h => absurd h (by decide)⟩
theorem after_15 {s : St} (h : s.nx ≤ 16) (ha : after s = 15) : s.nx = 9 ∨ s.nx = 13 ∨ s.nx = 14 := by
  have hc : s.nx = 0 ∨ s.nx = 1 ∨ s.nx = 2 ∨ s.nx = 3 ∨ s.nx = 4 ∨ s.nx = 5 ∨ s.nx = 6 ∨ s.nx = 7 ∨ s.nx = 8 ∨ s.nx = 9 ∨ s.nx = 10 ∨ s.nx = 11 ∨ s.nx = 12 ∨ s.nx = 13 ∨ s.nx = 14 ∨ s.nx = 15 ∨ s.nx = 16 := by omega
  unfold after at ha
  rcases hc with e | e | e | e | e | e | e | e | e | e | e | e | e | e | e | e | e <;> rw [e] at ha <;> simp only [] at ha <;> (try split at ha) <;> omega
theorem after_16 {s : St} (h : s.nx ≤ 16) (ha : 16 ≤ after s) : s.nx = 15 ∨ s.nx = 16 := by
  have hc : s.nx = 0 ∨ s.nx = 1 ∨ s.nx = 2 ∨ s.nx = 3 ∨ s.nx = 4 ∨ s.nx = 5 ∨ s.nx = 6 ∨ s.nx = 7 ∨ s.nx = 8 ∨ s.nx = 9 ∨ s.nx = 10 ∨ s.nx = 11 ∨ s.nx = 12 ∨ s.nx = 13 ∨ s.nx = 14 ∨ s.nx = 15 ∨ s.nx = 16 := by omega
  unfold after at ha
  rcases hc with e | e | e | e | e | e | e | e | e | e | e | e | e | e | e | e | e <;> rw [e] at ha <;> simp only [] at ha <;> (try split at ha) <;> omega
theorem after_low {s : St} (h : s.nx ≤ 16) (ha : after s ≤ 14) : s.nx ≤ 14 := by
  rcases Nat.lt_or_ge s.nx 15 with q | q
  · omega
  · exfalso
    have : s.nx = 15 ∨ s.nx = 16 := by omega
    unfold after at ha
    rcases this with e | e <;> rw [e] at ha <;> simp only [] at ha <;> omega
theorem fits_16 {s : St} {n : Nat} (h : s.nx = 16) : fits s n = false := by unfold fits; rw [h]; rfl
theorem put_sm (s : St) (n : Nat) : (put s n).sm = s.sm := by unfold put; split <;> rfl
theorem put_same {s : St} {n : Nat} (h : 15 ≤ s.nx) : put s n = s := by
  unfold put
  split <;> first | rfl | omega
theorem done_15 {s : St} (h : s.nx = 15) : done s = hdr s.em s.ng s.gs ++ (be 2 s.np ++ s.ps.flatMap pb) := by unfold done; rw [h]; rfl
theorem put_nx (s : St) (n : Nat) : (put s n).nx = s.nx := by unfold put; split <;> rfl
theorem done_one {s : St} (c : Nat) (h : s.nx ≤ 16) (h16 : s.nx ≠ 16) : done (one s c) = done s := by
  obtain ⟨nx, nu, bs, sm, em, gs, ps, ng, np, g, p⟩ := s
  simp only at h h16
  have hc : nx = 0 ∨ nx = 1 ∨ nx = 2 ∨ nx = 3 ∨ nx = 4 ∨ nx = 5 ∨ nx = 6 ∨ nx = 7 ∨ nx = 8 ∨ nx = 9 ∨ nx = 10 ∨ nx = 11 ∨ nx = 12 ∨ nx = 13 ∨ nx = 14 ∨ nx = 15 := by omega
  rcases hc with rfl | rfl | rfl | rfl | rfl | rfl | rfl | rfl | rfl | rfl | rfl | rfl | rfl | rfl | rfl | rfl <;> simp only [done, one]
theorem Ser.step {s s' : St} {pre : List Nat} {c : Nat} (G : Good s) (N : Num s) (hc : c < 256) (S : Ser s pre) (h : tk s c = some s') : Ser s' (pre ++ [c]) := by
  have hw : ∀ a b, wit a b < 4294967296 := fun a b => Nat.mod_lt _ (by decide)
  unfold tk at h
  split at h
  · rename_i hl
    cases h
    have h16 : s.nx ≠ 16 := by
      intro e
      rw [e] at hl
      simp only [sz] at hl
      omega
    have hd : done (one s c) = done s := done_one c G.n16 h16
    refine ⟨?_, fun hx => ?_, fun hx => ?_⟩
    · rw [hd]
      show pre ++ [c] = done s ++ be (s.bs + 1) (s.nu * 256 + c)
      rw [be_snoc c hc, S.a, List.append_assoc]
    · have hx' : s.nx ≤ 14 := hx
      show (if s.nx = 15 then s.sm else wit s.sm c) = _
      rw [if_neg (by omega), S.b hx']
      exact (sumF_snoc _ _ _).symm
    · have hx' : 15 ≤ s.nx := hx
      have := G.n16
      show (if s.nx = 15 then s.sm else wit s.sm c) = _
      rw [if_pos (by omega)]
      exact S.c hx'
  · split at h
    · rename_i hl hf
      cases h
      have hn := N.b
      have h16 : s.nx ≠ 16 := by
        intro e
        have := fits_16 (s := one s c) (n := (one s c).nu) e
        rw [this] at hf; cases hf
      have G1 : Good (one s c) := G.first c hw
      have hd : done (one s c) = done s := done_one c G.n16 h16
      have hnx : (put (one s c) (one s c).nu).nx = s.nx := put_nx _ _
      have hset := done_settle G1 hf
      have hb : be (sz (one s c).nx) (one s c).nu = be s.bs s.nu ++ [c] := by
        show be (sz s.nx) (s.nu * 256 + c) = _
        rw [show sz s.nx = s.bs + 1 by omega, be_snoc c hc]
      have hpre : pre ++ [c] = done (nxt (one s c)) := by
        refine Eq.trans ?_ hset.symm
        rw [hb, hd, S.a, List.append_assoc]
      have hsm : (nxt (one s c)).sm = (one s c).sm := put_sm _ _
      refine ⟨?_, fun hx => ?_, fun hx => ?_⟩
      · rw [hpre]
        show done (nxt (one s c)) = done (nxt (one s c)) ++ be 0 0
        rw [be, List.append_nil]
      · have hx' : after (put (one s c) (one s c).nu) ≤ 14 := hx
        have := after_low (by rw [hnx]; exact G.n16) hx'
        rw [hnx] at this
        rw [hsm]
        show (if s.nx = 15 then s.sm else wit s.sm c) = _
        rw [if_neg (by omega), S.b this]
        exact (sumF_snoc _ _ _).symm
      · have hx' : 15 ≤ after (put (one s c) (one s c).nu) := hx
        rw [hsm]
        rcases Nat.lt_or_ge (after (put (one s c) (one s c).nu)) 16 with q | q
        · have h15 : after (put (one s c) (one s c).nu) = 15 := by omega
          have h9 := after_15 (by rw [hnx]; exact G.n16) h15
          rw [hnx] at h9
          have hx15 : (nxt (one s c)).nx = 15 := h15
          rw [← done_15 hx15, ← hpre]
          show (if s.nx = 15 then s.sm else wit s.sm c) = _
          rw [if_neg (by omega), S.b (by omega)]
          exact (sumF_snoc _ _ _).symm
        · have h15 := after_16 (by rw [hnx]; exact G.n16) q
          rw [hnx] at h15
          have hx15 : s.nx = 15 := by omega
          have hput : put (one s c) (one s c).nu = one s c := put_same (by show 15 ≤ s.nx; omega)
          have e : (one s c).sm = s.sm := by show (if s.nx = 15 then s.sm else wit s.sm c) = _; rw [if_pos hx15]
          rw [e, S.c (by omega)]
          unfold nxt
          rw [hput]
          rfl
    · cases h
theorem run_ser : ∀ (bs : List Nat) (s s' : St) (i : Nat) (pre : List Nat), (∀ b ∈ bs, b < 256) → Good s → Num s → Ser s pre → run s i bs = .inr s' → Good s' ∧ Num s' ∧ Ser s' (pre ++ bs)
  | [], s, s', i, pre, _, G, N, S, h => by
    cases h
    rw [List.append_nil]
    exact ⟨G, N, S⟩
  | c :: bs, s, s', i, pre, hb, G, N, S, h => by
    rw [run] at h
    cases ht : tk s c with
    | none => rw [ht] at h; cases h
    | some t =>
      rw [ht] at h
      have hc := hb c (by simp)
      have k := took G N hc ht
      have := run_ser bs t s' (i + 1) (pre ++ [c]) (fun b hm => hb b (by simp [hm])) k.1 k.2 (S.step G N hc ht) h
      rw [List.append_assoc] at this
      exact this
theorem verd_of {s : St} (G : Good s) (h : s.nx = 16) : verd (s.em : Int) s.gs s.ps = 0 := by
  have h1 := G.em (by omega)
  have h2 := G.ng (by omega)
  have h3 := G.ge (by omega)
  have h4 := G.np (by omega)
  have h5 := G.pe (by omega)
  unfold verd
  rw [if_neg (by omega), if_neg (by omega), if_neg (by rw [G.ok]; decide), if_neg (by rw [G.pok]; decide)]
/-- what is read is a font's bytes -/
theorem run_back {bs : List Nat} {s : St} (hb : ∀ b ∈ bs, b < 256) (h : run st0 0 bs = .inr s) (h16 : s.nx = 16) : bs = fontB (s.em : Int) s.gs s.ps ∧ verd (s.em : Int) s.gs s.ps = 0 := by
  obtain ⟨G, N, S⟩ := run_ser bs st0 s 0 [] hb good0.1 good0.2 ser0 h
  refine ⟨?_, verd_of G h16⟩
  have hbs : s.bs = 0 := by
    have := N.b
    rw [h16] at this
    simp only [sz] at this
    omega
  have ha := S.a
  rw [hbs, List.nil_append, be, List.append_nil] at ha
  have hd : done s = (hdr s.em s.ng s.gs ++ (be 2 s.np ++ s.ps.flatMap pb)) ++ be 4 s.sm := by unfold done; rw [h16]; rfl
  have hbody : hdr s.em s.ng s.gs ++ (be 2 s.np ++ s.ps.flatMap pb) = body (s.em : Int) s.gs s.ps := by
    unfold hdr body
    rw [Int.toNat_natCast, G.ge (by omega), G.pe (by omega)]
    simp only [List.append_assoc]
  rw [ha, hd, S.c (by omega), hbody]
  rfl
end Go.Proofs.Ytdinlaoimpoolaa
