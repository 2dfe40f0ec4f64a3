/- Reading what was written: byte by byte there, and back. -/
import Derived.Test.YtdinlaoimpoolaaKept
import Derived.Test.YtdinlaoimpoolaaPuts
namespace Go.Proofs.Ytdinlaoimpoolaa
open Go.RowKit

/-- reading without a meter -/
def run (s : St) (i : Nat) : List Nat → (Int × Nat) ⊕ St
  | [] => .inr s
  | c :: cs => match tk s c with
    | none => .inl (bad s, i)
    | some s' => run s' (i + 1) cs
theorem run_append : ∀ (a b : List Nat) (s : St) (i : Nat), run s i (a ++ b) = (match run s i a with
    | .inl x => .inl x
    | .inr s' => run s' (i + a.length) b)
  | [], b, s, i => by simp [run]
  | c :: a, b, s, i => by
    rw [List.cons_append, run, run]
    cases tk s c with
    | none => rfl
    | some s' =>
      simp only []
      rw [run_append a b s' (i + 1), List.length_cons, show i + 1 + a.length = i + (a.length + 1) by omega]
theorem be_mod : ∀ (k n : Nat), be k (n % 256 ^ k) = be k n := by
  intro k
  have gen : ∀ (j k n : Nat), j ≤ k → be j (n % 256 ^ k) = be j n := by
    intro j
    induction j with
    | zero => intros; rfl
    | succ j ih =>
      intro k n h
      rw [be, be, ih k n (by omega)]
      congr 1
      obtain ⟨d, rfl⟩ : ∃ d, k = j + 1 + d := ⟨k - (j + 1), by omega⟩
      rw [Nat.pow_add, Nat.pow_succ, Nat.mul_assoc, Nat.mod_mul_right_div_self, Nat.mod_mul_right_mod]
  exact fun n => gen k k n (Nat.le_refl _)
theorem be_snoc (c : Nat) (hc : c < 256) : ∀ (k n : Nat), be (k + 1) (n * 256 + c) = be k n ++ [c]
  | 0, n => by
    simp only [be, Nat.pow_zero, Nat.div_one, List.nil_append]
    congr 1
    omega
  | k + 1, n => by
    rw [be, be_snoc c hc k n, be]
    have : (n * 256 + c) / 256 ^ (k + 1) = n / 256 ^ k := by
      rw [Nat.pow_succ, Nat.mul_comm (256 ^ k) 256, ← Nat.div_div_eq_div_mul]
      congr 1
      omega
    rw [this]
    rfl
theorem sumF_one (s c : Nat) : sumF s [c] = wit s c := by unfold sumF; rw [List.foldl_cons, List.foldl_nil]
theorem sumF_cons (s c : Nat) (l : List Nat) : sumF s (c :: l) = sumF (wit s c) l := by unfold sumF; rw [List.foldl_cons]
/-- a state behind so many bytes of one number -/
def read (s : St) (k n : Nat) : St := { s with nu := s.nu * 256 ^ k + n, bs := s.bs + k, sm := if s.nx = 15 then s.sm else sumF s.sm (be k n) }
theorem read_one (s : St) (n : Nat) (hn : n < 256) : read s 1 n = one s n := by
  have e : be 1 n = [n] := by
    simp only [be, Nat.pow_zero, Nat.div_one]
    congr 1
    omega
  unfold read one
  rw [e, sumF_one, Nat.pow_one]
theorem read_more (s : St) (j n : Nat) (hn : n < 256 ^ (j + 2)) : read (one s (n / 256 ^ (j + 1))) (j + 1) (n % 256 ^ (j + 1)) = read s (j + 2) n := by
  have hc : n / 256 ^ (j + 1) < 256 := Nat.div_lt_of_lt_mul (by rw [← Nat.pow_succ]; exact hn)
  unfold read one
  simp only
  have e1 : (s.nu * 256 + n / 256 ^ (j + 1)) * 256 ^ (j + 1) + n % 256 ^ (j + 1) = s.nu * 256 ^ (j + 2) + n := by
    have := Nat.div_add_mod n (256 ^ (j + 1))
    rw [Nat.add_mul, Nat.pow_succ 256 (j + 1), Nat.mul_comm (256 ^ (j + 1)) 256, Nat.mul_assoc, Nat.mul_comm (n / 256 ^ (j + 1))]
    omega
  have e2 : s.bs + 1 + (j + 1) = s.bs + (j + 2) := by omega
  rw [e1, e2, be_mod]
  by_cases h15 : s.nx = 15
  · rw [if_pos h15, if_pos h15, if_pos h15]
  · rw [if_neg h15, if_neg h15, if_neg h15, show be (j + 2) n = n / 256 ^ (j + 1) % 256 :: be (j + 1) n from rfl, Nat.mod_eq_of_lt hc, sumF_cons]
theorem bad_one (s : St) (c : Nat) : bad (one s c) = bad s := rfl
theorem run_be (rest : List Nat) : ∀ (j n : Nat) (s : St) (i : Nat), s.bs + (j + 1) = sz s.nx → n < 256 ^ (j + 1) →
    run s i (be (j + 1) n ++ rest) = (if fits (read s (j + 1) n) (read s (j + 1) n).nu = true then run (nxt (read s (j + 1) n)) (i + (j + 1)) rest else .inl (bad s, i + j))
  | 0, n, s, i, hb, hn => by
    have hn' : n < 256 := hn
    have e : be 1 n = [n] := by
      simp only [be, Nat.pow_zero, Nat.div_one]
      congr 1
      omega
    rw [show (0 : Nat) + 1 = 1 from rfl, read_one s n hn', e, List.cons_append, List.nil_append, run]
    have h1 : ¬ s.bs + 1 < sz s.nx := by omega
    by_cases hf : fits (one s n) (one s n).nu = true
    · have ht : tk s n = some (nxt (one s n)) := by unfold tk; rw [if_neg h1, if_pos hf]
      rw [ht, if_pos hf]
    · have ht : tk s n = none := by unfold tk; rw [if_neg h1, if_neg hf]
      rw [ht, if_neg hf]
      rfl
  | j + 1, n, s, i, hb, hn => by
    have hc : n / 256 ^ (j + 1) < 256 := Nat.div_lt_of_lt_mul (by rw [← Nat.pow_succ]; exact hn)
    have h1 : s.bs + 1 < sz s.nx := by omega
    have ht : tk s (n / 256 ^ (j + 1)) = some (one s (n / 256 ^ (j + 1))) := by unfold tk; rw [if_pos h1]
    rw [show be (j + 1 + 1) n = n / 256 ^ (j + 1) % 256 :: be (j + 1) n from rfl, Nat.mod_eq_of_lt hc, List.cons_append, run, ht]
    simp only []
    have hm : n % 256 ^ (j + 1) < 256 ^ (j + 1) := Nat.mod_lt _ (Nat.pow_pos (by decide))
    have ih := run_be rest j (n % 256 ^ (j + 1)) (one s (n / 256 ^ (j + 1))) (i + 1) (by show s.bs + 1 + (j + 1) = sz s.nx; omega) hm
    rw [be_mod, read_more s j n hn, bad_one] at ih
    rw [ih, show i + 1 + (j + 1) = i + (j + 1 + 1) by omega, show i + 1 + j = i + (j + 1) by omega]

/-- from this state on these bytes lead to that one -/
def Goes (s : St) (bs : List Nat) (s' : St) : Prop := ∀ (i : Nat) (rest : List Nat), run s i (bs ++ rest) = run s' (i + bs.length) rest
theorem Goes.trans {s t u : St} {a b : List Nat} (h : Goes s a t) (k : Goes t b u) : Goes s (a ++ b) u := fun i rest => by
  rw [List.append_assoc, h, k, List.length_append, Nat.add_assoc]
theorem Goes.nil (s : St) : Goes s [] s := fun _ _ => rfl
theorem Goes.run {s t : St} {a : List Nat} (h : Goes s a t) (i : Nat) : run s i a = .inr t := by
  have := h i []
  rw [List.append_nil] at this
  rw [this]; rfl
theorem goes_num (nx sm em : Nat) (gs : List Gl) (ps : List Pr) (ng np : Nat) (g : Gl) (p : Pr) (k n : Nat) (hk : sz nx = k + 1) (hn : n < 256 ^ (k + 1)) (h15 : nx ≠ 15)
    (hf : fits ⟨nx, n, k + 1, sumF sm (be (k + 1) n), em, gs, ps, ng, np, g, p⟩ n = true) :
    Goes ⟨nx, 0, 0, sm, em, gs, ps, ng, np, g, p⟩ (be (k + 1) n) (nxt ⟨nx, n, k + 1, sumF sm (be (k + 1) n), em, gs, ps, ng, np, g, p⟩) := fun i rest => by
  have h := run_be rest k n ⟨nx, 0, 0, sm, em, gs, ps, ng, np, g, p⟩ i (by show 0 + (k + 1) = sz nx; omega) hn
  have e : read ⟨nx, 0, 0, sm, em, gs, ps, ng, np, g, p⟩ (k + 1) n = ⟨nx, n, k + 1, sumF sm (be (k + 1) n), em, gs, ps, ng, np, g, p⟩ := by
    unfold read
    simp only [Nat.zero_mul, Nat.zero_add, if_neg h15]
  rw [e] at h
  rw [h, if_pos hf, be_len]
theorem sumF_app (s : Nat) (a b : List Nat) : sumF s (a ++ b) = sumF (sumF s a) b := by unfold sumF; rw [List.foldl_append]
theorem toN {x : Int} (h : 0 ≤ x) : ((x.toNat : Nat) : Int) = x := Int.toNat_of_nonneg h
/-- a glyph -/
theorem goes_glyph (sm em : Nat) (gs : List Gl) (ps : List Pr) (ng np : Nat) (g0 : Gl) (p : Pr) (g : Gl) (hw : widthI g.1 ≠ 0) (ha : (aheadG gs).1 < g.1) (hu : units g = true) :
    Goes ⟨5, 0, 0, sm, em, gs, ps, ng, np, g0, p⟩ (gb g) ⟨if (gs ++ [g]).length < ng then 5 else 9, 0, 0, sumF sm (gb g), em, gs ++ [g], ps, ng, np, g, p⟩ := by
  obtain ⟨r, w, h, d⟩ := g
  simp only at hw ha
  simp only [units, inU, Bool.and_eq_true, decide_eq_true_eq] at hu
  obtain ⟨⟨w0, w1⟩, ⟨h0, h1⟩, ⟨d0, d1⟩⟩ := hu
  obtain ⟨r0, r1⟩ := width_fit hw
  obtain ⟨r, rfl⟩ : ∃ n : Nat, r = (n : Int) := ⟨r.toNat, (toN r0).symm⟩
  obtain ⟨w, rfl⟩ : ∃ n : Nat, w = (n : Int) := ⟨w.toNat, (toN w0).symm⟩
  obtain ⟨h, rfl⟩ : ∃ n : Nat, h = (n : Int) := ⟨h.toNat, (toN h0).symm⟩
  obtain ⟨d, rfl⟩ : ∃ n : Nat, d = (n : Int) := ⟨d.toNat, (toN d0).symm⟩
  simp only [gb, Int.toNat_natCast]
  rw [sumF_app, sumF_app, sumF_app]
  have s1 := goes_num 5 sm em gs ps ng np g0 p 2 r rfl (by omega) (by decide) (by simp [fits, hw, ha])
  have s2 := goes_num 6 (sumF sm (be 3 r)) em gs ps ng np ((r : Int), 0, 0, 0) p 1 w rfl (by omega) (by decide) (by simp [fits]; omega)
  have s3 := goes_num 7 (sumF (sumF sm (be 3 r)) (be 2 w)) em gs ps ng np ((r : Int), (w : Int), 0, 0) p 1 h rfl (by omega) (by decide) (by simp [fits]; omega)
  have s4 := goes_num 8 (sumF (sumF (sumF sm (be 3 r)) (be 2 w)) (be 2 h)) em gs ps ng np ((r : Int), (w : Int), (h : Int), 0) p 1 d rfl (by omega) (by decide) (by simp [fits]; omega)
  exact s1.trans (s2.trans (s3.trans s4))
theorem goes_glyphs (em : Nat) (ps : List Pr) (ng np : Nat) (p : Pr) : ∀ (gs' gs : List Gl) (sm : Nat) (g0 : Gl), gs.length + gs'.length = ng → glOK (-1) (gs ++ gs') = true →
    ∃ g1, Goes ⟨if gs.length < ng then 5 else 9, 0, 0, sm, em, gs, ps, ng, np, g0, p⟩ (gs'.flatMap gb) ⟨9, 0, 0, sumF sm (gs'.flatMap gb), em, gs ++ gs', ps, ng, np, g1, p⟩
  | [], gs, sm, g0, hl, hk => by
    refine ⟨g0, ?_⟩
    simp only [List.length_nil] at hl
    rw [if_neg (by omega), List.append_nil]
    exact Goes.nil _
  | g :: gs', gs, sm, g0, hl, hk => by
    rw [List.length_cons] at hl
    have e : gs ++ g :: gs' = (gs ++ [g]) ++ gs' := by simp
    have hk2 : glOK (-1) (gs ++ [g]) = true := by
      have : ∀ (a : Int) (xs ys : List Gl), glOK a (xs ++ ys) = true → glOK a xs = true := by
        intro a xs
        induction xs generalizing a with
        | nil => intros; rfl
        | cons x xs ih =>
          intro ys h
          simp only [List.cons_append, glOK, Bool.and_eq_true] at h ⊢
          exact ⟨h.1, ih _ _ h.2⟩
      exact this _ _ gs' (by rw [← e]; exact hk)
    rw [glOK_snoc, ahead_last, Bool.and_eq_true] at hk2
    have hok := hk2.2
    simp only [okG, Bool.and_eq_true, decide_eq_true_eq] at hok
    have s1 := goes_glyph sm em gs ps ng np g0 p g hok.1 hok.2.1 hok.2.2
    obtain ⟨g1, s2⟩ := goes_glyphs em ps ng np p gs' (gs ++ [g]) (sumF sm (gb g)) g (by rw [List.length_append, List.length_singleton]; omega) (by rw [← e]; exact hk)
    refine ⟨g1, ?_⟩
    rw [if_pos (by omega), List.flatMap_cons, sumF_app, e]
    exact s1.trans s2
end Go.Proofs.Ytdinlaoimpoolaa
namespace Go.Proofs.Ytdinlaoimpoolaa
open Go.RowKit

/-- a pair -/
theorem goes_pair (sm em : Nat) (gs : List Gl) (ps : List Pr) (ng np : Nat) (g : Gl) (p0 q : Pr) (hg : ∀ g ∈ gs, widthI g.1 ≠ 0 ∧ units g = true) (hk : pairOK gs q = true) (h1 : (aheadP ps).1 ≤ q.1) (h2 : (aheadP ps).1 < q.1 ∨ (aheadP ps).2.1 < q.2.1) :
    Goes ⟨10, 0, 0, sm, em, gs, ps, ng, np, g, p0⟩ (pb q) ⟨if (ps ++ [q]).length < np then 10 else 15, 0, 0, sumF sm (pb q), em, gs, ps ++ [q], ng, np, g, q⟩ := by
  obtain ⟨l, r, is, lig, kern⟩ := q
  simp only [pairOK, Bool.and_eq_true] at hk
  simp only at h1 h2
  obtain ⟨k1, k2, k3⟩ := hk
  obtain ⟨l0, l1⟩ := has_fit hg k1
  obtain ⟨r0, r1⟩ := has_fit hg k2
  obtain ⟨l, rfl⟩ : ∃ n : Nat, l = (n : Int) := ⟨l.toNat, (toN l0).symm⟩
  obtain ⟨r, rfl⟩ : ∃ n : Nat, r = (n : Int) := ⟨r.toNat, (toN r0).symm⟩
  have s1 := goes_num 10 sm em gs ps ng np g p0 2 l rfl (by omega) (by decide) (by simp [fits, k1, h1])
  have s2 := goes_num 11 (sumF sm (be 3 l)) em gs ps ng np g ((l : Int), 0, false, 0, 0) 2 r rfl (by omega) (by decide) (by simp [fits, k2, h2])
  cases is with
  | true =>
    simp only [if_true, Bool.and_eq_true, decide_eq_true_eq] at k3
    obtain ⟨k3, rfl⟩ := k3
    obtain ⟨g0, g1⟩ := has_fit hg k3
    obtain ⟨lig, rfl⟩ : ∃ n : Nat, lig = (n : Int) := ⟨lig.toNat, (toN g0).symm⟩
    simp only [pb, Int.toNat_natCast, if_true]
    rw [sumF_app, sumF_app, sumF_app]
    have s3 := goes_num 12 (sumF (sumF sm (be 3 l)) (be 3 r)) em gs ps ng np g ((l : Int), (r : Int), false, 0, 0) 0 1 rfl (by decide) (by decide) (by simp [fits])
    have s4 := goes_num 13 (sumF (sumF (sumF sm (be 3 l)) (be 3 r)) (be 1 1)) em gs ps ng np g ((l : Int), (r : Int), true, 0, 0) 2 lig rfl (by omega) (by decide) (by simp [fits, k3])
    exact s1.trans (s2.trans (s3.trans s4))
  | false =>
    simp only [Bool.false_eq_true, if_false, Bool.and_eq_true, decide_eq_true_eq, kernOK] at k3
    obtain ⟨rfl, k4, k5, k6⟩ := k3
    have w1 := wide_of (gs := gs) (fun g hm => (hg g hm).2) (l : Int)
    have w2 := wide_of (gs := gs) (fun g hm => (hg g hm).2) (r : Int)
    obtain ⟨n, hn⟩ : ∃ n : Nat, kern + 32768 = (n : Int) := ⟨(kern + 32768).toNat, (toN (by omega)).symm⟩
    have hkn : (n : Int) - 32768 = kern := by omega
    simp only [pb, Int.toNat_natCast, Bool.false_eq_true, if_false]
    rw [hn, Int.toNat_natCast, sumF_app, sumF_app, sumF_app]
    have s3 := goes_num 12 (sumF (sumF sm (be 3 l)) (be 3 r)) em gs ps ng np g ((l : Int), (r : Int), false, 0, 0) 0 2 rfl (by decide) (by decide) (by simp [fits])
    have s4 := goes_num 14 (sumF (sumF (sumF sm (be 3 l)) (be 3 r)) (be 1 2)) em gs ps ng np g ((l : Int), (r : Int), false, 0, 0) 1 n rfl (by omega) (by decide) (by
      simp only [fits, mayK, hkn]
      rw [decide_eq_true k4, decide_eq_true k6, decide_eq_true k5]; rfl)
    have e : nxt ⟨14, n, 2, sumF (sumF (sumF (sumF sm (be 3 l)) (be 3 r)) (be 1 2)) (be 2 n), em, gs, ps, ng, np, g, ((l : Int), (r : Int), false, 0, 0)⟩ = ⟨if (ps ++ [((l : Int), (r : Int), false, (0 : Int), kern)]).length < np then 10 else 15, 0, 0, sumF (sumF (sumF (sumF sm (be 3 l)) (be 3 r)) (be 1 2)) (be 2 n), em, gs, ps ++ [((l : Int), (r : Int), false, 0, kern)], ng, np, g, ((l : Int), (r : Int), false, 0, kern)⟩ := by
      rw [← hkn]; rfl
    rw [e] at s4
    exact s1.trans (s2.trans (s3.trans s4))
theorem prOK_take {gl : List Gl} : ∀ {xs ys : List Pr} {q : Option Pr}, prOK gl q (xs ++ ys) = true → prOK gl q xs = true
  | [], _, _, _ => rfl
  | x :: xs, ys, q, h => by
    simp only [List.cons_append, prOK, Bool.and_eq_true] at h ⊢
    exact ⟨h.1, prOK_take h.2⟩
theorem goes_pairs (em : Nat) (gs : List Gl) (ng np : Nat) (g : Gl) (hg : ∀ g ∈ gs, widthI g.1 ≠ 0 ∧ units g = true) : ∀ (ps' ps : List Pr) (sm : Nat) (p0 : Pr), ps.length + ps'.length = np → prOK gs none (ps ++ ps') = true →
    ∃ p1, Goes ⟨if ps.length < np then 10 else 15, 0, 0, sm, em, gs, ps, ng, np, g, p0⟩ (ps'.flatMap pb) ⟨15, 0, 0, sumF sm (ps'.flatMap pb), em, gs, ps ++ ps', ng, np, g, p1⟩
  | [], ps, sm, p0, hl, hk => by
    refine ⟨p0, ?_⟩
    simp only [List.length_nil] at hl
    rw [if_neg (by omega), List.append_nil]
    exact Goes.nil _
  | q :: ps', ps, sm, p0, hl, hk => by
    rw [List.length_cons] at hl
    have e : ps ++ q :: ps' = (ps ++ [q]) ++ ps' := by simp
    have hk2 : prOK gs none (ps ++ [q]) = true := prOK_take (by rw [← e]; exact hk)
    rw [prOK_snoc, Bool.and_eq_true] at hk2
    have hok := hk2.2
    simp only [okP, Bool.and_eq_true] at hok
    obtain ⟨o1, o2⟩ := hok
    have hq0 : 0 ≤ q.1 := by
      have := o1
      simp only [pairOK, Bool.and_eq_true] at this
      exact (has_fit hg this.1).1
    have ha : (aheadP ps).1 ≤ q.1 ∧ ((aheadP ps).1 < q.1 ∨ (aheadP ps).2.1 < q.2.1) := by
      unfold aheadP
      cases hl2 : ps.getLast? with
      | none => exact ⟨by show (-1 : Int) ≤ q.1; omega, .inl (by show (-1 : Int) < q.1; omega)⟩
      | some x =>
        rw [hl2] at o2
        have := (ord_lt x q).1 (by simpa using o2)
        unfold ltP at this
        simp only [Option.getD_some]
        omega
    have s1 := goes_pair sm em gs ps ng np g p0 q hg o1 ha.1 ha.2
    obtain ⟨p1, s2⟩ := goes_pairs em gs ng np g hg ps' (ps ++ [q]) (sumF sm (pb q)) q (by rw [List.length_append, List.length_singleton]; omega) (by rw [← e]; exact hk)
    refine ⟨p1, ?_⟩
    rw [if_pos (by omega), List.flatMap_cons, sumF_app, e]
    exact s1.trans s2
/-- a font's bytes are read as the font -/
theorem run_font {em : Int} {gs : List Gl} {ps : List Pr} (hv : verd em gs ps = 0) : ∃ st, run st0 0 (fontB em gs ps) = .inr st ∧ st.nx = 16 ∧ (st.em : Int) = em ∧ st.gs = gs ∧ st.ps = ps := by
  obtain ⟨he, hgl, hpl, hgk, hpk⟩ := verd_zero hv
  have hg := gl_all hgk
  obtain ⟨em, rfl⟩ : ∃ n : Nat, em = (n : Int) := ⟨em.toNat, (toN (by omega)).symm⟩
  have s1 := goes_num 0 2166136261 0 [] [] 0 0 (0, 0, 0, 0) (0, 0, false, 0, 0) 0 80 rfl (by decide) (by decide) (by simp [fits])
  have s2 := goes_num 1 (sumF 2166136261 (be 1 80)) 0 [] [] 0 0 (0, 0, 0, 0) (0, 0, false, 0, 0) 0 70 rfl (by decide) (by decide) (by simp [fits])
  have s3 := goes_num 2 (sumF (sumF 2166136261 (be 1 80)) (be 1 70)) 0 [] [] 0 0 (0, 0, 0, 0) (0, 0, false, 0, 0) 0 49 rfl (by decide) (by decide) (by simp [fits])
  have s4 := goes_num 3 (sumF (sumF (sumF 2166136261 (be 1 80)) (be 1 70)) (be 1 49)) 0 [] [] 0 0 (0, 0, 0, 0) (0, 0, false, 0, 0) 1 em rfl (by omega) (by decide) (by simp [fits]; omega)
  have s5 := goes_num 4 (sumF (sumF (sumF (sumF 2166136261 (be 1 80)) (be 1 70)) (be 1 49)) (be 2 em)) em [] [] 0 0 (0, 0, 0, 0) (0, 0, false, 0, 0) 1 gs.length rfl (by omega) (by decide) (by simp [fits]; omega)
  obtain ⟨g1, s6⟩ := goes_glyphs em [] gs.length 0 (0, 0, false, 0, 0) gs [] (sumF (sumF (sumF (sumF (sumF 2166136261 (be 1 80)) (be 1 70)) (be 1 49)) (be 2 em)) (be 2 gs.length)) (0, 0, 0, 0) (by simp) hgk
  have s7 := goes_num 9 (sumF (sumF (sumF (sumF (sumF (sumF 2166136261 (be 1 80)) (be 1 70)) (be 1 49)) (be 2 em)) (be 2 gs.length)) (gs.flatMap gb)) em ([] ++ gs) [] gs.length 0 g1 (0, 0, false, 0, 0) 1 ps.length rfl (by omega) (by decide) (by simp [fits]; omega)
  obtain ⟨p1, s8⟩ := goes_pairs em ([] ++ gs) gs.length ps.length g1 (by simpa using hg) ps [] (sumF (sumF (sumF (sumF (sumF (sumF (sumF 2166136261 (be 1 80)) (be 1 70)) (be 1 49)) (be 2 em)) (be 2 gs.length)) (gs.flatMap gb)) (be 2 ps.length)) (0, 0, false, 0, 0) (by simp) (by simpa using hpk)
  have all := s1.trans (s2.trans (s3.trans (s4.trans (s5.trans (s6.trans (s7.trans s8))))))
  have eb : be 1 80 ++ (be 1 70 ++ (be 1 49 ++ (be 2 em ++ (be 2 gs.length ++ (gs.flatMap gb ++ (be 2 ps.length ++ ps.flatMap pb)))))) = body (em : Int) gs ps := by
    unfold body PF
    rw [Int.toNat_natCast]
    rfl
  have es : sumF (sumF (sumF (sumF (sumF (sumF (sumF (sumF 2166136261 (be 1 80)) (be 1 70)) (be 1 49)) (be 2 em)) (be 2 gs.length)) (gs.flatMap gb)) (be 2 ps.length)) (ps.flatMap pb) = sumB (body (em : Int) gs ps) := by
    unfold sumB
    rw [← eb]
    simp only [sumF_app]
  have eb' : be (0 + 1) 80 ++ (be (0 + 1) 70 ++ (be (0 + 1) 49 ++ (be (1 + 1) em ++ (be (1 + 1) gs.length ++ (gs.flatMap gb ++ (be (1 + 1) ps.length ++ ps.flatMap pb)))))) = body (em : Int) gs ps := eb
  rw [eb', es] at all
  have hSl := sumB_lt (body (em : Int) gs ps)
  unfold fontB
  obtain ⟨S, hS⟩ : ∃ S, sumB (body (em : Int) gs ps) = S := ⟨_, rfl⟩
  rw [hS] at all hSl ⊢
  have hlast := run_be [] 3 S ⟨15, 0, 0, S, em, [] ++ gs, [] ++ ps, gs.length, ps.length, g1, p1⟩ (0 + (body (em : Int) gs ps).length) rfl hSl
  rw [List.append_nil] at hlast
  have er : read ⟨15, 0, 0, S, em, [] ++ gs, [] ++ ps, gs.length, ps.length, g1, p1⟩ (3 + 1) S = ⟨15, S, 4, S, em, [] ++ gs, [] ++ ps, gs.length, ps.length, g1, p1⟩ := by
    unfold read
    simp only [Nat.zero_mul, Nat.zero_add, if_true]
  have en : nxt ⟨15, S, 4, S, em, [] ++ gs, [] ++ ps, gs.length, ps.length, g1, p1⟩ = ⟨16, 0, 0, S, em, [] ++ gs, [] ++ ps, gs.length, ps.length, g1, p1⟩ := rfl
  rw [er, if_pos (by simp [fits]), en, run] at hlast
  have ha := all 0 (be 4 S)
  exact ⟨⟨16, 0, 0, S, em, [] ++ gs, [] ++ ps, gs.length, ps.length, g1, p1⟩, ha.trans hlast, rfl, rfl, List.nil_append _, List.nil_append _⟩
end Go.Proofs.Ytdinlaoimpoolaa
namespace Go.Proofs.Ytdinlaoimpoolaa
open Go.RowKit

def hdr (em ng : Nat) (gs : List Gl) : List Nat := PF ++ (be 2 em ++ (be 2 ng ++ gs.flatMap gb))
/-- the bytes of the parts that are read -/
def done (s : St) : List Nat := match s.nx with
  | 0 => []
  | 1 => [80]
  | 2 => [80, 70]
  | 3 => PF
  | 4 => PF ++ be 2 s.em
  | 5 => hdr s.em s.ng s.gs
  | 6 => hdr s.em s.ng s.gs ++ be 3 s.g.1.toNat
  | 7 => hdr s.em s.ng s.gs ++ (be 3 s.g.1.toNat ++ be 2 s.g.2.1.toNat)
  | 8 => hdr s.em s.ng s.gs ++ (be 3 s.g.1.toNat ++ (be 2 s.g.2.1.toNat ++ be 2 s.g.2.2.1.toNat))
  | 9 => hdr s.em s.ng s.gs
  | 10 => hdr s.em s.ng s.gs ++ (be 2 s.np ++ s.ps.flatMap pb)
  | 11 => hdr s.em s.ng s.gs ++ (be 2 s.np ++ (s.ps.flatMap pb ++ be 3 s.p.1.toNat))
  | 12 => hdr s.em s.ng s.gs ++ (be 2 s.np ++ (s.ps.flatMap pb ++ (be 3 s.p.1.toNat ++ be 3 s.p.2.1.toNat)))
  | 13 => hdr s.em s.ng s.gs ++ (be 2 s.np ++ (s.ps.flatMap pb ++ (be 3 s.p.1.toNat ++ (be 3 s.p.2.1.toNat ++ be 1 1))))
  | 14 => hdr s.em s.ng s.gs ++ (be 2 s.np ++ (s.ps.flatMap pb ++ (be 3 s.p.1.toNat ++ (be 3 s.p.2.1.toNat ++ be 1 2))))
  | 15 => hdr s.em s.ng s.gs ++ (be 2 s.np ++ s.ps.flatMap pb)
  | _ => (hdr s.em s.ng s.gs ++ (be 2 s.np ++ s.ps.flatMap pb)) ++ be 4 s.sm
theorem flat_snoc {α : Type} (f : α → List Nat) (xs : List α) (x : α) : (xs ++ [x]).flatMap f = xs.flatMap f ++ f x := by simp
theorem done_settle {s : St} (G : Good s) {n : Nat} (hf : fits s n = true) : done { put s n with nx := after (put s n), nu := 0, bs := 0 } = done s ++ be (sz s.nx) n := by
  obtain ⟨a1, a2, a3, a4, a5, a6, a7, a8, a9, b1, b2, b3, b4, b5, b6, b7, b8, b9, c1, c2, c3⟩ := G
  obtain ⟨nx, nu, bs, sm, em, gs, ps, ng, np, g, p⟩ := s
  simp only at a1 a4 b3 c1 c2 c3
  clear a2 a3 a5 a6 a7 a8 a9 b1 b2 b4 b5 b6 b7 b8 b9
  have hc : nx = 0 ∨ nx = 1 ∨ nx = 2 ∨ nx = 3 ∨ nx = 4 ∨ nx = 5 ∨ nx = 6 ∨ nx = 7 ∨ nx = 8 ∨ nx = 9 ∨ nx = 10 ∨ nx = 11 ∨ nx = 12 ∨ nx = 13 ∨ nx = 14 ∨ nx = 15 ∨ nx = 16 := by omega
  rcases hc with rfl | rfl | rfl | rfl | rfl | rfl | rfl | rfl | rfl | rfl | rfl | rfl | rfl | rfl | rfl | rfl | rfl
  · have e : n = 80 := by simpa [fits] using hf
    subst e; rfl
  · have e : n = 70 := by simpa [fits] using hf
    subst e; rfl
  · have e : n = 49 := by simpa [fits] using hf
    subst e; rfl
  · rfl
  · have e := a4 (by decide)
    subst e
    have h : hdr em n [] = (PF ++ be 2 em) ++ be 2 n := by simp [hdr]
    by_cases hs : ([] : List Gl).length < n
    · rw [show after (put ⟨4, nu, bs, sm, em, [], ps, ng, np, g, p⟩ n) = 5 from if_pos hs]; exact h
    · rw [show after (put ⟨4, nu, bs, sm, em, [], ps, ng, np, g, p⟩ n) = 9 from if_neg hs]; exact h
  · rfl
  · show hdr em ng gs ++ (be 3 g.1.toNat ++ be 2 n) = (hdr em ng gs ++ be 3 g.1.toNat) ++ be 2 n
    rw [List.append_assoc]
  · show hdr em ng gs ++ (be 3 g.1.toNat ++ (be 2 g.2.1.toNat ++ be 2 n)) = (hdr em ng gs ++ (be 3 g.1.toNat ++ be 2 g.2.1.toNat)) ++ be 2 n
    simp only [List.append_assoc]
  · have h : hdr em ng (gs ++ [(g.1, g.2.1, g.2.2.1, (n : Int))]) = (hdr em ng gs ++ (be 3 g.1.toNat ++ (be 2 g.2.1.toNat ++ be 2 g.2.2.1.toNat))) ++ be 2 n := by
      unfold hdr
      rw [flat_snoc]
      simp only [gb, Int.toNat_natCast, List.append_assoc]
    by_cases hs : (gs ++ [(g.1, g.2.1, g.2.2.1, (n : Int))]).length < ng
    · rw [show after (put ⟨8, nu, bs, sm, em, gs, ps, ng, np, g, p⟩ n) = 5 from if_pos hs]; exact h
    · rw [show after (put ⟨8, nu, bs, sm, em, gs, ps, ng, np, g, p⟩ n) = 9 from if_neg hs]; exact h
  · have e := b3 (by decide)
    subst e
    have h : hdr em ng gs ++ (be 2 n ++ ([] : List Pr).flatMap pb) = hdr em ng gs ++ be 2 n := by simp
    by_cases hs : ([] : List Pr).length < n
    · rw [show after (put ⟨9, nu, bs, sm, em, gs, [], ng, np, g, p⟩ n) = 10 from if_pos hs]; exact h
    · rw [show after (put ⟨9, nu, bs, sm, em, gs, [], ng, np, g, p⟩ n) = 15 from if_neg hs]; exact h
  · show hdr em ng gs ++ (be 2 np ++ (ps.flatMap pb ++ be 3 n)) = (hdr em ng gs ++ (be 2 np ++ ps.flatMap pb)) ++ be 3 n
    simp only [List.append_assoc]
  · show hdr em ng gs ++ (be 2 np ++ (ps.flatMap pb ++ (be 3 p.1.toNat ++ be 3 n))) = (hdr em ng gs ++ (be 2 np ++ (ps.flatMap pb ++ be 3 p.1.toNat))) ++ be 3 n
    simp only [List.append_assoc]
  · have e : n = 1 ∨ n = 2 := by simpa [fits] using hf
    rcases e with rfl | rfl
    · show hdr em ng gs ++ (be 2 np ++ (ps.flatMap pb ++ (be 3 p.1.toNat ++ (be 3 p.2.1.toNat ++ be 1 1)))) = (hdr em ng gs ++ (be 2 np ++ (ps.flatMap pb ++ (be 3 p.1.toNat ++ be 3 p.2.1.toNat)))) ++ be 1 1
      simp only [List.append_assoc]
    · show hdr em ng gs ++ (be 2 np ++ (ps.flatMap pb ++ (be 3 p.1.toNat ++ (be 3 p.2.1.toNat ++ be 1 2)))) = (hdr em ng gs ++ (be 2 np ++ (ps.flatMap pb ++ (be 3 p.1.toNat ++ be 3 p.2.1.toNat)))) ++ be 1 2
      simp only [List.append_assoc]
  · have c := c2 rfl
    have h : hdr em ng gs ++ (be 2 np ++ (ps ++ [(p.1, p.2.1, p.2.2.1, (n : Int), p.2.2.2.2)]).flatMap pb) = (hdr em ng gs ++ (be 2 np ++ (ps.flatMap pb ++ (be 3 p.1.toNat ++ (be 3 p.2.1.toNat ++ be 1 1))))) ++ be 3 n := by
      rw [flat_snoc]
      simp only [pb, c, if_true, Int.toNat_natCast, List.append_assoc]
    by_cases hs : (ps ++ [(p.1, p.2.1, p.2.2.1, (n : Int), p.2.2.2.2)]).length < np
    · rw [show after (put ⟨13, nu, bs, sm, em, gs, ps, ng, np, g, p⟩ n) = 10 from if_pos hs]; exact h
    · rw [show after (put ⟨13, nu, bs, sm, em, gs, ps, ng, np, g, p⟩ n) = 15 from if_neg hs]; exact h
  · have c := c3 rfl
    have h : hdr em ng gs ++ (be 2 np ++ (ps ++ [(p.1, p.2.1, p.2.2.1, p.2.2.2.1, (n : Int) - 32768)]).flatMap pb) = (hdr em ng gs ++ (be 2 np ++ (ps.flatMap pb ++ (be 3 p.1.toNat ++ (be 3 p.2.1.toNat ++ be 1 2))))) ++ be 2 n := by
      rw [flat_snoc]
      have e : ((n : Int) - 32768 + 32768).toNat = n := by omega
      simp only [pb, c, Bool.false_eq_true, if_false, e, List.append_assoc]
    by_cases hs : (ps ++ [(p.1, p.2.1, p.2.2.1, p.2.2.2.1, (n : Int) - 32768)]).length < np
    · rw [show after (put ⟨14, nu, bs, sm, em, gs, ps, ng, np, g, p⟩ n) = 10 from if_pos hs]; exact h
    · rw [show after (put ⟨14, nu, bs, sm, em, gs, ps, ng, np, g, p⟩ n) = 15 from if_neg hs]; exact h
  · have e : n = sm := by simpa [fits] using hf
    subst e; rfl
  · exact absurd hf (by simp [fits])

/-- what has been read -/
structure Ser (s : St) (pre : List Nat) : Prop where
  a : pre = done s ++ be s.bs s.nu
  b : s.nx ≤ 14 → s.sm = sumB pre
  c : 15 ≤ s.nx → s.sm = sumB (hdr s.em s.ng s.gs ++ (be 2 s.np ++ s.ps.flatMap pb))
theorem ser0 : Ser st0 [] := ⟨rfl, fun _ => rfl, fun h => absurd h (by decide)⟩
theorem after_15 {s : St} (h : s.nx ≤ 16) (ha : after s = 15) : s.nx = 9 ∨ s.nx = 13 ∨ s.nx = 14 := by
  have hc : s.nx = 0 ∨ s.nx = 1 ∨ s.nx = 2 ∨ s.nx = 3 ∨ s.nx = 4 ∨ s.nx = 5 ∨ s.nx = 6 ∨ s.nx = 7 ∨ s.nx = 8 ∨ s.nx = 9 ∨ s.nx = 10 ∨ s.nx = 11 ∨ s.nx = 12 ∨ s.nx = 13 ∨ s.nx = 14 ∨ s.nx = 15 ∨ s.nx = 16 := by omega
  unfold after at ha
  rcases hc with e | e | e | e | e | e | e | e | e | e | e | e | e | e | e | e | e <;> rw [e] at ha <;> simp only [] at ha <;> (try split at ha) <;> omega
theorem after_16 {s : St} (h : s.nx ≤ 16) (ha : 16 ≤ after s) : s.nx = 15 ∨ s.nx = 16 := by
  have hc : s.nx = 0 ∨ s.nx = 1 ∨ s.nx = 2 ∨ s.nx = 3 ∨ s.nx = 4 ∨ s.nx = 5 ∨ s.nx = 6 ∨ s.nx = 7 ∨ s.nx = 8 ∨ s.nx = 9 ∨ s.nx = 10 ∨ s.nx = 11 ∨ s.nx = 12 ∨ s.nx = 13 ∨ s.nx = 14 ∨ s.nx = 15 ∨ s.nx = 16 := by omega
  unfold after at ha
  rcases hc with e | e | e | e | e | e | e | e | e | e | e | e | e | e | e | e | e <;> rw [e] at ha <;> simp only [] at ha <;> (try split at ha) <;> omega
theorem after_low {s : St} (h : s.nx ≤ 16) (ha : after s ≤ 14) : s.nx ≤ 14 := by
  rcases Nat.lt_or_ge s.nx 15 with q | q
  · omega
  · exfalso
    have : s.nx = 15 ∨ s.nx = 16 := by omega
    unfold after at ha
    rcases this with e | e <;> rw [e] at ha <;> simp only [] at ha <;> omega
theorem fits_16 {s : St} {n : Nat} (h : s.nx = 16) : fits s n = false := by unfold fits; rw [h]; rfl
theorem put_sm (s : St) (n : Nat) : (put s n).sm = s.sm := by unfold put; split <;> rfl
theorem put_same {s : St} {n : Nat} (h : 15 ≤ s.nx) : put s n = s := by
  unfold put
  split <;> first | rfl | omega
theorem done_15 {s : St} (h : s.nx = 15) : done s = hdr s.em s.ng s.gs ++ (be 2 s.np ++ s.ps.flatMap pb) := by unfold done; rw [h]; rfl
theorem put_nx (s : St) (n : Nat) : (put s n).nx = s.nx := by unfold put; split <;> rfl
theorem done_one {s : St} (c : Nat) (h : s.nx ≤ 16) (h16 : s.nx ≠ 16) : done (one s c) = done s := by
  obtain ⟨nx, nu, bs, sm, em, gs, ps, ng, np, g, p⟩ := s
  simp only at h h16
  have hc : nx = 0 ∨ nx = 1 ∨ nx = 2 ∨ nx = 3 ∨ nx = 4 ∨ nx = 5 ∨ nx = 6 ∨ nx = 7 ∨ nx = 8 ∨ nx = 9 ∨ nx = 10 ∨ nx = 11 ∨ nx = 12 ∨ nx = 13 ∨ nx = 14 ∨ nx = 15 := by omega
  rcases hc with rfl | rfl | rfl | rfl | rfl | rfl | rfl | rfl | rfl | rfl | rfl | rfl | rfl | rfl | rfl | rfl <;> simp only [done, one]
theorem Ser.step {s s' : St} {pre : List Nat} {c : Nat} (G : Good s) (N : Num s) (hc : c < 256) (S : Ser s pre) (h : tk s c = some s') : Ser s' (pre ++ [c]) := by
  have hw : ∀ a b, wit a b < 4294967296 := fun a b => Nat.mod_lt _ (by decide)
  unfold tk at h
  split at h
  · rename_i hl
    cases h
    have h16 : s.nx ≠ 16 := by
      intro e
      rw [e] at hl
      simp only [sz] at hl
      omega
    have hd : done (one s c) = done s := done_one c G.n16 h16
    refine ⟨?_, fun hx => ?_, fun hx => ?_⟩
    · rw [hd]
      show pre ++ [c] = done s ++ be (s.bs + 1) (s.nu * 256 + c)
      rw [be_snoc c hc, S.a, List.append_assoc]
    · have hx' : s.nx ≤ 14 := hx
      show (if s.nx = 15 then s.sm else wit s.sm c) = _
      rw [if_neg (by omega), S.b hx']
      exact (sumF_snoc _ _ _).symm
    · have hx' : 15 ≤ s.nx := hx
      have := G.n16
      show (if s.nx = 15 then s.sm else wit s.sm c) = _
      rw [if_pos (by omega)]
      exact S.c hx'
  · split at h
    · rename_i hl hf
      cases h
      have hn := N.b
      have h16 : s.nx ≠ 16 := by
        intro e
        have := fits_16 (s := one s c) (n := (one s c).nu) e
        rw [this] at hf; cases hf
      have G1 : Good (one s c) := G.first c hw
      have hd : done (one s c) = done s := done_one c G.n16 h16
      have hnx : (put (one s c) (one s c).nu).nx = s.nx := put_nx _ _
      have hset := done_settle G1 hf
      have hb : be (sz (one s c).nx) (one s c).nu = be s.bs s.nu ++ [c] := by
        show be (sz s.nx) (s.nu * 256 + c) = _
        rw [show sz s.nx = s.bs + 1 by omega, be_snoc c hc]
      have hpre : pre ++ [c] = done (nxt (one s c)) := by
        refine Eq.trans ?_ hset.symm
        rw [hb, hd, S.a, List.append_assoc]
      have hsm : (nxt (one s c)).sm = (one s c).sm := put_sm _ _
      refine ⟨?_, fun hx => ?_, fun hx => ?_⟩
      · rw [hpre]
        show done (nxt (one s c)) = done (nxt (one s c)) ++ be 0 0
        rw [be, List.append_nil]
      · have hx' : after (put (one s c) (one s c).nu) ≤ 14 := hx
        have := after_low (by rw [hnx]; exact G.n16) hx'
        rw [hnx] at this
        rw [hsm]
        show (if s.nx = 15 then s.sm else wit s.sm c) = _
        rw [if_neg (by omega), S.b this]
        exact (sumF_snoc _ _ _).symm
      · have hx' : 15 ≤ after (put (one s c) (one s c).nu) := hx
        rw [hsm]
        rcases Nat.lt_or_ge (after (put (one s c) (one s c).nu)) 16 with q | q
        · have h15 : after (put (one s c) (one s c).nu) = 15 := by omega
          have h9 := after_15 (by rw [hnx]; exact G.n16) h15
          rw [hnx] at h9
          have hx15 : (nxt (one s c)).nx = 15 := h15
          rw [← done_15 hx15, ← hpre]
          show (if s.nx = 15 then s.sm else wit s.sm c) = _
          rw [if_neg (by omega), S.b (by omega)]
          exact (sumF_snoc _ _ _).symm
        · have h15 := after_16 (by rw [hnx]; exact G.n16) q
          rw [hnx] at h15
          have hx15 : s.nx = 15 := by omega
          have hput : put (one s c) (one s c).nu = one s c := put_same (by show 15 ≤ s.nx; omega)
          have e : (one s c).sm = s.sm := by show (if s.nx = 15 then s.sm else wit s.sm c) = _; rw [if_pos hx15]
          rw [e, S.c (by omega)]
          unfold nxt
          rw [hput]
          rfl
    · cases h
theorem run_ser : ∀ (bs : List Nat) (s s' : St) (i : Nat) (pre : List Nat), (∀ b ∈ bs, b < 256) → Good s → Num s → Ser s pre → run s i bs = .inr s' → Good s' ∧ Num s' ∧ Ser s' (pre ++ bs)
  | [], s, s', i, pre, _, G, N, S, h => by
    cases h
    rw [List.append_nil]
    exact ⟨G, N, S⟩
  | c :: bs, s, s', i, pre, hb, G, N, S, h => by
    rw [run] at h
    cases ht : tk s c with
    | none => rw [ht] at h; cases h
    | some t =>
      rw [ht] at h
      have hc := hb c (by simp)
      have k := took G N hc ht
      have := run_ser bs t s' (i + 1) (pre ++ [c]) (fun b hm => hb b (by simp [hm])) k.1 k.2 (S.step G N hc ht) h
      rw [List.append_assoc] at this
      exact this
theorem verd_of {s : St} (G : Good s) (h : s.nx = 16) : verd (s.em : Int) s.gs s.ps = 0 := by
  have h1 := G.em (by omega)
  have h2 := G.ng (by omega)
  have h3 := G.ge (by omega)
  have h4 := G.np (by omega)
  have h5 := G.pe (by omega)
  unfold verd
  rw [if_neg (by omega), if_neg (by omega), if_neg (by rw [G.ok]; decide), if_neg (by rw [G.pok]; decide)]
/-- what is read is a font's bytes -/
theorem run_back {bs : List Nat} {s : St} (hb : ∀ b ∈ bs, b < 256) (h : run st0 0 bs = .inr s) (h16 : s.nx = 16) : bs = fontB (s.em : Int) s.gs s.ps ∧ verd (s.em : Int) s.gs s.ps = 0 := by
  obtain ⟨G, N, S⟩ := run_ser bs st0 s 0 [] hb good0.1 good0.2 ser0 h
  refine ⟨?_, verd_of G h16⟩
  have hbs : s.bs = 0 := by
    have := N.b
    rw [h16] at this
    simp only [sz] at this
    omega
  have ha := S.a
  rw [hbs, List.nil_append, be, List.append_nil] at ha
  have hd : done s = (hdr s.em s.ng s.gs ++ (be 2 s.np ++ s.ps.flatMap pb)) ++ be 4 s.sm := by unfold done; rw [h16]; rfl
  have hbody : hdr s.em s.ng s.gs ++ (be 2 s.np ++ s.ps.flatMap pb) = body (s.em : Int) s.gs s.ps := by
    unfold hdr body
    rw [Int.toNat_natCast, G.ge (by omega), G.pe (by omega)]
    simp only [List.append_assoc]
  rw [ha, hd, S.c (by omega), hbody]
  rfl
end Go.Proofs.Ytdinlaoimpoolaa
namespace Go.Proofs.Ytdinlaoimpoolaa
open Go.RowKit

theorem mul_back (x : Nat) (h : x < 4294967296) : x * 16777619 % 4294967296 * 899433627 % 4294967296 = x := by omega
theorem xor_lt {s c : Nat} (hs : s < 4294967296) (hc : c < 256) : s ^^^ c < 4294967296 := Nat.xor_lt_two_pow (n := 32) hs (by omega)
theorem xor_back (s c : Nat) : (s ^^^ c) ^^^ c = s := by rw [Nat.xor_assoc, Nat.xor_self, Nat.xor_zero]
theorem wit_eq {s t c d : Nat} (hs : s < 4294967296) (ht : t < 4294967296) (hc : c < 256) (hd : d < 256) (h : wit s c = wit t d) : s ^^^ c = t ^^^ d := by
  unfold wit at h
  have a := mul_back (s ^^^ c) (xor_lt hs hc)
  have b := mul_back (t ^^^ d) (xor_lt ht hd)
  rw [h] at a
  exact a.symm.trans b
theorem sumF_inj : ∀ (l : List Nat) (s t : Nat), (∀ b ∈ l, b < 256) → s < 4294967296 → t < 4294967296 → sumF s l = sumF t l → s = t
  | [], s, t, _, _, _, h => h
  | c :: l, s, t, hl, hs, ht, h => by
    have hc := hl c (by simp)
    have := sumF_inj l (wit s c) (wit t c) (fun b hb => hl b (by simp [hb])) (wit_lt _ _) (wit_lt _ _) h
    have := wit_eq hs ht hc hc this
    rw [← xor_back s c, this, xor_back]
theorem sum_turn {l1 l2 : List Nat} {c d : Nat} (h2 : ∀ b ∈ l2, b < 256) (hc : c < 256) (hd : d < 256) (h : sumB (l1 ++ c :: l2) = sumB (l1 ++ d :: l2)) : c = d := by
  rw [sumB_app, sumB_app] at h
  have := sumF_inj l2 (wit (sumB l1) c) (wit (sumB l1) d) h2 (wit_lt _ _) (wit_lt _ _) h
  have := wit_eq (sumB_lt l1) (sumB_lt l1) hc hd this
  have e : (sumB l1 ^^^ c) ^^^ sumB l1 = (sumB l1 ^^^ d) ^^^ sumB l1 := by rw [this]
  rw [Nat.xor_comm (sumB l1) c, Nat.xor_comm (sumB l1) d, xor_back, xor_back] at e
  exact e
theorem be4_inj {a b : Nat} (ha : a < 4294967296) (hb : b < 4294967296) (h : be 4 a = be 4 b) : a = b := by
  rw [be4, be4] at h
  simp only [List.cons.injEq, and_true] at h
  omega
theorem fontB_split (em : Int) (gs : List Gl) (ps : List Pr) : (fontB em gs ps).length = (body em gs ps).length + 4 := by
  unfold fontB; rw [List.length_append, be_len]
/-- with one byte turned they are no font's bytes -/
theorem turned {em em' : Int} {gs gs' : List Gl} {ps ps' : List Pr} {l1 l2 : List Nat} {c d : Nat} (h : fontB em gs ps = l1 ++ c :: l2) (h' : fontB em' gs' ps' = l1 ++ d :: l2) : c = d := by
  have h256 := fontB_lt em gs ps
  have h256' := fontB_lt em' gs' ps'
  have hc : c < 256 := h256 c (by rw [h]; simp)
  have hd : d < 256 := h256' d (by rw [h']; simp)
  have hl2 : ∀ b ∈ l2, b < 256 := fun b hb => h256 b (by rw [h]; simp [hb])
  have e1 := fontB_split em gs ps
  have e2 := fontB_split em' gs' ps'
  rw [h, List.length_append, List.length_cons] at e1
  rw [h', List.length_append, List.length_cons] at e2
  unfold fontB at h h'
  rcases Nat.lt_or_ge l1.length (body em gs ps).length with q | q
  · -- the byte is the body's
    have b1 : body em gs ps = l1 ++ c :: l2.take (l2.length - 4) := by
      have := congrArg (List.take (body em gs ps).length) h
      rw [List.take_left', List.take_append, List.take_of_length_le (by omega)] at this
      · rw [this, show (body em gs ps).length - l1.length = (l2.length - 4) + 1 by omega, List.take_succ_cons]
      · rfl
    have b2 : body em' gs' ps' = l1 ++ d :: l2.take (l2.length - 4) := by
      have := congrArg (List.take (body em' gs' ps').length) h'
      rw [List.take_left', List.take_append, List.take_of_length_le (by omega)] at this
      · rw [this, show (body em' gs' ps').length - l1.length = (l2.length - 4) + 1 by omega, List.take_succ_cons]
      · rfl
    have t1 : be 4 (sumB (body em gs ps)) = l2.drop (l2.length - 4) := by
      have := congrArg (List.drop (body em gs ps).length) h
      rw [List.drop_left', List.drop_append, List.drop_of_length_le (by omega), List.nil_append, show (body em gs ps).length - l1.length = (l2.length - 4) + 1 by omega, List.drop_succ_cons] at this
      · exact this
      · rfl
    have t2 : be 4 (sumB (body em' gs' ps')) = l2.drop (l2.length - 4) := by
      have := congrArg (List.drop (body em' gs' ps').length) h'
      rw [List.drop_left', List.drop_append, List.drop_of_length_le (by omega), List.nil_append, show (body em' gs' ps').length - l1.length = (l2.length - 4) + 1 by omega, List.drop_succ_cons] at this
      · exact this
      · rfl
    have hs := be4_inj (sumB_lt _) (sumB_lt _) (t1.trans t2.symm)
    rw [b1, b2] at hs
    exact sum_turn (fun b hb => hl2 b (List.mem_of_mem_take hb)) hc hd hs
  · -- the byte is the sum's
    have b1 : body em gs ps = l1.take (body em gs ps).length := by
      have := congrArg (List.take (body em gs ps).length) h
      rw [List.take_left', List.take_append_of_le_length (by omega)] at this
      · exact this
      · rfl
    have b2 : body em' gs' ps' = l1.take (body em gs ps).length := by
      have := congrArg (List.take (body em' gs' ps').length) h'
      rw [List.take_left', List.take_append_of_le_length (by omega)] at this
      · rw [this]; congr 1; omega
      · rfl
    have e : body em gs ps = body em' gs' ps' := b1.trans b2.symm
    rw [e, h'] at h
    have := List.append_cancel_left h
    simp only [List.cons.injEq, and_true] at this
    exact this.symm

/-- what Get answers with room enough -/
def fin (bs : List Nat) : (Int × Nat) ⊕ St := match run st0 0 bs with
  | .inl x => .inl x
  | .inr s => if s.nx = 16 then .inr s else .inl (60, bs.length)
theorem holdN_fin : ∀ (k : Nat) (m : M) (s : St), m.Ok → m.why = 0 → m.nw + k ≤ m.cb → (holdN k m s).2 = .inr s
  | 0, m, s, _, _, _ => rfl
  | k + 1, m, s, hm, hw, hk => by
    have h1 : m.holdOk 1 = true := by
      unfold M.holdOk chOk
      exact decide_eq_true ⟨by decide, hw, by omega⟩
    have h2 : m.hold 1 = { m with nw := m.nw + 1, pk := max m.pk (m.nw + 1) } := by
      unfold M.hold
      rw [if_neg (by rw [hw]; decide), if_neg (by omega)]
    rw [holdN, if_pos h1]
    exact holdN_fin k (m.hold 1) s (M.hold_ok hm 1) (by rw [h2]; exact hw) (by rw [h2]; show m.nw + 1 + (k : Int) ≤ m.cb; omega)
theorem hdr_len (em ng : Nat) (gs : List Gl) : (hdr em ng gs).length = 7 + 9 * gs.length := by
  unfold hdr
  simp only [List.length_append, be_len, gbs_len, PF, List.length_cons, List.length_nil]
  omega
/-- what is read is never long -/
theorem ser_len {s : St} {pre : List Nat} (G : Good s) (N : Num s) (S : Ser s pre) : pre.length ≤ 60000 := by
  have hb : s.bs ≤ 3 := by
    have h1 := N.b
    have : sz s.nx ≤ 4 := by unfold sz; split <;> decide
    omega
  have hd : (done s).length ≤ 55000 := by
    have hg : 5 ≤ s.nx → s.gs.length ≤ 1024 := fun h => by
      have h2 := G.ng h
      rcases Nat.lt_or_ge s.nx 9 with q | q
      · have := G.gl h (by omega); omega
      · have := G.ge q; omega
    have hp : 10 ≤ s.nx → s.ps.length ≤ 4096 := fun h => by
      have h2 := G.np h
      rcases Nat.lt_or_ge s.nx 15 with q | q
      · have := G.pl h (by omega); omega
      · have := G.pe q; omega
    have hf := pbs_len s.ps
    have hn := G.n16
    have hc : s.nx = 0 ∨ s.nx = 1 ∨ s.nx = 2 ∨ s.nx = 3 ∨ s.nx = 4 ∨ s.nx = 5 ∨ s.nx = 6 ∨ s.nx = 7 ∨ s.nx = 8 ∨ s.nx = 9 ∨ s.nx = 10 ∨ s.nx = 11 ∨ s.nx = 12 ∨ s.nx = 13 ∨ s.nx = 14 ∨ s.nx = 15 ∨ s.nx = 16 := by omega
    unfold done
    rcases hc with e | e | e | e | e | e | e | e | e | e | e | e | e | e | e | e | e <;> rw [e] at hg hp ⊢ <;> simp only [List.length_append, be_len, hdr_len, PF, List.length_cons, List.length_nil] <;> (try have hg := hg (by decide)) <;> (try have hp := hp (by decide)) <;> omega
  rw [S.a, List.length_append, be_len]
  omega
theorem getM_run : ∀ (bs : List Nat) (m : M) (s : St) (pre : List Nat), (∀ b ∈ bs, b < 256) → Good s → Num s → Ser s pre → m.Ok → m.why = 0 → m.dn = pre.length → 70000 ≤ m.sb → m.nw + 5120 ≤ m.cb →
    (getM m s pre.length bs).2 = (match run s pre.length bs with
      | .inl x => .inl x
      | .inr t => if t.nx = 16 then .inr t else .inl (60, pre.length + bs.length))
  | [], m, s, pre, _, G, N, S, hm, hw, hd, hs, hc => by
    rw [getM, run]
    simp only [List.length_nil, Nat.add_zero]
    by_cases h16 : s.nx = 16
    · rw [if_pos h16, if_pos h16]
      have h2 := G.ng (by omega)
      have h3 := G.ge (by omega)
      have h4 := G.np (by omega)
      have h5 := G.pe (by omega)
      exact holdN_fin _ m s hm hw (by omega)
    · rw [if_neg h16, if_neg h16]
  | c :: bs, m, s, pre, hb, G, N, S, hm, hw, hd, hs, hc => by
    have hl := ser_len G N S
    have h1 : m.stepOk 1 = true := by
      unfold M.stepOk chOk
      exact decide_eq_true ⟨by decide, hw, by omega⟩
    have h2 : m.step 1 = { m with dn := m.dn + 1 } := by
      unfold M.step
      rw [if_neg (by rw [hw]; decide), if_neg (by omega)]
    rw [getM, if_pos h1, run]
    cases ht : tk s c with
    | none => rfl
    | some t =>
      simp only []
      have hc' := hb c (by simp)
      have k := took G N hc' ht
      have ih := getM_run bs (m.step 1) t (pre ++ [c]) (fun b hm => hb b (by simp [hm])) k.1 k.2 (S.step G N hc' ht) (M.step_ok hm 1) (by rw [h2]; exact hw) (by rw [h2, List.length_append]; show m.dn + 1 = _; rw [hd]; rfl) (by rw [h2]; exact hs) (by rw [h2]; exact hc)
      rw [List.length_append, List.length_singleton] at ih
      rw [ih, List.length_cons, show pre.length + 1 + bs.length = pre.length + (bs.length + 1) by omega]
def MG : M := ⟨1152921504606846976, 1152921504606846976, 0, 0, 0, 0⟩
theorem MG_ok : MG.Ok := by constructor <;> decide
theorem great_fin (bs : List Nat) (hb : ∀ b ∈ bs, b < 256) : (getM MG st0 0 bs).2 = fin bs := by
  have := getM_run bs MG st0 [] hb good0.1 good0.2 ser0 MG_ok rfl rfl (by decide) (by decide)
  rw [List.length_nil] at this
  rw [this]
  unfold fin
  rw [Nat.zero_add]
theorem run_at : ∀ (bs : List Nat) (s : St) (i : Nat) (e : Int) (j : Nat), run s i bs = .inl (e, j) → (i ≤ j ∧ j < i + bs.length) ∧ (e = 60 ∨ e = 61)
  | [], s, i, e, j, h => by cases h
  | c :: bs, s, i, e, j, h => by
    rw [run] at h
    rw [List.length_cons]
    cases ht : tk s c with
    | none =>
      rw [ht] at h
      cases h
      refine ⟨by omega, ?_⟩
      unfold bad
      split
      · exact .inr rfl
      · exact .inl rfl
    | some t =>
      rw [ht] at h
      have := run_at bs t (i + 1) e j h
      exact ⟨by omega, this.2⟩
theorem run_take {a b : List Nat} {s t : St} {i : Nat} (h : run s i (a ++ b) = .inr t) : ∃ u, run s i a = .inr u ∧ run u (i + a.length) b = .inr t := by
  rw [run_append] at h
  cases hr : run s i a with
  | inl x => rw [hr] at h; cases h
  | inr u => rw [hr] at h; exact ⟨u, rfl, h⟩
theorem tk_16 {s : St} (h : s.nx = 16) (N : Num s) (c : Nat) : tk s c = none := by
  have hb := N.b
  rw [h] at hb
  simp only [sz] at hb
  unfold tk
  rw [if_neg (by rw [h]; simp only [sz]; omega), if_neg (by rw [fits_16 (s := one s c) (show s.nx = 16 from h)]; decide)]
/-- P6.4 -/
theorem fin_turned {em : Int} {gs : List Gl} {ps : List Pr} (hv : verd em gs ps = 0) {l1 l2 : List Nat} {c d : Nat} (h : fontB em gs ps = l1 ++ c :: l2) (hd : d < 256) (hne : c ≠ d) :
    ∃ (e : Int) (j : Nat), fin (l1 ++ d :: l2) = .inl (e, j) ∧ e ≠ 0 ∧ l1.length ≤ j := by
  obtain ⟨st, hr, h16, _⟩ := run_font hv
  rw [h] at hr
  have h256 := fontB_lt em gs ps
  obtain ⟨u, hu, _⟩ := run_take hr
  have hall : ∀ b ∈ l1 ++ d :: l2, b < 256 := by
    intro b hb
    rcases List.mem_append.1 hb with q | q
    · exact h256 b (by rw [h]; simp [q])
    · rcases List.mem_cons.1 q with rfl | q
      · exact hd
      · exact h256 b (by rw [h]; simp [q])
  unfold fin
  cases hx : run st0 0 (l1 ++ d :: l2) with
  | inl x =>
    obtain ⟨e, j⟩ := x
    have k := run_at _ _ _ _ _ hx
    rw [run_append, hu] at hx
    have k2 := run_at _ _ _ _ _ hx
    exact ⟨e, j, rfl, by omega, by omega⟩
  | inr t =>
    simp only []
    by_cases t16 : t.nx = 16
    · exfalso
      have := (run_back hall hx t16).1
      exact hne (turned h this.symm)
    · rw [if_neg t16]
      refine ⟨60, _, rfl, by decide, ?_⟩
      rw [List.length_append]; omega
/-- P6.5 -/
theorem fin_cut {em : Int} {gs : List Gl} {ps : List Pr} (hv : verd em gs ps = 0) {l1 l2 : List Nat} {c : Nat} (h : fontB em gs ps = l1 ++ c :: l2) : fin l1 = .inl (60, l1.length) := by
  obtain ⟨st, hr, h16, _⟩ := run_font hv
  rw [h] at hr
  obtain ⟨u, hu, hu2⟩ := run_take hr
  have h256 : ∀ b ∈ l1, b < 256 := fun b hb => fontB_lt em gs ps b (by rw [h]; simp [hb])
  have k := run_ser l1 st0 u 0 [] h256 good0.1 good0.2 ser0 hu
  unfold fin
  rw [hu]
  simp only []
  rw [if_neg]
  intro u16
  rw [run, tk_16 u16 k.2.1] at hu2
  cases hu2
/-- a byte behind -/
theorem fin_more {em : Int} {gs : List Gl} {ps : List Pr} (hv : verd em gs ps = 0) (c : Nat) : fin (fontB em gs ps ++ [c]) = .inl (60, (fontB em gs ps).length) := by
  obtain ⟨st, hr, h16, _⟩ := run_font hv
  have k := run_ser _ st0 st 0 [] (fontB_lt em gs ps) good0.1 good0.2 ser0 hr
  unfold fin
  rw [run_append, hr]
  simp only []
  rw [run, tk_16 h16 k.2.1]
  simp only [Nat.zero_add]
  unfold bad
  rw [if_neg (by omega)]
/-- a font's bytes -/
theorem fin_font {em : Int} {gs : List Gl} {ps : List Pr} (hv : verd em gs ps = 0) : ∃ st, fin (fontB em gs ps) = .inr st ∧ (st.em : Int) = em ∧ st.gs = gs ∧ st.ps = ps := by
  obtain ⟨st, hr, h16, h⟩ := run_font hv
  refine ⟨st, ?_, h⟩
  unfold fin
  rw [hr]
  simp only []
  rw [if_pos h16]
/-- what is told as a font -/
theorem fin_back {bs : List Nat} {s : St} (hb : ∀ b ∈ bs, b < 256) (h : fin bs = .inr s) : bs = fontB (s.em : Int) s.gs s.ps ∧ verd (s.em : Int) s.gs s.ps = 0 := by
  unfold fin at h
  cases hr : run st0 0 bs with
  | inl x => rw [hr] at h; cases h
  | inr t =>
    rw [hr] at h
    simp only [] at h
    split at h
    · rename_i h16
      cases h
      exact run_back hb hr h16
    · cases h
theorem fin_at {bs : List Nat} {e : Int} {j : Nat} (h : fin bs = .inl (e, j)) : e ≠ 0 ∧ j ≤ bs.length := by
  unfold fin at h
  cases hr : run st0 0 bs with
  | inl x =>
    rw [hr] at h
    simp only [Sum.inl.injEq] at h
    subst h
    have := run_at _ _ _ _ _ hr
    omega
  | inr t =>
    rw [hr] at h
    simp only [] at h
    split at h
    · cases h
    · simp only [Sum.inl.injEq, Prod.mk.injEq] at h
      omega
end Go.Proofs.Ytdinlaoimpoolaa
