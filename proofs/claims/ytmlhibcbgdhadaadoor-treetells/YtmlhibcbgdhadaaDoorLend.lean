/- Nodes in memory of their own, with something behind the end of each list. -/
import Derived.Test.YtmlhibcbgdhadaaDoorStC
import Derived.Test.YtmlhibcbgdhadaaDoorBld
import Derived.Test.YtmlhibcbgdhadaaDoorPath
import Derived.OneCell
namespace Go.Proofs.YtmlhibcbgdhadaaDoor
open Go.RowKit

theorem info44 : (Tryd.prog.info? 44).map (fun i => (i.zero, i.size, i.bytes)) = some (some (.agg #[.int .i64 0, .int .i64 0, .int .i64 0]), 3, 24) := by kernel_rfl
theorem info42 : (Tryd.prog.info? 42).map (fun i => (i.zero, i.size, i.bytes)) = some (some (.agg (ndc (nd0, .slice none 0 0)).toArray), 13, 128) := by kernel_rfl
theorem info40 : (Tryd.prog.info? 40).map (fun i => (i.zero, i.size, i.bytes)) = some (some (.slice none 0 0), 1, 24) := by kernel_rfl
/-- what stands behind a list's end -/
def stopC : List Value := chI (-77, 0, 0)
def ndS : Nd := ⟨-77, 0, 0, 0, 0, ⟨#[]⟩, 0, 0, 0, 0, 0, 0, []⟩
/-- a lent node: the node, its characters' block, that one's room -/
abbrev Ln := Nd × Nat × Nat
def ly (p : Ln) : Nd × Value := (p.1, .slice (some ⟨p.2.1, 0, none⟩) p.1.chs.length p.2.2)
def lc (p : Ln) : Value := .slice (some ⟨p.2.1, 0, none⟩) (p.1.chs.length + 1) p.2.2
def ChR (w : World) (B : Nat) (p : Ln) : Prop := w.ownsRow B 44 3 (lc p) (p.1.chs.length + 1) (p.1.chs.flatMap chI ++ stopC)
theorem ChR.frt {ts : List TypeId} {B C : Nat} {w w' : World} {p : Ln} (h : ChR w B p) (f : FrT ts C w w') (ht : 44 ∉ ts) : ChR w' B p := f.row h ht
theorem Only.drewAlloc {L : List Nat} {w w' : World} (h : Only L w w') (o : Obj) : Only L w (w'.drew.alloc o) := (h.drewN 1).alloc o
theorem row_mono {w : World} {base base' size n : Nat} {e : TypeId} {v : Value} {xs : List Value} (h : w.ownsRow base e size v n xs) (hb : base' ≤ base) : w.ownsRow base' e size v n xs := by
  refine ⟨h.1, ?_⟩
  rcases h.2 with h2 | ⟨g, cap, cur, h1, h2, h3⟩
  · exact .inl h2
  · exact .inr ⟨g, cap, cur, h1, by omega, h3⟩
theorem row_succ {w : World} {base size n : Nat} {e : TypeId} {v : Value} {xs : List Value} (h : w.ownsRow base e size v (n + 1) xs) : ∃ g cap, v = .slice (some ⟨g, 0, none⟩) (n + 1) cap ∧ n + 1 ≤ cap := by
  rcases h.2 with ⟨_, h2⟩ | ⟨g, cap, cur, rfl, -, -, h5, -⟩
  · cases h2
  · exact ⟨g, cap, rfl, h5⟩
/-- behind an append a block of another type is as it was -/
theorem blk_grown {w w' : World} {B n size b : Nat} {e t : TypeId} {v : Value} {xs ys : List Value} (h : w.ownsRow B e size v n xs) (g : w.grownBy w' v.ownBlock) (k : Blk w b ys t) (hne : e ≠ t) : Blk w' b ys t :=
  (g.block b k.lt (fun q => row_not h k hne q.symm)).trans k
theorem row_grown {w w' : World} {B B' n n' size size' : Nat} {e t : TypeId} {v v' : Value} {xs ys : List Value} (h : w.ownsRow B e size v n xs) (g : w.grownBy w' v.ownBlock) (k : w.ownsRow B' t size' v' n' ys) (hne : e ≠ t) : w'.ownsRow B' t size' v' n' ys := by
  refine k.kept g ?_
  rcases hb : v'.ownBlock with _ | b
  · exact .inl rfl
  · refine .inr fun q => ?_
    exact row_row k h (fun q => hne q.symm) hb q.symm
theorem one_chI {l : List (Int × Int × Int)} : ∀ u ∈ l.flatMap chI, u.oneCell' = true := by
  intro u hu
  obtain ⟨x, -, hx⟩ := List.mem_flatMap.1 hu
  simp only [chI, List.mem_cons, List.not_mem_nil, or_false] at hx
  rcases hx with rfl | rfl | rfl <;> rfl
theorem one_ndc (x : Nd) (ad : Option Addr) (n c : Nat) : ∀ u ∈ ndc (x, .slice ad n c), u.oneCell' = true := by
  intro u hu
  simp only [ndc, List.mem_cons, List.not_mem_nil, or_false] at hu
  rcases hu with rfl | rfl | rfl | rfl | rfl | rfl | rfl | rfl | rfl | rfl | rfl | rfl | rfl <;> rfl
set_option maxRecDepth 100000 in
set_option maxHeartbeats 8000000 in
theorem lend_any {xs : List (Nd × Value)} {ad : Option Addr} {cap B : Nat} (w : World) (hNL : NL w B ad xs) (hB : B ≤ w.heap.size) (hf : ∀ x ∈ xs, x.1.chs.length ≤ 2147483647) (hl : xs.length ≤ 2147483647) :
    Calls Tryd.prog 11 #[.slice ad xs.length cap] w fun e w' => ∃ xb va vc, ∃ ps : List Ln, e = .returned (.pointer (some ⟨xb, 0, none⟩)) ∧ w.heap.size ≤ xb ∧ Blk w' xb [va, vc] 32 ∧ ps.map (·.1) = nds xs ∧
      w'.ownsRow w.heap.size 42 13 va (ps.length + 1) ((ps.map ly).flatMap ndc ++ ndc (ndS, .slice none 0 0)) ∧ w'.ownsRow w.heap.size 40 1 vc ps.length (ps.map lc) ∧ (∀ p ∈ ps, ChR w' w.heap.size p) ∧ Only [] w w' := by
  have HNL := hid hNL
  have HB := hid hB
  have HF := hid hf
  obtain ⟨n, hn⟩ : ∃ n, xs.length = n := ⟨_, rfl⟩
  have HN := hid hn
  rw [hn] at hl ⊢
  clear hNL hB hf hn
  obtain ⟨i44, hi44, z440, z441, z442⟩ := info_parts info44
  obtain ⟨i42, hi42, z420, z421, z422⟩ := info_parts info42
  obtain ⟨i40, hi40, z400, z401, z402⟩ := info_parts info40
  go_enter Tryd.func11, Tryd.ntmps11
  go_wp2_with fail
  go_loopw [4] (fun i wr => ∃ (k : Nat) (va vc : Value) (ps : List Ln), i = .int .i64 k ∧ k ≤ n ∧ Hid (ps.length = k ∧ ps.map (·.1) = (nds xs).take k) ∧ Blk wr w.heap.size [va, vc] 32 ∧ Hid (wr.ownsRow w.heap.size 42 13 va k ((ps.map ly).flatMap ndc)) ∧ Hid (wr.ownsRow w.heap.size 40 1 vc k (ps.map lc)) ∧ Hid (∀ p ∈ ps, ChR wr w.heap.size p) ∧ Only [] w wr) (fun i _ => n - (RowKit.intOf i).toNat)
  case atStart => exact ⟨0, _, _, [], rfl, by omega, ⟨rfl, rfl⟩, Blk.new w _ 32 rfl, World.ownsRow_nil _ _ _ _, World.ownsRow_nil _ _ _ _, (by intro p hp; simp at hp : ∀ p ∈ ([] : List Ln), ChR _ w.heap.size p), (Only.refl _ _).alloc _⟩
  case round =>
    obtain ⟨k, va, vc, ps, rfl, hk, hps, hbx, HVA, HVC, HCH, ho⟩ := hrel
    by_cases hlt : k < n
    · obtain ⟨x, hx⟩ := some_at (xs := xs) (i := k) (by rw [HN.out]; exact hlt)
      obtain ⟨xn, xv⟩ := x
      have hna := HNL.out.still ho
      obtain ⟨xa, xc, hxv, hxs⟩ := hna.cv _ (List.mem_of_getElem? hx)
      dsimp only at hxv hxs
      subst hxv
      obtain ⟨ab, ao, rfl, -, abw, ca⟩ := hna.at_ hx
      have hlx := HF.out _ (List.mem_of_getElem? hx)
      dsimp only at hlx
      obtain ⟨xm, hxm⟩ : ∃ xm, xn.chs.length = xm := ⟨_, rfl⟩
      have HXM := hid hxm
      have HXS := hid hxs
      have HX := hid hx
      rw [hxm] at ca hlx HXS
      clear hxm hxs hx hna
      have a0 := ca 0 _ rfl
      have a1 := ca 1 _ rfl
      have a2 := ca 2 _ rfl
      have a3 := ca 3 _ rfl
      have a4 := ca 4 _ rfl
      have a5 := ca 5 _ rfl
      have a6 := ca 6 _ rfl
      have a7 := ca 7 _ rfl
      have a8 := ca 8 _ rfl
      have a9 := ca 9 _ rfl
      have a10 := ca 10 _ rfl
      have a11 := ca 11 _ rfl
      have a12 := ca 12 _ rfl
      simp only [Nat.add_zero] at a0
      have hkl : (k : Int) < (n : Int) := by omega
      have hk0 : (0 : Int) ≤ (k : Int) := by omega
      have HO := hid ho
      have HLT := hid hlt
      have HBX := hid hbx
      have HPS := hid hps
      have hsz := hbx.lt
      have hlen3 : (xn.chs.flatMap chI).length = xm * 3 := by rw [flat_len chI_len, HXM.out]
      have hm3 : xm + 1 ≤ maxLen := by unfold maxLen; omega
      have hm4 : (xm + 1) * 24 ≤ 140737488355328 := by omega
      have hm1 : 0 + xm ≤ maxLen := by unfold maxLen; omega
      have hm2 : (0 + xm) * 24 ≤ 140737488355328 := by omega
      clear ho hlt ca hbx
      go_wp2_with (at_builtin; refine wpList_append_sl _ rfl _ _ 40 rfl (wr.heap.size + 1) 44 i44 _ 3 24 Tryd.underlying40 hi44 z440 z441 z442 rfl (by decide) (.slice (some ⟨wr.heap.size + 1, 0, none⟩) 0 0) 0 [] (by rfl) ?qa1 xa xm xc (xn.chs.flatMap chI) (by rfl) hlen3 ?qa2 one_chI hm1 hm2 ?qa4 ?_)
      case qa1 =>
        have := World.ownsRow_lit (base := wr.heap.size + 1) (e := 44) (size := 3) (wr.alloc (.cells #[.int .i64 xn.kind, .int .i64 xn.par, .int .i64 xn.at_, .int .i64 xn.fin, .int .i64 xn.has, .string xn.font, .int .i64 xn.size, .int .i64 xn.width, .int .i64 xn.height, .int .i64 xn.lead, .int .i64 xn.skip, .int .i64 xn.tol, .slice xa xm xc] 42)) #[] 0 (by simp) (by unfold maxLen; omega) rfl
        simpa using this
      case qa2 => exact (HXS.out.keep (((Only.refl [] wr).alloc _).alloc _) (by simp)).sl
      intro v1 w5 hown hgrew
      replace hown : w5.ownsRow (wr.heap.size + 1) 44 3 v1 xm (xn.chs.flatMap chI) := by first | exact hown | simpa only [Nat.zero_add, List.nil_append] using hown
      obtain ⟨ad1, cp1, hve, -, -⟩ := row_reads hown
      subst hve
      have HOWN := hid hown
      have O5 : Hid (Only [] (wr.alloc (.cells #[.int .i64 xn.kind, .int .i64 xn.par, .int .i64 xn.at_, .int .i64 xn.fin, .int .i64 xn.has, .string xn.font, .int .i64 xn.size, .int .i64 xn.width, .int .i64 xn.height, .int .i64 xn.lead, .int .i64 xn.skip, .int .i64 xn.tol, .slice xa xm xc] 42)) w5) := only_grow ((Only.refl [] _).alloc _) hgrew.grown (fun b hb => by have hb2 : wr.heap.size + 1 = b := Option.some.inj hb; exact .inr (by simp; omega))
      clear hown hgrew
      go_wp2_with (at_builtin; refine wpList_append_sl _ rfl _ _ 40 rfl (wr.heap.size + 1) 44 i44 _ 3 24 Tryd.underlying40 hi44 z440 z441 z442 rfl (by decide) (.slice ad1 xm cp1) xm (xn.chs.flatMap chI) (by rfl) ?qb1 (some ⟨w5.heap.size, 0, none⟩) 1 1 stopC (by rfl) rfl ?qb2 ?qb3 hm3 hm4 ?qb4 ?_)
      case qb1 => exact row_only HOWN.out ((Only.refl [] w5).alloc _) (by simp)
      case qb2 => exact sl_newest w5 stopC 44 rfl
      case qb3 => first | rfl | (intro u hu; simp [stopC, chI] at hu; rcases hu with rfl | rfl <;> rfl)
      case qb4 => have h2 := O5.out.size; simp at h2 ⊢; omega
      intro v2 w6 hown hgrew
      obtain ⟨cb, cc, hve, hcc⟩ := row_succ hown
      subst hve
      have O6 : Hid (Only [] (wr.alloc (.cells #[.int .i64 xn.kind, .int .i64 xn.par, .int .i64 xn.at_, .int .i64 xn.fin, .int .i64 xn.has, .string xn.font, .int .i64 xn.size, .int .i64 xn.width, .int .i64 xn.height, .int .i64 xn.lead, .int .i64 xn.skip, .int .i64 xn.tol, .slice xa xm xc] 42)) w6) := only_grow (O5.out.alloc _) hgrew.grown (fun b hb => by
        rcases row_ge HOWN.out b hb with ⟨h1, h2⟩
        exact .inr (by simp; omega))
      have T6 := hid ((O6.out.block wr.heap.size (by simp) (by simp)).trans (Blk.new wr _ 42 rfl))
      have P6 : Hid (Only [] wr w6) := ((Only.refl [] wr).alloc _).trans O6.out
      have C6 := hid (row_mono hown (show w.heap.size ≤ wr.heap.size + 1 by have := HO.out.size; omega))
      have VA6 := hid (row_only HVA.out P6.out (by simp))
      have VC6 := hid (row_only HVC.out P6.out (by simp))
      have B6 := hid ((P6.out.block _ HBX.out.lt (by simp)).trans HBX.out)
      have S6 : w.heap.size < w6.heap.size := Blk.lt B6.out
      obtain ⟨cad, ccp, hve, -, -⟩ := row_reads VC6.out
      subst hve
      obtain ⟨aad, acp, hve, -, -⟩ := row_reads VA6.out
      subst hve
      have c61 := Blk.cell B6.out 1
      have hk1 : k + 1 ≤ maxLen := by unfold maxLen; omega
      have hk2 : (k + 1) * 24 ≤ 140737488355328 := by omega
      have hk3 : (k + 1) * 128 ≤ 140737488355328 := by omega
      simp only [List.getElem?_cons_succ, List.getElem?_cons_zero] at c61
      clear hown hgrew O5 HOWN
      go_wp2_with (at_builtin; refine wpList_append_sl _ rfl _ _ 30 rfl w.heap.size 40 i40 _ 1 24 Tryd.underlying30 hi40 z400 z401 z402 rfl (by decide) (.slice cad k ccp) k (ps.map lc) (by rfl) ?qc1 (some ⟨w6.heap.size, 0, none⟩) 1 1 [.slice (some ⟨cb, 0, none⟩) (xm + 1) cc] (by rfl) rfl ?qc2 ?qc3 hk1 hk2 ?qc4 ?_)
      case qc1 => exact row_only VC6.out ((Only.refl [] w6).alloc _) (by simp)
      case qc2 => exact sl_newest w6 [.slice (some ⟨cb, 0, none⟩) (xm + 1) cc] 40 rfl
      case qc3 => first | rfl | (intro u hu; simp at hu; subst hu; rfl)
      case qc4 => omega
      intro v7 w7 hown hgrew
      have X := row_only VC6.out ((Only.refl [] w6).alloc (.cells #[.slice (some ⟨cb, 0, none⟩) (xm + 1) cc] 40)) (by simp)
      have B7 := hid (blk_grown X hgrew.grown (Blk.alloc B6.out _) (by decide))
      have T7 := hid (blk_grown X hgrew.grown (Blk.alloc T6.out _) (by decide))
      have C7 := hid (row_grown X hgrew.grown (row_only C6.out ((Only.refl [] w6).alloc _) (by simp)) (by decide))
      have VA7 := hid (row_grown X hgrew.grown (row_only VA6.out ((Only.refl [] w6).alloc _) (by simp)) (by decide))
      obtain ⟨vb, vbc, hve, -⟩ := row_succ hown
      subst hve
      have VC7 := hid hown
      have HCH7 : Hid (∀ p ∈ ps, ChR w7 w.heap.size p) := fun p hp => row_grown X hgrew.grown (row_only (row_only (HCH.out p hp) P6.out (by simp)) ((Only.refl [] w6).alloc _) (by simp)) (by decide)
      have P7 : Hid (Only [] w w7) := only_grow ((HO.out.trans P6.out).alloc _) hgrew.grown (fun b hb => .inr (row_ge VC6.out b hb).1)
      have hfz7 := Blk.froz B7.out 1
      have hcl7 := Blk.cell B7.out 1
      have S7 := Blk.lt T7.out
      simp only [List.getElem?_cons_succ, List.getElem?_cons_zero] at hcl7
      clear hown hgrew X c61
      obtain ⟨V, hV⟩ : ∃ V : Value, Value.slice (some ⟨vb, 0, none⟩) (k + 1) vbc = V := ⟨_, rfl⟩
      have hne : wr.heap.size ≠ w.heap.size := by have := HBX.out.lt; omega
      have T8 : Hid (Blk (w7.setCell ⟨w.heap.size, 1, none⟩ (.slice (some ⟨vb, 0, none⟩) (k + 1) vbc)) wr.heap.size _ 42) := Blk.other T7.out _ _ hne
      have B8 := hid (Blk.set B7.out 1 (.slice (some ⟨vb, 0, none⟩) (k + 1) vbc))
      have hfz8 := Blk.froz T8.out 12
      have hcl8 := Blk.cell T8.out 12
      simp only [List.getElem?_cons_succ, List.getElem?_cons_zero] at hcl8
      have hxc : xm ≤ cc := by omega
      have hxi : (xm : Int) + 1 - 1 = (xm : Int) := by omega
      have hxc2 : (xm : Int) ≤ (cc : Int) := by omega
      clear hV
      go_wp2_with fail
      obtain ⟨W9, hW9⟩ : ∃ W9, (w7.setCell ⟨w.heap.size, 1, none⟩ (.slice (some ⟨vb, 0, none⟩) (k + 1) vbc)).setCell ⟨wr.heap.size, 12, none⟩ (.slice (some ⟨cb, 0, none⟩) xm cc) = W9 := ⟨_, rfl⟩
      have tb1 : ∀ {v : Value} {m z : Nat} {l : List Value} {C : Nat}, wr.ownsRow C 42 z v m l → v.ownBlock ≠ some wr.heap.size := fun h q => by have := (row_ge h _ q).2; omega
      have two : ∀ {C m z : Nat} {e : TypeId} {v : Value} {l : List Value}, w7.ownsRow C e z v m l → e ≠ 32 → v.ownBlock ≠ some wr.heap.size → W9.ownsRow C e z v m l := fun h h32 ht => by
        rw [← hW9]
        exact ownsRow_setCell_other (ownsRow_setCell_other h (row_not h B7.out h32) _) ht _
      have VA9 := hid (two VA7.out (by decide) (tb1 HVA.out))
      have VC9 := hid (two VC7.out (by decide) (row_not VC7.out T7.out (by decide)))
      have C9 := hid (two C7.out (by decide) (row_not C7.out T7.out (by decide)))
      have HCH9 : Hid (∀ p ∈ ps, ChR W9 w.heap.size p) := fun p hp => two (HCH7.out p hp) (by decide) (row_not (HCH7.out p hp) T7.out (by decide))
      have B9 : Hid (Blk W9 w.heap.size [.slice aad k acp, .slice (some ⟨vb, 0, none⟩) (k + 1) vbc] 32) := by show Blk _ _ _ _; rw [← hW9]; exact Blk.other B8.out _ _ (Ne.symm hne)
      have T9 : Hid (Blk W9 wr.heap.size [.int .i64 xn.kind, .int .i64 xn.par, .int .i64 xn.at_, .int .i64 xn.fin, .int .i64 xn.has, .string xn.font, .int .i64 xn.size, .int .i64 xn.width, .int .i64 xn.height, .int .i64 xn.lead, .int .i64 xn.skip, .int .i64 xn.tol, .slice (some ⟨cb, 0, none⟩) xm cc] 42) := by show Blk _ _ _ _; rw [← hW9]; exact Blk.set T8.out 12 _
      have P9 : Hid (Only [] w W9) := by show Only _ _ _; rw [← hW9]; exact (P7.out.set (.inr (Nat.le_refl _)) _).set (.inr (by have := HO.out.size; exact this)) _
      rw [hW9]
      have HN9 : Hid (Sl (W9.drew.alloc (.cells #[.int .i64 xn.kind, .int .i64 xn.par, .int .i64 xn.at_, .int .i64 xn.fin, .int .i64 xn.has, .string xn.font, .int .i64 xn.size, .int .i64 xn.width, .int .i64 xn.height, .int .i64 xn.lead, .int .i64 xn.skip, .int .i64 xn.tol, .slice (some ⟨cb, 0, none⟩) xm cc] 42)) (some ⟨W9.heap.size, 0, none⟩) 1 (ndc (ly (xn, cb, cc)))) := by
        show Sl _ _ _ _
        unfold ly ndc
        rw [HXM.out]
        exact fun _ => ⟨_, 0, rfl, (Blk.new W9.drew _ 42 rfl).lt, fun j u hj => by rw [Nat.zero_add]; exact ((Blk.new W9.drew #[.int .i64 xn.kind, .int .i64 xn.par, .int .i64 xn.at_, .int .i64 xn.fin, .int .i64 xn.has, .string xn.font, .int .i64 xn.size, .int .i64 xn.width, .int .i64 xn.height, .int .i64 xn.lead, .int .i64 xn.skip, .int .i64 xn.tol, .slice (some ⟨cb, 0, none⟩) xm cc] 42 rfl).cell j).trans hj⟩
      have VA9' := hid (row_only (W9.drew.alloc (.cells #[.int .i64 xn.kind, .int .i64 xn.par, .int .i64 xn.at_, .int .i64 xn.fin, .int .i64 xn.has, .string xn.font, .int .i64 xn.size, .int .i64 xn.width, .int .i64 xn.height, .int .i64 xn.lead, .int .i64 xn.skip, .int .i64 xn.tol, .slice (some ⟨cb, 0, none⟩) xm cc] 42) |> fun _ => VA9.out) ((Only.refl [] W9).drewAlloc (.cells #[.int .i64 xn.kind, .int .i64 xn.par, .int .i64 xn.at_, .int .i64 xn.fin, .int .i64 xn.has, .string xn.font, .int .i64 xn.size, .int .i64 xn.width, .int .i64 xn.height, .int .i64 xn.lead, .int .i64 xn.skip, .int .i64 xn.tol, .slice (some ⟨cb, 0, none⟩) xm cc] 42)) (by simp))
      have b0 := Blk.cell B9.out 0
      have b0' := Blk.cell (Blk.alloc B9.out (.cells #[.int .i64 xn.kind, .int .i64 xn.par, .int .i64 xn.at_, .int .i64 xn.fin, .int .i64 xn.has, .string xn.font, .int .i64 xn.size, .int .i64 xn.width, .int .i64 xn.height, .int .i64 xn.lead, .int .i64 xn.skip, .int .i64 xn.tol, .slice (some ⟨cb, 0, none⟩) xm cc] 42)) 0
      simp only [List.getElem?_cons_zero] at b0 b0'
      have tcell := fun j => Blk.cell T9.out j
      have t0 := tcell 0
      simp only [List.getElem?_cons_zero] at t0
      have t1 := tcell 1
      simp only [List.getElem?_cons_succ, List.getElem?_cons_zero] at t1
      have t2 := tcell 2
      simp only [List.getElem?_cons_succ, List.getElem?_cons_zero] at t2
      have t3 := tcell 3
      simp only [List.getElem?_cons_succ, List.getElem?_cons_zero] at t3
      have t4 := tcell 4
      simp only [List.getElem?_cons_succ, List.getElem?_cons_zero] at t4
      have t5 := tcell 5
      simp only [List.getElem?_cons_succ, List.getElem?_cons_zero] at t5
      have t6 := tcell 6
      simp only [List.getElem?_cons_succ, List.getElem?_cons_zero] at t6
      have t7 := tcell 7
      simp only [List.getElem?_cons_succ, List.getElem?_cons_zero] at t7
      have t8 := tcell 8
      simp only [List.getElem?_cons_succ, List.getElem?_cons_zero] at t8
      have t9 := tcell 9
      simp only [List.getElem?_cons_succ, List.getElem?_cons_zero] at t9
      have t10 := tcell 10
      simp only [List.getElem?_cons_succ, List.getElem?_cons_zero] at t10
      have t11 := tcell 11
      simp only [List.getElem?_cons_succ, List.getElem?_cons_zero] at t11
      have t12 := tcell 12
      simp only [List.getElem?_cons_succ, List.getElem?_cons_zero] at t12
      have S9 := Blk.lt T9.out
      have hne9 : ¬ w.heap.size = W9.heap.size := by have := Blk.lt B9.out; omega
      have hne9' : ¬ wr.heap.size = W9.heap.size := by omega
      have hb9 : w.heap.size ≤ (W9.drew.alloc (.cells #[.int .i64 xn.kind, .int .i64 xn.par, .int .i64 xn.at_, .int .i64 xn.fin, .int .i64 xn.has, .string xn.font, .int .i64 xn.size, .int .i64 xn.width, .int .i64 xn.height, .int .i64 xn.lead, .int .i64 xn.skip, .int .i64 xn.tol, .slice (some ⟨cb, 0, none⟩) xm cc] 42)).heap.size := by have := P9.out.size; simp; omega
      have HM9 := hid (And.intro hk1 (And.intro hk3 hb9))
      have mf : Tryd.prog.follows .mixedOrders = true := by kernel_rfl
      clear hW9 tb1 two hfz7 hcl7 hfz8 hcl8 tcell hk1 hk3 hb9
      go_region_law
        ((refine step_append_sl _ rfl _ _ 22 rfl w.heap.size 42 i42 _ 13 128 Tryd.underlying22 hi42 z420 z421 z422 rfl (by decide) (.slice aad k acp) k ((ps.map ly).flatMap ndc) (by rfl) VA9'.out (some ⟨W9.heap.size, 0, none⟩) 1 1 (ndc (ly (xn, cb, cc))) (by rfl) (by rfl) HN9.out (one_ndc _ _ _ _) HM9.out.1 HM9.out.2.1 HM9.out.2.2 ?_; intro v8 w10 hown hgrew; obtain ⟨nb, nc, rfl, _⟩ := row_succ hown; have B10 := hid (blk_grown VA9'.out hgrew.grown (Blk.alloc (Blk.drew B9.out) _) (by decide)); have d0 := Blk.cell B10.out 0; have f0 := Blk.froz B10.out 0; have HOWN10 := hid hown; have HG10 := hid hgrew.grown; clear hown hgrew))
      all_goals
        go_wp2_with fail
        go_roundw
        case rel =>
          have three : ∀ {C m z : Nat} {e : TypeId} {v : Value} {l : List Value}, w10.ownsRow C e z v m l → e ≠ 32 → (w10.setCell ⟨w.heap.size, 0, none⟩ (.slice (some ⟨nb, 0, none⟩) (k + 1) nc)).ownsRow C e z v m l := fun h h32 => ownsRow_setCell_other h (row_not h B10.out h32) _
          have VC10 := three (row_grown VA9'.out HG10.out (row_only VC9.out ((Only.refl [] W9).drewAlloc _) (by simp)) (by decide)) (by decide)
          have C10 := three (row_grown VA9'.out HG10.out (row_only C9.out ((Only.refl [] W9).drewAlloc _) (by simp)) (by decide)) (by decide)
          have P10 : Only [] w w10 := only_grow (P9.out.drewAlloc _) HG10.out (fun b hb => .inr (row_ge VA9.out b hb).1)
          have hq : ChR (w10.setCell ⟨w.heap.size, 0, none⟩ (.slice (some ⟨nb, 0, none⟩) (k + 1) nc)) w.heap.size (xn, cb, cc) := by
            unfold ChR lc; dsimp only; rw [HXM.out]; exact C10
          refine ⟨k + 1, _, _, ps ++ [(xn, cb, cc)], by go_num, HLT.out, ⟨by rw [List.length_append, HPS.out.1]; rfl, ?_⟩, Blk.set B10.out 0 _, ?_, ?_, fun p hp => ?_, P10.set (.inr (Nat.le_refl _)) _⟩
          · rw [List.map_append, HPS.out.2, List.take_add_one, nds_get HX.out]; rfl
          · show World.ownsRow _ _ _ _ _ _ _
            rw [List.map_append, List.flatMap_append]
            simp only [List.map_cons, List.map_nil, List.flatMap_cons, List.flatMap_nil, List.append_nil]
            exact three HOWN10.out (by decide)
          · show World.ownsRow _ _ _ _ _ _ _
            rw [List.map_append]
            have e : [(xn, cb, cc)].map lc = [.slice (some ⟨cb, 0, none⟩) (xm + 1) cc] := by
              simp only [List.map_cons, List.map_nil, lc]; rw [HXM.out]
            rw [e]
            exact VC10
          · rcases List.mem_append.1 hp with h | h
            · exact three (row_grown VA9'.out HG10.out (row_only (HCH9.out p h) ((Only.refl [] W9).drewAlloc _) (by simp)) (by decide)) (by decide)
            · rw [List.mem_singleton.1 h]; exact hq
        case measure => have := HLT.out; simp [RowKit.intOf]; omega
    · have hkn : k = n := by omega
      have hkd : decide (k < n) = false := decide_eq_false hlt
      obtain ⟨aad, acp, hve, -, -⟩ := row_reads HVA.out
      subst hve
      have b0 := Blk.cell hbx 0
      simp only [List.getElem?_cons_zero] at b0
      have hk1 : k + 1 ≤ maxLen := by unfold maxLen; omega
      have hk3 : (k + 1) * 128 ≤ 140737488355328 := by omega
      have HBX := hid hbx
      have HO := hid ho
      have HPS := hid hps
      have HKN := hid hkn
      clear hbx ho hkn
      go_wp2_with (at_builtin; refine wpList_append_sl _ rfl _ _ 22 rfl w.heap.size 42 i42 _ 13 128 Tryd.underlying22 hi42 z420 z421 z422 rfl (by decide) (.slice aad k acp) k ((ps.map ly).flatMap ndc) (by rfl) ?qz1 (some ⟨wr.heap.size, 0, none⟩) 1 1 (ndc (ndS, .slice none 0 0)) (by rfl) rfl ?qz2 (one_ndc _ _ _ _) hk1 hk3 ?qz4 ?_)
      case qz1 => exact row_only HVA.out ((Only.refl [] wr).alloc _) (by simp)
      case qz2 => exact sl_newest wr (ndc (ndS, .slice none 0 0)) 42 rfl
      case qz4 => have := HO.out.size; first | omega | (simp; omega)
      intro v1 w5 hown hgrew
      obtain ⟨nb, nc, hve, -⟩ := row_succ hown
      subst hve
      have X := row_only HVA.out ((Only.refl [] wr).alloc (.cells #[.int .i64 (-77), .int .i64 0, .int .i64 0, .int .i64 0, .int .i64 0, .string ⟨#[]⟩, .int .i64 0, .int .i64 0, .int .i64 0, .int .i64 0, .int .i64 0, .int .i64 0, .slice none 0 0] 42)) (by simp)
      have B5 := hid (blk_grown X hgrew.grown (Blk.alloc HBX.out _) (by decide))
      have VC5 := hid (row_grown X hgrew.grown (row_only HVC.out ((Only.refl [] wr).alloc _) (by simp)) (by decide))
      have HCH5 : Hid (∀ p ∈ ps, ChR w5 w.heap.size p) := fun p hp => row_grown X hgrew.grown (row_only (HCH.out p hp) ((Only.refl [] wr).alloc _) (by simp)) (by decide)
      have P5 : Hid (Only [] w w5) := only_grow (HO.out.alloc _) hgrew.grown (fun b hb => .inr (row_ge HVA.out b hb).1)
      have HOWN5 := hid hown
      have hcl5 := Blk.cell B5.out 0
      have hfz5 := Blk.froz B5.out 0
      simp only [List.getElem?_cons_zero] at hcl5
      clear hown hgrew X
      go_wp2_with fail
      go_ret
      have three : ∀ {C m z : Nat} {e : TypeId} {v : Value} {l : List Value}, w5.ownsRow C e z v m l → e ≠ 32 → (w5.setCell ⟨w.heap.size, 0, none⟩ (.slice (some ⟨nb, 0, none⟩) (k + 1) nc)).ownsRow C e z v m l := fun h h32 => ownsRow_setCell_other h (row_not h B5.out h32) _
      refine ⟨_, _, _, ps, rfl, Nat.le_refl _, Blk.set B5.out 0 _, ?_, ?_, ?_, fun p hp => three (HCH5.out p hp) (by decide), P5.out.set (.inr (Nat.le_refl _)) _⟩
      · rw [HPS.out.2, HKN.out, ← HN.out]; exact List.take_of_length_le (by simp)
      · rw [HPS.out.1]; exact three HOWN5.out (by decide)
      · rw [HPS.out.1]; exact three VC5.out (by decide)
end Go.Proofs.YtmlhibcbgdhadaaDoor
