/- Same: two nodes. -/
import Derived.Test.YtmlhibcbgdhadaaDoorSame1
namespace Go.Proofs.YtmlhibcbgdhadaaDoor
open Go.RowKit

set_option maxRecDepth 100000 in
set_option maxHeartbeats 16000000 in
theorem sameNode_any {xa ya : Option Addr} {xc yc B : Nat} (x y : Nd) (w : World) (hx : SlB w B xa x.chs.length (x.chs.flatMap chI)) (hy : SlB w B ya y.chs.length (y.chs.flatMap chI)) (hlx : x.chs.length ≤ 4294967296) (hly : y.chs.length ≤ 4294967296) :
    Calls Tryd.prog 41 #[.agg (ndc (x, .slice xa x.chs.length xc)).toArray, .agg (ndc (y, .slice ya y.chs.length yc)).toArray] w fun e w' => e = .returned (.bool (sameN x y)) ∧ Only [] w w' := by
  have HE := hid (fun W (o : Only [] w W) => equalChars_any (ac := xc) (bc := yc) W (hx.keep o (by simp)) (hy.keep o (by simp)) hlx hly)
  clear hx hy hlx hly
  unfold ndc
  dsimp only
  obtain ⟨n, hn⟩ : ∃ n, x.chs.length = n := ⟨_, rfl⟩
  obtain ⟨m, hm⟩ : ∃ m, y.chs.length = m := ⟨_, rfl⟩
  rw [hn, hm] at HE
  rw [hn, hm]
  clear hn hm
  by_cases h0 : x.kind = y.kind
  rotate_left
  · have e0 : (x.kind == y.kind) = false := by simpa using h0
    have HF : Hid (sameN x y = false) := by
      show _ = _
      rw [Bool.eq_false_iff]
      intro q
      unfold sameN at q
      simp only [Bool.and_eq_true, beq_iff_eq, decide_eq_true_eq] at q
      exact h0 q.1.1.1.1.1.1.1.1.1.1
    clear h0
    go_enter Tryd.func41, Tryd.ntmps41
    go_wp2_with fail
    go_ret
    exact ⟨ret_bool HF.out.symm, ((Only.refl _ _).alloc _).alloc _⟩
  have e0 : (x.kind == y.kind) = true := by simpa using h0
  have H0 := hid h0
  clear h0
  by_cases h1 : x.par = y.par
  rotate_left
  · have e1 : (x.par == y.par) = false := by simpa using h1
    have HF : Hid (sameN x y = false) := by
      show _ = _
      rw [Bool.eq_false_iff]
      intro q
      unfold sameN at q
      simp only [Bool.and_eq_true, beq_iff_eq, decide_eq_true_eq] at q
      exact h1 q.1.1.1.1.1.1.1.1.1.2
    clear h1
    go_enter Tryd.func41, Tryd.ntmps41
    go_wp2_with fail
    go_ret
    exact ⟨ret_bool HF.out.symm, ((Only.refl _ _).alloc _).alloc _⟩
  have e1 : (x.par == y.par) = true := by simpa using h1
  have H1 := hid h1
  clear h1
  by_cases h2 : x.has = y.has
  rotate_left
  · have e2 : (x.has == y.has) = false := by simpa using h2
    have HF : Hid (sameN x y = false) := by
      show _ = _
      rw [Bool.eq_false_iff]
      intro q
      unfold sameN at q
      simp only [Bool.and_eq_true, beq_iff_eq, decide_eq_true_eq] at q
      exact h2 q.1.1.1.1.1.1.1.1.2
    clear h2
    go_enter Tryd.func41, Tryd.ntmps41
    go_wp2_with fail
    go_ret
    exact ⟨ret_bool HF.out.symm, ((Only.refl _ _).alloc _).alloc _⟩
  have e2 : (x.has == y.has) = true := by simpa using h2
  have H2 := hid h2
  clear h2
  by_cases h3 : x.font = y.font
  rotate_left
  · have e3 : (x.font.toList == y.font.toList) = false := font_ne h3
    have HF : Hid (sameN x y = false) := by
      show _ = _
      rw [Bool.eq_false_iff]
      intro q
      unfold sameN at q
      simp only [Bool.and_eq_true, beq_iff_eq, decide_eq_true_eq] at q
      exact h3 q.1.1.1.1.1.1.1.2
    clear h3
    go_enter Tryd.func41, Tryd.ntmps41
    go_wp2_with fail
    go_ret
    exact ⟨ret_bool HF.out.symm, ((Only.refl _ _).alloc _).alloc _⟩
  have e3 : (x.font.toList == y.font.toList) = true := by rw [h3]; simp
  have H3 := hid h3
  clear h3
  by_cases h4 : x.size = y.size
  rotate_left
  · have e4 : (x.size == y.size) = false := by simpa using h4
    have HF : Hid (sameN x y = false) := by
      show _ = _
      rw [Bool.eq_false_iff]
      intro q
      unfold sameN at q
      simp only [Bool.and_eq_true, beq_iff_eq, decide_eq_true_eq] at q
      exact h4 q.1.1.1.1.1.1.2
    clear h4
    go_enter Tryd.func41, Tryd.ntmps41
    go_wp2_with fail
    go_ret
    exact ⟨ret_bool HF.out.symm, ((Only.refl _ _).alloc _).alloc _⟩
  have e4 : (x.size == y.size) = true := by simpa using h4
  have H4 := hid h4
  clear h4
  by_cases h5 : x.width = y.width
  rotate_left
  · have e5 : (x.width == y.width) = false := by simpa using h5
    have HF : Hid (sameN x y = false) := by
      show _ = _
      rw [Bool.eq_false_iff]
      intro q
      unfold sameN at q
      simp only [Bool.and_eq_true, beq_iff_eq, decide_eq_true_eq] at q
      exact h5 q.1.1.1.1.1.2
    clear h5
    go_enter Tryd.func41, Tryd.ntmps41
    go_wp2_with fail
    go_ret
    exact ⟨ret_bool HF.out.symm, ((Only.refl _ _).alloc _).alloc _⟩
  have e5 : (x.width == y.width) = true := by simpa using h5
  have H5 := hid h5
  clear h5
  by_cases h6 : x.height = y.height
  rotate_left
  · have e6 : (x.height == y.height) = false := by simpa using h6
    have HF : Hid (sameN x y = false) := by
      show _ = _
      rw [Bool.eq_false_iff]
      intro q
      unfold sameN at q
      simp only [Bool.and_eq_true, beq_iff_eq, decide_eq_true_eq] at q
      exact h6 q.1.1.1.1.2
    clear h6
    go_enter Tryd.func41, Tryd.ntmps41
    go_wp2_with fail
    go_ret
    exact ⟨ret_bool HF.out.symm, ((Only.refl _ _).alloc _).alloc _⟩
  have e6 : (x.height == y.height) = true := by simpa using h6
  have H6 := hid h6
  clear h6
  by_cases h7 : x.lead = y.lead
  rotate_left
  · have e7 : (x.lead == y.lead) = false := by simpa using h7
    have HF : Hid (sameN x y = false) := by
      show _ = _
      rw [Bool.eq_false_iff]
      intro q
      unfold sameN at q
      simp only [Bool.and_eq_true, beq_iff_eq, decide_eq_true_eq] at q
      exact h7 q.1.1.1.2
    clear h7
    go_enter Tryd.func41, Tryd.ntmps41
    go_wp2_with fail
    go_ret
    exact ⟨ret_bool HF.out.symm, ((Only.refl _ _).alloc _).alloc _⟩
  have e7 : (x.lead == y.lead) = true := by simpa using h7
  have H7 := hid h7
  clear h7
  by_cases h8 : x.skip = y.skip
  rotate_left
  · have e8 : (x.skip == y.skip) = false := by simpa using h8
    have HF : Hid (sameN x y = false) := by
      show _ = _
      rw [Bool.eq_false_iff]
      intro q
      unfold sameN at q
      simp only [Bool.and_eq_true, beq_iff_eq, decide_eq_true_eq] at q
      exact h8 q.1.1.2
    clear h8
    go_enter Tryd.func41, Tryd.ntmps41
    go_wp2_with fail
    go_ret
    exact ⟨ret_bool HF.out.symm, ((Only.refl _ _).alloc _).alloc _⟩
  have e8 : (x.skip == y.skip) = true := by simpa using h8
  have H8 := hid h8
  clear h8
  by_cases h9 : x.tol = y.tol
  rotate_left
  · have e9 : (x.tol == y.tol) = false := by simpa using h9
    have HF : Hid (sameN x y = false) := by
      show _ = _
      rw [Bool.eq_false_iff]
      intro q
      unfold sameN at q
      simp only [Bool.and_eq_true, beq_iff_eq, decide_eq_true_eq] at q
      exact h9 q.1.2
    clear h9
    go_enter Tryd.func41, Tryd.ntmps41
    go_wp2_with fail
    go_ret
    exact ⟨ret_bool HF.out.symm, ((Only.refl _ _).alloc _).alloc _⟩
  have e9 : (x.tol == y.tol) = true := by simpa using h9
  have H9 := hid h9
  clear h9
  have HF : Hid (sameN x y = runesB x.chs y.chs) := sameN_chs H0.out H1.out H2.out H3.out H4.out H5.out H6.out H7.out H8.out H9.out
  obtain ⟨r, hr⟩ : ∃ r, runesB x.chs y.chs = r := ⟨_, rfl⟩
  rw [hr] at HE HF
  clear hr
  go_enter Tryd.func41, Tryd.ntmps41
  go_wp2_with fail
  refine (HE.out _ (((Only.refl _ _).alloc _).alloc _)).mono ?_
  rintro e w1 ⟨rfl, o1⟩
  have HO1 := hid o1
  clear o1
  go_wp2_with fail
  go_ret
  exact ⟨ret_bool HF.out.symm, (((Only.refl _ _).alloc _).alloc _).trans HO1.out⟩
end Go.Proofs.YtmlhibcbgdhadaaDoor
