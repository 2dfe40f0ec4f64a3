import Derived.Test.YtolccoghlclidaaNearMath
import Derived.Test.YtolccoghlclidaaShown
namespace Go.Proofs.Ytolccoghlclidaa
open Go.RowKit

/-- a new Calc, at an address of its own -/
theorem new_ex (w : World) : Calls Try.prog 9 #[] w fun e w' => ∃ c : Addr, e = .returned (.pointer (some c)) ∧ c.block = w.heap.size ∧ w'.cell? c = some (.bool false) ∧ w'.frozen? c = false ∧ c.block < w'.heap.size ∧ Below w.heap.size w w' := by
  refine (new_any w).mono ?_
  rintro e w' ⟨rfl, rfl⟩
  obtain ⟨n1, n2, n3⟩ := new_cell w false 44
  exact ⟨_, rfl, rfl, n1, n2, n3, (Below.refl _ _).alloc (Nat.le_refl _) _⟩
theorem upd_keep {c d : Addr} {b : Bool} {w w' : World} {v : Value} (h : Upd c b w w') (hd : w.cell? d = some v) (hdb : d.block < w.heap.size) (hne : d.block ≠ c.block) : w'.cell? d = some v := (h.other hdb hne).trans hd
theorem below_keep {d : Addr} {w w' : World} {v : Value} (h : Below w.heap.size w w') (hd : w.cell? d = some v) (hdb : d.block < w.heap.size) : w'.cell? d = some v := (h.cell hdb).trans hd
/-- what Scale tells of a length by numbers that may be -/
theorem scale_told {a num den : Int} (ha : lenB a = true) (h : scOk num den = true) : toldV false (allLen [a]) (ratB a num den) (ratN a num den) = cut (scN a num den) ∧ toldB false (allLen [a]) (ratB a num den) = !lenB (scN a num den) := by
  have h1 : allLen [a] = true := by simp [allLen, ha]
  have h2 : ratB a num den = lenB (scN a num den) := by simp [ratB, h]
  have h3 : ratN a num den = cut (scN a num den) := if_pos h
  rw [h1, h2, h3]
  unfold toldV toldB
  cases hl : lenB (scN a num den)
  · rw [cut_no hl]; simp
  · simp
theorem scOk_neg {num den : Int} (h : scOk num den = true) : scOk (-num) den = true := by
  have := scOk_yes h
  simp only [scOk, decide_eq_true_eq]; omega
theorem scOk_same {num den : Int} (h : scOk num den = true) : scOk den den = true := by
  have := scOk_yes h
  simp only [scOk, decide_eq_true_eq]; omega
theorem cut_bound (n : Int) : -70368744177664 ≤ cut n ∧ cut n ≤ 70368744177664 := by
  cases h : lenB n
  · rw [cut_no h]; omega
  · rw [cut_yes h]; exact lenB_yes h
theorem scale_fit (c : Addr) (a num den v : Int) (f : Bool) (w : World) (ha : lenB a = true) (h : scOk num den = true) (hv : cut (scN a num den) = v) (hfl : (!lenB (scN a num den)) = f) (hc : w.cell? c = some (.bool false)) (hf : w.frozen? c = false) (hcs : c.block < w.heap.size) :
    Calls Try.prog 16 #[.pointer (some c), .int .i64 a, .int .i64 num, .int .i64 den] w fun e w' => e = .returned (.int .i64 v) ∧ Upd c f w w' := by
  have := scale_any c false a num den w hc hf hcs
  rwa [(scale_told ha h).1, (scale_told ha h).2, hv, hfl] at this
theorem mul_bound {a n : Int} (h1 : -1099511627776 ≤ a) (h2 : a ≤ 1099511627776) (h3 : -1048576 ≤ n) (h4 : n ≤ 1048576) : -1152921504606846976 ≤ a * n ∧ a * n ≤ 1152921504606846976 := by
  have m := mag_mul a n
  have m1 : mag a ≤ 1099511627776 := by unfold mag; split <;> omega
  have m2 : mag n ≤ 1048576 := by unfold mag; split <;> omega
  have m3 : mag a * mag n ≤ 1099511627776 * 1048576 := Int.mul_le_mul m1 m2 (mag_nonneg _) (by omega)
  rw [m] at m3
  unfold mag at m3
  split at m3 <;> omega
theorem near_ways {a num den : Int} (h : ¬ (lenB a = true ∧ scOk num den = true)) :
    a < -70368744177664 ∨ (-70368744177664 ≤ a ∧ 70368744177664 < a) ∨ (-70368744177664 ≤ a ∧ a ≤ 70368744177664 ∧ den < 1) ∨ (-70368744177664 ≤ a ∧ a ≤ 70368744177664 ∧ 1 ≤ den ∧ 1048576 < den) ∨
    (-70368744177664 ≤ a ∧ a ≤ 70368744177664 ∧ 1 ≤ den ∧ den ≤ 1048576 ∧ num < -1048576) ∨ (-70368744177664 ≤ a ∧ a ≤ 70368744177664 ∧ 1 ≤ den ∧ den ≤ 1048576 ∧ -1048576 ≤ num ∧ 1048576 < num) := by
  simp only [lenB, scOk, decide_eq_true_eq] at h
  omega
end Go.Proofs.Ytolccoghlclidaa
