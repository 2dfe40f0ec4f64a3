import Derived.Test.YtolccoghlclidaaScale
namespace Go.Proofs.Ytolccoghlclidaa
open Go.RowKit

theorem mag_neg_eq (a : Int) : mag (-a) = mag a := by unfold mag; split <;> split <;> omega
theorem mag_zero : mag 0 = 0 := rfl
theorem sgn_not (b : Bool) (m : Int) : sgn (!b) m = -sgn b m := by cases b <;> simp [sgn]
theorem sgn_zero (b : Bool) : sgn b 0 = 0 := by cases b <;> simp [sgn]
theorem dec_neg {a : Int} (h : a ≠ 0) : decide (-a < 0) = !decide (a < 0) := by
  by_cases h1 : a < 0
  · simp [h1]; omega
  · simp [h1]; omega
theorem scN_zero {den : Int} (hd : 1 ≤ den) : (0 + den / 2) / den = 0 := by
  rw [Int.zero_add]; exact Int.ediv_eq_zero_of_lt (by omega) (by omega)
theorem scN_neg_a {a num den : Int} (hd : 1 ≤ den) : scN (-a) num den = -scN a num den := by
  unfold scN
  rw [mag_neg_eq]
  by_cases h : a = 0
  · subst h
    rw [mag_zero, Int.zero_mul, scN_zero hd, sgn_zero, sgn_zero]; rfl
  · rw [dec_neg h]
    have : bne (!decide (a < 0)) (decide (num < 0)) = !bne (decide (a < 0)) (decide (num < 0)) := by
      cases decide (a < 0) <;> cases decide (num < 0) <;> rfl
    rw [this, sgn_not]
theorem scN_neg_num {a num den : Int} (hd : 1 ≤ den) : scN a (-num) den = -scN a num den := by
  unfold scN
  rw [mag_neg_eq]
  by_cases h : num = 0
  · subst h
    rw [mag_zero, Int.mul_zero, scN_zero hd, sgn_zero, sgn_zero]; rfl
  · rw [dec_neg h]
    have : bne (decide (a < 0)) (!decide (num < 0)) = !bne (decide (a < 0)) (decide (num < 0)) := by
      cases decide (a < 0) <;> cases decide (num < 0) <;> rfl
    rw [this, sgn_not]
theorem lenB_neg (a : Int) : lenB (-a) = lenB a := by
  unfold lenB; rw [decide_eq_decide]; omega
theorem cut_neg (a : Int) : cut (-a) = -cut a := by
  unfold cut; rw [lenB_neg]; split <;> rfl
theorem scN_same {a den : Int} (hd : 1 ≤ den) : scN a den den = a := by
  unfold scN
  rw [mag_pos (a := den) (by omega), Int.add_comm, Int.add_mul_ediv_right _ _ (by omega), Int.ediv_eq_zero_of_lt (by omega) (by omega), Int.zero_add]
  rw [show decide (den < 0) = false by simp; omega]
  unfold mag sgn
  by_cases h : a < 0 <;> simp [h]
/-- to the nearest -/
theorem scN_near {a num den : Int} (hd : 1 ≤ den) : 2 * (scN a num den * den - a * num) ≤ den ∧ 2 * (a * num - scN a num den * den) ≤ den := by
  have hs := sgn_mul a num
  have hm := mag_mul a num
  have hP : 0 ≤ mag a * mag num := Int.mul_nonneg (mag_nonneg _) (mag_nonneg _)
  rw [← hm] at hs
  unfold scN
  generalize bne (decide (a < 0)) (decide (num < 0)) = b at *
  generalize mag a * mag num = P at *
  have r0 := Int.emod_nonneg (P + den / 2) (show den ≠ 0 by omega)
  have r1 := Int.emod_lt_of_pos (P + den / 2) (show 0 < den by omega)
  have e := Int.emod_add_mul_ediv (P + den / 2) den
  rw [Int.mul_comm den] at e
  generalize (P + den / 2) / den = q at *
  generalize (P + den / 2) % den = r at *
  rw [← hs]
  cases b
  · simp only [sgn]; simp only [Bool.false_eq_true, if_false]; omega
  · simp only [sgn, if_true]; rw [Int.neg_mul]; omega
end Go.Proofs.Ytolccoghlclidaa
