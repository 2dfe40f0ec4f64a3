import Derived.Test.YtolccoghlclidaaProg
import Derived.Test.YtolccoghlclidaaShelf
import Derived.Test.YtolccoghlclidaaUpd
namespace Go.Proofs.Ytolccoghlclidaa
open Go.RowKit

/-- a length -/
def lenB (a : Int) : Bool := decide (-70368744177664 ≤ a ∧ a ≤ 70368744177664)
theorem lenB_mk {a : Int} (h1 : -70368744177664 ≤ a) (h2 : a ≤ 70368744177664) : lenB a = true := by simp [lenB, h1, h2]
theorem lenB_no {a : Int} (h : ¬ (-70368744177664 ≤ a ∧ a ≤ 70368744177664)) : lenB a = false := by simp only [lenB, decide_eq_false_iff_not]; exact h
theorem lenB_yes {a : Int} (h : lenB a = true) : -70368744177664 ≤ a ∧ a ≤ 70368744177664 := by simpa [lenB] using h
theorem lenB_not {a : Int} (h : lenB a = false) : ¬ (-70368744177664 ≤ a ∧ a ≤ 70368744177664) := by simpa only [lenB, decide_eq_false_iff_not] using h
theorem ret_bool {a b : Bool} (h : a = b) : Ending.returned (.bool a) = .returned (.bool b) := by rw [h]
theorem ret_int {k : IntKind} {a b : Int} (h : a = b) : Ending.returned (.int k a) = .returned (.int k b) := by rw [h]
/-- the magnitude -/
def mag (a : Int) : Int := if a < 0 then -a else a
theorem mag_pos {a : Int} (h : 0 ≤ a) : mag a = a := by unfold mag; rw [if_neg (by omega)]
theorem mag_neg {a : Int} (h : a < 0) : mag a = -a := by unfold mag; rw [if_pos h]
theorem mag_nonneg (a : Int) : 0 ≤ mag a := by unfold mag; split <;> omega
theorem mag_le {a : Int} (h0 : -9223372036854775808 ≤ a) (h1 : a ≤ 9223372036854775807) : mag a ≤ 9223372036854775808 := by unfold mag; split <;> omega

set_option maxHeartbeats 400000 in
theorem isLength_any (a : Int) (w : World) :
    Calls Try.prog 26 #[.int .i64 a] w fun e w' => e = .returned (.bool (lenB a)) ∧ w' = w := by
  by_cases h1 : -70368744177664 ≤ a
  · by_cases h2 : a ≤ 70368744177664
    · go_enter Try.func26, Try.ntmps26
      go_wp2
      go_ret
      exact ⟨ret_bool (lenB_mk h1 h2).symm, rfl⟩
    · go_enter Try.func26, Try.ntmps26
      go_wp2
      go_ret
      exact ⟨ret_bool (lenB_no (by omega)).symm, rfl⟩
  · go_enter Try.func26, Try.ntmps26
    go_wp2
    go_ret
    exact ⟨ret_bool (lenB_no (by omega)).symm, rfl⟩

set_option maxHeartbeats 400000 in
theorem length_any (a : Int) (w : World) :
    Calls Try.prog 28 #[.int .i64 a] w fun e w' => e = .returned (.bool (lenB a)) ∧ w' = w := by
  by_cases h1 : -70368744177664 ≤ a
  · by_cases h2 : a ≤ 70368744177664
    · go_enter Try.func28, Try.ntmps28
      go_wp2
      go_ret
      exact ⟨ret_bool (lenB_mk h1 h2).symm, rfl⟩
    · go_enter Try.func28, Try.ntmps28
      go_wp2
      go_ret
      exact ⟨ret_bool (lenB_no (by omega)).symm, rfl⟩
  · go_enter Try.func28, Try.ntmps28
    go_wp2
    go_ret
    exact ⟨ret_bool (lenB_no (by omega)).symm, rfl⟩

theorem wrap_neg (a : Int) (h0 : a < 0) (h1 : -9223372036854775808 ≤ a) : IntKind.u64.wrap (wrap64 (-a)) = -a := by
  unfold wrap64 IntKind.wrap
  simp [IntKind.bits, IntKind.signed]
  omega
set_option maxHeartbeats 400000 in
/-- the magnitude of an int, as a u64 -/
theorem magnitude_any (a : Int) (h0 : -9223372036854775808 ≤ a) (h1 : a ≤ 9223372036854775807) (w : World) :
    Calls Try.prog 36 #[.int .i64 a] w fun e w' => e = .returned (.int .u64 (mag a)) ∧ w' = w := by
  by_cases h : a < 0
  · go_enter Try.func36, Try.ntmps36
    go_wp2
    go_ret
    exact ⟨ret_int (by rw [wrap_neg a h h0, mag_neg h]), rfl⟩
  · go_enter Try.func36, Try.ntmps36
    go_wp2
    go_ret
    exact ⟨ret_int (by rw [mag_pos (by omega)]), rfl⟩

theorem mul64 (x y : Int) (hx : 0 ≤ x) (hx' : x < 18446744073709551616) (hy : 0 ≤ y) (hy' : y < 18446744073709551616) (w : World) :
    Calls Try.prog 35 #[.int .u64 x, .int .u64 y] w fun e w' => e = .returned (.tuple #[.int .u64 (x * y / 18446744073709551616), .int .u64 (x * y % 18446744073709551616)]) ∧ w' = w := by
  obtain ⟨x, rfl⟩ := Int.eq_ofNat_of_zero_le hx
  obtain ⟨y, rfl⟩ := Int.eq_ofNat_of_zero_le hy
  refine (Try.bits_Mul64 x y (by omega) (by omega) w).mono ?_
  rintro e w' ⟨rfl, rfl⟩
  refine ⟨?_, rfl⟩
  simp

end Go.Proofs.Ytolccoghlclidaa
