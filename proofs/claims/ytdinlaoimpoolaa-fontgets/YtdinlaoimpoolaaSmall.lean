/- The small functions: comparisons, widths, bounds. -/
import Derived.Test.YtdinlaoimpoolaaChecked
import Derived.Test.YtdinlaoimpoolaaMemAll
namespace Go.Proofs.Ytdinlaoimpoolaa
open Go.RowKit

def cmpI (x y : Int) : Int := if x < y then -1 else if y < x then 1 else 0
set_option maxHeartbeats 400000 in
theorem compare_any (x y : Int) (w : World) : Calls Try.prog 76 #[.int .i64 x, .int .i64 y] w fun e w' => e = .returned (.int .i64 (cmpI x y)) ∧ w' = w := by
  unfold cmpI
  by_cases h1 : x < y
  · rw [if_pos h1]
    go_enter Try.func76, Try.ntmps76
    go_wp2
    go_ret
    exact ⟨rfl, rfl⟩
  · rw [if_neg h1]
    by_cases h2 : y < x
    · rw [if_pos h2]
      go_enter Try.func76, Try.ntmps76
      go_wp2
      go_ret
      exact ⟨rfl, rfl⟩
    · rw [if_neg h2]
      go_enter Try.func76, Try.ntmps76
      go_wp2
      go_ret
      exact ⟨rfl, rfl⟩

/-- how many bytes a rune has: 0: it is none -/
def widthI (r : Int) : Int := if r < 0 ∨ 1114111 < r ∨ (55296 ≤ r ∧ r ≤ 57343) then 0 else if r < 128 then 1 else if r < 2048 then 2 else if r < 65536 then 3 else 4
theorem width_ways (r : Int) : (r < 0 ∨ (¬ r < 0 ∧ 1114111 < r) ∨ (¬ r < 0 ∧ ¬ 1114111 < r ∧ 55296 ≤ r ∧ r ≤ 57343) ∨ (¬ r < 0 ∧ ¬ 1114111 < r ∧ 55296 ≤ r ∧ ¬ r ≤ 57343 ∧ ¬ r < 128 ∧ ¬ r < 2048 ∧ r < 65536) ∨ (¬ r < 0 ∧ ¬ 1114111 < r ∧ 55296 ≤ r ∧ ¬ r ≤ 57343 ∧ ¬ r < 128 ∧ ¬ r < 2048 ∧ ¬ r < 65536) ∨
    (¬ r < 0 ∧ ¬ 1114111 < r ∧ ¬ 55296 ≤ r ∧ r < 128) ∨ (¬ r < 0 ∧ ¬ 1114111 < r ∧ ¬ 55296 ≤ r ∧ ¬ r < 128 ∧ r < 2048) ∨ (¬ r < 0 ∧ ¬ 1114111 < r ∧ ¬ 55296 ≤ r ∧ ¬ r < 128 ∧ ¬ r < 2048 ∧ r < 65536)) := by omega
set_option maxHeartbeats 1000000 in
theorem width_any (r : Int) (w : World) : Calls Try.prog 63 #[.int .i64 r] w fun e w' => e = .returned (.int .i64 (widthI r)) ∧ w' = w := by
  rcases width_ways r with h | ⟨h, h1⟩ | ⟨h, h1, h2, h3⟩ | ⟨h, h1, h2, h3, h4, h5, h6⟩ | ⟨h, h1, h2, h3, h4, h5, h6⟩ | ⟨h, h1, h2, h3⟩ | ⟨h, h1, h2, h3, h4⟩ | ⟨h, h1, h2, h3, h4, h5⟩
  · rw [show widthI r = 0 from by unfold widthI; (repeat first | (rw [if_pos (by omega)]) | (rw [if_neg (by omega)]))]
    go_enter Try.func63, Try.ntmps63
    go_wp2
    go_ret
    exact ⟨rfl, rfl⟩
  · rw [show widthI r = 0 from by unfold widthI; (repeat first | (rw [if_pos (by omega)]) | (rw [if_neg (by omega)]))]
    go_enter Try.func63, Try.ntmps63
    go_wp2
    go_ret
    exact ⟨rfl, rfl⟩
  · rw [show widthI r = 0 from by unfold widthI; (repeat first | (rw [if_pos (by omega)]) | (rw [if_neg (by omega)]))]
    go_enter Try.func63, Try.ntmps63
    go_wp2
    go_ret
    exact ⟨rfl, rfl⟩
  · rw [show widthI r = 3 from by unfold widthI; (repeat first | (rw [if_pos (by omega)]) | (rw [if_neg (by omega)]))]
    go_enter Try.func63, Try.ntmps63
    go_wp2
    go_ret
    exact ⟨rfl, rfl⟩
  · rw [show widthI r = 4 from by unfold widthI; (repeat first | (rw [if_pos (by omega)]) | (rw [if_neg (by omega)]))]
    go_enter Try.func63, Try.ntmps63
    go_wp2
    go_ret
    exact ⟨rfl, rfl⟩
  · rw [show widthI r = 1 from by unfold widthI; (repeat first | (rw [if_pos (by omega)]) | (rw [if_neg (by omega)]))]
    go_enter Try.func63, Try.ntmps63
    go_wp2
    go_ret
    exact ⟨rfl, rfl⟩
  · rw [show widthI r = 2 from by unfold widthI; (repeat first | (rw [if_pos (by omega)]) | (rw [if_neg (by omega)]))]
    go_enter Try.func63, Try.ntmps63
    go_wp2
    go_ret
    exact ⟨rfl, rfl⟩
  · rw [show widthI r = 3 from by unfold widthI; (repeat first | (rw [if_pos (by omega)]) | (rw [if_neg (by omega)]))]
    go_enter Try.func63, Try.ntmps63
    go_wp2
    go_ret
    exact ⟨rfl, rfl⟩
set_option maxHeartbeats 1000000 in
theorem refwidth_any (r : Int) (w : World) : Calls Try.prog 61 #[.int .i64 r] w fun e w' => e = .returned (.int .i64 (widthI r)) ∧ w' = w := by
  rcases width_ways r with h | ⟨h, h1⟩ | ⟨h, h1, h2, h3⟩ | ⟨h, h1, h2, h3, h4, h5, h6⟩ | ⟨h, h1, h2, h3, h4, h5, h6⟩ | ⟨h, h1, h2, h3⟩ | ⟨h, h1, h2, h3, h4⟩ | ⟨h, h1, h2, h3, h4, h5⟩
  · rw [show widthI r = 0 from by unfold widthI; (repeat first | (rw [if_pos (by omega)]) | (rw [if_neg (by omega)]))]
    go_enter Try.func61, Try.ntmps61
    go_wp2
    go_ret
    exact ⟨rfl, rfl⟩
  · rw [show widthI r = 0 from by unfold widthI; (repeat first | (rw [if_pos (by omega)]) | (rw [if_neg (by omega)]))]
    go_enter Try.func61, Try.ntmps61
    go_wp2
    go_ret
    exact ⟨rfl, rfl⟩
  · rw [show widthI r = 0 from by unfold widthI; (repeat first | (rw [if_pos (by omega)]) | (rw [if_neg (by omega)]))]
    go_enter Try.func61, Try.ntmps61
    go_wp2
    go_ret
    exact ⟨rfl, rfl⟩
  · rw [show widthI r = 3 from by unfold widthI; (repeat first | (rw [if_pos (by omega)]) | (rw [if_neg (by omega)]))]
    go_enter Try.func61, Try.ntmps61
    go_wp2
    go_ret
    exact ⟨rfl, rfl⟩
  · rw [show widthI r = 4 from by unfold widthI; (repeat first | (rw [if_pos (by omega)]) | (rw [if_neg (by omega)]))]
    go_enter Try.func61, Try.ntmps61
    go_wp2
    go_ret
    exact ⟨rfl, rfl⟩
  · rw [show widthI r = 1 from by unfold widthI; (repeat first | (rw [if_pos (by omega)]) | (rw [if_neg (by omega)]))]
    go_enter Try.func61, Try.ntmps61
    go_wp2
    go_ret
    exact ⟨rfl, rfl⟩
  · rw [show widthI r = 2 from by unfold widthI; (repeat first | (rw [if_pos (by omega)]) | (rw [if_neg (by omega)]))]
    go_enter Try.func61, Try.ntmps61
    go_wp2
    go_ret
    exact ⟨rfl, rfl⟩
  · rw [show widthI r = 3 from by unfold widthI; (repeat first | (rw [if_pos (by omega)]) | (rw [if_neg (by omega)]))]
    go_enter Try.func61, Try.ntmps61
    go_wp2
    go_ret
    exact ⟨rfl, rfl⟩

def inU (n : Int) : Bool := decide (0 ≤ n ∧ n ≤ 16384)
theorem inU_true {n : Int} (h : 0 ≤ n ∧ n ≤ 16384) : inU n = true := decide_eq_true h
theorem inU_false {n : Int} (h : ¬ (0 ≤ n ∧ n ≤ 16384)) : inU n = false := decide_eq_false h
theorem unit_ways (n : Int) : (0 ≤ n ∧ n ≤ 16384) ∨ (n < 0) ∨ (0 ≤ n ∧ 16384 < n) := by omega
set_option maxHeartbeats 400000 in
theorem within_any (n : Int) (w : World) : Calls Try.prog 67 #[.int .i64 n] w fun e w' => e = .returned (.bool (inU n)) ∧ w' = w := by
  rcases unit_ways n with h | h | h
  · rw [inU_true h]
    obtain ⟨h1, h2⟩ := h
    go_enter Try.func67, Try.ntmps67
    go_wp2
    go_ret
    exact ⟨rfl, rfl⟩
  · rw [inU_false (by omega)]
    go_enter Try.func67, Try.ntmps67
    go_wp2
    go_ret
    exact ⟨rfl, rfl⟩
  · rw [inU_false (by omega)]
    obtain ⟨h1, h2⟩ := h
    go_enter Try.func67, Try.ntmps67
    go_wp2
    go_ret
    exact ⟨by simp; omega, rfl⟩

end Go.Proofs.Ytdinlaoimpoolaa
