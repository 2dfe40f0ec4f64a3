/- The small functions as contracts: isLength, upTo, among; their answers' names. -/
import Derived.Test.YtapnmopcmlcfbaaDoorProg
import Derived.Test.YtapnmopcmlcfbaaDoorShelf
import Derived.Test.YtapnmopcmlcfbaaDoorMem
import Derived.Test.YtapnmopcmlcfbaaDoorSpec
namespace Go.Proofs.YtapnmopcmlcfbaaDoor
open Go.RowKit

theorem hid {p : Prop} (h : p) : Hid p := h
theorem ret_bool {a b : Bool} (h : a = b) : Ending.returned (.bool a) = .returned (.bool b) := by rw [h]
theorem ret_int {k : IntKind} {a b : Int} (h : a = b) : Ending.returned (.int k a) = .returned (.int k b) := by rw [h]
/-- a length -/
def lenB (a : Int) : Bool := decide (0 ≤ a ∧ a ≤ 70368744177664)
theorem lenB_mk {a : Int} (h1 : 0 ≤ a) (h2 : a ≤ 70368744177664) : lenB a = true := by simp [lenB, h1, h2]
theorem lenB_no {a : Int} (h : ¬ (0 ≤ a ∧ a ≤ 70368744177664)) : lenB a = false := by simp only [lenB, decide_eq_false_iff_not]; exact h

set_option maxHeartbeats 400000 in
theorem isLength_any (a : Int) (w : World) :
    Calls Tryd.prog 18 #[.int .i64 a] w fun e w' => e = .returned (.bool (lenB a)) ∧ w' = w := by
  by_cases h1 : 0 ≤ a
  · by_cases h2 : a ≤ 70368744177664
    · go_enter Tryd.func18, Tryd.ntmps18
      go_wp2
      go_ret
      exact ⟨ret_bool (lenB_mk h1 h2).symm, rfl⟩
    · go_enter Tryd.func18, Tryd.ntmps18
      go_wp2
      go_ret
      exact ⟨ret_bool (lenB_no (by omega)).symm, rfl⟩
  · go_enter Tryd.func18, Tryd.ntmps18
    go_wp2
    go_ret
    exact ⟨ret_bool (lenB_no (by omega)).symm, rfl⟩

/-- one digit at least, so many at most -/
def upB (most : Int) (s : ByteArray) : Bool := decide (0 < s.size ∧ (s.size : Int) ≤ most)
theorem size_zero {s : ByteArray} (h : s.size = 0) : s = ⟨#[]⟩ := by
  obtain ⟨d⟩ := s
  congr 1
  exact Array.eq_empty_of_size_eq_zero h
theorem nonempty_toList {s : ByteArray} (h : 0 < s.size) : s.toList.isEmpty = false ∧ ¬ s.toList = [] ∧ (s.toList == []) = false ∧ ¬ s = ⟨#[]⟩ := by
  have h2 : ¬ s.toList = [] := by
    intro e
    have h2 := congrArg List.length e
    rw [ByteArray.toList_eq] at h2
    have h3 : s.data.toList.length = s.size := by simp
    simp only [List.length_nil] at h2
    omega
  refine ⟨?_, h2, beq_eq_false_iff_ne.2 h2, fun e => by rw [e] at h; exact absurd h (by decide)⟩
  rcases hl : s.toList with _ | ⟨a, t⟩
  · exact absurd hl h2
  · rfl

set_option maxHeartbeats 400000 in
theorem upTo_any (m : Int) (s : ByteArray) (w : World) (hs : s.size ≤ 140737488355328) :
    Calls Tryd.prog 23 #[.int .i64 m, .string s] w fun e w' => e = .returned (.bool (upB m s)) ∧ w' = w := by
  by_cases h0 : 0 < s.size
  · obtain ⟨hn1, hn2, hn3, hn4⟩ := nonempty_toList h0
    by_cases h1 : (s.size : Int) ≤ m
    · go_enter Tryd.func23, Tryd.ntmps23
      go_wp2
      go_ret
      exact ⟨ret_bool (by simp [upB, h0, h1]), rfl⟩
    · go_enter Tryd.func23, Tryd.ntmps23
      go_wp2
      go_ret
      exact ⟨ret_bool (by simp [upB, h0, h1]), rfl⟩
  · obtain rfl := size_zero (s := s) (by omega)
    go_enter Tryd.func23, Tryd.ntmps23
    go_wp2
    go_ret
    exact ⟨ret_bool (by show false = decide _; rw [eq_comm, decide_eq_false_iff_not]; exact fun h => absurd h.1 (by decide)), rfl⟩
end Go.Proofs.YtapnmopcmlcfbaaDoor
