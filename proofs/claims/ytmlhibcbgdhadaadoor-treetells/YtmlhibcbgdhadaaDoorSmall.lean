/- The small functions as contracts: Width, the program's and the reference's. -/
import Derived.Test.YtmlhibcbgdhadaaDoorProg
import Derived.Test.YtmlhibcbgdhadaaDoorMem
import Derived.Test.YtmlhibcbgdhadaaDoorUtfAll
namespace Go.Proofs.YtmlhibcbgdhadaaDoor
open Go.RowKit

theorem hid {p : Prop} (h : p) : Hid p := h

theorem ret_int {k : IntKind} {a b : Int} (h : a = b) : Ending.returned (.int k a) = .returned (.int k b) := by rw [h]
theorem ret_bool {a b : Bool} (h : a = b) : Ending.returned (.bool a) = .returned (.bool b) := by rw [h]

/-- P4.4, as a function of any number -/
def widthI (r : Int) : Int := if r < 0 ∨ r > 1114111 ∨ (55296 ≤ r ∧ r ≤ 57343) then 0 else if r < 128 then 1 else if r < 2048 then 2 else if r < 65536 then 3 else 4
theorem widthI_rune {r : Nat} (h : r ≤ 1114111 ∧ (r < 55296 ∨ 57343 < r)) : widthI r = widthR r := by
  unfold widthI widthR
  rw [if_neg (by omega)]
  repeat' split
  all_goals omega
theorem rway (r : Int) : r < 0 ∨ 1114111 < r ∨ (0 ≤ r ∧ r < 128) ∨ (128 ≤ r ∧ r < 2048) ∨ (2048 ≤ r ∧ r < 55296) ∨ (55296 ≤ r ∧ r ≤ 57343) ∨ (57343 < r ∧ r < 65536) ∨ (65536 ≤ r ∧ r ≤ 1114111) := by omega
set_option maxHeartbeats 1000000 in
theorem width_any (r : Int) (w : World) : Calls Tryd.prog 68 #[.int .i64 r] w fun e w' => e = .returned (.int .i64 (widthI r)) ∧ w' = w := by
  rcases rway r with h | h | ⟨h, h2⟩ | ⟨h, h2⟩ | ⟨h, h2⟩ | ⟨h, h2⟩ | ⟨h, h2⟩ | ⟨h, h2⟩
  all_goals
    go_enter Tryd.func68, Tryd.ntmps68
    go_wp2
  all_goals first | (exfalso; omega) | skip
  all_goals
    go_ret
    refine ⟨ret_int ?_, rfl⟩
    unfold widthI
    repeat' split
  all_goals first | rfl | (exfalso; omega)
set_option maxHeartbeats 1000000 in
theorem refWidth_any (r : Int) (w : World) : Calls Tryd.prog 57 #[.int .i64 r] w fun e w' => e = .returned (.int .i64 (widthI r)) ∧ w' = w := by
  rcases rway r with h | h | ⟨h, h2⟩ | ⟨h, h2⟩ | ⟨h, h2⟩ | ⟨h, h2⟩ | ⟨h, h2⟩ | ⟨h, h2⟩
  all_goals
    go_enter Tryd.func57, Tryd.ntmps57
    go_wp2
  all_goals first | (exfalso; omega) | skip
  all_goals
    go_ret
    refine ⟨ret_int ?_, rfl⟩
    unfold widthI
    repeat' split
  all_goals first | rfl | (exfalso; omega)
end Go.Proofs.YtmlhibcbgdhadaaDoor
