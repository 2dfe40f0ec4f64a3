/- The reference's number of a class, against the class itself. -/
import Derived.Test.YtnmaoodghbkmcaaDoorRefs
namespace Go.Proofs.YtnmaoodghbkmcaaDoor
open Go.RowKit
theorem hidden {p : Prop} (h : p) : Hid p := h
theorem num_eq (c : Option Nat) (h : ∀ g, c = some g → g < 6) : (numOf c == 1) = decide (c = some 2) ∧ (numOf c == 2) = decide (c = some 0) ∧ (numOf c == 3) = decide (c = some 1) ∧ (numOf c == 4) = decide (c = some 3) ∧ (numOf c == 5) = decide (c = some 4) ∧ (numOf c == 6) = decide (c = some 5) := by
  cases c with
  | none => decide
  | some g =>
    have hg := h g rfl
    obtain rfl | rfl | rfl | rfl | rfl | rfl : g = 0 ∨ g = 1 ∨ g = 2 ∨ g = 3 ∨ g = 4 ∨ g = 5 := by omega
    all_goals decide
end Go.Proofs.YtnmaoodghbkmcaaDoor
