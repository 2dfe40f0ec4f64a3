/- What Check tells, field by field. -/
import Derived.Test.YtncjadjfgbeokaaDoorShown
namespace Go.Proofs.YtncjadjfgbeokaaDoor
open Go.RowKit

theorem bl_append (a b : ByteArray) : bl (a ++ b) = bl a ++ bl b := by simp [bl, ByteArray.data_append]
def kindOf : Option Nat → Int
  | none => 0
  | some _ => 40
def atOf : Option Nat → Int
  | none => 0
  | some A => A
theorem told_eq (c : Option Nat) : told c = .agg #[.int .i64 (kindOf c), .int .i64 (atOf c)] := by cases c <;> rfl
theorem check_is (s : ByteArray) (c : Option Nat) (w : World) (hs : s.size ≤ 1152921504606846976) (hc : chk (bl s) = c) (hT : Tb w) :
    Calls Tryd.prog 16 #[.string s] w fun e w' => e = .returned (.agg #[.int .i64 (kindOf c), .int .i64 (atOf c)]) ∧ Below w.heap.size w w' := by
  have := check_any s w hs hT
  rwa [hc, told_eq] at this
end Go.Proofs.YtncjadjfgbeokaaDoor
