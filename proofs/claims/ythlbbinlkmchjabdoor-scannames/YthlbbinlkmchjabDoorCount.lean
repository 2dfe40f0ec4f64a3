/- Count. -/
import Derived.Test.YthlbbinlkmchjabDoorAll
namespace Go.Proofs.YthlbbinlkmchjabDoor
open Go.RowKit Go.Shelf
attribute [local go_sem] Oper.semAt_some

theorem boxed_below {B0 : Nat} {w w' : World} {B : Nat} {t : TypeId} {v : Value} (h : Boxed w B t v) (hb : Below B0 w w') (hB : B < B0) : Boxed w' B t v := (hb.block B hB).trans h
theorem box_own {β : Type} (b : Nat) (t : TypeId) (f : β → Value) : Own (fun s W => Boxed W b t (f s)) := boxed_own b t f

theorem fold2 (a : Array Value) (p q : Nat) (x : RN) : (#[p, q].zip (encs x)).foldl (fun t (p, v) => t.setIfInBounds p v) a = (a.setIfInBounds p (.int .i64 x.1.1)).setIfInBounds q (.int .i32 x.1.2) := by
  simp [encs]

end Go.Proofs.YthlbbinlkmchjabDoor
