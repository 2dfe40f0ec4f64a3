/- What errors.As asks of the library's types' handles, the target a **fault.Located: closed facts. -/
import Derived.Test.YtnmaoodghbkmcaaDoorFacts
namespace Go.Proofs.YtnmaoodghbkmcaaDoor
open Go.RowKit Go.Extern.Stop Go.Stop Go.Extern

/-! ### the library's entries, under names -/
def eValueOf : Array Value → Sem Value := fun args => ReflectliteValue.unpack (args.getD 0 (.tuple #[]))
def eType : Array Value → Sem Value := ReflectliteValue.methodAny (ReflectliteValue.valueError "reflectlite.Value.Type" 0) fun t _ _ _ => ReflectliteType.toType t
def eIsNil : Array Value → Sem Value := ReflectliteValue.method (ReflectliteValue.valueError "reflectlite.Value.IsNil" 0) ReflectliteValue.isNil
def eElemV : Array Value → Sem Value := ReflectliteValue.method (ReflectliteValue.valueError "reflectlite.Value.Elem" 0) ReflectliteValue.elem
def eSet : Array Value → Sem Value := ReflectliteValue.set
def eTypeOf : Array Value → Sem Value := ReflectliteType.typeOf
def eKind : Array Value → Sem Value := ReflectliteType.abiMethod fun t => do pure (.int .u8 (← Rtype.kind t))
def eElem : Array Value → Sem Value := ReflectliteType.method ReflectliteType.elem
def eImplements : Array Value → Sem Value := ReflectliteType.relation "Implements" ReflectliteType.implements_
def eAssignable : Array Value → Sem Value := ReflectliteType.relation "AssignableTo" ReflectliteType.assignableTo

theorem r21 (args : Array Value) (w : World) : (callFunc 21 args).run Tryd.prog w = ((eTypeOf args).run Tryd.prog w).andThen fun v w' => Result.ok (Next.value v) w' :=
  @run_callFunc_extern Tryd.prog 21 _ eTypeOf Tryd.func21 (by kernel_rfl) (by kernel_rfl) (by kernel_rfl) (by kernel_rfl) args w
theorem r27 (args : Array Value) (w : World) : (callFunc 27 args).run Tryd.prog w = ((eValueOf args).run Tryd.prog w).andThen fun v w' => Result.ok (Next.value v) w' :=
  @run_callFunc_extern Tryd.prog 27 _ eValueOf Tryd.func27 (by kernel_rfl) (by kernel_rfl) (by kernel_rfl) (by kernel_rfl) args w
theorem r28 (args : Array Value) (w : World) : (callFunc 28 args).run Tryd.prog w = ((eType args).run Tryd.prog w).andThen fun v w' => Result.ok (Next.value v) w' :=
  @run_callFunc_extern Tryd.prog 28 _ eType Tryd.func28 (by kernel_rfl) (by kernel_rfl) (by kernel_rfl) (by kernel_rfl) args w
theorem r29 (args : Array Value) (w : World) : (callFunc 29 args).run Tryd.prog w = ((eIsNil args).run Tryd.prog w).andThen fun v w' => Result.ok (Next.value v) w' :=
  @run_callFunc_extern Tryd.prog 29 _ eIsNil Tryd.func29 (by kernel_rfl) (by kernel_rfl) (by kernel_rfl) (by kernel_rfl) args w
theorem r31 (args : Array Value) (w : World) : (callFunc 31 args).run Tryd.prog w = ((eElemV args).run Tryd.prog w).andThen fun v w' => Result.ok (Next.value v) w' :=
  @run_callFunc_extern Tryd.prog 31 _ eElemV Tryd.func31 (by kernel_rfl) (by kernel_rfl) (by kernel_rfl) (by kernel_rfl) args w
theorem r32 (args : Array Value) (w : World) : (callFunc 32 args).run Tryd.prog w = ((eSet args).run Tryd.prog w).andThen fun v w' => Result.ok (Next.value v) w' :=
  @run_callFunc_extern Tryd.prog 32 _ eSet Tryd.func32 (by kernel_rfl) (by kernel_rfl) (by kernel_rfl) (by kernel_rfl) args w
theorem r47 (args : Array Value) (w : World) : (callFunc 47 args).run Tryd.prog w = ((eKind args).run Tryd.prog w).andThen fun v w' => Result.ok (Next.value v) w' :=
  @run_callFunc_extern Tryd.prog 47 _ eKind Tryd.func47 (by kernel_rfl) (by kernel_rfl) (by kernel_rfl) (by kernel_rfl) args w
theorem r72 (args : Array Value) (w : World) : (callFunc 72 args).run Tryd.prog w = ((eAssignable args).run Tryd.prog w).andThen fun v w' => Result.ok (Next.value v) w' :=
  @run_callFunc_extern Tryd.prog 72 _ eAssignable Tryd.func72 (by kernel_rfl) (by kernel_rfl) (by kernel_rfl) (by kernel_rfl) args w
theorem r74 (args : Array Value) (w : World) : (callFunc 74 args).run Tryd.prog w = ((eElem args).run Tryd.prog w).andThen fun v w' => Result.ok (Next.value v) w' :=
  @run_callFunc_extern Tryd.prog 74 _ eElem Tryd.func74 (by kernel_rfl) (by kernel_rfl) (by kernel_rfl) (by kernel_rfl) args w
theorem r75 (args : Array Value) (w : World) : (callFunc 75 args).run Tryd.prog w = ((eImplements args).run Tryd.prog w).andThen fun v w' => Result.ok (Next.value v) w' :=
  @run_callFunc_extern Tryd.prog 75 _ eImplements Tryd.func75 (by kernel_rfl) (by kernel_rfl) (by kernel_rfl) (by kernel_rfl) args w

theorem xTypeOf36 (v : Value) (w : World) : (eTypeOf #[.iface 36 v]).run Tryd.prog w = .ok (.iface 67 (.agg #[.pointer (some ⟨10, 36, none⟩)])) w := by kernel_rfl
theorem xTypeOf42 (v : Value) (w : World) : (eTypeOf #[.iface 42 v]).run Tryd.prog w = .ok (.iface 67 (.agg #[.pointer (some ⟨10, 42, none⟩)])) w := by kernel_rfl
theorem xTypeOf44 (v : Value) (w : World) : (eTypeOf #[.iface 44 v]).run Tryd.prog w = .ok (.iface 67 (.agg #[.pointer (some ⟨10, 44, none⟩)])) w := by kernel_rfl
theorem xValueOf65 (t : Addr) (w : World) : (eValueOf #[.iface 65 (.pointer (some t))]).run Tryd.prog w = .ok (.agg #[.pointer (some ⟨10, 65, none⟩), .pointer (some ⟨w.heap.size, 0, none⟩), .int .u64 150]) (w.alloc (.cells #[.pointer (some t)] 65)) := by kernel_rfl
theorem xValueOf36 (t : Addr) (w : World) : (eValueOf #[.iface 36 (.pointer (some t))]).run Tryd.prog w = .ok (.agg #[.pointer (some ⟨10, 36, none⟩), .pointer (some ⟨w.heap.size, 0, none⟩), .int .u64 150]) (w.alloc (.cells #[.pointer (some t)] 36)) := by kernel_rfl
theorem xType65 (a : Addr) (w : World) : (eType #[.agg #[.pointer (some ⟨10, 65, none⟩), .pointer (some a), .int .u64 150]]).run Tryd.prog w = .ok (.iface 67 (.agg #[.pointer (some ⟨10, 65, none⟩)])) w := by kernel_rfl
theorem xKind65 (w : World) : (eKind #[.pointer (some ⟨10, 65, none⟩)]).run Tryd.prog w = .ok (.int .u8 22) w := by kernel_rfl
theorem xKind36 (w : World) : (eKind #[.pointer (some ⟨10, 36, none⟩)]).run Tryd.prog w = .ok (.int .u8 22) w := by kernel_rfl
theorem xElem65 (w : World) : (eElem #[.agg #[.pointer (some ⟨10, 65, none⟩)]]).run Tryd.prog w = .ok (.iface 67 (.agg #[.pointer (some ⟨10, 36, none⟩)])) w := by kernel_rfl
theorem xImplements36 (w : World) : (eImplements #[.agg #[.pointer (some ⟨10, 36, none⟩)], .iface 67 (.agg #[.pointer (some ⟨10, 27, none⟩)])]).run Tryd.prog w = .ok (.bool true) w := by kernel_rfl
theorem xAssignable36 (w : World) : (eAssignable #[.agg #[.pointer (some ⟨10, 36, none⟩)], .iface 67 (.agg #[.pointer (some ⟨10, 36, none⟩)])]).run Tryd.prog w = .ok (.bool true) w := by kernel_rfl
theorem xAssignable42 (w : World) : (eAssignable #[.agg #[.pointer (some ⟨10, 42, none⟩)], .iface 67 (.agg #[.pointer (some ⟨10, 36, none⟩)])]).run Tryd.prog w = .ok (.bool false) w := by kernel_rfl
theorem xAssignable44 (w : World) : (eAssignable #[.agg #[.pointer (some ⟨10, 44, none⟩)], .iface 67 (.agg #[.pointer (some ⟨10, 36, none⟩)])]).run Tryd.prog w = .ok (.bool false) w := by kernel_rfl

end Go.Proofs.YtnmaoodghbkmcaaDoor
