/- errors.As at a chain of this program's errors, the target a **fault.Located: Go's own text of errors.As is walked; the three entries that read or write memory by small laws. -/
import Derived.Test.YtnmaoodghbkmcaaDoorClass
import Derived.Test.YtnmaoodghbkmcaaDoorHandles
namespace Go.Proofs.YtnmaoodghbkmcaaDoor
open Go.RowKit Go.Extern.Stop Go.Stop Go.Extern

/-! ### the three entries that read or write memory -/
theorem method_at (z : Sem Value) (f : TypeId → Addr → Nat → Nat → Sem Value) (v : Value) : ∃ k : Option (TypeId × Addr × Nat) → Sem Value,
    ReflectliteValue.method z f #[v] = (ReflectliteValue.parts v >>= k) ∧ ∀ t a fl, k (some (t, a, fl)) = f t a fl (fl % 32) := ⟨_, rfl, fun _ _ _ => rfl⟩
theorem parts65 (a : Addr) (w : World) : (ReflectliteValue.parts (.agg #[.pointer (some ⟨10, 65, none⟩), .pointer (some a), .int .u64 150])).run Tryd.prog w = .ok (some (65, a, 150)) w := by kernel_rfl
theorem parts36a (a : Addr) (w : World) : (ReflectliteValue.parts (.agg #[.pointer (some ⟨10, 36, none⟩), .pointer (some a), .int .u64 406])).run Tryd.prog w = .ok (some (36, a, 406)) w := by kernel_rfl
theorem parts36 (a : Addr) (w : World) : (ReflectliteValue.parts (.agg #[.pointer (some ⟨10, 36, none⟩), .pointer (some a), .int .u64 150])).run Tryd.prog w = .ok (some (36, a, 150)) w := by kernel_rfl
theorem xIsNil65 (a p : Addr) (W : World) (ha : W.cell? a = some (.pointer (some p))) :
    (eIsNil #[.agg #[.pointer (some ⟨10, 65, none⟩), .pointer (some a), .int .u64 150]]).run Tryd.prog W = .ok (.bool false) W := by
  unfold eIsNil
  obtain ⟨k, hk, hs⟩ := method_at (ReflectliteValue.valueError "reflectlite.Value.IsNil" 0) ReflectliteValue.isNil (.agg #[.pointer (some ⟨10, 65, none⟩), .pointer (some a), .int .u64 150])
  rw [hk]
  simp only [Sem.run_bind, parts65, Result.andThen, hs]
  simp [ReflectliteValue.isNil, loadVar, isAgg, underlying, Tryd.underlying65, ha, Result.andThen]
theorem elemOf65 (w : World) : (Rtype.elem? 65).run Tryd.prog w = .ok (some 36) w := by kernel_rfl
theorem mk36 (p : Addr) (w : World) : (ReflectliteValue.mk 36 p ReflectliteValue.flagAddr).run Tryd.prog w = .ok (.agg #[.pointer (some ⟨10, 36, none⟩), .pointer (some p), .int .u64 406]) w := by kernel_rfl
theorem xElemV65 (a p : Addr) (W : World) (ha : W.cell? a = some (.pointer (some p))) :
    (eElemV #[.agg #[.pointer (some ⟨10, 65, none⟩), .pointer (some a), .int .u64 150]]).run Tryd.prog W = .ok (.agg #[.pointer (some ⟨10, 36, none⟩), .pointer (some p), .int .u64 406]) W := by
  unfold eElemV
  obtain ⟨k, hk, hs⟩ := method_at (ReflectliteValue.valueError "reflectlite.Value.Elem" 0) ReflectliteValue.elem (.agg #[.pointer (some ⟨10, 65, none⟩), .pointer (some a), .int .u64 150])
  rw [hk]
  simp only [Sem.run_bind, parts65, Result.andThen, hs]
  simp [ReflectliteValue.elem, loadVar, isAgg, underlying, Tryd.underlying65, ha, Result.andThen, elemOf65, mk36]
theorem direct36 (w : World) : (Rtype.directlyAssignable 36 36).run Tryd.prog w = .ok true w := by kernel_rfl
theorem set_at (v x : Value) (ta b e : Addr) (old : Value) (W : World) (hb : W.cell? b = some (.pointer (some e))) (ht : W.cell? ta = some old) (hf : W.frozen? ta = false) : ∃ k : Option (TypeId × Addr × Nat) → Option (TypeId × Addr × Nat) → Sem Value,
    ReflectliteValue.set #[v, x] = (ReflectliteValue.parts v >>= fun p => ReflectliteValue.parts x >>= fun q => k p q) ∧ (k (some (36, ta, 406)) (some (36, b, 150))).run Tryd.prog W = .ok (.tuple #[]) (W.setCell ta (.pointer (some e))) := by
  refine ⟨_, rfl, ?_⟩
  simp [ReflectliteValue.flagAddr, loadVar, isAgg, underlying, Tryd.underlying36, hb, Result.andThen, direct36, storeVar, Value.cells, storeCells, Addr.add]
  rw [run_store Tryd.prog W ta _ _ (by rfl)]
  simp [ht, hf]
theorem xSet36 (ta b e : Addr) (old : Value) (W : World) (hb : W.cell? b = some (.pointer (some e))) (ht : W.cell? ta = some old) (hf : W.frozen? ta = false) :
    (eSet #[.agg #[.pointer (some ⟨10, 36, none⟩), .pointer (some ta), .int .u64 406], .agg #[.pointer (some ⟨10, 36, none⟩), .pointer (some b), .int .u64 150]]).run Tryd.prog W
      = .ok (.tuple #[]) (W.setCell ta (.pointer (some e))) := by
  unfold eSet
  obtain ⟨k, hk, hs⟩ := set_at (.agg #[.pointer (some ⟨10, 36, none⟩), .pointer (some ta), .int .u64 406]) (.agg #[.pointer (some ⟨10, 36, none⟩), .pointer (some b), .int .u64 150]) ta b e old W hb ht hf
  rw [hk]
  simp only [Sem.run_bind, parts36a, parts36, Result.andThen, hs]
end Go.Proofs.YtnmaoodghbkmcaaDoor
