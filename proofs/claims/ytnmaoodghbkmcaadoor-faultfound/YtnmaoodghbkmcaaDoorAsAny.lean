/- errors.As as a contract. -/
import Derived.Test.YtnmaoodghbkmcaaDoorFound
import Derived.Defers
namespace Go.Proofs.YtnmaoodghbkmcaaDoor
open Go.RowKit Go.Extern.Stop Go.Stop Go.Extern

theorem as_nil (t : Value) (w : World) : Calls Tryd.prog 26 #[.nilIface, t] w fun e w' => e = .returned (.bool false) ∧ w' = w := by
  go_enter Tryd.func26, Tryd.ntmps26
  go_wp2
  go_ret
  exact ⟨rfl, rfl⟩

set_option maxRecDepth 100000 in
set_option maxHeartbeats 2000000 in
theorem as_any {A : Nat → Addr} {w : World} {E : Value} {c : Option Nat} {d t : Nat} (hG : Gl A w) (hch : Cw E c d) (ht : Blk w t [.pointer none] 36) (r : Bool) (hr : r = c.isSome) :
    Calls Tryd.prog 26 #[E, .iface 65 (.pointer (some ⟨t, 0, none⟩))] w fun e w' => e = .returned (.bool r) ∧ Blk w' t [ptrV c] 36 ∧ Only [t] w w' := by
  have h27 := r27
  have h28 := r28
  have h29 := r29
  have h47 := r47
  have h74 := r74
  have h75 := r75
  have mK := mKind
  have mE := mElem
  have mI := mImplements
  have v65 := xValueOf65
  have y65 := xType65
  have k65 := xKind65
  have k36 := xKind36
  have e65 := xElem65
  have i36 := xImplements36
  obtain ⟨u1, v1, rfl⟩ := hch.iface
  have hw := hG.hand
  have hlt := cell_lt hw
  obtain ⟨o1, ho1⟩ : ∃ o : Obj, o = .cells #[.pointer (some ⟨t, 0, none⟩)] 65 := ⟨_, rfl⟩
  have n8 := fun o => xIsNil65 ⟨w.heap.size, 0, none⟩ ⟨t, 0, none⟩ ((w.alloc (.cells #[.pointer (some ⟨t, 0, none⟩)] 65)).alloc o) (((Blk.new w #[.pointer (some ⟨t, 0, none⟩)] 65 rfl).alloc o).cell 0)
  have hg2 : ∀ o p, ((w.alloc o).alloc p).cell? ⟨6, 0, none⟩ = some (.iface 67 (.agg #[.pointer (some ⟨10, 27, none⟩)])) := fun o p => by rw [cell_past2 w o p 6 0 hlt]; exact hw
  have HA : Hid (∀ o, Blk ((w.alloc (.cells #[.pointer (some ⟨t, 0, none⟩)] 65)).alloc o) w.heap.size [.pointer (some ⟨t, 0, none⟩)] 65) := fun o => (Blk.new w #[.pointer (some ⟨t, 0, none⟩)] 65 rfl).alloc o
  have HT : Hid (Blk w t [.pointer none] 36) := ht
  have HC : Hid (Cw (.iface u1 v1) c d) := hch
  have HR : Hid (r = c.isSome) := hr
  clear ht hch hr hG hw hlt ho1 o1
  go_enter Tryd.func26, Tryd.ntmps26
  go_wp2_with (first | (go_at_call 30; refine (as_loop HC.out ((HT.out.alloc _).alloc _) (HA.out _) r HR.out).mono ?_; rintro e w' ⟨rfl, hb2, ho2⟩))
  go_ret
  exact ⟨rfl, hb2, ((((Only.refl [] w).alloc _).alloc _).mono (by simp)).trans ho2⟩
end Go.Proofs.YtnmaoodghbkmcaaDoor
