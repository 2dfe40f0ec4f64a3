/- errors.Is, fault.name, fault.class, Located's Unwrap and fault.Name as contracts. -/
import Derived.Test.YtnmaoodghbkmcaaDoorKind
namespace Go.Proofs.YtnmaoodghbkmcaaDoor
open Go.RowKit Go.Extern.Stop Go.Stop Go.Extern

/-- the library's own entry, under a name -/
def cmpEntry : Array Value → Sem Value := ReflectliteType.method fun t => do Rtype.noPackHeld "Comparable" t; pure (.bool (← typeInfo t).comparable)
theorem cmp90 (w : World) : (cmpEntry #[.agg #[.pointer (some ⟨10, 90, none⟩)]]).run Tryd.prog w = .ok (.bool true) w := by kernel_rfl

set_option maxHeartbeats 1000000 in
/-- errors.Is of nil -/
theorem is_nil (a : Addr) (w : World) : Calls Tryd.prog 15 #[.nilIface, .iface 90 (.pointer (some a))] w fun e w' => e = .returned (.bool false) ∧ w' = w := by
  have hn := run_eql_iface_nil_left (P := Tryd.prog) w 90 (.pointer (some a)) Tryd.underlying27
  go_enter Tryd.func15, Tryd.ntmps15
  go_wp2
  go_ret
  exact ⟨rfl, rfl⟩

set_option maxHeartbeats 1000000 in
/-- errors.Is of a chain, and one of the six errors -/
theorem is_any {A : Nat → Addr} {L : Bool} {w : World} {E : Value} {c : Option Nat} {d : Nat} (g : Nat) (r : Bool) (hU : L = true → UnwrapsAs A) (hG : Gl A w) (hg : g < 6) (hch : Ch A L w E c d) (hr : r = decide (c = some g)) :
    Calls Tryd.prog 15 #[E, .iface 90 (.pointer (some (A g)))] w fun e w' => e = .returned (.bool r) ∧ Only [] w w' := by
  have h21 := @run_callFunc_extern Tryd.prog 21 _ ReflectliteType.typeOf Tryd.func21 (by kernel_rfl) (by kernel_rfl) (by kernel_rfl) (by kernel_rfl)
  have h73 := @run_callFunc_extern Tryd.prog 73 _ cmpEntry Tryd.func73 (by kernel_rfl) (by kernel_rfl) (by kernel_rfl) (by kernel_rfl)
  have tT := tTypeOf90
  have cT := cmp90
  have mR := mComparable
  have HI := is_chain (r := r) hU hG hg hch hr
  obtain ⟨u1, v1, rfl⟩ := hch.iface
  have HI2 : Hid (Calls Tryd.prog 22 #[.iface u1 v1, .iface 90 (.pointer (some (A g))), .bool true] w fun e w' => e = .returned (.bool r) ∧ Only [] w w') := HI
  clear HI hch hr hU hG
  go_enter Tryd.func15, Tryd.ntmps15
  go_wp2_with (first | (go_at_call 22; refine HI2.out.mono ?_; rintro e w' ⟨rfl, ho2⟩))
  go_ret
  exact ⟨rfl, ho2⟩

/-- what a kind is told as, by its ways -/
theorem kindV_ways (A : Nat → Addr) (k : Int) : (kindV A k = .nilIface ∧ k = 0 ∧ clsOf k = none) ∨
    (∃ s g, g < 6 ∧ kindV A k = .iface 60 (.agg #[.string s, .iface 90 (.pointer (some (A g)))]) ∧ nameOf k = s ∧ clsOf k = some g) ∨
    (kindV A k = .iface 61 (.int .i64 k) ∧ nameOf k = { data := #[] } ∧ clsOf k = none) := by
  by_cases h0 : k = 0
  · subst h0
    exact .inl ⟨rfl, rfl, by decide⟩
  · cases h : info k with
    | none => exact .inr (.inr ⟨by simp [kindV, h0, h], by simp [nameOf, h0, h], by simp [clsOf, h]⟩)
    | some x => exact .inr (.inl ⟨x.1, x.2, info_lt h, by simp [kindV, h0, h], by simp [nameOf, h0, h], by simp [clsOf, h]⟩)

theorem as60 (v : Value) (w : World) : (Instr.typeAssert (.iface 60 v) 27 60 true).run Tryd.prog w = .ok (.tuple #[v, .bool true]) w := by kernel_rfl
theorem as61 (v : Value) (w : World) : (Instr.typeAssert (.iface 61 v) 27 60 true).run Tryd.prog w = .ok (.tuple #[.agg #[.string { data := #[] }, .nilIface], .bool false]) w := by kernel_rfl

set_option maxHeartbeats 1000000 in
set_option maxRecDepth 100000 in
theorem name_any (A : Nat → Addr) (k : Int) (w : World) : Calls Tryd.prog 16 #[kindV A k] w fun e w' => e = .returned (.string (nameOf k)) ∧ Only [] w w' := by
  have a60 := as60
  have a61 := as61
  rcases kindV_ways A k with ⟨hv, rfl, _⟩ | ⟨s, g, _, hv, hn, _⟩ | ⟨hv, hn, _⟩
  · rw [hv]
    clear hv
    go_enter Tryd.func16, Tryd.ntmps16
    go_wp2
    go_ret
    exact ⟨rfl, Only.refl _ _⟩
  · rw [hv, hn]
    clear hv hn
    go_enter Tryd.func16, Tryd.ntmps16
    go_wp2
    go_ret
    exact ⟨rfl, (Only.refl _ _).alloc _⟩
  · rw [hv, hn]
    clear hv hn
    go_enter Tryd.func16, Tryd.ntmps16
    go_wp2
    go_ret
    exact ⟨rfl, Only.refl _ _⟩

set_option maxHeartbeats 1000000 in
/-- fault.Name -/
theorem Name_any (A : Nat → Addr) (k : Int) (w : World) (hG : Gl A w) : Calls Tryd.prog 9 #[.int .i64 k] w fun e w' => e = .returned (.string (nameOf k)) ∧ Only [] w w' := by
  have HG : Hid (Gl A w) := hG
  clear hG
  go_enter Tryd.func9, Tryd.ntmps9
  go_wp2_with fail
  refine (kind_any A k _ HG.out).mono ?_
  rintro e w' ⟨rfl, rfl⟩
  go_wp2_with fail
  refine (name_any A k _).mono ?_
  rintro e w1 ⟨rfl, ho⟩
  go_wp2_with fail
  go_ret
  exact ⟨rfl, ho⟩
end Go.Proofs.YtnmaoodghbkmcaaDoor
