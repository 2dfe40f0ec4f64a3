/- errors.As walked: which Located is the first in a chain of errors. -/
import Derived.Test.YtnmaoodghbkmcaaDoorAs
namespace Go.Proofs.YtnmaoodghbkmcaaDoor
open Go.RowKit Go.Extern.Stop Go.Stop Go.Extern

/-- a chain of errors: the block of the Located in it, if there is one; how many errors at most are in it -/
def Cw : Value → Option Nat → Nat → Prop
  | _, _, 0 => False
  | E, c, d + 1 => (∃ p, E = .iface 36 (.pointer (some ⟨p, 0, none⟩)) ∧ c = some p) ∨ (E = .iface 42 (.agg #[]) ∧ c = none) ∨ ∃ E1, E = .iface 44 (.agg #[E1]) ∧ Cw E1 c d
theorem Cw.loc (p : Nat) : Cw (.iface 36 (.pointer (some ⟨p, 0, none⟩))) (some p) 1 := .inl ⟨p, rfl, rfl⟩
theorem Cw.other : Cw (.iface 42 (.agg #[])) none 1 := .inr (.inl ⟨rfl, rfl⟩)
theorem Cw.wrap (E : Value) (c : Option Nat) (d : Nat) (h : Cw E c d) : Cw (.iface 44 (.agg #[E])) c (d + 1) := .inr (.inr ⟨E, rfl, h⟩)
theorem Cw.iface {E : Value} {c : Option Nat} {d : Nat} (h : Cw E c d) : ∃ u v, E = .iface u v := by
  cases d with
  | zero => exact h.elim
  | succ d => rcases h with ⟨_, rfl, _⟩ | ⟨rfl, _⟩ | ⟨_, rfl, _⟩ <;> exact ⟨_, _, rfl⟩
/-- a *Located, or nil -/
def ptrV : Option Nat → Value
  | none => .pointer none
  | some p => .pointer (some ⟨p, 0, none⟩)

set_option maxRecDepth 1000000 in
set_option maxHeartbeats 1000000 in
theorem as_loop {w : World} {E : Value} {c : Option Nat} {d t a : Nat} (hch : Cw E c d) (ht : Blk w t [.pointer none] 36) (ha : Blk w a [.pointer (some ⟨t, 0, none⟩)] 65) (r : Bool) (hr : r = c.isSome) :
    Calls Tryd.prog 30 #[E, .iface 65 (.pointer (some ⟨t, 0, none⟩)), .agg #[.pointer (some ⟨10, 65, none⟩), .pointer (some ⟨a, 0, none⟩), .int .u64 150], .iface 67 (.agg #[.pointer (some ⟨10, 36, none⟩)])] w fun e w' => e = .returned (.bool r) ∧ Blk w' t [ptrV c] 36 ∧ Only [t] w w' := by
  have HR : Hid (r = c.isSome) := hr
  clear hr
  have h21 := r21
  have h27 := r27
  have h31 := r31
  have h32 := r32
  have h72 := r72
  have n36 := noAs36
  have n42 := noAs42
  have n44 := noAs44
  have u42 := noUnwrap42
  have v42 := noUnwraps42
  have h44 := hasUnwrap44
  have m44 := mUnwrap44
  have mA := mAssignableTo
  have t36 := xTypeOf36
  have t42 := xTypeOf42
  have t44 := xTypeOf44
  have a36 := xAssignable36
  have a42 := xAssignable42
  have a44 := xAssignable44
  have v36 := xValueOf36
  have HT : Hid (Blk w t [.pointer none] 36) := ht
  have HA : Hid (Blk w a [.pointer (some ⟨t, 0, none⟩)] 65) := ha
  clear ht ha
  go_enter Tryd.func30, Tryd.ntmps30
  go_wp2
  have HB : Hid (Blk (w.alloc (.cells #[.pointer (some ⟨10, 65, none⟩), .pointer (some ⟨a, 0, none⟩), .int .u64 150] 78)) w.heap.size [.pointer (some ⟨10, 65, none⟩), .pointer (some ⟨a, 0, none⟩), .int .u64 150] 78) := Blk.new _ _ _ rfl
  have HO : Hid (Only [] w (w.alloc (.cells #[.pointer (some ⟨10, 65, none⟩), .pointer (some ⟨a, 0, none⟩), .int .u64 150] 78))) := (Only.refl _ _).alloc _
  obtain ⟨W1, hW1⟩ : ∃ W1, w.alloc (.cells #[.pointer (some ⟨10, 65, none⟩), .pointer (some ⟨a, 0, none⟩), .int .u64 150] 78) = W1 := ⟨_, rfl⟩
  rw [hW1] at HB HO ⊢
  clear hW1
  obtain ⟨b0, hb0⟩ : ∃ b0, w.heap.size = b0 := ⟨_, rfl⟩
  rw [hb0] at HB ⊢
  clear hb0
  go_loopg [0] d (fun k E' wl => Only [] W1 wl ∧ Cw E' c k)
  case atStart => exact ⟨Only.refl _ _, hch⟩
  case round =>
    obtain ⟨ho, hc'⟩ := hrel
    have hbb := ho.blk HB.out (by simp)
    have cb0 := hbb.cell 0
    have cb1 := hbb.cell 1
    have cb2 := hbb.cell 2
    clear hbb
    have hbt := (HO.out.trans ho).blk HT.out (by simp)
    have HBT : Hid (Blk wr t [.pointer none] 36) := hbt
    have el := xElemV65 ⟨a, 0, none⟩ ⟨t, 0, none⟩ wr (((HO.out.trans ho).blk HA.out (by simp)).cell 0)
    have HO2 : Hid (Only [] w wr) := HO.out.trans ho
    have HO3 : Hid (Only [] W1 wr) := ho
    clear ho
    cases gk with
    | zero => exact hc'.elim
    | succ d1 =>
    rcases hc' with ⟨p, rfl, hc⟩ | ⟨rfl, hc⟩ | ⟨E1, rfl, h1⟩
    · subst hc
      have st := xSet36 ⟨t, 0, none⟩ ⟨wr.heap.size, 0, none⟩ ⟨p, 0, none⟩ (.pointer none) (wr.alloc (.cells #[.pointer (some ⟨p, 0, none⟩)] 36)) ((Blk.new _ _ _ rfl).cell 0) ((hbt.alloc _).cell 0) ((hbt.alloc _).froz 0)
      clear hbt
      go_wp2
      go_ret
      exact ⟨by rw [HR.out]; rfl, (HBT.out.alloc _).set 0 _, ((HO2.out.mono (by simp)).alloc _).set (by simp) _⟩
    · subst hc
      clear hbt
      go_wp2
      go_ret
      exact ⟨by rw [HR.out]; rfl, HBT.out, HO2.out.mono (by simp)⟩
    · clear hbt
      obtain ⟨u1, v1, rfl⟩ := h1.iface
      have HC : Hid (Cw (.iface u1 v1) c d1) := h1
      clear h1
      go_wp2_with (first | (go_at_call 67; refine (wrapped_unwrap _ _).mono ?_; rintro e w' ⟨rfl, ho2⟩))
      go_roundg d1
      case measure => omega
      case rel => exact ⟨HO3.out.trans ho2, HC.out⟩
end Go.Proofs.YtnmaoodghbkmcaaDoor
