/- fault.find, fault.Of and fault.Error as contracts: the fault of the first Located in a chain of errors. -/
import Derived.Test.YtnmaoodghbkmcaaDoorAsAny
import Derived.Defers
import Derived.Recover
namespace Go.Proofs.YtnmaoodghbkmcaaDoor
open Go.RowKit Go.Extern.Stop Go.Stop Go.Extern

/-- find's deferred closure where nothing has panicked -/
theorem catch_idle (p : Addr) (w : World) :
    CallsD Tryd.prog 25 #[.pointer (some p)] .returning w fun e u' w' => e = .returned (.tuple #[]) ∧ u' = .returning ∧ w' = w := by
  refine callsD_of_wpS Tryd.func25 rfl fun c₀ cs hu => ?_
  apply wpS_seq
  apply wpS_region
  simp [wpOpsS, go_sem, recoverD, hu, Tryd.ntmps25, Exit.thenS]
  refine wpS_cond (t := false) (by simp [Act.eval, Array.replicate]) ?_
  simp only [Bool.false_eq_true, if_false]
  refine wpS_of_wp (wp_skip ?_)
  cases c₀
  simp_all [bodyPostS, results, Tryd.results25]

set_option maxHeartbeats 2000000 in
theorem find_nil (w : World) : Calls Tryd.prog 20 #[.nilIface] w fun e w' => e = .returned (.pointer none) ∧ Only [] w w' := by
  have hmf : ∀ (fn : Fn) (first cap : Array Value) (w : World), (Instr.makeFunc fn first cap).run Tryd.prog w = .ok (.func fn first cap) w := fun _ _ _ _ => rfl
  go_enter_defers Tryd.func20, Tryd.ntmps20
  go_wp2_with (first | (go_at_call 26; refine (as_nil _ _).mono ?_; rintro e w' ⟨rfl, rfl⟩))
  refine leaves_cons (f := 25) (args := #[.pointer (some ⟨w.heap.size, 0, none⟩)]) (by simp) (by simp [go_sem]) ?_
  refine (catch_idle ⟨w.heap.size, 0, none⟩ _).mono ?_
  rintro e u' w'' ⟨rfl, rfl, rfl⟩
  simp [Leaves, settle, results, Tryd.results20, go_sem]
  exact (Only.refl _ _).alloc _

set_option maxHeartbeats 2000000 in
theorem find_none {A : Nat → Addr} {w : World} {E : Value} {d : Nat} (hG : Gl A w) (hch : Cw E none d) : Calls Tryd.prog 20 #[E] w fun e w' => e = .returned (.pointer none) ∧ Only [] w w' := by
  have hmf : ∀ (fn : Fn) (first cap : Array Value) (w : World), (Instr.makeFunc fn first cap).run Tryd.prog w = .ok (.func fn first cap) w := fun _ _ _ _ => rfl
  have HG : Hid (Gl A w) := hG
  clear hG
  go_enter_defers Tryd.func20, Tryd.ntmps20
  go_wp2_with fail
  refine (as_any (A := A) (HG.out.only ((Only.refl _ _).alloc _)) hch (Blk.new _ _ _ rfl) false rfl).mono ?_
  rintro e w1 ⟨rfl, hb1, ho1⟩
  have c1 := hb1.cell 0
  have f1 := hb1.froz 0
  have HO : Hid (Only [] w w1) := ((Only.refl [] w).alloc _ |>.fresh ho1 (by simp))
  clear ho1
  have hb0 := hb1
  clear hb1
  go_wp2
  refine leaves_cons (f := 25) (args := #[.pointer (some ⟨w.heap.size, 0, none⟩)]) (by simp) (by simp [go_sem]) ?_
  refine (catch_idle ⟨w.heap.size, 0, none⟩ _).mono ?_
  rintro e u' w'' ⟨rfl, rfl, rfl⟩
  have c2 := (hb0.set 0 (.pointer none)).cell 0
  have HX : Hid (Only [] w (w1.setCell ⟨w.heap.size, 0, none⟩ (.pointer none))) := HO.out.set (.inr (Nat.le_refl _)) _
  obtain ⟨W2, hW2⟩ : ∃ W2, w1.setCell ⟨w.heap.size, 0, none⟩ (.pointer none) = W2 := ⟨_, rfl⟩
  rw [hW2] at c2 HX ⊢
  simp [ptrV] at c2
  simp [Leaves, settle, results, Tryd.results20, go_sem, c2]
  exact HX.out

set_option maxHeartbeats 2000000 in
theorem find_some {A : Nat → Addr} {w : World} {E : Value} {p d : Nat} (hG : Gl A w) (hch : Cw E (some p) d) : Calls Tryd.prog 20 #[E] w fun e w' => e = .returned (.pointer (some ⟨p, 0, none⟩)) ∧ Only [] w w' := by
  have hmf : ∀ (fn : Fn) (first cap : Array Value) (w : World), (Instr.makeFunc fn first cap).run Tryd.prog w = .ok (.func fn first cap) w := fun _ _ _ _ => rfl
  have HG : Hid (Gl A w) := hG
  clear hG
  go_enter_defers Tryd.func20, Tryd.ntmps20
  go_wp2_with fail
  refine (as_any (A := A) (HG.out.only ((Only.refl _ _).alloc _)) hch (Blk.new _ _ _ rfl) true rfl).mono ?_
  rintro e w1 ⟨rfl, hb1, ho1⟩
  have c1 : w1.cell? ⟨w.heap.size, 0, none⟩ = some (.pointer (some ⟨p, 0, none⟩)) := hb1.cell 0
  have f1 := hb1.froz 0
  have HO : Hid (Only [] w w1) := ((Only.refl [] w).alloc _ |>.fresh ho1 (by simp))
  clear ho1
  have HB0 : Hid (Blk w1 w.heap.size [ptrV (some p)] 36) := hb1
  clear hb1
  go_wp2
  refine leaves_cons (f := 25) (args := #[.pointer (some ⟨w.heap.size, 0, none⟩)]) (by simp) (by simp [go_sem]) ?_
  refine (catch_idle ⟨w.heap.size, 0, none⟩ _).mono ?_
  rintro e u' w'' ⟨rfl, rfl, rfl⟩
  have c2 : (w1.setCell ⟨w.heap.size, 0, none⟩ (.pointer (some ⟨p, 0, none⟩))).cell? ⟨w.heap.size, 0, none⟩ = some (.pointer (some ⟨p, 0, none⟩)) := (HB0.out.set 0 (.pointer (some ⟨p, 0, none⟩))).cell 0
  have HX : Hid (Only [] w (w1.setCell ⟨w.heap.size, 0, none⟩ (.pointer (some ⟨p, 0, none⟩)))) := HO.out.set (.inr (Nat.le_refl _)) _
  obtain ⟨W2, hW2⟩ : ∃ W2, w1.setCell ⟨w.heap.size, 0, none⟩ (.pointer (some ⟨p, 0, none⟩)) = W2 := ⟨_, rfl⟩
  rw [hW2] at c2 HX ⊢
  simp [Leaves, settle, results, Tryd.results20, go_sem, c2]
  exact HX.out
end Go.Proofs.YtnmaoodghbkmcaaDoor
