/- Drop, and what the reference's meter tells. -/
import Derived.Test.YthlbbinlkmchjaaDoorRefMeter
namespace Go.Proofs.YthlbbinlkmchjaaDoor
open Go.RowKit

theorem stepsR_any (m : M) (b : Nat) (w : World) (h : Blk w b m.rcells 84) : Calls Tryd.prog 33 #[.pointer (some ⟨b, 0, none⟩)] w fun e w' => e = .returned (.int .i64 m.dn) ∧ w' = w := by
  have c0 : w.cell? ⟨b, 2, none⟩ = some (.int .i64 m.dn) := h.cell 2
  clear h
  go_enter Tryd.func33, Tryd.ntmps33
  go_wp2
  go_ret
  exact ⟨rfl, rfl⟩
theorem heldR_any (m : M) (b : Nat) (w : World) (h : Blk w b m.rcells 84) : Calls Tryd.prog 35 #[.pointer (some ⟨b, 0, none⟩)] w fun e w' => e = .returned (.int .i64 m.nw) ∧ w' = w := by
  have c0 : w.cell? ⟨b, 3, none⟩ = some (.int .i64 m.nw) := h.cell 3
  clear h
  go_enter Tryd.func35, Tryd.ntmps35
  go_wp2
  go_ret
  exact ⟨rfl, rfl⟩
theorem peakR_any (m : M) (b : Nat) (w : World) (h : Blk w b m.rcells 84) : Calls Tryd.prog 36 #[.pointer (some ⟨b, 0, none⟩)] w fun e w' => e = .returned (.int .i64 m.pk) ∧ w' = w := by
  have c0 : w.cell? ⟨b, 4, none⟩ = some (.int .i64 m.pk) := h.cell 4
  clear h
  go_enter Tryd.func36, Tryd.ntmps36
  go_wp2
  go_ret
  exact ⟨rfl, rfl⟩
theorem refusedR_any (m : M) (b : Nat) (w : World) (h : Blk w b m.rcells 84) : Calls Tryd.prog 38 #[.pointer (some ⟨b, 0, none⟩)] w fun e w' => e = .returned (.int .i64 m.why) ∧ w' = w := by
  have c0 : w.cell? ⟨b, 5, none⟩ = some (.int .i64 m.why) := h.cell 5
  clear h
  go_enter Tryd.func38, Tryd.ntmps38
  go_wp2
  go_ret
  exact ⟨rfl, rfl⟩
set_option maxHeartbeats 1000000 in
theorem drop1_any (m : M) (hm : m.Ok) (b : Nat) (w : World) (h : Blk w b m.cells 68) :
    Calls Tryd.prog 29 #[.pointer (some ⟨b, 0, none⟩), .int .i64 1] w fun e w' => e = .returned (.bool (m.dropOk 1)) ∧ Blk w' b (m.drop 1).cells 68 ∧ Only [b] w w' := by
  have c0 : w.cell? ⟨b, 2, none⟩ = some (.int .i64 m.nw) := h.cell 2
  have fz := h.froz
  obtain ⟨_, _, _, d0, d1, d2, d3⟩ := hm
  have HB := hidden h
  clear h
  by_cases h1 : m.nw < 1
  · have e1 : m.dropOk 1 = false := by unfold M.dropOk; simp; omega
    have e2 : m.drop 1 = m := by unfold M.drop; rw [e1]; rfl
    rw [e1, e2]
    clear e1 e2
    go_enter Tryd.func29, Tryd.ntmps29
    go_wp2
    go_ret
    exact ⟨rfl, HB.out, Only.refl _ _⟩
  · have e1 : m.dropOk 1 = true := by unfold M.dropOk; simp; omega
    have e2 : m.drop 1 = { m with nw := m.nw - 1 } := by unfold M.drop; rw [e1]; rfl
    rw [e1, e2]
    clear e1 e2
    go_enter Tryd.func29, Tryd.ntmps29
    go_wp2
    go_ret
    exact ⟨rfl, HB.out.set 2 _, (Only.refl _ _).set (by simp) _⟩
set_option maxHeartbeats 1000000 in
theorem dropR1_any (m : M) (hm : m.Ok) (b : Nat) (w : World) (h : Blk w b m.rcells 84) :
    Calls Tryd.prog 30 #[.pointer (some ⟨b, 0, none⟩), .int .i64 1] w fun e w' => e = .returned (.bool (m.dropOk 1)) ∧ Blk w' b (m.drop 1).rcells 84 ∧ Only [b] w w' := by
  have c0 : w.cell? ⟨b, 3, none⟩ = some (.int .i64 m.nw) := h.cell 3
  have fz := h.froz
  obtain ⟨_, _, _, d0, d1, d2, d3⟩ := hm
  have HB := hidden h
  clear h
  by_cases h1 : m.nw < 1
  · have e1 : m.dropOk 1 = false := by unfold M.dropOk; simp; omega
    have e2 : m.drop 1 = m := by unfold M.drop; rw [e1]; rfl
    rw [e1, e2]
    clear e1 e2
    go_enter Tryd.func30, Tryd.ntmps30
    go_wp2
    go_ret
    exact ⟨rfl, HB.out, Only.refl _ _⟩
  · have e1 : m.dropOk 1 = true := by unfold M.dropOk; simp; omega
    have e2 : m.drop 1 = { m with nw := m.nw - 1 } := by unfold M.drop; rw [e1]; rfl
    rw [e1, e2]
    clear e1 e2
    go_enter Tryd.func30, Tryd.ntmps30
    go_wp2
    go_ret
    exact ⟨rfl, HB.out.set 3 _, (Only.refl _ _).set (by simp) _⟩
end Go.Proofs.YthlbbinlkmchjaaDoor
