import Derived.Test.YthlbbinlkmchjaaDoorMeter
namespace Go.Proofs.YthlbbinlkmchjaaDoor
open Go.RowKit

set_option maxHeartbeats 1000000 in
theorem stepR_any (m : M) (hm : m.Ok) (b : Nat) (n : Int) (w : World) (h : Blk w b m.rcells 84) :
    Calls Tryd.prog 26 #[.pointer (some ⟨b, 0, none⟩), .int .i64 n] w fun e w' => e = .returned (.bool (m.stepOk n)) ∧ Blk w' b (m.step n).rcells 84 ∧ Only [b] w w' := by
  have c0 : w.cell? ⟨b, 0, none⟩ = some (.int .i64 m.sb) := h.cell 0
  have c2 : w.cell? ⟨b, 2, none⟩ = some (.int .i64 m.dn) := h.cell 2
  have c5 : w.cell? ⟨b, 5, none⟩ = some (.int .i64 m.why) := h.cell 5
  have fz := h.froz
  obtain ⟨d0, d1, d2, _, _, _, _⟩ := hm
  have HB := hidden h
  clear h
  by_cases h1 : n < 0 ∨ m.why ≠ 0
  · have e1 : m.stepOk n = false := by unfold M.stepOk chOk; simp; omega
    have e2 : m.step n = m := if_pos h1
    rw [e1, e2]
    clear e1 e2
    rcases (show n < 0 ∨ 0 ≤ n ∧ m.why ≠ 0 by omega) with h2 | ⟨h2, h3⟩
    all_goals
      clear h1
      try (have h4 : (m.why != 0) = true := by simpa using h3)
      try clear h3
      go_enter Tryd.func26, Tryd.ntmps26
      go_wp2
      go_ret
      exact ⟨rfl, HB.out, Only.refl _ _⟩
  · have h3 : m.why = 0 := by omega
    have h2 : 0 ≤ n := by omega
    rw [h3] at c5
    by_cases h4 : m.sb - m.dn < n
    · have e1 : m.stepOk n = false := by unfold M.stepOk chOk; simp; omega
      have e2 : m.step n = { m with dn := m.sb, why := 20 } := by unfold M.step; rw [if_neg h1, if_pos h4]
      rw [e1, e2]
      clear e1 e2 h1 h3
      go_enter Tryd.func26, Tryd.ntmps26
      go_wp2
      go_region
      go_wp2
      go_ret
      exact ⟨rfl, (HB.out.set 2 _).set 5 _, (((Only.refl _ _).set (by simp) _).set (by simp) _).drew⟩
    · have h5 : n ≤ m.sb - m.dn := by omega
      have e1 : m.stepOk n = true := by unfold M.stepOk chOk; simp; omega
      have e2 : m.step n = { m with dn := m.dn + n } := by unfold M.step; rw [if_neg h1, if_neg h4]
      rw [e1, e2]
      clear e1 e2 h1 h3 h4
      go_enter Tryd.func26, Tryd.ntmps26
      go_wp2
      go_region
      go_wp2
      go_ret
      exact ⟨rfl, HB.out.set 2 _, ((Only.refl _ _).set (by simp) _).drew⟩

set_option maxHeartbeats 1000000 in
theorem holdR_any (m : M) (hm : m.Ok) (b : Nat) (n : Int) (w : World) (h : Blk w b m.rcells 84) :
    Calls Tryd.prog 28 #[.pointer (some ⟨b, 0, none⟩), .int .i64 n] w fun e w' => e = .returned (.bool (m.holdOk n)) ∧ Blk w' b (m.hold n).rcells 84 ∧ Only [b] w w' := by
  have c1 : w.cell? ⟨b, 1, none⟩ = some (.int .i64 m.cb) := h.cell 1
  have c3 : w.cell? ⟨b, 3, none⟩ = some (.int .i64 m.nw) := h.cell 3
  have c4 : w.cell? ⟨b, 4, none⟩ = some (.int .i64 m.pk) := h.cell 4
  have c5 : w.cell? ⟨b, 5, none⟩ = some (.int .i64 m.why) := h.cell 5
  have fz := h.froz
  obtain ⟨_, _, _, d0, d1, d2, d3⟩ := hm
  have HB := hidden h
  clear h
  by_cases h1 : n < 0 ∨ m.why ≠ 0
  · have e1 : m.holdOk n = false := by unfold M.holdOk chOk; simp; omega
    have e2 : m.hold n = m := if_pos h1
    rw [e1, e2]
    clear e1 e2
    rcases (show n < 0 ∨ 0 ≤ n ∧ m.why ≠ 0 by omega) with h2 | ⟨h2, h3⟩
    all_goals
      clear h1
      try (have h4 : (m.why != 0) = true := by simpa using h3)
      try clear h3
      go_enter Tryd.func28, Tryd.ntmps28
      go_wp2
      go_ret
      exact ⟨rfl, HB.out, Only.refl _ _⟩
  · have h3 : m.why = 0 := by omega
    have h2 : 0 ≤ n := by omega
    rw [h3] at c5
    by_cases h4 : m.cb - m.nw < n
    · have e1 : m.holdOk n = false := by unfold M.holdOk chOk; simp; omega
      have e2 : m.hold n = { m with nw := m.cb, pk := m.cb, why := 21 } := by unfold M.hold; rw [if_neg h1, if_pos h4]
      rw [e1, e2]
      clear e1 e2 h1 h3
      go_enter Tryd.func28, Tryd.ntmps28
      go_wp2
      go_region
      go_wp2
      go_ret
      exact ⟨rfl, ((HB.out.set 3 _).set 4 _).set 5 _, ((((Only.refl _ _).set (by simp) _).set (by simp) _).set (by simp) _).drew⟩
    · have h5 : n ≤ m.cb - m.nw := by omega
      have e1 : m.holdOk n = true := by unfold M.holdOk chOk; simp; omega
      by_cases h6 : m.pk < m.nw + n
      · have e2 : m.hold n = { m with nw := m.nw + n, pk := m.nw + n } := by unfold M.hold; rw [if_neg h1, if_neg h4, Int.max_eq_right (by omega)]
        rw [e1, e2]
        clear e1 e2 h1 h3 h4
        go_enter Tryd.func28, Tryd.ntmps28
        go_wp2
        go_region
        go_wp2
        go_region
        go_wp2
        go_ret
        exact ⟨rfl, (HB.out.set 3 _).set 4 _, (((Only.refl _ _).set (by simp) _).set (by simp) _).drew.drew⟩
      · have e2 : m.hold n = { m with nw := m.nw + n } := by unfold M.hold; rw [if_neg h1, if_neg h4, Int.max_eq_left (by omega)]
        rw [e1, e2]
        clear e1 e2 h1 h3 h4
        go_enter Tryd.func28, Tryd.ntmps28
        go_wp2
        go_region
        go_wp2
        go_region
        go_wp2
        go_ret
        exact ⟨rfl, HB.out.set 3 _, ((Only.refl _ _).set (by simp) _).drew.drew⟩

set_option maxHeartbeats 400000 in
theorem newR_yes (s c : Int) (w : World) (h0 : 0 ≤ s) (h1 : 0 ≤ c) :
    Calls Tryd.prog 24 #[.int .i64 s, .int .i64 c] w fun e w' => e = .returned (.tuple #[.pointer (some ⟨w.heap.size, 0, none⟩), .int .i64 0]) ∧ w' = w.alloc (.cells (M.rcells ⟨s, c, 0, 0, 0, 0⟩).toArray 84) := by
  go_enter Tryd.func24, Tryd.ntmps24
  go_wp2
  go_ret2
  exact ⟨rfl, rfl⟩
set_option maxHeartbeats 400000 in
theorem newR_no (s c : Int) (w : World) (h : s < 0 ∨ 0 ≤ s ∧ c < 0) :
    Calls Tryd.prog 24 #[.int .i64 s, .int .i64 c] w fun e w' => e = .returned (.tuple #[.pointer none, .int .i64 1]) ∧ w' = w := by
  rcases h with h | ⟨h, h2⟩
  all_goals
    go_enter Tryd.func24, Tryd.ntmps24
    go_wp2
    go_ret2
    exact ⟨rfl, rfl⟩

/-- a place among n -/
def amg (i n : Int) : Int := if i.tmod n < 0 then i.tmod n + n else i.tmod n
theorem amg_bd (i n : Int) (hn : 0 < n) : 0 ≤ amg i n ∧ amg i n < n := by
  have h1 := Int.tmod_lt_of_pos i hn
  have h2 : -n < i.tmod n := by
    have := Int.tmod_lt_of_pos (-i) hn
    rw [Int.neg_tmod] at this; omega
  unfold amg
  split <;> omega
end Go.Proofs.YthlbbinlkmchjaaDoor
