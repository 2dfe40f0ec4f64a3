import Derived.Test.YthlbbinlkmchjaaDoorCharge
namespace Go.Proofs.YthlbbinlkmchjaaDoor
open Go.RowKit

/-- a meter as six numbers -/
structure M where
  sb : Int
  cb : Int
  dn : Int
  nw : Int
  pk : Int
  why : Int
def M.cells (m : M) : List Value := [.int .i64 m.dn, .int .i64 m.sb, .int .i64 m.nw, .int .i64 m.cb, .int .i64 m.pk, .int .i64 m.why]
def M.rcells (m : M) : List Value := [.int .i64 m.sb, .int .i64 m.cb, .int .i64 m.dn, .int .i64 m.nw, .int .i64 m.pk, .int .i64 m.why]
structure M.Ok (m : M) : Prop where
  d0 : 0 ≤ m.dn
  d1 : m.dn ≤ m.sb
  d2 : m.sb ≤ 9223372036854775807
  n0 : 0 ≤ m.nw
  n1 : m.nw ≤ m.pk
  n2 : m.pk ≤ m.cb
  n3 : m.cb ≤ 9223372036854775807


def M.stepOk (m : M) (n : Int) : Bool := chOk m.dn m.sb m.why n
def M.holdOk (m : M) (n : Int) : Bool := chOk m.nw m.cb m.why n
def M.dropOk (m : M) (n : Int) : Bool := decide (0 ≤ n ∧ n ≤ m.nw)
def M.step (m : M) (n : Int) : M := if n < 0 ∨ m.why ≠ 0 then m else if m.sb - m.dn < n then { m with dn := m.sb, why := 20 } else { m with dn := m.dn + n }
def M.hold (m : M) (n : Int) : M := if n < 0 ∨ m.why ≠ 0 then m else if m.cb - m.nw < n then { m with nw := m.cb, pk := m.cb, why := 21 } else { m with nw := m.nw + n, pk := max m.pk (m.nw + n) }
def M.drop (m : M) (n : Int) : M := if m.dropOk n = true then { m with nw := m.nw - n } else m
/-- ahead of the deferred call -/
def M.hold1 (m : M) (n : Int) : M := if n < 0 ∨ m.why ≠ 0 then m else if m.cb - m.nw < n then { m with nw := m.cb, why := 21 } else { m with nw := m.nw + n }
theorem M.hold_of (m : M) (hm : m.Ok) (n : Int) : { m.hold1 n with pk := max (m.hold1 n).pk (m.hold1 n).nw } = m.hold n := by
  obtain ⟨_, _, _, h1, h2, h3, h4⟩ := hm
  unfold M.hold1 M.hold
  split
  · cases m; simp at *; omega
  · split
    · cases m; simp at *; omega
    · rfl
theorem M.step_ok {m : M} (hm : m.Ok) (n : Int) : (m.step n).Ok := by
  obtain ⟨d0, d1, d2, n0, n1, n2, n3⟩ := hm
  unfold M.step
  split
  · exact ⟨d0, d1, d2, n0, n1, n2, n3⟩
  · split
    · exact ⟨by simp; omega, by simp, d2, n0, n1, n2, n3⟩
    · exact ⟨by simp; omega, by simp; omega, d2, n0, n1, n2, n3⟩
theorem M.hold_ok {m : M} (hm : m.Ok) (n : Int) : (m.hold n).Ok := by
  obtain ⟨d0, d1, d2, n0, n1, n2, n3⟩ := hm
  unfold M.hold
  split
  · exact ⟨d0, d1, d2, n0, n1, n2, n3⟩
  · split
    · exact ⟨d0, d1, d2, by simp; omega, by simp, by simp, n3⟩
    · exact ⟨d0, d1, d2, by simp; omega, by simp; omega, by simp; omega, n3⟩
theorem M.drop_ok {m : M} (hm : m.Ok) (n : Int) : (m.drop n).Ok := by
  obtain ⟨d0, d1, d2, n0, n1, n2, n3⟩ := hm
  unfold M.drop M.dropOk
  split
  · rename_i h
    simp at h
    exact ⟨d0, d1, d2, by simp; omega, by simp; omega, n2, n3⟩
  · exact ⟨d0, d1, d2, n0, n1, n2, n3⟩
theorem M.cells_step (m : M) (n : Int) : chCells m.cells 0 m.dn m.sb m.why n 20 = (m.step n).cells := by
  unfold chCells M.step
  split
  · rfl
  · split <;> rfl
theorem M.cells_hold1 (m : M) (n : Int) : chCells m.cells 2 m.nw m.cb m.why n 21 = (m.hold1 n).cells := by
  unfold chCells M.hold1
  split
  · rfl
  · split <;> rfl
theorem M.cnt0 {m : M} (hm : m.Ok) {w : World} {b : Nat} (h : Blk w b m.cells 68) : Cnt w b 0 m.cells m.dn m.sb m.why := ⟨h, rfl, rfl, rfl, by decide, hm.d0, hm.d1, hm.d2⟩
theorem M.cnt2 {m : M} (hm : m.Ok) {w : World} {b : Nat} (h : Blk w b m.cells 68) : Cnt w b 2 m.cells m.nw m.cb m.why := ⟨h, rfl, rfl, rfl, by decide, hm.n0, Int.le_trans hm.n1 hm.n2, hm.n3⟩

theorem hidden {p : Prop} (h : p) : Hid p := h
set_option maxHeartbeats 400000 in
theorem step_any (m : M) (hm : m.Ok) (b : Nat) (n : Int) (w : World) (h : Blk w b m.cells 68) :
    Calls Tryd.prog 25 #[.pointer (some ⟨b, 0, none⟩), .int .i64 n] w fun e w' => e = .returned (.bool (m.stepOk n)) ∧ Blk w' b (m.step n).cells 68 ∧ Only [b] w w' := by
  have HC : Hid (∀ W, Blk W b m.cells 68 → Calls Tryd.prog 49 #[.pointer (some ⟨b, 0, none⟩), .pointer (some ⟨b, 0, none⟩), .int .i64 n, .int .i64 20] W fun e w' => e = .returned (.bool (m.stepOk n)) ∧ Blk w' b (m.step n).cells 68 ∧ Only [b] W w') := fun W h => by
    have := charge_any b 0 m.cells m.dn m.sb m.why n 20 W (M.cnt0 hm h)
    rwa [M.cells_step] at this
  go_enter Tryd.func25, Tryd.ntmps25
  go_wp2_with (go_at_call 49; refine (HC.out _ h).mono ?_; rintro e w' ⟨rfl, h1, h2⟩)
  go_ret
  exact ⟨rfl, h1, h2⟩

set_option maxHeartbeats 1000000 in
theorem hold_any (m : M) (hm : m.Ok) (b : Nat) (n : Int) (w : World) (h : Blk w b m.cells 68) :
    Calls Tryd.prog 27 #[.pointer (some ⟨b, 0, none⟩), .int .i64 n] w fun e w' => e = .returned (.bool (m.holdOk n)) ∧ Blk w' b (m.hold n).cells 68 ∧ Only [b] w w' := by
  have hmf : ∀ (fn : Fn) (first cap : Array Value) (w : World), (Instr.makeFunc fn first cap).run Tryd.prog w = .ok (.func fn first cap) w := fun _ _ _ _ => rfl
  have HC : Hid (∀ W, Blk W b m.cells 68 → Calls Tryd.prog 49 #[.pointer (some ⟨b, 0, none⟩), .pointer (some ⟨b, 2, none⟩), .int .i64 n, .int .i64 21] W fun e w' => e = .returned (.bool (m.holdOk n)) ∧ Blk w' b (m.hold1 n).cells 68 ∧ Only [b] W w') := fun W h => by
    have := charge_any b 2 m.cells m.nw m.cb m.why n 21 W (M.cnt2 hm h)
    rwa [M.cells_hold1] at this
  have hb := h.alloc (.cells #[.pointer (some ⟨b, 0, none⟩)] 30)
  have hp := (Blk.new w #[.pointer (some ⟨b, 0, none⟩)] 30 rfl)
  have hpc : (w.alloc (.cells #[.pointer (some ⟨b, 0, none⟩)] 30)).cell? ⟨w.heap.size, 0, none⟩ = some (.pointer (some ⟨b, 0, none⟩)) := hp.cell 0
  have hne : w.heap.size ∉ [b] := by have := h.lt; simp; omega
  have hO : Hid (Only [] w (w.alloc (.cells #[.pointer (some ⟨b, 0, none⟩)] 30))) := (Only.refl _ _).alloc _
  have hM := hidden (M.hold_of m hm n)
  obtain ⟨W, hW⟩ : ∃ W, w.alloc (.cells #[.pointer (some ⟨b, 0, none⟩)] 30) = W := ⟨_, rfl⟩
  rw [hW] at hb hp hpc hO
  obtain ⟨g, hg⟩ : ∃ g, w.heap.size = g := ⟨_, rfl⟩
  rw [hg] at hp hpc hne
  go_enter_defers Tryd.func27, Tryd.ntmps27
  go_wp2
  clear hW hg h
  go_region_held3 (fun w' => w'.cell? ⟨g, 0, none⟩ = some (.pointer (some ⟨b, 0, none⟩))) (first | exact hpc2 | exact hpc)
    (first | (go_at_call 49; refine (HC.out _ (by exact hb)).mono ?_; rintro e w1 ⟨rfl, hb1, ho1⟩; have hp1 := ho1.blk (by exact hp) hne; have hpc2 := hp1.cell 0))
  go_wp2
  refine leaves_cons (f := 50) (args := #[.pointer (some ⟨g, 0, none⟩)]) (by simp) (by simp [go_sem]) ?_
  refine (hold1_any ⟨g, 0, none⟩ b (m.hold1 n).nw (m.hold1 n).pk .returning _ (hp1.cell 0) (hb1.cell 2) (hb1.cell 4) (hb1.froz 4)).mono ?_
  rintro e u' w'' ⟨rfl, rfl, rfl⟩
  refine ⟨_, results_tmp rfl _ _ _, rfl, ?_, ?_⟩
  · rw [← hM.out]
    exact (hb1.set 4 _).drew
  · exact hO.out.behind ((Only.fresh (Only.refl [b] W).drew ho1 (fun i h _ => h)).set (by simp) _).drew

set_option maxHeartbeats 400000 in
theorem new_yes (s c : Int) (w : World) (h0 : 0 ≤ s) (h1 : 0 ≤ c) :
    Calls Tryd.prog 16 #[.int .i64 s, .int .i64 c] w fun e w' => e = .returned (.tuple #[.pointer (some ⟨w.heap.size, 0, none⟩), .int .i64 0]) ∧ w' = w.alloc (.cells (M.cells ⟨s, c, 0, 0, 0, 0⟩).toArray 68) := by
  go_enter Tryd.func16, Tryd.ntmps16
  go_wp2
  go_ret2
  exact ⟨rfl, rfl⟩
set_option maxHeartbeats 400000 in
theorem new_no (s c : Int) (w : World) (h : s < 0 ∨ 0 ≤ s ∧ c < 0) :
    Calls Tryd.prog 16 #[.int .i64 s, .int .i64 c] w fun e w' => e = .returned (.tuple #[.pointer none, .int .i64 1]) ∧ w' = w := by
  rcases h with h | ⟨h, h2⟩
  all_goals
    go_enter Tryd.func16, Tryd.ntmps16
    go_wp2
    go_ret2
    exact ⟨rfl, rfl⟩

theorem steps_any (m : M) (b : Nat) (w : World) (h : Blk w b m.cells 68) : Calls Tryd.prog 14 #[.pointer (some ⟨b, 0, none⟩)] w fun e w' => e = .returned (.int .i64 m.dn) ∧ w' = w := by
  have c0 : w.cell? ⟨b, 0, none⟩ = some (.int .i64 m.dn) := h.cell 0
  clear h
  go_enter Tryd.func14, Tryd.ntmps14
  go_wp2
  go_ret
  exact ⟨rfl, rfl⟩
theorem held_any (m : M) (b : Nat) (w : World) (h : Blk w b m.cells 68) : Calls Tryd.prog 34 #[.pointer (some ⟨b, 0, none⟩)] w fun e w' => e = .returned (.int .i64 m.nw) ∧ w' = w := by
  have c0 : w.cell? ⟨b, 2, none⟩ = some (.int .i64 m.nw) := h.cell 2
  clear h
  go_enter Tryd.func34, Tryd.ntmps34
  go_wp2
  go_ret
  exact ⟨rfl, rfl⟩
theorem peak_any (m : M) (b : Nat) (w : World) (h : Blk w b m.cells 68) : Calls Tryd.prog 15 #[.pointer (some ⟨b, 0, none⟩)] w fun e w' => e = .returned (.int .i64 m.pk) ∧ w' = w := by
  have c0 : w.cell? ⟨b, 4, none⟩ = some (.int .i64 m.pk) := h.cell 4
  clear h
  go_enter Tryd.func15, Tryd.ntmps15
  go_wp2
  go_ret
  exact ⟨rfl, rfl⟩
theorem refused_any (m : M) (b : Nat) (w : World) (h : Blk w b m.cells 68) : Calls Tryd.prog 37 #[.pointer (some ⟨b, 0, none⟩)] w fun e w' => e = .returned (.int .i64 m.why) ∧ w' = w := by
  have c0 : w.cell? ⟨b, 5, none⟩ = some (.int .i64 m.why) := h.cell 5
  clear h
  go_enter Tryd.func37, Tryd.ntmps37
  go_wp2
  go_ret
  exact ⟨rfl, rfl⟩
end Go.Proofs.YthlbbinlkmchjaaDoor
