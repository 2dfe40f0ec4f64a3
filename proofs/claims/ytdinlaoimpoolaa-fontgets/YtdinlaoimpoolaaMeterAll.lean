import Derived.Test.YtdinlaoimpoolaaMemAll
import Derived.Test.YtdinlaoimpoolaaProg
namespace Go.Proofs.Ytdinlaoimpoolaa
open Go.RowKit

set_option maxHeartbeats 400000 in
theorem left_any (now budget : Int) (h0 : 0 ≤ now) (h1 : now ≤ budget) (h2 : budget ≤ 9223372036854775807) (w : World) :
    Calls Try.prog 71 #[.agg #[.int .i64 now, .int .i64 budget]] w fun e w' => e = .returned (.int .i64 (budget - now)) ∧ w' = w.alloc (.cells #[.int .i64 now, .int .i64 budget] 70) := by
  go_enter Try.func71, Try.ntmps71
  go_wp2
  go_ret
  exact ⟨rfl, rfl⟩

set_option maxHeartbeats 400000 in
theorem charge1_any (pc pn : Addr) (b o : Nat) (now k : Int) (u : FrameMode) (w : World) (hpc : w.cell? pc = some (.pointer (some ⟨b, o, none⟩))) (hpn : w.cell? pn = some (.int .i64 k))
    (hc : w.cell? ⟨b, o, none⟩ = some (.int .i64 now)) (hf : w.frozen? ⟨b, o, none⟩ = false) (h0 : 0 ≤ now) (h1 : 0 ≤ k) (h2 : now + k ≤ 9223372036854775807) :
    CallsD Try.prog 70 #[.pointer (some pc), .pointer (some pn)] u w fun e u' w' => u' = u ∧ (e = .returned (.tuple #[]) ∧ w' = (w.setCell ⟨b, o, none⟩ (.int .i64 (now + k))).drew) := by
  go_enter_d Try.func70, Try.ntmps70
  go_region
  go_wp2
  go_end0
  exact ⟨rfl, rfl⟩

set_option maxHeartbeats 1000000 in
theorem hold1_any (pm : Addr) (b : Nat) (now peak : Int) (u : FrameMode) (w : World) (hpc : w.cell? pm = some (.pointer (some ⟨b, 0, none⟩)))
    (hc : w.cell? ⟨b, 2, none⟩ = some (.int .i64 now)) (hp : w.cell? ⟨b, 4, none⟩ = some (.int .i64 peak)) (hf : w.frozen? ⟨b, 4, none⟩ = false) :
    CallsD Try.prog 59 #[.pointer (some pm)] u w fun e u' w' => u' = u ∧ (e = .returned (.tuple #[]) ∧ w' = (w.setCell ⟨b, 4, none⟩ (.int .i64 (max peak now))).drew) := by
  go_enter_d Try.func59, Try.ntmps59
  go_region
  go_wp2
  all_goals
    go_end0
    refine ⟨rfl, ?_⟩
    first | rw [Int.max_eq_right (by omega)] | rw [Int.max_eq_left (by omega)]

/-- the cells of one of a meter's counts, ahead of a charge -/
structure Cnt (w : World) (b o : Nat) (xs : List Value) (now budget why : Int) : Prop where
  blk : Blk w b xs 72
  c0 : xs[o]? = some (.int .i64 now)
  c1 : xs[o + 1]? = some (.int .i64 budget)
  c5 : xs[5]? = some (.int .i64 why)
  o5 : o + 1 < 5
  h0 : 0 ≤ now
  h1 : now ≤ budget
  h2 : budget ≤ 9223372036854775807

set_option maxHeartbeats 1000000 in
theorem charge_bad (b o : Nat) (xs : List Value) (now budget why n x : Int) (w : World) (h : Cnt w b o xs now budget why) (hn : n < 0 ∨ (0 ≤ n ∧ why ≠ 0)) :
    Calls Try.prog 54 #[.pointer (some ⟨b, 0, none⟩), .pointer (some ⟨b, o, none⟩), .int .i64 n, .int .i64 x] w fun e w' => e = .returned (.bool false) ∧ Blk w' b (xs.set o (.int .i64 now)) 72 ∧ Only [b] w w' := by
  have hmf : ∀ (fn : Fn) (first cap : Array Value) (w : World), (Instr.makeFunc fn first cap).run Try.prog w = .ok (.func fn first cap) w := fun _ _ _ _ => rfl
  obtain ⟨hb, x0, x1, x5, o5, h0, h1, h2⟩ := h
  have hlt := hb.lt
  have hbne : ¬ b = w.heap.size := by omega
  have hbne1 : ¬ b = w.heap.size + 1 := by omega
  have hbk : ∀ k, ¬ b = w.heap.size + k := by omega
  have c0 := (hb.cell o).trans x0
  have c1 := (hb.cell (o + 1)).trans x1
  have c5 := (hb.cell 5).trans x5
  have fz := hb.froz
  have HB : Hid (Blk w b xs 72) := hb
  clear hb x0 x1 x5
  rcases hn with hn | ⟨hn, hw⟩
  all_goals
    try (have hw' : (why != 0) = true := by simpa using hw)
    try clear hw
    go_enter_defers Try.func54, Try.ntmps54
    go_wp2
    refine leaves_cons (f := 70) (args := #[.pointer (some ⟨w.heap.size, 0, none⟩), .pointer (some ⟨w.heap.size + 1, 0, none⟩)]) (by simp) (by simp [go_sem]) ?_
    refine (charge1_any ⟨w.heap.size, 0, none⟩ ⟨w.heap.size + 1, 0, none⟩ b o now 0 .returning _ (by simp [go_sem]) (by simp [go_sem]) (by simp [go_sem, *]) (by simp [go_sem, *]) h0 (by omega) (by omega)).mono ?_
    rintro e u' w'' ⟨rfl, rfl, rfl⟩
    refine ⟨_, results_tmp rfl _ _ _, rfl, ?_, ?_⟩
    · rw [Int.add_zero]
      exact (((HB.out.alloc _).alloc _).set o _).drew
    · exact ((((Only.refl _ _).alloc _).alloc _).set (by simp) _).drew

set_option maxHeartbeats 1000000 in
theorem charge_good (b o : Nat) (xs : List Value) (now budget n x : Int) (w : World) (h : Cnt w b o xs now budget 0) (hn : 0 ≤ n) (hn2 : n ≤ budget - now) :
    Calls Try.prog 54 #[.pointer (some ⟨b, 0, none⟩), .pointer (some ⟨b, o, none⟩), .int .i64 n, .int .i64 x] w fun e w' => e = .returned (.bool true) ∧ Blk w' b (xs.set o (.int .i64 (now + n))) 72 ∧ Only [b] w w' := by
  have hmf : ∀ (fn : Fn) (first cap : Array Value) (w : World), (Instr.makeFunc fn first cap).run Try.prog w = .ok (.func fn first cap) w := fun _ _ _ _ => rfl
  obtain ⟨hb, x0, x1, x5, o5, h0, h1, h2⟩ := h
  have hlt := hb.lt
  have hbne : ¬ b = w.heap.size := by omega
  have hbne1 : ¬ b = w.heap.size + 1 := by omega
  have hbk : ∀ k, ¬ b = w.heap.size + k := by omega
  have hbne2 : ¬ b = w.heap.size + 2 := by omega
  have c0 := (hb.cell o).trans x0
  have c1 := (hb.cell (o + 1)).trans x1
  have c5 := (hb.cell 5).trans x5
  have fz := hb.froz
  have p3 : ∀ o p q i, (((w.alloc o).alloc p).alloc q).cell? ⟨b, i, none⟩ = w.cell? ⟨b, i, none⟩ := fun o p q i => cell_past3 w o p q b i hlt
  have p4 : ∀ o p q r i, ((((w.alloc o).alloc p).alloc q).alloc r).cell? ⟨b, i, none⟩ = w.cell? ⟨b, i, none⟩ := fun o p q r i => cell_past4 w o p q r b i hlt
  have f4 : ∀ o p q r i, ((((w.alloc o).alloc p).alloc q).alloc r).frozen? ⟨b, i, none⟩ = w.frozen? ⟨b, i, none⟩ := fun o p q r i => froz_past4 w o p q r b i hlt
  have HB : Hid (Blk w b xs 72) := hb
  clear hb x0 x1 x5
  go_enter_defers Try.func54, Try.ntmps54
  go_wp2_with (go_at_call 71; refine (left_any now budget h0 h1 h2 _).mono ?_; rintro e w' ⟨rfl, rfl⟩)
  refine leaves_cons (f := 70) (args := #[.pointer (some ⟨w.heap.size, 0, none⟩), .pointer (some ⟨w.heap.size + 1, 0, none⟩)]) (by simp) (by simp [go_sem]) ?_
  refine (charge1_any ⟨w.heap.size, 0, none⟩ ⟨w.heap.size + 1, 0, none⟩ b o now n .returning _ ((((Blk.new _ _ _ rfl).alloc _).alloc _).cell 0) (((Blk.new _ _ _ (by simp)).alloc _).cell 0) ((cell_past3 _ _ _ _ _ _ hlt).trans c0) ((((HB.out.alloc _).alloc _).alloc _).froz _) h0 (by omega) (by omega)).mono ?_
  rintro e u' w'' ⟨rfl, rfl, rfl⟩
  refine ⟨_, results_tmp rfl _ _ _, rfl, ?_, ?_⟩
  · exact ((((HB.out.alloc _).alloc _).alloc _).set o _).drew
  · exact (((((Only.refl _ _).alloc _).alloc _).alloc _).set (by simp) _).drew

set_option maxHeartbeats 1000000 in
theorem charge_over (b o : Nat) (xs : List Value) (now budget n x : Int) (w : World) (h : Cnt w b o xs now budget 0) (hn : 0 ≤ n) (hn2 : budget - now < n) :
    Calls Try.prog 54 #[.pointer (some ⟨b, 0, none⟩), .pointer (some ⟨b, o, none⟩), .int .i64 n, .int .i64 x] w fun e w' => e = .returned (.bool false) ∧ Blk w' b ((xs.set 5 (.int .i64 x)).set o (.int .i64 budget)) 72 ∧ Only [b] w w' := by
  have hmf : ∀ (fn : Fn) (first cap : Array Value) (w : World), (Instr.makeFunc fn first cap).run Try.prog w = .ok (.func fn first cap) w := fun _ _ _ _ => rfl
  obtain ⟨hb, x0, x1, x5, o5, h0, h1, h2⟩ := h
  have hlt := hb.lt
  have hbne : ¬ b = w.heap.size := by omega
  have hbne1 : ¬ b = w.heap.size + 1 := by omega
  have hbk : ∀ k, ¬ b = w.heap.size + k := by omega
  have hbne2 : ¬ b = w.heap.size + 2 := by omega
  have ho5 : ¬ o = 5 := by omega
  have c0 := (hb.cell o).trans x0
  have c1 := (hb.cell (o + 1)).trans x1
  have c5 := (hb.cell 5).trans x5
  have fz := hb.froz
  have p3 : ∀ o p q i, (((w.alloc o).alloc p).alloc q).cell? ⟨b, i, none⟩ = w.cell? ⟨b, i, none⟩ := fun o p q i => cell_past3 w o p q b i hlt
  have p4 : ∀ o p q r i, ((((w.alloc o).alloc p).alloc q).alloc r).cell? ⟨b, i, none⟩ = w.cell? ⟨b, i, none⟩ := fun o p q r i => cell_past4 w o p q r b i hlt
  have f4 : ∀ o p q r i, ((((w.alloc o).alloc p).alloc q).alloc r).frozen? ⟨b, i, none⟩ = w.frozen? ⟨b, i, none⟩ := fun o p q r i => froz_past4 w o p q r b i hlt
  have HB : Hid (Blk w b xs 72) := hb
  have HX : Hid (xs[o]? = some (.int .i64 now)) := x0
  have HE : Hid (now + (budget - now) = budget) := by show _ = _; omega
  clear hb x0 x1 x5
  go_enter_defers Try.func54, Try.ntmps54
  go_wp2_with (go_at_call 71; refine (left_any now budget h0 h1 h2 _).mono ?_; rintro e w' ⟨rfl, rfl⟩)
  refine leaves_cons (f := 70) (args := #[.pointer (some ⟨w.heap.size, 0, none⟩), .pointer (some ⟨w.heap.size + 1, 0, none⟩)]) (by simp) (by simp [go_sem]) ?_
  refine (charge1_any ⟨w.heap.size, 0, none⟩ ⟨w.heap.size + 1, 0, none⟩ b o now (budget - now) .returning _ (((((Blk.new _ _ _ rfl).alloc _).alloc _).alloc _ |>.other _ _ (by simpa using Ne.symm hbne)).cell 0) ((((Blk.new _ _ _ (by simp)).alloc _).alloc _ |>.other _ _ (by simpa using Ne.symm hbne1)).cell 0) (((((HB.out.alloc _).alloc _).alloc _).alloc _ |>.set 5 _).cell o |>.trans ((List.getElem?_set_ne (Ne.symm ho5)).trans HX.out)) (((((HB.out.alloc _).alloc _).alloc _).alloc _ |>.set 5 _).froz _) h0 (by omega) (by omega)).mono ?_
  rintro e u' w'' ⟨rfl, rfl, rfl⟩
  refine ⟨_, results_tmp rfl _ _ _, rfl, ?_, ?_⟩
  · rw [HE.out]
    exact ((((((HB.out.alloc _).alloc _).alloc _).alloc _).set 5 _).set o _).drew
  · exact (((((((Only.refl _ _).alloc _).alloc _).alloc _).alloc _).set (by simp) _).set (by simp) _).drew
/-- does a charge go by? -/
def chOk (now budget why n : Int) : Bool := decide (0 ≤ n ∧ why = 0 ∧ n ≤ budget - now)
/-- what it leaves of the cells -/
def chCells (xs : List Value) (o : Nat) (now budget why n x : Int) : List Value :=
  if n < 0 ∨ why ≠ 0 then xs.set o (.int .i64 now) else if budget - now < n then (xs.set 5 (.int .i64 x)).set o (.int .i64 budget) else xs.set o (.int .i64 (now + n))

theorem charge_any (b o : Nat) (xs : List Value) (now budget why n x : Int) (w : World) (h : Cnt w b o xs now budget why) :
    Calls Try.prog 54 #[.pointer (some ⟨b, 0, none⟩), .pointer (some ⟨b, o, none⟩), .int .i64 n, .int .i64 x] w fun e w' => e = .returned (.bool (chOk now budget why n)) ∧ Blk w' b (chCells xs o now budget why n x) 72 ∧ Only [b] w w' := by
  by_cases h1 : n < 0 ∨ why ≠ 0
  · have e1 : chOk now budget why n = false := by unfold chOk; simp; omega
    have e2 : chCells xs o now budget why n x = xs.set o (.int .i64 now) := if_pos h1
    rw [e1, e2]
    exact charge_bad b o xs now budget why n x w h (by omega)
  · have h3 : why = 0 := by omega
    subst h3
    by_cases h2 : budget - now < n
    · have e1 : chOk now budget 0 n = false := by unfold chOk; simp; omega
      have e2 : chCells xs o now budget 0 n x = (xs.set 5 (.int .i64 x)).set o (.int .i64 budget) := by unfold chCells; rw [if_neg h1, if_pos h2]
      rw [e1, e2]
      exact charge_over b o xs now budget n x w h (by omega) h2
    · have e1 : chOk now budget 0 n = true := by unfold chOk; simp; omega
      have e2 : chCells xs o now budget 0 n x = xs.set o (.int .i64 (now + n)) := by unfold chCells; rw [if_neg h1, if_neg h2]
      rw [e1, e2]
      exact charge_good b o xs now budget n x w h (by omega) (by omega)
end Go.Proofs.Ytdinlaoimpoolaa
namespace Go.Proofs.Ytdinlaoimpoolaa
open Go.RowKit

/-- a meter as six numbers -/
structure M where
  sb : Int
  cb : Int
  dn : Int
  nw : Int
  pk : Int
  why : Int
def M.cells (m : M) : List Value := [.int .i64 m.dn, .int .i64 m.sb, .int .i64 m.nw, .int .i64 m.cb, .int .i64 m.pk, .int .i64 m.why]
def M.rcells (m : M) : List Value := [.int .i64 m.sb, .int .i64 m.cb, .int .i64 m.dn, .int .i64 m.nw, .int .i64 m.pk, .int .i64 m.why]
structure M.Ok (m : M) : Prop where
  d0 : 0 ≤ m.dn
  d1 : m.dn ≤ m.sb
  d2 : m.sb ≤ 9223372036854775807
  n0 : 0 ≤ m.nw
  n1 : m.nw ≤ m.pk
  n2 : m.pk ≤ m.cb
  n3 : m.cb ≤ 9223372036854775807


def M.stepOk (m : M) (n : Int) : Bool := chOk m.dn m.sb m.why n
def M.holdOk (m : M) (n : Int) : Bool := chOk m.nw m.cb m.why n
def M.dropOk (m : M) (n : Int) : Bool := decide (0 ≤ n ∧ n ≤ m.nw)
def M.step (m : M) (n : Int) : M := if n < 0 ∨ m.why ≠ 0 then m else if m.sb - m.dn < n then { m with dn := m.sb, why := 20 } else { m with dn := m.dn + n }
def M.hold (m : M) (n : Int) : M := if n < 0 ∨ m.why ≠ 0 then m else if m.cb - m.nw < n then { m with nw := m.cb, pk := m.cb, why := 21 } else { m with nw := m.nw + n, pk := max m.pk (m.nw + n) }
def M.drop (m : M) (n : Int) : M := if m.dropOk n = true then { m with nw := m.nw - n } else m
/-- ahead of the deferred call -/
def M.hold1 (m : M) (n : Int) : M := if n < 0 ∨ m.why ≠ 0 then m else if m.cb - m.nw < n then { m with nw := m.cb, why := 21 } else { m with nw := m.nw + n }
theorem M.hold_of (m : M) (hm : m.Ok) (n : Int) : { m.hold1 n with pk := max (m.hold1 n).pk (m.hold1 n).nw } = m.hold n := by
  obtain ⟨_, _, _, h1, h2, h3, h4⟩ := hm
  unfold M.hold1 M.hold
  split
  · cases m; simp at *; omega
  · split
    · cases m; simp at *; omega
    · rfl
theorem M.step_ok {m : M} (hm : m.Ok) (n : Int) : (m.step n).Ok := by
  obtain ⟨d0, d1, d2, n0, n1, n2, n3⟩ := hm
  unfold M.step
  split
  · exact ⟨d0, d1, d2, n0, n1, n2, n3⟩
  · split
    · exact ⟨by simp; omega, by simp, d2, n0, n1, n2, n3⟩
    · exact ⟨by simp; omega, by simp; omega, d2, n0, n1, n2, n3⟩
theorem M.hold_ok {m : M} (hm : m.Ok) (n : Int) : (m.hold n).Ok := by
  obtain ⟨d0, d1, d2, n0, n1, n2, n3⟩ := hm
  unfold M.hold
  split
  · exact ⟨d0, d1, d2, n0, n1, n2, n3⟩
  · split
    · exact ⟨d0, d1, d2, by simp; omega, by simp, by simp, n3⟩
    · exact ⟨d0, d1, d2, by simp; omega, by simp; omega, by simp; omega, n3⟩
theorem M.drop_ok {m : M} (hm : m.Ok) (n : Int) : (m.drop n).Ok := by
  obtain ⟨d0, d1, d2, n0, n1, n2, n3⟩ := hm
  unfold M.drop M.dropOk
  split
  · rename_i h
    simp at h
    exact ⟨d0, d1, d2, by simp; omega, by simp; omega, n2, n3⟩
  · exact ⟨d0, d1, d2, n0, n1, n2, n3⟩
theorem M.cells_step (m : M) (n : Int) : chCells m.cells 0 m.dn m.sb m.why n 20 = (m.step n).cells := by
  unfold chCells M.step
  split
  · rfl
  · split <;> rfl
theorem M.cells_hold1 (m : M) (n : Int) : chCells m.cells 2 m.nw m.cb m.why n 21 = (m.hold1 n).cells := by
  unfold chCells M.hold1
  split
  · rfl
  · split <;> rfl
theorem M.cnt0 {m : M} (hm : m.Ok) {w : World} {b : Nat} (h : Blk w b m.cells 72) : Cnt w b 0 m.cells m.dn m.sb m.why := ⟨h, rfl, rfl, rfl, by decide, hm.d0, hm.d1, hm.d2⟩
theorem M.cnt2 {m : M} (hm : m.Ok) {w : World} {b : Nat} (h : Blk w b m.cells 72) : Cnt w b 2 m.cells m.nw m.cb m.why := ⟨h, rfl, rfl, rfl, by decide, hm.n0, Int.le_trans hm.n1 hm.n2, hm.n3⟩

theorem hidden {p : Prop} (h : p) : Hid p := h
set_option maxHeartbeats 400000 in
theorem step_any (m : M) (hm : m.Ok) (b : Nat) (n : Int) (w : World) (h : Blk w b m.cells 72) :
    Calls Try.prog 32 #[.pointer (some ⟨b, 0, none⟩), .int .i64 n] w fun e w' => e = .returned (.bool (m.stepOk n)) ∧ Blk w' b (m.step n).cells 72 ∧ Only [b] w w' := by
  have HC : Hid (∀ W, Blk W b m.cells 72 → Calls Try.prog 54 #[.pointer (some ⟨b, 0, none⟩), .pointer (some ⟨b, 0, none⟩), .int .i64 n, .int .i64 20] W fun e w' => e = .returned (.bool (m.stepOk n)) ∧ Blk w' b (m.step n).cells 72 ∧ Only [b] W w') := fun W h => by
    have := charge_any b 0 m.cells m.dn m.sb m.why n 20 W (M.cnt0 hm h)
    rwa [M.cells_step] at this
  go_enter Try.func32, Try.ntmps32
  go_wp2_with (go_at_call 54; refine (HC.out _ h).mono ?_; rintro e w' ⟨rfl, h1, h2⟩)
  go_ret
  exact ⟨rfl, h1, h2⟩

set_option maxHeartbeats 1000000 in
theorem hold_any (m : M) (hm : m.Ok) (b : Nat) (n : Int) (w : World) (h : Blk w b m.cells 72) :
    Calls Try.prog 35 #[.pointer (some ⟨b, 0, none⟩), .int .i64 n] w fun e w' => e = .returned (.bool (m.holdOk n)) ∧ Blk w' b (m.hold n).cells 72 ∧ Only [b] w w' := by
  have hmf : ∀ (fn : Fn) (first cap : Array Value) (w : World), (Instr.makeFunc fn first cap).run Try.prog w = .ok (.func fn first cap) w := fun _ _ _ _ => rfl
  have HC : Hid (∀ W, Blk W b m.cells 72 → Calls Try.prog 54 #[.pointer (some ⟨b, 0, none⟩), .pointer (some ⟨b, 2, none⟩), .int .i64 n, .int .i64 21] W fun e w' => e = .returned (.bool (m.holdOk n)) ∧ Blk w' b (m.hold1 n).cells 72 ∧ Only [b] W w') := fun W h => by
    have := charge_any b 2 m.cells m.nw m.cb m.why n 21 W (M.cnt2 hm h)
    rwa [M.cells_hold1] at this
  have hb := h.alloc (.cells #[.pointer (some ⟨b, 0, none⟩)] 37)
  have hp := (Blk.new w #[.pointer (some ⟨b, 0, none⟩)] 37 rfl)
  have hpc : (w.alloc (.cells #[.pointer (some ⟨b, 0, none⟩)] 37)).cell? ⟨w.heap.size, 0, none⟩ = some (.pointer (some ⟨b, 0, none⟩)) := hp.cell 0
  have hne : w.heap.size ∉ [b] := by have := h.lt; simp; omega
  have hO : Hid (Only [] w (w.alloc (.cells #[.pointer (some ⟨b, 0, none⟩)] 37))) := (Only.refl _ _).alloc _
  have hM := hidden (M.hold_of m hm n)
  obtain ⟨W, hW⟩ : ∃ W, w.alloc (.cells #[.pointer (some ⟨b, 0, none⟩)] 37) = W := ⟨_, rfl⟩
  rw [hW] at hb hp hpc hO
  obtain ⟨g, hg⟩ : ∃ g, w.heap.size = g := ⟨_, rfl⟩
  rw [hg] at hp hpc hne
  go_enter_defers Try.func35, Try.ntmps35
  go_wp2
  clear hW hg h
  go_region_held3 (fun w' => w'.cell? ⟨g, 0, none⟩ = some (.pointer (some ⟨b, 0, none⟩))) (first | exact hpc2 | exact hpc)
    (first | (go_at_call 54; refine (HC.out _ (by exact hb)).mono ?_; rintro e w1 ⟨rfl, hb1, ho1⟩; have hp1 := ho1.blk (by exact hp) hne; have hpc2 := hp1.cell 0))
  go_wp2
  refine leaves_cons (f := 59) (args := #[.pointer (some ⟨g, 0, none⟩)]) (by simp) (by simp [go_sem]) ?_
  refine (hold1_any ⟨g, 0, none⟩ b (m.hold1 n).nw (m.hold1 n).pk .returning _ (hp1.cell 0) (hb1.cell 2) (hb1.cell 4) (hb1.froz 4)).mono ?_
  rintro e u' w'' ⟨rfl, rfl, rfl⟩
  refine ⟨_, results_tmp rfl _ _ _, rfl, ?_, ?_⟩
  · rw [← hM.out]
    exact (hb1.set 4 _).drew
  · exact hO.out.behind ((Only.fresh (Only.refl [b] W).drew ho1 (fun i h _ => h)).set (by simp) _).drew

set_option maxHeartbeats 400000 in
theorem new_yes (s c : Int) (w : World) (h0 : 0 ≤ s) (h1 : 0 ≤ c) :
    Calls Try.prog 13 #[.int .i64 s, .int .i64 c] w fun e w' => e = .returned (.tuple #[.pointer (some ⟨w.heap.size, 0, none⟩), .int .i64 0]) ∧ w' = w.alloc (.cells (M.cells ⟨s, c, 0, 0, 0, 0⟩).toArray 72) := by
  go_enter Try.func13, Try.ntmps13
  go_wp2
  go_ret2
  exact ⟨rfl, rfl⟩
set_option maxHeartbeats 400000 in
theorem new_no (s c : Int) (w : World) (h : s < 0 ∨ 0 ≤ s ∧ c < 0) :
    Calls Try.prog 13 #[.int .i64 s, .int .i64 c] w fun e w' => e = .returned (.tuple #[.pointer none, .int .i64 1]) ∧ w' = w := by
  rcases h with h | ⟨h, h2⟩
  all_goals
    go_enter Try.func13, Try.ntmps13
    go_wp2
    go_ret2
    exact ⟨rfl, rfl⟩

theorem steps_any (m : M) (b : Nat) (w : World) (h : Blk w b m.cells 72) : Calls Try.prog 21 #[.pointer (some ⟨b, 0, none⟩)] w fun e w' => e = .returned (.int .i64 m.dn) ∧ w' = w := by
  have c0 : w.cell? ⟨b, 0, none⟩ = some (.int .i64 m.dn) := h.cell 0
  clear h
  go_enter Try.func21, Try.ntmps21
  go_wp2
  go_ret
  exact ⟨rfl, rfl⟩
theorem held_any (m : M) (b : Nat) (w : World) (h : Blk w b m.cells 72) : Calls Try.prog 22 #[.pointer (some ⟨b, 0, none⟩)] w fun e w' => e = .returned (.int .i64 m.nw) ∧ w' = w := by
  have c0 : w.cell? ⟨b, 2, none⟩ = some (.int .i64 m.nw) := h.cell 2
  clear h
  go_enter Try.func22, Try.ntmps22
  go_wp2
  go_ret
  exact ⟨rfl, rfl⟩
theorem peak_any (m : M) (b : Nat) (w : World) (h : Blk w b m.cells 72) : Calls Try.prog 46 #[.pointer (some ⟨b, 0, none⟩)] w fun e w' => e = .returned (.int .i64 m.pk) ∧ w' = w := by
  have c0 : w.cell? ⟨b, 4, none⟩ = some (.int .i64 m.pk) := h.cell 4
  clear h
  go_enter Try.func46, Try.ntmps46
  go_wp2
  go_ret
  exact ⟨rfl, rfl⟩
theorem refused_any (m : M) (b : Nat) (w : World) (h : Blk w b m.cells 72) : Calls Try.prog 33 #[.pointer (some ⟨b, 0, none⟩)] w fun e w' => e = .returned (.int .i64 m.why) ∧ w' = w := by
  have c0 : w.cell? ⟨b, 5, none⟩ = some (.int .i64 m.why) := h.cell 5
  clear h
  go_enter Try.func33, Try.ntmps33
  go_wp2
  go_ret
  exact ⟨rfl, rfl⟩
end Go.Proofs.Ytdinlaoimpoolaa
