import Derived.Test.YthlbbinlkmchjaaDoorMem
import Derived.Test.YthlbbinlkmchjaaDoorProg
namespace Go.Proofs.YthlbbinlkmchjaaDoor
open Go.RowKit

set_option maxHeartbeats 400000 in
theorem left_any (now budget : Int) (h0 : 0 ≤ now) (h1 : now ≤ budget) (h2 : budget ≤ 9223372036854775807) (w : World) :
    Calls Tryd.prog 72 #[.agg #[.int .i64 now, .int .i64 budget]] w fun e w' => e = .returned (.int .i64 (budget - now)) ∧ w' = w.alloc (.cells #[.int .i64 now, .int .i64 budget] 66) := by
  go_enter Tryd.func72, Tryd.ntmps72
  go_wp2
  go_ret
  exact ⟨rfl, rfl⟩

set_option maxHeartbeats 400000 in
theorem charge1_any (pc pn : Addr) (b o : Nat) (now k : Int) (u : FrameMode) (w : World) (hpc : w.cell? pc = some (.pointer (some ⟨b, o, none⟩))) (hpn : w.cell? pn = some (.int .i64 k))
    (hc : w.cell? ⟨b, o, none⟩ = some (.int .i64 now)) (hf : w.frozen? ⟨b, o, none⟩ = false) (h0 : 0 ≤ now) (h1 : 0 ≤ k) (h2 : now + k ≤ 9223372036854775807) :
    CallsD Tryd.prog 71 #[.pointer (some pc), .pointer (some pn)] u w fun e u' w' => u' = u ∧ (e = .returned (.tuple #[]) ∧ w' = (w.setCell ⟨b, o, none⟩ (.int .i64 (now + k))).drew) := by
  go_enter_d Tryd.func71, Tryd.ntmps71
  go_region
  go_wp2
  go_end0
  exact ⟨rfl, rfl⟩

set_option maxHeartbeats 1000000 in
theorem hold1_any (pm : Addr) (b : Nat) (now peak : Int) (u : FrameMode) (w : World) (hpc : w.cell? pm = some (.pointer (some ⟨b, 0, none⟩)))
    (hc : w.cell? ⟨b, 2, none⟩ = some (.int .i64 now)) (hp : w.cell? ⟨b, 4, none⟩ = some (.int .i64 peak)) (hf : w.frozen? ⟨b, 4, none⟩ = false) :
    CallsD Tryd.prog 50 #[.pointer (some pm)] u w fun e u' w' => u' = u ∧ (e = .returned (.tuple #[]) ∧ w' = (w.setCell ⟨b, 4, none⟩ (.int .i64 (max peak now))).drew) := by
  go_enter_d Tryd.func50, Tryd.ntmps50
  go_region
  go_wp2
  all_goals
    go_end0
    refine ⟨rfl, ?_⟩
    first | rw [Int.max_eq_right (by omega)] | rw [Int.max_eq_left (by omega)]

/-- the cells of one of a meter's counts, ahead of a charge -/
structure Cnt (w : World) (b o : Nat) (xs : List Value) (now budget why : Int) : Prop where
  blk : Blk w b xs 68
  c0 : xs[o]? = some (.int .i64 now)
  c1 : xs[o + 1]? = some (.int .i64 budget)
  c5 : xs[5]? = some (.int .i64 why)
  o5 : o + 1 < 5
  h0 : 0 ≤ now
  h1 : now ≤ budget
  h2 : budget ≤ 9223372036854775807

set_option maxHeartbeats 1000000 in
theorem charge_bad (b o : Nat) (xs : List Value) (now budget why n x : Int) (w : World) (h : Cnt w b o xs now budget why) (hn : n < 0 ∨ (0 ≤ n ∧ why ≠ 0)) :
    Calls Tryd.prog 49 #[.pointer (some ⟨b, 0, none⟩), .pointer (some ⟨b, o, none⟩), .int .i64 n, .int .i64 x] w fun e w' => e = .returned (.bool false) ∧ Blk w' b (xs.set o (.int .i64 now)) 68 ∧ Only [b] w w' := by
  have hmf : ∀ (fn : Fn) (first cap : Array Value) (w : World), (Instr.makeFunc fn first cap).run Tryd.prog w = .ok (.func fn first cap) w := fun _ _ _ _ => rfl
  obtain ⟨hb, x0, x1, x5, o5, h0, h1, h2⟩ := h
  have hlt := hb.lt
  have hbne : ¬ b = w.heap.size := by omega
  have hbne1 : ¬ b = w.heap.size + 1 := by omega
  have hbk : ∀ k, ¬ b = w.heap.size + k := by omega
  have c0 := (hb.cell o).trans x0
  have c1 := (hb.cell (o + 1)).trans x1
  have c5 := (hb.cell 5).trans x5
  have fz := hb.froz
  have HB : Hid (Blk w b xs 68) := hb
  clear hb x0 x1 x5
  rcases hn with hn | ⟨hn, hw⟩
  all_goals
    try (have hw' : (why != 0) = true := by simpa using hw)
    try clear hw
    go_enter_defers Tryd.func49, Tryd.ntmps49
    go_wp2
    refine leaves_cons (f := 71) (args := #[.pointer (some ⟨w.heap.size, 0, none⟩), .pointer (some ⟨w.heap.size + 1, 0, none⟩)]) (by simp) (by simp [go_sem]) ?_
    refine (charge1_any ⟨w.heap.size, 0, none⟩ ⟨w.heap.size + 1, 0, none⟩ b o now 0 .returning _ (by simp [go_sem]) (by simp [go_sem]) (by simp [go_sem, *]) (by simp [go_sem, *]) h0 (by omega) (by omega)).mono ?_
    rintro e u' w'' ⟨rfl, rfl, rfl⟩
    refine ⟨_, results_tmp rfl _ _ _, rfl, ?_, ?_⟩
    · rw [Int.add_zero]
      exact (((HB.out.alloc _).alloc _).set o _).drew
    · exact ((((Only.refl _ _).alloc _).alloc _).set (by simp) _).drew

set_option maxHeartbeats 1000000 in
theorem charge_good (b o : Nat) (xs : List Value) (now budget n x : Int) (w : World) (h : Cnt w b o xs now budget 0) (hn : 0 ≤ n) (hn2 : n ≤ budget - now) :
    Calls Tryd.prog 49 #[.pointer (some ⟨b, 0, none⟩), .pointer (some ⟨b, o, none⟩), .int .i64 n, .int .i64 x] w fun e w' => e = .returned (.bool true) ∧ Blk w' b (xs.set o (.int .i64 (now + n))) 68 ∧ Only [b] w w' := by
  have hmf : ∀ (fn : Fn) (first cap : Array Value) (w : World), (Instr.makeFunc fn first cap).run Tryd.prog w = .ok (.func fn first cap) w := fun _ _ _ _ => rfl
  obtain ⟨hb, x0, x1, x5, o5, h0, h1, h2⟩ := h
  have hlt := hb.lt
  have hbne : ¬ b = w.heap.size := by omega
  have hbne1 : ¬ b = w.heap.size + 1 := by omega
  have hbk : ∀ k, ¬ b = w.heap.size + k := by omega
  have hbne2 : ¬ b = w.heap.size + 2 := by omega
  have c0 := (hb.cell o).trans x0
  have c1 := (hb.cell (o + 1)).trans x1
  have c5 := (hb.cell 5).trans x5
  have fz := hb.froz
  have p3 : ∀ o p q i, (((w.alloc o).alloc p).alloc q).cell? ⟨b, i, none⟩ = w.cell? ⟨b, i, none⟩ := fun o p q i => cell_past3 w o p q b i hlt
  have p4 : ∀ o p q r i, ((((w.alloc o).alloc p).alloc q).alloc r).cell? ⟨b, i, none⟩ = w.cell? ⟨b, i, none⟩ := fun o p q r i => cell_past4 w o p q r b i hlt
  have f4 : ∀ o p q r i, ((((w.alloc o).alloc p).alloc q).alloc r).frozen? ⟨b, i, none⟩ = w.frozen? ⟨b, i, none⟩ := fun o p q r i => froz_past4 w o p q r b i hlt
  have HB : Hid (Blk w b xs 68) := hb
  clear hb x0 x1 x5
  go_enter_defers Tryd.func49, Tryd.ntmps49
  go_wp2_with (go_at_call 72; refine (left_any now budget h0 h1 h2 _).mono ?_; rintro e w' ⟨rfl, rfl⟩)
  refine leaves_cons (f := 71) (args := #[.pointer (some ⟨w.heap.size, 0, none⟩), .pointer (some ⟨w.heap.size + 1, 0, none⟩)]) (by simp) (by simp [go_sem]) ?_
  refine (charge1_any ⟨w.heap.size, 0, none⟩ ⟨w.heap.size + 1, 0, none⟩ b o now n .returning _ ((((Blk.new _ _ _ rfl).alloc _).alloc _).cell 0) (((Blk.new _ _ _ (by simp)).alloc _).cell 0) ((cell_past3 _ _ _ _ _ _ hlt).trans c0) ((((HB.out.alloc _).alloc _).alloc _).froz _) h0 (by omega) (by omega)).mono ?_
  rintro e u' w'' ⟨rfl, rfl, rfl⟩
  refine ⟨_, results_tmp rfl _ _ _, rfl, ?_, ?_⟩
  · exact ((((HB.out.alloc _).alloc _).alloc _).set o _).drew
  · exact (((((Only.refl _ _).alloc _).alloc _).alloc _).set (by simp) _).drew

set_option maxHeartbeats 1000000 in
theorem charge_over (b o : Nat) (xs : List Value) (now budget n x : Int) (w : World) (h : Cnt w b o xs now budget 0) (hn : 0 ≤ n) (hn2 : budget - now < n) :
    Calls Tryd.prog 49 #[.pointer (some ⟨b, 0, none⟩), .pointer (some ⟨b, o, none⟩), .int .i64 n, .int .i64 x] w fun e w' => e = .returned (.bool false) ∧ Blk w' b ((xs.set 5 (.int .i64 x)).set o (.int .i64 budget)) 68 ∧ Only [b] w w' := by
  have hmf : ∀ (fn : Fn) (first cap : Array Value) (w : World), (Instr.makeFunc fn first cap).run Tryd.prog w = .ok (.func fn first cap) w := fun _ _ _ _ => rfl
  obtain ⟨hb, x0, x1, x5, o5, h0, h1, h2⟩ := h
  have hlt := hb.lt
  have hbne : ¬ b = w.heap.size := by omega
  have hbne1 : ¬ b = w.heap.size + 1 := by omega
  have hbk : ∀ k, ¬ b = w.heap.size + k := by omega
  have hbne2 : ¬ b = w.heap.size + 2 := by omega
  have ho5 : ¬ o = 5 := by omega
  have c0 := (hb.cell o).trans x0
  have c1 := (hb.cell (o + 1)).trans x1
  have c5 := (hb.cell 5).trans x5
  have fz := hb.froz
  have p3 : ∀ o p q i, (((w.alloc o).alloc p).alloc q).cell? ⟨b, i, none⟩ = w.cell? ⟨b, i, none⟩ := fun o p q i => cell_past3 w o p q b i hlt
  have p4 : ∀ o p q r i, ((((w.alloc o).alloc p).alloc q).alloc r).cell? ⟨b, i, none⟩ = w.cell? ⟨b, i, none⟩ := fun o p q r i => cell_past4 w o p q r b i hlt
  have f4 : ∀ o p q r i, ((((w.alloc o).alloc p).alloc q).alloc r).frozen? ⟨b, i, none⟩ = w.frozen? ⟨b, i, none⟩ := fun o p q r i => froz_past4 w o p q r b i hlt
  have HB : Hid (Blk w b xs 68) := hb
  have HX : Hid (xs[o]? = some (.int .i64 now)) := x0
  have HE : Hid (now + (budget - now) = budget) := by show _ = _; omega
  clear hb x0 x1 x5
  go_enter_defers Tryd.func49, Tryd.ntmps49
  go_wp2_with (go_at_call 72; refine (left_any now budget h0 h1 h2 _).mono ?_; rintro e w' ⟨rfl, rfl⟩)
  refine leaves_cons (f := 71) (args := #[.pointer (some ⟨w.heap.size, 0, none⟩), .pointer (some ⟨w.heap.size + 1, 0, none⟩)]) (by simp) (by simp [go_sem]) ?_
  refine (charge1_any ⟨w.heap.size, 0, none⟩ ⟨w.heap.size + 1, 0, none⟩ b o now (budget - now) .returning _ (((((Blk.new _ _ _ rfl).alloc _).alloc _).alloc _ |>.other _ _ (by simpa using Ne.symm hbne)).cell 0) ((((Blk.new _ _ _ (by simp)).alloc _).alloc _ |>.other _ _ (by simpa using Ne.symm hbne1)).cell 0) (((((HB.out.alloc _).alloc _).alloc _).alloc _ |>.set 5 _).cell o |>.trans ((List.getElem?_set_ne (Ne.symm ho5)).trans HX.out)) (((((HB.out.alloc _).alloc _).alloc _).alloc _ |>.set 5 _).froz _) h0 (by omega) (by omega)).mono ?_
  rintro e u' w'' ⟨rfl, rfl, rfl⟩
  refine ⟨_, results_tmp rfl _ _ _, rfl, ?_, ?_⟩
  · rw [HE.out]
    exact ((((((HB.out.alloc _).alloc _).alloc _).alloc _).set 5 _).set o _).drew
  · exact (((((((Only.refl _ _).alloc _).alloc _).alloc _).alloc _).set (by simp) _).set (by simp) _).drew
/-- does a charge go by? -/
def chOk (now budget why n : Int) : Bool := decide (0 ≤ n ∧ why = 0 ∧ n ≤ budget - now)
/-- what it leaves of the cells -/
def chCells (xs : List Value) (o : Nat) (now budget why n x : Int) : List Value :=
  if n < 0 ∨ why ≠ 0 then xs.set o (.int .i64 now) else if budget - now < n then (xs.set 5 (.int .i64 x)).set o (.int .i64 budget) else xs.set o (.int .i64 (now + n))

theorem charge_any (b o : Nat) (xs : List Value) (now budget why n x : Int) (w : World) (h : Cnt w b o xs now budget why) :
    Calls Tryd.prog 49 #[.pointer (some ⟨b, 0, none⟩), .pointer (some ⟨b, o, none⟩), .int .i64 n, .int .i64 x] w fun e w' => e = .returned (.bool (chOk now budget why n)) ∧ Blk w' b (chCells xs o now budget why n x) 68 ∧ Only [b] w w' := by
  by_cases h1 : n < 0 ∨ why ≠ 0
  · have e1 : chOk now budget why n = false := by unfold chOk; simp; omega
    have e2 : chCells xs o now budget why n x = xs.set o (.int .i64 now) := if_pos h1
    rw [e1, e2]
    exact charge_bad b o xs now budget why n x w h (by omega)
  · have h3 : why = 0 := by omega
    subst h3
    by_cases h2 : budget - now < n
    · have e1 : chOk now budget 0 n = false := by unfold chOk; simp; omega
      have e2 : chCells xs o now budget 0 n x = (xs.set 5 (.int .i64 x)).set o (.int .i64 budget) := by unfold chCells; rw [if_neg h1, if_pos h2]
      rw [e1, e2]
      exact charge_over b o xs now budget n x w h (by omega) h2
    · have e1 : chOk now budget 0 n = true := by unfold chOk; simp; omega
      have e2 : chCells xs o now budget 0 n x = xs.set o (.int .i64 (now + n)) := by unfold chCells; rw [if_neg h1, if_neg h2]
      rw [e1, e2]
      exact charge_good b o xs now budget n x w h (by omega) (by omega)
end Go.Proofs.YthlbbinlkmchjaaDoor
