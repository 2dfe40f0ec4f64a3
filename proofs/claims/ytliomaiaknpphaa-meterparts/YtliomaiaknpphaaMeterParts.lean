/-
  For every steps, cells, a, b, hold MeterParts answers true; no condition.
  The frame is the kit's shell, written by its program.
-/
import Derived.Test.YtliomaiaknpphaaRows
import Derived.WalkKit
import Derived.Test.YtliomaiaknpphaaShown
import Derived.ProofKit
import Derived.OpenShut
namespace Go.Proofs.Ytliomaiaknpphaa.meterParts
open Go.ChangeShapes Go.WideShapes Go.ChangeAt Go.RowKit
set_option linter.unusedVariables false      -- a walk need not use every 'w<i>' (that an integer argument fits its kind)

theorem own : ownKnob Try.prog.godebug = none := by kernel_rfl

/-! ### STEP 1: THE WALK -/
theorem both_steps (m : M) (hm : m.Ok) (hw : m.why = 0) (a b : Int) (h0 : 0 ≤ a) (h1 : 0 ≤ b) : (m.step a).step b = m.step (a + b) ∧ (m.step a).stepOk b = m.stepOk (a + b) ∧ (m.stepOk a = true ∨ (m.step a).stepOk b = false) := by
  obtain ⟨d0, d1, d2, _, _, _, _⟩ := hm
  by_cases k1 : m.sb - m.dn < a
  · have e1 : m.step a = { m with dn := m.sb, why := 20 } := by unfold M.step; rw [if_neg (by omega), if_pos k1]
    have e2 : m.step (a + b) = { m with dn := m.sb, why := 20 } := by unfold M.step; rw [if_neg (by omega), if_pos (by omega)]
    rw [e1, e2]
    refine ⟨by unfold M.step; rw [if_pos (Or.inr (by simp))], ?_, Or.inr (by unfold M.stepOk chOk; simp)⟩
    unfold M.stepOk chOk
    rw [decide_eq_decide]
    simp
    omega
  · have e1 : m.step a = { m with dn := m.dn + a } := by unfold M.step; rw [if_neg (by omega), if_neg k1]
    rw [e1]
    refine ⟨?_, ?_, Or.inl (by unfold M.stepOk chOk; simp; omega)⟩
    · unfold M.step
      simp only [hw]
      rw [if_neg (c := b < 0 ∨ (0 : Int) ≠ 0) (by omega), if_neg (c := a + b < 0 ∨ (0 : Int) ≠ 0) (by omega)]
      by_cases k2 : m.sb - m.dn < a + b
      · rw [if_pos (c := m.sb - (m.dn + a) < b) (by omega), if_pos k2]
      · rw [if_neg (c := m.sb - (m.dn + a) < b) (by omega), if_neg k2, Int.add_assoc]
    · unfold M.stepOk chOk
      rw [decide_eq_decide]
      simp only
      omega
theorem both_holds (m : M) (hm : m.Ok) (hw : m.why = 0) (a b : Int) (h0 : 0 ≤ a) (h1 : 0 ≤ b) : (m.hold a).hold b = m.hold (a + b) ∧ (m.hold a).holdOk b = m.holdOk (a + b) ∧ (m.holdOk a = true ∨ (m.hold a).holdOk b = false) := by
  obtain ⟨_, _, _, d0, d1, d2, d3⟩ := hm
  by_cases k1 : m.cb - m.nw < a
  · have e1 : m.hold a = { m with nw := m.cb, pk := m.cb, why := 21 } := by unfold M.hold; rw [if_neg (by omega), if_pos k1]
    have e2 : m.hold (a + b) = { m with nw := m.cb, pk := m.cb, why := 21 } := by unfold M.hold; rw [if_neg (by omega), if_pos (by omega)]
    rw [e1, e2]
    refine ⟨by unfold M.hold; rw [if_pos (Or.inr (by simp))], ?_, Or.inr (by unfold M.holdOk chOk; simp)⟩
    unfold M.holdOk chOk
    rw [decide_eq_decide]
    simp
    omega
  · have e1 : m.hold a = { m with nw := m.nw + a, pk := max m.pk (m.nw + a) } := by unfold M.hold; rw [if_neg (by omega), if_neg k1]
    rw [e1]
    refine ⟨?_, ?_, Or.inl (by unfold M.holdOk chOk; simp; omega)⟩
    · unfold M.hold
      simp only [hw]
      rw [if_neg (c := b < 0 ∨ (0 : Int) ≠ 0) (by omega), if_neg (c := a + b < 0 ∨ (0 : Int) ≠ 0) (by omega)]
      by_cases k2 : m.cb - m.nw < a + b
      · rw [if_pos (c := m.cb - (m.nw + a) < b) (by omega), if_pos k2]
      · rw [if_neg (c := m.cb - (m.nw + a) < b) (by omega), if_neg k2, Int.add_assoc]
        congr 1
        omega
    · unfold M.holdOk chOk
      rw [decide_eq_decide]
      simp only
      omega
theorem new_ok {s c : Int} (h0 : 0 ≤ s) (h1 : 0 ≤ c) (h2 : s ≤ 9223372036854775807) (h3 : c ≤ 9223372036854775807) : (M.mk s c 0 0 0 0).Ok := ⟨by simp, h0, h2, by simp, by simp, h1, h3⟩

set_option maxHeartbeats 2000000 in
theorem by_steps (a0 a1 a2 a3 : Int) (s0 : 0 ≤ a0) (s1 : 0 ≤ a1) (e0 : a0 ≤ 9223372036854775807) (e1 : a1 ≤ 9223372036854775807) (k2 : 0 ≤ a2) (k3 : 0 ≤ a3) (k4 : a2 ≤ 9223372036854775807 - a3) (hm : (M.mk a0 a1 0 0 0 0).Ok) (w : World) :
    Calls Try.prog 4 #[.int .i64 a0, .int .i64 a1, .int .i64 a2, .int .i64 a3, .bool false] w fun e w' => e = .returned (.bool true) ∧ Below w.heap.size w w' := by
  obtain ⟨q1, q2, q3⟩ := both_steps _ hm rfl a2 a3 k2 k3
  have hm1 := M.step_ok hm a2
  have HS := hidden fun b W => step_any _ hm b a2 W
  have HS2 := hidden fun b W => step_any _ hm1 b a3 W
  have HA := hidden fun b W => step_any _ hm b (a2 + a3) W
  rw [q1, q2] at HS2
  rw [q2] at q3
  obtain ⟨o1, ho1⟩ : ∃ o, M.stepOk ⟨a0, a1, 0, 0, 0, 0⟩ a2 = o := ⟨_, rfl⟩
  obtain ⟨o2, ho2⟩ : ∃ o, M.stepOk ⟨a0, a1, 0, 0, 0, 0⟩ (a2 + a3) = o := ⟨_, rfl⟩
  obtain ⟨m1, hm1⟩ : ∃ m, M.step ⟨a0, a1, 0, 0, 0, 0⟩ a2 = m := ⟨_, rfl⟩
  obtain ⟨m2, hm2⟩ : ∃ m, M.step ⟨a0, a1, 0, 0, 0, 0⟩ (a2 + a3) = m := ⟨_, rfl⟩
  rw [ho1, hm1] at HS
  rw [hm1, hm2, ho2] at HS2
  rw [hm2, ho2] at HA
  rw [ho1, ho2] at q3
  clear q1 q2 ho1 ho2 hm1 hm2 hm
  go_enter Try.func4, Try.ntmps4
  go_wp2_with fail
  refine (shown_any _).mono ?_
  rintro e W ⟨rfl, hb⟩
  go_wp2_with (go_at_call 8; refine (new_yes a0 a1 _ s0 s1).mono ?_; rintro e w1 ⟨rfl, rfl⟩)
  have hx := (Blk.new W (M.cells ⟨a0, a1, 0, 0, 0, 0⟩).toArray 52 rfl).alloc (.cells (M.cells ⟨a0, a1, 0, 0, 0, 0⟩).toArray 52)
  have hy := Blk.new (W.alloc (.cells (M.cells ⟨a0, a1, 0, 0, 0, 0⟩).toArray 52)) (M.cells ⟨a0, a1, 0, 0, 0, 0⟩).toArray 52 (k := W.heap.size + 1) (by simp)
  have hsz := hb.size
  have h3 := ((hb.mono (M := [W.heap.size, W.heap.size + 1]) (by simp)).alloc (.cells (M.cells ⟨a0, a1, 0, 0, 0, 0⟩).toArray 52)).alloc (.cells (M.cells ⟨a0, a1, 0, 0, 0, 0⟩).toArray 52)
  obtain ⟨g, hg⟩ : ∃ g, W.heap.size = g := ⟨_, rfl⟩
  rw [hg] at hx hy h3 hsz ⊢
  obtain ⟨WA, hWA⟩ : ∃ V, ((W.alloc (.cells (M.cells ⟨a0, a1, 0, 0, 0, 0⟩).toArray 52)).alloc (.cells (M.cells ⟨a0, a1, 0, 0, 0, 0⟩).toArray 52)) = V := ⟨_, rfl⟩
  rw [hWA] at hx hy h3 ⊢
  clear hWA hg
  refine (HS.out _ _ (by exact hx)).mono ?_
  rintro e w1 ⟨rfl, hx1, hon1⟩
  have hy1 := hon1.blk hy (by simp)
  have h4 := h3.trans (hon1.mono (M := [g, g + 1]) (by intro k _ h; simp at h ⊢; omega))
  clear hx hy h3 hon1
  go_wp2_with fail
  refine (HS2.out _ _ (by exact hx1)).mono ?_
  rintro e w2 ⟨rfl, hx2, hon2⟩
  have hy2 := hon2.blk hy1 (by simp)
  have h5 := h4.trans (hon2.mono (M := [g, g + 1]) (by intro k _ h; simp at h ⊢; omega))
  clear hx1 hy1 h4 hon2
  go_wp2_with fail
  refine (HA.out _ _ (by exact hy2)).mono ?_
  rintro e w3 ⟨rfl, hy3, hon3⟩
  have hx3 := hon3.blk hx2 (by simp)
  have h6 := h5.trans (hon3.mono (M := [g, g + 1]) (by intro k _ h; simp at h ⊢; omega))
  clear hx2 hy2 h5 hon3
  have hx3 := hidden hx3
  have hy3 := hidden hy3
  have T1 := hidden (steps_any m2)
  have T2 := hidden (held_any m2)
  have T3 := hidden (peak_any m2)
  have T4 := hidden (refused_any m2)
  have hend := h6.toBelow (Nat.le_refl _) (by simp; omega)
  clear h6 HS HS2 HA hb
  rcases q3 with rfl | rfl
  · cases o2
    all_goals
      go_wp2_with (first | (go_at_call 20; refine (T1.out _ _ (by first | exact hx3 | exact hy3)).mono ?_; rintro e w4 ⟨rfl, rfl⟩) | (go_at_call 21; refine (T2.out _ _ (by first | exact hx3 | exact hy3)).mono ?_; rintro e w4 ⟨rfl, rfl⟩) | (go_at_call 22; refine (T3.out _ _ (by first | exact hx3 | exact hy3)).mono ?_; rintro e w4 ⟨rfl, rfl⟩) | (go_at_call 23; refine (T4.out _ _ (by first | exact hx3 | exact hy3)).mono ?_; rintro e w4 ⟨rfl, rfl⟩))
      go_ret
      exact ⟨by simp, hend⟩
  · cases o1
    all_goals
      go_wp2_with (first | (go_at_call 20; refine (T1.out _ _ (by first | exact hx3 | exact hy3)).mono ?_; rintro e w4 ⟨rfl, rfl⟩) | (go_at_call 21; refine (T2.out _ _ (by first | exact hx3 | exact hy3)).mono ?_; rintro e w4 ⟨rfl, rfl⟩) | (go_at_call 22; refine (T3.out _ _ (by first | exact hx3 | exact hy3)).mono ?_; rintro e w4 ⟨rfl, rfl⟩) | (go_at_call 23; refine (T4.out _ _ (by first | exact hx3 | exact hy3)).mono ?_; rintro e w4 ⟨rfl, rfl⟩))
      go_ret
      exact ⟨by simp, hend⟩
set_option maxHeartbeats 2000000 in
theorem by_holds (a0 a1 a2 a3 : Int) (s0 : 0 ≤ a0) (s1 : 0 ≤ a1) (e0 : a0 ≤ 9223372036854775807) (e1 : a1 ≤ 9223372036854775807) (k2 : 0 ≤ a2) (k3 : 0 ≤ a3) (k4 : a2 ≤ 9223372036854775807 - a3) (hm : (M.mk a0 a1 0 0 0 0).Ok) (w : World) :
    Calls Try.prog 4 #[.int .i64 a0, .int .i64 a1, .int .i64 a2, .int .i64 a3, .bool true] w fun e w' => e = .returned (.bool true) ∧ Below w.heap.size w w' := by
  obtain ⟨q1, q2, q3⟩ := both_holds _ hm rfl a2 a3 k2 k3
  have hm1 := M.hold_ok hm a2
  have HS := hidden fun b W => hold_any _ hm b a2 W
  have HS2 := hidden fun b W => hold_any _ hm1 b a3 W
  have HA := hidden fun b W => hold_any _ hm b (a2 + a3) W
  rw [q1, q2] at HS2
  rw [q2] at q3
  obtain ⟨o1, ho1⟩ : ∃ o, M.holdOk ⟨a0, a1, 0, 0, 0, 0⟩ a2 = o := ⟨_, rfl⟩
  obtain ⟨o2, ho2⟩ : ∃ o, M.holdOk ⟨a0, a1, 0, 0, 0, 0⟩ (a2 + a3) = o := ⟨_, rfl⟩
  obtain ⟨m1, hm1⟩ : ∃ m, M.hold ⟨a0, a1, 0, 0, 0, 0⟩ a2 = m := ⟨_, rfl⟩
  obtain ⟨m2, hm2⟩ : ∃ m, M.hold ⟨a0, a1, 0, 0, 0, 0⟩ (a2 + a3) = m := ⟨_, rfl⟩
  rw [ho1, hm1] at HS
  rw [hm1, hm2, ho2] at HS2
  rw [hm2, ho2] at HA
  rw [ho1, ho2] at q3
  clear q1 q2 ho1 ho2 hm1 hm2 hm
  go_enter Try.func4, Try.ntmps4
  go_wp2_with fail
  refine (shown_any _).mono ?_
  rintro e W ⟨rfl, hb⟩
  go_wp2_with (go_at_call 8; refine (new_yes a0 a1 _ s0 s1).mono ?_; rintro e w1 ⟨rfl, rfl⟩)
  have hx := (Blk.new W (M.cells ⟨a0, a1, 0, 0, 0, 0⟩).toArray 52 rfl).alloc (.cells (M.cells ⟨a0, a1, 0, 0, 0, 0⟩).toArray 52)
  have hy := Blk.new (W.alloc (.cells (M.cells ⟨a0, a1, 0, 0, 0, 0⟩).toArray 52)) (M.cells ⟨a0, a1, 0, 0, 0, 0⟩).toArray 52 (k := W.heap.size + 1) (by simp)
  have hsz := hb.size
  have h3 := ((hb.mono (M := [W.heap.size, W.heap.size + 1]) (by simp)).alloc (.cells (M.cells ⟨a0, a1, 0, 0, 0, 0⟩).toArray 52)).alloc (.cells (M.cells ⟨a0, a1, 0, 0, 0, 0⟩).toArray 52)
  obtain ⟨g, hg⟩ : ∃ g, W.heap.size = g := ⟨_, rfl⟩
  rw [hg] at hx hy h3 hsz ⊢
  obtain ⟨WA, hWA⟩ : ∃ V, ((W.alloc (.cells (M.cells ⟨a0, a1, 0, 0, 0, 0⟩).toArray 52)).alloc (.cells (M.cells ⟨a0, a1, 0, 0, 0, 0⟩).toArray 52)) = V := ⟨_, rfl⟩
  rw [hWA] at hx hy h3 ⊢
  clear hWA hg
  refine (HS.out _ _ (by exact hx)).mono ?_
  rintro e w1 ⟨rfl, hx1, hon1⟩
  have hy1 := hon1.blk hy (by simp)
  have h4 := h3.trans (hon1.mono (M := [g, g + 1]) (by intro k _ h; simp at h ⊢; omega))
  clear hx hy h3 hon1
  go_wp2_with fail
  refine (HS2.out _ _ (by exact hx1)).mono ?_
  rintro e w2 ⟨rfl, hx2, hon2⟩
  have hy2 := hon2.blk hy1 (by simp)
  have h5 := h4.trans (hon2.mono (M := [g, g + 1]) (by intro k _ h; simp at h ⊢; omega))
  clear hx1 hy1 h4 hon2
  go_wp2_with fail
  refine (HA.out _ _ (by exact hy2)).mono ?_
  rintro e w3 ⟨rfl, hy3, hon3⟩
  have hx3 := hon3.blk hx2 (by simp)
  have h6 := h5.trans (hon3.mono (M := [g, g + 1]) (by intro k _ h; simp at h ⊢; omega))
  clear hx2 hy2 h5 hon3
  have hx3 := hidden hx3
  have hy3 := hidden hy3
  have T1 := hidden (steps_any m2)
  have T2 := hidden (held_any m2)
  have T3 := hidden (peak_any m2)
  have T4 := hidden (refused_any m2)
  have hend := h6.toBelow (Nat.le_refl _) (by simp; omega)
  clear h6 HS HS2 HA hb
  rcases q3 with rfl | rfl
  · cases o2
    all_goals
      go_wp2_with (first | (go_at_call 20; refine (T1.out _ _ (by first | exact hx3 | exact hy3)).mono ?_; rintro e w4 ⟨rfl, rfl⟩) | (go_at_call 21; refine (T2.out _ _ (by first | exact hx3 | exact hy3)).mono ?_; rintro e w4 ⟨rfl, rfl⟩) | (go_at_call 22; refine (T3.out _ _ (by first | exact hx3 | exact hy3)).mono ?_; rintro e w4 ⟨rfl, rfl⟩) | (go_at_call 23; refine (T4.out _ _ (by first | exact hx3 | exact hy3)).mono ?_; rintro e w4 ⟨rfl, rfl⟩))
      go_ret
      exact ⟨by simp, hend⟩
  · cases o1
    all_goals
      go_wp2_with (first | (go_at_call 20; refine (T1.out _ _ (by first | exact hx3 | exact hy3)).mono ?_; rintro e w4 ⟨rfl, rfl⟩) | (go_at_call 21; refine (T2.out _ _ (by first | exact hx3 | exact hy3)).mono ?_; rintro e w4 ⟨rfl, rfl⟩) | (go_at_call 22; refine (T3.out _ _ (by first | exact hx3 | exact hy3)).mono ?_; rintro e w4 ⟨rfl, rfl⟩) | (go_at_call 23; refine (T4.out _ _ (by first | exact hx3 | exact hy3)).mono ?_; rintro e w4 ⟨rfl, rfl⟩))
      go_ret
      exact ⟨by simp, hend⟩
set_option maxHeartbeats 2000000 in
theorem walk (a0 : Int) (a1 : Int) (a2 : Int) (a3 : Int) (a4 : Bool) (w0 : (Lit.int .i64 a0).wf = true) (w1 : (Lit.int .i64 a1).wf = true) (w2 : (Lit.int .i64 a2).wf = true) (w3 : (Lit.int .i64 a3).wf = true) (w : World) :
    Calls Try.prog 4 #[.int .i64 a0, .int .i64 a1, .int .i64 a2, .int .i64 a3, .bool a4] w fun e w' => e = .returned (.bool true) ∧ Below w.heap.size w w' := by
  have b0 := bounds_i64 w0
  have b1 := bounds_i64 w1
  have b2 := bounds_i64 w2
  have b3 := bounds_i64 w3
  clear w0 w1 w2 w3
  by_cases h1 : a0 < 0 ∨ 0 ≤ a0 ∧ a1 < 0
  · have HN := hidden (fun W => new_no a0 a1 W h1)
    rcases h1 with h2 | ⟨h2, h3⟩
    all_goals
      go_enter Try.func4, Try.ntmps4
      go_wp2_with fail
      refine (shown_any _).mono ?_
      rintro e w' ⟨rfl, hb⟩
      go_wp2_with (go_at_call 8; refine (HN.out _).mono ?_; rintro e w1 ⟨rfl, rfl⟩)
      go_ret
      exact ⟨rfl, hb.below⟩
  have s0 : 0 ≤ a0 := by omega
  have s1 : 0 ≤ a1 := by omega
  have hm := new_ok s0 s1 b0.2 b1.2
  clear h1
  by_cases h2 : a2 < 0 ∨ 0 ≤ a2 ∧ a3 < 0 ∨ 0 ≤ a2 ∧ 0 ≤ a3 ∧ 9223372036854775807 - a3 < a2
  · rcases h2 with h2 | ⟨h2, h3⟩ | ⟨h2, h3, h4⟩
    all_goals
      go_enter Try.func4, Try.ntmps4
      go_wp2_with fail
      refine (shown_any _).mono ?_
      rintro e w' ⟨rfl, hb⟩
      go_wp2_with (go_at_call 8; refine (new_yes a0 a1 _ s0 s1).mono ?_; rintro e w1 ⟨rfl, rfl⟩)
      go_ret
      exact ⟨rfl, (hb.alloc _).alloc _ |>.below⟩
  have k2 : 0 ≤ a2 := by omega
  have k3 : 0 ≤ a3 := by omega
  have k4 : a2 ≤ 9223372036854775807 - a3 := by omega
  clear h2
  cases a4
  · exact by_steps a0 a1 a2 a3 s0 s1 b0.2 b1.2 k2 k3 k4 hm w
  · exact by_holds a0 a1 a2 a3 s0 s1 b0.2 b1.2 k2 k3 k4 hm w

/-! ### THE ROW's STEP: WRITTEN OUT: LEAVE IT -/
set_option maxRecDepth 100000 in
theorem lifted (os : Os) (started : os.Started) (H : Type) (enc : TypeId × Value → H) :
    ReturnsInHanded {} Try.checked os 4 .any (Rows.meterPartsSpec.pre6 enc Try.prog Try.f4 Rows.meterPartsRow.domain false) (Rows.meterPartsSpec.post enc Try.prog Try.f4 false true false false) := by
  refine returnsInHanded_of_change (C := Try.checked) own started (by kernel_rfl) Try.func4
    (ChangeSpec.witness6 (enc := enc) (C := Try.checked) false ⟨#[], #[.int .i64 0, .int .i64 0, .int .i64 0, .int .i64 0, .bool false], []⟩ 8 (by kernel_rfl) (by kernel_rfl) (by kernel_rfl) (by kernel_rfl)) ?_
  intro W base args ds gs before hval0 hW hcnd _
  have hval : ∀ (j : Nat) t v, Try.f4.params[j]? = some t → args[j]? = some v → Value.okWide Try.prog W .any base t v := hval0
  have hW' := hW
  obtain ⟨p, q, hA0, hV, rfl, hfz, hnd⟩ := hW
  have hA : DataW.TrodAll enc Try.prog W 0 (fun _ => true) true Try.f4.params.toList args.toList ds p := hA0
  rw [Try.params4] at hA hval
  obtain ⟨v0, vs0, d0, ds0, p0, q0, hargs, rfl, rfl, h0, r0⟩ := trodAll_cons hA
  obtain ⟨v1, vs1, d1, ds1, p1, q1, rfl, rfl, rfl, h1, r1⟩ := trodAll_cons r0
  obtain ⟨v2, vs2, d2, ds2, p2, q2, rfl, rfl, rfl, h2, r2⟩ := trodAll_cons r1
  obtain ⟨v3, vs3, d3, ds3, p3, q3, rfl, rfl, rfl, h3, r3⟩ := trodAll_cons r2
  obtain ⟨v4, vs4, d4, ds4, p4, q4, rfl, rfl, rfl, h4, r4⟩ := trodAll_cons r3
  obtain ⟨rfl, rfl, rfl⟩ := trodAll_nil r4
  obtain rfl : args = #[v0, v1, v2, v3, v4] := by cases args; simp_all
  obtain ⟨rfl, rfl⟩ := trodVars_none hV
  obtain ⟨a0, rfl, rfl, rfl, w0⟩ := open_int Try.underlying3 (hval 0 3 v0 rfl rfl) h0
  obtain ⟨a1, rfl, rfl, rfl, w1⟩ := open_int Try.underlying3 (hval 1 3 v1 rfl rfl) h1
  obtain ⟨a2, rfl, rfl, rfl, w2⟩ := open_int Try.underlying3 (hval 2 3 v2 rfl rfl) h2
  obtain ⟨a3, rfl, rfl, rfl, w3⟩ := open_int Try.underlying3 (hval 3 3 v3 rfl rfl) h3
  obtain ⟨a4, rfl, rfl, rfl⟩ := open_bool Try.underlying4 (hval 4 4 v4 rfl rfl) h4
  clear hA0 hval0
  simp only [List.append_nil] at hW'
  refine (walk a0 a1 a2 a3 a4 w0 w1 w2 w3 W).mono fun e W' ⟨he, hg⟩ => ?_
  subst he
  exact ⟨_, rfl, _, _, _, [], [], [], hW', trodAll_cons_mk (shut_bool Try.underlying4 _) trodAll_mk0, (trodAll_cons_mk (shut_int Try.underlying3 w0) (trodAll_cons_mk (shut_int Try.underlying3 w1) (trodAll_cons_mk (shut_int Try.underlying3 w2) (trodAll_cons_mk (shut_int Try.underlying3 w3) (trodAll_cons_mk (shut_bool Try.underlying4 _) trodAll_mk0))))), rfl, hg.frame _, fun h => by cases h⟩

theorem over : Rows.meterPartsRow.holds Try.pinned (OpenSpec.ofChange Rows.meterPartsSpec) :=
  OpenClaim.holds_of_wide 4 Try.f4 rfl rfl rfl rfl rfl rfl rfl ⟨rfl, rfl, rfl, rfl, rfl⟩ rfl rfl rfl rfl rfl (by kernel_rfl) Try.func4 (by kernel_rfl)
    (of_decide_eq_true (by kernel_rfl)) (by unfold Func.isWrapper; first | (rw [if_pos (by decide +kernel)]; kernel_rfl) | (rw [if_neg (by decide +kernel)]; exact ⟨rfl, rfl⟩))
    (fun os started H enc _ => lifted os started H enc)

/-- ████ THE STATEMENT ████ -/
theorem proved : Rows.MeterPartsSaid :=
  over
#print axioms proved
end Go.Proofs.Ytliomaiaknpphaa.meterParts
