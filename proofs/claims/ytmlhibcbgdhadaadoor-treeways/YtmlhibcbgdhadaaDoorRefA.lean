/- The reference's questions on a node's attributes. -/
import Derived.Test.YtmlhibcbgdhadaaDoorPrn
namespace Go.Proofs.YtmlhibcbgdhadaaDoor
open Go.RowKit

set_option maxRecDepth 100000 in
theorem refBits_c (k : Int) (w : World) : Calls Tryd.prog 53 #[.int .i64 k] w fun e w' => e = .returned (.int .i64 (may k)) ∧ w' = w := by
  by_cases h1 : k = 1
  · subst h1
    go_enter Tryd.func53, Tryd.ntmps53
    go_wp2_with fail
    go_ret
    exact ⟨rfl, rfl⟩
  by_cases h2 : k = 2
  · subst h2
    go_enter Tryd.func53, Tryd.ntmps53
    go_wp2_with fail
    go_ret
    exact ⟨rfl, rfl⟩
  by_cases h3 : k = 3
  · subst h3
    go_enter Tryd.func53, Tryd.ntmps53
    go_wp2_with fail
    go_ret
    exact ⟨rfl, rfl⟩
  have e : may k = 0 := by unfold may; rw [if_neg h1, if_neg h2, if_neg h3]
  rw [e]
  have g1 : (k == 1) = false := by simpa using h1
  have g2 : (k == 2) = false := by simpa using h2
  have g3 : (k == 3) = false := by simpa using h3
  go_enter Tryd.func53, Tryd.ntmps53
  go_wp2_with fail
  go_ret
  exact ⟨rfl, rfl⟩
set_option maxRecDepth 100000 in
theorem refNumber_c (b : Bool) (v lo hi : Int) (w : World) : Calls Tryd.prog 56 #[.bool b, .int .i64 v, .int .i64 lo, .int .i64 hi] w fun e w' => e = .returned (.bool (lng b v lo hi)) ∧ w' = w := by
  cases b
  · by_cases h : v = 0
    · subst h
      go_enter Tryd.func56, Tryd.ntmps56
      go_wp2_with fail
      go_ret
      exact ⟨rfl, rfl⟩
    · have g : (v == 0) = false := by simpa using h
      have e : lng false v lo hi = false := by unfold lng; simpa using h
      rw [e]
      go_enter Tryd.func56, Tryd.ntmps56
      go_wp2_with fail
      go_ret
      exact ⟨rfl, rfl⟩
  · by_cases h1 : lo ≤ v
    · by_cases h2 : v ≤ hi
      · have e : lng true v lo hi = true := by unfold lng; simp [h1, h2]
        rw [e]
        go_enter Tryd.func56, Tryd.ntmps56
        go_wp2_with fail
        go_ret
        exact ⟨rfl, rfl⟩
      · have e : lng true v lo hi = false := by unfold lng; simp [h2]
        have g : decide (v ≤ hi) = false := decide_eq_false h2
        rw [e]
        clear h2
        go_enter Tryd.func56, Tryd.ntmps56
        go_wp2_with fail
        go_ret
        exact ⟨rfl, rfl⟩
    · have e : lng true v lo hi = false := by unfold lng; simp [h1]
      have g : decide (lo ≤ v) = false := decide_eq_false h1
      rw [e]
      clear h1
      go_enter Tryd.func56, Tryd.ntmps56
      go_wp2_with fail
      go_ret
      exact ⟨rfl, rfl⟩
set_option maxRecDepth 100000 in
theorem refLength_c (b : Bool) (v lo hi : Int) (h0 : 0 ≤ lo) (h1 : hi ≤ 70368744177664) (w : World) : Calls Tryd.prog 55 #[.bool b, .int .i64 v, .int .i64 lo, .int .i64 hi] w fun e w' => e = .returned (.bool (lng b v lo hi)) ∧ w' = w := by
  have HN := hid (fun W => refNumber_c b v lo hi W)
  cases hl : lng b v lo hi
  · rw [hl] at HN
    clear hl h0 h1
    go_enter Tryd.func55, Tryd.ntmps55
    go_wp2_with fail
    refine (HN.out _).mono ?_
    rintro e w1 ⟨rfl, rfl⟩
    go_wp2_with fail
    go_ret
    exact ⟨rfl, rfl⟩
  · rw [hl] at HN
    have hv : 0 ≤ v ∧ v ≤ 70368744177664 := by
      unfold lng at hl
      cases b
      · simp at hl; omega
      · simp at hl; omega
    have HP := hid (fun W => U.refPrint_any v W)
    rw [prV_eq] at HP
    have hpe : pe v = 0 := if_pos hv
    rw [hpe] at HP
    clear hl h0 h1 hv hpe
    go_enter Tryd.func55, Tryd.ntmps55
    go_wp2_with fail
    refine (HN.out _).mono ?_
    rintro e w1 ⟨rfl, rfl⟩
    go_wp2_with fail
    refine (HP.out _).mono ?_
    rintro e w2 ⟨rfl, rfl⟩
    cases b
    · go_wp2_with fail
      go_ret
      exact ⟨rfl, rfl⟩
    · go_wp2_with fail
      go_ret
      exact ⟨rfl, rfl⟩
theorem byte_bl (s : ByteArray) (k : Nat) (h : k < s.size) : (bl s)[k]? = some (s[k]).toNat := U.bl_gets s k h
set_option maxRecDepth 100000 in
set_option maxHeartbeats 4000000 in
theorem refName_c (s : ByteArray) (w : World) (hs : s.size ≤ 140737488355328) : Calls Tryd.prog 54 #[.string s] w fun e w' => e = .returned (.bool (nam s)) ∧ w' = w := by
  have hs2 : (s.size : Int) ≤ 140737488355328 := by omega
  go_enter Tryd.func54, Tryd.ntmps54
  go_wp2_with fail
  go_loop [3] (fun i => ∃ k : Nat, i = .int .i64 k ∧ k ≤ s.size ∧ Hid (((bl s).take k).all nmB = true)) (fun i => s.size - (RowKit.intOf i).toNat)
  case atStart => exact ⟨0, rfl, by omega, rfl⟩
  case round =>
    obtain ⟨k, rfl, hk, hst⟩ := hrel
    by_cases hlt : k < s.size
    · have hb := byte_bl s k hlt
      have HB := hid hb
      have hkl : (k : Int) < (s.size : Int) := by omega
      have hk0 : (0 : Int) ≤ (k : Int) := by omega
      have HLT := hid hlt
      by_cases hc : nmB (s[k]).toNat = true
      · have HG := hid (take_all hst.out hb hc)
        have hw : (45 ≤ ((s[k]).toNat : Int) ∧ ((s[k]).toNat : Int) ≤ 45) ∨ (48 ≤ ((s[k]).toNat : Int) ∧ ((s[k]).toNat : Int) ≤ 57) ∨ (65 ≤ ((s[k]).toNat : Int) ∧ ((s[k]).toNat : Int) ≤ 90) ∨ (95 ≤ ((s[k]).toNat : Int) ∧ ((s[k]).toNat : Int) ≤ 95) ∨ (97 ≤ ((s[k]).toNat : Int) ∧ ((s[k]).toNat : Int) ≤ 122) := by
          unfold nmB at hc; simp at hc; omega
        clear hb hc hst
        rcases hw with ⟨h, h'⟩ | ⟨h, h'⟩ | ⟨h, h'⟩ | ⟨h, h'⟩ | ⟨h, h'⟩
        · have e97 : ¬ 97 ≤ ((s[k]).toNat : Int) := by omega
          have f97 : decide (97 ≤ ((s[k]).toNat : Int)) = false := decide_eq_false e97
          have e65 : ¬ 65 ≤ ((s[k]).toNat : Int) := by omega
          have f65 : decide (65 ≤ ((s[k]).toNat : Int)) = false := decide_eq_false e65
          have e48 : ¬ 48 ≤ ((s[k]).toNat : Int) := by omega
          have f48 : decide (48 ≤ ((s[k]).toNat : Int)) = false := decide_eq_false e48
          have e122 : ((s[k]).toNat : Int) ≤ 122 := by omega
          have f122 : decide (((s[k]).toNat : Int) ≤ 122) = true := decide_eq_true e122
          have e90 : ((s[k]).toNat : Int) ≤ 90 := by omega
          have f90 : decide (((s[k]).toNat : Int) ≤ 90) = true := decide_eq_true e90
          have e57 : ((s[k]).toNat : Int) ≤ 57 := by omega
          have f57 : decide (((s[k]).toNat : Int) ≤ 57) = true := decide_eq_true e57
          have f45 : ((s[k]).toNat : Int) = 45 := by omega
          have f95 : ¬ ((s[k]).toNat : Int) = 95 := by omega
          clear h h'
          go_wp2_with fail
          all_goals try (exfalso; omega)
          all_goals try (exfalso; rename_i q _ _; simp at q; omega)
          all_goals try (exfalso; rename_i q _; simp at q; omega)
          all_goals try (exfalso; rename_i q; simp at q; omega)
          go_round
          case rel => exact ⟨k + 1, by go_num, HLT.out, HG.out⟩
          case measure => have := HLT.out; simp [RowKit.intOf]; omega
        · have e97 : ¬ 97 ≤ ((s[k]).toNat : Int) := by omega
          have f97 : decide (97 ≤ ((s[k]).toNat : Int)) = false := decide_eq_false e97
          have e65 : ¬ 65 ≤ ((s[k]).toNat : Int) := by omega
          have f65 : decide (65 ≤ ((s[k]).toNat : Int)) = false := decide_eq_false e65
          have e48 : 48 ≤ ((s[k]).toNat : Int) := by omega
          have f48 : decide (48 ≤ ((s[k]).toNat : Int)) = true := decide_eq_true e48
          have e122 : ((s[k]).toNat : Int) ≤ 122 := by omega
          have f122 : decide (((s[k]).toNat : Int) ≤ 122) = true := decide_eq_true e122
          have e90 : ((s[k]).toNat : Int) ≤ 90 := by omega
          have f90 : decide (((s[k]).toNat : Int) ≤ 90) = true := decide_eq_true e90
          have e57 : ((s[k]).toNat : Int) ≤ 57 := by omega
          have f57 : decide (((s[k]).toNat : Int) ≤ 57) = true := decide_eq_true e57
          have f45 : ¬ ((s[k]).toNat : Int) = 45 := by omega
          have f95 : ¬ ((s[k]).toNat : Int) = 95 := by omega
          clear h h'
          go_wp2_with fail
          all_goals try (exfalso; omega)
          all_goals try (exfalso; rename_i q _ _; simp at q; omega)
          all_goals try (exfalso; rename_i q _; simp at q; omega)
          all_goals try (exfalso; rename_i q; simp at q; omega)
          go_round
          case rel => exact ⟨k + 1, by go_num, HLT.out, HG.out⟩
          case measure => have := HLT.out; simp [RowKit.intOf]; omega
        · have e97 : ¬ 97 ≤ ((s[k]).toNat : Int) := by omega
          have f97 : decide (97 ≤ ((s[k]).toNat : Int)) = false := decide_eq_false e97
          have e65 : 65 ≤ ((s[k]).toNat : Int) := by omega
          have f65 : decide (65 ≤ ((s[k]).toNat : Int)) = true := decide_eq_true e65
          have e48 : 48 ≤ ((s[k]).toNat : Int) := by omega
          have f48 : decide (48 ≤ ((s[k]).toNat : Int)) = true := decide_eq_true e48
          have e122 : ((s[k]).toNat : Int) ≤ 122 := by omega
          have f122 : decide (((s[k]).toNat : Int) ≤ 122) = true := decide_eq_true e122
          have e90 : ((s[k]).toNat : Int) ≤ 90 := by omega
          have f90 : decide (((s[k]).toNat : Int) ≤ 90) = true := decide_eq_true e90
          have e57 : ¬ ((s[k]).toNat : Int) ≤ 57 := by omega
          have f57 : decide (((s[k]).toNat : Int) ≤ 57) = false := decide_eq_false e57
          have f45 : ¬ ((s[k]).toNat : Int) = 45 := by omega
          have f95 : ¬ ((s[k]).toNat : Int) = 95 := by omega
          clear h h'
          go_wp2_with fail
          all_goals try (exfalso; omega)
          all_goals try (exfalso; rename_i q _ _; simp at q; omega)
          all_goals try (exfalso; rename_i q _; simp at q; omega)
          all_goals try (exfalso; rename_i q; simp at q; omega)
          go_round
          case rel => exact ⟨k + 1, by go_num, HLT.out, HG.out⟩
          case measure => have := HLT.out; simp [RowKit.intOf]; omega
        · have e97 : ¬ 97 ≤ ((s[k]).toNat : Int) := by omega
          have f97 : decide (97 ≤ ((s[k]).toNat : Int)) = false := decide_eq_false e97
          have e65 : 65 ≤ ((s[k]).toNat : Int) := by omega
          have f65 : decide (65 ≤ ((s[k]).toNat : Int)) = true := decide_eq_true e65
          have e48 : 48 ≤ ((s[k]).toNat : Int) := by omega
          have f48 : decide (48 ≤ ((s[k]).toNat : Int)) = true := decide_eq_true e48
          have e122 : ((s[k]).toNat : Int) ≤ 122 := by omega
          have f122 : decide (((s[k]).toNat : Int) ≤ 122) = true := decide_eq_true e122
          have e90 : ¬ ((s[k]).toNat : Int) ≤ 90 := by omega
          have f90 : decide (((s[k]).toNat : Int) ≤ 90) = false := decide_eq_false e90
          have e57 : ¬ ((s[k]).toNat : Int) ≤ 57 := by omega
          have f57 : decide (((s[k]).toNat : Int) ≤ 57) = false := decide_eq_false e57
          have f45 : ¬ ((s[k]).toNat : Int) = 45 := by omega
          have f95 : ((s[k]).toNat : Int) = 95 := by omega
          clear h h'
          go_wp2_with fail
          all_goals try (exfalso; omega)
          all_goals try (exfalso; rename_i q _ _; simp at q; omega)
          all_goals try (exfalso; rename_i q _; simp at q; omega)
          all_goals try (exfalso; rename_i q; simp at q; omega)
          go_round
          case rel => exact ⟨k + 1, by go_num, HLT.out, HG.out⟩
          case measure => have := HLT.out; simp [RowKit.intOf]; omega
        · have e97 : 97 ≤ ((s[k]).toNat : Int) := by omega
          have f97 : decide (97 ≤ ((s[k]).toNat : Int)) = true := decide_eq_true e97
          have e65 : 65 ≤ ((s[k]).toNat : Int) := by omega
          have f65 : decide (65 ≤ ((s[k]).toNat : Int)) = true := decide_eq_true e65
          have e48 : 48 ≤ ((s[k]).toNat : Int) := by omega
          have f48 : decide (48 ≤ ((s[k]).toNat : Int)) = true := decide_eq_true e48
          have e122 : ((s[k]).toNat : Int) ≤ 122 := by omega
          have f122 : decide (((s[k]).toNat : Int) ≤ 122) = true := decide_eq_true e122
          have e90 : ¬ ((s[k]).toNat : Int) ≤ 90 := by omega
          have f90 : decide (((s[k]).toNat : Int) ≤ 90) = false := decide_eq_false e90
          have e57 : ¬ ((s[k]).toNat : Int) ≤ 57 := by omega
          have f57 : decide (((s[k]).toNat : Int) ≤ 57) = false := decide_eq_false e57
          have f45 : ¬ ((s[k]).toNat : Int) = 45 := by omega
          have f95 : ¬ ((s[k]).toNat : Int) = 95 := by omega
          clear h h'
          go_wp2_with fail
          all_goals try (exfalso; omega)
          all_goals try (exfalso; rename_i q _ _; simp at q; omega)
          all_goals try (exfalso; rename_i q _; simp at q; omega)
          all_goals try (exfalso; rename_i q; simp at q; omega)
          go_round
          case rel => exact ⟨k + 1, by go_num, HLT.out, HG.out⟩
          case measure => have := HLT.out; simp [RowKit.intOf]; omega
      · have hc' : nmB (s[k]).toNat = false := by simpa using hc
        have HG := hid (nam_no hb hc')
        have hw : ((s[k]).toNat : Int) < 45 ∨ (46 ≤ ((s[k]).toNat : Int) ∧ ((s[k]).toNat : Int) ≤ 47) ∨ (57 < ((s[k]).toNat : Int) ∧ ((s[k]).toNat : Int) < 65) ∨ (90 < ((s[k]).toNat : Int) ∧ ((s[k]).toNat : Int) < 95) ∨ (96 ≤ ((s[k]).toNat : Int) ∧ ((s[k]).toNat : Int) ≤ 96) ∨ 122 < ((s[k]).toNat : Int) := by
          unfold nmB at hc'; simp at hc'; omega
        clear hb hc hc' hst
        rcases hw with h | ⟨h, h'⟩ | ⟨h, h'⟩ | ⟨h, h'⟩ | ⟨h, h'⟩ | h
        · have e97 : ¬ 97 ≤ ((s[k]).toNat : Int) := by omega
          have f97 : decide (97 ≤ ((s[k]).toNat : Int)) = false := decide_eq_false e97
          have e65 : ¬ 65 ≤ ((s[k]).toNat : Int) := by omega
          have f65 : decide (65 ≤ ((s[k]).toNat : Int)) = false := decide_eq_false e65
          have e48 : ¬ 48 ≤ ((s[k]).toNat : Int) := by omega
          have f48 : decide (48 ≤ ((s[k]).toNat : Int)) = false := decide_eq_false e48
          have e122 : ((s[k]).toNat : Int) ≤ 122 := by omega
          have f122 : decide (((s[k]).toNat : Int) ≤ 122) = true := decide_eq_true e122
          have e90 : ((s[k]).toNat : Int) ≤ 90 := by omega
          have f90 : decide (((s[k]).toNat : Int) ≤ 90) = true := decide_eq_true e90
          have e57 : ((s[k]).toNat : Int) ≤ 57 := by omega
          have f57 : decide (((s[k]).toNat : Int) ≤ 57) = true := decide_eq_true e57
          have f45 : ¬ ((s[k]).toNat : Int) = 45 := by omega
          have f95 : ¬ ((s[k]).toNat : Int) = 95 := by omega
          clear h
          go_wp2_with fail
          all_goals try (exfalso; omega)
          all_goals try (exfalso; rename_i q _ _; simp at q; omega)
          all_goals try (exfalso; rename_i q _; simp at q; omega)
          all_goals try (exfalso; rename_i q; simp at q; omega)
          go_ret
          exact ⟨ret_bool HG.out.symm, rfl⟩
        · have e97 : ¬ 97 ≤ ((s[k]).toNat : Int) := by omega
          have f97 : decide (97 ≤ ((s[k]).toNat : Int)) = false := decide_eq_false e97
          have e65 : ¬ 65 ≤ ((s[k]).toNat : Int) := by omega
          have f65 : decide (65 ≤ ((s[k]).toNat : Int)) = false := decide_eq_false e65
          have e48 : ¬ 48 ≤ ((s[k]).toNat : Int) := by omega
          have f48 : decide (48 ≤ ((s[k]).toNat : Int)) = false := decide_eq_false e48
          have e122 : ((s[k]).toNat : Int) ≤ 122 := by omega
          have f122 : decide (((s[k]).toNat : Int) ≤ 122) = true := decide_eq_true e122
          have e90 : ((s[k]).toNat : Int) ≤ 90 := by omega
          have f90 : decide (((s[k]).toNat : Int) ≤ 90) = true := decide_eq_true e90
          have e57 : ((s[k]).toNat : Int) ≤ 57 := by omega
          have f57 : decide (((s[k]).toNat : Int) ≤ 57) = true := decide_eq_true e57
          have f45 : ¬ ((s[k]).toNat : Int) = 45 := by omega
          have f95 : ¬ ((s[k]).toNat : Int) = 95 := by omega
          clear h h'
          go_wp2_with fail
          all_goals try (exfalso; omega)
          all_goals try (exfalso; rename_i q _ _; simp at q; omega)
          all_goals try (exfalso; rename_i q _; simp at q; omega)
          all_goals try (exfalso; rename_i q; simp at q; omega)
          go_ret
          exact ⟨ret_bool HG.out.symm, rfl⟩
        · have e97 : ¬ 97 ≤ ((s[k]).toNat : Int) := by omega
          have f97 : decide (97 ≤ ((s[k]).toNat : Int)) = false := decide_eq_false e97
          have e65 : ¬ 65 ≤ ((s[k]).toNat : Int) := by omega
          have f65 : decide (65 ≤ ((s[k]).toNat : Int)) = false := decide_eq_false e65
          have e48 : 48 ≤ ((s[k]).toNat : Int) := by omega
          have f48 : decide (48 ≤ ((s[k]).toNat : Int)) = true := decide_eq_true e48
          have e122 : ((s[k]).toNat : Int) ≤ 122 := by omega
          have f122 : decide (((s[k]).toNat : Int) ≤ 122) = true := decide_eq_true e122
          have e90 : ((s[k]).toNat : Int) ≤ 90 := by omega
          have f90 : decide (((s[k]).toNat : Int) ≤ 90) = true := decide_eq_true e90
          have e57 : ¬ ((s[k]).toNat : Int) ≤ 57 := by omega
          have f57 : decide (((s[k]).toNat : Int) ≤ 57) = false := decide_eq_false e57
          have f45 : ¬ ((s[k]).toNat : Int) = 45 := by omega
          have f95 : ¬ ((s[k]).toNat : Int) = 95 := by omega
          clear h h'
          go_wp2_with fail
          all_goals try (exfalso; omega)
          all_goals try (exfalso; rename_i q _ _; simp at q; omega)
          all_goals try (exfalso; rename_i q _; simp at q; omega)
          all_goals try (exfalso; rename_i q; simp at q; omega)
          go_ret
          exact ⟨ret_bool HG.out.symm, rfl⟩
        · have e97 : ¬ 97 ≤ ((s[k]).toNat : Int) := by omega
          have f97 : decide (97 ≤ ((s[k]).toNat : Int)) = false := decide_eq_false e97
          have e65 : 65 ≤ ((s[k]).toNat : Int) := by omega
          have f65 : decide (65 ≤ ((s[k]).toNat : Int)) = true := decide_eq_true e65
          have e48 : 48 ≤ ((s[k]).toNat : Int) := by omega
          have f48 : decide (48 ≤ ((s[k]).toNat : Int)) = true := decide_eq_true e48
          have e122 : ((s[k]).toNat : Int) ≤ 122 := by omega
          have f122 : decide (((s[k]).toNat : Int) ≤ 122) = true := decide_eq_true e122
          have e90 : ¬ ((s[k]).toNat : Int) ≤ 90 := by omega
          have f90 : decide (((s[k]).toNat : Int) ≤ 90) = false := decide_eq_false e90
          have e57 : ¬ ((s[k]).toNat : Int) ≤ 57 := by omega
          have f57 : decide (((s[k]).toNat : Int) ≤ 57) = false := decide_eq_false e57
          have f45 : ¬ ((s[k]).toNat : Int) = 45 := by omega
          have f95 : ¬ ((s[k]).toNat : Int) = 95 := by omega
          clear h h'
          go_wp2_with fail
          all_goals try (exfalso; omega)
          all_goals try (exfalso; rename_i q _ _; simp at q; omega)
          all_goals try (exfalso; rename_i q _; simp at q; omega)
          all_goals try (exfalso; rename_i q; simp at q; omega)
          go_ret
          exact ⟨ret_bool HG.out.symm, rfl⟩
        · have e97 : ¬ 97 ≤ ((s[k]).toNat : Int) := by omega
          have f97 : decide (97 ≤ ((s[k]).toNat : Int)) = false := decide_eq_false e97
          have e65 : 65 ≤ ((s[k]).toNat : Int) := by omega
          have f65 : decide (65 ≤ ((s[k]).toNat : Int)) = true := decide_eq_true e65
          have e48 : 48 ≤ ((s[k]).toNat : Int) := by omega
          have f48 : decide (48 ≤ ((s[k]).toNat : Int)) = true := decide_eq_true e48
          have e122 : ((s[k]).toNat : Int) ≤ 122 := by omega
          have f122 : decide (((s[k]).toNat : Int) ≤ 122) = true := decide_eq_true e122
          have e90 : ¬ ((s[k]).toNat : Int) ≤ 90 := by omega
          have f90 : decide (((s[k]).toNat : Int) ≤ 90) = false := decide_eq_false e90
          have e57 : ¬ ((s[k]).toNat : Int) ≤ 57 := by omega
          have f57 : decide (((s[k]).toNat : Int) ≤ 57) = false := decide_eq_false e57
          have f45 : ¬ ((s[k]).toNat : Int) = 45 := by omega
          have f95 : ¬ ((s[k]).toNat : Int) = 95 := by omega
          clear h h'
          go_wp2_with fail
          all_goals try (exfalso; omega)
          all_goals try (exfalso; rename_i q _ _; simp at q; omega)
          all_goals try (exfalso; rename_i q _; simp at q; omega)
          all_goals try (exfalso; rename_i q; simp at q; omega)
          go_ret
          exact ⟨ret_bool HG.out.symm, rfl⟩
        · have e97 : 97 ≤ ((s[k]).toNat : Int) := by omega
          have f97 : decide (97 ≤ ((s[k]).toNat : Int)) = true := decide_eq_true e97
          have e65 : 65 ≤ ((s[k]).toNat : Int) := by omega
          have f65 : decide (65 ≤ ((s[k]).toNat : Int)) = true := decide_eq_true e65
          have e48 : 48 ≤ ((s[k]).toNat : Int) := by omega
          have f48 : decide (48 ≤ ((s[k]).toNat : Int)) = true := decide_eq_true e48
          have e122 : ¬ ((s[k]).toNat : Int) ≤ 122 := by omega
          have f122 : decide (((s[k]).toNat : Int) ≤ 122) = false := decide_eq_false e122
          have e90 : ¬ ((s[k]).toNat : Int) ≤ 90 := by omega
          have f90 : decide (((s[k]).toNat : Int) ≤ 90) = false := decide_eq_false e90
          have e57 : ¬ ((s[k]).toNat : Int) ≤ 57 := by omega
          have f57 : decide (((s[k]).toNat : Int) ≤ 57) = false := decide_eq_false e57
          have f45 : ¬ ((s[k]).toNat : Int) = 45 := by omega
          have f95 : ¬ ((s[k]).toNat : Int) = 95 := by omega
          clear h
          go_wp2_with fail
          all_goals try (exfalso; omega)
          all_goals try (exfalso; rename_i q _ _; simp at q; omega)
          all_goals try (exfalso; rename_i q _; simp at q; omega)
          all_goals try (exfalso; rename_i q; simp at q; omega)
          go_ret
          exact ⟨ret_bool HG.out.symm, rfl⟩
    · have hks : k = s.size := by omega
      have hkl : ¬ (k : Int) < (s.size : Int) := by omega
      have hall : (bl s).all nmB = true := by have := hst.out; rwa [hks, List.take_of_length_le (by rw [bl_length]; omega)] at this
      by_cases h1 : 1 ≤ s.size
      · by_cases h2 : s.size ≤ 32
        · have HF : Hid (nam s = true) := by show _ = _; unfold nam; rw [hall]; simp [h1, h2]
          have g1 : (1 : Int) ≤ (s.size : Int) := by omega
          have g2 : (s.size : Int) ≤ 32 := by omega
          clear hks hst hall h1 h2 hlt
          go_wp2_with fail
          go_ret
          exact ⟨ret_bool HF.out.symm, rfl⟩
        · have HF : Hid (nam s = false) := by show _ = _; unfold nam; simp [h2]
          have g1 : (1 : Int) ≤ (s.size : Int) := by omega
          have g2 : decide ((s.size : Int) ≤ 32) = false := decide_eq_false (by omega)
          have g3 : decide (s.size ≤ 32) = false := decide_eq_false (by omega)
          clear hks hst hall h1 h2 hlt
          go_wp2_with fail
          go_ret
          exact ⟨ret_bool HF.out.symm, rfl⟩
      · have HF : Hid (nam s = false) := by show _ = _; unfold nam; simp [h1]
        have g1 : decide ((1 : Int) ≤ (s.size : Int)) = false := decide_eq_false (by omega)
        have g3 : decide (1 ≤ s.size) = false := decide_eq_false (by omega)
        clear hks hst hall h1 hlt
        go_wp2_with fail
        go_ret
        exact ⟨ret_bool HF.out.symm, rfl⟩
end Go.Proofs.YtmlhibcbgdhadaaDoor
