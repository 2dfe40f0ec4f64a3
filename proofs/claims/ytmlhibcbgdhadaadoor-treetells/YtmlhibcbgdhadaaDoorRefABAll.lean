/- The reference's questions on a node's attributes. -/
import Derived.Test.YtmlhibcbgdhadaaDoorPrn
import Derived.Test.YtmlhibcbgdhadaaDoorInjA
namespace Go.Proofs.YtmlhibcbgdhadaaDoor
open Go.RowKit

set_option maxRecDepth 100000 in
theorem refBits_c (k : Int) (w : World) : Calls Tryd.prog 53 #[.int .i64 k] w fun e w' => e = .returned (.int .i64 (may k)) ∧ w' = w := by
  by_cases h1 : k = 1
  · subst h1
    go_enter Tryd.func53, Tryd.ntmps53
    go_wp2_with fail
    go_ret
    exact ⟨rfl, rfl⟩
  by_cases h2 : k = 2
  · subst h2
    go_enter Tryd.func53, Tryd.ntmps53
    go_wp2_with fail
    go_ret
    exact ⟨rfl, rfl⟩
  by_cases h3 : k = 3
  · subst h3
    go_enter Tryd.func53, Tryd.ntmps53
    go_wp2_with fail
    go_ret
    exact ⟨rfl, rfl⟩
  have e : may k = 0 := by unfold may; rw [if_neg h1, if_neg h2, if_neg h3]
  rw [e]
  have g1 : (k == 1) = false := by simpa using h1
  have g2 : (k == 2) = false := by simpa using h2
  have g3 : (k == 3) = false := by simpa using h3
  go_enter Tryd.func53, Tryd.ntmps53
  go_wp2_with fail
  go_ret
  exact ⟨rfl, rfl⟩
set_option maxRecDepth 100000 in
theorem refNumber_c (b : Bool) (v lo hi : Int) (w : World) : Calls Tryd.prog 56 #[.bool b, .int .i64 v, .int .i64 lo, .int .i64 hi] w fun e w' => e = .returned (.bool (lng b v lo hi)) ∧ w' = w := by
  cases b
  · by_cases h : v = 0
    · subst h
      go_enter Tryd.func56, Tryd.ntmps56
      go_wp2_with fail
      go_ret
      exact ⟨rfl, rfl⟩
    · have g : (v == 0) = false := by simpa using h
      have e : lng false v lo hi = false := by unfold lng; simpa using h
      rw [e]
      go_enter Tryd.func56, Tryd.ntmps56
      go_wp2_with fail
      go_ret
      exact ⟨rfl, rfl⟩
  · by_cases h1 : lo ≤ v
    · by_cases h2 : v ≤ hi
      · have e : lng true v lo hi = true := by unfold lng; simp [h1, h2]
        rw [e]
        go_enter Tryd.func56, Tryd.ntmps56
        go_wp2_with fail
        go_ret
        exact ⟨rfl, rfl⟩
      · have e : lng true v lo hi = false := by unfold lng; simp [h2]
        have g : decide (v ≤ hi) = false := decide_eq_false h2
        rw [e]
        clear h2
        go_enter Tryd.func56, Tryd.ntmps56
        go_wp2_with fail
        go_ret
        exact ⟨rfl, rfl⟩
    · have e : lng true v lo hi = false := by unfold lng; simp [h1]
      have g : decide (lo ≤ v) = false := decide_eq_false h1
      rw [e]
      clear h1
      go_enter Tryd.func56, Tryd.ntmps56
      go_wp2_with fail
      go_ret
      exact ⟨rfl, rfl⟩
set_option maxRecDepth 100000 in
theorem refLength_c (b : Bool) (v lo hi : Int) (h0 : 0 ≤ lo) (h1 : hi ≤ 70368744177664) (w : World) : Calls Tryd.prog 55 #[.bool b, .int .i64 v, .int .i64 lo, .int .i64 hi] w fun e w' => e = .returned (.bool (lng b v lo hi)) ∧ w' = w := by
  have HN := hid (fun W => refNumber_c b v lo hi W)
  cases hl : lng b v lo hi
  · rw [hl] at HN
    clear hl h0 h1
    go_enter Tryd.func55, Tryd.ntmps55
    go_wp2_with fail
    refine (HN.out _).mono ?_
    rintro e w1 ⟨rfl, rfl⟩
    go_wp2_with fail
    go_ret
    exact ⟨rfl, rfl⟩
  · rw [hl] at HN
    have hv : 0 ≤ v ∧ v ≤ 70368744177664 := by
      unfold lng at hl
      cases b
      · simp at hl; omega
      · simp at hl; omega
    have HP := hid (fun W => U.refPrint_any v W)
    rw [prV_eq] at HP
    have hpe : pe v = 0 := if_pos hv
    rw [hpe] at HP
    clear hl h0 h1 hv hpe
    go_enter Tryd.func55, Tryd.ntmps55
    go_wp2_with fail
    refine (HN.out _).mono ?_
    rintro e w1 ⟨rfl, rfl⟩
    go_wp2_with fail
    refine (HP.out _).mono ?_
    rintro e w2 ⟨rfl, rfl⟩
    cases b
    · go_wp2_with fail
      go_ret
      exact ⟨rfl, rfl⟩
    · go_wp2_with fail
      go_ret
      exact ⟨rfl, rfl⟩
theorem byte_bl (s : ByteArray) (k : Nat) (h : k < s.size) : (bl s)[k]? = some (s[k]).toNat := U.bl_gets s k h
set_option maxRecDepth 100000 in
set_option maxHeartbeats 4000000 in
theorem refName_c (s : ByteArray) (w : World) (hs : s.size ≤ 140737488355328) : Calls Tryd.prog 54 #[.string s] w fun e w' => e = .returned (.bool (nam s)) ∧ w' = w := by
  have hs2 : (s.size : Int) ≤ 140737488355328 := by omega
  go_enter Tryd.func54, Tryd.ntmps54
  go_wp2_with fail
  go_loop [3] (fun i => ∃ k : Nat, i = .int .i64 k ∧ k ≤ s.size ∧ Hid (((bl s).take k).all nmB = true)) (fun i => s.size - (RowKit.intOf i).toNat)
  case atStart => exact ⟨0, rfl, by omega, rfl⟩
  case round =>
    obtain ⟨k, rfl, hk, hst⟩ := hrel
    by_cases hlt : k < s.size
    · have hb := byte_bl s k hlt
      have HB := hid hb
      have hkl : (k : Int) < (s.size : Int) := by omega
      have hk0 : (0 : Int) ≤ (k : Int) := by omega
      have HLT := hid hlt
      by_cases hc : nmB (s[k]).toNat = true
      · have HG := hid (take_all hst.out hb hc)
        have hw : (45 ≤ ((s[k]).toNat : Int) ∧ ((s[k]).toNat : Int) ≤ 45) ∨ (48 ≤ ((s[k]).toNat : Int) ∧ ((s[k]).toNat : Int) ≤ 57) ∨ (65 ≤ ((s[k]).toNat : Int) ∧ ((s[k]).toNat : Int) ≤ 90) ∨ (95 ≤ ((s[k]).toNat : Int) ∧ ((s[k]).toNat : Int) ≤ 95) ∨ (97 ≤ ((s[k]).toNat : Int) ∧ ((s[k]).toNat : Int) ≤ 122) := by
          unfold nmB at hc; simp at hc; omega
        clear hb hc hst
        rcases hw with ⟨h, h'⟩ | ⟨h, h'⟩ | ⟨h, h'⟩ | ⟨h, h'⟩ | ⟨h, h'⟩
        · have e97 : ¬ 97 ≤ ((s[k]).toNat : Int) := by omega
          have f97 : decide (97 ≤ ((s[k]).toNat : Int)) = false := decide_eq_false e97
          have e65 : ¬ 65 ≤ ((s[k]).toNat : Int) := by omega
          have f65 : decide (65 ≤ ((s[k]).toNat : Int)) = false := decide_eq_false e65
          have e48 : ¬ 48 ≤ ((s[k]).toNat : Int) := by omega
          have f48 : decide (48 ≤ ((s[k]).toNat : Int)) = false := decide_eq_false e48
          have e122 : ((s[k]).toNat : Int) ≤ 122 := by omega
          have f122 : decide (((s[k]).toNat : Int) ≤ 122) = true := decide_eq_true e122
          have e90 : ((s[k]).toNat : Int) ≤ 90 := by omega
          have f90 : decide (((s[k]).toNat : Int) ≤ 90) = true := decide_eq_true e90
          have e57 : ((s[k]).toNat : Int) ≤ 57 := by omega
          have f57 : decide (((s[k]).toNat : Int) ≤ 57) = true := decide_eq_true e57
          have f45 : ((s[k]).toNat : Int) = 45 := by omega
          have f95 : ¬ ((s[k]).toNat : Int) = 95 := by omega
          clear h h'
          go_wp2_with fail
          all_goals try (exfalso; omega)
          all_goals try (exfalso; rename_i q _ _; simp at q; omega)
          all_goals try (exfalso; rename_i q _; simp at q; omega)
          all_goals try (exfalso; rename_i q; simp at q; omega)
          go_round
          case rel => exact ⟨k + 1, by go_num, HLT.out, HG.out⟩
          case measure => have := HLT.out; simp [RowKit.intOf]; omega
        · have e97 : ¬ 97 ≤ ((s[k]).toNat : Int) := by omega
          have f97 : decide (97 ≤ ((s[k]).toNat : Int)) = false := decide_eq_false e97
          have e65 : ¬ 65 ≤ ((s[k]).toNat : Int) := by omega
          have f65 : decide (65 ≤ ((s[k]).toNat : Int)) = false := decide_eq_false e65
          have e48 : 48 ≤ ((s[k]).toNat : Int) := by omega
          have f48 : decide (48 ≤ ((s[k]).toNat : Int)) = true := decide_eq_true e48
          have e122 : ((s[k]).toNat : Int) ≤ 122 := by omega
          have f122 : decide (((s[k]).toNat : Int) ≤ 122) = true := decide_eq_true e122
          have e90 : ((s[k]).toNat : Int) ≤ 90 := by omega
          have f90 : decide (((s[k]).toNat : Int) ≤ 90) = true := decide_eq_true e90
          have e57 : ((s[k]).toNat : Int) ≤ 57 := by omega
          have f57 : decide (((s[k]).toNat : Int) ≤ 57) = true := decide_eq_true e57
          have f45 : ¬ ((s[k]).toNat : Int) = 45 := by omega
          have f95 : ¬ ((s[k]).toNat : Int) = 95 := by omega
          clear h h'
          go_wp2_with fail
          all_goals try (exfalso; omega)
          all_goals try (exfalso; rename_i q _ _; simp at q; omega)
          all_goals try (exfalso; rename_i q _; simp at q; omega)
          all_goals try (exfalso; rename_i q; simp at q; omega)
          go_round
          case rel => exact ⟨k + 1, by go_num, HLT.out, HG.out⟩
          case measure => have := HLT.out; simp [RowKit.intOf]; omega
        · have e97 : ¬ 97 ≤ ((s[k]).toNat : Int) := by omega
          have f97 : decide (97 ≤ ((s[k]).toNat : Int)) = false := decide_eq_false e97
          have e65 : 65 ≤ ((s[k]).toNat : Int) := by omega
          have f65 : decide (65 ≤ ((s[k]).toNat : Int)) = true := decide_eq_true e65
          have e48 : 48 ≤ ((s[k]).toNat : Int) := by omega
          have f48 : decide (48 ≤ ((s[k]).toNat : Int)) = true := decide_eq_true e48
          have e122 : ((s[k]).toNat : Int) ≤ 122 := by omega
          have f122 : decide (((s[k]).toNat : Int) ≤ 122) = true := decide_eq_true e122
          have e90 : ((s[k]).toNat : Int) ≤ 90 := by omega
          have f90 : decide (((s[k]).toNat : Int) ≤ 90) = true := decide_eq_true e90
          have e57 : ¬ ((s[k]).toNat : Int) ≤ 57 := by omega
          have f57 : decide (((s[k]).toNat : Int) ≤ 57) = false := decide_eq_false e57
          have f45 : ¬ ((s[k]).toNat : Int) = 45 := by omega
          have f95 : ¬ ((s[k]).toNat : Int) = 95 := by omega
          clear h h'
          go_wp2_with fail
          all_goals try (exfalso; omega)
          all_goals try (exfalso; rename_i q _ _; simp at q; omega)
          all_goals try (exfalso; rename_i q _; simp at q; omega)
          all_goals try (exfalso; rename_i q; simp at q; omega)
          go_round
          case rel => exact ⟨k + 1, by go_num, HLT.out, HG.out⟩
          case measure => have := HLT.out; simp [RowKit.intOf]; omega
        · have e97 : ¬ 97 ≤ ((s[k]).toNat : Int) := by omega
          have f97 : decide (97 ≤ ((s[k]).toNat : Int)) = false := decide_eq_false e97
          have e65 : 65 ≤ ((s[k]).toNat : Int) := by omega
          have f65 : decide (65 ≤ ((s[k]).toNat : Int)) = true := decide_eq_true e65
          have e48 : 48 ≤ ((s[k]).toNat : Int) := by omega
          have f48 : decide (48 ≤ ((s[k]).toNat : Int)) = true := decide_eq_true e48
          have e122 : ((s[k]).toNat : Int) ≤ 122 := by omega
          have f122 : decide (((s[k]).toNat : Int) ≤ 122) = true := decide_eq_true e122
          have e90 : ¬ ((s[k]).toNat : Int) ≤ 90 := by omega
          have f90 : decide (((s[k]).toNat : Int) ≤ 90) = false := decide_eq_false e90
          have e57 : ¬ ((s[k]).toNat : Int) ≤ 57 := by omega
          have f57 : decide (((s[k]).toNat : Int) ≤ 57) = false := decide_eq_false e57
          have f45 : ¬ ((s[k]).toNat : Int) = 45 := by omega
          have f95 : ((s[k]).toNat : Int) = 95 := by omega
          clear h h'
          go_wp2_with fail
          all_goals try (exfalso; omega)
          all_goals try (exfalso; rename_i q _ _; simp at q; omega)
          all_goals try (exfalso; rename_i q _; simp at q; omega)
          all_goals try (exfalso; rename_i q; simp at q; omega)
          go_round
          case rel => exact ⟨k + 1, by go_num, HLT.out, HG.out⟩
          case measure => have := HLT.out; simp [RowKit.intOf]; omega
        · have e97 : 97 ≤ ((s[k]).toNat : Int) := by omega
          have f97 : decide (97 ≤ ((s[k]).toNat : Int)) = true := decide_eq_true e97
          have e65 : 65 ≤ ((s[k]).toNat : Int) := by omega
          have f65 : decide (65 ≤ ((s[k]).toNat : Int)) = true := decide_eq_true e65
          have e48 : 48 ≤ ((s[k]).toNat : Int) := by omega
          have f48 : decide (48 ≤ ((s[k]).toNat : Int)) = true := decide_eq_true e48
          have e122 : ((s[k]).toNat : Int) ≤ 122 := by omega
          have f122 : decide (((s[k]).toNat : Int) ≤ 122) = true := decide_eq_true e122
          have e90 : ¬ ((s[k]).toNat : Int) ≤ 90 := by omega
          have f90 : decide (((s[k]).toNat : Int) ≤ 90) = false := decide_eq_false e90
          have e57 : ¬ ((s[k]).toNat : Int) ≤ 57 := by omega
          have f57 : decide (((s[k]).toNat : Int) ≤ 57) = false := decide_eq_false e57
          have f45 : ¬ ((s[k]).toNat : Int) = 45 := by omega
          have f95 : ¬ ((s[k]).toNat : Int) = 95 := by omega
          clear h h'
          go_wp2_with fail
          all_goals try (exfalso; omega)
          all_goals try (exfalso; rename_i q _ _; simp at q; omega)
          all_goals try (exfalso; rename_i q _; simp at q; omega)
          all_goals try (exfalso; rename_i q; simp at q; omega)
          go_round
          case rel => exact ⟨k + 1, by go_num, HLT.out, HG.out⟩
          case measure => have := HLT.out; simp [RowKit.intOf]; omega
      · have hc' : nmB (s[k]).toNat = false := by simpa using hc
        have HG := hid (nam_no hb hc')
        have hw : ((s[k]).toNat : Int) < 45 ∨ (46 ≤ ((s[k]).toNat : Int) ∧ ((s[k]).toNat : Int) ≤ 47) ∨ (57 < ((s[k]).toNat : Int) ∧ ((s[k]).toNat : Int) < 65) ∨ (90 < ((s[k]).toNat : Int) ∧ ((s[k]).toNat : Int) < 95) ∨ (96 ≤ ((s[k]).toNat : Int) ∧ ((s[k]).toNat : Int) ≤ 96) ∨ 122 < ((s[k]).toNat : Int) := by
          unfold nmB at hc'; simp at hc'; omega
        clear hb hc hc' hst
        rcases hw with h | ⟨h, h'⟩ | ⟨h, h'⟩ | ⟨h, h'⟩ | ⟨h, h'⟩ | h
        · have e97 : ¬ 97 ≤ ((s[k]).toNat : Int) := by omega
          have f97 : decide (97 ≤ ((s[k]).toNat : Int)) = false := decide_eq_false e97
          have e65 : ¬ 65 ≤ ((s[k]).toNat : Int) := by omega
          have f65 : decide (65 ≤ ((s[k]).toNat : Int)) = false := decide_eq_false e65
          have e48 : ¬ 48 ≤ ((s[k]).toNat : Int) := by omega
          have f48 : decide (48 ≤ ((s[k]).toNat : Int)) = false := decide_eq_false e48
          have e122 : ((s[k]).toNat : Int) ≤ 122 := by omega
          have f122 : decide (((s[k]).toNat : Int) ≤ 122) = true := decide_eq_true e122
          have e90 : ((s[k]).toNat : Int) ≤ 90 := by omega
          have f90 : decide (((s[k]).toNat : Int) ≤ 90) = true := decide_eq_true e90
          have e57 : ((s[k]).toNat : Int) ≤ 57 := by omega
          have f57 : decide (((s[k]).toNat : Int) ≤ 57) = true := decide_eq_true e57
          have f45 : ¬ ((s[k]).toNat : Int) = 45 := by omega
          have f95 : ¬ ((s[k]).toNat : Int) = 95 := by omega
          clear h
          go_wp2_with fail
          all_goals try (exfalso; omega)
          all_goals try (exfalso; rename_i q _ _; simp at q; omega)
          all_goals try (exfalso; rename_i q _; simp at q; omega)
          all_goals try (exfalso; rename_i q; simp at q; omega)
          go_ret
          exact ⟨ret_bool HG.out.symm, rfl⟩
        · have e97 : ¬ 97 ≤ ((s[k]).toNat : Int) := by omega
          have f97 : decide (97 ≤ ((s[k]).toNat : Int)) = false := decide_eq_false e97
          have e65 : ¬ 65 ≤ ((s[k]).toNat : Int) := by omega
          have f65 : decide (65 ≤ ((s[k]).toNat : Int)) = false := decide_eq_false e65
          have e48 : ¬ 48 ≤ ((s[k]).toNat : Int) := by omega
          have f48 : decide (48 ≤ ((s[k]).toNat : Int)) = false := decide_eq_false e48
          have e122 : ((s[k]).toNat : Int) ≤ 122 := by omega
          have f122 : decide (((s[k]).toNat : Int) ≤ 122) = true := decide_eq_true e122
          have e90 : ((s[k]).toNat : Int) ≤ 90 := by omega
          have f90 : decide (((s[k]).toNat : Int) ≤ 90) = true := decide_eq_true e90
          have e57 : ((s[k]).toNat : Int) ≤ 57 := by omega
          have f57 : decide (((s[k]).toNat : Int) ≤ 57) = true := decide_eq_true e57
          have f45 : ¬ ((s[k]).toNat : Int) = 45 := by omega
          have f95 : ¬ ((s[k]).toNat : Int) = 95 := by omega
          clear h h'
          go_wp2_with fail
          all_goals try (exfalso; omega)
          all_goals try (exfalso; rename_i q _ _; simp at q; omega)
          all_goals try (exfalso; rename_i q _; simp at q; omega)
          all_goals try (exfalso; rename_i q; simp at q; omega)
          go_ret
          exact ⟨ret_bool HG.out.symm, rfl⟩
        · have e97 : ¬ 97 ≤ ((s[k]).toNat : Int) := by omega
          have f97 : decide (97 ≤ ((s[k]).toNat : Int)) = false := decide_eq_false e97
          have e65 : ¬ 65 ≤ ((s[k]).toNat : Int) := by omega
          have f65 : decide (65 ≤ ((s[k]).toNat : Int)) = false := decide_eq_false e65
          have e48 : 48 ≤ ((s[k]).toNat : Int) := by omega
          have f48 : decide (48 ≤ ((s[k]).toNat : Int)) = true := decide_eq_true e48
          have e122 : ((s[k]).toNat : Int) ≤ 122 := by omega
          have f122 : decide (((s[k]).toNat : Int) ≤ 122) = true := decide_eq_true e122
          have e90 : ((s[k]).toNat : Int) ≤ 90 := by omega
          have f90 : decide (((s[k]).toNat : Int) ≤ 90) = true := decide_eq_true e90
          have e57 : ¬ ((s[k]).toNat : Int) ≤ 57 := by omega
          have f57 : decide (((s[k]).toNat : Int) ≤ 57) = false := decide_eq_false e57
          have f45 : ¬ ((s[k]).toNat : Int) = 45 := by omega
          have f95 : ¬ ((s[k]).toNat : Int) = 95 := by omega
          clear h h'
          go_wp2_with fail
          all_goals try (exfalso; omega)
          all_goals try (exfalso; rename_i q _ _; simp at q; omega)
          all_goals try (exfalso; rename_i q _; simp at q; omega)
          all_goals try (exfalso; rename_i q; simp at q; omega)
          go_ret
          exact ⟨ret_bool HG.out.symm, rfl⟩
        · have e97 : ¬ 97 ≤ ((s[k]).toNat : Int) := by omega
          have f97 : decide (97 ≤ ((s[k]).toNat : Int)) = false := decide_eq_false e97
          have e65 : 65 ≤ ((s[k]).toNat : Int) := by omega
          have f65 : decide (65 ≤ ((s[k]).toNat : Int)) = true := decide_eq_true e65
          have e48 : 48 ≤ ((s[k]).toNat : Int) := by omega
          have f48 : decide (48 ≤ ((s[k]).toNat : Int)) = true := decide_eq_true e48
          have e122 : ((s[k]).toNat : Int) ≤ 122 := by omega
          have f122 : decide (((s[k]).toNat : Int) ≤ 122) = true := decide_eq_true e122
          have e90 : ¬ ((s[k]).toNat : Int) ≤ 90 := by omega
          have f90 : decide (((s[k]).toNat : Int) ≤ 90) = false := decide_eq_false e90
          have e57 : ¬ ((s[k]).toNat : Int) ≤ 57 := by omega
          have f57 : decide (((s[k]).toNat : Int) ≤ 57) = false := decide_eq_false e57
          have f45 : ¬ ((s[k]).toNat : Int) = 45 := by omega
          have f95 : ¬ ((s[k]).toNat : Int) = 95 := by omega
          clear h h'
          go_wp2_with fail
          all_goals try (exfalso; omega)
          all_goals try (exfalso; rename_i q _ _; simp at q; omega)
          all_goals try (exfalso; rename_i q _; simp at q; omega)
          all_goals try (exfalso; rename_i q; simp at q; omega)
          go_ret
          exact ⟨ret_bool HG.out.symm, rfl⟩
        · have e97 : ¬ 97 ≤ ((s[k]).toNat : Int) := by omega
          have f97 : decide (97 ≤ ((s[k]).toNat : Int)) = false := decide_eq_false e97
          have e65 : 65 ≤ ((s[k]).toNat : Int) := by omega
          have f65 : decide (65 ≤ ((s[k]).toNat : Int)) = true := decide_eq_true e65
          have e48 : 48 ≤ ((s[k]).toNat : Int) := by omega
          have f48 : decide (48 ≤ ((s[k]).toNat : Int)) = true := decide_eq_true e48
          have e122 : ((s[k]).toNat : Int) ≤ 122 := by omega
          have f122 : decide (((s[k]).toNat : Int) ≤ 122) = true := decide_eq_true e122
          have e90 : ¬ ((s[k]).toNat : Int) ≤ 90 := by omega
          have f90 : decide (((s[k]).toNat : Int) ≤ 90) = false := decide_eq_false e90
          have e57 : ¬ ((s[k]).toNat : Int) ≤ 57 := by omega
          have f57 : decide (((s[k]).toNat : Int) ≤ 57) = false := decide_eq_false e57
          have f45 : ¬ ((s[k]).toNat : Int) = 45 := by omega
          have f95 : ¬ ((s[k]).toNat : Int) = 95 := by omega
          clear h h'
          go_wp2_with fail
          all_goals try (exfalso; omega)
          all_goals try (exfalso; rename_i q _ _; simp at q; omega)
          all_goals try (exfalso; rename_i q _; simp at q; omega)
          all_goals try (exfalso; rename_i q; simp at q; omega)
          go_ret
          exact ⟨ret_bool HG.out.symm, rfl⟩
        · have e97 : 97 ≤ ((s[k]).toNat : Int) := by omega
          have f97 : decide (97 ≤ ((s[k]).toNat : Int)) = true := decide_eq_true e97
          have e65 : 65 ≤ ((s[k]).toNat : Int) := by omega
          have f65 : decide (65 ≤ ((s[k]).toNat : Int)) = true := decide_eq_true e65
          have e48 : 48 ≤ ((s[k]).toNat : Int) := by omega
          have f48 : decide (48 ≤ ((s[k]).toNat : Int)) = true := decide_eq_true e48
          have e122 : ¬ ((s[k]).toNat : Int) ≤ 122 := by omega
          have f122 : decide (((s[k]).toNat : Int) ≤ 122) = false := decide_eq_false e122
          have e90 : ¬ ((s[k]).toNat : Int) ≤ 90 := by omega
          have f90 : decide (((s[k]).toNat : Int) ≤ 90) = false := decide_eq_false e90
          have e57 : ¬ ((s[k]).toNat : Int) ≤ 57 := by omega
          have f57 : decide (((s[k]).toNat : Int) ≤ 57) = false := decide_eq_false e57
          have f45 : ¬ ((s[k]).toNat : Int) = 45 := by omega
          have f95 : ¬ ((s[k]).toNat : Int) = 95 := by omega
          clear h
          go_wp2_with fail
          all_goals try (exfalso; omega)
          all_goals try (exfalso; rename_i q _ _; simp at q; omega)
          all_goals try (exfalso; rename_i q _; simp at q; omega)
          all_goals try (exfalso; rename_i q; simp at q; omega)
          go_ret
          exact ⟨ret_bool HG.out.symm, rfl⟩
    · have hks : k = s.size := by omega
      have hkl : ¬ (k : Int) < (s.size : Int) := by omega
      have hall : (bl s).all nmB = true := by have := hst.out; rwa [hks, List.take_of_length_le (by rw [bl_length]; omega)] at this
      by_cases h1 : 1 ≤ s.size
      · by_cases h2 : s.size ≤ 32
        · have HF : Hid (nam s = true) := by show _ = _; unfold nam; rw [hall]; simp [h1, h2]
          have g1 : (1 : Int) ≤ (s.size : Int) := by omega
          have g2 : (s.size : Int) ≤ 32 := by omega
          clear hks hst hall h1 h2 hlt
          go_wp2_with fail
          go_ret
          exact ⟨ret_bool HF.out.symm, rfl⟩
        · have HF : Hid (nam s = false) := by show _ = _; unfold nam; simp [h2]
          have g1 : (1 : Int) ≤ (s.size : Int) := by omega
          have g2 : decide ((s.size : Int) ≤ 32) = false := decide_eq_false (by omega)
          have g3 : decide (s.size ≤ 32) = false := decide_eq_false (by omega)
          clear hks hst hall h1 h2 hlt
          go_wp2_with fail
          go_ret
          exact ⟨ret_bool HF.out.symm, rfl⟩
      · have HF : Hid (nam s = false) := by show _ = _; unfold nam; simp [h1]
        have g1 : decide ((1 : Int) ≤ (s.size : Int)) = false := decide_eq_false (by omega)
        have g3 : decide (1 ≤ s.size) = false := decide_eq_false (by omega)
        clear hks hst hall h1 hlt
        go_wp2_with fail
        go_ret
        exact ⟨ret_bool HF.out.symm, rfl⟩
end Go.Proofs.YtmlhibcbgdhadaaDoor
namespace Go.Proofs.YtmlhibcbgdhadaaDoor
open Go.RowKit

set_option maxRecDepth 100000 in
set_option maxHeartbeats 8000000 in
theorem refAttrs_c (x : Nd × Value) (hf : Fit x.1) (w : World) : Calls Tryd.prog 33 #[.agg (ndc x).toArray] w fun e w' => e = .returned (.bool (atr x.1)) ∧ Only [] w w' := by
  obtain ⟨xn, xv⟩ := x
  dsimp only at hf ⊢
  have hI := hf.has
  have hfs := hf.font
  obtain ⟨r, hr⟩ : ∃ r, atr xn = r := ⟨_, rfl⟩
  rw [hr]
  have hneg : ¬ 0 ≤ xn.has → r = false := fun h => by
    cases r
    · rfl
    · exact absurd (has_le hI hr).1 h
  have HB := hid (fun W => refBits_c xn.kind W)
  have HNM := hid (fun W => refName_c xn.font W hfs)
  have HL2 := hid (fun W => refLength_c (bits .and .i64 xn.has 2 != 0) xn.size 1 67108864 (by decide) (by decide) W)
  have HL4 := hid (fun W => refLength_c (bits .and .i64 xn.has 4 != 0) xn.width 1 536870912 (by decide) (by decide) W)
  have HL8 := hid (fun W => refLength_c (bits .and .i64 xn.has 8 != 0) xn.height 1 536870912 (by decide) (by decide) W)
  have HL16 := hid (fun W => refLength_c (bits .and .i64 xn.has 16 != 0) xn.lead 0 536870912 (by decide) (by decide) W)
  have HL32 := hid (fun W => refLength_c (bits .and .i64 xn.has 32 != 0) xn.skip 0 536870912 (by decide) (by decide) W)
  have HL64 := hid (fun W => refNumber_c (bits .and .i64 xn.has 64 != 0) xn.tol 0 10000 W)
  have hA : atr xn = (bits .andNot .i64 xn.has (may xn.kind) == 0 && (xn.kind != 1 || bits .and .i64 xn.has 12 == 12) && (if hb xn 1 then nam xn.font else decide (xn.font.size = 0)) && lng (bits .and .i64 xn.has 2 != 0) xn.size 1 67108864 && lng (bits .and .i64 xn.has 4 != 0) xn.width 1 536870912 && lng (bits .and .i64 xn.has 8 != 0) xn.height 1 536870912 && lng (bits .and .i64 xn.has 16 != 0) xn.lead 0 536870912 && lng (bits .and .i64 xn.has 32 != 0) xn.skip 0 536870912 && lng (bits .and .i64 xn.has 64 != 0) xn.tol 0 10000) := rfl
  rw [hr] at hA
  generalize hl2 : lng (bits .and .i64 xn.has 2 != 0) xn.size 1 67108864 = l2 at hA HL2
  generalize hl4 : lng (bits .and .i64 xn.has 4 != 0) xn.width 1 536870912 = l4 at hA HL4
  generalize hl8 : lng (bits .and .i64 xn.has 8 != 0) xn.height 1 536870912 = l8 at hA HL8
  generalize hl16 : lng (bits .and .i64 xn.has 16 != 0) xn.lead 0 536870912 = l16 at hA HL16
  generalize hl32 : lng (bits .and .i64 xn.has 32 != 0) xn.skip 0 536870912 = l32 at hA HL32
  generalize hl64 : lng (bits .and .i64 xn.has 64 != 0) xn.tol 0 10000 = l64 at hA HL64
  clear hl2
  clear hl4
  clear hl8
  clear hl16
  clear hl32
  clear hl64
  obtain ⟨mk, hmk⟩ : ∃ mk, may xn.kind = mk := ⟨_, rfl⟩
  rw [hmk] at hA HB
  clear hmk hr hf hI hfs
  unfold ndc
  dsimp only
  by_cases h0 : 0 ≤ xn.has
  case neg =>
    have hrf := hneg h0
    subst hrf
    have h1 : xn.has < 0 := by omega
    have h2 : decide (xn.has < 0) = true := decide_eq_true h1
    clear hneg hA h0
    go_enter Tryd.func33, Tryd.ntmps33
    go_wp2_with fail
    go_ret
    exact ⟨rfl, (Only.refl _ _).alloc _⟩
  case pos =>
    have h1 : ¬ xn.has < 0 := by omega
    have h2 : decide (xn.has < 0) = false := decide_eq_false h1
    clear hneg h0
    rcases hz : (bits .andNot .i64 xn.has mk == 0) with _ | _
    · rw [hz] at hA
      simp only [Bool.false_and] at hA
      subst hA
      have hz2 : (bits .andNot .i64 xn.has mk != 0) = true := by unfold bne; rw [hz]; rfl
      go_enter Tryd.func33, Tryd.ntmps33
      go_wp2_with (go_at_call 53; refine (HB.out _).mono ?_; rintro e w1 ⟨rfl, rfl⟩)
      go_ret
      exact ⟨rfl, (Only.refl _ _).alloc _⟩
    · rw [hz] at hA
      have hz2 : (bits .andNot .i64 xn.has mk != 0) = false := by unfold bne; rw [hz]; rfl
      have kinds : (xn.kind == 1) = true ∧ (bits .and .i64 xn.has 12 == 12) = false ∨ ((xn.kind == 1) = true ∧ (bits .and .i64 xn.has 12 == 12) = true ∨ (xn.kind == 1) = false) := by
        cases (xn.kind == 1) <;> cases (bits .and .i64 xn.has 12 == 12) <;> simp
      rcases kinds with ⟨k1, k2⟩ | kk
      · have k3 : (bits .and .i64 xn.has 12 != 12) = true := by unfold bne; rw [k2]; rfl
        have k4 : (xn.kind != 1) = false := by unfold bne; rw [k1]; rfl
        rw [k2, k4] at hA
        simp only [Bool.true_and, Bool.or_false, Bool.false_and] at hA
        subst hA
        go_enter Tryd.func33, Tryd.ntmps33
        go_wp2_with (go_at_call 53; refine (HB.out _).mono ?_; rintro e w1 ⟨rfl, rfl⟩)
        go_ret
        exact ⟨rfl, (Only.refl _ _).alloc _⟩
      · have hA2 : r = ((if hb xn 1 then nam xn.font else decide (xn.font.size = 0)) && l2 && l4 && l8 && l16 && l32 && l64) := by
          rw [hA]
          rcases kk with ⟨k1, k2⟩ | k1
          · have k4 : (xn.kind != 1) = false := by unfold bne; rw [k1]; rfl
            rw [k2, k4]; simp
          · have k4 : (xn.kind != 1) = true := by unfold bne; rw [k1]; rfl
            rw [k4]; simp
        clear hA
        have k34 : ((xn.kind == 1) = true ∧ (bits .and .i64 xn.has 12 != 12) = false) ∨ (xn.kind == 1) = false := by
          rcases kk with ⟨k1, k2⟩ | k1
          · exact .inl ⟨k1, by unfold bne; rw [k2]; rfl⟩
          · exact .inr k1
        clear kk
        -- the font: right, or wrong
        have fonts : ((bits .and .i64 xn.has 1 == 0) = true ∧ xn.font.size ≠ 0 ∧ r = false) ∨ ((bits .and .i64 xn.has 1 == 0) = true ∧ xn.font.size = 0 ∧ r = (l2 && l4 && l8 && l16 && l32 && l64)) ∨ ((bits .and .i64 xn.has 1 == 0) = false ∧ nam xn.font = false ∧ r = false) ∨ ((bits .and .i64 xn.has 1 == 0) = false ∧ nam xn.font = true ∧ r = (l2 && l4 && l8 && l16 && l32 && l64)) := by
          unfold hb bne at hA2
          cases hq : (bits .and .i64 xn.has 1 == 0)
          · rw [hq] at hA2
            simp only [Bool.not_false, if_true] at hA2
            cases hn : nam xn.font
            · rw [hn] at hA2; simp only [Bool.false_and] at hA2; exact .inr (.inr (.inl ⟨rfl, rfl, hA2⟩))
            · rw [hn] at hA2; simp only [Bool.true_and] at hA2; exact .inr (.inr (.inr ⟨rfl, rfl, hA2⟩))
          · rw [hq] at hA2
            simp only [Bool.not_true, Bool.false_eq_true, if_false] at hA2
            by_cases hs : xn.font.size = 0
            · rw [decide_eq_true hs] at hA2; simp only [Bool.true_and] at hA2; exact .inr (.inl ⟨rfl, hs, hA2⟩)
            · rw [decide_eq_false hs] at hA2; simp only [Bool.false_and] at hA2; exact .inl ⟨rfl, hs, hA2⟩
        clear hA2
        rcases fonts with ⟨f1, f2, hrf⟩ | ⟨f1, f2, hA⟩ | ⟨f1, f2, hrf⟩ | ⟨f1, f2, hA⟩
        · subst hrf
          obtain ⟨t1, t2, t3, t4⟩ := U.nonempty_toList (s := xn.font) (by omega)
          have f3 : (bits .and .i64 xn.has 1 != 0) = false := by unfold bne; rw [f1]; rfl
          clear f2
          rcases k34 with ⟨k1, k2⟩ | k1
          all_goals
            go_enter Tryd.func33, Tryd.ntmps33
            go_wp2_with (first | (go_at_call 53; refine (HB.out _).mono ?_; rintro e w1 ⟨rfl, rfl⟩))
            go_ret
            exact ⟨rfl, (Only.refl _ _).alloc _⟩
        · have hs0 := U.size_zero f2
          rw [hs0]
          have f3 : (bits .and .i64 xn.has 1 != 0) = false := by unfold bne; rw [f1]; rfl
          clear hs0 f2
          cases l2
          · obtain rfl : r = false := by rw [hA]; simp
            clear hA
            rcases k34 with ⟨k1, k2⟩ | k1
            all_goals
              go_enter Tryd.func33, Tryd.ntmps33
              go_wp2_with (first | (go_at_call 53; refine (HB.out _).mono ?_; rintro e w1 ⟨rfl, rfl⟩) | (with_reducible (go_at_call 55; refine (HL2.out _).mono ?_); rintro e w1 ⟨rfl, rfl⟩) | (with_reducible (go_at_call 55; refine (HL4.out _).mono ?_); rintro e w1 ⟨rfl, rfl⟩) | (with_reducible (go_at_call 55; refine (HL8.out _).mono ?_); rintro e w1 ⟨rfl, rfl⟩) | (with_reducible (go_at_call 55; refine (HL16.out _).mono ?_); rintro e w1 ⟨rfl, rfl⟩) | (with_reducible (go_at_call 55; refine (HL32.out _).mono ?_); rintro e w1 ⟨rfl, rfl⟩) | (go_at_call 56; refine (HL64.out _).mono ?_; rintro e w1 ⟨rfl, rfl⟩))
              go_ret
              exact ⟨rfl, (Only.refl _ _).alloc _⟩
          · cases l4
            · obtain rfl : r = false := by rw [hA]; simp
              clear hA
              rcases k34 with ⟨k1, k2⟩ | k1
              all_goals
                go_enter Tryd.func33, Tryd.ntmps33
                go_wp2_with (first | (go_at_call 53; refine (HB.out _).mono ?_; rintro e w1 ⟨rfl, rfl⟩) | (with_reducible (go_at_call 55; refine (HL2.out _).mono ?_); rintro e w1 ⟨rfl, rfl⟩) | (with_reducible (go_at_call 55; refine (HL4.out _).mono ?_); rintro e w1 ⟨rfl, rfl⟩) | (with_reducible (go_at_call 55; refine (HL8.out _).mono ?_); rintro e w1 ⟨rfl, rfl⟩) | (with_reducible (go_at_call 55; refine (HL16.out _).mono ?_); rintro e w1 ⟨rfl, rfl⟩) | (with_reducible (go_at_call 55; refine (HL32.out _).mono ?_); rintro e w1 ⟨rfl, rfl⟩) | (go_at_call 56; refine (HL64.out _).mono ?_; rintro e w1 ⟨rfl, rfl⟩))
                go_ret
                exact ⟨rfl, (Only.refl _ _).alloc _⟩
            · cases l8
              · obtain rfl : r = false := by rw [hA]; simp
                clear hA
                rcases k34 with ⟨k1, k2⟩ | k1
                all_goals
                  go_enter Tryd.func33, Tryd.ntmps33
                  go_wp2_with (first | (go_at_call 53; refine (HB.out _).mono ?_; rintro e w1 ⟨rfl, rfl⟩) | (with_reducible (go_at_call 55; refine (HL2.out _).mono ?_); rintro e w1 ⟨rfl, rfl⟩) | (with_reducible (go_at_call 55; refine (HL4.out _).mono ?_); rintro e w1 ⟨rfl, rfl⟩) | (with_reducible (go_at_call 55; refine (HL8.out _).mono ?_); rintro e w1 ⟨rfl, rfl⟩) | (with_reducible (go_at_call 55; refine (HL16.out _).mono ?_); rintro e w1 ⟨rfl, rfl⟩) | (with_reducible (go_at_call 55; refine (HL32.out _).mono ?_); rintro e w1 ⟨rfl, rfl⟩) | (go_at_call 56; refine (HL64.out _).mono ?_; rintro e w1 ⟨rfl, rfl⟩))
                  go_ret
                  exact ⟨rfl, (Only.refl _ _).alloc _⟩
              · cases l16
                · obtain rfl : r = false := by rw [hA]; simp
                  clear hA
                  rcases k34 with ⟨k1, k2⟩ | k1
                  all_goals
                    go_enter Tryd.func33, Tryd.ntmps33
                    go_wp2_with (first | (go_at_call 53; refine (HB.out _).mono ?_; rintro e w1 ⟨rfl, rfl⟩) | (with_reducible (go_at_call 55; refine (HL2.out _).mono ?_); rintro e w1 ⟨rfl, rfl⟩) | (with_reducible (go_at_call 55; refine (HL4.out _).mono ?_); rintro e w1 ⟨rfl, rfl⟩) | (with_reducible (go_at_call 55; refine (HL8.out _).mono ?_); rintro e w1 ⟨rfl, rfl⟩) | (with_reducible (go_at_call 55; refine (HL16.out _).mono ?_); rintro e w1 ⟨rfl, rfl⟩) | (with_reducible (go_at_call 55; refine (HL32.out _).mono ?_); rintro e w1 ⟨rfl, rfl⟩) | (go_at_call 56; refine (HL64.out _).mono ?_; rintro e w1 ⟨rfl, rfl⟩))
                    go_ret
                    exact ⟨rfl, (Only.refl _ _).alloc _⟩
                · cases l32
                  · obtain rfl : r = false := by rw [hA]; simp
                    clear hA
                    rcases k34 with ⟨k1, k2⟩ | k1
                    all_goals
                      go_enter Tryd.func33, Tryd.ntmps33
                      go_wp2_with (first | (go_at_call 53; refine (HB.out _).mono ?_; rintro e w1 ⟨rfl, rfl⟩) | (with_reducible (go_at_call 55; refine (HL2.out _).mono ?_); rintro e w1 ⟨rfl, rfl⟩) | (with_reducible (go_at_call 55; refine (HL4.out _).mono ?_); rintro e w1 ⟨rfl, rfl⟩) | (with_reducible (go_at_call 55; refine (HL8.out _).mono ?_); rintro e w1 ⟨rfl, rfl⟩) | (with_reducible (go_at_call 55; refine (HL16.out _).mono ?_); rintro e w1 ⟨rfl, rfl⟩) | (with_reducible (go_at_call 55; refine (HL32.out _).mono ?_); rintro e w1 ⟨rfl, rfl⟩) | (go_at_call 56; refine (HL64.out _).mono ?_; rintro e w1 ⟨rfl, rfl⟩))
                      go_ret
                      exact ⟨rfl, (Only.refl _ _).alloc _⟩
                  · cases l64
                    · obtain rfl : r = false := by rw [hA]; simp
                      clear hA
                      rcases k34 with ⟨k1, k2⟩ | k1
                      all_goals
                        go_enter Tryd.func33, Tryd.ntmps33
                        go_wp2_with (first | (go_at_call 53; refine (HB.out _).mono ?_; rintro e w1 ⟨rfl, rfl⟩) | (with_reducible (go_at_call 55; refine (HL2.out _).mono ?_); rintro e w1 ⟨rfl, rfl⟩) | (with_reducible (go_at_call 55; refine (HL4.out _).mono ?_); rintro e w1 ⟨rfl, rfl⟩) | (with_reducible (go_at_call 55; refine (HL8.out _).mono ?_); rintro e w1 ⟨rfl, rfl⟩) | (with_reducible (go_at_call 55; refine (HL16.out _).mono ?_); rintro e w1 ⟨rfl, rfl⟩) | (with_reducible (go_at_call 55; refine (HL32.out _).mono ?_); rintro e w1 ⟨rfl, rfl⟩) | (go_at_call 56; refine (HL64.out _).mono ?_; rintro e w1 ⟨rfl, rfl⟩))
                        go_ret
                        exact ⟨rfl, (Only.refl _ _).alloc _⟩
                    · obtain rfl : r = true := by rw [hA]; simp
                      clear hA
                      rcases k34 with ⟨k1, k2⟩ | k1
                      all_goals
                        go_enter Tryd.func33, Tryd.ntmps33
                        go_wp2_with (first | (go_at_call 53; refine (HB.out _).mono ?_; rintro e w1 ⟨rfl, rfl⟩) | (with_reducible (go_at_call 55; refine (HL2.out _).mono ?_); rintro e w1 ⟨rfl, rfl⟩) | (with_reducible (go_at_call 55; refine (HL4.out _).mono ?_); rintro e w1 ⟨rfl, rfl⟩) | (with_reducible (go_at_call 55; refine (HL8.out _).mono ?_); rintro e w1 ⟨rfl, rfl⟩) | (with_reducible (go_at_call 55; refine (HL16.out _).mono ?_); rintro e w1 ⟨rfl, rfl⟩) | (with_reducible (go_at_call 55; refine (HL32.out _).mono ?_); rintro e w1 ⟨rfl, rfl⟩) | (go_at_call 56; refine (HL64.out _).mono ?_; rintro e w1 ⟨rfl, rfl⟩))
                        go_ret
                        exact ⟨rfl, (Only.refl _ _).alloc _⟩
        · subst hrf
          rw [f2] at HNM
          have f3 : (bits .and .i64 xn.has 1 != 0) = true := by unfold bne; rw [f1]; rfl
          clear f2
          rcases k34 with ⟨k1, k2⟩ | k1
          all_goals
            go_enter Tryd.func33, Tryd.ntmps33
            go_wp2_with (first | (go_at_call 53; refine (HB.out _).mono ?_; rintro e w1 ⟨rfl, rfl⟩) | (go_at_call 54; refine (HNM.out _).mono ?_; rintro e w1 ⟨rfl, rfl⟩))
            go_ret
            exact ⟨rfl, (Only.refl _ _).alloc _⟩
        · rw [f2] at HNM
          have f3 : (bits .and .i64 xn.has 1 != 0) = true := by unfold bne; rw [f1]; rfl
          clear f2
          cases l2
          · obtain rfl : r = false := by rw [hA]; simp
            clear hA
            rcases k34 with ⟨k1, k2⟩ | k1
            all_goals
              go_enter Tryd.func33, Tryd.ntmps33
              go_wp2_with (first | (go_at_call 53; refine (HB.out _).mono ?_; rintro e w1 ⟨rfl, rfl⟩) | (go_at_call 54; refine (HNM.out _).mono ?_; rintro e w1 ⟨rfl, rfl⟩) | (with_reducible (go_at_call 55; refine (HL2.out _).mono ?_); rintro e w1 ⟨rfl, rfl⟩) | (with_reducible (go_at_call 55; refine (HL4.out _).mono ?_); rintro e w1 ⟨rfl, rfl⟩) | (with_reducible (go_at_call 55; refine (HL8.out _).mono ?_); rintro e w1 ⟨rfl, rfl⟩) | (with_reducible (go_at_call 55; refine (HL16.out _).mono ?_); rintro e w1 ⟨rfl, rfl⟩) | (with_reducible (go_at_call 55; refine (HL32.out _).mono ?_); rintro e w1 ⟨rfl, rfl⟩) | (go_at_call 56; refine (HL64.out _).mono ?_; rintro e w1 ⟨rfl, rfl⟩))
              go_ret
              exact ⟨rfl, (Only.refl _ _).alloc _⟩
          · cases l4
            · obtain rfl : r = false := by rw [hA]; simp
              clear hA
              rcases k34 with ⟨k1, k2⟩ | k1
              all_goals
                go_enter Tryd.func33, Tryd.ntmps33
                go_wp2_with (first | (go_at_call 53; refine (HB.out _).mono ?_; rintro e w1 ⟨rfl, rfl⟩) | (go_at_call 54; refine (HNM.out _).mono ?_; rintro e w1 ⟨rfl, rfl⟩) | (with_reducible (go_at_call 55; refine (HL2.out _).mono ?_); rintro e w1 ⟨rfl, rfl⟩) | (with_reducible (go_at_call 55; refine (HL4.out _).mono ?_); rintro e w1 ⟨rfl, rfl⟩) | (with_reducible (go_at_call 55; refine (HL8.out _).mono ?_); rintro e w1 ⟨rfl, rfl⟩) | (with_reducible (go_at_call 55; refine (HL16.out _).mono ?_); rintro e w1 ⟨rfl, rfl⟩) | (with_reducible (go_at_call 55; refine (HL32.out _).mono ?_); rintro e w1 ⟨rfl, rfl⟩) | (go_at_call 56; refine (HL64.out _).mono ?_; rintro e w1 ⟨rfl, rfl⟩))
                go_ret
                exact ⟨rfl, (Only.refl _ _).alloc _⟩
            · cases l8
              · obtain rfl : r = false := by rw [hA]; simp
                clear hA
                rcases k34 with ⟨k1, k2⟩ | k1
                all_goals
                  go_enter Tryd.func33, Tryd.ntmps33
                  go_wp2_with (first | (go_at_call 53; refine (HB.out _).mono ?_; rintro e w1 ⟨rfl, rfl⟩) | (go_at_call 54; refine (HNM.out _).mono ?_; rintro e w1 ⟨rfl, rfl⟩) | (with_reducible (go_at_call 55; refine (HL2.out _).mono ?_); rintro e w1 ⟨rfl, rfl⟩) | (with_reducible (go_at_call 55; refine (HL4.out _).mono ?_); rintro e w1 ⟨rfl, rfl⟩) | (with_reducible (go_at_call 55; refine (HL8.out _).mono ?_); rintro e w1 ⟨rfl, rfl⟩) | (with_reducible (go_at_call 55; refine (HL16.out _).mono ?_); rintro e w1 ⟨rfl, rfl⟩) | (with_reducible (go_at_call 55; refine (HL32.out _).mono ?_); rintro e w1 ⟨rfl, rfl⟩) | (go_at_call 56; refine (HL64.out _).mono ?_; rintro e w1 ⟨rfl, rfl⟩))
                  go_ret
                  exact ⟨rfl, (Only.refl _ _).alloc _⟩
              · cases l16
                · obtain rfl : r = false := by rw [hA]; simp
                  clear hA
                  rcases k34 with ⟨k1, k2⟩ | k1
                  all_goals
                    go_enter Tryd.func33, Tryd.ntmps33
                    go_wp2_with (first | (go_at_call 53; refine (HB.out _).mono ?_; rintro e w1 ⟨rfl, rfl⟩) | (go_at_call 54; refine (HNM.out _).mono ?_; rintro e w1 ⟨rfl, rfl⟩) | (with_reducible (go_at_call 55; refine (HL2.out _).mono ?_); rintro e w1 ⟨rfl, rfl⟩) | (with_reducible (go_at_call 55; refine (HL4.out _).mono ?_); rintro e w1 ⟨rfl, rfl⟩) | (with_reducible (go_at_call 55; refine (HL8.out _).mono ?_); rintro e w1 ⟨rfl, rfl⟩) | (with_reducible (go_at_call 55; refine (HL16.out _).mono ?_); rintro e w1 ⟨rfl, rfl⟩) | (with_reducible (go_at_call 55; refine (HL32.out _).mono ?_); rintro e w1 ⟨rfl, rfl⟩) | (go_at_call 56; refine (HL64.out _).mono ?_; rintro e w1 ⟨rfl, rfl⟩))
                    go_ret
                    exact ⟨rfl, (Only.refl _ _).alloc _⟩
                · cases l32
                  · obtain rfl : r = false := by rw [hA]; simp
                    clear hA
                    rcases k34 with ⟨k1, k2⟩ | k1
                    all_goals
                      go_enter Tryd.func33, Tryd.ntmps33
                      go_wp2_with (first | (go_at_call 53; refine (HB.out _).mono ?_; rintro e w1 ⟨rfl, rfl⟩) | (go_at_call 54; refine (HNM.out _).mono ?_; rintro e w1 ⟨rfl, rfl⟩) | (with_reducible (go_at_call 55; refine (HL2.out _).mono ?_); rintro e w1 ⟨rfl, rfl⟩) | (with_reducible (go_at_call 55; refine (HL4.out _).mono ?_); rintro e w1 ⟨rfl, rfl⟩) | (with_reducible (go_at_call 55; refine (HL8.out _).mono ?_); rintro e w1 ⟨rfl, rfl⟩) | (with_reducible (go_at_call 55; refine (HL16.out _).mono ?_); rintro e w1 ⟨rfl, rfl⟩) | (with_reducible (go_at_call 55; refine (HL32.out _).mono ?_); rintro e w1 ⟨rfl, rfl⟩) | (go_at_call 56; refine (HL64.out _).mono ?_; rintro e w1 ⟨rfl, rfl⟩))
                      go_ret
                      exact ⟨rfl, (Only.refl _ _).alloc _⟩
                  · cases l64
                    · obtain rfl : r = false := by rw [hA]; simp
                      clear hA
                      rcases k34 with ⟨k1, k2⟩ | k1
                      all_goals
                        go_enter Tryd.func33, Tryd.ntmps33
                        go_wp2_with (first | (go_at_call 53; refine (HB.out _).mono ?_; rintro e w1 ⟨rfl, rfl⟩) | (go_at_call 54; refine (HNM.out _).mono ?_; rintro e w1 ⟨rfl, rfl⟩) | (with_reducible (go_at_call 55; refine (HL2.out _).mono ?_); rintro e w1 ⟨rfl, rfl⟩) | (with_reducible (go_at_call 55; refine (HL4.out _).mono ?_); rintro e w1 ⟨rfl, rfl⟩) | (with_reducible (go_at_call 55; refine (HL8.out _).mono ?_); rintro e w1 ⟨rfl, rfl⟩) | (with_reducible (go_at_call 55; refine (HL16.out _).mono ?_); rintro e w1 ⟨rfl, rfl⟩) | (with_reducible (go_at_call 55; refine (HL32.out _).mono ?_); rintro e w1 ⟨rfl, rfl⟩) | (go_at_call 56; refine (HL64.out _).mono ?_; rintro e w1 ⟨rfl, rfl⟩))
                        go_ret
                        exact ⟨rfl, (Only.refl _ _).alloc _⟩
                    · obtain rfl : r = true := by rw [hA]; simp
                      clear hA
                      rcases k34 with ⟨k1, k2⟩ | k1
                      all_goals
                        go_enter Tryd.func33, Tryd.ntmps33
                        go_wp2_with (first | (go_at_call 53; refine (HB.out _).mono ?_; rintro e w1 ⟨rfl, rfl⟩) | (go_at_call 54; refine (HNM.out _).mono ?_; rintro e w1 ⟨rfl, rfl⟩) | (with_reducible (go_at_call 55; refine (HL2.out _).mono ?_); rintro e w1 ⟨rfl, rfl⟩) | (with_reducible (go_at_call 55; refine (HL4.out _).mono ?_); rintro e w1 ⟨rfl, rfl⟩) | (with_reducible (go_at_call 55; refine (HL8.out _).mono ?_); rintro e w1 ⟨rfl, rfl⟩) | (with_reducible (go_at_call 55; refine (HL16.out _).mono ?_); rintro e w1 ⟨rfl, rfl⟩) | (with_reducible (go_at_call 55; refine (HL32.out _).mono ?_); rintro e w1 ⟨rfl, rfl⟩) | (go_at_call 56; refine (HL64.out _).mono ?_; rintro e w1 ⟨rfl, rfl⟩))
                        go_ret
                        exact ⟨rfl, (Only.refl _ _).alloc _⟩
end Go.Proofs.YtmlhibcbgdhadaaDoor
