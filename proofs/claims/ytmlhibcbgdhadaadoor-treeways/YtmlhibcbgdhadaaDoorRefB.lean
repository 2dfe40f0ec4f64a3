/- The reference's attributes. -/
import Derived.Test.YtmlhibcbgdhadaaDoorRefA
import Derived.Test.YtmlhibcbgdhadaaDoorInjA
namespace Go.Proofs.YtmlhibcbgdhadaaDoor
open Go.RowKit

set_option maxRecDepth 100000 in
set_option maxHeartbeats 8000000 in
theorem refAttrs_c (x : Nd × Value) (hf : Fit x.1) (w : World) : Calls Tryd.prog 33 #[.agg (ndc x).toArray] w fun e w' => e = .returned (.bool (atr x.1)) ∧ Only [] w w' := by
  obtain ⟨xn, xv⟩ := x
  dsimp only at hf ⊢
  have hI := hf.has
  have hfs := hf.font
  obtain ⟨r, hr⟩ : ∃ r, atr xn = r := ⟨_, rfl⟩
  rw [hr]
  have hneg : ¬ 0 ≤ xn.has → r = false := fun h => by
    cases r
    · rfl
    · exact absurd (has_le hI hr).1 h
  have HB := hid (fun W => refBits_c xn.kind W)
  have HNM := hid (fun W => refName_c xn.font W hfs)
  have HL2 := hid (fun W => refLength_c (bits .and .i64 xn.has 2 != 0) xn.size 1 67108864 (by decide) (by decide) W)
  have HL4 := hid (fun W => refLength_c (bits .and .i64 xn.has 4 != 0) xn.width 1 536870912 (by decide) (by decide) W)
  have HL8 := hid (fun W => refLength_c (bits .and .i64 xn.has 8 != 0) xn.height 1 536870912 (by decide) (by decide) W)
  have HL16 := hid (fun W => refLength_c (bits .and .i64 xn.has 16 != 0) xn.lead 0 536870912 (by decide) (by decide) W)
  have HL32 := hid (fun W => refLength_c (bits .and .i64 xn.has 32 != 0) xn.skip 0 536870912 (by decide) (by decide) W)
  have HL64 := hid (fun W => refNumber_c (bits .and .i64 xn.has 64 != 0) xn.tol 0 10000 W)
  have hA : atr xn = (bits .andNot .i64 xn.has (may xn.kind) == 0 && (xn.kind != 1 || bits .and .i64 xn.has 12 == 12) && (if hb xn 1 then nam xn.font else decide (xn.font.size = 0)) && lng (bits .and .i64 xn.has 2 != 0) xn.size 1 67108864 && lng (bits .and .i64 xn.has 4 != 0) xn.width 1 536870912 && lng (bits .and .i64 xn.has 8 != 0) xn.height 1 536870912 && lng (bits .and .i64 xn.has 16 != 0) xn.lead 0 536870912 && lng (bits .and .i64 xn.has 32 != 0) xn.skip 0 536870912 && lng (bits .and .i64 xn.has 64 != 0) xn.tol 0 10000) := rfl
  rw [hr] at hA
  generalize hl2 : lng (bits .and .i64 xn.has 2 != 0) xn.size 1 67108864 = l2 at hA HL2
  generalize hl4 : lng (bits .and .i64 xn.has 4 != 0) xn.width 1 536870912 = l4 at hA HL4
  generalize hl8 : lng (bits .and .i64 xn.has 8 != 0) xn.height 1 536870912 = l8 at hA HL8
  generalize hl16 : lng (bits .and .i64 xn.has 16 != 0) xn.lead 0 536870912 = l16 at hA HL16
  generalize hl32 : lng (bits .and .i64 xn.has 32 != 0) xn.skip 0 536870912 = l32 at hA HL32
  generalize hl64 : lng (bits .and .i64 xn.has 64 != 0) xn.tol 0 10000 = l64 at hA HL64
  clear hl2
  clear hl4
  clear hl8
  clear hl16
  clear hl32
  clear hl64
  obtain ⟨mk, hmk⟩ : ∃ mk, may xn.kind = mk := ⟨_, rfl⟩
  rw [hmk] at hA HB
  clear hmk hr hf hI hfs
  unfold ndc
  dsimp only
  by_cases h0 : 0 ≤ xn.has
  case neg =>
    have hrf := hneg h0
    subst hrf
    have h1 : xn.has < 0 := by omega
    have h2 : decide (xn.has < 0) = true := decide_eq_true h1
    clear hneg hA h0
    go_enter Tryd.func33, Tryd.ntmps33
    go_wp2_with fail
    go_ret
    exact ⟨rfl, (Only.refl _ _).alloc _⟩
  case pos =>
    have h1 : ¬ xn.has < 0 := by omega
    have h2 : decide (xn.has < 0) = false := decide_eq_false h1
    clear hneg h0
    rcases hz : (bits .andNot .i64 xn.has mk == 0) with _ | _
    · rw [hz] at hA
      simp only [Bool.false_and] at hA
      subst hA
      have hz2 : (bits .andNot .i64 xn.has mk != 0) = true := by unfold bne; rw [hz]; rfl
      go_enter Tryd.func33, Tryd.ntmps33
      go_wp2_with (go_at_call 53; refine (HB.out _).mono ?_; rintro e w1 ⟨rfl, rfl⟩)
      go_ret
      exact ⟨rfl, (Only.refl _ _).alloc _⟩
    · rw [hz] at hA
      have hz2 : (bits .andNot .i64 xn.has mk != 0) = false := by unfold bne; rw [hz]; rfl
      have kinds : (xn.kind == 1) = true ∧ (bits .and .i64 xn.has 12 == 12) = false ∨ ((xn.kind == 1) = true ∧ (bits .and .i64 xn.has 12 == 12) = true ∨ (xn.kind == 1) = false) := by
        cases (xn.kind == 1) <;> cases (bits .and .i64 xn.has 12 == 12) <;> simp
      rcases kinds with ⟨k1, k2⟩ | kk
      · have k3 : (bits .and .i64 xn.has 12 != 12) = true := by unfold bne; rw [k2]; rfl
        have k4 : (xn.kind != 1) = false := by unfold bne; rw [k1]; rfl
        rw [k2, k4] at hA
        simp only [Bool.true_and, Bool.or_false, Bool.false_and] at hA
        subst hA
        go_enter Tryd.func33, Tryd.ntmps33
        go_wp2_with (go_at_call 53; refine (HB.out _).mono ?_; rintro e w1 ⟨rfl, rfl⟩)
        go_ret
        exact ⟨rfl, (Only.refl _ _).alloc _⟩
      · have hA2 : r = ((if hb xn 1 then nam xn.font else decide (xn.font.size = 0)) && l2 && l4 && l8 && l16 && l32 && l64) := by
          rw [hA]
          rcases kk with ⟨k1, k2⟩ | k1
          · have k4 : (xn.kind != 1) = false := by unfold bne; rw [k1]; rfl
            rw [k2, k4]; simp
          · have k4 : (xn.kind != 1) = true := by unfold bne; rw [k1]; rfl
            rw [k4]; simp
        clear hA
        have k34 : ((xn.kind == 1) = true ∧ (bits .and .i64 xn.has 12 != 12) = false) ∨ (xn.kind == 1) = false := by
          rcases kk with ⟨k1, k2⟩ | k1
          · exact .inl ⟨k1, by unfold bne; rw [k2]; rfl⟩
          · exact .inr k1
        clear kk
        -- the font: right, or wrong
        have fonts : ((bits .and .i64 xn.has 1 == 0) = true ∧ xn.font.size ≠ 0 ∧ r = false) ∨ ((bits .and .i64 xn.has 1 == 0) = true ∧ xn.font.size = 0 ∧ r = (l2 && l4 && l8 && l16 && l32 && l64)) ∨ ((bits .and .i64 xn.has 1 == 0) = false ∧ nam xn.font = false ∧ r = false) ∨ ((bits .and .i64 xn.has 1 == 0) = false ∧ nam xn.font = true ∧ r = (l2 && l4 && l8 && l16 && l32 && l64)) := by
          unfold hb bne at hA2
          cases hq : (bits .and .i64 xn.has 1 == 0)
          · rw [hq] at hA2
            simp only [Bool.not_false, if_true] at hA2
            cases hn : nam xn.font
            · rw [hn] at hA2; simp only [Bool.false_and] at hA2; exact .inr (.inr (.inl ⟨rfl, rfl, hA2⟩))
            · rw [hn] at hA2; simp only [Bool.true_and] at hA2; exact .inr (.inr (.inr ⟨rfl, rfl, hA2⟩))
          · rw [hq] at hA2
            simp only [Bool.not_true, Bool.false_eq_true, if_false] at hA2
            by_cases hs : xn.font.size = 0
            · rw [decide_eq_true hs] at hA2; simp only [Bool.true_and] at hA2; exact .inr (.inl ⟨rfl, hs, hA2⟩)
            · rw [decide_eq_false hs] at hA2; simp only [Bool.false_and] at hA2; exact .inl ⟨rfl, hs, hA2⟩
        clear hA2
        rcases fonts with ⟨f1, f2, hrf⟩ | ⟨f1, f2, hA⟩ | ⟨f1, f2, hrf⟩ | ⟨f1, f2, hA⟩
        · subst hrf
          obtain ⟨t1, t2, t3, t4⟩ := U.nonempty_toList (s := xn.font) (by omega)
          have f3 : (bits .and .i64 xn.has 1 != 0) = false := by unfold bne; rw [f1]; rfl
          clear f2
          rcases k34 with ⟨k1, k2⟩ | k1
          all_goals
            go_enter Tryd.func33, Tryd.ntmps33
            go_wp2_with (first | (go_at_call 53; refine (HB.out _).mono ?_; rintro e w1 ⟨rfl, rfl⟩))
            go_ret
            exact ⟨rfl, (Only.refl _ _).alloc _⟩
        · have hs0 := U.size_zero f2
          rw [hs0]
          have f3 : (bits .and .i64 xn.has 1 != 0) = false := by unfold bne; rw [f1]; rfl
          clear hs0 f2
          cases l2
          · obtain rfl : r = false := by rw [hA]; simp
            clear hA
            rcases k34 with ⟨k1, k2⟩ | k1
            all_goals
              go_enter Tryd.func33, Tryd.ntmps33
              go_wp2_with (first | (go_at_call 53; refine (HB.out _).mono ?_; rintro e w1 ⟨rfl, rfl⟩) | (with_reducible (go_at_call 55; refine (HL2.out _).mono ?_); rintro e w1 ⟨rfl, rfl⟩) | (with_reducible (go_at_call 55; refine (HL4.out _).mono ?_); rintro e w1 ⟨rfl, rfl⟩) | (with_reducible (go_at_call 55; refine (HL8.out _).mono ?_); rintro e w1 ⟨rfl, rfl⟩) | (with_reducible (go_at_call 55; refine (HL16.out _).mono ?_); rintro e w1 ⟨rfl, rfl⟩) | (with_reducible (go_at_call 55; refine (HL32.out _).mono ?_); rintro e w1 ⟨rfl, rfl⟩) | (go_at_call 56; refine (HL64.out _).mono ?_; rintro e w1 ⟨rfl, rfl⟩))
              go_ret
              exact ⟨rfl, (Only.refl _ _).alloc _⟩
          · cases l4
            · obtain rfl : r = false := by rw [hA]; simp
              clear hA
              rcases k34 with ⟨k1, k2⟩ | k1
              all_goals
                go_enter Tryd.func33, Tryd.ntmps33
                go_wp2_with (first | (go_at_call 53; refine (HB.out _).mono ?_; rintro e w1 ⟨rfl, rfl⟩) | (with_reducible (go_at_call 55; refine (HL2.out _).mono ?_); rintro e w1 ⟨rfl, rfl⟩) | (with_reducible (go_at_call 55; refine (HL4.out _).mono ?_); rintro e w1 ⟨rfl, rfl⟩) | (with_reducible (go_at_call 55; refine (HL8.out _).mono ?_); rintro e w1 ⟨rfl, rfl⟩) | (with_reducible (go_at_call 55; refine (HL16.out _).mono ?_); rintro e w1 ⟨rfl, rfl⟩) | (with_reducible (go_at_call 55; refine (HL32.out _).mono ?_); rintro e w1 ⟨rfl, rfl⟩) | (go_at_call 56; refine (HL64.out _).mono ?_; rintro e w1 ⟨rfl, rfl⟩))
                go_ret
                exact ⟨rfl, (Only.refl _ _).alloc _⟩
            · cases l8
              · obtain rfl : r = false := by rw [hA]; simp
                clear hA
                rcases k34 with ⟨k1, k2⟩ | k1
                all_goals
                  go_enter Tryd.func33, Tryd.ntmps33
                  go_wp2_with (first | (go_at_call 53; refine (HB.out _).mono ?_; rintro e w1 ⟨rfl, rfl⟩) | (with_reducible (go_at_call 55; refine (HL2.out _).mono ?_); rintro e w1 ⟨rfl, rfl⟩) | (with_reducible (go_at_call 55; refine (HL4.out _).mono ?_); rintro e w1 ⟨rfl, rfl⟩) | (with_reducible (go_at_call 55; refine (HL8.out _).mono ?_); rintro e w1 ⟨rfl, rfl⟩) | (with_reducible (go_at_call 55; refine (HL16.out _).mono ?_); rintro e w1 ⟨rfl, rfl⟩) | (with_reducible (go_at_call 55; refine (HL32.out _).mono ?_); rintro e w1 ⟨rfl, rfl⟩) | (go_at_call 56; refine (HL64.out _).mono ?_; rintro e w1 ⟨rfl, rfl⟩))
                  go_ret
                  exact ⟨rfl, (Only.refl _ _).alloc _⟩
              · cases l16
                · obtain rfl : r = false := by rw [hA]; simp
                  clear hA
                  rcases k34 with ⟨k1, k2⟩ | k1
                  all_goals
                    go_enter Tryd.func33, Tryd.ntmps33
                    go_wp2_with (first | (go_at_call 53; refine (HB.out _).mono ?_; rintro e w1 ⟨rfl, rfl⟩) | (with_reducible (go_at_call 55; refine (HL2.out _).mono ?_); rintro e w1 ⟨rfl, rfl⟩) | (with_reducible (go_at_call 55; refine (HL4.out _).mono ?_); rintro e w1 ⟨rfl, rfl⟩) | (with_reducible (go_at_call 55; refine (HL8.out _).mono ?_); rintro e w1 ⟨rfl, rfl⟩) | (with_reducible (go_at_call 55; refine (HL16.out _).mono ?_); rintro e w1 ⟨rfl, rfl⟩) | (with_reducible (go_at_call 55; refine (HL32.out _).mono ?_); rintro e w1 ⟨rfl, rfl⟩) | (go_at_call 56; refine (HL64.out _).mono ?_; rintro e w1 ⟨rfl, rfl⟩))
                    go_ret
                    exact ⟨rfl, (Only.refl _ _).alloc _⟩
                · cases l32
                  · obtain rfl : r = false := by rw [hA]; simp
                    clear hA
                    rcases k34 with ⟨k1, k2⟩ | k1
                    all_goals
                      go_enter Tryd.func33, Tryd.ntmps33
                      go_wp2_with (first | (go_at_call 53; refine (HB.out _).mono ?_; rintro e w1 ⟨rfl, rfl⟩) | (with_reducible (go_at_call 55; refine (HL2.out _).mono ?_); rintro e w1 ⟨rfl, rfl⟩) | (with_reducible (go_at_call 55; refine (HL4.out _).mono ?_); rintro e w1 ⟨rfl, rfl⟩) | (with_reducible (go_at_call 55; refine (HL8.out _).mono ?_); rintro e w1 ⟨rfl, rfl⟩) | (with_reducible (go_at_call 55; refine (HL16.out _).mono ?_); rintro e w1 ⟨rfl, rfl⟩) | (with_reducible (go_at_call 55; refine (HL32.out _).mono ?_); rintro e w1 ⟨rfl, rfl⟩) | (go_at_call 56; refine (HL64.out _).mono ?_; rintro e w1 ⟨rfl, rfl⟩))
                      go_ret
                      exact ⟨rfl, (Only.refl _ _).alloc _⟩
                  · cases l64
                    · obtain rfl : r = false := by rw [hA]; simp
                      clear hA
                      rcases k34 with ⟨k1, k2⟩ | k1
                      all_goals
                        go_enter Tryd.func33, Tryd.ntmps33
                        go_wp2_with (first | (go_at_call 53; refine (HB.out _).mono ?_; rintro e w1 ⟨rfl, rfl⟩) | (with_reducible (go_at_call 55; refine (HL2.out _).mono ?_); rintro e w1 ⟨rfl, rfl⟩) | (with_reducible (go_at_call 55; refine (HL4.out _).mono ?_); rintro e w1 ⟨rfl, rfl⟩) | (with_reducible (go_at_call 55; refine (HL8.out _).mono ?_); rintro e w1 ⟨rfl, rfl⟩) | (with_reducible (go_at_call 55; refine (HL16.out _).mono ?_); rintro e w1 ⟨rfl, rfl⟩) | (with_reducible (go_at_call 55; refine (HL32.out _).mono ?_); rintro e w1 ⟨rfl, rfl⟩) | (go_at_call 56; refine (HL64.out _).mono ?_; rintro e w1 ⟨rfl, rfl⟩))
                        go_ret
                        exact ⟨rfl, (Only.refl _ _).alloc _⟩
                    · obtain rfl : r = true := by rw [hA]; simp
                      clear hA
                      rcases k34 with ⟨k1, k2⟩ | k1
                      all_goals
                        go_enter Tryd.func33, Tryd.ntmps33
                        go_wp2_with (first | (go_at_call 53; refine (HB.out _).mono ?_; rintro e w1 ⟨rfl, rfl⟩) | (with_reducible (go_at_call 55; refine (HL2.out _).mono ?_); rintro e w1 ⟨rfl, rfl⟩) | (with_reducible (go_at_call 55; refine (HL4.out _).mono ?_); rintro e w1 ⟨rfl, rfl⟩) | (with_reducible (go_at_call 55; refine (HL8.out _).mono ?_); rintro e w1 ⟨rfl, rfl⟩) | (with_reducible (go_at_call 55; refine (HL16.out _).mono ?_); rintro e w1 ⟨rfl, rfl⟩) | (with_reducible (go_at_call 55; refine (HL32.out _).mono ?_); rintro e w1 ⟨rfl, rfl⟩) | (go_at_call 56; refine (HL64.out _).mono ?_; rintro e w1 ⟨rfl, rfl⟩))
                        go_ret
                        exact ⟨rfl, (Only.refl _ _).alloc _⟩
        · subst hrf
          rw [f2] at HNM
          have f3 : (bits .and .i64 xn.has 1 != 0) = true := by unfold bne; rw [f1]; rfl
          clear f2
          rcases k34 with ⟨k1, k2⟩ | k1
          all_goals
            go_enter Tryd.func33, Tryd.ntmps33
            go_wp2_with (first | (go_at_call 53; refine (HB.out _).mono ?_; rintro e w1 ⟨rfl, rfl⟩) | (go_at_call 54; refine (HNM.out _).mono ?_; rintro e w1 ⟨rfl, rfl⟩))
            go_ret
            exact ⟨rfl, (Only.refl _ _).alloc _⟩
        · rw [f2] at HNM
          have f3 : (bits .and .i64 xn.has 1 != 0) = true := by unfold bne; rw [f1]; rfl
          clear f2
          cases l2
          · obtain rfl : r = false := by rw [hA]; simp
            clear hA
            rcases k34 with ⟨k1, k2⟩ | k1
            all_goals
              go_enter Tryd.func33, Tryd.ntmps33
              go_wp2_with (first | (go_at_call 53; refine (HB.out _).mono ?_; rintro e w1 ⟨rfl, rfl⟩) | (go_at_call 54; refine (HNM.out _).mono ?_; rintro e w1 ⟨rfl, rfl⟩) | (with_reducible (go_at_call 55; refine (HL2.out _).mono ?_); rintro e w1 ⟨rfl, rfl⟩) | (with_reducible (go_at_call 55; refine (HL4.out _).mono ?_); rintro e w1 ⟨rfl, rfl⟩) | (with_reducible (go_at_call 55; refine (HL8.out _).mono ?_); rintro e w1 ⟨rfl, rfl⟩) | (with_reducible (go_at_call 55; refine (HL16.out _).mono ?_); rintro e w1 ⟨rfl, rfl⟩) | (with_reducible (go_at_call 55; refine (HL32.out _).mono ?_); rintro e w1 ⟨rfl, rfl⟩) | (go_at_call 56; refine (HL64.out _).mono ?_; rintro e w1 ⟨rfl, rfl⟩))
              go_ret
              exact ⟨rfl, (Only.refl _ _).alloc _⟩
          · cases l4
            · obtain rfl : r = false := by rw [hA]; simp
              clear hA
              rcases k34 with ⟨k1, k2⟩ | k1
              all_goals
                go_enter Tryd.func33, Tryd.ntmps33
                go_wp2_with (first | (go_at_call 53; refine (HB.out _).mono ?_; rintro e w1 ⟨rfl, rfl⟩) | (go_at_call 54; refine (HNM.out _).mono ?_; rintro e w1 ⟨rfl, rfl⟩) | (with_reducible (go_at_call 55; refine (HL2.out _).mono ?_); rintro e w1 ⟨rfl, rfl⟩) | (with_reducible (go_at_call 55; refine (HL4.out _).mono ?_); rintro e w1 ⟨rfl, rfl⟩) | (with_reducible (go_at_call 55; refine (HL8.out _).mono ?_); rintro e w1 ⟨rfl, rfl⟩) | (with_reducible (go_at_call 55; refine (HL16.out _).mono ?_); rintro e w1 ⟨rfl, rfl⟩) | (with_reducible (go_at_call 55; refine (HL32.out _).mono ?_); rintro e w1 ⟨rfl, rfl⟩) | (go_at_call 56; refine (HL64.out _).mono ?_; rintro e w1 ⟨rfl, rfl⟩))
                go_ret
                exact ⟨rfl, (Only.refl _ _).alloc _⟩
            · cases l8
              · obtain rfl : r = false := by rw [hA]; simp
                clear hA
                rcases k34 with ⟨k1, k2⟩ | k1
                all_goals
                  go_enter Tryd.func33, Tryd.ntmps33
                  go_wp2_with (first | (go_at_call 53; refine (HB.out _).mono ?_; rintro e w1 ⟨rfl, rfl⟩) | (go_at_call 54; refine (HNM.out _).mono ?_; rintro e w1 ⟨rfl, rfl⟩) | (with_reducible (go_at_call 55; refine (HL2.out _).mono ?_); rintro e w1 ⟨rfl, rfl⟩) | (with_reducible (go_at_call 55; refine (HL4.out _).mono ?_); rintro e w1 ⟨rfl, rfl⟩) | (with_reducible (go_at_call 55; refine (HL8.out _).mono ?_); rintro e w1 ⟨rfl, rfl⟩) | (with_reducible (go_at_call 55; refine (HL16.out _).mono ?_); rintro e w1 ⟨rfl, rfl⟩) | (with_reducible (go_at_call 55; refine (HL32.out _).mono ?_); rintro e w1 ⟨rfl, rfl⟩) | (go_at_call 56; refine (HL64.out _).mono ?_; rintro e w1 ⟨rfl, rfl⟩))
                  go_ret
                  exact ⟨rfl, (Only.refl _ _).alloc _⟩
              · cases l16
                · obtain rfl : r = false := by rw [hA]; simp
                  clear hA
                  rcases k34 with ⟨k1, k2⟩ | k1
                  all_goals
                    go_enter Tryd.func33, Tryd.ntmps33
                    go_wp2_with (first | (go_at_call 53; refine (HB.out _).mono ?_; rintro e w1 ⟨rfl, rfl⟩) | (go_at_call 54; refine (HNM.out _).mono ?_; rintro e w1 ⟨rfl, rfl⟩) | (with_reducible (go_at_call 55; refine (HL2.out _).mono ?_); rintro e w1 ⟨rfl, rfl⟩) | (with_reducible (go_at_call 55; refine (HL4.out _).mono ?_); rintro e w1 ⟨rfl, rfl⟩) | (with_reducible (go_at_call 55; refine (HL8.out _).mono ?_); rintro e w1 ⟨rfl, rfl⟩) | (with_reducible (go_at_call 55; refine (HL16.out _).mono ?_); rintro e w1 ⟨rfl, rfl⟩) | (with_reducible (go_at_call 55; refine (HL32.out _).mono ?_); rintro e w1 ⟨rfl, rfl⟩) | (go_at_call 56; refine (HL64.out _).mono ?_; rintro e w1 ⟨rfl, rfl⟩))
                    go_ret
                    exact ⟨rfl, (Only.refl _ _).alloc _⟩
                · cases l32
                  · obtain rfl : r = false := by rw [hA]; simp
                    clear hA
                    rcases k34 with ⟨k1, k2⟩ | k1
                    all_goals
                      go_enter Tryd.func33, Tryd.ntmps33
                      go_wp2_with (first | (go_at_call 53; refine (HB.out _).mono ?_; rintro e w1 ⟨rfl, rfl⟩) | (go_at_call 54; refine (HNM.out _).mono ?_; rintro e w1 ⟨rfl, rfl⟩) | (with_reducible (go_at_call 55; refine (HL2.out _).mono ?_); rintro e w1 ⟨rfl, rfl⟩) | (with_reducible (go_at_call 55; refine (HL4.out _).mono ?_); rintro e w1 ⟨rfl, rfl⟩) | (with_reducible (go_at_call 55; refine (HL8.out _).mono ?_); rintro e w1 ⟨rfl, rfl⟩) | (with_reducible (go_at_call 55; refine (HL16.out _).mono ?_); rintro e w1 ⟨rfl, rfl⟩) | (with_reducible (go_at_call 55; refine (HL32.out _).mono ?_); rintro e w1 ⟨rfl, rfl⟩) | (go_at_call 56; refine (HL64.out _).mono ?_; rintro e w1 ⟨rfl, rfl⟩))
                      go_ret
                      exact ⟨rfl, (Only.refl _ _).alloc _⟩
                  · cases l64
                    · obtain rfl : r = false := by rw [hA]; simp
                      clear hA
                      rcases k34 with ⟨k1, k2⟩ | k1
                      all_goals
                        go_enter Tryd.func33, Tryd.ntmps33
                        go_wp2_with (first | (go_at_call 53; refine (HB.out _).mono ?_; rintro e w1 ⟨rfl, rfl⟩) | (go_at_call 54; refine (HNM.out _).mono ?_; rintro e w1 ⟨rfl, rfl⟩) | (with_reducible (go_at_call 55; refine (HL2.out _).mono ?_); rintro e w1 ⟨rfl, rfl⟩) | (with_reducible (go_at_call 55; refine (HL4.out _).mono ?_); rintro e w1 ⟨rfl, rfl⟩) | (with_reducible (go_at_call 55; refine (HL8.out _).mono ?_); rintro e w1 ⟨rfl, rfl⟩) | (with_reducible (go_at_call 55; refine (HL16.out _).mono ?_); rintro e w1 ⟨rfl, rfl⟩) | (with_reducible (go_at_call 55; refine (HL32.out _).mono ?_); rintro e w1 ⟨rfl, rfl⟩) | (go_at_call 56; refine (HL64.out _).mono ?_; rintro e w1 ⟨rfl, rfl⟩))
                        go_ret
                        exact ⟨rfl, (Only.refl _ _).alloc _⟩
                    · obtain rfl : r = true := by rw [hA]; simp
                      clear hA
                      rcases k34 with ⟨k1, k2⟩ | k1
                      all_goals
                        go_enter Tryd.func33, Tryd.ntmps33
                        go_wp2_with (first | (go_at_call 53; refine (HB.out _).mono ?_; rintro e w1 ⟨rfl, rfl⟩) | (go_at_call 54; refine (HNM.out _).mono ?_; rintro e w1 ⟨rfl, rfl⟩) | (with_reducible (go_at_call 55; refine (HL2.out _).mono ?_); rintro e w1 ⟨rfl, rfl⟩) | (with_reducible (go_at_call 55; refine (HL4.out _).mono ?_); rintro e w1 ⟨rfl, rfl⟩) | (with_reducible (go_at_call 55; refine (HL8.out _).mono ?_); rintro e w1 ⟨rfl, rfl⟩) | (with_reducible (go_at_call 55; refine (HL16.out _).mono ?_); rintro e w1 ⟨rfl, rfl⟩) | (with_reducible (go_at_call 55; refine (HL32.out _).mono ?_); rintro e w1 ⟨rfl, rfl⟩) | (go_at_call 56; refine (HL64.out _).mono ?_; rintro e w1 ⟨rfl, rfl⟩))
                        go_ret
                        exact ⟨rfl, (Only.refl _ _).alloc _⟩
end Go.Proofs.YtmlhibcbgdhadaaDoor
