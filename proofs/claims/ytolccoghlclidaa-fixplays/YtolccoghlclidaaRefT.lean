import Derived.Test.YtolccoghlclidaaRef
namespace Go.Proofs.Ytolccoghlclidaa
open Go.RowKit

theorem quo_neg {n : Int} (h : n < 0) (h2 : -70368744177664 ≤ n) : wrap64 (-Int.tdiv 70368744177664 n) = 70368744177664 / mag n := by
  have e : -Int.tdiv 70368744177664 n = 70368744177664 / mag n := by
    rw [mag_neg h, ← Int.tdiv_neg, Int.tdiv_eq_ediv_of_nonneg (by decide)]
  rw [e, mag_neg h]
  have h3 := Int.ediv_nonneg (show (0 : Int) ≤ 70368744177664 by decide) (show 0 ≤ -n by omega)
  have h4 := Int.ediv_le_self (-n) (show (0 : Int) ≤ 70368744177664 by decide)
  unfold wrap64; omega
theorem times_over {a n : Int} (hn : n ≠ 0) (h : 70368744177664 / mag n < mag a) : lenB (a * n) = false := by
  have h1 : 0 < mag n := by unfold mag; split <;> omega
  have h2 := (Int.ediv_lt_iff_lt_mul h1).1 h
  rw [mag_mul] at h2
  exact (cut_mag h2).2
theorem times_under {a n : Int} (hn : n ≠ 0) (h : mag a ≤ 70368744177664 / mag n) : lenB (a * n) = true := by
  have h1 : 0 < mag n := by unfold mag; split <;> omega
  have h2 := (Int.le_ediv_iff_mul_le h1).1 h
  rw [mag_mul] at h2
  exact (cut_mag' h2).2
theorem times_far {a n : Int} (h0 : a ≠ 0) (h : n < -70368744177664 ∨ 70368744177664 < n) : lenB (a * n) = false := by
  have h1 : 1 ≤ mag a := by unfold mag; split <;> omega
  have h2 : 70368744177664 < mag n := by unfold mag; split <;> omega
  have h3 := Int.mul_le_mul_of_nonneg_right h1 (mag_nonneg n)
  rw [mag_mul] at h3
  exact (cut_mag (by omega)).2
theorem no_is {bad : Bool} {l : List Int} {v n : Int} {ok : Bool} (h : ok = false) : refV bad false v = toldV bad (allLen l) ok n ∧ refB bad false v = toldB bad (allLen l) ok := by
  have := ref_no bad v
  have q := tell_no2 (bad := bad) (all := allLen l) (n := n)
  rw [this.1, this.2, h, q.1, q.2]; exact ⟨rfl, rfl⟩

set_option maxHeartbeats 2000000 in
theorem timesR_in (c : Addr) (bad : Bool) (a n : Int) (h0 : a ≠ 0) (hn : n ≠ 0) (ha : lenB a = true) (hb : lenB n = true) (w : World) (hc : w.cell? c = some (.bool bad)) (hf : w.frozen? c = false) :
    Calls Try.prog 24 #[.pointer (some c), .int .i64 a, .int .i64 n] w fun e w' => e = .returned (.int .i64 (toldV bad (allLen [a]) (lenB (a * n)) (cut (a * n)))) ∧ Upd c (toldB bad (allLen [a]) (lenB (a * n))) w w' := by
  obtain ⟨a1, a2⟩ := lenB_yes ha
  obtain ⟨b1, b2⟩ := lenB_yes hb
  have hl : allLen [a] = true := by simp [allLen, ha]
  have h0' : (a == 0) = false := by simpa using h0
  have hn' : (n == 0) = false := by simpa using hn
  obtain ⟨q, hq⟩ : ∃ q, 70368744177664 / mag n = q := ⟨_, rfl⟩
  have hq1 : n < 0 → wrap64 (-Int.tdiv 70368744177664 n) = q := fun h => by rw [quo_neg h b1, hq]
  have hq2 : 0 < n → 70368744177664 / n = q := fun h => by rw [← mag_pos (a := n) (by omega), hq]
  have m1 : a < 0 → mag a = -a := mag_neg
  have m2 : 0 < a → mag a = a := fun h => mag_pos (by omega)
  by_cases hov : q < mag a
  · have ho := times_over (a := a) hn (by rw [hq]; exact hov)
    have r := no_is (bad := bad) (l := [a]) (v := 0) (n := cut (a * n)) ho
    rw [← r.1, ← r.2]
    clear r ho hl hq hb
    rcases (show a < 0 ∨ 0 < a by omega) with s1 | s1
    all_goals rcases (show n < 0 ∨ 0 < n by omega) with s2 | s2
    all_goals
      first | rw [m1 s1] at hov | rw [m2 s1] at hov
      first | (have hqq := hq1 s2) | (have hqq := hq2 s2)
      clear m1 m2 hq1 hq2
      go_enter Try.func24, Try.ntmps24
      go_wp2_with fail
      refine (length_any _ _).mono ?_
      rintro e w' ⟨rfl, rfl⟩
      rw [ha]
      go_wp2_with fail
      refine (told_any c bad 0 false _ hc hf).mono ?_
      rintro e w' ⟨rfl, hu⟩
      go_wp2_with fail
      go_ret
      exact ⟨rfl, hu⟩
  · have ho := times_under (a := a) hn (by rw [hq]; omega)
    have r := ref_yes (bad := bad) (v := a * n) hl
    rw [← r.1, ← r.2]
    have pb := lenB_yes ho
    obtain ⟨p, hp⟩ : ∃ p, a * n = p := ⟨_, rfl⟩
    rw [hp] at pb
    rw [hp]
    obtain ⟨p1, p2⟩ := pb
    clear r ho hl hq hb
    rcases (show a < 0 ∨ 0 < a by omega) with s1 | s1
    all_goals rcases (show n < 0 ∨ 0 < n by omega) with s2 | s2
    all_goals
      first | rw [m1 s1] at hov | rw [m2 s1] at hov
      first | (have hqq := hq1 s2) | (have hqq := hq2 s2)
      clear m1 m2 hq1 hq2
      go_enter Try.func24, Try.ntmps24
      go_wp2_with fail
      refine (length_any _ _).mono ?_
      rintro e w' ⟨rfl, rfl⟩
      rw [ha]
      go_wp2_with fail
      refine (told_any c bad p true _ hc hf).mono ?_
      rintro e w' ⟨rfl, hu⟩
      go_wp2_with fail
      go_ret
      exact ⟨rfl, hu⟩

set_option maxHeartbeats 1000000 in
theorem timesR_any (c : Addr) (bad : Bool) (a n : Int) (w : World) (hc : w.cell? c = some (.bool bad)) (hf : w.frozen? c = false) :
    Calls Try.prog 24 #[.pointer (some c), .int .i64 a, .int .i64 n] w fun e w' => e = .returned (.int .i64 (toldV bad (allLen [a]) (lenB (a * n)) (cut (a * n)))) ∧ Upd c (toldB bad (allLen [a]) (lenB (a * n))) w w' := by
  cases ha : lenB a
  · have r := tell_no (bad := bad) (ok := lenB (a * n)) (n := cut (a * n)) (l := [a]) (by simp [allLen, ha])
    have q := ref_no bad 0
    rw [r.1, r.2, ← q.1, ← q.2]; clear r q
    go_enter Try.func24, Try.ntmps24
    go_wp2_with fail
    refine (length_any _ _).mono ?_
    rintro e w' ⟨rfl, rfl⟩
    rw [ha]
    go_wp2_with fail
    refine (told_any c bad 0 false _ hc hf).mono ?_
    rintro e w' ⟨rfl, hu⟩
    go_wp2_with fail
    go_ret
    exact ⟨rfl, hu⟩
  · have hl : allLen [a] = true := by simp [allLen, ha]
    by_cases h0 : a = 0
    · have r := ref_yes (bad := bad) (v := a * n) hl
      rw [← r.1, ← r.2]
      subst h0
      rw [Int.zero_mul]
      clear r hl
      go_enter Try.func24, Try.ntmps24
      go_wp2_with fail
      refine (length_any _ _).mono ?_
      rintro e w' ⟨rfl, rfl⟩
      rw [ha]
      go_wp2_with fail
      refine (told_any c bad 0 true _ hc hf).mono ?_
      rintro e w' ⟨rfl, hu⟩
      go_wp2_with fail
      go_ret
      exact ⟨rfl, hu⟩
    · by_cases hn : n = 0
      · have r := ref_yes (bad := bad) (v := a * n) hl
        rw [← r.1, ← r.2]
        subst hn
        rw [Int.mul_zero]
        have h0' : (a == 0) = false := by simpa using h0
        clear r hl h0
        go_enter Try.func24, Try.ntmps24
        go_wp2_with fail
        refine (length_any _ _).mono ?_
        rintro e w' ⟨rfl, rfl⟩
        rw [ha]
        go_wp2_with fail
        refine (told_any c bad 0 true _ hc hf).mono ?_
        rintro e w' ⟨rfl, hu⟩
        go_wp2_with fail
        go_ret
        exact ⟨rfl, hu⟩
      · cases hb : lenB n
        · have hw : n < -70368744177664 ∨ 70368744177664 < n := by have := lenB_not hb; omega
          have r := no_is (bad := bad) (l := [a]) (v := 0) (n := cut (a * n)) (times_far h0 hw)
          rw [← r.1, ← r.2]
          have h0' : (a == 0) = false := by simpa using h0
          have hn' : (n == 0) = false := by simpa using hn
          clear r hl h0 hn hb
          rcases hw with g | g
          all_goals
            go_enter Try.func24, Try.ntmps24
            go_wp2_with fail
            refine (length_any _ _).mono ?_
            rintro e w' ⟨rfl, rfl⟩
            rw [ha]
            go_wp2_with fail
            refine (told_any c bad 0 false _ hc hf).mono ?_
            rintro e w' ⟨rfl, hu⟩
            go_wp2_with fail
            go_ret
            exact ⟨rfl, hu⟩
        · exact timesR_in c bad a n h0 hn ha hb w hc hf
end Go.Proofs.Ytolccoghlclidaa
