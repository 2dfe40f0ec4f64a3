import Derived.Test.YtolccoghlclidaaRefT
import Derived.Test.YtolccoghlclidaaNearMath
namespace Go.Proofs.Ytolccoghlclidaa
open Go.RowKit

theorem half_up {R d : Int} (hd : 1 ≤ d) : (2 * R + d) / (2 * d) = (R + d / 2) / d := by
  have e := Int.emod_add_mul_ediv (R + d / 2) d
  have r0 := Int.emod_nonneg (R + d / 2) (show d ≠ 0 by omega)
  have r1 := Int.emod_lt_of_pos (R + d / 2) (show 0 < d by omega)
  generalize (R + d / 2) / d = t at *
  generalize (R + d / 2) % d = r at *
  have : 2 * R + d = (2 * r + (d - 2 * (d / 2))) + 2 * d * t := by rw [Int.mul_assoc]; omega
  rw [this, Int.add_mul_ediv_left _ _ (by omega), Int.ediv_eq_zero_of_lt (by omega) (by omega), Int.zero_add]
/-- the quotient, parted as the reference parts it -/
theorem q_parted {x y d : Int} (hd : 1 ≤ d) : (x * y + d / 2) / d = x / d * y + (2 * (x % d) * y + d) / (2 * d) := by
  rw [Int.mul_assoc 2, half_up hd]
  have e := Int.emod_add_mul_ediv x d
  have : x * y + d / 2 = (x % d * y + d / 2) + d * (x / d * y) := by
    rw [← Int.mul_assoc, Int.add_right_comm, ← Int.add_mul, e]
  rw [this, Int.add_mul_ediv_left _ _ (by omega)]; omega

set_option maxHeartbeats 4000000 in
theorem scaleR_in (c : Addr) (bad : Bool) (a num den : Int) (ha : lenB a = true) (hs : scOk num den = true) (w : World) (hc : w.cell? c = some (.bool bad)) (hf : w.frozen? c = false) :
    Calls Try.prog 25 #[.pointer (some c), .int .i64 a, .int .i64 num, .int .i64 den] w fun e w' => e = .returned (.int .i64 (toldV bad (allLen [a]) (lenB (scN a num den)) (cut (scN a num den)))) ∧ Upd c (toldB bad (allLen [a]) (lenB (scN a num den))) w w' := by
  obtain ⟨a1, a2⟩ := lenB_yes ha
  obtain ⟨n1, n2, d1, d2⟩ := scOk_yes hs
  have hl : allLen [a] = true := by simp [allLen, ha]
  have x0 := mag_nonneg a
  have y0 := mag_nonneg num
  have x1 : mag a ≤ 70368744177664 := by unfold mag; split <;> omega
  have y1 : mag num ≤ 1048576 := by unfold mag; split <;> omega
  have hq := q_parted (x := mag a) (y := mag num) d1
  have S := mag_sgn (bne (decide (a < 0)) (decide (num < 0))) (m := (mag a * mag num + den / 2) / den) (Int.ediv_nonneg (by have := Int.mul_nonneg x0 y0; omega) (by omega))
  have T : scN a num den = sgn (bne (decide (a < 0)) (decide (num < 0))) ((mag a * mag num + den / 2) / den) := rfl
  rw [hq] at S T
  obtain ⟨Z, hZ⟩ : ∃ Z, scN a num den = Z := ⟨_, rfl⟩
  rw [hZ] at T ⊢
  rw [← T] at S
  have h0 := Int.ediv_nonneg x0 (show 0 ≤ den by omega)
  have h1 := Int.ediv_le_self den x0
  have r0 := Int.emod_nonneg (mag a) (show den ≠ 0 by omega)
  have r1 := Int.emod_lt_of_pos (mag a) (show 0 < den by omega)
  have hm1 : a < 0 → mag a = -a := mag_neg
  have hm2 : 0 ≤ a → mag a = a := mag_pos
  have hk1 : num < 0 → mag num = -num := mag_neg
  have hk2 : 0 ≤ num → mag num = num := mag_pos
  obtain ⟨x, hx⟩ : ∃ x, mag a = x := ⟨_, rfl⟩
  obtain ⟨y, hy⟩ : ∃ y, mag num = y := ⟨_, rfl⟩
  rw [hx] at x0 x1 S T h1 h0 r0 r1 hm1 hm2
  rw [hy] at y0 y1 S T hk1 hk2
  have ry0 : 0 ≤ x % den * y := Int.mul_nonneg r0 y0
  have ry1 : x % den * y ≤ 1048576 * 1048576 := Int.mul_le_mul (by omega) y1 y0 (by omega)
  have hy0 := Int.mul_nonneg h0 y0
  obtain ⟨h, hh⟩ : ∃ h, x / den = h := ⟨_, rfl⟩
  obtain ⟨r, hr⟩ : ∃ r, x % den = r := ⟨_, rfl⟩
  rw [hh] at S T h0 h1 hy0
  rw [hr] at S T r0 r1 ry0 ry1
  obtain ⟨v, hv⟩ : ∃ v, h * y = v := ⟨_, rfl⟩
  rw [hv] at S T hy0
  obtain ⟨u, hu⟩ : ∃ u, 2 * r * y = u := ⟨_, rfl⟩
  have hu2 : u = 2 * (r * y) := by rw [← hu, Int.mul_assoc]
  rw [hu] at S T
  have u0 : 0 ≤ u := by omega
  have u1 : u ≤ 2199023255552 := by omega
  have z0 := Int.ediv_nonneg (show 0 ≤ u + den by omega) (show 0 ≤ 2 * den by omega)
  have z1 := Int.ediv_le_self (2 * den) (show 0 ≤ u + den by omega)
  obtain ⟨z, hz⟩ : ∃ z, (u + den) / (2 * den) = z := ⟨_, rfl⟩
  rw [hz] at S T z0 z1
  have z2 : z ≤ 2199024304128 := by omega
  have hov : 0 < y → (140737488355328 / y < h ↔ 140737488355328 < v) := fun hp => by rw [Int.ediv_lt_iff_lt_mul hp, hv]
  clear hq hZ hx hy ry0 ry1 hu2 z1
  have ga : (a < 0 ∧ a = -x) ∨ (0 ≤ a ∧ a = x) := by
    rcases Int.lt_or_le a 0 with g | g
    · exact Or.inl ⟨g, by have := hm1 g; omega⟩
    · exact Or.inr ⟨g, (hm2 g).symm⟩
  have gn : (num < 0 ∧ num = -y) ∨ (0 ≤ num ∧ num = y) := by
    rcases Int.lt_or_le num 0 with g | g
    · exact Or.inl ⟨g, by have := hk1 g; omega⟩
    · exact Or.inr ⟨g, (hk2 g).symm⟩
  clear hm1 hm2 hk1 hk2
  by_cases hbig : 0 < y ∧ 140737488355328 < v
  · obtain ⟨g1, g2⟩ := hbig
    have g3 := (hov g1).2 g2
    have ho : lenB Z = false := (cut_mag (by omega)).2
    have q := no_is (bad := bad) (l := [a]) (v := 0) (n := cut Z) ho
    rw [← q.1, ← q.2]
    clear q ho hov S T hl
    rcases ga with ⟨s1, rfl⟩ | ⟨s1, rfl⟩
    all_goals rcases gn with ⟨s2, rfl⟩ | ⟨s2, rfl⟩
    all_goals
      go_enter Try.func25, Try.ntmps25
      go_wp2_with fail
      refine (length_any _ _).mono ?_
      rintro e w' ⟨rfl, rfl⟩
      rw [ha]
      go_wp2_with fail
      refine (told_any c bad 0 false _ hc hf).mono ?_
      rintro e w' ⟨rfl, hu⟩
      go_wp2_with fail
      go_ret
      exact ⟨rfl, hu⟩
  · have v1 : v ≤ 140737488355328 := by
      rcases Int.lt_or_eq_of_le y0 with g | g
      · omega
      · rw [← g, Int.mul_zero] at hv; omega
    have g3 : y ≤ 0 ∨ (0 < y ∧ h ≤ 140737488355328 / y) := by
      rcases Int.lt_or_le 0 y with g | g
      · exact Or.inr ⟨g, by have := hov g; omega⟩
      · exact Or.inl g
    have q := ref_yes (bad := bad) (v := Z) hl
    rw [← q.1, ← q.2, T]
    clear q hov S T hl hbig
    rcases g3 with g3 | ⟨g3, g4⟩
    all_goals rcases ga with ⟨s1, rfl⟩ | ⟨s1, rfl⟩
    all_goals rcases gn with ⟨s2, rfl⟩ | ⟨s2, rfl⟩
    all_goals try (exfalso; omega)
    all_goals
      first | rw [decide_eq_true s1] | rw [decide_eq_false (Int.not_lt.2 s1)]
      first | rw [decide_eq_true s2] | rw [decide_eq_false (Int.not_lt.2 s2)]
      go_enter Try.func25, Try.ntmps25
      go_wp2_with fail
      refine (length_any _ _).mono ?_
      rintro e w' ⟨rfl, rfl⟩
      rw [ha]
      go_wp2_with fail
      refine (told_any c bad _ true _ hc hf).mono ?_
      rintro e w' ⟨rfl, hu⟩
      go_wp2_with fail
      go_ret
      exact ⟨rfl, hu⟩

theorem scale_ways {a num den : Int} (h : ¬ (lenB a = true ∧ scOk num den = true)) :
    lenB a = false ∨ (lenB a = true ∧ den < 1) ∨ (lenB a = true ∧ 1 ≤ den ∧ 1048576 < den) ∨ (lenB a = true ∧ 1 ≤ den ∧ den ≤ 1048576 ∧ num < -1048576) ∨ (lenB a = true ∧ 1 ≤ den ∧ den ≤ 1048576 ∧ -1048576 ≤ num ∧ 1048576 < num) := by
  cases hl : lenB a
  · exact Or.inl rfl
  · simp only [hl, true_and, scOk, decide_eq_true_eq] at h
    simp only [true_and, Bool.true_eq_false, false_or]
    omega
set_option maxHeartbeats 1000000 in
theorem scaleR_any (c : Addr) (bad : Bool) (a num den : Int) (w : World) (hc : w.cell? c = some (.bool bad)) (hf : w.frozen? c = false) :
    Calls Try.prog 25 #[.pointer (some c), .int .i64 a, .int .i64 num, .int .i64 den] w fun e w' => e = .returned (.int .i64 (toldV bad (allLen [a]) (ratB a num den) (ratN a num den))) ∧ Upd c (toldB bad (allLen [a]) (ratB a num den)) w w' := by
  by_cases h : lenB a = true ∧ scOk num den = true
  · have := scaleR_in c bad a num den h.1 h.2 w hc hf
    simpa [ratB, ratN, h.2] using this
  · have q : refV bad false 0 = toldV bad (allLen [a]) (ratB a num den) (ratN a num den) ∧ refB bad false 0 = toldB bad (allLen [a]) (ratB a num den) := by
      have q1 := ref_no bad 0
      rw [q1.1, q1.2]
      cases hl : lenB a
      · have := tell_no (bad := bad) (ok := ratB a num den) (n := ratN a num den) (l := [a]) (by simp [allLen, hl])
        rw [this.1, this.2]; exact ⟨rfl, rfl⟩
      · have hs : scOk num den = false := by
          cases hs : scOk num den
          · rfl
          · exact absurd ⟨hl, hs⟩ h
        have := tell_no2 (bad := bad) (all := allLen [a]) (n := ratN a num den)
        rw [ratB_no hs, this.1, this.2]; exact ⟨rfl, rfl⟩
    rw [← q.1, ← q.2]
    rcases scale_ways h with ha | ⟨ha, g1⟩ | ⟨ha, g1, g2⟩ | ⟨ha, g1, g2, g3⟩ | ⟨ha, g1, g2, g3, g4⟩
    all_goals
      clear h q
      go_enter Try.func25, Try.ntmps25
      go_wp2_with fail
      refine (length_any _ _).mono ?_
      rintro e w' ⟨rfl, rfl⟩
      rw [ha]
      go_wp2_with fail
      refine (told_any c bad 0 false _ hc hf).mono ?_
      rintro e w' ⟨rfl, hu⟩
      go_wp2_with fail
      go_ret
      exact ⟨rfl, hu⟩
end Go.Proofs.Ytolccoghlclidaa
