import Derived.Test.YtolccoghlclidaaShare
import Derived.Test.YtolccoghlclidaaRefFloor
namespace Go.Proofs.Ytolccoghlclidaa
open Go.RowKit

set_option maxHeartbeats 400000 in
theorem part_any (a n all : Int) (ha : lenB a = true) (hn : 0 ≤ n) (hna : n ≤ all) (hall : 1 ≤ all) (hall2 : all ≤ 70368744177664) (w : World) :
    Calls Try.prog 29 #[.int .i64 a, .int .i64 n, .int .i64 all] w fun e w' => e = .returned (.int .i64 (a * n / all)) ∧ ∃ k, w' = w.drewN k := by
  have hl := lenB_yes ha
  by_cases hp : 0 ≤ a
  · go_enter Try.func29, Try.ntmps29
    go_wp2_with fail
    refine (floorR_any _ _ _ hp (by omega) hn hna hall hall2 _).mono ?_
    rintro e w' ⟨rfl, k, rfl⟩
    go_wp2_with fail
    go_ret
    exact ⟨rfl, _, rfl⟩
  · have F := floor_neg (a := a) (n := n) (all := all) (by omega) (by omega)
    rw [mag_neg (by omega)] at F
    have hm := hl.1; have hm2 := hl.2
    have P0 : 0 ≤ -a * n := Int.mul_nonneg (by omega) hn
    have q0 := Int.ediv_nonneg P0 (show 0 ≤ all by omega)
    have q1 : -a * n / all ≤ -a := Int.ediv_le_of_le_mul (by omega) (Int.mul_le_mul_of_nonneg_left hna (by omega))
    have D := floorR_any (-a) n all (by omega) (by omega) hn hna hall hall2
    obtain ⟨q, hq⟩ : ∃ q, -a * n / all = q := ⟨_, rfl⟩
    obtain ⟨r, hr⟩ : ∃ r, -a * n % all = r := ⟨_, rfl⟩
    rw [hq] at q0 q1 F
    rw [hq, hr] at D
    rw [hr] at F
    have HD : Hid (∀ w : World, Calls Try.prog 38 #[.int .i64 (-a), .int .i64 n, .int .i64 all] w fun e w' => e = .returned (.tuple #[.int .i64 q, .int .i64 r]) ∧ ∃ k, w' = w.drewN k) := D
    clear D hq hr
    by_cases h : 0 < r
    · rw [if_pos h] at F
      rw [F]; clear F
      go_enter Try.func29, Try.ntmps29
      go_wp2_with fail
      refine (HD.out _).mono ?_
      rintro e w' ⟨rfl, k, rfl⟩
      go_wp2_with fail
      go_ret
      exact ⟨ret_int (by omega), _, rfl⟩
    · rw [if_neg h] at F
      rw [F]; clear F
      go_enter Try.func29, Try.ntmps29
      go_wp2_with fail
      refine (HD.out _).mono ?_
      rintro e w' ⟨rfl, k, rfl⟩
      go_wp2_with fail
      go_ret
      exact ⟨rfl, _, rfl⟩

/-- what Share answers -/
def shareV (a b u l : Int) : Int := if lenB a = true ∧ 0 ≤ b ∧ b ≤ u ∧ u ≤ l ∧ 1 ≤ l ∧ l ≤ 70368744177664 then a * u / l - a * b / l else 0
theorem share_in {a b u l : Int} (h : lenB a = true ∧ 0 ≤ b ∧ b ≤ u ∧ u ≤ l ∧ 1 ≤ l ∧ l ≤ 70368744177664) : shareV a b u l = a * u / l - a * b / l := if_pos h
theorem share_ways {a b u l : Int} (h : ¬ (lenB a = true ∧ 0 ≤ b ∧ b ≤ u ∧ u ≤ l ∧ 1 ≤ l ∧ l ≤ 70368744177664)) :
    lenB a = false ∨ (lenB a = true ∧ b < 0) ∨ (lenB a = true ∧ 0 ≤ b ∧ u < b) ∨ (lenB a = true ∧ 0 ≤ b ∧ b ≤ u ∧ l < u) ∨ (lenB a = true ∧ 0 ≤ b ∧ b ≤ u ∧ u ≤ l ∧ l < 1) ∨ (lenB a = true ∧ 0 ≤ b ∧ b ≤ u ∧ u ≤ l ∧ 1 ≤ l ∧ 70368744177664 < l) := by
  cases hx : lenB a
  · exact Or.inl rfl
  · simp only [hx] at h
    simp only [true_and, Bool.true_eq_false, false_or] at *
    omega
theorem share_out {a b u l : Int} (h : ¬ (lenB a = true ∧ 0 ≤ b ∧ b ≤ u ∧ u ≤ l ∧ 1 ≤ l ∧ l ≤ 70368744177664)) : shareV a b u l = 0 := if_neg h
/-- a floor of a share is between 0 and the length -/
theorem floor_bound {a n l : Int} (ha : lenB a = true) (h0 : 0 ≤ n) (h1 : n ≤ l) (hl : 1 ≤ l) : -70368744177664 ≤ a * n / l ∧ a * n / l ≤ 70368744177664 := by
  have hb := lenB_yes ha
  have m := Int.mul_le_mul_of_nonneg_right hb.2 h0
  have m2 := Int.mul_le_mul_of_nonneg_right hb.1 h0
  constructor
  · exact (Int.le_ediv_iff_mul_le (by omega)).2 (by omega)
  · exact Int.ediv_le_of_le_mul (by omega) (by omega)

set_option maxHeartbeats 400000 in
theorem share_any (a b u l : Int) (w : World) :
    Calls Try.prog 14 #[.int .i64 a, .int .i64 b, .int .i64 u, .int .i64 l] w fun e w' => e = .returned (.int .i64 (shareV a b u l)) ∧ ∃ k, w' = w.drewN k := by
  by_cases h : lenB a = true ∧ 0 ≤ b ∧ b ≤ u ∧ u ≤ l ∧ 1 ≤ l ∧ l ≤ 70368744177664
  · rw [share_in h]
    obtain ⟨h1, h2, h3, h4, h5, h6⟩ := h
    have fb1 := floor_bound (n := u) h1 (by omega) h4 h5
    have fb2 := floor_bound (n := b) h1 h2 (by omega) h5
    have D1 := floor_any a u l h1 (by omega) h4 h5 h6
    have D2 := floor_any a b l h1 h2 (by omega) h5 h6
    obtain ⟨x, hx⟩ : ∃ x, a * u / l = x := ⟨_, rfl⟩
    obtain ⟨y, hy⟩ : ∃ y, a * b / l = y := ⟨_, rfl⟩
    rw [hx] at fb1 D1
    rw [hy] at fb2 D2
    rw [hx, hy]
    have E1 : Hid (∀ w : World, Calls Try.prog 27 #[.int .i64 a, .int .i64 u, .int .i64 l] w fun e w' => e = .returned (.int .i64 x) ∧ ∃ k, w' = w.drewN k) := D1
    have E2 : Hid (∀ w : World, Calls Try.prog 27 #[.int .i64 a, .int .i64 b, .int .i64 l] w fun e w' => e = .returned (.int .i64 y) ∧ ∃ k, w' = w.drewN k) := D2
    clear D1 D2 hx hy
    obtain ⟨f1, f2⟩ := fb1; obtain ⟨f3, f4⟩ := fb2
    go_enter Try.func14, Try.ntmps14
    go_wp2_with fail
    refine (isLength_any _ _).mono ?_
    rintro e w' ⟨rfl, rfl⟩
    go_wp2_with fail
    refine (E1.out _).mono ?_
    rintro e w' ⟨rfl, k, rfl⟩
    go_wp2_with fail
    refine (E2.out _).mono ?_
    rintro e w' ⟨rfl, k2, rfl⟩
    go_wp2_with fail
    go_ret
    exact ⟨rfl, k + k2, by simp [World.drewN]⟩
  · rw [share_out h]
    rcases share_ways h with g | ⟨g, g1⟩ | ⟨g, g1, g2⟩ | ⟨g, g1, g2, g3⟩ | ⟨g, g1, g2, g3, g4⟩ | ⟨g, g1, g2, g3, g4, g5⟩
    all_goals
      clear h
      go_enter Try.func14, Try.ntmps14
      go_wp2_with fail
      refine (isLength_any _ _).mono ?_
      rintro e w' ⟨rfl, rfl⟩
      go_wp2_with fail
      go_ret
      exact ⟨rfl, 0, rfl⟩

set_option maxHeartbeats 400000 in
theorem shareR_any (a b u l : Int) (w : World) :
    Calls Try.prog 15 #[.int .i64 a, .int .i64 b, .int .i64 u, .int .i64 l] w fun e w' => e = .returned (.int .i64 (shareV a b u l)) ∧ ∃ k, w' = w.drewN k := by
  by_cases h : lenB a = true ∧ 0 ≤ b ∧ b ≤ u ∧ u ≤ l ∧ 1 ≤ l ∧ l ≤ 70368744177664
  · rw [share_in h]
    obtain ⟨h1, h2, h3, h4, h5, h6⟩ := h
    have fb1 := floor_bound (n := u) h1 (by omega) h4 h5
    have fb2 := floor_bound (n := b) h1 h2 (by omega) h5
    have D1 := part_any a u l h1 (by omega) h4 h5 h6
    have D2 := part_any a b l h1 h2 (by omega) h5 h6
    obtain ⟨x, hx⟩ : ∃ x, a * u / l = x := ⟨_, rfl⟩
    obtain ⟨y, hy⟩ : ∃ y, a * b / l = y := ⟨_, rfl⟩
    rw [hx] at fb1 D1
    rw [hy] at fb2 D2
    rw [hx, hy]
    have E1 : Hid (∀ w : World, Calls Try.prog 29 #[.int .i64 a, .int .i64 u, .int .i64 l] w fun e w' => e = .returned (.int .i64 x) ∧ ∃ k, w' = w.drewN k) := D1
    have E2 : Hid (∀ w : World, Calls Try.prog 29 #[.int .i64 a, .int .i64 b, .int .i64 l] w fun e w' => e = .returned (.int .i64 y) ∧ ∃ k, w' = w.drewN k) := D2
    clear D1 D2 hx hy
    obtain ⟨f1, f2⟩ := fb1; obtain ⟨f3, f4⟩ := fb2
    go_enter Try.func15, Try.ntmps15
    go_wp2_with fail
    refine (length_any _ _).mono ?_
    rintro e w' ⟨rfl, rfl⟩
    go_wp2_with fail
    refine (E1.out _).mono ?_
    rintro e w' ⟨rfl, k, rfl⟩
    go_wp2_with fail
    refine (E2.out _).mono ?_
    rintro e w' ⟨rfl, k2, rfl⟩
    go_wp2_with fail
    go_ret
    exact ⟨rfl, k + k2, by simp [World.drewN]⟩
  · rw [share_out h]
    rcases share_ways h with g | ⟨g, g1⟩ | ⟨g, g1, g2⟩ | ⟨g, g1, g2, g3⟩ | ⟨g, g1, g2, g3, g4⟩ | ⟨g, g1, g2, g3, g4, g5⟩
    all_goals
      clear h
      go_enter Try.func15, Try.ntmps15
      go_wp2_with fail
      refine (length_any _ _).mono ?_
      rintro e w' ⟨rfl, rfl⟩
      go_wp2_with fail
      go_ret
      exact ⟨rfl, 0, rfl⟩
end Go.Proofs.Ytolccoghlclidaa
