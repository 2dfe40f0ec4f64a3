import Derived.Test.YtolccoghlclidaaDiv2
import Derived.Test.YtolccoghlclidaaTell
namespace Go.Proofs.Ytolccoghlclidaa
open Go.RowKit

/-- the floor of a quotient by way of magnitudes -/
theorem floor_pos {a n all : Int} (ha : 0 ≤ a) : a * n / all = mag a * n / all := by rw [mag_pos ha]
theorem floor_neg {a n all : Int} (ha : a < 0) (hall : 0 < all) : a * n / all = if 0 < mag a * n % all then -(mag a * n / all) - 1 else -(mag a * n / all) := by
  rw [mag_neg ha]
  have e : a * n = -(-a * n) := by rw [Int.neg_mul, Int.neg_neg]
  have hm := Int.emod_nonneg (-a * n) (show all ≠ 0 by omega)
  have hm' := Int.emod_lt_of_pos (-a * n) hall
  have he := Int.emod_add_mul_ediv (-a * n) all
  rw [e]
  generalize -a * n = P at *
  generalize hq : P / all = q at *
  generalize hr : P % all = r at *
  split
  · rw [show -P = (all - r) + all * (-q - 1) by rw [Int.mul_sub, Int.mul_neg]; omega, Int.add_mul_ediv_left _ _ (by omega), Int.ediv_eq_zero_of_lt (by omega) (by omega)]; omega
  · rw [show -P = 0 + all * (-q) by rw [Int.mul_neg]; omega, Int.add_mul_ediv_left _ _ (by omega), Int.ediv_eq_zero_of_lt (by omega) (by omega)]; omega

set_option maxHeartbeats 400000 in
theorem floor_any (a n all : Int) (ha : lenB a = true) (hn : 0 ≤ n) (hna : n ≤ all) (hall : 1 ≤ all) (hall2 : all ≤ 70368744177664) (w : World) :
    Calls Try.prog 27 #[.int .i64 a, .int .i64 n, .int .i64 all] w fun e w' => e = .returned (.int .i64 (a * n / all)) ∧ ∃ k, w' = w.drewN k := by
  have hm0 := mag_nonneg a
  have hl := lenB_yes ha
  have hm1 : mag a ≤ 70368744177664 := by unfold mag; split <;> omega
  have hP0 : 0 ≤ mag a * n := Int.mul_nonneg hm0 hn
  have hP1 : mag a * n ≤ 70368744177664 * all := by
    have h1 := Int.mul_le_mul_of_nonneg_right hm1 hn
    omega
  have hPa : mag a * n ≤ mag a * all := Int.mul_le_mul_of_nonneg_left hna hm0
  have hq0 : 0 ≤ mag a * n / all := Int.ediv_nonneg hP0 (by omega)
  have hq1 : mag a * n / all ≤ mag a := by
    refine Int.ediv_le_of_le_mul (by omega) hPa
  have hr0 := Int.emod_nonneg (mag a * n) (show all ≠ 0 by omega)
  have hr1 := Int.emod_lt_of_pos (mag a * n) (show 0 < all by omega)
  have F1 : Hid (0 ≤ a → a * n / all = mag a * n / all) := fun h => floor_pos h
  have F2 : Hid (a < 0 → a * n / all = if 0 < mag a * n % all then -(mag a * n / all) - 1 else -(mag a * n / all)) := fun h => floor_neg h (by omega)
  have ha1 := hl.1; have ha2 := hl.2
  clear ha hl hPa
  obtain ⟨P, hP⟩ : ∃ P, mag a * n = P := ⟨_, rfl⟩
  obtain ⟨M, hM⟩ : ∃ M, mag a = M := ⟨_, rfl⟩
  rw [hM] at hP hm0 hm1
  rw [hM, hP] at hP0 hP1 hq0 hq1 hr0 hr1 F1 F2
  obtain ⟨h, hh⟩ : ∃ h, P / 18446744073709551616 = h := ⟨_, rfl⟩
  obtain ⟨l, hlo⟩ : ∃ l, P % 18446744073709551616 = l := ⟨_, rfl⟩
  have he : h * 18446744073709551616 + l = P := by omega
  have b1 : 0 ≤ h := by omega
  have b2 : h < all := by omega
  have b3 : 0 ≤ l := by omega
  have b4 : l < 18446744073709551616 := by omega
  obtain ⟨q, hq⟩ : ∃ q, P / all = q := ⟨_, rfl⟩
  obtain ⟨r, hr⟩ : ∃ r, P % all = r := ⟨_, rfl⟩
  rw [hq] at hq0 hq1 F1 F2
  rw [hr] at hr0 hr1 F2
  have b5 : q ≤ 70368744177664 := by omega
  have D : Hid (∀ W : World, Calls Try.prog 37 #[.int .u64 h, .int .u64 l, .int .u64 all] W fun e w' => e = .returned (.tuple #[.int .u64 q, .int .u64 r]) ∧ ∃ k, w' = W.drewN k) := by
    intro W
    have := div64 h l all b3 b4 b1 b2 (by omega) W
    rwa [he, hq, hr] at this
  have D2 : Hid (∀ W : World, Calls Try.prog 36 #[.int .i64 a] W fun e w' => e = .returned (.int .u64 M) ∧ w' = W) := by
    intro W
    have := magnitude_any a (by omega) (by omega) W
    rwa [hM] at this
  have D3 : Hid (∀ W : World, Calls Try.prog 35 #[.int .u64 M, .int .u64 n] W fun e w' => e = .returned (.tuple #[.int .u64 h, .int .u64 l]) ∧ w' = W) := by
    intro W
    have := mul64 M n hm0 (by omega) hn (by omega) W
    rwa [hP, hh, hlo] at this
  clear hh hlo hP hM he hq hr
  by_cases hpos : 0 ≤ a
  · have G := F1.out hpos
    rw [G]; clear G F1 F2
    go_enter Try.func27, Try.ntmps27
    go_wp2_with fail
    refine (D2.out _).mono ?_
    rintro e w' ⟨rfl, rfl⟩
    go_wp2_with fail
    refine (D3.out _).mono ?_
    rintro e w' ⟨rfl, rfl⟩
    go_wp2_with fail
    refine (D.out _).mono ?_
    rintro e w' ⟨rfl, k, rfl⟩
    go_wp2_with fail
    go_ret
    exact ⟨rfl, _, rfl⟩
  · have G := F2.out (by omega)
    by_cases hrp : 0 < r
    · rw [if_pos hrp] at G
      rw [G]; clear G F1 F2
      go_enter Try.func27, Try.ntmps27
      go_wp2_with fail
      refine (D2.out _).mono ?_
      rintro e w' ⟨rfl, rfl⟩
      go_wp2_with fail
      refine (D3.out _).mono ?_
      rintro e w' ⟨rfl, rfl⟩
      go_wp2_with fail
      refine (D.out _).mono ?_
      rintro e w' ⟨rfl, k, rfl⟩
      go_wp2_with fail
      go_ret
      exact ⟨rfl, _, rfl⟩
    · rw [if_neg hrp] at G
      rw [G]; clear G F1 F2
      go_enter Try.func27, Try.ntmps27
      go_wp2_with fail
      refine (D2.out _).mono ?_
      rintro e w' ⟨rfl, rfl⟩
      go_wp2_with fail
      refine (D3.out _).mono ?_
      rintro e w' ⟨rfl, rfl⟩
      go_wp2_with fail
      refine (D.out _).mono ?_
      rintro e w' ⟨rfl, k, rfl⟩
      go_wp2_with fail
      go_ret
      exact ⟨rfl, _, rfl⟩
end Go.Proofs.Ytolccoghlclidaa
