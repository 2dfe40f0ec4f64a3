import Derived.Test.YtolccoghlclidaaDiv2
import Derived.Test.YtolccoghlclidaaCalc
import Derived.Laws.Externs
namespace Go.Proofs.Ytolccoghlclidaa
open Go.RowKit

theorem add64_nat (x y c : Nat) (hc : c ≤ 1) (w : World) :
    (callFunc 39 #[.int .u64 x, .int .u64 y, .int .u64 c]).run Try.prog w =
      .ok (.value (.tuple #[.int .u64 (((x + y + c) % 18446744073709551616 : Nat) : Int), .int .u64 (((x + y + c) / 18446744073709551616 : Nat) : Int)])) w := by
  rw [run_callFunc_extern Try.func39 (by kernel_rfl) (by kernel_rfl) (by kernel_rfl) (e := add64Entry) (by kernel_rfl), run_add64 x y c (by omega) (by omega) (by omega) (by omega)]
  simp only [Result.andThen]
  congr 5 <;> omega
theorem add64_0 (x y : Int) (hx : 0 ≤ x) (hy : 0 ≤ y) (w : World) : (callFunc 39 #[.int .u64 x, .int .u64 y, .int .u64 0]).run Try.prog w =
    .ok (.value (.tuple #[.int .u64 ((x + y) % 18446744073709551616), .int .u64 ((x + y) / 18446744073709551616)])) w := by
  obtain ⟨x, rfl⟩ := Int.eq_ofNat_of_zero_le hx
  obtain ⟨y, rfl⟩ := Int.eq_ofNat_of_zero_le hy
  refine (add64_nat x y 0 (by omega) w).trans ?_
  simp

/-- the whole number nearest to a * num / den -/
def scN (a num den : Int) : Int := sgn (bne (decide (a < 0)) (decide (num < 0))) ((mag a * mag num + den / 2) / den)
/-- may num and den be? -/
def scOk (num den : Int) : Bool := decide (-1048576 ≤ num ∧ num ≤ 1048576 ∧ 1 ≤ den ∧ den ≤ 1048576)
theorem scOk_yes {num den : Int} (h : scOk num den = true) : -1048576 ≤ num ∧ num ≤ 1048576 ∧ 1 ≤ den ∧ den ≤ 1048576 := by simpa [scOk] using h
theorem scOk_ways {num den : Int} (h : scOk num den = false) : num < -1048576 ∨ (-1048576 ≤ num ∧ 1048576 < num) ∨ (-1048576 ≤ num ∧ num ≤ 1048576 ∧ den < 1) ∨ (-1048576 ≤ num ∧ num ≤ 1048576 ∧ 1 ≤ den ∧ 1048576 < den) := by
  simp only [scOk, decide_eq_false_iff_not] at h; omega
/-- what a ratio tells -/
def ratN (a num den : Int) : Int := if scOk num den = true then cut (scN a num den) else 0
def ratB (a num den : Int) : Bool := scOk num den && lenB (scN a num den)
theorem ratN_no {a num den : Int} (h : scOk num den = false) : ratN a num den = 0 := if_neg (by simp [h])
theorem ratB_no {a num den : Int} (h : scOk num den = false) : ratB a num den = false := by simp [ratB, h]
theorem mag_sgn (b : Bool) {m : Int} (h : 0 ≤ m) : mag (sgn b m) = m := by unfold mag sgn; cases b <;> simp <;> omega

set_option maxHeartbeats 400000 in
theorem ratio_no (a num den : Int) (h : scOk num den = false) (w : World) :
    Calls Try.prog 31 #[.agg #[.int .i64 a, .int .i64 num, .int .i64 den]] w fun e w' => e = .returned (.tuple #[.int .i64 0, .bool false]) ∧ Below w.heap.size w w' := by
  rcases scOk_ways h with g | ⟨g, g1⟩ | ⟨g, g1, g2⟩ | ⟨g, g1, g2, g3⟩
  all_goals
    clear h
    go_enter Try.func31, Try.ntmps31
    go_wp2_with fail
    go_ret2
    exact ⟨rfl, (Below.refl _ _).alloc (Nat.le_refl _) _⟩

set_option maxHeartbeats 1000000 in
theorem ratio_yes (a num den : Int) (ha : lenB a = true) (h : scOk num den = true) (w : World) :
    Calls Try.prog 31 #[.agg #[.int .i64 a, .int .i64 num, .int .i64 den]] w fun e w' => e = .returned (.tuple #[.int .i64 (cut (scN a num den)), .bool (lenB (scN a num den))]) ∧ Below w.heap.size w w' := by
  obtain ⟨a1, a2⟩ := lenB_yes ha
  obtain ⟨n1, n2, d1, d2⟩ := scOk_yes h
  have m0 := mag_nonneg a; have k0 := mag_nonneg num
  have m1 : mag a ≤ 70368744177664 := by unfold mag; split <;> omega
  have k1 : mag num ≤ 1048576 := by unfold mag; split <;> omega
  have hP0 : 0 ≤ mag a * mag num := Int.mul_nonneg m0 k0
  have hP1 : mag a * mag num ≤ 70368744177664 * 1048576 := Int.mul_le_mul m1 k1 k0 (by omega)
  have S := mag_sgn (bne (decide (a < 0)) (decide (num < 0))) (m := (mag a * mag num + den / 2) / den) (Int.ediv_nonneg (by omega) (by omega))
  have T : scN a num den = sgn (bne (decide (a < 0)) (decide (num < 0))) ((mag a * mag num + den / 2) / den) := rfl
  rw [← T] at S
  obtain ⟨Z, hZ⟩ : ∃ Z, scN a num den = Z := ⟨_, rfl⟩
  rw [hZ] at S T
  rw [hZ]
  clear hZ
  obtain ⟨P, hP⟩ : ∃ P, mag a * mag num = P := ⟨_, rfl⟩
  obtain ⟨M, hM⟩ : ∃ M, mag a = M := ⟨_, rfl⟩
  obtain ⟨K, hK⟩ : ∃ K, mag num = K := ⟨_, rfl⟩
  have D1 : Hid (∀ W : World, Calls Try.prog 36 #[.int .i64 a] W fun e w' => e = .returned (.int .u64 M) ∧ w' = W) := by
    intro W; have := magnitude_any a (by omega) (by omega) W; rwa [hM] at this
  have D2 : Hid (∀ W : World, Calls Try.prog 36 #[.int .i64 num] W fun e w' => e = .returned (.int .u64 K) ∧ w' = W) := by
    intro W; have := magnitude_any num (by omega) (by omega) W; rwa [hK] at this
  rw [hM, hK] at hP hP0 hP1 S T
  rw [hM] at m0 m1; rw [hK] at k0 k1
  rw [hP] at hP0 hP1 S T
  obtain ⟨h0, hh⟩ : ∃ h, P / 18446744073709551616 = h := ⟨_, rfl⟩
  obtain ⟨l0, hl⟩ : ∃ l, P % 18446744073709551616 = l := ⟨_, rfl⟩
  have D3 : Hid (∀ W : World, Calls Try.prog 35 #[.int .u64 M, .int .u64 K] W fun e w' => e = .returned (.tuple #[.int .u64 h0, .int .u64 l0]) ∧ w' = W) := by
    intro W; have := mul64 M K m0 (by omega) k0 (by omega) W; rwa [hP, hh, hl] at this
  obtain ⟨N, hN⟩ : ∃ N, P + den / 2 = N := ⟨_, rfl⟩
  rw [hN] at S T
  obtain ⟨l1, hl1⟩ : ∃ l, (l0 + den / 2) % 18446744073709551616 = l := ⟨_, rfl⟩
  obtain ⟨c1, hc1⟩ : ∃ c, (l0 + den / 2) / 18446744073709551616 = c := ⟨_, rfl⟩
  have e1 : (h0 + c1) * 18446744073709551616 + l1 = N := by omega
  have b1 : 0 ≤ h0 := by omega
  have b2 : 0 ≤ l0 := by omega
  have b3 : 0 ≤ den / 2 := by omega
  have b4 : 0 ≤ l1 := by omega
  have b5 : l1 < 18446744073709551616 := by omega
  have b6 : 0 ≤ c1 := by omega
  have b7 : h0 + c1 < 18446744073709551616 := by omega
  have HA : Hid (∀ w : World, (callFunc 39 #[.int .u64 l0, .int .u64 (den / 2), .int .u64 0]).run Try.prog w = .ok (.value (.tuple #[.int .u64 l1, .int .u64 c1])) w) := by
    intro W; have := add64_0 l0 (den / 2) b2 b3 W; rwa [hl1, hc1] at this
  clear hl1 hc1 hh hl hP hM hK ha h hP0 hP1
  obtain ⟨H, hH⟩ : ∃ H, h0 + c1 = H := ⟨_, rfl⟩
  rw [hH] at e1 b7
  by_cases hov : den ≤ H
  · have hq : 70368744177664 < N / den := by
      have : 18446744073709551616 ≤ N / den := (Int.le_ediv_iff_mul_le (by omega)).2 (by omega)
      omega
    have r := cut_mag (p := Z) (by omega)
    rw [r.1, r.2]
    clear r S T e1 hN hq
    go_enter Try.func31, Try.ntmps31
    go_wp2
    go_quiet (first | (go_at_call_of 36 a; exact Calls.quiet_of_same (D1.out _)) | (go_at_call_of 36 num; exact Calls.quiet_of_same (D2.out _)) | (go_at_call 35; exact Calls.quiet_of_same (D3.out _)))
    go_wp2_with (simp only [HA.out])
    go_ret2
    exact ⟨rfl, below_drewN ((Below.refl _ _).alloc (Nat.le_refl _) _) _⟩
  · have D4 := div64 H l1 den b4 b5 (by omega) (by omega) (by omega)
    have q0 : 0 ≤ N / den := Int.ediv_nonneg (by omega) (by omega)
    rw [e1] at D4
    obtain ⟨q, hq⟩ : ∃ q, N / den = q := ⟨_, rfl⟩
    obtain ⟨r, hr⟩ : ∃ r, N % den = r := ⟨_, rfl⟩
    rw [hq, hr] at D4
    rw [hq] at S T q0
    have E4 : Hid (∀ w : World, Calls Try.prog 37 #[.int .u64 H, .int .u64 l1, .int .u64 den] w fun e w' => e = .returned (.tuple #[.int .u64 q, .int .u64 r]) ∧ ∃ n, w' = w.drewN n) := D4
    by_cases hbig : q ≤ 70368744177664
    · have g := cut_mag' (p := Z) (by omega)
      rw [g.1, g.2]
      have HT : Hid (sgn (bne (decide (a < 0)) (decide (num < 0))) q = Z) := T.symm
      clear g S T e1 hN hq hr D4
      go_enter Try.func31, Try.ntmps31
      go_wp2
      go_quiet (first | (go_at_call_of 36 a; exact Calls.quiet_of_same (D1.out _)) | (go_at_call_of 36 num; exact Calls.quiet_of_same (D2.out _)) | (go_at_call 35; exact Calls.quiet_of_same (D3.out _)))
      go_wp2_with (simp only [HA.out])
      refine (E4.out _).mono ?_
      rintro e w' ⟨rfl, n1, rfl⟩
      go_wp2_with fail
      refine (signed_ok _ _ q0 hbig _).mono ?_
      rintro e w' ⟨rfl, rfl⟩
      go_wp2_with fail
      go_ret2
      exact ⟨ret_pair HT.out rfl, below_drewN ((Below.refl _ _).alloc (Nat.le_refl _) _) _⟩
    · have g := cut_mag (p := Z) (by omega)
      rw [g.1, g.2]
      clear g S T e1 hN hq hr D4
      go_enter Try.func31, Try.ntmps31
      go_wp2
      go_quiet (first | (go_at_call_of 36 a; exact Calls.quiet_of_same (D1.out _)) | (go_at_call_of 36 num; exact Calls.quiet_of_same (D2.out _)) | (go_at_call 35; exact Calls.quiet_of_same (D3.out _)))
      go_wp2_with (simp only [HA.out])
      refine (E4.out _).mono ?_
      rintro e w' ⟨rfl, n1, rfl⟩
      go_wp2_with fail
      refine (signed_big _ _ (by omega) _).mono ?_
      rintro e w' ⟨rfl, rfl⟩
      go_wp2_with fail
      go_ret2
      exact ⟨rfl, below_drewN ((Below.refl _ _).alloc (Nat.le_refl _) _) _⟩

theorem ratio_any (a num den : Int) (ha : lenB a = true) (w : World) :
    Calls Try.prog 31 #[.agg #[.int .i64 a, .int .i64 num, .int .i64 den]] w fun e w' => e = .returned (.tuple #[.int .i64 (ratN a num den), .bool (ratB a num den)]) ∧ Below w.heap.size w w' := by
  cases h : scOk num den
  · rw [ratN_no h, ratB_no h]; exact ratio_no a num den h w
  · have := ratio_yes a num den ha h w
    simpa [ratN, ratB, h] using this

set_option maxHeartbeats 400000 in
theorem scale_any (c : Addr) (bad : Bool) (a num den : Int) (w : World) (hc : w.cell? c = some (.bool bad)) (hf : w.frozen? c = false) (hcs : c.block < w.heap.size) :
    Calls Try.prog 16 #[.pointer (some c), .int .i64 a, .int .i64 num, .int .i64 den] w fun e w' => e = .returned (.int .i64 (toldV bad (allLen [a]) (ratB a num den) (ratN a num den))) ∧ Upd c (toldB bad (allLen [a]) (ratB a num den)) w w' := by
  go_enter Try.func16, Try.ntmps16
  go_wp2_with fail
  refine (tell_any 31 (by simp) c bad w.heap.size [a] (.agg #[.int .i64 a, .int .i64 num, .int .i64 den]) (ratN a num den) (ratB a num den) _ (by simp) ?_ ?_ ?_ ?_ ?_ (cells_one w a 3) ?_).mono ?_
  rotate_right
  · rintro e w' ⟨rfl, hu⟩
    go_wp2
    go_ret
    exact ⟨rfl, hu.from_alloc⟩
  · exact ((Upd.refl hc hf).alloc hcs _).cell
  · exact ((Upd.refl hc hf).alloc hcs _).froz
  · simp; omega
  · simp
  · omega
  · intro _ h W
    simp [allLen] at h
    exact ratio_any a num den h W
end Go.Proofs.Ytolccoghlclidaa
