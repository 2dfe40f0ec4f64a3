import Derived.Test.YtolccoghlclidaaSmall
namespace Go.Proofs.Ytolccoghlclidaa
open Go.RowKit

theorem ret_pair {a b : Int} {c d : Bool} (h : a = b) (k : c = d) : Ending.returned (.tuple #[.int .i64 a, .bool c]) = .returned (.tuple #[.int .i64 b, .bool d]) := by rw [h, k]

/-- an exact answer as it is told: the number if it is a length, else 0 -/
def cut (n : Int) : Int := if lenB n = true then n else 0
theorem cut_yes {n : Int} (h : lenB n = true) : cut n = n := by unfold cut; rw [if_pos h]
theorem cut_no {n : Int} (h : lenB n = false) : cut n = 0 := by unfold cut; rw [if_neg (by simp [h])]

set_option maxHeartbeats 400000 in
theorem sum_any (a b : Int) (h0 : -9223372036854775808 ≤ a + b) (h1 : a + b ≤ 9223372036854775807) (w : World) :
    Calls Try.prog 32 #[.agg #[.int .i64 a, .int .i64 b]] w fun e w' => e = .returned (.tuple #[.int .i64 (cut (a + b)), .bool (lenB (a + b))]) ∧ Below w.heap.size w w' := by
  by_cases h : lenB (a + b) = true
  · go_enter Try.func32, Try.ntmps32
    go_wp2_with (go_at_call 26; refine (isLength_any _ _).mono ?_; rintro e w' ⟨rfl, rfl⟩)
    go_ret2
    exact ⟨ret_pair (cut_yes h).symm h.symm, (Below.refl _ _).alloc (Nat.le_refl _) _⟩
  · have h' : lenB (a + b) = false := by simpa using h
    clear h
    go_enter Try.func32, Try.ntmps32
    go_wp2_with (go_at_call 26; refine (isLength_any _ _).mono ?_; rintro e w' ⟨rfl, rfl⟩)
    go_ret2
    exact ⟨ret_pair (cut_no h').symm h'.symm, (Below.refl _ _).alloc (Nat.le_refl _) _⟩

def sgn (below : Bool) (m : Int) : Int := if below then -m else m
set_option maxHeartbeats 400000 in
theorem signed_big (m : Int) (below : Bool) (h : 70368744177664 < m) (w : World) :
    Calls Try.prog 40 #[.int .u64 m, .bool below] w fun e w' => e = .returned (.tuple #[.int .i64 0, .bool false]) ∧ w' = w := by
  go_enter Try.func40, Try.ntmps40
  go_wp2
  go_ret2
  exact ⟨rfl, rfl⟩
set_option maxHeartbeats 400000 in
theorem signed_ok (m : Int) (below : Bool) (h0 : 0 ≤ m) (h : m ≤ 70368744177664) (w : World) :
    Calls Try.prog 40 #[.int .u64 m, .bool below] w fun e w' => e = .returned (.tuple #[.int .i64 (sgn below m), .bool true]) ∧ w' = w := by
  cases below
  · go_enter Try.func40, Try.ntmps40
    go_wp2
    go_ret2
    exact ⟨ret_pair rfl rfl, rfl⟩
  · go_enter Try.func40, Try.ntmps40
    go_wp2
    go_ret2
    exact ⟨ret_pair rfl rfl, rfl⟩

/-! ### the product -/
theorem mag_mul (a n : Int) : mag a * mag n = mag (a * n) := by
  rcases Int.lt_or_le a 0 with ha | ha
  · rcases Int.lt_or_le n 0 with hn | hn
    · rw [mag_neg ha, mag_neg hn, mag_pos (Int.le_of_lt (Int.mul_pos_of_neg_of_neg ha hn)), Int.neg_mul_neg]
    · rcases Int.lt_or_eq_of_le hn with hp | hp
      · rw [mag_neg ha, mag_pos hn, mag_neg (Int.mul_neg_of_neg_of_pos ha hp), Int.neg_mul]
      · subst hp; simp [mag]
  · rcases Int.lt_or_le n 0 with hn | hn
    · rcases Int.lt_or_eq_of_le ha with hp | hp
      · rw [mag_pos ha, mag_neg hn, mag_neg (Int.mul_neg_of_pos_of_neg hp hn), Int.mul_neg]
      · subst hp; simp [mag]
    · rw [mag_pos ha, mag_pos hn, mag_pos (Int.mul_nonneg ha hn)]
theorem lenB_mag (p : Int) : lenB p = decide (mag p ≤ 70368744177664) := by
  unfold lenB mag
  rw [decide_eq_decide]
  split <;> omega
theorem sgn_mul (a n : Int) : sgn (bne (decide (a < 0)) (decide (n < 0))) (mag (a * n)) = a * n := by
  rw [← mag_mul]
  unfold mag
  by_cases ha : a < 0 <;> by_cases hn : n < 0 <;> simp [ha, hn, sgn, Int.neg_mul, Int.mul_neg]

theorem cut_mag {p : Int} (h : 70368744177664 < mag p) : cut p = 0 ∧ lenB p = false := by
  have : lenB p = false := by rw [lenB_mag]; simp; omega
  exact ⟨cut_no this, this⟩
theorem cut_mag' {p : Int} (h : mag p ≤ 70368744177664) : cut p = p ∧ lenB p = true := by
  have : lenB p = true := by rw [lenB_mag]; simp; omega
  exact ⟨cut_yes this, this⟩
theorem bne_dec (a b : Bool) : (!(a == b)) = bne a b := rfl

set_option maxHeartbeats 400000 in
theorem product_any (a n : Int) (ha : -9223372036854775808 ≤ a) (ha' : a ≤ 9223372036854775807) (hn : -9223372036854775808 ≤ n) (hn' : n ≤ 9223372036854775807) (w : World) :
    Calls Try.prog 33 #[.agg #[.int .i64 a, .int .i64 n]] w fun e w' => e = .returned (.tuple #[.int .i64 (cut (a * n)), .bool (lenB (a * n))]) ∧ Below w.heap.size w w' := by
  have hm1 := mag_nonneg a; have hm2 := mag_nonneg n; have hl1 := mag_le ha ha'; have hl2 := mag_le hn hn'
  have hx1 : mag a < 18446744073709551616 := by omega
  have hx2 : mag n < 18446744073709551616 := by omega
  have hp0 : 0 ≤ mag a * mag n := Int.mul_nonneg hm1 hm2
  have HS := sgn_mul a n
  have HM := mag_mul a n
  obtain ⟨p, hp⟩ : ∃ p, mag a * mag n = p := ⟨_, rfl⟩
  rw [← HM, hp] at HS
  rw [hp] at hp0 HM
  have A : Hid (p = mag (a * n)) := HM
  have B : Hid (sgn (bne (decide (a < 0)) (decide (n < 0))) p = a * n) := HS
  clear HS HM
  have res : Hid (if p ≤ 70368744177664 then cut (a * n) = a * n ∧ lenB (a * n) = true else cut (a * n) = 0 ∧ lenB (a * n) = false) := by
    unfold Hid
    split
    · exact cut_mag' (by rw [← A.out]; omega)
    · exact cut_mag (by rw [← A.out]; omega)
  clear A
  by_cases h1 : 18446744073709551616 ≤ p
  · have r := res.out; rw [if_neg (by omega)] at r; rw [r.1, r.2]; clear r res
    have hq : 0 < p / 18446744073709551616 := by omega
    go_enter Try.func33, Try.ntmps33
    go_wp2
    go_quiet (first | (go_at_call 36; exact Calls.quiet_of_same (magnitude_any _ (by assumption) (by assumption) _)) | (go_at_call 35; exact Calls.quiet_of_same (mul64 _ _ hm1 hx1 hm2 hx2 _)))
    go_wp2
    go_ret2
    exact ⟨rfl, below_drewN ((Below.refl _ _).alloc (Nat.le_refl _) _) _⟩
  · have hq : ¬ 0 < p / 18446744073709551616 := by omega
    have hr : Hid (p % 18446744073709551616 = p) := by unfold Hid; omega
    by_cases h2 : p ≤ 70368744177664
    · have r := res.out; rw [if_pos (by omega)] at r; rw [r.1, r.2, ← B.out]; clear r res
      go_enter Try.func33, Try.ntmps33
      go_wp2
      go_quiet (first | (go_at_call 36; exact Calls.quiet_of_same (magnitude_any _ (by assumption) (by assumption) _)) | (go_at_call 35; exact Calls.quiet_of_same (mul64 _ _ hm1 hx1 hm2 hx2 _)))
      go_wp2_with fail
      rw [hr.out]
      refine (signed_ok _ _ hp0 h2 _).mono ?_
      rintro e w' ⟨rfl, rfl⟩
      go_wp2
      go_ret2
      exact ⟨rfl, below_drewN ((Below.refl _ _).alloc (Nat.le_refl _) _) _⟩
    · have r := res.out; rw [if_neg (by omega)] at r; rw [r.1, r.2]; clear r res
      go_enter Try.func33, Try.ntmps33
      go_wp2
      go_quiet (first | (go_at_call 36; exact Calls.quiet_of_same (magnitude_any _ (by assumption) (by assumption) _)) | (go_at_call 35; exact Calls.quiet_of_same (mul64 _ _ hm1 hx1 hm2 hx2 _)))
      go_wp2_with fail
      rw [hr.out]
      refine (signed_big _ _ (by omega) _).mono ?_
      rintro e w' ⟨rfl, rfl⟩
      go_wp2
      go_ret2
      exact ⟨rfl, below_drewN ((Below.refl _ _).alloc (Nat.le_refl _) _) _⟩
end Go.Proofs.Ytolccoghlclidaa
