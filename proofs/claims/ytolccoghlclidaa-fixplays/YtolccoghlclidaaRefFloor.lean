import Derived.Test.YtolccoghlclidaaSmall
namespace Go.Proofs.Ytolccoghlclidaa
open Go.RowKit

theorem i64_and_nat (a b : Nat) (ha : a < 9223372036854775808) (hb : b < 9223372036854775808) : bits .and .i64 (a : Int) (b : Int) = ((a &&& b : Nat) : Int) := by
  have hx : a &&& b < 2 ^ 63 := Nat.and_lt_two_pow _ (by omega)
  show IntKind.i64.wrap ((BitVec.ofInt 64 (a : Int) &&& BitVec.ofInt 64 (b : Int)).toNat : Int) = _
  rw [BitVec.toNat_and, ofInt_u64 a (by omega), ofInt_u64 b (by omega), IntKind.wrap_i64]
  omega
theorem ret_two64 {a b c d : Int} (h : a = b) (k : c = d) : Ending.returned (.tuple #[.int .i64 a, .int .i64 c]) = .returned (.tuple #[.int .i64 b, .int .i64 d]) := by rw [h, k]
/-- the k-th power of two, and 0 ahead of it: the bit of the reference's loop -/
def bitOf : Nat → Int
  | 0 => 0
  | k + 1 => (2 ^ k : Nat)
theorem bitOf_half (k : Nat) : bitOf (k + 1) / 2 = bitOf k := by
  cases k with
  | zero => rfl
  | succ k => simp only [bitOf]; rw [Nat.pow_succ]; omega
theorem bitOf_pos (k : Nat) : 0 < bitOf (k + 1) := by simp only [bitOf]; have := Nat.two_pow_pos k; omega
theorem bitOf_le {k : Nat} (h : k ≤ 47) : bitOf k ≤ 70368744177664 := by
  cases k with
  | zero => decide
  | succ k =>
    simp only [bitOf]
    have := Nat.pow_le_pow_right (show 0 < 2 by decide) (show k ≤ 46 by omega)
    omega
theorem u_bit (u : Int) (k : Nat) (h0 : 0 ≤ u) (h1 : u ≤ 70368744177664) (hk : k ≤ 46) : bits .and .i64 u (bitOf (k + 1)) = u / (2 ^ k : Nat) % 2 * (2 ^ k : Nat) := by
  obtain ⟨n, rfl⟩ := Int.eq_ofNat_of_zero_le h0
  have := Nat.pow_le_pow_right (show 0 < 2 by decide) hk
  simp only [bitOf]
  rw [i64_and_nat n (2 ^ k) (by omega) (by omega), nat_bit]
  simp
/-- the digit, as 0 or 1 -/
theorem u_half (u : Int) (k : Nat) : u / (2 ^ k : Nat) = 2 * (u / (2 ^ (k + 1) : Nat)) + u / (2 ^ k : Nat) % 2 := by
  have : u / (2 ^ (k + 1) : Nat) = u / (2 ^ k : Nat) / 2 := by
    rw [Nat.pow_succ]
    rw [show ((2 ^ k * 2 : Nat) : Int) = ((2 ^ k : Nat) : Int) * 2 by simp]
    rw [Int.ediv_ediv_of_nonneg (Int.natCast_nonneg _)]
  omega

/-- what stands in the loop: a * (u / 2^k), parted by all -/
structure Fl (a u all : Int) (k : Nat) (q r : Int) : Prop where
  eq : a * (u / (2 ^ k : Nat)) = q * all + r
  r0 : 0 ≤ r
  r1 : r < all
  q0 : 0 ≤ q
  q1 : q ≤ a
theorem fl_le {a u all : Int} {k : Nat} {q r : Int} (ha : 0 ≤ a) (h0 : 0 ≤ u) (h1 : u ≤ all) (hall : 1 ≤ all) (e : a * (u / (2 ^ k : Nat)) = q * all + r) (r0 : 0 ≤ r) (r1 : r < all) : 0 ≤ q ∧ q ≤ a := by
  have p := Nat.two_pow_pos k
  have d0 : 0 ≤ u / (2 ^ k : Nat) := Int.ediv_nonneg h0 (by omega)
  have d1 : u / (2 ^ k : Nat) ≤ u := Int.ediv_le_self _ h0
  have m0 := Int.mul_nonneg ha d0
  have m1 := Int.mul_le_mul_of_nonneg_left (show u / (2 ^ k : Nat) ≤ all by omega) ha
  constructor
  · rcases Int.lt_or_le q 0 with h | h
    · have := Int.mul_le_mul_of_nonneg_right (show q ≤ -1 by omega) (show 0 ≤ all by omega); omega
    · exact h
  · rcases Int.lt_or_le a q with h | h
    · have := Int.mul_le_mul_of_nonneg_right (show a + 1 ≤ q by omega) (show 0 ≤ all by omega)
      rw [Int.add_mul] at this; omega
    · exact h
theorem fl_step {a u all : Int} {k : Nat} {q r : Int} (ha : 0 ≤ a) (h0 : 0 ≤ u) (h1 : u ≤ all) (hall : 1 ≤ all) (h : Fl a u all (k + 1) q r) (d : Int) (hd : u / (2 ^ k : Nat) % 2 = d) :
    Fl a u all k (2 * q + d * (a / all) + (2 * r + d * (a % all)) / all) ((2 * r + d * (a % all)) % all) := by
  have hh := u_half u k
  rw [hd] at hh
  have e1 := Int.emod_add_mul_ediv a all
  have e2 := Int.emod_add_mul_ediv (2 * r + d * (a % all)) all
  have r0 := Int.emod_nonneg (2 * r + d * (a % all)) (show all ≠ 0 by omega)
  have r1 := Int.emod_lt_of_pos (2 * r + d * (a % all)) (show 0 < all by omega)
  have e : a * (u / (2 ^ k : Nat)) = (2 * q + d * (a / all) + (2 * r + d * (a % all)) / all) * all + (2 * r + d * (a % all)) % all := by
    have hp := h.eq
    rw [hh]
    generalize u / (2 ^ (k + 1) : Nat) = v at *
    have hd2 : d = 0 ∨ d = 1 := by omega
    generalize (2 * r + d * (a % all)) % all = t at *
    generalize (2 * r + d * (a % all)) / all = s at *
    generalize hA : a / all = A at *
    generalize a % all = B at *
    rw [Int.add_mul, Int.add_mul, Int.mul_add]
    rw [show a * (2 * v) = 2 * (a * v) by rw [Int.mul_left_comm], hp]
    rw [show 2 * q * all = 2 * (q * all) by rw [Int.mul_assoc]]
    rw [Int.mul_comm all A] at e1
    rw [Int.mul_comm all s] at e2
    rcases hd2 with rfl | rfl
    · omega
    · simp only [Int.mul_one, Int.one_mul] at *; omega
  have b := fl_le ha h0 h1 hall e r0 r1
  exact ⟨e, r0, r1, b.1, b.2⟩
theorem fl_end {a u all q r : Int} (hall : 1 ≤ all) (h : Fl a u all 0 q r) : q = a * u / all ∧ r = a * u % all := by
  have e := h.eq
  rw [show u / (2 ^ 0 : Nat) = u by simp] at e
  rw [e, Int.add_comm, Int.mul_comm q all, Int.add_mul_ediv_left _ _ (by omega), Int.add_mul_emod_self_left, Int.ediv_eq_zero_of_lt h.r0 h.r1, Int.emod_eq_of_lt h.r0 h.r1]
  omega
theorem fl_start {a u all : Int} (ha : 0 ≤ a) (h0 : 0 ≤ u) (h1 : u ≤ all) (hall : 1 ≤ all) (hall2 : all ≤ 70368744177664) : Fl a u all 47 0 0 := by
  refine ⟨?_, by omega, by omega, by omega, ha⟩
  rw [Int.ediv_eq_zero_of_lt h0 (by omega)]; omega

set_option maxHeartbeats 400000 in
theorem floorR_any (a u all : Int) (ha : 0 ≤ a) (ha1 : a ≤ 70368744177664) (h0 : 0 ≤ u) (h1 : u ≤ all) (hall : 1 ≤ all) (hall2 : all ≤ 70368744177664) (w : World) :
    Calls Try.prog 38 #[.int .i64 a, .int .i64 u, .int .i64 all] w fun e w' => e = .returned (.tuple #[.int .i64 (a * u / all), .int .i64 (a * u % all)]) ∧ ∃ k, w' = w.drewN k := by
  have hs := fl_start ha h0 h1 hall hall2
  have am := Int.emod_nonneg a (show all ≠ 0 by omega)
  have am' := Int.emod_lt_of_pos a (show 0 < all by omega)
  have ad := Int.ediv_nonneg ha (show 0 ≤ all by omega)
  have ad' : a / all ≤ a := Int.ediv_le_self _ ha
  go_enter Try.func38, Try.ntmps38
  go_wp2_with fail
  go_loop [8, 9, 10] (fun vq vr vb => ∃ (q r : Int) (k : Nat), vq = .int .i64 q ∧ vr = .int .i64 r ∧ vb = .int .i64 (bitOf k) ∧ k ≤ 47 ∧ Fl a u all k q r) (fun _ _ vb => (intOf vb).toNat)
  case atStart => exact ⟨0, 0, 47, rfl, rfl, rfl, by omega, hs⟩
  case round =>
    obtain ⟨q, r, k, rfl, rfl, rfl, hk, hf⟩ := hrel
    have q0 := hf.q0; have q1 := hf.q1; have r0 := hf.r0; have r1 := hf.r1
    clear hs
    cases k with
    | zero =>
      have hb : bitOf 0 = 0 := rfl
      have hend : Hid (q = a * u / all ∧ r = a * u % all) := fl_end hall hf
      clear hf
      go_wp2_with fail
      go_ret2
      exact ⟨ret_two64 hend.out.1 hend.out.2, 0, rfl⟩
    | succ k =>
      have hb0 := bitOf_pos k
      have hb1 := bitOf_le hk
      have hbh := bitOf_half k
      have hub := u_bit u k h0 (by omega) (by omega)
      obtain ⟨d, hd⟩ : ∃ d, u / (2 ^ k : Nat) % 2 = d := ⟨_, rfl⟩
      have hst := fl_step ha h0 h1 hall hf d hd
      rw [hd] at hub
      have hdd : d = 0 ∨ d = 1 := by omega
      clear hd
      have hbl : bitOf k < bitOf (k + 1) := by omega
      have p := Nat.two_pow_pos k
      obtain ⟨b, hb⟩ : ∃ b, bitOf (k + 1) = b := ⟨_, rfl⟩
      rw [hb] at hb0 hb1 hbh hub hbl
      obtain ⟨m, hm⟩ : ∃ m : Int, ((2 ^ k : Nat) : Int) = m := ⟨_, rfl⟩
      have hm0 : 0 < m := by omega
      rw [hm] at hub
      clear hm p
      have HB : Hid (b / 2 = bitOf k) := hbh
      clear hbh hf
      rcases hdd with rfl | rfl
      · simp only [Int.zero_mul, Int.add_zero] at hub hst
        have s0 := hst.q0; have s1 := hst.q1
        go_wp2_with fail
        go_round
        case rel => exact ⟨_, _, k, rfl, rfl, by rw [HB.out], by omega, hst⟩
        case measure => rw [hb]; simp only [intOf]; omega
      · simp only [Int.one_mul] at hub hst
        have s0 := hst.q0; have s1 := hst.q1
        go_wp2_with fail
        go_round
        case rel => exact ⟨_, _, k, rfl, rfl, by rw [HB.out], by omega, hst⟩
        case measure => rw [hb]; simp only [intOf]; omega
end Go.Proofs.Ytolccoghlclidaa
