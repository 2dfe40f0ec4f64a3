import Derived.WalkKit
import Derived.Lib.BitFns
import Derived.Lib.ItoaNum
namespace Go.Proofs.YtapnmopcmlcfbaaDoor
open Go.RowKit

/-! ### one digit of a division by a number of two half words, the greater of them at least 2^31 -/
theorem dg_bound {A b Y : Int} (hA : 0 ≤ A) (hAY : A < Y) (hb : 0 ≤ b) (hb1 : b < 4294967296) : 0 ≤ (A * 4294967296 + b) / Y ∧ (A * 4294967296 + b) / Y < 4294967296 := by
  have hY : 0 < Y := by omega
  refine ⟨Int.ediv_nonneg (by omega) (by omega), Int.ediv_lt_of_lt_mul hY ?_⟩
  omega
theorem mulY (q y1 y0 : Int) : q * (y1 * 4294967296 + y0) = q * y1 * 4294967296 + q * y0 := by rw [Int.mul_add, Int.mul_assoc]

/-- what a round of the guess's correction knows -/
structure Dg (A b y1 y0 Q q r : Int) : Prop where
  eq : q * y1 + r = A
  up : Q ≤ q
  q0 : q ≤ 4294967297
  r0 : 0 ≤ r
  r1 : r < 4294967296

theorem dg_start {A b y1 y0 : Int} (hA : 0 ≤ A) (hAY : A < y1 * 4294967296 + y0) (hb : 0 ≤ b) (hb1 : b < 4294967296) (h1 : 2147483648 ≤ y1) (h1' : y1 < 4294967296) (h0 : 0 ≤ y0) (h0' : y0 < 4294967296) :
    Dg A b y1 y0 ((A * 4294967296 + b) / (y1 * 4294967296 + y0)) (A / y1) (A - A / y1 * y1) := by
  have hy : 0 < y1 := by omega
  have hm := Int.emod_nonneg A (show y1 ≠ 0 by omega)
  have hm' := Int.emod_lt_of_pos A hy
  have he := Int.emod_add_mul_ediv A y1
  rw [Int.mul_comm] at he
  have hQ := dg_bound hA hAY hb hb1
  have hYp : 0 < y1 * 4294967296 + y0 := by omega
  have hq := Int.mul_ediv_self_le (x := A * 4294967296 + b) (k := y1 * 4294967296 + y0) (by omega)
  rw [Int.mul_comm, mulY] at hq
  refine ⟨by omega, ?_, ?_, by omega, by omega⟩
  · refine (Int.le_ediv_iff_mul_le hy).2 ?_
    have : 0 ≤ (A * 4294967296 + b) / (y1 * 4294967296 + y0) * y0 := Int.mul_nonneg hQ.1 h0
    omega
  · have : A / y1 < 4294967298 := by
      refine Int.ediv_lt_of_lt_mul hy ?_
      omega
    omega

theorem dg_over {A b y1 y0 Q q r : Int} (hA : 0 ≤ A) (hAY : A < y1 * 4294967296 + y0) (hQ : Q = (A * 4294967296 + b) / (y1 * 4294967296 + y0)) (hb : 0 ≤ b) (hb1 : b < 4294967296) (h : Dg A b y1 y0 Q q r)
    (hc : 4294967296 ≤ q ∨ 4294967296 * r + b < q * y0) : Q ≤ q - 1 := by
  rcases hc with hc | hc
  · have := dg_bound hA hAY hb hb1; rw [← hQ] at this; omega
  · have : Q < q := by
      rw [hQ]
      refine Int.ediv_lt_of_lt_mul (by omega) ?_
      rw [mulY]; have := h.eq; omega
    omega
theorem dg_next {A b y1 y0 Q q r : Int} (hy1 : 2147483648 ≤ y1) (h : Dg A b y1 y0 Q q r) (hQ : Q ≤ q - 1) (hr : r + y1 < 4294967296) : Dg A b y1 y0 Q (q - 1) (r + y1) := by
  have := h.eq; have := h.r0; have := h.q0
  refine ⟨?_, hQ, by omega, by omega, hr⟩
  rw [Int.sub_mul]; omega
theorem dg_done {A b y1 y0 Q q r : Int} (hY : 0 < y1 * 4294967296 + y0) (hQ : Q = (A * 4294967296 + b) / (y1 * 4294967296 + y0)) (h : Dg A b y1 y0 Q q r) (hc : q * y0 ≤ 4294967296 * r + b) : q = Q := by
  have h1 := h.up
  have : q ≤ Q := by
    rw [hQ]
    refine (Int.le_ediv_iff_mul_le hY).2 ?_
    rw [mulY]; have := h.eq; omega
  omega
theorem dg_break {A b y1 y0 Q q r : Int} (hY : 0 < y1 * 4294967296 + y0) (hQ : Q = (A * 4294967296 + b) / (y1 * 4294967296 + y0)) (hb : 0 ≤ b) (h0 : 0 ≤ y0) (h0' : y0 < 4294967296) (h : Dg A b y1 y0 Q q r) (hc : Q ≤ q - 1) (hr : 4294967296 ≤ r + y1) : q - 1 = Q := by
  have : q - 1 ≤ Q := by
    rw [hQ]
    refine (Int.le_ediv_iff_mul_le hY).2 ?_
    rw [mulY]
    have h1 := h.eq; have h2 := h.q0
    have h3 : (q - 1) * y1 = A - r - y1 := by rw [Int.sub_mul]; omega
    have h4 : (q - 1) * y0 ≤ 4294967296 * y0 := Int.mul_le_mul_of_nonneg_right (by omega) h0
    rw [h3]; omega
  omega
/-- what is left behind a digit -/
theorem dg_left {A b Y Q : Int} (hA : 0 ≤ A) (hAY : A < Y) (hQ : Q = (A * 4294967296 + b) / Y) : 0 ≤ A * 4294967296 + b - Q * Y ∧ A * 4294967296 + b - Q * Y < Y := by
  have hm := Int.emod_nonneg (A * 4294967296 + b) (show Y ≠ 0 by omega)
  have hm' := Int.emod_lt_of_pos (A * 4294967296 + b) (show 0 < Y by omega)
  have he := Int.emod_add_mul_ediv (A * 4294967296 + b) Y
  rw [← hQ, Int.mul_comm Y Q] at he
  omega

/-! ### shifting to the left -/
theorem lz_of (y : Int) (h0 : 0 < y) (h1 : y < 18446744073709551616) : ∃ s : Nat, s ≤ 63 ∧ (64 - (Lib.bitLen y.toNat : Int)) = (s : Int) ∧ 9223372036854775808 ≤ y * 2 ^ s ∧ y * 2 ^ s < 18446744073709551616 := by
  obtain ⟨n, rfl⟩ := Int.eq_ofNat_of_zero_le (Int.le_of_lt h0)
  have hb := Lib.bitLenAux_bounds 64 n (by omega) (by omega)
  have hl : Lib.bitLenAux 64 n ≤ 64 := Lib.bitLen_le n 64 (by omega) (by omega)
  obtain ⟨b1, b2, b3⟩ := hb
  show ∃ s : Nat, s ≤ 63 ∧ (64 - (Lib.bitLenAux 64 n : Int)) = (s : Int) ∧ _
  generalize Lib.bitLenAux 64 n = L at *
  refine ⟨64 - L, by omega, by omega, ?_, ?_⟩
  · have : 2 ^ (L - 1) * 2 ^ (64 - L) ≤ n * 2 ^ (64 - L) := Nat.mul_le_mul_right _ b2
    rw [← Nat.pow_add, show L - 1 + (64 - L) = 63 by omega] at this
    have e : (n : Int) * 2 ^ (64 - L) = ((n * 2 ^ (64 - L) : Nat) : Int) := by simp
    rw [e]; omega
  · have : n * 2 ^ (64 - L) < 2 ^ L * 2 ^ (64 - L) := Nat.mul_lt_mul_of_pos_right b3 (Nat.two_pow_pos _)
    rw [← Nat.pow_add, show L + (64 - L) = 64 by omega] at this
    have e : (n : Int) * 2 ^ (64 - L) = ((n * 2 ^ (64 - L) : Nat) : Int) := by simp
    rw [e]; omega
theorem pow_split (s : Nat) (hs : s ≤ 63) : (2 : Int) ^ (64 - s) * 2 ^ s = 18446744073709551616 := by
  rw [← Int.pow_add, show 64 - s + s = 64 by omega]; rfl
theorem hi_lt (hi y : Int) (s : Nat) (h : hi < y) : hi * 2 ^ s < y * 2 ^ s := Int.mul_lt_mul_of_pos_right h (Int.pow_pos (by omega))
/-- the low word, shifted: what goes up and what stays -/
theorem lo_split (lo : Int) (s : Nat) (hs : s ≤ 63) (h0 : 0 ≤ lo) (h1 : lo < 18446744073709551616) :
    lo * 2 ^ s = lo / 2 ^ (64 - s) * 18446744073709551616 + IntKind.u64.wrap (lo * 2 ^ s) ∧ 0 ≤ lo / 2 ^ (64 - s) ∧ lo / 2 ^ (64 - s) < 2 ^ s := by
  have hp := pow_split s hs
  have p1 : (0 : Int) < 2 ^ (64 - s) := Int.pow_pos (by omega)
  have p2 : (0 : Int) < 2 ^ s := Int.pow_pos (by omega)
  have hm := Int.emod_nonneg lo (show (2 : Int) ^ (64 - s) ≠ 0 by omega)
  have hm' := Int.emod_lt_of_pos lo p1
  have he := Int.emod_add_mul_ediv lo (2 ^ (64 - s))
  rw [IntKind.wrap_u64]
  generalize (2 : Int) ^ (64 - s) = a at *
  generalize (2 : Int) ^ s = c at *
  generalize lo / a = q at *
  generalize lo % a = r at *
  have e1 : lo * c = q * 18446744073709551616 + r * c := by
    rw [← he, ← hp, Int.add_mul, Int.mul_comm a q, Int.mul_assoc, Int.add_comm]
  have e2 : 0 ≤ r * c := Int.mul_nonneg hm (by omega)
  have e3 : r * c < 18446744073709551616 := by rw [← hp]; exact Int.mul_lt_mul_of_pos_right hm' p2
  have e4 : 0 ≤ q := by
    rcases Int.lt_or_le q 0 with h | h
    · have := Int.mul_le_mul_of_nonneg_left (show q ≤ -1 by omega) (show 0 ≤ a by omega); omega
    · exact h
  refine ⟨by omega, e4, ?_⟩
  rcases Int.lt_or_le q c with h | h
  · exact h
  · have := Int.mul_le_mul_of_nonneg_left h (show 0 ≤ a by omega); omega
theorem or_split (hi y x : Int) (s : Nat) (h0 : 0 ≤ hi) (h : hi < y) (hy : y * 2 ^ s < 18446744073709551616) (x0 : 0 ≤ x) (x1 : x < 2 ^ s) (hx : x < 18446744073709551616) :
    bits .or .u64 (IntKind.u64.wrap (hi * 2 ^ s)) x = hi * 2 ^ s + x := by
  have p2 : (0 : Int) < 2 ^ s := Int.pow_pos (by omega)
  have h1 := hi_lt hi y s h
  have h2 : 0 ≤ hi * 2 ^ s := Int.mul_nonneg h0 (by omega)
  have hw : IntKind.u64.wrap (hi * 2 ^ s) = hi * 2 ^ s := by rw [IntKind.wrap_u64]; omega
  rw [hw, u64_or _ _ h2 (by omega) x0 hx]
  obtain ⟨n, rfl⟩ := Int.eq_ofNat_of_zero_le h0
  obtain ⟨m, rfl⟩ := Int.eq_ofNat_of_zero_le x0
  have e : (n : Int) * 2 ^ s = ((n * 2 ^ s : Nat) : Int) := by simp
  have e2 : ((2 : Int) ^ s) = ((2 ^ s : Nat) : Int) := by simp
  rw [e]
  simp only [Int.toNat_natCast]
  rw [nat_join s (n * 2 ^ s) m (Nat.mul_mod_left _ _) (by rw [e2] at x1; omega)]
  simp
theorem and_mask (x : Int) (h0 : 0 ≤ x) (h1 : x < 18446744073709551616) : bits .and .u64 x 4294967295 = x % 4294967296 := by
  rw [u64_and _ _ h0 h1 (by decide) (by decide)]
  obtain ⟨n, rfl⟩ := Int.eq_ofNat_of_zero_le h0
  have : ((4294967295 : Int).toNat) = 2 ^ 32 - 1 := by decide
  rw [this, Int.toNat_natCast, Nat.and_two_pow_sub_one_eq_mod]
  omega
/-- the whole: two digits make the quotient, what is left is the rest, shifted -/
theorem div_whole {V y Y A L b1 b0 Q1 Q0 U R : Int} {s : Nat} (hy : 0 < y) (hY : Y = y * 2 ^ s) (hV : V * 2 ^ s = A * 18446744073709551616 + L) (hL : L = b1 * 4294967296 + b0)
    (hU : U = A * 4294967296 + b1 - Q1 * Y) (hR : R = U * 4294967296 + b0 - Q0 * Y) (h0 : 0 ≤ R) (h1 : R < Y) : V / y = Q1 * 4294967296 + Q0 ∧ V % y = R / 2 ^ s := by
  have p2 : (0 : Int) < 2 ^ s := Int.pow_pos (by omega)
  have e1 : R = (V - (Q1 * 4294967296 + Q0) * y) * 2 ^ s := by
    rw [Int.sub_mul, hV, Int.mul_assoc, ← hY, Int.add_mul, hR, hU, hL]
    rw [show Q1 * 4294967296 * Y = Q1 * Y * 4294967296 by rw [Int.mul_assoc, Int.mul_comm 4294967296, ← Int.mul_assoc]]
    omega
  generalize hq : Q1 * 4294967296 + Q0 = q at *
  generalize hT : V - q * y = T at *
  have t0 : 0 ≤ T := by
    rcases Int.lt_or_le T 0 with h | h
    · have := Int.mul_le_mul_of_nonneg_right (show T ≤ -1 by omega) (show (0 : Int) ≤ 2 ^ s by omega)
      have := Int.mul_neg_of_neg_of_pos h p2
      omega
    · exact h
  have t1 : T < y := by
    rcases Int.lt_or_le T y with h | h
    · exact h
    · have := Int.mul_le_mul_of_nonneg_right h (show (0 : Int) ≤ 2 ^ s by omega); omega
  have hVe : V = T + y * q := by rw [Int.mul_comm y q]; omega
  constructor
  · rw [hVe, Int.add_mul_ediv_left _ _ (by omega), Int.ediv_eq_zero_of_lt t0 t1, Int.zero_add]
  · rw [hVe, Int.add_mul_emod_self_left, Int.emod_eq_of_lt t0 t1, e1, Int.mul_ediv_cancel _ (by omega)]
end Go.Proofs.YtapnmopcmlcfbaaDoor
