/- The sum, the sizes of parts, which numbers are runes. -/
import Derived.Test.YtdinlaoimpoolaaSpec
namespace Go.Proofs.Ytdinlaoimpoolaa
open Go.RowKit

theorem wrap_u32 (n : Int) : IntKind.u32.wrap n = n % 4294967296 := by simp [IntKind.wrap, IntKind.bits, IntKind.signed]
theorem xor_u32 (a b : Nat) (ha : a < 4294967296) (hb : b < 4294967296) : bits .xor .u32 (a : Int) (b : Int) = ((a ^^^ b : Nat) : Int) := by
  have hx : a ^^^ b < 2 ^ 32 := Nat.xor_lt_two_pow (by omega) (by omega)
  have h1 : (BitVec.ofInt 32 (a : Int)).toNat = a := by
    rw [BitVec.ofInt_natCast, BitVec.toNat_ofNat]; exact Nat.mod_eq_of_lt (by omega)
  have h2 : (BitVec.ofInt 32 (b : Int)).toNat = b := by
    rw [BitVec.ofInt_natCast, BitVec.toNat_ofNat]; exact Nat.mod_eq_of_lt (by omega)
  show IntKind.u32.wrap ((BitVec.ofInt 32 (a : Int) ^^^ BitVec.ofInt 32 (b : Int)).toNat : Int) = _
  rw [BitVec.toNat_xor, h1, h2, wrap_u32]
  omega
theorem wit_lt (s c : Nat) : wit s c < 4294967296 := Nat.mod_lt _ (by decide)
theorem or_i64 (a c : Nat) (ha : a < 16777216) (hc : c < 256) : bits .or .i64 ((a : Int) * 256) (c : Int) = ((a * 256 + c : Nat) : Int) := by
  have h1 : (BitVec.ofInt 64 ((a : Int) * 256)).toNat = a * 256 := by
    rw [show (a : Int) * 256 = ((a * 256 : Nat) : Int) by omega, BitVec.ofInt_natCast, BitVec.toNat_ofNat]; exact Nat.mod_eq_of_lt (by omega)
  have h2 : (BitVec.ofInt 64 (c : Int)).toNat = c := by
    rw [BitVec.ofInt_natCast, BitVec.toNat_ofNat]; exact Nat.mod_eq_of_lt (by omega)
  have h3 : a * 256 ||| c = a * 256 + c := by
    have := (Nat.two_pow_add_eq_or_of_lt (i := 8) (b := c) (by omega) a).symm
    rw [show 2 ^ 8 * a = a * 256 by omega] at this
    exact this
  show IntKind.i64.wrap ((BitVec.ofInt 64 ((a : Int) * 256) ||| BitVec.ofInt 64 (c : Int)).toNat : Int) = _
  rw [BitVec.toNat_or, h1, h2, h3]
  simp only [IntKind.wrap, IntKind.bits, IntKind.signed]
  simp
  omega

set_option maxHeartbeats 400000 in
theorem with_any (s c : Nat) (hs : s < 4294967296) (hc : c < 256) (w : World) : Calls Try.prog 55 #[.int .u32 s, .int .u8 c] w fun e w' => e = .returned (.int .u32 (wit s c)) ∧ w' = w := by
  have HE : Hid (((wit s c : Nat) : Int) = bits .xor .u32 (s : Int) (c : Int) * 16777619 % 4294967296) := by
    show _ = _
    rw [xor_u32 s c hs (by omega)]
    unfold wit
    omega
  rw [HE.out]
  clear HE
  go_enter Try.func55, Try.ntmps55
  go_wp2
  go_ret
  exact ⟨rfl, rfl⟩

set_option maxHeartbeats 1000000 in
theorem size_any (k : Nat) (hk : k ≤ 16) (w : World) : Calls Try.prog 56 #[.int .i64 k] w fun e w' => e = .returned (.int .i64 (sz k)) ∧ w' = w := by
  have all : ∀ (n : Nat), n ≤ 16 → (Calls Try.prog 56 #[.int .i64 n] w fun e w' => e = .returned (.int .i64 (sz n)) ∧ w' = w) := by
    intro n hn
    have hc : n = 0 ∨ n = 1 ∨ n = 2 ∨ n = 3 ∨ n = 4 ∨ n = 5 ∨ n = 6 ∨ n = 7 ∨ n = 8 ∨ n = 9 ∨ n = 10 ∨ n = 11 ∨ n = 12 ∨ n = 13 ∨ n = 14 ∨ n = 15 ∨ n = 16 := by omega
    rcases hc with rfl | rfl | rfl | rfl | rfl | rfl | rfl | rfl | rfl | rfl | rfl | rfl | rfl | rfl | rfl | rfl | rfl
    all_goals
      go_enter Try.func56, Try.ntmps56
      go_wp2
      go_ret
      exact ⟨rfl, rfl⟩
  exact all k hk

theorem width_yes (n : Nat) (h : n < 55296 ∨ (57343 < n ∧ n ≤ 1114111)) : widthI (n : Int) ≠ 0 := by
  unfold widthI
  repeat' split
  all_goals omega
theorem width_no (n : Nat) (h : ¬ (n < 55296 ∨ (57343 < n ∧ n ≤ 1114111))) : ¬ widthI (n : Int) ≠ 0 := by
  unfold widthI
  rw [if_pos (by omega)]
  exact fun h => h rfl
theorem rune_ways (n : Nat) : (n < 55296) ∨ (¬ n < 55296 ∧ n ≤ 57343) ∨ (¬ n < 55296 ∧ 57343 < n ∧ n ≤ 1114111) ∨ (¬ n < 55296 ∧ 57343 < n ∧ 1114111 < n) := by omega
set_option maxHeartbeats 1000000 in
theorem valid_any (n : Nat) (hn : n < 16777216) (w : World) : Calls Try.prog 78 #[.int .i32 n] w fun e w' => e = .returned (.bool (decide (widthI n ≠ 0))) ∧ w' = w := by
  rcases rune_ways n with h | ⟨h, h1⟩ | ⟨h, h1, h2⟩ | ⟨h, h1, h2⟩
  · rw [show decide (widthI (n : Int) ≠ 0) = true from decide_eq_true (width_yes n (by omega))]
    have h' : (n : Int) < 55296 := by omega
    clear h
    go_enter Try.func78, Try.ntmps78
    go_wp2
    go_ret
    exact ⟨rfl, rfl⟩
  · rw [show decide (widthI (n : Int) ≠ 0) = false from decide_eq_false (width_no n (by omega))]
    have h' : ¬ (n : Int) < 55296 := by omega
    have h'' : ¬ 57343 < (n : Int) := by omega
    clear h h1
    go_enter Try.func78, Try.ntmps78
    go_wp2
    go_ret
    exact ⟨rfl, rfl⟩
  · rw [show decide (widthI (n : Int) ≠ 0) = true from decide_eq_true (width_yes n (by omega))]
    have h' : ¬ (n : Int) < 55296 := by omega
    have h'' : 57343 < (n : Int) := by omega
    have h3 : (n : Int) ≤ 1114111 := by omega
    clear h h1 h2
    go_enter Try.func78, Try.ntmps78
    go_wp2
    go_ret
    exact ⟨rfl, rfl⟩
  · rw [show decide (widthI (n : Int) ≠ 0) = false from decide_eq_false (width_no n (by omega))]
    have h' : ¬ (n : Int) < 55296 := by omega
    have h'' : 57343 < (n : Int) := by omega
    have h3 : ¬ (n : Int) ≤ 1114111 := by omega
    clear h h1 h2
    go_enter Try.func78, Try.ntmps78
    go_wp2
    go_ret
    exact ⟨rfl, rfl⟩
end Go.Proofs.Ytdinlaoimpoolaa
