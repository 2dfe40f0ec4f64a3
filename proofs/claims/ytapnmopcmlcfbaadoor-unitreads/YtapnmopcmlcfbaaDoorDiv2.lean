import Derived.Test.YtapnmopcmlcfbaaDoorDiv
namespace Go.Proofs.YtapnmopcmlcfbaaDoor
open Go.RowKit
/-- bits.Div64: wherever it does not panic -/
theorem div64 (hi lo y : Int) (h0 : 0 ≤ lo) (h1 : lo < 18446744073709551616) (hh : 0 ≤ hi) (hh2 : hi < y) (hy1 : y < 18446744073709551616) (w : World) :
    Calls Tryd.prog 29 #[.int .u64 hi, .int .u64 lo, .int .u64 y] w fun e w' => e = .returned (.tuple #[.int .u64 ((hi * 18446744073709551616 + lo) / y), .int .u64 ((hi * 18446744073709551616 + lo) % y)]) ∧ ∃ n, w' = w.drewN n := by
  rcases Int.lt_or_eq_of_le hh with hp | hp
  · obtain ⟨s, hs, he, ha, hb⟩ := lz_of y (by omega) hy1
    have hlz : ∀ W : World, Calls Tryd.prog 32 #[Value.int IntKind.u64 y] W fun e w' => e = Ending.returned (Value.int IntKind.i64 s) ∧ w' = W := by
      intro W
      have := Tryd.bits_LeadingZeros64 y W (by omega) (by omega)
      rwa [he] at this
    have rY : IntKind.u64.wrap (y * 2 ^ s) = y * 2 ^ s := by rw [IntKind.wrap_u64]; omega
    obtain ⟨l1, l2, l3⟩ := lo_split lo s hs h0 h1
    have p2 : (2 : Int) ^ s ≤ 9223372036854775808 := by
      have := Nat.pow_le_pow_right (show 0 < 2 by decide) hs
      have e2 : ((2 : Int) ^ s) = ((2 ^ s : Nat) : Int) := by simp
      rw [e2]; omega
    have rA := or_split hi y (lo / 2 ^ (64 - s)) s hh hh2 hb l2 l3 (by omega)
    have hA0 : 0 ≤ hi * 2 ^ s := Int.mul_nonneg hh (by omega)
    have hA1 : hi * 2 ^ s + 2 ^ s ≤ y * 2 ^ s := by
      have := Int.mul_le_mul_of_nonneg_right (show hi + 1 ≤ y by omega) (show (0 : Int) ≤ 2 ^ s by omega)
      rwa [Int.add_mul, Int.one_mul] at this
    have hL0 : 0 ≤ IntKind.u64.wrap (lo * 2 ^ s) ∧ IntKind.u64.wrap (lo * 2 ^ s) < 18446744073709551616 := by rw [IntKind.wrap_u64]; omega
    generalize hL : IntKind.u64.wrap (lo * 2 ^ s) = L at *
    have hV : (hi * 18446744073709551616 + lo) * 2 ^ s = (hi * 2 ^ s + lo / 2 ^ (64 - s)) * 18446744073709551616 + L := by
      rw [Int.add_mul, l1, Int.add_mul, Int.mul_right_comm]; omega
    generalize hAe : hi * 2 ^ s + lo / 2 ^ (64 - s) = A at *
    generalize hYe : y * 2 ^ s = Y at *
    have y0e := and_mask Y (by omega) (by omega)
    have b0e := and_mask L hL0.1 hL0.2
    obtain ⟨y1, hy1e⟩ : ∃ y1, Y / 4294967296 = y1 := ⟨_, rfl⟩
    obtain ⟨y0, hy0e⟩ : ∃ y0, Y % 4294967296 = y0 := ⟨_, rfl⟩
    obtain ⟨b1, hb1e⟩ : ∃ b1, L / 4294967296 = b1 := ⟨_, rfl⟩
    obtain ⟨b0, hb0e⟩ : ∃ b0, L % 4294967296 = b0 := ⟨_, rfl⟩
    have hYs : Y = y1 * 4294967296 + y0 := by omega
    have hLs : L = b1 * 4294967296 + b0 := by omega
    have A0 : 0 ≤ A := by omega
    have AY : A < Y := by omega
    have q1 := dg_bound A0 AY (b := b1) (by omega) (by omega)
    have q2 := dg_left A0 AY (b := b1) rfl
    have hd1 := dg_start A0 (show A < y1 * 4294967296 + y0 by omega) (b := b1) (by omega) (by omega) (by omega) (by omega) (by omega) (by omega)
    rw [← hYs] at hd1
    obtain ⟨Q, hQ⟩ : ∃ Q, Q = (A * 4294967296 + b1) / Y := ⟨_, rfl⟩
    rw [← hQ] at q1 q2 hd1
    obtain ⟨U, hU⟩ : ∃ U, U = A * 4294967296 + b1 - Q * Y := ⟨_, rfl⟩
    rw [← hU] at q2
    have q3 := dg_bound q2.1 q2.2 (b := b0) (by omega) (by omega)
    have q4 := dg_left q2.1 q2.2 (b := b0) rfl
    have hd2 := dg_start q2.1 (show U < y1 * 4294967296 + y0 by omega) (b := b0) (by omega) (by omega) (by omega) (by omega) (by omega) (by omega)
    rw [← hYs] at hd2
    obtain ⟨R, hR⟩ : ∃ R, R = (U * 4294967296 + b0) / Y := ⟨_, rfl⟩
    rw [← hR] at q3 q4 hd2
    obtain ⟨Z, hZ⟩ : ∃ Z, Z = U * 4294967296 + b0 - R * Y := ⟨_, rfl⟩
    rw [← hZ] at q4
    have hf := div_whole (V := hi * 18446744073709551616 + lo) (s := s) (by omega) hYe.symm hV hLs hU hZ q4.1 q4.2
    have wU : IntKind.u64.wrap (IntKind.u64.wrap (IntKind.u64.wrap (A * 4294967296) + b1) - IntKind.u64.wrap (Q * Y)) = U := by
      simp only [IntKind.wrap_u64]; omega
    have wZ : IntKind.u64.wrap (IntKind.u64.wrap (IntKind.u64.wrap (U * 4294967296) + b0) - IntKind.u64.wrap (R * Y)) = Z := by
      simp only [IntKind.wrap_u64]; omega
    have w1 : IntKind.u64.wrap (A - IntKind.u64.wrap (A / y1 * y1)) = A - A / y1 * y1 := by
      have := hd1.r0; have := hd1.r1
      simp only [IntKind.wrap_u64]; omega
    have w2 : IntKind.u64.wrap (U - IntKind.u64.wrap (U / y1 * y1)) = U - U / y1 * y1 := by
      have := hd2.r0; have := hd2.r1
      simp only [IntKind.wrap_u64]; omega
    exact div_core hi lo y Y A L y1 y0 b1 b0 _ Q U _ R s hs h0 h1 hp hh2 hy1 w (by rw [hYe]; exact rY) rA hL hy1e (by rw [y0e]; exact hy0e) hb1e (by rw [b0e]; exact hb0e) (by omega) (by omega) (by omega) (by omega) (by omega) (by omega) (by omega) (by omega) A0 (by omega)
      w1 hd1 q1.1 q1.2 (by rw [← hYs]; exact hQ) (by omega) wU q2.1 (by omega) w2 hd2 q3.1 q3.2 (by rw [← hYs]; exact hR) (by omega) hf.1 (by rw [wZ]; exact hf.2) hlz
  · subst hp
    have := div_zero lo y h0 h1 (by omega) w
    simpa using this
end Go.Proofs.YtapnmopcmlcfbaaDoor
