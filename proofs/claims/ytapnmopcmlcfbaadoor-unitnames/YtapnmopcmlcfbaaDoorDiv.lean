import Derived.Test.YtapnmopcmlcfbaaDoorSmall
import Derived.Test.YtapnmopcmlcfbaaDoorDivMath
namespace Go.Proofs.YtapnmopcmlcfbaaDoor
open Go.RowKit
theorem ret_two {a b c d : Int} (h : a = b) (k : c = d) : Ending.returned (.tuple #[.int .u64 a, .int .u64 c]) = .returned (.tuple #[.int .u64 b, .int .u64 d]) := by rw [h, k]
theorem dg_prod {q y0 : Int} (h0 : 0 ≤ q) (h1 : q < 4294967296) (hy : 0 ≤ y0) (hy1 : y0 < 4294967296) : 0 ≤ q * y0 ∧ q * y0 < 18446744073709551616 := by
  have := Int.mul_le_mul (show q ≤ 4294967295 by omega) (show y0 ≤ 4294967295 by omega) hy (by omega)
  have := Int.mul_nonneg h0 hy
  omega
/-- what a round of the guess's correction comes to -/
theorem dg_ways {A b y1 y0 Q q r : Int} (A0 : 0 ≤ A) (AY : A < y1 * 4294967296 + y0) (Qe : Q = (A * 4294967296 + b) / (y1 * 4294967296 + y0)) (ba : 0 ≤ b) (bb : b < 4294967296) (y1a : 2147483648 ≤ y1) (y0a : 0 ≤ y0) (y0b : y0 < 4294967296) (hd : Dg A b y1 y0 Q q r) :
    (4294967296 ≤ q ∧ Q ≤ q - 1 ∧ r + y1 < 4294967296 ∧ Dg A b y1 y0 Q (q - 1) (r + y1)) ∨
    (∃ p, q * y0 = p ∧ q < 4294967296 ∧ 0 ≤ p ∧ p < 18446744073709551616 ∧ 4294967296 * r + b < p ∧ Q ≤ q - 1 ∧ r + y1 < 4294967296 ∧ Dg A b y1 y0 Q (q - 1) (r + y1)) ∨
    (4294967296 ≤ q ∧ 4294967296 ≤ r + y1 ∧ q - 1 = Q) ∨
    (∃ p, q * y0 = p ∧ q < 4294967296 ∧ 0 ≤ p ∧ p < 18446744073709551616 ∧ 4294967296 * r + b < p ∧ 4294967296 ≤ r + y1 ∧ q - 1 = Q) ∨
    (∃ p, Q * y0 = p ∧ q < 4294967296 ∧ 0 ≤ p ∧ p < 18446744073709551616 ∧ p ≤ 4294967296 * r + b ∧ Q = q) := by
  have hY : 0 < y1 * 4294967296 + y0 := by omega
  have hb := dg_bound A0 AY ba bb
  rw [← Qe] at hb
  have hup := hd.up
  by_cases hc : 4294967296 ≤ q
  · have h1 := dg_over A0 AY Qe ba bb hd (Or.inl hc)
    by_cases hr : r + y1 < 4294967296
    · exact Or.inl ⟨hc, h1, hr, dg_next y1a hd h1 hr⟩
    · exact Or.inr (Or.inr (Or.inl ⟨hc, by omega, dg_break hY Qe ba y0a y0b hd h1 (by omega)⟩))
  · have hp := dg_prod (q := q) (y0 := y0) (by omega) (by omega) y0a y0b
    by_cases hc2 : 4294967296 * r + b < q * y0
    · have h1 := dg_over A0 AY Qe ba bb hd (Or.inr hc2)
      by_cases hr : r + y1 < 4294967296
      · exact Or.inr (Or.inl ⟨_, rfl, by omega, hp.1, hp.2, hc2, h1, hr, dg_next y1a hd h1 hr⟩)
      · exact Or.inr (Or.inr (Or.inr (Or.inl ⟨_, rfl, by omega, hp.1, hp.2, hc2, by omega, dg_break hY Qe ba y0a y0b hd h1 (by omega)⟩)))
    · have h2 := dg_done hY Qe hd (by omega)
      refine Or.inr (Or.inr (Or.inr (Or.inr ⟨_, rfl, by omega, ?_, ?_, ?_, h2.symm⟩))) <;> rw [← h2]
      · exact hp.1
      · exact hp.2
      · omega
set_option maxHeartbeats 400000 in
theorem div_zero (lo y : Int) (h0 : 0 ≤ lo) (h1 : lo < 18446744073709551616) (hy : 0 < y) (w : World) :
    Calls Tryd.prog 29 #[.int .u64 0, .int .u64 lo, .int .u64 y] w fun e w' => e = .returned (.tuple #[.int .u64 (lo / y), .int .u64 (lo % y)]) ∧ ∃ n, w' = w.drewN n := by
  go_enter Tryd.func29, Tryd.ntmps29
  go_wp2
  go_quiet (fail)
  go_wp2
  go_ret2
  exact ⟨rfl, _, rfl⟩
set_option maxHeartbeats 1000000 in
theorem div_core (hi lo y Y A L y1 y0 b1 b0 r00 Q U u00 R : Int) (s : Nat) (hs : s ≤ 63) (_h0 : 0 ≤ lo) (_h1 : lo < 18446744073709551616) (_hh : 0 < hi) (hh2 : hi < y) (_hy1 : y < 18446744073709551616) (w : World)
   (rY : IntKind.u64.wrap (y * 2 ^ s) = Y) (rA : bits .or .u64 (IntKind.u64.wrap (hi * 2 ^ s)) (lo / 2 ^ (64 - s)) = A) (rL : IntKind.u64.wrap (lo * 2 ^ s) = L) (r1 : Y / 4294967296 = y1) (r0 : bits .and .u64 Y 4294967295 = y0) (l1 : L / 4294967296 = b1) (l0 : bits .and .u64 L 4294967295 = b0)
   (y1a : 2147483648 ≤ y1) (y1b : y1 < 4294967296) (y0a : 0 ≤ y0) (y0b : y0 < 4294967296) (b1a : 0 ≤ b1) (b1b : b1 < 4294967296) (b0a : 0 ≤ b0) (b0b : b0 < 4294967296) (A0 : 0 ≤ A) (A1 : A < 18446744073709551616)
   (rr : IntKind.u64.wrap (A - IntKind.u64.wrap (A / y1 * y1)) = r00) (hdg : Dg A b1 y1 y0 Q (A / y1) r00)
   (Q0 : 0 ≤ Q) (Q1 : Q < 4294967296) (Qe : Q = (A * 4294967296 + b1) / (y1 * 4294967296 + y0)) (AY : A < y1 * 4294967296 + y0)
   (rU : IntKind.u64.wrap (IntKind.u64.wrap (IntKind.u64.wrap (A * 4294967296) + b1) - IntKind.u64.wrap (Q * Y)) = U) (U0 : 0 ≤ U) (U1 : U < 18446744073709551616)
   (rr2 : IntKind.u64.wrap (U - IntKind.u64.wrap (U / y1 * y1)) = u00) (hdg2 : Dg U b0 y1 y0 R (U / y1) u00)
   (R0 : 0 ≤ R) (R1 : R < 4294967296) (Re : R = (U * 4294967296 + b0) / (y1 * 4294967296 + y0)) (UY : U < y1 * 4294967296 + y0)
   (f1 : (hi * 18446744073709551616 + lo) / y = Q * 4294967296 + R) (f2 : (hi * 18446744073709551616 + lo) % y = IntKind.u64.wrap (IntKind.u64.wrap (IntKind.u64.wrap (U * 4294967296) + b0) - IntKind.u64.wrap (R * Y)) / 2 ^ s)
   (hlz : ∀ W : World, Calls Tryd.prog 32 #[Value.int IntKind.u64 y] W fun e w' => e = Ending.returned (Value.int IntKind.i64 s) ∧ w' = W) :
    Calls Tryd.prog 29 #[.int .u64 hi, .int .u64 lo, .int .u64 y] w fun e w' => e = .returned (.tuple #[.int .u64 ((hi * 18446744073709551616 + lo) / y), .int .u64 ((hi * 18446744073709551616 + lo) % y)]) ∧ ∃ n, w' = w.drewN n := by
  have H : Hid (∀ W : World, Calls Tryd.prog 32 #[Value.int IntKind.u64 y] W fun e w' => e = Ending.returned (Value.int IntKind.i64 s) ∧ w' = W) := hlz
  have HQ : Hid (Q = (A * 4294967296 + b1) / (y1 * 4294967296 + y0)) := Qe
  have HR : Hid (R = (U * 4294967296 + b0) / (y1 * 4294967296 + y0)) := Re
  rw [f1, f2]
  clear hlz Qe Re f1 f2
  go_enter Tryd.func29, Tryd.ntmps29
  go_wp2_with fail
  refine (H.out _).mono ?_
  rintro e w' ⟨rfl, rfl⟩
  go_wp2_with fail
  clear rY rA rL r1 r0 l1 l0 rr
  go_loop [15, 16] (fun vq vr => ∃ q r : Int, vq = .int .u64 q ∧ vr = .int .u64 r ∧ Dg A b1 y1 y0 Q q r) (fun vq _ => (intOf vq - Q).toNat)
  case atStart => exact ⟨_, r00, rfl, rfl, hdg⟩
  case round =>
    obtain ⟨q, r, rfl, rfl, hd⟩ := hrel
    clear hdg
    have d1 := hd.up; have d2 := hd.q0; have d3 := hd.r0; have d4 := hd.r1
    rcases dg_ways A0 AY HQ.out b1a b1b y1a y0a y0b hd with ⟨c1, c2, c3, hn⟩ | ⟨p, hp, c1, p1, p2, c4, c2, c3, hn⟩ | ⟨c1, c3, c2⟩ | ⟨p, hp, c1, p1, p2, c4, c3, c2⟩ | ⟨p, hp, c1, p1, p2, c4, c2⟩
    · go_wp2
      go_round
      case rel => exact ⟨q - 1, r + y1, rfl, rfl, hn⟩
      case measure => simp only [intOf]; omega
    · go_wp2
      go_round
      case rel => exact ⟨q - 1, r + y1, rfl, rfl, hn⟩
      case measure => simp only [intOf]; omega
    rotate_right
    · subst c2
      all_goals
        go_wp2
        clear rU rr2
        go_loop [18, 16] (fun vq vr => ∃ q r : Int, vq = .int .u64 q ∧ vr = .int .u64 r ∧ Dg U b0 y1 y0 R q r) (fun vq _ => (intOf vq - R).toNat)
        case atStart => exact ⟨_, u00, rfl, rfl, hdg2⟩
        case round =>
          obtain ⟨q2, r2, rfl, rfl, he⟩ := hrel
          clear hdg2
          have e1 := he.up; have e2 := he.q0; have e3 := he.r0; have e4 := he.r1
          rcases dg_ways U0 UY HR.out b0a b0b y1a y0a y0b he with ⟨g1, g2, g3, hn⟩ | ⟨t, ht, g1, t1, t2, g4, g2, g3, hn⟩ | ⟨g1, g3, g2⟩ | ⟨t, ht, g1, t1, t2, g4, g3, g2⟩ | ⟨t, ht, g1, t1, t2, g4, g2⟩
          · go_wp2
            go_round
            case rel => exact ⟨q2 - 1, r2 + y1, rfl, rfl, hn⟩
            case measure => simp only [intOf]; omega
          · go_wp2
            go_round
            case rel => exact ⟨q2 - 1, r2 + y1, rfl, rfl, hn⟩
            case measure => simp only [intOf]; omega
          · go_wp2
            go_ret2
            exact ⟨rfl, 0, rfl⟩
          · go_wp2
            go_ret2
            exact ⟨rfl, 0, rfl⟩
          · subst g2
            go_wp2
            go_ret2
            exact ⟨rfl, 0, rfl⟩
    all_goals
      all_goals
        go_wp2
        clear rU rr2
        go_loop [18, 16] (fun vq vr => ∃ q r : Int, vq = .int .u64 q ∧ vr = .int .u64 r ∧ Dg U b0 y1 y0 R q r) (fun vq _ => (intOf vq - R).toNat)
        case atStart => exact ⟨_, u00, rfl, rfl, hdg2⟩
        case round =>
          obtain ⟨q2, r2, rfl, rfl, he⟩ := hrel
          clear hdg2
          have e1 := he.up; have e2 := he.q0; have e3 := he.r0; have e4 := he.r1
          rcases dg_ways U0 UY HR.out b0a b0b y1a y0a y0b he with ⟨g1, g2, g3, hn⟩ | ⟨t, ht, g1, t1, t2, g4, g2, g3, hn⟩ | ⟨g1, g3, g2⟩ | ⟨t, ht, g1, t1, t2, g4, g3, g2⟩ | ⟨t, ht, g1, t1, t2, g4, g2⟩
          · go_wp2
            go_round
            case rel => exact ⟨q2 - 1, r2 + y1, rfl, rfl, hn⟩
            case measure => simp only [intOf]; omega
          · go_wp2
            go_round
            case rel => exact ⟨q2 - 1, r2 + y1, rfl, rfl, hn⟩
            case measure => simp only [intOf]; omega
          · go_wp2
            go_ret2
            exact ⟨rfl, 0, rfl⟩
          · go_wp2
            go_ret2
            exact ⟨rfl, 0, rfl⟩
          · subst g2
            go_wp2
            go_ret2
            exact ⟨rfl, 0, rfl⟩

end Go.Proofs.YtapnmopcmlcfbaaDoor
