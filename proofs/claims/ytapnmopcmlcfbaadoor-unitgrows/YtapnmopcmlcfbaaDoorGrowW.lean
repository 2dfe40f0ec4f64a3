/- UnitGrows' walk. -/
import Derived.Test.YtapnmopcmlcfbaaDoorGrow
namespace Go.Proofs.YtapnmopcmlcfbaaDoor
open Go.RowKit

set_option maxRecDepth 100000 in
set_option maxHeartbeats 8000000 in
theorem grows_walk (a b fa fb which size noughts : Int) (ha : -9223372036854775808 ≤ a ∧ a ≤ 9223372036854775807) (hb : -9223372036854775808 ≤ b ∧ b ≤ 9223372036854775807) (hfa : -9223372036854775808 ≤ fa ∧ fa ≤ 9223372036854775807)
    (hfb : -9223372036854775808 ≤ fb ∧ fb ≤ 9223372036854775807) (hwh : -9223372036854775808 ≤ which ∧ which ≤ 9223372036854775807) (hz : -9223372036854775808 ≤ size ∧ size ≤ 9223372036854775807) (hno : -9223372036854775808 ≤ noughts ∧ noughts ≤ 9223372036854775807) (w : World) (hU : Ut w) :
    Calls Tryd.prog 5 #[.int .i64 a, .int .i64 b, .int .i64 fa, .int .i64 fb, .int .i64 which, .int .i64 size, .int .i64 noughts] w fun e w' => e = .returned (.bool true) ∧ Below w.heap.size w w' := by
  have HU := hid hU
  have HAM := hid (fun (i n : Int) (h : (0 < n ∧ n ≤ 140737488355328) ∧ -9223372036854775808 ≤ i ∧ i ≤ 9223372036854775807) W => among_any i n W h.1.1 h.1.2 h.2.1 h.2.2)
  have HB := hid (And.intro ha (And.intro hb (And.intro hfa (And.intro hfb (And.intro hwh (And.intro hz hno))))))
  clear hU ha hb hfa hfb hwh hz hno
  go_enter Tryd.func5, Tryd.ntmps5
  go_wp2_with fail
  refine (shown_any _ HU.out).mono ?_
  rintro e w1 ⟨rfl, ho1⟩
  have HU1 := hid (HU.out.only ho1 (by simp))
  have HO1 := hid ho1
  clear ho1
  obtain ⟨i, hi, hi6⟩ : ∃ i : Nat, which % 6 = (i : Int) ∧ i < 6 := ⟨(which % 6).toNat, by omega, by omega⟩
  have HW := hid (fun W => (by have := among_any which 6 W (by decide) (by decide) HB.out.2.2.2.2.1.1 HB.out.2.2.2.2.1.2; rwa [hi] at this : Calls Tryd.prog 14 #[.int .i64 which, .int .i64 6] W fun e w' => e = .returned (.int .i64 (i : Int)) ∧ w' = W))
  clear hi
  go_upto_region 3 with fail
  go_cut [15] from 27 to 31 (fun s wx => s = .string (uU i) ∧ Only [] w1 wx)
  case first =>
    obtain rfl | rfl | rfl | rfl | rfl | rfl : i = 0 ∨ i = 1 ∨ i = 2 ∨ i = 3 ∨ i = 4 ∨ i = 5 := by omega
    all_goals
      go_wp2_with fail
      refine (HW.out _).mono ?_
      rintro e w2 ⟨rfl, rfl⟩
      go_wp2_with fail
      go_meet
      case rel => exact ⟨rfl, (Only.refl _ _).alloc _⟩
  case rest =>
    obtain ⟨rfl, ho2⟩ := hcut
    have HO2 := hid (HO1.out.trans ho2)
    have HU2 := hid (HU1.out.only ho2 (by simp))
    clear ho2
    obtain ⟨A, hA, hAL⟩ : ∃ A : Nat, a % 35184372088832 = (A : Int) ∧ A < 35184372088832 := ⟨(a % 35184372088832).toNat, by omega, by omega⟩
    have HA := hid (fun W => (by have := among_any a 35184372088832 W (by decide) (by decide) HB.out.1.1 HB.out.1.2; rwa [hA] at this : Calls Tryd.prog 14 #[.int .i64 a, .int .i64 35184372088832] W fun e w' => e = .returned (.int .i64 (A : Int)) ∧ w' = W))
    clear hA
    obtain ⟨B, hB, hBL⟩ : ∃ B : Nat, b % 35184372088832 = (B : Int) ∧ B < 35184372088832 := ⟨(b % 35184372088832).toNat, by omega, by omega⟩
    have HB1 := hid (fun W => (by have := among_any b 35184372088832 W (by decide) (by decide) HB.out.2.1.1 HB.out.2.1.2; rwa [hB] at this : Calls Tryd.prog 14 #[.int .i64 b, .int .i64 35184372088832] W fun e w' => e = .returned (.int .i64 (B : Int)) ∧ w' = W))
    clear hB
    obtain ⟨FA, hFA, hFAL⟩ : ∃ FA : Nat, fa % 10000 = (FA : Int) ∧ FA < 10000 := ⟨(fa % 10000).toNat, by omega, by omega⟩
    have HFA := hid (fun W => (by have := among_any fa 10000 W (by decide) (by decide) HB.out.2.2.1.1 HB.out.2.2.1.2; rwa [hFA] at this : Calls Tryd.prog 14 #[.int .i64 fa, .int .i64 10000] W fun e w' => e = .returned (.int .i64 (FA : Int)) ∧ w' = W))
    clear hFA
    obtain ⟨FB, hFB, hFBL⟩ : ∃ FB : Nat, fb % 10000 = (FB : Int) ∧ FB < 10000 := ⟨(fb % 10000).toNat, by omega, by omega⟩
    have HFB := hid (fun W => (by have := among_any fb 10000 W (by decide) (by decide) HB.out.2.2.2.1.1 HB.out.2.2.2.1.2; rwa [hFB] at this : Calls Tryd.prog 14 #[.int .i64 fb, .int .i64 10000] W fun e w' => e = .returned (.int .i64 (FB : Int)) ∧ w' = W))
    clear hFB
    obtain ⟨Z, hZ, hZL⟩ : ∃ Z : Nat, size % 70368744177665 = (Z : Int) ∧ Z < 70368744177665 := ⟨(size % 70368744177665).toNat, by omega, by omega⟩
    have HZ := hid (fun W => (by have := among_any size 70368744177665 W (by decide) (by decide) HB.out.2.2.2.2.2.1.1 HB.out.2.2.2.2.2.1.2; rwa [hZ] at this : Calls Tryd.prog 14 #[.int .i64 size, .int .i64 70368744177665] W fun e w' => e = .returned (.int .i64 (Z : Int)) ∧ w' = W))
    clear hZ
    obtain ⟨huh, hus, n, d, hun, hn, hd⟩ := uU_facts i Z (by omega)
    obtain ⟨U, hUe⟩ : ∃ U, uU i = U := ⟨_, rfl⟩
    rw [hUe] at huh hus hun
    have HUE := hid hUe
    rw [hUe]
    clear hUe
    have HUH := hid huh
    have HUN := hid hun
    have HND := hid (And.intro hn hd)
    clear huh hun hn hd
    go_wp2_with fail
    refine (HA.out _).mono ?_
    rintro e w2 ⟨rfl, rfl⟩
    go_wp2_with fail
    refine (HB1.out _).mono ?_
    rintro e w2 ⟨rfl, rfl⟩
    go_wp2_with fail
    refine (HFA.out _).mono ?_
    rintro e w2 ⟨rfl, rfl⟩
    go_wp2_with fail
    refine (HFB.out _).mono ?_
    rintro e w2 ⟨rfl, rfl⟩
    go_wp2_with fail
    refine (HZ.out _).mono ?_
    rintro e w2 ⟨rfl, rfl⟩
    go_wp2_with fail
    refine (digits_any A 1 _ (by omega) (by omega)).mono ?_
    rintro e v11 ⟨s1, rfl, hb1, ho3⟩
    have hs1 : s1.size ≤ 15 := by rw [← bl_length, hb1]; exact dgl_le 15 A 1 (by omega) (by omega)
    have g1 : ¬ 9223372036854775807 < s1.size + 1 := by omega
    go_wp2_with fail
    refine (digits_any FA 4 _ (by omega) (by omega)).mono ?_
    rintro e v12 ⟨s2, rfl, hb2, ho4⟩
    have hs2 : s2.size ≤ 15 := by rw [← bl_length, hb2]; exact dgl_le 15 FA 4 (by omega) (by omega)
    have g2 : ¬ 9223372036854775807 < s1.size + 1 + s2.size := by omega
    have g3 : ¬ 9223372036854775807 < s1.size + 1 + s2.size + U.size := by omega
    have HUv1 := hid ((HU2.out.only ho3 (by simp)).only ho4 (by simp))
    have HOv1 := hid ((HO2.out.trans ho3).trans ho4)
    have hR := fun W (h : Un W) => read_any (s1 ++ { data := #[46] } ++ s2 ++ U) (Z : Int) W (by rw [ByteArray.size_append, ByteArray.size_append, ByteArray.size_append]; show s1.size + 1 + s2.size + U.size ≤ _; omega) (by omega) (by omega) h
    rw [bl_append, bl_append, bl_append, hb1, hb2, show bl { data := #[46] } = [46] from rfl, rd_two (by omega) (by omega) (by omega) (by omega) HUH.out HUN.out] at hR
    skip
    skip
    obtain ⟨x1, hx1⟩ : ∃ x, (nearO (near ((A * 10000 + FA) * n) (d * 10000))).1 = x := ⟨_, rfl⟩
    obtain ⟨e1, he1⟩ : ∃ x, (nearO (near ((A * 10000 + FA) * n) (d * 10000))).2 = x := ⟨_, rfl⟩
    rw [hx1, he1] at hR
    have HR1 := hid hR
    have HN1 := hid (And.intro trivial (And.intro hx1 he1))
    clear hR hx1 he1 ho3 ho4 hb1 hb2
    go_wp2_with fail
    refine (HR1.out _ HUv1.out.un).mono ?_
    rintro e v13 ⟨rfl, ho5⟩
    have HUw1 := hid (HUv1.out.only ho5 (by simp))
    have HOw1 := hid (HOv1.out.trans ho5)
    clear ho5 hs1 hs2 g1 g2 g3 HR1 HUv1 HOv1
    go_wp2_with fail
    refine (digits_any B 1 _ (by omega) (by omega)).mono ?_
    rintro e v21 ⟨s1, rfl, hb1, ho3⟩
    have hs1 : s1.size ≤ 15 := by rw [← bl_length, hb1]; exact dgl_le 15 B 1 (by omega) (by omega)
    have g1 : ¬ 9223372036854775807 < s1.size + 1 := by omega
    go_wp2_with fail
    refine (digits_any FB 4 _ (by omega) (by omega)).mono ?_
    rintro e v22 ⟨s2, rfl, hb2, ho4⟩
    have hs2 : s2.size ≤ 15 := by rw [← bl_length, hb2]; exact dgl_le 15 FB 4 (by omega) (by omega)
    have g2 : ¬ 9223372036854775807 < s1.size + 1 + s2.size := by omega
    have g3 : ¬ 9223372036854775807 < s1.size + 1 + s2.size + U.size := by omega
    have HUv2 := hid ((HUw1.out.only ho3 (by simp)).only ho4 (by simp))
    have HOv2 := hid ((HOw1.out.trans ho3).trans ho4)
    have hR := fun W (h : Un W) => read_any (s1 ++ { data := #[46] } ++ s2 ++ U) (Z : Int) W (by rw [ByteArray.size_append, ByteArray.size_append, ByteArray.size_append]; show s1.size + 1 + s2.size + U.size ≤ _; omega) (by omega) (by omega) h
    rw [bl_append, bl_append, bl_append, hb1, hb2, show bl { data := #[46] } = [46] from rfl, rd_two (by omega) (by omega) (by omega) (by omega) HUH.out HUN.out] at hR
    skip
    skip
    obtain ⟨x2, hx2⟩ : ∃ x, (nearO (near ((B * 10000 + FB) * n) (d * 10000))).1 = x := ⟨_, rfl⟩
    obtain ⟨e2, he2⟩ : ∃ x, (nearO (near ((B * 10000 + FB) * n) (d * 10000))).2 = x := ⟨_, rfl⟩
    rw [hx2, he2] at hR
    have HR2 := hid hR
    have HN2 := hid (And.intro trivial (And.intro hx2 he2))
    clear hR hx2 he2 ho3 ho4 hb1 hb2
    go_wp2_with fail
    refine (HR2.out _ HUv2.out.un).mono ?_
    rintro e v23 ⟨rfl, ho5⟩
    have HUw2 := hid (HUv2.out.only ho5 (by simp))
    have HOw2 := hid (HOv2.out.trans ho5)
    clear ho5 hs1 hs2 g1 g2 g3 HR2 HUv2 HOv2
    go_upto_region 9 with fail
    have HE1 := hid (near_e HN1.out.2.1 HN1.out.2.2)
    have HE2 := hid (near_e HN2.out.2.1 HN2.out.2.2)
    go_cut [81] from 68 to 80 (fun s wx => s = .bool false ∧ wx = v23)
    case first =>
      rcases HE1.out.1 with h1 | h1 <;> rcases HE2.out.1 with h2 | h2 <;> subst h1 <;> subst h2
      all_goals
        go_wp2_with fail
        go_meet
        case rel => exact ⟨rfl, rfl⟩
    case rest =>
    obtain ⟨rfl, rfl⟩ := hcut
    go_upto_region 11 with fail
    go_cut [20] from 82 to 94 (fun s wx => ∃ lb : Bool, s = .bool lb ∧ (lb = true → A < B ∨ A = B ∧ FA ≤ FB) ∧ wx = wc)
    case first =>
      rcases Nat.lt_trichotomy A B with h | h | h
      · have hi : (A : Int) < (B : Int) := by omega
        have H := hid h
        clear h
        go_wp2_with fail
        go_meet
        case rel => exact ⟨true, rfl, (fun _ => .inl H.out), rfl⟩
      · subst h
        by_cases hf : FA ≤ FB
        · have hi : (FA : Int) ≤ (FB : Int) := by omega
          have H := hid hf
          clear hf
          go_wp2_with fail
          go_meet
          case rel => exact ⟨true, rfl, (fun _ => .inr ⟨by first | rfl | trivial, H.out⟩), rfl⟩
        · have hi : ¬ (FA : Int) ≤ (FB : Int) := by omega
          clear hf
          go_wp2_with fail
          go_meet
          case rel => exact ⟨false, rfl, (fun h => by cases h), rfl⟩
      · have hi : ¬ (A : Int) < (B : Int) := by omega
        have hj : ¬ (A : Int) = (B : Int) := by omega
        clear h
        go_wp2_with fail
        go_meet
        case rel => exact ⟨false, rfl, (fun h => by cases h), rfl⟩
    case rest =>
    obtain ⟨lb, rfl, hlb, rfl⟩ := hcut
    have HLB := hid hlb
    clear hlb
    have HL2 : Hid (lb = true → e2 = 0 → e1 = 0 ∧ x1 ≤ x2) := fun h h0 => near_less (by
      have := HLB.out h
      refine Nat.mul_le_mul_right n ?_
      omega) HN1.out.2.1 HN1.out.2.2 HN2.out.2.1 HN2.out.2.2 h0
    go_upto_region 12 with fail
    go_cut [108] from 95 to 107 (fun s wx => s = .bool false ∧ wx = wc)
    case first =>
      rcases lb with _ | _
      · go_wp2_with fail
        go_meet
        case rel => exact ⟨rfl, rfl⟩
      · rcases HE2.out.1 with h2 | h2
        · obtain ⟨h3, h4⟩ := HL2.out rfl h2
          subst h2
          subst h3
          have h5 : ¬ x2 < x1 := by omega
          clear h4
          go_wp2_with fail
          go_meet
          case rel => exact ⟨rfl, rfl⟩
        · subst h2
          go_wp2_with fail
          go_meet
          case rel => exact ⟨rfl, rfl⟩
    case rest =>
    obtain ⟨rfl, rfl⟩ := hcut
    have i1 : ¬ x1 < 0 := by have := HE1.out.2.1; omega
    have i2 : ¬ (70368744177664 : Int) < x1 := by have := HE1.out.2.2; omega
    have i3 : ¬ x2 < 0 := by have := HE2.out.2.1; omega
    have i4 : ¬ (70368744177664 : Int) < x2 := by have := HE2.out.2.2; omega
    -- noughts
    obtain ⟨k, hk, hkL⟩ : ∃ k : Nat, noughts % 15 = (k : Int) ∧ k < 15 := ⟨(noughts % 15).toNat, by omega, by omega⟩
    have HK := hid (fun W => (by have := among_any noughts 15 W (by decide) (by decide) HB.out.2.2.2.2.2.2.1 HB.out.2.2.2.2.2.2.2; rwa [hk] at this : Calls Tryd.prog 14 #[.int .i64 noughts, .int .i64 15] W fun e w' => e = .returned (.int .i64 (k : Int)) ∧ w' = W))
    have HD3 := hid (fun W => (by have := digits_any A (1 + k) W (by omega) (by omega); rwa [show ((1 + k : Nat) : Int) = 1 + (k : Int) by omega] at this : Calls Tryd.prog 15 #[.int .i64 A, .int .i64 (1 + (k : Int))] W fun e w' => ∃ s, e = .returned (.string s) ∧ bl s = dgl A (1 + k) ∧ Only [] W w'))
    have hk0 : (0 : Int) ≤ (k : Int) := by omega
    have hk1 : (k : Int) ≤ 15 := by omega
    clear hk
    go_wp2_with fail
    refine (HK.out _).mono ?_
    rintro e w6 ⟨rfl, rfl⟩
    go_wp2_with fail
    refine (HD3.out _).mono ?_
    rintro e w7 ⟨s3, rfl, hb3, ho7⟩
    have hs3 : s3.size ≤ 15 := by rw [← bl_length, hb3]; exact dgl_le 15 A (1 + k) (by omega) (by omega)
    have g1 : ¬ 9223372036854775807 < s3.size + U.size := by omega
    have hR := fun W (h : Un W) => read_any (s3 ++ U) (Z : Int) W (by rw [ByteArray.size_append]; omega) (by omega) (by omega) h
    rw [bl_append, hb3, rd_one (by omega) (by omega) (by omega) HUH.out HUN.out] at hR
    obtain ⟨x3, hx3⟩ : ∃ x, (nearO (near (A * n) d)).1 = x := ⟨_, rfl⟩
    obtain ⟨e3, he3⟩ : ∃ x, (nearO (near (A * n) d)).2 = x := ⟨_, rfl⟩
    have HN3 := hid (And.intro hx3 he3)
    rw [hx3, he3] at hR
    have HR3 := hid hR
    have HU3 := hid (HUw2.out.only ho7 (by simp))
    have HO3 := hid (HOw2.out.trans ho7)
    clear hR hx3 he3 ho7 hb3
    go_wp2_with fail
    refine (HR3.out _ HU3.out.un).mono ?_
    rintro e w8 ⟨rfl, ho8⟩
    have HU8 := hid (HU3.out.only ho8 (by simp))
    have HO8 := hid (HO3.out.trans ho8)
    clear ho8 hs3 g1 HR3 HU3 HO3
    go_wp2_with fail
    refine (digits_any A 1 _ (by omega) (by omega)).mono ?_
    rintro e w9 ⟨s4, rfl, hb4, ho9⟩
    have hs4 : s4.size ≤ 15 := by rw [← bl_length, hb4]; exact dgl_le 15 A 1 (by omega) (by omega)
    have g1 : ¬ 9223372036854775807 < s4.size + 2 := by omega
    have g2 : ¬ 9223372036854775807 < s4.size + 2 + U.size := by omega
    have hR := fun W (h : Un W) => read_any (s4 ++ { data := #[46, 48] } ++ U) (Z : Int) W (by rw [ByteArray.size_append, ByteArray.size_append]; show s4.size + 2 + U.size ≤ _; omega) (by omega) (by omega) h
    rw [bl_append, bl_append, hb4, show bl { data := #[46, 48] } = [46, 48] from rfl, rd_nought (by omega) (by omega) (by omega) HUH.out HUN.out, HN3.out.1, HN3.out.2] at hR
    have HR4 := hid hR
    have HU9 := hid (HU8.out.only ho9 (by simp))
    have HO9 := hid (HO8.out.trans ho9)
    clear hR ho9 hb4
    go_wp2_with fail
    refine (HR4.out _ HU9.out.un).mono ?_
    rintro e w10 ⟨rfl, ho10⟩
    have HOe := hid (HO9.out.trans ho10)
    clear ho10 hs4 g1 g2 HR4 HU9 HO9
    have HE3 := hid (near_e HN3.out.1 HN3.out.2)
    go_upto_region 20 with fail
    go_cut [203] from 153 to 202 (fun s wx => s = .bool false ∧ wx = w10)
    case first =>
      obtain rfl | rfl | rfl | rfl | rfl | rfl : i = 0 ∨ i = 1 ∨ i = 2 ∨ i = 3 ∨ i = 4 ∨ i = 5 := by omega
      · -- none
        have q0 : (U.toList == [101, 109]) = false := by rw [← HUE.out]; show (uT0.toList == _) = _; rw [ByteArray.toList_eq]; rfl
        have q1 : (U.toList == [105, 110]) = false := by rw [← HUE.out]; show (uT0.toList == _) = _; rw [ByteArray.toList_eq]; rfl
        have q2 : (U.toList == [115, 112]) = false := by rw [← HUE.out]; show (uT0.toList == _) = _; rw [ByteArray.toList_eq]; rfl
        have q3 : (U.toList == [112, 116]) = false := by rw [← HUE.out]; show (uT0.toList == _) = _; rw [ByteArray.toList_eq]; rfl
        go_wp2_with fail
        go_meet
        case rel => exact ⟨rfl, rfl⟩
      · -- pt
        have q0 : (U.toList == [101, 109]) = false := by rw [← HUE.out]; show (uT1.toList == _) = _; rw [ByteArray.toList_eq]; rfl
        have q1 : (U.toList == [105, 110]) = false := by rw [← HUE.out]; show (uT1.toList == _) = _; rw [ByteArray.toList_eq]; rfl
        have q2 : (U.toList == [115, 112]) = false := by rw [← HUE.out]; show (uT1.toList == _) = _; rw [ByteArray.toList_eq]; rfl
        have q3 : (U.toList == [112, 116]) = true := by rw [← HUE.out]; show (uT1.toList == _) = _; rw [ByteArray.toList_eq]; rfl
        have hn := HUN.out
        rw [← HUE.out] at hn
        have hn2 := (show unitOf (bl uT1) Z = some (65536, 1) from rfl).symm.trans hn
        injection hn2 with hn2
        injection hn2 with hn3 hn4
        have hx := HN3.out.1
        have he := HN3.out.2
        rw [← hn3, ← hn4] at hx he
        have h46 := HE3.out.2
        clear hn
        rcases near_whole (V := A * 65536) with h | h
        · rw [h] at hx he
          have he' : (81 : Int) = e3 := he
          have hx' : (0 : Int) = x3 := hx
          subst he'
          subst hx'
          clear hx he h h46 hn3 hn4
          go_wp2_with fail
          go_meet
          case rel => exact ⟨rfl, rfl⟩
        · rw [h] at hx he
          have he' : (0 : Int) = e3 := he
          have hx' : ((A * 65536 : Nat) : Int) = x3 := hx
          subst he'
          have hx2 : (A : Int) * 65536 = x3 := by omega
          have l1 := h46.1
          have l2 := h46.2
          have l3 : (A : Int) ≤ 1073741824 := by omega
          have l4 : (0 : Int) ≤ (A : Int) := by omega
          clear hx he h h46 hn3 hn4 hx'
          go_wp2_with fail
          go_meet
          case rel => exact ⟨rfl, rfl⟩
      · -- mm
        have q0 : (U.toList == [101, 109]) = false := by rw [← HUE.out]; show (uT3.toList == _) = _; rw [ByteArray.toList_eq]; rfl
        have q1 : (U.toList == [105, 110]) = false := by rw [← HUE.out]; show (uT3.toList == _) = _; rw [ByteArray.toList_eq]; rfl
        have q2 : (U.toList == [115, 112]) = false := by rw [← HUE.out]; show (uT3.toList == _) = _; rw [ByteArray.toList_eq]; rfl
        have q3 : (U.toList == [112, 116]) = false := by rw [← HUE.out]; show (uT3.toList == _) = _; rw [ByteArray.toList_eq]; rfl
        go_wp2_with fail
        go_meet
        case rel => exact ⟨rfl, rfl⟩
      · -- in
        have q0 : (U.toList == [101, 109]) = false := by rw [← HUE.out]; show (uT2.toList == _) = _; rw [ByteArray.toList_eq]; rfl
        have q1 : (U.toList == [105, 110]) = true := by rw [← HUE.out]; show (uT2.toList == _) = _; rw [ByteArray.toList_eq]; rfl
        have q2 : (U.toList == [115, 112]) = false := by rw [← HUE.out]; show (uT2.toList == _) = _; rw [ByteArray.toList_eq]; rfl
        have q3 : (U.toList == [112, 116]) = false := by rw [← HUE.out]; show (uT2.toList == _) = _; rw [ByteArray.toList_eq]; rfl
        have hn := HUN.out
        rw [← HUE.out] at hn
        have hn2 := (show unitOf (bl uT2) Z = some (4718592, 1) from rfl).symm.trans hn
        injection hn2 with hn2
        injection hn2 with hn3 hn4
        have hx := HN3.out.1
        have he := HN3.out.2
        rw [← hn3, ← hn4] at hx he
        have h46 := HE3.out.2
        clear hn
        rcases near_whole (V := A * 4718592) with h | h
        · rw [h] at hx he
          have he' : (81 : Int) = e3 := he
          have hx' : (0 : Int) = x3 := hx
          subst he'
          subst hx'
          clear hx he h h46 hn3 hn4
          go_wp2_with fail
          go_meet
          case rel => exact ⟨rfl, rfl⟩
        · rw [h] at hx he
          have he' : (0 : Int) = e3 := he
          have hx' : ((A * 4718592 : Nat) : Int) = x3 := hx
          subst he'
          have hx2 : (A : Int) * 72 * 65536 = x3 := by omega
          have hx3 : (A : Int) * 4718592 = x3 := by omega
          have l1 := h46.1
          have l2 := h46.2
          have l3 : (A : Int) ≤ 14913080 := by omega
          have l4 : (0 : Int) ≤ (A : Int) := by omega
          clear hx he h h46 hn3 hn4 hx'
          go_wp2_with fail
          go_meet
          case rel => exact ⟨rfl, rfl⟩
      · -- em
        have q0 : (U.toList == [101, 109]) = true := by rw [← HUE.out]; show (uT5.toList == _) = _; rw [ByteArray.toList_eq]; rfl
        have q1 : (U.toList == [105, 110]) = false := by rw [← HUE.out]; show (uT5.toList == _) = _; rw [ByteArray.toList_eq]; rfl
        have q2 : (U.toList == [115, 112]) = false := by rw [← HUE.out]; show (uT5.toList == _) = _; rw [ByteArray.toList_eq]; rfl
        have q3 : (U.toList == [112, 116]) = false := by rw [← HUE.out]; show (uT5.toList == _) = _; rw [ByteArray.toList_eq]; rfl
        have hn := HUN.out
        rw [← HUE.out] at hn
        have hn2 := (show unitOf (bl uT5) Z = some (Z, 1) from rfl).symm.trans hn
        injection hn2 with hn2
        injection hn2 with hn3 hn4
        have hx := HN3.out.1
        have he := HN3.out.2
        rw [← hn3, ← hn4] at hx he
        have h46 := HE3.out.2
        clear hn
        rcases near_whole (V := A * Z) with h | h
        · rw [h] at hx he
          have he' : (81 : Int) = e3 := he
          have hx' : (0 : Int) = x3 := hx
          subst he'
          subst hx'
          clear hx he h h46 hn3 hn4
          go_wp2_with fail
          go_meet
          case rel => exact ⟨rfl, rfl⟩
        · rw [h] at hx he
          have he' : (0 : Int) = e3 := he
          have hx' : ((A * Z : Nat) : Int) = x3 := hx
          subst he'
          have hx2 : (A : Int) * (Z : Int) = x3 := by rw [← hx', Int.natCast_mul]
          have l1 := h46.1
          have l2 := h46.2
          clear hx he h h46 hn3 hn4 hx'
          go_wp2_with fail
          go_meet
          case rel => exact ⟨rfl, rfl⟩
      · -- sp
        have q0 : (U.toList == [101, 109]) = false := by rw [← HUE.out]; show (uT4.toList == _) = _; rw [ByteArray.toList_eq]; rfl
        have q1 : (U.toList == [105, 110]) = false := by rw [← HUE.out]; show (uT4.toList == _) = _; rw [ByteArray.toList_eq]; rfl
        have q2 : (U.toList == [115, 112]) = true := by rw [← HUE.out]; show (uT4.toList == _) = _; rw [ByteArray.toList_eq]; rfl
        have q3 : (U.toList == [112, 116]) = false := by rw [← HUE.out]; show (uT4.toList == _) = _; rw [ByteArray.toList_eq]; rfl
        have hn := HUN.out
        rw [← HUE.out] at hn
        have hn2 := (show unitOf (bl uT4) Z = some (1, 1) from rfl).symm.trans hn
        injection hn2 with hn2
        injection hn2 with hn3 hn4
        have hx := HN3.out.1
        have he := HN3.out.2
        rw [← hn3, ← hn4] at hx he
        have h46 := HE3.out.2
        clear hn
        rcases near_whole (V := A * 1) with h | h
        · rw [h] at hx he
          have he' : (81 : Int) = e3 := he
          exfalso
          rw [near_one (by omega)] at h
          cases h
        · rw [h] at hx he
          have he' : (0 : Int) = e3 := he
          have hx' : ((A * 1 : Nat) : Int) = x3 := hx
          subst he'
          have hx2 : (A : Int) = x3 := by omega
          subst hx2
          clear hx he h h46 hn3 hn4 hx'
          go_wp2_with fail
          go_meet
          case rel => exact ⟨rfl, rfl⟩
    case rest =>
    obtain ⟨rfl, rfl⟩ := hcut
    go_wp2_with fail
    go_ret
    exact ⟨rfl, HOe.out.below⟩
end Go.Proofs.YtapnmopcmlcfbaaDoor
