/- The reference's Read. -/
import Derived.Test.YtapnmopcmlcfbaaDoorRefP
namespace Go.Proofs.YtapnmopcmlcfbaaDoor
open Go.RowKit

theorem form_short {l : List Nat} (h : dg l < 1 ∨ 15 < dg l) : form l = none := by unfold form; rw [if_pos h]
theorem form_plain {l : List Nat} (h : ¬ (dg l < 1 ∨ 15 < dg l)) (h2 : (l.drop (dg l)).head? ≠ some 46) : form l = some (num 0 (l.take (dg l)), 0, l.drop (dg l)) := by unfold form; rw [if_neg h, if_neg h2]
theorem form_bad {l : List Nat} (h : ¬ (dg l < 1 ∨ 15 < dg l)) (h2 : (l.drop (dg l)).head? = some 46) (h3 : dg (l.drop (dg l + 1)) < 1 ∨ 4 < dg (l.drop (dg l + 1))) : form l = none := by unfold form; rw [if_neg h, if_pos h2, if_pos h3]
theorem form_point {l : List Nat} (h : ¬ (dg l < 1 ∨ 15 < dg l)) (h2 : (l.drop (dg l)).head? = some 46) (h3 : ¬ (dg (l.drop (dg l + 1)) < 1 ∨ 4 < dg (l.drop (dg l + 1)))) :
    form l = some (num 0 (l.take (dg l) ++ (l.drop (dg l + 1)).take (dg (l.drop (dg l + 1)))), dg (l.drop (dg l + 1)), l.drop (dg l + 1 + dg (l.drop (dg l + 1)))) := by
  unfold form; rw [if_neg h, if_pos h2, if_neg h3, num_append, List.drop_drop]
theorem bl_append (a b : ByteArray) : bl (a ++ b) = bl a ++ bl b := by
  unfold bl; rw [ByteArray.data_append, Array.toList_append, List.map_append]
theorem Int.natCast_mul_natCast_sub48 {c n : Nat} (h : 48 ≤ c) : (((c - 48) * n : Nat) : Int) = ((c : Int) - 48) * (n : Int) := by
  rw [Int.natCast_mul, show ((c - 48 : Nat) : Int) = (c : Int) - 48 by omega]
theorem digit_step {V q r low c n : Nat} (hl : 0 < low) (hq : V / low = q) (hr : V % low = r) : (10 * V + c * n) / low = 10 * q + (10 * r + c * n) / low ∧ (10 * V + c * n) % low = (10 * r + c * n) % low := by
  have h : 10 * V + c * n = (10 * r + c * n) + low * (10 * q) := by
    have := Nat.div_add_mod V low
    rw [hq, hr] at this
    have h2 : low * (10 * q) = 10 * (low * q) := by rw [Nat.mul_left_comm]
    rw [h2, ← this]; omega
  rw [h, Nat.add_mul_div_left _ _ hl, Nat.add_mul_mod_self_left]
  exact ⟨by omega, rfl⟩
/-- what the reference's unit tells, by cases -/
theorem ref_unit_some {b : ByteArray} {n d : Nat} {size : Int} (h : ∀ size, unitOf (bl b) size = some (n, d)) (hne : bl b ≠ [101, 109]) : refUnV (bl b) size = .tuple #[.int .i64 n, .int .i64 d, .bool true] := by
  have h := h 0
  unfold unitOf at h
  unfold refUnV
  repeat' split at h
  all_goals (try (exact absurd ‹_› hne))
  all_goals (first | cases h | skip)
  all_goals simp_all
theorem ref_unit_none {b : ByteArray} {size : Int} (h : ∀ size, unitOf (bl b) size = none) : refUnV (bl b) size = .tuple #[.int .i64 0, .int .i64 0, .bool false] := by
  have h := h 0
  unfold unitOf at h
  unfold refUnV
  repeat' split at h
  all_goals (first | cases h | skip)
  rename_i g0 g1 g2 g3 g4
  rw [if_neg g0, if_neg g1, if_neg g2, if_neg g3, if_neg g4]
theorem ref_unit_em {size : Int} : refUnV [101, 109] size = .tuple #[.int .i64 size, .int .i64 1, .bool true] := by
  unfold refUnV
  rw [if_neg (by decide), if_neg (by decide), if_neg (by decide), if_neg (by decide), if_pos rfl]

set_option maxRecDepth 100000 in
set_option maxHeartbeats 4000000 in
theorem refRead_any (s : ByteArray) (size : Int) (w : World) (hs : s.size ≤ 140737488355328) (hz0 : -9223372036854775808 ≤ size) (hz1 : size ≤ 9223372036854775807) :
    Calls Tryd.prog 9 #[.string s, .int .i64 size] w fun e w' => e = .returned (.tuple #[.int .i64 (rd (bl s) size).1, .int .i64 (rd (bl s) size).2]) ∧ w' = w := by
  obtain ⟨A, hA⟩ : ∃ A, rd (bl s) size = A := ⟨_, rfl⟩
  rw [hA]
  have HA := hid hA
  clear hA
  obtain ⟨a1, a2⟩ := A
  show Calls _ _ _ _ (fun e w' => e = .returned (.tuple #[.int .i64 a1, .int .i64 a2]) ∧ w' = w)
  have hdz := dg_size s
  have HD := hid (fun W => refDigits_any s 0 W hs (by omega))
  obtain ⟨n, hn⟩ : ∃ n, dg (bl s) = n := ⟨_, rfl⟩
  rw [List.drop_zero, hn] at HD
  rw [hn] at hdz
  have HN := hid hn
  have hs2 : (s.size : Int) ≤ 140737488355328 := by omega
  have hn0 : (0 : Int) ≤ (n : Int) := by omega
  have hn1 : (n : Int) ≤ (s.size : Int) := by omega
  by_cases h1 : n < 1 ∨ 15 < n
  · have hr2 := HA.out.symm.trans (rd_form (form_short (by rw [hn]; exact h1)))
    injection hr2 with e1 e2
    subst e1
    subst e2
    have hor : (n : Int) < 1 ∨ (¬ (n : Int) < 1 ∧ (15 : Int) < (n : Int)) := by omega
    clear h1 hn hdz
    rcases hor with h1 | ⟨h1, h2⟩
    all_goals
      go_enter Tryd.func9, Tryd.ntmps9
      go_wp2_with fail
      refine (HD.out _).mono ?_
      rintro e w1 ⟨rfl, rfl⟩
      go_wp2_with fail
      go_ret2
      exact ⟨rfl, rfl⟩
  · have hb1 : ¬ (n : Int) < 1 := by omega
    have hb2 : ¬ (15 : Int) < (n : Int) := by omega
    by_cases hdot : ((bl s).drop n).head? = some 46
    · have hlt : n < s.size := by
        rcases Nat.lt_or_ge n s.size with g | g
        · exact g
        · rw [List.drop_of_length_le (by rw [bl_length]; exact g)] at hdot; cases hdot
      have hget := byte_at s n hlt
      have hb : (s[n]).toNat = 46 := by
        rw [List.head?_drop, hget] at hdot
        exact Option.some.inj hdot
      have hbi : ((s[n]).toNat : Int) = 46 := by omega
      have hli : (n : Int) < (s.size : Int) := by omega
      have HD2 := hid (fun W => refDigits_any s (n + 1) W hs (by omega))
      have hdl := dg_le ((bl s).drop (n + 1))
      rw [List.length_drop, bl_length] at hdl
      obtain ⟨k, hk⟩ : ∃ k, dg ((bl s).drop (n + 1)) = k := ⟨_, rfl⟩
      rw [hk] at HD2 hdl
      rw [show ((n + 1 : Nat) : Int) = (n : Int) + 1 by omega] at HD2
      have HK := hid hk
      have HDOT := hid hdot
      by_cases h3 : k < 1 ∨ 4 < k
      · have hr2 := HA.out.symm.trans (rd_form (form_bad (by rw [hn]; exact h1) (by rw [hn]; exact hdot) (by rw [hn, hk]; exact h3)))
        injection hr2 with e1 e2
        subst e1
        subst e2
        have hor : (k : Int) < 1 ∨ (¬ (k : Int) < 1 ∧ (4 : Int) < (k : Int)) := by omega
        clear h1 hn hdz hdot hget hb hk hdl h3
        rcases hor with h1 | ⟨h1, h2⟩
        all_goals
          go_enter Tryd.func9, Tryd.ntmps9
          go_wp2_with fail
          refine (HD.out _).mono ?_
          rintro e w1 ⟨rfl, rfl⟩
          go_wp2_with fail
          refine (HD2.out _).mono ?_
          rintro e w1 ⟨rfl, rfl⟩
          go_wp2_with fail
          go_ret2
          exact ⟨rfl, rfl⟩
      · have hk0 : ¬ (k : Int) < 1 := by omega
        have hk1 : ¬ (4 : Int) < (k : Int) := by omega
        have hk2 : (n : Int) + 1 + (k : Int) ≤ (s.size : Int) := by omega
        have HFO := hid (form_point (by rw [hn]; exact h1) (by rw [hn]; exact hdot) (by rw [hn, hk]; exact h3))
        rw [hn, hk, show ((bl s).drop (n + 1)).take k = bl (s.extract (n + 1) (n + 1 + k)) by rw [bl_extract, Nat.add_sub_cancel_left], ← bl_front, ← bl_append, ← bl_behind s (n + 1 + k)] at HFO
        have HDT := hid (show Dgs (bl (s.extract 0 n ++ s.extract (n + 1) (n + 1 + k))) by
          rw [bl_append, bl_front, bl_extract, Nat.add_sub_cancel_left, ← HN.out, ← hk, hn]
          exact (by rw [← HN.out]; exact dg_pre _ : Dgs ((bl s).take n)).app (dg_pre _))
        have HTZ := hid (show (s.extract 0 n ++ s.extract (n + 1) (n + 1 + k)).size ≤ 19 by
          rw [← bl_length, bl_append, List.length_append, bl_length, bl_length, ByteArray.size_extract, ByteArray.size_extract]; omega)
        have HK4 := hid (show k ≤ 4 by omega)
        clear hdot hget hb hk hdl hn hdz
        go_enter Tryd.func9, Tryd.ntmps9
        go_wp2_with fail
        refine (HD.out _).mono ?_
        rintro e w1 ⟨rfl, rfl⟩
        go_wp2_with fail
        refine (HD2.out _).mono ?_
        rintro e w1 ⟨rfl, rfl⟩
        go_wp2_with fail
        obtain ⟨b, hb⟩ : ∃ b, s.extract (n + 1 + k) s.size = b := ⟨_, rfl⟩
        obtain ⟨T, hT⟩ : ∃ T, s.extract 0 n ++ s.extract (n + 1) (n + 1 + k) = T := ⟨_, rfl⟩
        rw [hb] at HFO
        rw [hT] at HFO HDT HTZ
        have HBB := hid hb
        rw [hb, hT]
        have HTT := hid hT
        clear hT
        have hTs : (T.size : Int) ≤ 19 := by have := HTZ.out; omega
        refine (refUnit_any b size _).mono ?_
        rintro e w2 ⟨rfl, rfl⟩
        rcases unit_ways b with ⟨hm, hu⟩ | hbe | ⟨nn, d, hm, hu, hne, heq, hnn, hd⟩
        · rw [ref_unit_none hu]
          have hr2 := HA.out.symm.trans (rd_unit HFO.out (hu _))
          injection hr2 with e1 e2
          subst e1
          subst e2
          clear hm hu hb
          go_wp2_with fail
          go_ret2
          exact ⟨rfl, rfl⟩
        · have hble : bl b = [101, 109] := by rw [hbe]; rfl
          have heq : (b.toList == [101, 109]) = true := by rw [hbe, ByteArray.toList_eq]; rfl
          rw [hble, ref_unit_em]
          by_cases hlen : 0 ≤ size ∧ size ≤ 70368744177664
          · obtain ⟨nn, rfl⟩ : ∃ m : Nat, size = (m : Int) := ⟨size.toNat, by omega⟩
            have HR := hid (rd_near (n := nn) (d := 1) (size := (nn : Int)) HFO.out (by rw [hble]; rfl) (by rintro ⟨_, h⟩; omega))
            have HNN := hid (show nn ≤ 70368744177664 by omega)
            obtain ⟨d, hd⟩ : ∃ d : Nat, 1 = d := ⟨_, rfl⟩
            rw [hd] at HR
            have hdi : (1 : Int) = (d : Int) := by omega
            have HDD : Hid (d = 1 ∨ d = 127) := .inl hd.symm
            have g1 : ¬ (nn : Int) < 0 := by omega
            have g2 : ¬ (70368744177664 : Int) < (nn : Int) := by omega
            have g3 : (nn : Int) ≤ 70368744177664 := by omega
            have HDE := hid hd
            clear hlen hble hd hbe hz0 hz1 hdi
            go_wp2_with fail
            go_loop [13, 14] (fun low i => ∃ j : Nat, j ≤ k ∧ i = .int .i64 j ∧ low = .int .i64 (d * 10 ^ j : Nat)) (fun _ i => k - (intOf i).toNat)
            case atStart => exact ⟨0, by omega, rfl, by rw [Nat.pow_zero, Nat.mul_one, ← HDE.out]; rfl⟩
            case round =>
              obtain ⟨j, hj, rfl, rfl⟩ := hrel
              obtain ⟨y, hy⟩ : ∃ y, d * 10 ^ j = y := ⟨_, rfl⟩
              rw [hy]
              have hy1 : y ≤ 1270000 := by
                rw [← hy]
                exact Nat.mul_le_mul (show d ≤ 127 by have := HDD.out; omega) (Nat.pow_le_pow_right (i := j) (j := 4) (by decide) (by have := HK4.out; omega))
              have hy2 : (y : Int) ≤ 1270000 := by omega
              have hy0 : (0 : Int) ≤ (y : Int) := by omega
              have HY := hid hy
              by_cases hjk : j < k
              · have hjk' : (j : Int) < (k : Int) := by omega
                have hjk4 := HK4.out
                have HJK := hid hjk
                clear hy hy1 hjk hj
                go_wp2_with fail
                go_round
                case rel =>
                  refine ⟨j + 1, HJK.out, by go_num, ?_⟩
                  have : d * 10 ^ (j + 1) = 10 * y := by rw [Nat.pow_succ, ← Nat.mul_assoc, HY.out, Nat.mul_comm]
                  rw [this]
                  go_num
                case measure =>
                  have := HJK.out
                  simp [intOf]; omega
              · have hjk' : ¬ (j : Int) < (k : Int) := by omega
                have hje : j = k := by omega
                have hyp : 0 < y := by
                  rw [← hy]; exact Nat.mul_pos (by have := HDD.out; omega) (Nat.pow_pos (by decide))
                have hR := HR.out
                have hyk : d * 10 ^ k = y := by rw [← hy, hje]
                rw [hyk] at hR
                have HR2 := hid hR
                have HYP := hid hyp
                have hy3 : (0 : Int) < (y : Int) := by omega
                clear hy hy1 hjk hj hje hyk hR HY HR hyp hy0
                go_wp2_with fail
                go_loop [15, 16, 17] (fun q r i => ∃ (j q1 r1 : Nat), j ≤ T.size ∧ i = .int .i64 j ∧ q = .int .i64 q1 ∧ r = .int .i64 r1 ∧ (num 0 ((bl T).take j) * nn) / y = q1 ∧ (num 0 ((bl T).take j) * nn) % y = r1 ∧ q1 ≤ 70368744177664) (fun _ _ i => T.size - (intOf i).toNat)
                case atStart =>
                  refine ⟨0, 0, 0, by omega, rfl, rfl, rfl, ?_, ?_, by omega⟩
                  · rw [List.take_zero]; show (0 * nn) / y = 0; rw [Nat.zero_mul, Nat.zero_div]
                  · rw [List.take_zero]; show (0 * nn) % y = 0; rw [Nat.zero_mul, Nat.zero_mod]
                case round =>
                  obtain ⟨j, q, r, hj, rfl, rfl, rfl, hq, hr, hqm⟩ := hrel
                  have hry : r < y := by rw [← hr]; exact Nat.mod_lt _ HYP.out
                  by_cases hjt : j < T.size
                  · have hget := byte_at T j hjt
                    have hsn := num_snoc 0 hget
                    have hcd := HDT.out (T[j]).toNat (List.mem_of_getElem? hget)
                    obtain ⟨x, hx⟩ : ∃ x, ((T[j]).toNat - 48) * nn = x := ⟨_, rfl⟩
                    have hx1 : x ≤ 633318697598976 := by
                      rw [← hx]; exact Nat.mul_le_mul (show (T[j]).toNat - 48 ≤ 9 by omega) HNN.out
                    have hxi : (((T[j]).toNat : Int) - 48) * (nn : Int) = (x : Int) := by
                      rw [← hx, ← Int.natCast_mul_natCast_sub48 hcd.1]
                    have hst := digit_step (c := (T[j]).toNat - 48) (n := nn) HYP.out hq hr
                    rw [hx] at hst
                    have hnx : num 0 ((bl T).take (j + 1)) * nn = 10 * (num 0 ((bl T).take j) * nn) + x := by
                      rw [hsn, Nat.add_mul, hx, Nat.mul_assoc]
                    rw [← hnx] at hst
                    obtain ⟨Q2, hQ2⟩ : ∃ Q2, (10 * r + x) / y = Q2 := ⟨_, rfl⟩
                    obtain ⟨R2, hR2⟩ : ∃ R2, (10 * r + x) % y = R2 := ⟨_, rfl⟩
                    rw [hQ2, hR2] at hst
                    have hQ2i : (10 * (r : Int) + (x : Int)) / (y : Int) = (Q2 : Int) := by rw [← hQ2, Int.natCast_ediv, Int.natCast_add, Int.natCast_mul]; rfl
                    have hR2i : (10 * (r : Int) + (x : Int)) % (y : Int) = (R2 : Int) := by rw [← hR2, Int.natCast_emod, Int.natCast_add, Int.natCast_mul]; rfl
                    have hQ2m : Q2 ≤ 633318710298976 := by rw [← hQ2]; exact Nat.le_trans (Nat.div_le_self _ _) (by omega)
                    have HST := hid hst
                    have HJT := hid hjt
                    have b1 : (48 : Int) ≤ ((T[j]).toNat : Int) := by omega
                    have b2 : ((T[j]).toNat : Int) ≤ 57 := by omega
                    have b3 : (0 : Int) ≤ (x : Int) := by omega
                    have b4 : (x : Int) ≤ 633318697598976 := by omega
                    have b5 : (0 : Int) ≤ (r : Int) := by omega
                    have b6 : (r : Int) ≤ 1270000 := by omega
                    have b7 : (0 : Int) ≤ (Q2 : Int) := by omega
                    have b8 : (Q2 : Int) ≤ 633318710298976 := by omega
                    have b9 : (0 : Int) ≤ (q : Int) := by omega
                    have b10 : (q : Int) ≤ 70368744177664 := by omega
                    have b11 : (j : Int) < (T.size : Int) := by omega
                    by_cases hmx : 70368744177664 < 10 * q + Q2
                    · have hmi : (70368744177664 : Int) < 10 * (q : Int) + (Q2 : Int) := by omega
                      have hno : near (num 0 (bl T) * nn) y = none := by
                        refine near_none (.inl ?_)
                        have h1 := num_take_le 0 (bl T) (j + 1)
                        have h2 := Nat.div_le_div_right (c := y) (Nat.mul_le_mul_right nn h1)
                        rw [hst.1] at h2
                        omega
                      have hr3 := HR2.out
                      rw [hno] at hr3
                      have hr2 := HA.out.symm.trans hr3
                      injection hr2 with e1 e2
                      subst e1
                      subst e2
                      clear hget hsn hcd hx hx1 hst hnx hQ2 hR2 hQ2m hq hr hqm hry hj hmx hno hr3
                      go_wp2_with fail
                      go_ret2
                      exact ⟨rfl, rfl⟩
                    · have hmi : ¬ (70368744177664 : Int) < 10 * (q : Int) + (Q2 : Int) := by omega
                      have HMX := hid hmx
                      clear hget hsn hcd hx hx1 hst hnx hQ2 hR2 hQ2m hq hr hqm hry hj hmx
                      go_wp2_with fail
                      go_round
                      case rel => exact ⟨j + 1, 10 * q + Q2, R2, by omega, by go_num, by go_num, by first | rfl | exact congrArg (Value.int IntKind.i64) hR2i, HST.out.1, HST.out.2, by have := HMX.out; omega⟩
                      case measure => simp [intOf]; omega
                  · have hje : j = T.size := by omega
                    rw [List.take_of_length_le (by rw [bl_length]; omega)] at hq hr
                    have b11 : ¬ (j : Int) < (T.size : Int) := by omega
                    have hN1 := @near_none (num 0 (bl T) * nn) y
                    have hN2 := @near_some (num 0 (bl T) * nn) y
                    rw [hq, hr] at hN1 hN2
                    have b9 : (0 : Int) ≤ (q : Int) := by omega
                    have b10 : (q : Int) ≤ 70368744177664 := by omega
                    have b5 : (0 : Int) ≤ (r : Int) := by omega
                    have b6 : (r : Int) < (y : Int) := by omega
                    have hr3 := HR2.out
                    by_cases hlast : q = 70368744177664 ∧ 0 < r
                    · rw [hN1 (.inr hlast)] at hr3
                      have hr2 := HA.out.symm.trans hr3
                      injection hr2 with e1 e2
                      subst e1
                      subst e2
                      obtain ⟨l1, l2⟩ := hlast
                      subst l1
                      have l3 : (0 : Int) < (r : Int) := by omega
                      clear hN1 hN2 hr3 hq hr hry hj hje hjt l2 hqm b9 b10
                      go_wp2_with fail
                      go_ret2
                      exact ⟨rfl, rfl⟩
                    · rw [hN2 (by omega)] at hr3
                      by_cases h2r : y ≤ 2 * r
                      · rw [if_pos h2r] at hr3
                        have hr2 := HA.out.symm.trans hr3
                        injection hr2 with e1 e2
                        subst e1
                        subst e2
                        have l3 : (y : Int) ≤ 2 * (r : Int) := by omega
                        have l4 : (q : Int) < 70368744177664 := by omega
                        obtain ⟨Q, hQ⟩ : ∃ Q : Int, (q : Int) = Q := ⟨_, rfl⟩
                        rw [hQ] at b9 b10 l4
                        have HQQ := hid hQ
                        rw [hQ]
                        clear hN1 hN2 hr3 hq hr hry hj hje hjt hlast h2r hqm hQ
                        go_wp2_with fail
                        go_ret2
                        exact ⟨congrArg (fun z => Ending.returned (.tuple #[.int .i64 z, .int .i64 0])) (show Q + 1 = ((q + 1 : Nat) : Int) by have := HQQ.out; omega), rfl⟩
                      · rw [if_neg h2r] at hr3
                        have hr2 := HA.out.symm.trans hr3
                        injection hr2 with e1 e2
                        subst e1
                        subst e2
                        have l3 : ¬ (y : Int) ≤ 2 * (r : Int) := by omega
                        have hor : (q : Int) < 70368744177664 ∨ ((q : Int) = 70368744177664 ∧ (r : Int) = 0) := by omega
                        obtain ⟨Q, hQ⟩ : ∃ Q : Int, (q : Int) = Q := ⟨_, rfl⟩
                        obtain ⟨R, hRR⟩ : ∃ R : Int, (r : Int) = R := ⟨_, rfl⟩
                        rw [hQ] at b9 b10 hor
                        rw [hRR] at b5 b6 hor l3
                        have HQQ := hid hQ
                        rw [hQ, hRR]
                        clear hN1 hN2 hr3 hq hr hry hj hje hjt hlast h2r hqm hQ hRR
                        rcases hor with l4 | ⟨l4, l5⟩
                        all_goals
                          go_wp2_with fail
                          go_ret2
                          first
                          | exact ⟨congrArg (fun z => Ending.returned (.tuple #[.int .i64 z, .int .i64 0])) (show Q = (q : Int) from HQQ.out.symm), rfl⟩
                          | exact ⟨congrArg (fun z => Ending.returned (.tuple #[.int .i64 z, .int .i64 0])) (show (70368744177664 : Int) = (q : Int) by have := HQQ.out; omega), rfl⟩
          · have hr2 := HA.out.symm.trans (rd_em HFO.out (n := size.toNat) (d := 1) (by rw [hble]; rfl) ⟨hble, by omega⟩)
            injection hr2 with e1 e2
            subst e1
            subst e2
            have hor : size < 0 ∨ (¬ size < 0 ∧ 70368744177664 < size) := by omega
            clear hlen hble hbe
            rcases hor with g1 | ⟨g1, g2⟩
            all_goals
              go_wp2_with fail
              go_ret2
              exact ⟨rfl, rfl⟩
        · rw [ref_unit_some hu hne]
          have HR := hid (rd_near (size := size) HFO.out (hu size.toNat) (fun h => hne h.1))
          have HNN := hid (show nn ≤ 70368744177664 by omega)
          have HDD := hid hd
          have g3 : (nn : Int) ≤ 70368744177664 := by omega
          clear hm hu hne hnn hd
          go_wp2_with fail
          go_loop [13, 14] (fun low i => ∃ j : Nat, j ≤ k ∧ i = .int .i64 j ∧ low = .int .i64 (d * 10 ^ j : Nat)) (fun _ i => k - (intOf i).toNat)
          case atStart => exact ⟨0, by omega, rfl, by rw [Nat.pow_zero, Nat.mul_one]⟩
          case round =>
            obtain ⟨j, hj, rfl, rfl⟩ := hrel
            obtain ⟨y, hy⟩ : ∃ y, d * 10 ^ j = y := ⟨_, rfl⟩
            rw [hy]
            have hy1 : y ≤ 1270000 := by
              rw [← hy]
              exact Nat.mul_le_mul (show d ≤ 127 by have := HDD.out; omega) (Nat.pow_le_pow_right (i := j) (j := 4) (by decide) (by have := HK4.out; omega))
            have hy2 : (y : Int) ≤ 1270000 := by omega
            have hy0 : (0 : Int) ≤ (y : Int) := by omega
            have HY := hid hy
            by_cases hjk : j < k
            · have hjk' : (j : Int) < (k : Int) := by omega
              have hjk4 := HK4.out
              have HJK := hid hjk
              clear hy hy1 hjk hj
              go_wp2_with fail
              go_round
              case rel =>
                refine ⟨j + 1, HJK.out, by go_num, ?_⟩
                have : d * 10 ^ (j + 1) = 10 * y := by rw [Nat.pow_succ, ← Nat.mul_assoc, HY.out, Nat.mul_comm]
                rw [this]
                go_num
              case measure =>
                have := HJK.out
                simp [intOf]; omega
            · have hjk' : ¬ (j : Int) < (k : Int) := by omega
              have hje : j = k := by omega
              have hyp : 0 < y := by
                rw [← hy]; exact Nat.mul_pos (by have := HDD.out; omega) (Nat.pow_pos (by decide))
              have hR := HR.out
              have hyk : d * 10 ^ k = y := by rw [← hy, hje]
              rw [hyk] at hR
              have HR2 := hid hR
              have HYP := hid hyp
              have hy3 : (0 : Int) < (y : Int) := by omega
              clear hy hy1 hjk hj hje hyk hR HY HR hyp hy0
              go_wp2_with fail
              go_loop [15, 16, 17] (fun q r i => ∃ (j q1 r1 : Nat), j ≤ T.size ∧ i = .int .i64 j ∧ q = .int .i64 q1 ∧ r = .int .i64 r1 ∧ (num 0 ((bl T).take j) * nn) / y = q1 ∧ (num 0 ((bl T).take j) * nn) % y = r1 ∧ q1 ≤ 70368744177664) (fun _ _ i => T.size - (intOf i).toNat)
              case atStart =>
                refine ⟨0, 0, 0, by omega, rfl, rfl, rfl, ?_, ?_, by omega⟩
                · rw [List.take_zero]; show (0 * nn) / y = 0; rw [Nat.zero_mul, Nat.zero_div]
                · rw [List.take_zero]; show (0 * nn) % y = 0; rw [Nat.zero_mul, Nat.zero_mod]
              case round =>
                obtain ⟨j, q, r, hj, rfl, rfl, rfl, hq, hr, hqm⟩ := hrel
                have hry : r < y := by rw [← hr]; exact Nat.mod_lt _ HYP.out
                by_cases hjt : j < T.size
                · have hget := byte_at T j hjt
                  have hsn := num_snoc 0 hget
                  have hcd := HDT.out (T[j]).toNat (List.mem_of_getElem? hget)
                  obtain ⟨x, hx⟩ : ∃ x, ((T[j]).toNat - 48) * nn = x := ⟨_, rfl⟩
                  have hx1 : x ≤ 633318697598976 := by
                    rw [← hx]; exact Nat.mul_le_mul (show (T[j]).toNat - 48 ≤ 9 by omega) HNN.out
                  have hxi : (((T[j]).toNat : Int) - 48) * (nn : Int) = (x : Int) := by
                    rw [← hx, ← Int.natCast_mul_natCast_sub48 hcd.1]
                  have hst := digit_step (c := (T[j]).toNat - 48) (n := nn) HYP.out hq hr
                  rw [hx] at hst
                  have hnx : num 0 ((bl T).take (j + 1)) * nn = 10 * (num 0 ((bl T).take j) * nn) + x := by
                    rw [hsn, Nat.add_mul, hx, Nat.mul_assoc]
                  rw [← hnx] at hst
                  obtain ⟨Q2, hQ2⟩ : ∃ Q2, (10 * r + x) / y = Q2 := ⟨_, rfl⟩
                  obtain ⟨R2, hR2⟩ : ∃ R2, (10 * r + x) % y = R2 := ⟨_, rfl⟩
                  rw [hQ2, hR2] at hst
                  have hQ2i : (10 * (r : Int) + (x : Int)) / (y : Int) = (Q2 : Int) := by rw [← hQ2, Int.natCast_ediv, Int.natCast_add, Int.natCast_mul]; rfl
                  have hR2i : (10 * (r : Int) + (x : Int)) % (y : Int) = (R2 : Int) := by rw [← hR2, Int.natCast_emod, Int.natCast_add, Int.natCast_mul]; rfl
                  have hQ2m : Q2 ≤ 633318710298976 := by rw [← hQ2]; exact Nat.le_trans (Nat.div_le_self _ _) (by omega)
                  have HST := hid hst
                  have HJT := hid hjt
                  have b1 : (48 : Int) ≤ ((T[j]).toNat : Int) := by omega
                  have b2 : ((T[j]).toNat : Int) ≤ 57 := by omega
                  have b3 : (0 : Int) ≤ (x : Int) := by omega
                  have b4 : (x : Int) ≤ 633318697598976 := by omega
                  have b5 : (0 : Int) ≤ (r : Int) := by omega
                  have b6 : (r : Int) ≤ 1270000 := by omega
                  have b7 : (0 : Int) ≤ (Q2 : Int) := by omega
                  have b8 : (Q2 : Int) ≤ 633318710298976 := by omega
                  have b9 : (0 : Int) ≤ (q : Int) := by omega
                  have b10 : (q : Int) ≤ 70368744177664 := by omega
                  have b11 : (j : Int) < (T.size : Int) := by omega
                  by_cases hmx : 70368744177664 < 10 * q + Q2
                  · have hmi : (70368744177664 : Int) < 10 * (q : Int) + (Q2 : Int) := by omega
                    have hno : near (num 0 (bl T) * nn) y = none := by
                      refine near_none (.inl ?_)
                      have h1 := num_take_le 0 (bl T) (j + 1)
                      have h2 := Nat.div_le_div_right (c := y) (Nat.mul_le_mul_right nn h1)
                      rw [hst.1] at h2
                      omega
                    have hr3 := HR2.out
                    rw [hno] at hr3
                    have hr2 := HA.out.symm.trans hr3
                    injection hr2 with e1 e2
                    subst e1
                    subst e2
                    clear hget hsn hcd hx hx1 hst hnx hQ2 hR2 hQ2m hq hr hqm hry hj hmx hno hr3
                    go_wp2_with fail
                    go_ret2
                    exact ⟨rfl, rfl⟩
                  · have hmi : ¬ (70368744177664 : Int) < 10 * (q : Int) + (Q2 : Int) := by omega
                    have HMX := hid hmx
                    clear hget hsn hcd hx hx1 hst hnx hQ2 hR2 hQ2m hq hr hqm hry hj hmx
                    go_wp2_with fail
                    go_round
                    case rel => exact ⟨j + 1, 10 * q + Q2, R2, by omega, by go_num, by go_num, by first | rfl | exact congrArg (Value.int IntKind.i64) hR2i, HST.out.1, HST.out.2, by have := HMX.out; omega⟩
                    case measure => simp [intOf]; omega
                · have hje : j = T.size := by omega
                  rw [List.take_of_length_le (by rw [bl_length]; omega)] at hq hr
                  have b11 : ¬ (j : Int) < (T.size : Int) := by omega
                  have hN1 := @near_none (num 0 (bl T) * nn) y
                  have hN2 := @near_some (num 0 (bl T) * nn) y
                  rw [hq, hr] at hN1 hN2
                  have b9 : (0 : Int) ≤ (q : Int) := by omega
                  have b10 : (q : Int) ≤ 70368744177664 := by omega
                  have b5 : (0 : Int) ≤ (r : Int) := by omega
                  have b6 : (r : Int) < (y : Int) := by omega
                  have hr3 := HR2.out
                  by_cases hlast : q = 70368744177664 ∧ 0 < r
                  · rw [hN1 (.inr hlast)] at hr3
                    have hr2 := HA.out.symm.trans hr3
                    injection hr2 with e1 e2
                    subst e1
                    subst e2
                    obtain ⟨l1, l2⟩ := hlast
                    subst l1
                    have l3 : (0 : Int) < (r : Int) := by omega
                    clear hN1 hN2 hr3 hq hr hry hj hje hjt l2 hqm b9 b10
                    go_wp2_with fail
                    go_ret2
                    exact ⟨rfl, rfl⟩
                  · rw [hN2 (by omega)] at hr3
                    by_cases h2r : y ≤ 2 * r
                    · rw [if_pos h2r] at hr3
                      have hr2 := HA.out.symm.trans hr3
                      injection hr2 with e1 e2
                      subst e1
                      subst e2
                      have l3 : (y : Int) ≤ 2 * (r : Int) := by omega
                      have l4 : (q : Int) < 70368744177664 := by omega
                      obtain ⟨Q, hQ⟩ : ∃ Q : Int, (q : Int) = Q := ⟨_, rfl⟩
                      rw [hQ] at b9 b10 l4
                      have HQQ := hid hQ
                      rw [hQ]
                      clear hN1 hN2 hr3 hq hr hry hj hje hjt hlast h2r hqm hQ
                      go_wp2_with fail
                      go_ret2
                      exact ⟨congrArg (fun z => Ending.returned (.tuple #[.int .i64 z, .int .i64 0])) (show Q + 1 = ((q + 1 : Nat) : Int) by have := HQQ.out; omega), rfl⟩
                    · rw [if_neg h2r] at hr3
                      have hr2 := HA.out.symm.trans hr3
                      injection hr2 with e1 e2
                      subst e1
                      subst e2
                      have l3 : ¬ (y : Int) ≤ 2 * (r : Int) := by omega
                      have hor : (q : Int) < 70368744177664 ∨ ((q : Int) = 70368744177664 ∧ (r : Int) = 0) := by omega
                      obtain ⟨Q, hQ⟩ : ∃ Q : Int, (q : Int) = Q := ⟨_, rfl⟩
                      obtain ⟨R, hRR⟩ : ∃ R : Int, (r : Int) = R := ⟨_, rfl⟩
                      rw [hQ] at b9 b10 hor
                      rw [hRR] at b5 b6 hor l3
                      have HQQ := hid hQ
                      rw [hQ, hRR]
                      clear hN1 hN2 hr3 hq hr hry hj hje hjt hlast h2r hqm hQ hRR
                      rcases hor with l4 | ⟨l4, l5⟩
                      all_goals
                        go_wp2_with fail
                        go_ret2
                        first
                        | exact ⟨congrArg (fun z => Ending.returned (.tuple #[.int .i64 z, .int .i64 0])) (show Q = (q : Int) from HQQ.out.symm), rfl⟩
                        | exact ⟨congrArg (fun z => Ending.returned (.tuple #[.int .i64 z, .int .i64 0])) (show (70368744177664 : Int) = (q : Int) by have := HQQ.out; omega), rfl⟩
    · have HFO := hid (form_plain (by rw [hn]; exact h1) (by rw [hn]; exact hdot))
      rw [hn, ← bl_front, ← bl_behind s n] at HFO
      have HDT := hid (show Dgs (bl (s.extract 0 n)) by rw [bl_front, ← hn]; exact dg_pre _)
      have HTZ := hid (show (s.extract 0 n).size ≤ 19 by rw [ByteArray.size_extract]; omega)
      have HK4 := hid (show 0 ≤ 4 by omega)
      have hor : s.size ≤ n ∨ ∃ h : n < s.size, ¬ (s[n]).toNat = 46 := by
        rcases Nat.lt_or_ge n s.size with g | g
        · refine .inr ⟨g, fun e => hdot ?_⟩
          rw [List.head?_drop, byte_at s n g, e]
        · exact .inl g
      rcases hor with hge | ⟨hlt, hne46⟩
      · have hli : ¬ (n : Int) < (s.size : Int) := by omega
        clear hdot hge hn hdz
        go_enter Tryd.func9, Tryd.ntmps9
        go_wp2_with fail
        refine (HD.out _).mono ?_
        rintro e w1 ⟨rfl, rfl⟩
        go_wp2_with fail
        obtain ⟨b, hb⟩ : ∃ b, s.extract n s.size = b := ⟨_, rfl⟩
        obtain ⟨T, hT⟩ : ∃ T, s.extract 0 n = T := ⟨_, rfl⟩
        rw [hb] at HFO
        rw [hT] at HFO HDT HTZ
        have HBB := hid hb
        rw [hb, hT]
        have HTT := hid hT
        clear hT
        have hTs : (T.size : Int) ≤ 19 := by have := HTZ.out; omega
        refine (refUnit_any b size _).mono ?_
        rintro e w2 ⟨rfl, rfl⟩
        rcases unit_ways b with ⟨hm, hu⟩ | hbe | ⟨nn, d, hm, hu, hne, heq, hnn, hd⟩
        · rw [ref_unit_none hu]
          have hr2 := HA.out.symm.trans (rd_unit HFO.out (hu _))
          injection hr2 with e1 e2
          subst e1
          subst e2
          clear hm hu hb
          go_wp2_with fail
          go_ret2
          exact ⟨rfl, rfl⟩
        · have hble : bl b = [101, 109] := by rw [hbe]; rfl
          have heq : (b.toList == [101, 109]) = true := by rw [hbe, ByteArray.toList_eq]; rfl
          rw [hble, ref_unit_em]
          by_cases hlen : 0 ≤ size ∧ size ≤ 70368744177664
          · obtain ⟨nn, rfl⟩ : ∃ m : Nat, size = (m : Int) := ⟨size.toNat, by omega⟩
            have HR := hid (rd_near (n := nn) (d := 1) (size := (nn : Int)) HFO.out (by rw [hble]; rfl) (by rintro ⟨_, h⟩; omega))
            have HNN := hid (show nn ≤ 70368744177664 by omega)
            obtain ⟨d, hd⟩ : ∃ d : Nat, 1 = d := ⟨_, rfl⟩
            rw [hd] at HR
            have hdi : (1 : Int) = (d : Int) := by omega
            have HDD : Hid (d = 1 ∨ d = 127) := .inl hd.symm
            have g1 : ¬ (nn : Int) < 0 := by omega
            have g2 : ¬ (70368744177664 : Int) < (nn : Int) := by omega
            have g3 : (nn : Int) ≤ 70368744177664 := by omega
            have HDE := hid hd
            clear hlen hble hd hbe hz0 hz1 hdi
            go_wp2_with fail
            go_loop [13, 14] (fun low i => ∃ j : Nat, j ≤ 0 ∧ i = .int .i64 j ∧ low = .int .i64 (d * 10 ^ j : Nat)) (fun _ i => 0 - (intOf i).toNat)
            case atStart => exact ⟨0, by omega, rfl, by rw [Nat.pow_zero, Nat.mul_one, ← HDE.out]; rfl⟩
            case round =>
              obtain ⟨j, hj, rfl, rfl⟩ := hrel
              obtain ⟨y, hy⟩ : ∃ y, d * 10 ^ j = y := ⟨_, rfl⟩
              rw [hy]
              have hy1 : y ≤ 1270000 := by
                rw [← hy]
                exact Nat.mul_le_mul (show d ≤ 127 by have := HDD.out; omega) (Nat.pow_le_pow_right (i := j) (j := 4) (by decide) (by have := HK4.out; omega))
              have hy2 : (y : Int) ≤ 1270000 := by omega
              have hy0 : (0 : Int) ≤ (y : Int) := by omega
              have HY := hid hy
              by_cases hjk : j < 0
              · exact absurd hjk (by omega)
              · have hjk' : ¬ (j : Int) < (0 : Int) := by omega
                have hje : j = 0 := by omega
                have hyp : 0 < y := by
                  rw [← hy]; exact Nat.mul_pos (by have := HDD.out; omega) (Nat.pow_pos (by decide))
                have hR := HR.out
                have hyk : d * 10 ^ 0 = y := by rw [← hy, hje]
                rw [hyk] at hR
                have HR2 := hid hR
                have HYP := hid hyp
                have hy3 : (0 : Int) < (y : Int) := by omega
                clear hy hy1 hjk hj hje hyk hR HY HR hyp hy0
                go_wp2_with fail
                go_loop [15, 16, 17] (fun q r i => ∃ (j q1 r1 : Nat), j ≤ T.size ∧ i = .int .i64 j ∧ q = .int .i64 q1 ∧ r = .int .i64 r1 ∧ (num 0 ((bl T).take j) * nn) / y = q1 ∧ (num 0 ((bl T).take j) * nn) % y = r1 ∧ q1 ≤ 70368744177664) (fun _ _ i => T.size - (intOf i).toNat)
                case atStart =>
                  refine ⟨0, 0, 0, by omega, rfl, rfl, rfl, ?_, ?_, by omega⟩
                  · rw [List.take_zero]; show (0 * nn) / y = 0; rw [Nat.zero_mul, Nat.zero_div]
                  · rw [List.take_zero]; show (0 * nn) % y = 0; rw [Nat.zero_mul, Nat.zero_mod]
                case round =>
                  obtain ⟨j, q, r, hj, rfl, rfl, rfl, hq, hr, hqm⟩ := hrel
                  have hry : r < y := by rw [← hr]; exact Nat.mod_lt _ HYP.out
                  by_cases hjt : j < T.size
                  · have hget := byte_at T j hjt
                    have hsn := num_snoc 0 hget
                    have hcd := HDT.out (T[j]).toNat (List.mem_of_getElem? hget)
                    obtain ⟨x, hx⟩ : ∃ x, ((T[j]).toNat - 48) * nn = x := ⟨_, rfl⟩
                    have hx1 : x ≤ 633318697598976 := by
                      rw [← hx]; exact Nat.mul_le_mul (show (T[j]).toNat - 48 ≤ 9 by omega) HNN.out
                    have hxi : (((T[j]).toNat : Int) - 48) * (nn : Int) = (x : Int) := by
                      rw [← hx, ← Int.natCast_mul_natCast_sub48 hcd.1]
                    have hst := digit_step (c := (T[j]).toNat - 48) (n := nn) HYP.out hq hr
                    rw [hx] at hst
                    have hnx : num 0 ((bl T).take (j + 1)) * nn = 10 * (num 0 ((bl T).take j) * nn) + x := by
                      rw [hsn, Nat.add_mul, hx, Nat.mul_assoc]
                    rw [← hnx] at hst
                    obtain ⟨Q2, hQ2⟩ : ∃ Q2, (10 * r + x) / y = Q2 := ⟨_, rfl⟩
                    obtain ⟨R2, hR2⟩ : ∃ R2, (10 * r + x) % y = R2 := ⟨_, rfl⟩
                    rw [hQ2, hR2] at hst
                    have hQ2i : (10 * (r : Int) + (x : Int)) / (y : Int) = (Q2 : Int) := by rw [← hQ2, Int.natCast_ediv, Int.natCast_add, Int.natCast_mul]; rfl
                    have hR2i : (10 * (r : Int) + (x : Int)) % (y : Int) = (R2 : Int) := by rw [← hR2, Int.natCast_emod, Int.natCast_add, Int.natCast_mul]; rfl
                    have hQ2m : Q2 ≤ 633318710298976 := by rw [← hQ2]; exact Nat.le_trans (Nat.div_le_self _ _) (by omega)
                    have HST := hid hst
                    have HJT := hid hjt
                    have b1 : (48 : Int) ≤ ((T[j]).toNat : Int) := by omega
                    have b2 : ((T[j]).toNat : Int) ≤ 57 := by omega
                    have b3 : (0 : Int) ≤ (x : Int) := by omega
                    have b4 : (x : Int) ≤ 633318697598976 := by omega
                    have b5 : (0 : Int) ≤ (r : Int) := by omega
                    have b6 : (r : Int) ≤ 1270000 := by omega
                    have b7 : (0 : Int) ≤ (Q2 : Int) := by omega
                    have b8 : (Q2 : Int) ≤ 633318710298976 := by omega
                    have b9 : (0 : Int) ≤ (q : Int) := by omega
                    have b10 : (q : Int) ≤ 70368744177664 := by omega
                    have b11 : (j : Int) < (T.size : Int) := by omega
                    by_cases hmx : 70368744177664 < 10 * q + Q2
                    · have hmi : (70368744177664 : Int) < 10 * (q : Int) + (Q2 : Int) := by omega
                      have hno : near (num 0 (bl T) * nn) y = none := by
                        refine near_none (.inl ?_)
                        have h1 := num_take_le 0 (bl T) (j + 1)
                        have h2 := Nat.div_le_div_right (c := y) (Nat.mul_le_mul_right nn h1)
                        rw [hst.1] at h2
                        omega
                      have hr3 := HR2.out
                      rw [hno] at hr3
                      have hr2 := HA.out.symm.trans hr3
                      injection hr2 with e1 e2
                      subst e1
                      subst e2
                      clear hget hsn hcd hx hx1 hst hnx hQ2 hR2 hQ2m hq hr hqm hry hj hmx hno hr3
                      go_wp2_with fail
                      go_ret2
                      exact ⟨rfl, rfl⟩
                    · have hmi : ¬ (70368744177664 : Int) < 10 * (q : Int) + (Q2 : Int) := by omega
                      have HMX := hid hmx
                      clear hget hsn hcd hx hx1 hst hnx hQ2 hR2 hQ2m hq hr hqm hry hj hmx
                      go_wp2_with fail
                      go_round
                      case rel => exact ⟨j + 1, 10 * q + Q2, R2, by omega, by go_num, by go_num, by first | rfl | exact congrArg (Value.int IntKind.i64) hR2i, HST.out.1, HST.out.2, by have := HMX.out; omega⟩
                      case measure => simp [intOf]; omega
                  · have hje : j = T.size := by omega
                    rw [List.take_of_length_le (by rw [bl_length]; omega)] at hq hr
                    have b11 : ¬ (j : Int) < (T.size : Int) := by omega
                    have hN1 := @near_none (num 0 (bl T) * nn) y
                    have hN2 := @near_some (num 0 (bl T) * nn) y
                    rw [hq, hr] at hN1 hN2
                    have b9 : (0 : Int) ≤ (q : Int) := by omega
                    have b10 : (q : Int) ≤ 70368744177664 := by omega
                    have b5 : (0 : Int) ≤ (r : Int) := by omega
                    have b6 : (r : Int) < (y : Int) := by omega
                    have hr3 := HR2.out
                    by_cases hlast : q = 70368744177664 ∧ 0 < r
                    · rw [hN1 (.inr hlast)] at hr3
                      have hr2 := HA.out.symm.trans hr3
                      injection hr2 with e1 e2
                      subst e1
                      subst e2
                      obtain ⟨l1, l2⟩ := hlast
                      subst l1
                      have l3 : (0 : Int) < (r : Int) := by omega
                      clear hN1 hN2 hr3 hq hr hry hj hje hjt l2 hqm b9 b10
                      go_wp2_with fail
                      go_ret2
                      exact ⟨rfl, rfl⟩
                    · rw [hN2 (by omega)] at hr3
                      by_cases h2r : y ≤ 2 * r
                      · rw [if_pos h2r] at hr3
                        have hr2 := HA.out.symm.trans hr3
                        injection hr2 with e1 e2
                        subst e1
                        subst e2
                        have l3 : (y : Int) ≤ 2 * (r : Int) := by omega
                        have l4 : (q : Int) < 70368744177664 := by omega
                        obtain ⟨Q, hQ⟩ : ∃ Q : Int, (q : Int) = Q := ⟨_, rfl⟩
                        rw [hQ] at b9 b10 l4
                        have HQQ := hid hQ
                        rw [hQ]
                        clear hN1 hN2 hr3 hq hr hry hj hje hjt hlast h2r hqm hQ
                        go_wp2_with fail
                        go_ret2
                        exact ⟨congrArg (fun z => Ending.returned (.tuple #[.int .i64 z, .int .i64 0])) (show Q + 1 = ((q + 1 : Nat) : Int) by have := HQQ.out; omega), rfl⟩
                      · rw [if_neg h2r] at hr3
                        have hr2 := HA.out.symm.trans hr3
                        injection hr2 with e1 e2
                        subst e1
                        subst e2
                        have l3 : ¬ (y : Int) ≤ 2 * (r : Int) := by omega
                        have hor : (q : Int) < 70368744177664 ∨ ((q : Int) = 70368744177664 ∧ (r : Int) = 0) := by omega
                        obtain ⟨Q, hQ⟩ : ∃ Q : Int, (q : Int) = Q := ⟨_, rfl⟩
                        obtain ⟨R, hRR⟩ : ∃ R : Int, (r : Int) = R := ⟨_, rfl⟩
                        rw [hQ] at b9 b10 hor
                        rw [hRR] at b5 b6 hor l3
                        have HQQ := hid hQ
                        rw [hQ, hRR]
                        clear hN1 hN2 hr3 hq hr hry hj hje hjt hlast h2r hqm hQ hRR
                        rcases hor with l4 | ⟨l4, l5⟩
                        all_goals
                          go_wp2_with fail
                          go_ret2
                          first
                          | exact ⟨congrArg (fun z => Ending.returned (.tuple #[.int .i64 z, .int .i64 0])) (show Q = (q : Int) from HQQ.out.symm), rfl⟩
                          | exact ⟨congrArg (fun z => Ending.returned (.tuple #[.int .i64 z, .int .i64 0])) (show (70368744177664 : Int) = (q : Int) by have := HQQ.out; omega), rfl⟩
          · have hr2 := HA.out.symm.trans (rd_em HFO.out (n := size.toNat) (d := 1) (by rw [hble]; rfl) ⟨hble, by omega⟩)
            injection hr2 with e1 e2
            subst e1
            subst e2
            have hor : size < 0 ∨ (¬ size < 0 ∧ 70368744177664 < size) := by omega
            clear hlen hble hbe
            rcases hor with g1 | ⟨g1, g2⟩
            all_goals
              go_wp2_with fail
              go_ret2
              exact ⟨rfl, rfl⟩
        · rw [ref_unit_some hu hne]
          have HR := hid (rd_near (size := size) HFO.out (hu size.toNat) (fun h => hne h.1))
          have HNN := hid (show nn ≤ 70368744177664 by omega)
          have HDD := hid hd
          have g3 : (nn : Int) ≤ 70368744177664 := by omega
          clear hm hu hne hnn hd
          go_wp2_with fail
          go_loop [13, 14] (fun low i => ∃ j : Nat, j ≤ 0 ∧ i = .int .i64 j ∧ low = .int .i64 (d * 10 ^ j : Nat)) (fun _ i => 0 - (intOf i).toNat)
          case atStart => exact ⟨0, by omega, rfl, by rw [Nat.pow_zero, Nat.mul_one]⟩
          case round =>
            obtain ⟨j, hj, rfl, rfl⟩ := hrel
            obtain ⟨y, hy⟩ : ∃ y, d * 10 ^ j = y := ⟨_, rfl⟩
            rw [hy]
            have hy1 : y ≤ 1270000 := by
              rw [← hy]
              exact Nat.mul_le_mul (show d ≤ 127 by have := HDD.out; omega) (Nat.pow_le_pow_right (i := j) (j := 4) (by decide) (by have := HK4.out; omega))
            have hy2 : (y : Int) ≤ 1270000 := by omega
            have hy0 : (0 : Int) ≤ (y : Int) := by omega
            have HY := hid hy
            by_cases hjk : j < 0
            · exact absurd hjk (by omega)
            · have hjk' : ¬ (j : Int) < (0 : Int) := by omega
              have hje : j = 0 := by omega
              have hyp : 0 < y := by
                rw [← hy]; exact Nat.mul_pos (by have := HDD.out; omega) (Nat.pow_pos (by decide))
              have hR := HR.out
              have hyk : d * 10 ^ 0 = y := by rw [← hy, hje]
              rw [hyk] at hR
              have HR2 := hid hR
              have HYP := hid hyp
              have hy3 : (0 : Int) < (y : Int) := by omega
              clear hy hy1 hjk hj hje hyk hR HY HR hyp hy0
              go_wp2_with fail
              go_loop [15, 16, 17] (fun q r i => ∃ (j q1 r1 : Nat), j ≤ T.size ∧ i = .int .i64 j ∧ q = .int .i64 q1 ∧ r = .int .i64 r1 ∧ (num 0 ((bl T).take j) * nn) / y = q1 ∧ (num 0 ((bl T).take j) * nn) % y = r1 ∧ q1 ≤ 70368744177664) (fun _ _ i => T.size - (intOf i).toNat)
              case atStart =>
                refine ⟨0, 0, 0, by omega, rfl, rfl, rfl, ?_, ?_, by omega⟩
                · rw [List.take_zero]; show (0 * nn) / y = 0; rw [Nat.zero_mul, Nat.zero_div]
                · rw [List.take_zero]; show (0 * nn) % y = 0; rw [Nat.zero_mul, Nat.zero_mod]
              case round =>
                obtain ⟨j, q, r, hj, rfl, rfl, rfl, hq, hr, hqm⟩ := hrel
                have hry : r < y := by rw [← hr]; exact Nat.mod_lt _ HYP.out
                by_cases hjt : j < T.size
                · have hget := byte_at T j hjt
                  have hsn := num_snoc 0 hget
                  have hcd := HDT.out (T[j]).toNat (List.mem_of_getElem? hget)
                  obtain ⟨x, hx⟩ : ∃ x, ((T[j]).toNat - 48) * nn = x := ⟨_, rfl⟩
                  have hx1 : x ≤ 633318697598976 := by
                    rw [← hx]; exact Nat.mul_le_mul (show (T[j]).toNat - 48 ≤ 9 by omega) HNN.out
                  have hxi : (((T[j]).toNat : Int) - 48) * (nn : Int) = (x : Int) := by
                    rw [← hx, ← Int.natCast_mul_natCast_sub48 hcd.1]
                  have hst := digit_step (c := (T[j]).toNat - 48) (n := nn) HYP.out hq hr
                  rw [hx] at hst
                  have hnx : num 0 ((bl T).take (j + 1)) * nn = 10 * (num 0 ((bl T).take j) * nn) + x := by
                    rw [hsn, Nat.add_mul, hx, Nat.mul_assoc]
                  rw [← hnx] at hst
                  obtain ⟨Q2, hQ2⟩ : ∃ Q2, (10 * r + x) / y = Q2 := ⟨_, rfl⟩
                  obtain ⟨R2, hR2⟩ : ∃ R2, (10 * r + x) % y = R2 := ⟨_, rfl⟩
                  rw [hQ2, hR2] at hst
                  have hQ2i : (10 * (r : Int) + (x : Int)) / (y : Int) = (Q2 : Int) := by rw [← hQ2, Int.natCast_ediv, Int.natCast_add, Int.natCast_mul]; rfl
                  have hR2i : (10 * (r : Int) + (x : Int)) % (y : Int) = (R2 : Int) := by rw [← hR2, Int.natCast_emod, Int.natCast_add, Int.natCast_mul]; rfl
                  have hQ2m : Q2 ≤ 633318710298976 := by rw [← hQ2]; exact Nat.le_trans (Nat.div_le_self _ _) (by omega)
                  have HST := hid hst
                  have HJT := hid hjt
                  have b1 : (48 : Int) ≤ ((T[j]).toNat : Int) := by omega
                  have b2 : ((T[j]).toNat : Int) ≤ 57 := by omega
                  have b3 : (0 : Int) ≤ (x : Int) := by omega
                  have b4 : (x : Int) ≤ 633318697598976 := by omega
                  have b5 : (0 : Int) ≤ (r : Int) := by omega
                  have b6 : (r : Int) ≤ 1270000 := by omega
                  have b7 : (0 : Int) ≤ (Q2 : Int) := by omega
                  have b8 : (Q2 : Int) ≤ 633318710298976 := by omega
                  have b9 : (0 : Int) ≤ (q : Int) := by omega
                  have b10 : (q : Int) ≤ 70368744177664 := by omega
                  have b11 : (j : Int) < (T.size : Int) := by omega
                  by_cases hmx : 70368744177664 < 10 * q + Q2
                  · have hmi : (70368744177664 : Int) < 10 * (q : Int) + (Q2 : Int) := by omega
                    have hno : near (num 0 (bl T) * nn) y = none := by
                      refine near_none (.inl ?_)
                      have h1 := num_take_le 0 (bl T) (j + 1)
                      have h2 := Nat.div_le_div_right (c := y) (Nat.mul_le_mul_right nn h1)
                      rw [hst.1] at h2
                      omega
                    have hr3 := HR2.out
                    rw [hno] at hr3
                    have hr2 := HA.out.symm.trans hr3
                    injection hr2 with e1 e2
                    subst e1
                    subst e2
                    clear hget hsn hcd hx hx1 hst hnx hQ2 hR2 hQ2m hq hr hqm hry hj hmx hno hr3
                    go_wp2_with fail
                    go_ret2
                    exact ⟨rfl, rfl⟩
                  · have hmi : ¬ (70368744177664 : Int) < 10 * (q : Int) + (Q2 : Int) := by omega
                    have HMX := hid hmx
                    clear hget hsn hcd hx hx1 hst hnx hQ2 hR2 hQ2m hq hr hqm hry hj hmx
                    go_wp2_with fail
                    go_round
                    case rel => exact ⟨j + 1, 10 * q + Q2, R2, by omega, by go_num, by go_num, by first | rfl | exact congrArg (Value.int IntKind.i64) hR2i, HST.out.1, HST.out.2, by have := HMX.out; omega⟩
                    case measure => simp [intOf]; omega
                · have hje : j = T.size := by omega
                  rw [List.take_of_length_le (by rw [bl_length]; omega)] at hq hr
                  have b11 : ¬ (j : Int) < (T.size : Int) := by omega
                  have hN1 := @near_none (num 0 (bl T) * nn) y
                  have hN2 := @near_some (num 0 (bl T) * nn) y
                  rw [hq, hr] at hN1 hN2
                  have b9 : (0 : Int) ≤ (q : Int) := by omega
                  have b10 : (q : Int) ≤ 70368744177664 := by omega
                  have b5 : (0 : Int) ≤ (r : Int) := by omega
                  have b6 : (r : Int) < (y : Int) := by omega
                  have hr3 := HR2.out
                  by_cases hlast : q = 70368744177664 ∧ 0 < r
                  · rw [hN1 (.inr hlast)] at hr3
                    have hr2 := HA.out.symm.trans hr3
                    injection hr2 with e1 e2
                    subst e1
                    subst e2
                    obtain ⟨l1, l2⟩ := hlast
                    subst l1
                    have l3 : (0 : Int) < (r : Int) := by omega
                    clear hN1 hN2 hr3 hq hr hry hj hje hjt l2 hqm b9 b10
                    go_wp2_with fail
                    go_ret2
                    exact ⟨rfl, rfl⟩
                  · rw [hN2 (by omega)] at hr3
                    by_cases h2r : y ≤ 2 * r
                    · rw [if_pos h2r] at hr3
                      have hr2 := HA.out.symm.trans hr3
                      injection hr2 with e1 e2
                      subst e1
                      subst e2
                      have l3 : (y : Int) ≤ 2 * (r : Int) := by omega
                      have l4 : (q : Int) < 70368744177664 := by omega
                      obtain ⟨Q, hQ⟩ : ∃ Q : Int, (q : Int) = Q := ⟨_, rfl⟩
                      rw [hQ] at b9 b10 l4
                      have HQQ := hid hQ
                      rw [hQ]
                      clear hN1 hN2 hr3 hq hr hry hj hje hjt hlast h2r hqm hQ
                      go_wp2_with fail
                      go_ret2
                      exact ⟨congrArg (fun z => Ending.returned (.tuple #[.int .i64 z, .int .i64 0])) (show Q + 1 = ((q + 1 : Nat) : Int) by have := HQQ.out; omega), rfl⟩
                    · rw [if_neg h2r] at hr3
                      have hr2 := HA.out.symm.trans hr3
                      injection hr2 with e1 e2
                      subst e1
                      subst e2
                      have l3 : ¬ (y : Int) ≤ 2 * (r : Int) := by omega
                      have hor : (q : Int) < 70368744177664 ∨ ((q : Int) = 70368744177664 ∧ (r : Int) = 0) := by omega
                      obtain ⟨Q, hQ⟩ : ∃ Q : Int, (q : Int) = Q := ⟨_, rfl⟩
                      obtain ⟨R, hRR⟩ : ∃ R : Int, (r : Int) = R := ⟨_, rfl⟩
                      rw [hQ] at b9 b10 hor
                      rw [hRR] at b5 b6 hor l3
                      have HQQ := hid hQ
                      rw [hQ, hRR]
                      clear hN1 hN2 hr3 hq hr hry hj hje hjt hlast h2r hqm hQ hRR
                      rcases hor with l4 | ⟨l4, l5⟩
                      all_goals
                        go_wp2_with fail
                        go_ret2
                        first
                        | exact ⟨congrArg (fun z => Ending.returned (.tuple #[.int .i64 z, .int .i64 0])) (show Q = (q : Int) from HQQ.out.symm), rfl⟩
                        | exact ⟨congrArg (fun z => Ending.returned (.tuple #[.int .i64 z, .int .i64 0])) (show (70368744177664 : Int) = (q : Int) by have := HQQ.out; omega), rfl⟩
      · have hli : (n : Int) < (s.size : Int) := by omega
        have hbi : ¬ ((s[n]).toNat : Int) = 46 := by omega
        clear hdot hne46 hn hdz
        go_enter Tryd.func9, Tryd.ntmps9
        go_wp2_with fail
        refine (HD.out _).mono ?_
        rintro e w1 ⟨rfl, rfl⟩
        go_wp2_with fail
        obtain ⟨b, hb⟩ : ∃ b, s.extract n s.size = b := ⟨_, rfl⟩
        obtain ⟨T, hT⟩ : ∃ T, s.extract 0 n = T := ⟨_, rfl⟩
        rw [hb] at HFO
        rw [hT] at HFO HDT HTZ
        have HBB := hid hb
        rw [hb, hT]
        have HTT := hid hT
        clear hT
        have hTs : (T.size : Int) ≤ 19 := by have := HTZ.out; omega
        refine (refUnit_any b size _).mono ?_
        rintro e w2 ⟨rfl, rfl⟩
        rcases unit_ways b with ⟨hm, hu⟩ | hbe | ⟨nn, d, hm, hu, hne, heq, hnn, hd⟩
        · rw [ref_unit_none hu]
          have hr2 := HA.out.symm.trans (rd_unit HFO.out (hu _))
          injection hr2 with e1 e2
          subst e1
          subst e2
          clear hm hu hb
          go_wp2_with fail
          go_ret2
          exact ⟨rfl, rfl⟩
        · have hble : bl b = [101, 109] := by rw [hbe]; rfl
          have heq : (b.toList == [101, 109]) = true := by rw [hbe, ByteArray.toList_eq]; rfl
          rw [hble, ref_unit_em]
          by_cases hlen : 0 ≤ size ∧ size ≤ 70368744177664
          · obtain ⟨nn, rfl⟩ : ∃ m : Nat, size = (m : Int) := ⟨size.toNat, by omega⟩
            have HR := hid (rd_near (n := nn) (d := 1) (size := (nn : Int)) HFO.out (by rw [hble]; rfl) (by rintro ⟨_, h⟩; omega))
            have HNN := hid (show nn ≤ 70368744177664 by omega)
            obtain ⟨d, hd⟩ : ∃ d : Nat, 1 = d := ⟨_, rfl⟩
            rw [hd] at HR
            have hdi : (1 : Int) = (d : Int) := by omega
            have HDD : Hid (d = 1 ∨ d = 127) := .inl hd.symm
            have g1 : ¬ (nn : Int) < 0 := by omega
            have g2 : ¬ (70368744177664 : Int) < (nn : Int) := by omega
            have g3 : (nn : Int) ≤ 70368744177664 := by omega
            have HDE := hid hd
            clear hlen hble hd hbe hz0 hz1 hdi
            go_wp2_with fail
            go_loop [13, 14] (fun low i => ∃ j : Nat, j ≤ 0 ∧ i = .int .i64 j ∧ low = .int .i64 (d * 10 ^ j : Nat)) (fun _ i => 0 - (intOf i).toNat)
            case atStart => exact ⟨0, by omega, rfl, by rw [Nat.pow_zero, Nat.mul_one, ← HDE.out]; rfl⟩
            case round =>
              obtain ⟨j, hj, rfl, rfl⟩ := hrel
              obtain ⟨y, hy⟩ : ∃ y, d * 10 ^ j = y := ⟨_, rfl⟩
              rw [hy]
              have hy1 : y ≤ 1270000 := by
                rw [← hy]
                exact Nat.mul_le_mul (show d ≤ 127 by have := HDD.out; omega) (Nat.pow_le_pow_right (i := j) (j := 4) (by decide) (by have := HK4.out; omega))
              have hy2 : (y : Int) ≤ 1270000 := by omega
              have hy0 : (0 : Int) ≤ (y : Int) := by omega
              have HY := hid hy
              by_cases hjk : j < 0
              · exact absurd hjk (by omega)
              · have hjk' : ¬ (j : Int) < (0 : Int) := by omega
                have hje : j = 0 := by omega
                have hyp : 0 < y := by
                  rw [← hy]; exact Nat.mul_pos (by have := HDD.out; omega) (Nat.pow_pos (by decide))
                have hR := HR.out
                have hyk : d * 10 ^ 0 = y := by rw [← hy, hje]
                rw [hyk] at hR
                have HR2 := hid hR
                have HYP := hid hyp
                have hy3 : (0 : Int) < (y : Int) := by omega
                clear hy hy1 hjk hj hje hyk hR HY HR hyp hy0
                go_wp2_with fail
                go_loop [15, 16, 17] (fun q r i => ∃ (j q1 r1 : Nat), j ≤ T.size ∧ i = .int .i64 j ∧ q = .int .i64 q1 ∧ r = .int .i64 r1 ∧ (num 0 ((bl T).take j) * nn) / y = q1 ∧ (num 0 ((bl T).take j) * nn) % y = r1 ∧ q1 ≤ 70368744177664) (fun _ _ i => T.size - (intOf i).toNat)
                case atStart =>
                  refine ⟨0, 0, 0, by omega, rfl, rfl, rfl, ?_, ?_, by omega⟩
                  · rw [List.take_zero]; show (0 * nn) / y = 0; rw [Nat.zero_mul, Nat.zero_div]
                  · rw [List.take_zero]; show (0 * nn) % y = 0; rw [Nat.zero_mul, Nat.zero_mod]
                case round =>
                  obtain ⟨j, q, r, hj, rfl, rfl, rfl, hq, hr, hqm⟩ := hrel
                  have hry : r < y := by rw [← hr]; exact Nat.mod_lt _ HYP.out
                  by_cases hjt : j < T.size
                  · have hget := byte_at T j hjt
                    have hsn := num_snoc 0 hget
                    have hcd := HDT.out (T[j]).toNat (List.mem_of_getElem? hget)
                    obtain ⟨x, hx⟩ : ∃ x, ((T[j]).toNat - 48) * nn = x := ⟨_, rfl⟩
                    have hx1 : x ≤ 633318697598976 := by
                      rw [← hx]; exact Nat.mul_le_mul (show (T[j]).toNat - 48 ≤ 9 by omega) HNN.out
                    have hxi : (((T[j]).toNat : Int) - 48) * (nn : Int) = (x : Int) := by
                      rw [← hx, ← Int.natCast_mul_natCast_sub48 hcd.1]
                    have hst := digit_step (c := (T[j]).toNat - 48) (n := nn) HYP.out hq hr
                    rw [hx] at hst
                    have hnx : num 0 ((bl T).take (j + 1)) * nn = 10 * (num 0 ((bl T).take j) * nn) + x := by
                      rw [hsn, Nat.add_mul, hx, Nat.mul_assoc]
                    rw [← hnx] at hst
                    obtain ⟨Q2, hQ2⟩ : ∃ Q2, (10 * r + x) / y = Q2 := ⟨_, rfl⟩
                    obtain ⟨R2, hR2⟩ : ∃ R2, (10 * r + x) % y = R2 := ⟨_, rfl⟩
                    rw [hQ2, hR2] at hst
                    have hQ2i : (10 * (r : Int) + (x : Int)) / (y : Int) = (Q2 : Int) := by rw [← hQ2, Int.natCast_ediv, Int.natCast_add, Int.natCast_mul]; rfl
                    have hR2i : (10 * (r : Int) + (x : Int)) % (y : Int) = (R2 : Int) := by rw [← hR2, Int.natCast_emod, Int.natCast_add, Int.natCast_mul]; rfl
                    have hQ2m : Q2 ≤ 633318710298976 := by rw [← hQ2]; exact Nat.le_trans (Nat.div_le_self _ _) (by omega)
                    have HST := hid hst
                    have HJT := hid hjt
                    have b1 : (48 : Int) ≤ ((T[j]).toNat : Int) := by omega
                    have b2 : ((T[j]).toNat : Int) ≤ 57 := by omega
                    have b3 : (0 : Int) ≤ (x : Int) := by omega
                    have b4 : (x : Int) ≤ 633318697598976 := by omega
                    have b5 : (0 : Int) ≤ (r : Int) := by omega
                    have b6 : (r : Int) ≤ 1270000 := by omega
                    have b7 : (0 : Int) ≤ (Q2 : Int) := by omega
                    have b8 : (Q2 : Int) ≤ 633318710298976 := by omega
                    have b9 : (0 : Int) ≤ (q : Int) := by omega
                    have b10 : (q : Int) ≤ 70368744177664 := by omega
                    have b11 : (j : Int) < (T.size : Int) := by omega
                    by_cases hmx : 70368744177664 < 10 * q + Q2
                    · have hmi : (70368744177664 : Int) < 10 * (q : Int) + (Q2 : Int) := by omega
                      have hno : near (num 0 (bl T) * nn) y = none := by
                        refine near_none (.inl ?_)
                        have h1 := num_take_le 0 (bl T) (j + 1)
                        have h2 := Nat.div_le_div_right (c := y) (Nat.mul_le_mul_right nn h1)
                        rw [hst.1] at h2
                        omega
                      have hr3 := HR2.out
                      rw [hno] at hr3
                      have hr2 := HA.out.symm.trans hr3
                      injection hr2 with e1 e2
                      subst e1
                      subst e2
                      clear hget hsn hcd hx hx1 hst hnx hQ2 hR2 hQ2m hq hr hqm hry hj hmx hno hr3
                      go_wp2_with fail
                      go_ret2
                      exact ⟨rfl, rfl⟩
                    · have hmi : ¬ (70368744177664 : Int) < 10 * (q : Int) + (Q2 : Int) := by omega
                      have HMX := hid hmx
                      clear hget hsn hcd hx hx1 hst hnx hQ2 hR2 hQ2m hq hr hqm hry hj hmx
                      go_wp2_with fail
                      go_round
                      case rel => exact ⟨j + 1, 10 * q + Q2, R2, by omega, by go_num, by go_num, by first | rfl | exact congrArg (Value.int IntKind.i64) hR2i, HST.out.1, HST.out.2, by have := HMX.out; omega⟩
                      case measure => simp [intOf]; omega
                  · have hje : j = T.size := by omega
                    rw [List.take_of_length_le (by rw [bl_length]; omega)] at hq hr
                    have b11 : ¬ (j : Int) < (T.size : Int) := by omega
                    have hN1 := @near_none (num 0 (bl T) * nn) y
                    have hN2 := @near_some (num 0 (bl T) * nn) y
                    rw [hq, hr] at hN1 hN2
                    have b9 : (0 : Int) ≤ (q : Int) := by omega
                    have b10 : (q : Int) ≤ 70368744177664 := by omega
                    have b5 : (0 : Int) ≤ (r : Int) := by omega
                    have b6 : (r : Int) < (y : Int) := by omega
                    have hr3 := HR2.out
                    by_cases hlast : q = 70368744177664 ∧ 0 < r
                    · rw [hN1 (.inr hlast)] at hr3
                      have hr2 := HA.out.symm.trans hr3
                      injection hr2 with e1 e2
                      subst e1
                      subst e2
                      obtain ⟨l1, l2⟩ := hlast
                      subst l1
                      have l3 : (0 : Int) < (r : Int) := by omega
                      clear hN1 hN2 hr3 hq hr hry hj hje hjt l2 hqm b9 b10
                      go_wp2_with fail
                      go_ret2
                      exact ⟨rfl, rfl⟩
                    · rw [hN2 (by omega)] at hr3
                      by_cases h2r : y ≤ 2 * r
                      · rw [if_pos h2r] at hr3
                        have hr2 := HA.out.symm.trans hr3
                        injection hr2 with e1 e2
                        subst e1
                        subst e2
                        have l3 : (y : Int) ≤ 2 * (r : Int) := by omega
                        have l4 : (q : Int) < 70368744177664 := by omega
                        obtain ⟨Q, hQ⟩ : ∃ Q : Int, (q : Int) = Q := ⟨_, rfl⟩
                        rw [hQ] at b9 b10 l4
                        have HQQ := hid hQ
                        rw [hQ]
                        clear hN1 hN2 hr3 hq hr hry hj hje hjt hlast h2r hqm hQ
                        go_wp2_with fail
                        go_ret2
                        exact ⟨congrArg (fun z => Ending.returned (.tuple #[.int .i64 z, .int .i64 0])) (show Q + 1 = ((q + 1 : Nat) : Int) by have := HQQ.out; omega), rfl⟩
                      · rw [if_neg h2r] at hr3
                        have hr2 := HA.out.symm.trans hr3
                        injection hr2 with e1 e2
                        subst e1
                        subst e2
                        have l3 : ¬ (y : Int) ≤ 2 * (r : Int) := by omega
                        have hor : (q : Int) < 70368744177664 ∨ ((q : Int) = 70368744177664 ∧ (r : Int) = 0) := by omega
                        obtain ⟨Q, hQ⟩ : ∃ Q : Int, (q : Int) = Q := ⟨_, rfl⟩
                        obtain ⟨R, hRR⟩ : ∃ R : Int, (r : Int) = R := ⟨_, rfl⟩
                        rw [hQ] at b9 b10 hor
                        rw [hRR] at b5 b6 hor l3
                        have HQQ := hid hQ
                        rw [hQ, hRR]
                        clear hN1 hN2 hr3 hq hr hry hj hje hjt hlast h2r hqm hQ hRR
                        rcases hor with l4 | ⟨l4, l5⟩
                        all_goals
                          go_wp2_with fail
                          go_ret2
                          first
                          | exact ⟨congrArg (fun z => Ending.returned (.tuple #[.int .i64 z, .int .i64 0])) (show Q = (q : Int) from HQQ.out.symm), rfl⟩
                          | exact ⟨congrArg (fun z => Ending.returned (.tuple #[.int .i64 z, .int .i64 0])) (show (70368744177664 : Int) = (q : Int) by have := HQQ.out; omega), rfl⟩
          · have hr2 := HA.out.symm.trans (rd_em HFO.out (n := size.toNat) (d := 1) (by rw [hble]; rfl) ⟨hble, by omega⟩)
            injection hr2 with e1 e2
            subst e1
            subst e2
            have hor : size < 0 ∨ (¬ size < 0 ∧ 70368744177664 < size) := by omega
            clear hlen hble hbe
            rcases hor with g1 | ⟨g1, g2⟩
            all_goals
              go_wp2_with fail
              go_ret2
              exact ⟨rfl, rfl⟩
        · rw [ref_unit_some hu hne]
          have HR := hid (rd_near (size := size) HFO.out (hu size.toNat) (fun h => hne h.1))
          have HNN := hid (show nn ≤ 70368744177664 by omega)
          have HDD := hid hd
          have g3 : (nn : Int) ≤ 70368744177664 := by omega
          clear hm hu hne hnn hd
          go_wp2_with fail
          go_loop [13, 14] (fun low i => ∃ j : Nat, j ≤ 0 ∧ i = .int .i64 j ∧ low = .int .i64 (d * 10 ^ j : Nat)) (fun _ i => 0 - (intOf i).toNat)
          case atStart => exact ⟨0, by omega, rfl, by rw [Nat.pow_zero, Nat.mul_one]⟩
          case round =>
            obtain ⟨j, hj, rfl, rfl⟩ := hrel
            obtain ⟨y, hy⟩ : ∃ y, d * 10 ^ j = y := ⟨_, rfl⟩
            rw [hy]
            have hy1 : y ≤ 1270000 := by
              rw [← hy]
              exact Nat.mul_le_mul (show d ≤ 127 by have := HDD.out; omega) (Nat.pow_le_pow_right (i := j) (j := 4) (by decide) (by have := HK4.out; omega))
            have hy2 : (y : Int) ≤ 1270000 := by omega
            have hy0 : (0 : Int) ≤ (y : Int) := by omega
            have HY := hid hy
            by_cases hjk : j < 0
            · exact absurd hjk (by omega)
            · have hjk' : ¬ (j : Int) < (0 : Int) := by omega
              have hje : j = 0 := by omega
              have hyp : 0 < y := by
                rw [← hy]; exact Nat.mul_pos (by have := HDD.out; omega) (Nat.pow_pos (by decide))
              have hR := HR.out
              have hyk : d * 10 ^ 0 = y := by rw [← hy, hje]
              rw [hyk] at hR
              have HR2 := hid hR
              have HYP := hid hyp
              have hy3 : (0 : Int) < (y : Int) := by omega
              clear hy hy1 hjk hj hje hyk hR HY HR hyp hy0
              go_wp2_with fail
              go_loop [15, 16, 17] (fun q r i => ∃ (j q1 r1 : Nat), j ≤ T.size ∧ i = .int .i64 j ∧ q = .int .i64 q1 ∧ r = .int .i64 r1 ∧ (num 0 ((bl T).take j) * nn) / y = q1 ∧ (num 0 ((bl T).take j) * nn) % y = r1 ∧ q1 ≤ 70368744177664) (fun _ _ i => T.size - (intOf i).toNat)
              case atStart =>
                refine ⟨0, 0, 0, by omega, rfl, rfl, rfl, ?_, ?_, by omega⟩
                · rw [List.take_zero]; show (0 * nn) / y = 0; rw [Nat.zero_mul, Nat.zero_div]
                · rw [List.take_zero]; show (0 * nn) % y = 0; rw [Nat.zero_mul, Nat.zero_mod]
              case round =>
                obtain ⟨j, q, r, hj, rfl, rfl, rfl, hq, hr, hqm⟩ := hrel
                have hry : r < y := by rw [← hr]; exact Nat.mod_lt _ HYP.out
                by_cases hjt : j < T.size
                · have hget := byte_at T j hjt
                  have hsn := num_snoc 0 hget
                  have hcd := HDT.out (T[j]).toNat (List.mem_of_getElem? hget)
                  obtain ⟨x, hx⟩ : ∃ x, ((T[j]).toNat - 48) * nn = x := ⟨_, rfl⟩
                  have hx1 : x ≤ 633318697598976 := by
                    rw [← hx]; exact Nat.mul_le_mul (show (T[j]).toNat - 48 ≤ 9 by omega) HNN.out
                  have hxi : (((T[j]).toNat : Int) - 48) * (nn : Int) = (x : Int) := by
                    rw [← hx, ← Int.natCast_mul_natCast_sub48 hcd.1]
                  have hst := digit_step (c := (T[j]).toNat - 48) (n := nn) HYP.out hq hr
                  rw [hx] at hst
                  have hnx : num 0 ((bl T).take (j + 1)) * nn = 10 * (num 0 ((bl T).take j) * nn) + x := by
                    rw [hsn, Nat.add_mul, hx, Nat.mul_assoc]
                  rw [← hnx] at hst
                  obtain ⟨Q2, hQ2⟩ : ∃ Q2, (10 * r + x) / y = Q2 := ⟨_, rfl⟩
                  obtain ⟨R2, hR2⟩ : ∃ R2, (10 * r + x) % y = R2 := ⟨_, rfl⟩
                  rw [hQ2, hR2] at hst
                  have hQ2i : (10 * (r : Int) + (x : Int)) / (y : Int) = (Q2 : Int) := by rw [← hQ2, Int.natCast_ediv, Int.natCast_add, Int.natCast_mul]; rfl
                  have hR2i : (10 * (r : Int) + (x : Int)) % (y : Int) = (R2 : Int) := by rw [← hR2, Int.natCast_emod, Int.natCast_add, Int.natCast_mul]; rfl
                  have hQ2m : Q2 ≤ 633318710298976 := by rw [← hQ2]; exact Nat.le_trans (Nat.div_le_self _ _) (by omega)
                  have HST := hid hst
                  have HJT := hid hjt
                  have b1 : (48 : Int) ≤ ((T[j]).toNat : Int) := by omega
                  have b2 : ((T[j]).toNat : Int) ≤ 57 := by omega
                  have b3 : (0 : Int) ≤ (x : Int) := by omega
                  have b4 : (x : Int) ≤ 633318697598976 := by omega
                  have b5 : (0 : Int) ≤ (r : Int) := by omega
                  have b6 : (r : Int) ≤ 1270000 := by omega
                  have b7 : (0 : Int) ≤ (Q2 : Int) := by omega
                  have b8 : (Q2 : Int) ≤ 633318710298976 := by omega
                  have b9 : (0 : Int) ≤ (q : Int) := by omega
                  have b10 : (q : Int) ≤ 70368744177664 := by omega
                  have b11 : (j : Int) < (T.size : Int) := by omega
                  by_cases hmx : 70368744177664 < 10 * q + Q2
                  · have hmi : (70368744177664 : Int) < 10 * (q : Int) + (Q2 : Int) := by omega
                    have hno : near (num 0 (bl T) * nn) y = none := by
                      refine near_none (.inl ?_)
                      have h1 := num_take_le 0 (bl T) (j + 1)
                      have h2 := Nat.div_le_div_right (c := y) (Nat.mul_le_mul_right nn h1)
                      rw [hst.1] at h2
                      omega
                    have hr3 := HR2.out
                    rw [hno] at hr3
                    have hr2 := HA.out.symm.trans hr3
                    injection hr2 with e1 e2
                    subst e1
                    subst e2
                    clear hget hsn hcd hx hx1 hst hnx hQ2 hR2 hQ2m hq hr hqm hry hj hmx hno hr3
                    go_wp2_with fail
                    go_ret2
                    exact ⟨rfl, rfl⟩
                  · have hmi : ¬ (70368744177664 : Int) < 10 * (q : Int) + (Q2 : Int) := by omega
                    have HMX := hid hmx
                    clear hget hsn hcd hx hx1 hst hnx hQ2 hR2 hQ2m hq hr hqm hry hj hmx
                    go_wp2_with fail
                    go_round
                    case rel => exact ⟨j + 1, 10 * q + Q2, R2, by omega, by go_num, by go_num, by first | rfl | exact congrArg (Value.int IntKind.i64) hR2i, HST.out.1, HST.out.2, by have := HMX.out; omega⟩
                    case measure => simp [intOf]; omega
                · have hje : j = T.size := by omega
                  rw [List.take_of_length_le (by rw [bl_length]; omega)] at hq hr
                  have b11 : ¬ (j : Int) < (T.size : Int) := by omega
                  have hN1 := @near_none (num 0 (bl T) * nn) y
                  have hN2 := @near_some (num 0 (bl T) * nn) y
                  rw [hq, hr] at hN1 hN2
                  have b9 : (0 : Int) ≤ (q : Int) := by omega
                  have b10 : (q : Int) ≤ 70368744177664 := by omega
                  have b5 : (0 : Int) ≤ (r : Int) := by omega
                  have b6 : (r : Int) < (y : Int) := by omega
                  have hr3 := HR2.out
                  by_cases hlast : q = 70368744177664 ∧ 0 < r
                  · rw [hN1 (.inr hlast)] at hr3
                    have hr2 := HA.out.symm.trans hr3
                    injection hr2 with e1 e2
                    subst e1
                    subst e2
                    obtain ⟨l1, l2⟩ := hlast
                    subst l1
                    have l3 : (0 : Int) < (r : Int) := by omega
                    clear hN1 hN2 hr3 hq hr hry hj hje hjt l2 hqm b9 b10
                    go_wp2_with fail
                    go_ret2
                    exact ⟨rfl, rfl⟩
                  · rw [hN2 (by omega)] at hr3
                    by_cases h2r : y ≤ 2 * r
                    · rw [if_pos h2r] at hr3
                      have hr2 := HA.out.symm.trans hr3
                      injection hr2 with e1 e2
                      subst e1
                      subst e2
                      have l3 : (y : Int) ≤ 2 * (r : Int) := by omega
                      have l4 : (q : Int) < 70368744177664 := by omega
                      obtain ⟨Q, hQ⟩ : ∃ Q : Int, (q : Int) = Q := ⟨_, rfl⟩
                      rw [hQ] at b9 b10 l4
                      have HQQ := hid hQ
                      rw [hQ]
                      clear hN1 hN2 hr3 hq hr hry hj hje hjt hlast h2r hqm hQ
                      go_wp2_with fail
                      go_ret2
                      exact ⟨congrArg (fun z => Ending.returned (.tuple #[.int .i64 z, .int .i64 0])) (show Q + 1 = ((q + 1 : Nat) : Int) by have := HQQ.out; omega), rfl⟩
                    · rw [if_neg h2r] at hr3
                      have hr2 := HA.out.symm.trans hr3
                      injection hr2 with e1 e2
                      subst e1
                      subst e2
                      have l3 : ¬ (y : Int) ≤ 2 * (r : Int) := by omega
                      have hor : (q : Int) < 70368744177664 ∨ ((q : Int) = 70368744177664 ∧ (r : Int) = 0) := by omega
                      obtain ⟨Q, hQ⟩ : ∃ Q : Int, (q : Int) = Q := ⟨_, rfl⟩
                      obtain ⟨R, hRR⟩ : ∃ R : Int, (r : Int) = R := ⟨_, rfl⟩
                      rw [hQ] at b9 b10 hor
                      rw [hRR] at b5 b6 hor l3
                      have HQQ := hid hQ
                      rw [hQ, hRR]
                      clear hN1 hN2 hr3 hq hr hry hj hje hjt hlast h2r hqm hQ hRR
                      rcases hor with l4 | ⟨l4, l5⟩
                      all_goals
                        go_wp2_with fail
                        go_ret2
                        first
                        | exact ⟨congrArg (fun z => Ending.returned (.tuple #[.int .i64 z, .int .i64 0])) (show Q = (q : Int) from HQQ.out.symm), rfl⟩
                        | exact ⟨congrArg (fun z => Ending.returned (.tuple #[.int .i64 z, .int .i64 0])) (show (70368744177664 : Int) = (q : Int) by have := HQQ.out; omega), rfl⟩
end Go.Proofs.YtapnmopcmlcfbaaDoor
