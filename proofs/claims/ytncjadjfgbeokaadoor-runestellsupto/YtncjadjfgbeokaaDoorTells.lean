/- RunesTells's walk: every text and number; gone over as far as one likes. -/
import Derived.Test.YtncjadjfgbeokaaDoorRefCut
import Derived.Test.YtncjadjfgbeokaaDoorWithin
import Derived.Deep.RegionHeld3
import Derived.Deep.CutRange
import Derived.Laws.StructEq
namespace Go.Proofs.YtncjadjfgbeokaaDoor
open Go.RowKit

theorem flat_take_snoc {xs : List (Nat × Nat)} {k : Nat} {x : Nat × Nat} (h : xs[k]? = some x) : flat (xs.take (k + 1)) = flat (xs.take k) ++ [.int .i64 x.1, .int .i64 x.2] := by
  rw [List.take_add_one, h]
  exact flat_snoc _ _
theorem Rd.take {W : World} {b : Nat} {base : Option Addr} {xs : List (Nat × Nat)} (h : Rd W b base (flat xs)) (k : Nat) : Rd W b base (flat (xs.take k)) := fun i u hu => by
  refine h i u ?_
  have e : flat xs = flat (xs.take k) ++ flat (xs.drop k) := by
    unfold flat
    rw [← List.flatMap_append, List.take_append_drop]
  rw [e, List.getElem?_append_left (List.getElem?_eq_some_iff.1 hu).1]
  exact hu
theorem under34 : Tryd.prog.underlying 34 = some (.int .i64) := by kernel_rfl
theorem under36 : Tryd.prog.underlying 36 = some (.struct (Tryd.prog.fieldsOf 36)) := by kernel_rfl
theorem held36 : Tryd.prog.stoodInHeld 36 = false := by kernel_rfl
theorem fields36 : (Tryd.prog.fieldsOf 36).toList = [{ name := "Kind", type := 34, offset := 0, embedded := false, tag := "", pkgPath := "", byteOffset := 0 }, { name := "At", type := 3, offset := 1, embedded := false, tag := "", pkgPath := "", byteOffset := 8 }] := by kernel_rfl
theorem part36 (t : TypeId) (a b : Int) (k : Nat) (x : Value) (hx : #[Value.int .i64 a, .int .i64 b][k]? = some x) (w : World) (ht : t = 34 ∨ t = 3) : Sem.run Tryd.prog (part t #[.int .i64 a, .int .i64 b] k) w = .ok x w := by
  rcases k with _ | _ | k
  · simp at hx; subst hx; rcases ht with rfl | rfl <;> kernel_rfl
  · simp at hx; subst hx; rcases ht with rfl | rfl <;> kernel_rfl
  · simp at hx
theorem eq36 (a b : Int) (w : World) : Sem.run Tryd.prog (binOp .eql 36 (.agg #[.int .i64 a, .int .i64 b]) (.agg #[.int .i64 a, .int .i64 b])) w = .ok (.bool true) w := by
  rw [run_eql_struct, run_equalIn_agg w 9999 36 _ _ under36 held36, fields36]
  have p0 := part36 34 a b 0 (.int .i64 a) rfl
  have p1 := part36 3 a b 1 (.int .i64 b) rfl
  have e0 : ∀ w, Sem.run Tryd.prog (Op.equalIn 9999 34 (.int .i64 a) (.int .i64 a)) w = .ok true w := fun w => by rw [run_equalIn_int w 9998 34 .i64 .i64 a a under34]; simp
  have e1 : ∀ w, Sem.run Tryd.prog (Op.equalIn 9999 3 (.int .i64 b) (.int .i64 b)) w = .ok true w := fun w => by rw [run_equalIn_int w 9998 3 .i64 .i64 b b Tryd.underlying3]; simp
  simp [Op.eqFields, p0, p1, e0, e1]

set_option maxRecDepth 100000 in
set_option maxHeartbeats 8000000 in
theorem tells_walk (s : ByteArray) (many : Int) (hs : s.size ≤ 1048576) (hm0 : -9223372036854775808 ≤ many) (hm1 : many ≤ 9223372036854775807) (w : World) (hT : Tb w) :
    Calls Tryd.prog 3 #[.string s, .int .i64 many] w fun e w' => e = .returned (.bool true) ∧ Below w.heap.size w w' := by
  have HT : Hid (Tb w) := hT
  clear hT
  obtain ⟨i0, hi, hz0, hz1, hz2⟩ := info_parts info3
  have hR := rs_le s
  obtain ⟨R, hRe⟩ : ∃ R, (rs (bl s)).length = R := ⟨_, rfl⟩
  have HRE : Hid ((rs (bl s)).length = R) := hRe
  rw [hRe] at hR
  clear hRe
  have hRi : (R : Int) ≤ 1048576 := by omega
  have hR0 : (0 : Int) ≤ (R : Int) := by omega
  go_enter Tryd.func3, Tryd.ntmps3
  go_wp2_with fail
  refine (shown_any _ HT.out).mono ?_
  rintro e w1 ⟨rfl, hb1⟩
  have HB1 : Hid (Below w.heap.size w w1) := hb1
  clear hb1
  go_wp2_with fail
  have HR := read_rd s w1 (by omega)
  rw [HRE.out] at HR
  refine (HR).mono ?_
  rintro e w2 ⟨base, cap, rfl, hrd, hb2⟩
  have HB2 : Hid (Below w.heap.size w w2) := HB1.out.trans (hb2.mono HB1.out.size)
  have HRD : Hid (Rd w2 w1.heap.size base (flat (rs (bl s)))) := hrd
  clear hrd hb2 HR HB1
  generalize atOf (chk (bl s)) = a7
  generalize isBad (chk (bl s)) = a8
  go_wp2_with fail
  have hrow0 : (w2.alloc (.cells #[] 3)).ownsRow w2.heap.size 3 1 (.slice (some ⟨w2.heap.size, 0, none⟩) 0 0) 0 [] :=
    ⟨rfl, .inr ⟨_, 0, #[], rfl, Nat.le_refl _, World.alloc_heap_new w2 _, Nat.le_refl _, by decide, rfl, rfl⟩⟩
  go_loopw [9, 10] (fun v i wr => ∃ (j g c : Nat), j ≤ R ∧ v = .slice (some ⟨g, 0, none⟩) (2 * j) c ∧ i = .int .i64 j ∧ Below w2.heap.size w2 wr ∧
      wr.ownsRow w2.heap.size 3 1 (.slice (some ⟨g, 0, none⟩) (2 * j) c) (2 * j) (flat ((rs (bl s)).take j))) (fun _ i _ => R - (RowKit.intOf i).toNat)
  case atStart => exact ⟨0, _, 0, Nat.zero_le _, rfl, rfl, (Below.refl _ w2).alloc (Nat.le_refl _) _, hrow0⟩
  case round =>
    obtain ⟨j, gp, cp, hj, rfl, rfl, hbl, hrow⟩ := hrel
    have HBL : Hid (Below w2.heap.size w2 wr) := hbl
    clear hbl hrow0
    by_cases hlt : j < R
    · obtain ⟨x, hx⟩ : ∃ x, (rs (bl s))[j]? = some x := ⟨(rs (bl s))[j]'(by rw [HRE.out]; exact hlt), List.getElem?_eq_getElem _⟩
      have hf := flat_even hx
      obtain ⟨g, e1, hg1, hg2, hc1⟩ := HRD.out _ _ hf.1
      obtain ⟨g', e2, _, _, hc2⟩ := HRD.out _ _ hf.2
      rw [e1] at e2
      cases e2
      subst e1
      have hc1' : wr.cell? ⟨g, j * 2, none⟩ = some (.int .i64 (x.1 : Int)) := by rw [Nat.mul_comm]; exact (World.cell?_of_block (HBL.out.block g hg2)).trans hc1
      have hc2' : wr.cell? ⟨g, j * 2 + 1, none⟩ = some (.int .i64 (x.2 : Int)) := by rw [Nat.mul_comm]; exact (World.cell?_of_block (HBL.out.block g hg2)).trans hc2
      have HSN : Hid (flat ((rs (bl s)).take (j + 1)) = flat ((rs (bl s)).take j) ++ [.int .i64 x.1, .int .i64 x.2]) := flat_take_snoc hx
      have hne : (Value.slice (some ⟨gp, 0, none⟩) (2 * j) cp).ownBlock ≠ some g := by
        have := (hrow.lt gp rfl).1
        simp [Value.ownBlock]; omega
      have hglt : g < wr.heap.size := Nat.lt_of_lt_of_le hg2 HBL.out.size
      have hjR : (j : Int) < (R : Int) := by omega
      have hj0 : (0 : Int) ≤ (j : Int) := by omega
      have hl63 : 2 * j + 2 ≤ maxLen := by unfold maxLen; omega
      have hlb : (2 * j + 2) * 8 ≤ 140737488355328 := by omega
      have hbz : w2.heap.size ≤ wr.heap.size := HBL.out.size
      clear hc1 hc2 hf hx
      go_wp2_with fail
      go_region_held3 (fun w' => w'.cell? ⟨g, j * 2, none⟩ = some (.int .i64 (x.1 : Int)) ∧ w'.cell? ⟨g, j * 2 + 1, none⟩ = some (.int .i64 (x.2 : Int)))
        (first
          | go_keep
          | (go_split_ands
             refine ⟨?_, ?_⟩
             · (rw [hgrow.cell_far _ (by simp; omega) (Ne.symm hne)]; assumption)
             · (rw [hgrow.cell_far _ (by simp; omega) (Ne.symm hne)]; assumption)))
        ((refine step_append_lies _ (by rfl) _ _ _ (by rfl) w2.heap.size 3 i0 (.int .i64 0) 1 8 Tryd.underlying26 hi hz0 hz1 hz2 rfl (by omega) (.slice (some ⟨gp, 0, none⟩) (2 * j) cp) (2 * j) (flat ((rs (bl s)).take j)) (by rfl) ((hrow.alloc _).drew)
            ⟨wr.heap.size, 0, none⟩ 2 2 [.int .i64 (x.1 : Int), .int .i64 (x.2 : Int)] (by rfl) (by rfl) (World.news_of_block (cs := #[.int .i64 (x.1 : Int), .int .i64 (x.2 : Int)]) (t := 3) (fr := (0, 0)) (heap_alloc_new wr _)) (by simp [Value.oneCell'])
            (by omega) hl63 hlb (by simp; omega) (wr.heap.size + 1) (by simp) ?_; intro gg cap6 w6 hown hgrow hat hlt6))
      have HB6 : Hid (Below w2.heap.size w2 w6) := ((HBL.out.alloc HBL.out.size _).drew).grown hgrow (by simp; omega) (fun j ej => (hrow.lt j ej).1)
      have HO6 : Hid (w6.ownsRow w2.heap.size 3 1 (.slice (some ⟨gg, 0, none⟩) (2 * j + 2) cap6) (2 * j + 2) (flat ((rs (bl s)).take (j + 1)))) := by
        show w6.ownsRow w2.heap.size 3 1 (.slice (some ⟨gg, 0, none⟩) (2 * j + 2) cap6) (2 * j + 2) (flat ((rs (bl s)).take (j + 1)))
        rw [HSN.out]
        exact hown
      clear hown hgrow hat hrow hc1' hc2'
      go_wp2_with fail
      go_roundw
      case rel => exact ⟨j + 1, gg, cap6, by omega, rfl, by go_num, HB6.out, HO6.out⟩
      case measure => simp [RowKit.intOf]; omega
    · obtain rfl : j = R := by omega
      rw [List.take_of_length_le (by rw [HRE.out]; exact Nat.le_refl _)] at hrow
      have HROW : Hid (wr.ownsRow w2.heap.size 3 1 (.slice (some ⟨gp, 0, none⟩) (2 * j) cp) (2 * j) (flat (rs (bl s)))) := hrow
      have HBW : Hid (Below w.heap.size w wr) := HB2.out.trans (HBL.out.mono HB2.out.size)
      clear hrow HRD HBL HB2 hj hlt
      have hjj : ¬ (j : Int) < (j : Int) := by omega
      go_upto_if 54 with fail
      go_cut [11] from 52 to 57 (fun n wx => ∃ m : Nat, n = .int .i64 m ∧ (m : Int) ≤ 9223372036854775807 ∧ wx = wr)
      case first =>
        by_cases hneg : many < 0
        · go_wp2_with fail
          go_meet
          exact ⟨(-(many + 1)).toNat, by go_num, by omega, rfl⟩
        · go_wp2_with fail
          go_meet
          exact ⟨many.toNat, by go_num, by omega, rfl⟩
      case rest =>
        obtain ⟨m, rfl, hm, rfl⟩ := hcut
        have hR2 : ¬ ((j : Int) + 2 = 0) := by omega
        go_upto_if 67 with fail
        obtain ⟨k, hk⟩ : ∃ k, m % (j + 2) = k := ⟨_, rfl⟩
        have hk1 : k ≤ j + 1 := by have := Nat.mod_lt m (show 0 < j + 2 by omega); omega
        have hkI : (m : Int) % ((j : Int) + 2) = (k : Int) := by rw [← hk]; simp
        rw [hkI]
        clear hkI hk hm hR2
        have hk0 : (0 : Int) ≤ (k : Int) := by omega
        have hk2 : (k : Int) ≤ (j : Int) + 1 := by omega
        go_cut [12] from 58 to 69 (fun n wx => n = .int .i64 ((min k j : Nat) : Int) ∧ wx = wc)
        case first =>
          by_cases hkj : (j : Int) < (k : Int)
          · go_wp2_with fail
            go_meet
            exact ⟨by rw [Nat.min_eq_right (by omega)], rfl⟩
          · go_wp2_with fail
            go_meet
            exact ⟨by rw [Nat.min_eq_left (by omega)], rfl⟩
        case rest =>
          obtain ⟨rfl, rfl⟩ := hcut
          obtain ⟨q, hq⟩ : ∃ q, min k j = q := ⟨_, rfl⟩
          have HQ : Hid (q = min k j) := hq.symm
          rw [hq]
          have hq1 : (q : Int) ≤ (j : Int) := by omega
          have hq0 : (0 : Int) ≤ (q : Int) := by omega
          clear hq
          go_wp2_with fail
          have HG1 := goes_all s wc (by omega)
          rw [HRE.out] at HG1
          refine (HG1).mono ?_
          rintro e w3 ⟨b1, c1, rfl, hrd1, hb3⟩
          obtain ⟨hcp, hrp⟩ : 2 * j ≤ cp ∧ Rd wc w2.heap.size (some ⟨gp, 0, none⟩) (flat (rs (bl s))) := by
            obtain ⟨b', c', e', hr'⟩ := rd_of_row HROW.out
            cases e'
            refine ⟨?_, hr'⟩
            rcases HROW.out.2 with ⟨e, _⟩ | ⟨g, cap, cur, e, _, _, hn, _⟩
            · cases e
            · cases e; exact hn
          have HB3 : Hid (Below w.heap.size w w3) := HBW.out.trans (hb3.mono HBW.out.size)
          have HP3 : Hid (Rd w3 w2.heap.size (some ⟨gp, 0, none⟩) (flat (rs (bl s)))) := hrp.of hb3
          have HO3 : Hid (Rd w3 wc.heap.size b1 (flat (rs (bl s)))) := hrd1
          clear hrp hb3 hrd1 HBW HROW HG1
          have HTL : Hid (((rs (bl s)).take k).length = q) := by
            show ((rs (bl s)).take k).length = q
            rw [List.length_take, HRE.out, HQ.out]
          go_wp2_with fail
          have HG2 := goes_any s (k : Int) w3 (by omega) (by omega) (by omega)
          rw [Int.toNat_natCast, HTL.out] at HG2
          refine (HG2).mono ?_
          rintro e w4 ⟨v, rfl, hrow2, hb4⟩
          obtain ⟨b2, c2, rfl, hrd2⟩ := rd_of_row hrow2
          have HB4 : Hid (Below w.heap.size w w4) := HB3.out.trans (hb4.mono HB3.out.size)
          have HP4 : Hid (Rd w4 w2.heap.size (some ⟨gp, 0, none⟩) (flat (rs (bl s)))) := HP3.out.of hb4
          have HO4 : Hid (Rd w4 wc.heap.size b1 (flat (rs (bl s)))) := HO3.out.of hb4
          have HT4 : Hid (Rd w4 w3.heap.size b2 (flat ((rs (bl s)).take k))) := hrd2
          clear hrow2 hb4 hrd2 HB3 HP3 HO3 HG2
          have HSA := same_true w4 (flat (rs (bl s))) b1 (some ⟨gp, 0, none⟩) wc.heap.size w2.heap.size c1 cp (flat_ints _) HO4.out HP4.out (by rw [flat_length, HRE.out]; omega)
          rw [flat_length, HRE.out] at HSA
          go_wp2_with fail
          refine (HSA).mono ?_
          rintro e w5 ⟨rfl, hb5⟩
          have HB5 : Hid (Below w.heap.size w w5) := HB4.out.trans (hb5.mono HB4.out.size)
          have HP5 : Hid (Rd w5 w2.heap.size (some ⟨gp, 0, none⟩) (flat ((rs (bl s)).take k))) := (HP4.out.of hb5).take k
          have HT5 : Hid (Rd w5 w3.heap.size b2 (flat ((rs (bl s)).take k))) := HT4.out.of hb5
          clear hb5 HB4 HP4 HO4 HT4 HSA
          have hqc : (2 : Int) * (q : Int) ≤ (cp : Int) := by omega
          have hqc2 : 2 * q ≤ cp := by omega
          have hq2 : (2 : Int) * (q : Int) ≤ 2097152 := by omega
          have hq3 : (0 : Int) ≤ (2 : Int) * (q : Int) := by omega
          have HSB := same_true w5 (flat ((rs (bl s)).take k)) b2 (some ⟨gp, 0, none⟩) w3.heap.size w2.heap.size c2 cp (flat_ints _) HT5.out HP5.out (by rw [flat_length, HTL.out]; omega)
          rw [flat_length, HTL.out] at HSB
          go_wp2_with fail
          refine (HSB).mono ?_
          rintro e w6 ⟨rfl, hb6⟩
          have HB6 : Hid (Below w.heap.size w w6) := HB5.out.trans (hb6.mono HB5.out.size)
          clear hb6 HB5 HP5 HT5 HSB hqc hqc2 hq2 hq3
          go_upto_region 21 with fail
          go_cut [105] from 91 to 104 (fun b wx => b = .bool false ∧ Below w.heap.size w wx)
          case first =>
            by_cases h60 : (j : Int) ≤ 60
            · have hle := leads_text (bl s)
              rw [HRE.out] at hle
              have HW := within_any s w6 (by omega)
              generalize leads (rs (bl s)) (rs (bl s)) = T at *
              have hjn : j ≤ 60 := by omega
              have h1 : j * (j + 1) ≤ 60 * 61 := Nat.mul_le_mul hjn (by omega)
              have hT1 : T ≤ 1830 := by omega
              rw [show wrap64 (T : Int) = (T : Int) by unfold wrap64; omega] at HW
              have hp : (j : Int) * ((j : Int) + 1) = 2 * (T : Int) := by
                exact_mod_cast hle.symm
              have hT2 : (T : Int) ≤ 1830 := by omega
              have hT3 : (0 : Int) ≤ (T : Int) := by omega
              clear hle h1 hjn hT1
              go_wp2_with (go_at_call 13; refine (HW).mono ?_; rintro e w7 ⟨rfl, hb7⟩)
              go_meet
              exact ⟨rfl, HB6.out.trans (hb7.mono HB6.out.size)⟩
            · go_wp2_with fail
              go_meet
              exact ⟨rfl, HB6.out⟩
          case rest =>
            obtain ⟨rfl, hbc⟩ := hcut
            have HB7 : Hid (Below w.heap.size w wc) := hbc
            clear hbc HB6
            go_wp2_with fail
            refine (cut_any s many wc (by omega) hm0 hm1).mono ?_
            rintro e w8 ⟨rfl, hb8⟩
            have HB8 : Hid (Below w.heap.size w w8) := HB7.out.trans (hb8.mono HB7.out.size)
            clear hb8 HB7
            go_wp2_with fail
            refine (refCut_any s many w8 (by omega) hm0 hm1).mono ?_
            rintro e w9 ⟨rfl, hb9⟩
            have HB9 : Hid (Below w.heap.size w w9) := HB8.out.trans (hb9.mono HB8.out.size)
            clear hb9 HB8
            generalize s.extract 0 (pos many.toNat (bl s)) = sa
            generalize s.extract (pos many.toNat (bl s)) s.size = sb
            go_wp2_with fail
            have HK1 := cut_any s (k : Int) w9 (by omega) (by omega) (by omega)
            rw [Int.toNat_natCast] at HK1
            refine (HK1).mono ?_
            rintro e w10 ⟨rfl, hb10⟩
            have HB10 : Hid (Below w.heap.size w w10) := HB9.out.trans (hb10.mono HB9.out.size)
            clear hb10 HB9 HK1
            go_wp2_with fail
            have HK2 := refCut_any s (k : Int) w10 (by omega) (by omega) (by omega)
            rw [Int.toNat_natCast] at HK2
            refine (HK2).mono ?_
            rintro e w11 ⟨rfl, hb11⟩
            have HB11 : Hid (Below w.heap.size w w11) := HB10.out.trans (hb11.mono HB10.out.size)
            clear hb11 HB10 HK2
            generalize s.extract 0 (pos k (bl s)) = sc
            generalize s.extract (pos k (bl s)) s.size = sd
            obtain ⟨c, hc⟩ : ∃ c, chk (bl s) = c := ⟨_, rfl⟩
            have HC := check_is s c w11 (by omega) hc (HT.out.of HB11.out HT.out.size)
            go_wp2_with fail
            refine (HC).mono ?_
            rintro e w12 ⟨rfl, hb12⟩
            have HB12 : Hid (Below w.heap.size w w12) := HB11.out.trans (hb12.mono HB11.out.size)
            clear hb12 HB11 HC
            have HD := refCheck_any s w12 (by omega)
            rw [hc] at HD
            go_wp2_with fail
            refine (HD).mono ?_
            rintro e w13 ⟨rfl, hb13⟩
            have HB13 : Hid (Below w.heap.size w w13) := HB12.out.trans (hb13.mono HB12.out.size)
            clear hb13 HB12 HD hc
            have hEQ := eq36 (kindOf c) (atOf c) w13
            go_wp2_with fail
            have HE := count_any s w13 (by omega)
            rw [HRE.out] at HE
            refine (HE).mono ?_
            rintro e w14 ⟨rfl, hb14⟩
            have HB14 : Hid (Below w.heap.size w w14) := HB13.out.trans (hb14.mono HB13.out.size)
            clear hb14 HB13 HE hEQ
            go_wp2_with fail
            go_ret
            exact ⟨rfl, HB14.out⟩
end Go.Proofs.YtncjadjfgbeokaaDoor
