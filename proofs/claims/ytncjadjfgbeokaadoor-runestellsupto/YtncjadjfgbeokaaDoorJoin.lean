/- RunesJoin's walk: right texts, one behind the other. -/
import Derived.Test.YtncjadjfgbeokaaDoorSame
import Derived.Deep.AppendLies
namespace Go.Proofs.YtncjadjfgbeokaaDoor
open Go.RowKit

/-- a place, so much further on -/
def addv (n : Nat) : Value → Value
  | .int .i64 z => .int .i64 (z + n)
  | v => v
theorem flat_shift (n : Nat) (xs : List (Nat × Nat)) (k : Nat) : (flat (xs.map fun x => (x.1 + n, x.2)))[k]? = ((flat xs)[k]?).map fun u => if k % 2 = 0 then addv n u else u := by
  induction xs generalizing k with
  | nil => simp [flat]
  | cons x xs ih =>
    rcases k with _ | _ | k
    · simp [flat, addv]
    · simp [flat]
    · have := ih k
      simp only [flat, List.map_cons, List.flatMap_cons] at this ⊢
      rw [show k + 1 + 1 = k + 2 by omega]
      simpa [Nat.add_mod] using this
theorem flat_bound {l : List Nat} (hl : l.length ≤ 1048576) {k : Nat} {u : Value} (h : (flat (rs l))[k]? = some u) : ∃ z : Nat, u = .int .i64 z ∧ z ≤ 1114111 := by
  have hm := List.mem_of_getElem? h
  simp only [flat, List.mem_flatMap] at hm
  obtain ⟨x, hx, hu⟩ := hm
  have hb := mem_rl l.length 0 l x hx
  have hp := pos_le l.length l
  rcases List.mem_cons.1 hu with rfl | hu
  · exact ⟨x.1, rfl, by omega⟩
  · rw [List.mem_singleton] at hu
    exact ⟨x.2, hu, by omega⟩
theorem take_snoc {xs : List Value} {k : Nat} {u : Value} (h : xs[k]? = some u) : xs.take (k + 1) = xs.take k ++ [u] := by
  rw [List.take_add_one, h]; rfl

theorem rs_le (s : ByteArray) : (rs (bl s)).length ≤ s.size := by
  have : (rs (bl s)).length ≤ (bl s).length := rl_length_le (bl s).length 0 (bl s)
  rwa [bl_length] at this
theorem goes_own (s : ByteArray) (w : World) (hs : s.size ≤ 1099511627776) :
    Calls Tryd.prog 11 #[.string s, .int .i64 ((s.size : Int) + 1)] w fun e w' => ∃ v, e = .returned v ∧ w'.ownsRow w.heap.size 3 1 v (2 * (rs (bl s)).length) (flat (rs (bl s))) ∧ Below w.heap.size w w' := by
  refine (goes_any s ((s.size : Int) + 1) w hs (by omega) (by omega)).mono ?_
  rintro e w' ⟨v, rfl, hrow, hb⟩
  have := rs_le s
  rw [List.take_of_length_le (by omega)] at hrow
  exact ⟨v, rfl, hrow, hb⟩
/-- what a loop that grows one row leaves of another -/
structure Apart (Bm Em : Nat) (W0 W : World) : Prop where
  block : ∀ j, Bm ≤ j → j < Em → W.heap[j]? = W0.heap[j]?
theorem one_cell_new {W : World} {x : Value} {t : TypeId} {m : Nat} (hm : W.heap.size = m) : ∀ j u, [x][j]? = some u → (W.alloc (.cells #[x] t)).cell? ((⟨m, 0, none⟩ : Addr).add j) = some u := by
  subst hm
  exact cell_one_new _ _ _
theorem rd_of_row {W : World} {b : Nat} {v : Value} {n : Nat} {xs : List Value} (h : W.ownsRow b 3 1 v n xs) : ∃ base cap, v = .slice base n cap ∧ Rd W b base xs := by
  have hl := h.1
  rcases row_cells h with ⟨rfl, h0⟩ | ⟨g, cap, rfl, hg, hgl, _, hc⟩
  · refine ⟨none, 0, by rw [h0], fun i u hu => ?_⟩
    have := (List.getElem?_eq_some_iff.1 hu).1
    omega
  · exact ⟨_, cap, rfl, fun i u hu => ⟨g, rfl, hg, hgl, hc i u hu⟩⟩
theorem cut_left (a b : ByteArray) : (a ++ b).extract 0 a.size = a := by
  apply ByteArray.ext
  rw [ByteArray.data_extract, ByteArray.data_append]
  show (a.data ++ b.data).extract 0 a.data.size = a.data
  rw [Array.extract_append_left, Array.extract_size]
theorem cut_right (a b : ByteArray) : (a ++ b).extract a.size (a ++ b).size = b := by
  apply ByteArray.ext
  rw [ByteArray.data_extract, ByteArray.data_append, ByteArray.size_append]
  show (a.data ++ b.data).extract a.data.size (a.data.size + b.data.size) = b.data
  rw [Array.extract_append_right, Array.extract_size]
set_option maxRecDepth 100000 in
set_option maxHeartbeats 8000000 in
theorem join_walk (a b : ByteArray) (ha : a.size ≤ 1048576) (hb : b.size ≤ 1048576) (w : World) (hT : Tb w) :
    Calls Tryd.prog 7 #[.string a, .string b] w fun e w' => e = .returned (.bool true) ∧ Below w.heap.size w w' := by
  have HT : Hid (Tb w) := hT
  clear hT
  obtain ⟨i0, hi, hz0, hz1, hz2⟩ := info_parts info3
  obtain ⟨ca, hca⟩ : ∃ c, chk (bl a) = c := ⟨_, rfl⟩
  obtain ⟨cb, hcb⟩ : ∃ c, chk (bl b) = c := ⟨_, rfl⟩
  go_enter Tryd.func7, Tryd.ntmps7
  go_wp2_with fail
  refine (shown_any _ HT.out).mono ?_
  rintro e w1 ⟨rfl, hb1⟩
  have HB1 : Hid (Below w.heap.size w w1) := hb1
  clear hb1
  go_wp2_with fail
  refine (check_is a ca w1 (by omega) hca (HT.out.of HB1.out HT.out.size)).mono ?_
  rintro e w2 ⟨rfl, hb2⟩
  have HB2 : Hid (Below w.heap.size w w2) := HB1.out.trans (hb2.mono HB1.out.size)
  clear HB1 hb2
  have hf0 := field0 (kindOf ca) (atOf ca) w2
  rcases ca with _ | A
  · simp only [kindOf, atOf] at hf0 ⊢
    go_wp2_with fail
    refine (check_is b cb w2 (by omega) hcb (HT.out.of HB2.out HT.out.size)).mono ?_
    rintro e w3 ⟨rfl, hb3⟩
    have HB3 : Hid (Below w.heap.size w w3) := HB2.out.trans (hb3.mono HB2.out.size)
    clear HB2 hb3 hf0
    have hf0 := field0 (kindOf cb) (atOf cb) w3
    rcases cb with _ | B
    · simp only [kindOf, atOf] at hf0 ⊢
      go_wp2_with fail
      clear hf0
      refine (goes_own a w3 (by omega)).mono ?_
      rintro e w4 ⟨v0, rfl, hrow0, hb4⟩
      have HB4 : Hid (Below w.heap.size w w4) := HB3.out.trans (hb4.mono HB3.out.size)
      have HB4' : Hid (Below w3.heap.size w3 w4) := hb4
      have HR4 : Hid (w4.ownsRow w3.heap.size 3 1 v0 (2 * (rs (bl a)).length) (flat (rs (bl a)))) := hrow0
      have HW3 : Hid (w.heap.size ≤ w3.heap.size) := HB3.out.size
      clear hrow0 hb4 HB3
      go_wp2_with fail
      refine (goes_all b w4 (by omega)).mono ?_
      rintro e w5 ⟨base, cap, rfl, hrd, hb5⟩
      have HB5 : Hid (Below w.heap.size w w5) := HB4.out.trans (hb5.mono HB4.out.size)
      have HR5 : Hid (Rd w5 w4.heap.size base (flat (rs (bl b)))) := hrd
      have HO5 : Hid (w5.ownsRow w3.heap.size 3 1 v0 (2 * (rs (bl a)).length) (flat (rs (bl a)))) := HR4.out.kept ⟨hb5.os, hb5.tape, hb5.output, hb5.size, fun k hk _ => hb5.block k hk⟩ (by
        rcases HR4.out.2 with ⟨rfl, _⟩ | ⟨g, cap, cur, rfl, _⟩
        · exact .inl rfl
        · exact .inr (show some g ≠ none by simp))
      have HV5 : Hid (∀ g, v0.ownBlock = some g → g < w4.heap.size) := fun g hg => (HR4.out.lt g hg).2
      have HS5 : Hid (w3.heap.size ≤ w4.heap.size ∧ w4.heap.size ≤ w5.heap.size) := ⟨HB4'.out.size, hb5.size⟩
      clear hrd hb5 HR4 HB4 HB4'
      obtain ⟨n, hne⟩ : ∃ n, 2 * (rs (bl b)).length = n := ⟨_, rfl⟩
      have HN : Hid (2 * (rs (bl b)).length = n) := hne
      rw [hne]
      have hn1 : (n : Int) ≤ 2097152 := by have := rs_le b; omega
      clear hne
      go_wp2_with fail
      go_loopw [7, 9] (fun v i wr => ∃ (k : Nat) (vv : Value), vv = v ∧ k ≤ n ∧ i = .int .i64 k ∧ Below w.heap.size w wr ∧ w5.heap.size ≤ wr.heap.size ∧ (∀ j, w4.heap.size ≤ j → j < w5.heap.size → wr.heap[j]? = w5.heap[j]?) ∧
          wr.ownsRow w3.heap.size 3 1 vv (2 * (rs (bl a)).length + k) (flat (rs (bl a)) ++ (flat ((rs (bl b)).map fun x => (x.1 + a.size, x.2))).take k) ∧ (∀ g, vv.ownBlock = some g → g < w4.heap.size ∨ w5.heap.size ≤ g))
        (fun _ i _ => n - (RowKit.intOf i).toNat)
      case atStart => exact ⟨0, v0, rfl, by omega, rfl, HB5.out, Nat.le_refl _, fun _ _ _ => rfl, by simpa using HO5.out, fun g hg => .inl (HV5.out g hg)⟩
      case round =>
        obtain ⟨k, v, hvv, hk, rfl, hbl, hsz, hap, hrow, hvb⟩ := hrel
        subst hvv
        have HBL : Hid (Below w.heap.size w wr) := hbl
        have HSZ : Hid (w5.heap.size ≤ wr.heap.size) := hsz
        have HAP : Hid (∀ j, w4.heap.size ≤ j → j < w5.heap.size → wr.heap[j]? = w5.heap[j]?) := hap
        have HVB : Hid (∀ g, v.ownBlock = some g → g < w4.heap.size ∨ w5.heap.size ≤ g) := hvb
        clear hbl hsz hap hvb
        by_cases hlt : k < n
        · obtain ⟨u, hu⟩ : ∃ u, (flat (rs (bl b)))[k]? = some u := ⟨(flat (rs (bl b)))[k]'(by rw [flat_length, HN.out]; exact hlt), List.getElem?_eq_getElem _⟩
          obtain ⟨z, rfl, hzb⟩ := flat_bound (by rw [bl_length]; exact hb) hu
          have hsh := flat_shift a.size (rs (bl b)) k
          rw [hu, Option.map_some] at hsh
          obtain ⟨g, hbase, hg1, hg2, hcell⟩ := HR5.out k _ hu
          subst hbase
          have hcw : wr.cell? ⟨g, k, none⟩ = some (.int .i64 z) := (World.cell?_of_block (HAP.out g hg1 hg2)).trans hcell
          have hlt2 : (k : Int) < (n : Int) := by omega
          have hk0 : (0 : Int) ≤ (k : Int) := by omega
          have hz0' : (0 : Int) ≤ (z : Int) := by omega
          have hz1' : (z : Int) ≤ 1114111 := by omega
          have has : (a.size : Int) ≤ 1048576 := by omega
          have has0 : (0 : Int) ≤ (a.size : Int) := by omega
          have hral := rs_le a
          have hw3 : w3.heap.size ≤ wr.heap.size := by have := HS5.out; have := HSZ.out; omega
          clear hcell hu
          have step : ∀ (y : Int) (g' cap' : Nat) (w6 : World), (flat ((rs (bl b)).map fun x => (x.1 + a.size, x.2)))[k]? = some (.int .i64 y) →
              w6.ownsRow w3.heap.size 3 1 (.slice (some ⟨g', 0, none⟩) (2 * (rs (bl a)).length + k + 1) cap') (2 * (rs (bl a)).length + k + 1) (flat (rs (bl a)) ++ (flat ((rs (bl b)).map fun x => (x.1 + a.size, x.2))).take k ++ [.int .i64 y]) →
              (wr.alloc (.cells #[.int .i64 y] 3)).grownBy w6 v.ownBlock → (v.ownBlock = some g' ∨ g' = wr.heap.size + 1) → g' < w6.heap.size →
              Below w.heap.size w w6 ∧ w5.heap.size ≤ w6.heap.size ∧ (∀ j, w4.heap.size ≤ j → j < w5.heap.size → w6.heap[j]? = w5.heap[j]?) ∧
              w6.ownsRow w3.heap.size 3 1 (.slice (some ⟨g', 0, none⟩) (2 * (rs (bl a)).length + k + 1) cap') (2 * (rs (bl a)).length + (k + 1)) (flat (rs (bl a)) ++ (flat ((rs (bl b)).map fun x => (x.1 + a.size, x.2))).take (k + 1)) ∧
              (∀ j, Value.ownBlock (.slice (some ⟨g', 0, none⟩) (2 * (rs (bl a)).length + k + 1) cap') = some j → j < w4.heap.size ∨ w5.heap.size ≤ j) := by
            intro y g' cap' w6 hy hown hgrow hat hlt6
            have hszg := hgrow.size
            simp at hszg
            have hb6 : Below w.heap.size w w6 := by
              refine (HBL.out.alloc HBL.out.size _).grown hgrow (by simp; exact Nat.le_succ_of_le HBL.out.size) (fun j ej => ?_)
              have := (hrow.lt j ej).1
              have := HW3.out
              omega
            refine ⟨hb6, by have := HSZ.out; omega, fun j hj1 hj2 => ?_, ?_, fun j hj => ?_⟩
            · refine (hgrow.block j (by simp; have := HSZ.out; omega) (fun e => ?_)).trans ((Below.heap_alloc _ _ _ (by have := HSZ.out; omega)).trans (HAP.out j hj1 hj2))
              have := HVB.out j e.symm
              omega
            · rw [take_snoc hy, ← List.append_assoc, ← Nat.add_assoc]
              exact hown
            · simp only [Value.ownBlock, Option.some.injEq] at hj
              subst hj
              rcases hat with h | h
              · exact HVB.out _ h
              · right; have := HSZ.out; omega
          by_cases hpar : k % 2 = 0
          · have hmod : (k : Int) % 2 = 0 := by omega
            have hy : (flat ((rs (bl b)).map fun x => (x.1 + a.size, x.2)))[k]? = some (.int .i64 ((z : Int) + (a.size : Int))) := by
              rw [hsh, if_pos hpar]; simp [addv]
            clear hsh
            go_wp2_with (at_builtin; refine wpList_append_lies _ rfl _ _ 26 rfl w3.heap.size 3 i0 (.int .i64 0) 1 8 Tryd.underlying26 hi hz0 hz1 hz2 rfl (by decide) _ _ _ rfl (hrow.alloc _) ⟨wr.heap.size, 0, none⟩ 1 1 [.int .i64 ((z : Int) + (a.size : Int))] rfl rfl ?c1 ?c2 ?c3 ?c4 ?c5 ?c6 (wr.heap.size + 1) ?c7 ?_)
            case c1 => exact one_cell_new rfl
            case c2 => intro u hu; simp at hu; subst hu; rfl
            case c3 => omega
            case c4 => unfold maxLen; omega
            case c5 => omega
            case c6 => simp; omega
            case c7 => simp
            intro g' cap' w6 hown hgrow hat hlt6
            obtain ⟨s1, s2, s3, s4, s5⟩ := step _ g' cap' w6 hy (by rw [List.append_assoc]; exact hown) hgrow hat hlt6
            have HF : Hid (Below w.heap.size w w6 ∧ w5.heap.size ≤ w6.heap.size ∧ (∀ j, w4.heap.size ≤ j → j < w5.heap.size → w6.heap[j]? = w5.heap[j]?)) := ⟨s1, s2, s3⟩
            have HG : Hid _ := s4
            have HJ : Hid _ := s5
            clear step s1 s2 s3 s4 s5 hown hgrow hat hlt6 hrow
            go_wp2_with fail
            go_roundw
            case rel => exact ⟨k + 1, _, rfl, by omega, by go_num, HF.out.1, HF.out.2.1, HF.out.2.2, HG.out, HJ.out⟩
            case measure => simp [RowKit.intOf]; omega
          · have hmod : ¬ (k : Int) % 2 = 0 := by omega
            have hy : (flat ((rs (bl b)).map fun x => (x.1 + a.size, x.2)))[k]? = some (.int .i64 (z : Int)) := by
              rw [hsh, if_neg hpar]
            clear hsh
            go_wp2_with (at_builtin; refine wpList_append_lies _ rfl _ _ 26 rfl w3.heap.size 3 i0 (.int .i64 0) 1 8 Tryd.underlying26 hi hz0 hz1 hz2 rfl (by decide) _ _ _ rfl (hrow.alloc _) ⟨wr.heap.size, 0, none⟩ 1 1 [.int .i64 (z : Int)] rfl rfl ?c1 ?c2 ?c3 ?c4 ?c5 ?c6 (wr.heap.size + 1) ?c7 ?_)
            case c1 => exact one_cell_new rfl
            case c2 => intro u hu; simp at hu; subst hu; rfl
            case c3 => omega
            case c4 => unfold maxLen; omega
            case c5 => omega
            case c6 => simp; omega
            case c7 => simp
            intro g' cap' w6 hown hgrow hat hlt6
            obtain ⟨s1, s2, s3, s4, s5⟩ := step _ g' cap' w6 hy (by rw [List.append_assoc]; exact hown) hgrow hat hlt6
            have HF : Hid (Below w.heap.size w w6 ∧ w5.heap.size ≤ w6.heap.size ∧ (∀ j, w4.heap.size ≤ j → j < w5.heap.size → w6.heap[j]? = w5.heap[j]?)) := ⟨s1, s2, s3⟩
            have HG : Hid _ := s4
            have HJ : Hid _ := s5
            clear step s1 s2 s3 s4 s5 hown hgrow hat hlt6 hrow
            go_wp2_with fail
            go_roundw
            case rel => exact ⟨k + 1, _, rfl, by omega, by go_num, HF.out.1, HF.out.2.1, HF.out.2.2, HG.out, HJ.out⟩
            case measure => simp [RowKit.intOf]; omega
        · obtain rfl : k = n := by omega
          rw [List.take_of_length_le (by rw [flat_length, List.length_map, HN.out]; exact Nat.le_refl _)] at hrow
          have hlt2 : ¬ (k : Int) < (k : Int) := by omega
          have hab := two (chk_none.1 hca) (b := bl b)
          rw [← bl_append] at hab
          have hra := pre_runs (l := bl a) (m := bl (a ++ b)) (by rw [bl_append, chk_none.1 hca]; simp)
          have HX : Hid (rs (bl (a ++ b)) = rs (bl a) ++ (rs (bl b)).map fun x => (x.1 + a.size, x.2)) := by
            show rs (bl (a ++ b)) = _
            rw [hab.1, bl_length]
          have HC : Hid (chk (bl (a ++ b)) = none) := by
            show chk (bl (a ++ b)) = none
            rw [chk_none, hab.2, chk_none.1 hcb, bl_append, List.length_append]
          have HP : Hid (pos (rs (bl a)).length (bl (a ++ b)) = a.size) := by
            show pos (rs (bl a)).length (bl (a ++ b)) = a.size
            rw [hra.2, chk_none.1 hca, bl_length]
          clear hab hra
          have hss : (a ++ b).size = a.size + b.size := ByteArray.size_append ..
          have HGS := goes_all (a ++ b) wr (by omega)
          rw [hss, Int.natCast_add] at HGS
          have hlen2 : 2 * (rs (bl (a ++ b))).length = 2 * (rs (bl a)).length + k := by
            rw [HX.out, List.length_append, List.length_map]
            have := HN.out
            omega
          have hfl : flat (rs (bl a)) ++ flat ((rs (bl b)).map fun x => (x.1 + a.size, x.2)) = flat (rs (bl (a ++ b))) := by
            rw [HX.out]; simp [flat]
          rw [hfl, ← hlen2] at hrow
          obtain ⟨bl1, cp1, rfl, hrd1⟩ := rd_of_row hrow
          have HRD1 : Hid (Rd wr w3.heap.size bl1 (flat (rs (bl (a ++ b))))) := hrd1
          obtain ⟨r, hre⟩ : ∃ r, 2 * (rs (bl (a ++ b))).length = r := ⟨_, rfl⟩
          have HRE : Hid (2 * (rs (bl (a ++ b))).length = r) := hre
          have HLEN : Hid (2 * (rs (bl (a ++ b))).length = 2 * (rs (bl a)).length + k) := hlen2
          rw [hre] at HGS ⊢
          clear hrow hrd1 hfl hlen2 hre hss
          go_wp2_with fail
          refine (HGS).mono ?_
          rintro e w6 ⟨bl2, cp2, rfl, hrd2, hb6⟩
          have HB6 : Hid (Below w.heap.size w w6) := HBL.out.trans (hb6.mono HBL.out.size)
          have HRD1' : Hid (Rd w6 w3.heap.size bl1 (flat (rs (bl (a ++ b))))) := HRD1.out.of hb6
          have HRD2 : Hid (Rd w6 wr.heap.size bl2 (flat (rs (bl (a ++ b))))) := hrd2
          clear hrd2 hb6 HRD1 HGS HBL
          go_wp2_with fail
          refine (count_any a w6 (by omega)).mono ?_
          rintro e w7 ⟨rfl, hb7⟩
          have HB7 : Hid (Below w.heap.size w w7) := HB6.out.trans (hb7.mono HB6.out.size)
          have HRD3 : Hid (Rd w7 w3.heap.size bl1 (flat (rs (bl (a ++ b))))) := HRD1'.out.of hb7
          have HRD4 : Hid (Rd w7 wr.heap.size bl2 (flat (rs (bl (a ++ b))))) := HRD2.out.of hb7
          clear hb7 HRD1' HRD2 HB6
          have HCU := cut_any (a ++ b) ((rs (bl a)).length : Int) w7 (by rw [ByteArray.size_append]; omega) (by omega) (by have := rs_le a; omega)
          rw [Int.toNat_natCast, HP.out, cut_left, cut_right] at HCU
          go_wp2_with fail
          refine (HCU).mono ?_
          rintro e w8 ⟨rfl, hb8⟩
          have HB8 : Hid (Below w.heap.size w w8) := HB7.out.trans (hb8.mono HB7.out.size)
          have HRD5 : Hid (Rd w8 w3.heap.size bl1 (flat (rs (bl (a ++ b))))) := HRD3.out.of hb8
          have HRD6 : Hid (Rd w8 wr.heap.size bl2 (flat (rs (bl (a ++ b))))) := HRD4.out.of hb8
          clear hb8 HRD3 HRD4 HB7 HCU
          go_wp2_with fail
          refine (check_is (a ++ b) none w8 (by rw [ByteArray.size_append]; omega) HC.out (HT.out.of HB8.out HT.out.size)).mono ?_
          rintro e w9 ⟨rfl, hb9⟩
          have HB9 : Hid (Below w.heap.size w w9) := HB8.out.trans (hb9.mono HB8.out.size)
          have HRD7 : Hid (Rd w9 w3.heap.size bl1 (flat (rs (bl (a ++ b))))) := HRD5.out.of hb9
          have HRD8 : Hid (Rd w9 wr.heap.size bl2 (flat (rs (bl (a ++ b))))) := HRD6.out.of hb9
          clear hb9 HRD5 HRD6 HB8
          simp only [kindOf, atOf]
          have hf0 := field0 0 0 w9
          go_wp2_with fail
          clear hf0
          refine (count_any (a ++ b) w9 (by rw [ByteArray.size_append]; omega)).mono ?_
          rintro e w10 ⟨rfl, hb10⟩
          have HB10 : Hid (Below w.heap.size w w10) := HB9.out.trans (hb10.mono HB9.out.size)
          have HRD9 : Hid (Rd w10 w3.heap.size bl1 (flat (rs (bl (a ++ b))))) := HRD7.out.of hb10
          have HRD10 : Hid (Rd w10 wr.heap.size bl2 (flat (rs (bl (a ++ b))))) := HRD8.out.of hb10
          clear hb10 HRD7 HRD8 HB9
          have hsum : ((rs (bl (a ++ b))).length : Int) = ((rs (bl a)).length : Int) + ((rs (bl b)).length : Int) := by
            have := HLEN.out
            have := HN.out
            omega
          rw [hsum]
          clear hsum
          have hra1 := rs_le a
          have hrb1 := rs_le b
          go_wp2_with fail
          refine (count_any a w10 (by omega)).mono ?_
          rintro e w11 ⟨rfl, hb11⟩
          have HB11 : Hid (Below w.heap.size w w11) := HB10.out.trans (hb11.mono HB10.out.size)
          have HRD11 : Hid (Rd w11 w3.heap.size bl1 (flat (rs (bl (a ++ b))))) := HRD9.out.of hb11
          have HRD12 : Hid (Rd w11 wr.heap.size bl2 (flat (rs (bl (a ++ b))))) := HRD10.out.of hb11
          clear hb11 HRD9 HRD10 HB10
          go_wp2_with fail
          refine (count_any b w11 (by omega)).mono ?_
          rintro e w12 ⟨rfl, hb12⟩
          have HB12 : Hid (Below w.heap.size w w12) := HB11.out.trans (hb12.mono HB11.out.size)
          have HRD13 : Hid (Rd w12 w3.heap.size bl1 (flat (rs (bl (a ++ b))))) := HRD11.out.of hb12
          have HRD14 : Hid (Rd w12 wr.heap.size bl2 (flat (rs (bl (a ++ b))))) := HRD12.out.of hb12
          clear hb12 HRD11 HRD12 HB11
          have HSA := same_true w12 (flat (rs (bl (a ++ b)))) bl1 bl2 w3.heap.size wr.heap.size cp1 cp2 (flat_ints _) HRD13.out HRD14.out (by rw [flat_length]; have := HLEN.out; have := HN.out; omega)
          rw [flat_length, HRE.out] at HSA
          have hra2 : ((rs (bl a)).length : Int) ≤ 1048576 := by omega
          have hrb2 : ((rs (bl b)).length : Int) ≤ 1048576 := by omega
          have hra3 : (0 : Int) ≤ ((rs (bl a)).length : Int) := by omega
          have hrb3 : (0 : Int) ≤ ((rs (bl b)).length : Int) := by omega
          go_wp2_with fail
          refine (HSA).mono ?_
          rintro e w13 ⟨rfl, hb13⟩
          have HB13 : Hid (Below w.heap.size w w13) := HB12.out.trans (hb13.mono HB12.out.size)
          clear hb13 HSA HB12
          go_wp2_with fail
          all_goals
            go_ret
            exact ⟨rfl, HB13.out⟩
    · simp only [kindOf, atOf] at hf0 ⊢
      go_wp2_with fail
      go_ret
      exact ⟨rfl, HB3.out⟩
  · simp only [kindOf, atOf] at hf0 ⊢
    go_wp2_with fail
    go_ret
    exact ⟨rfl, HB2.out⟩
end Go.Proofs.YtncjadjfgbeokaaDoor
