/- The reference's written and Text. -/
import Derived.Test.YtmlhibcbgdhadaaDoorPutC
namespace Go.Proofs.YtmlhibcbgdhadaaDoor
open Go.RowKit

set_option maxHeartbeats 4000000 in
theorem written_c {r : Nat} (hr : isRune r = true) (b : Bool) (w : World) :
    Calls Tryd.prog 58 #[.int .i64 r, .bool b] w fun e w' => e = .returned (.string (strN (wrR r b))) ∧ Only [] w w' := by
  rcases wrt_cases r with ⟨hno, hw⟩ | ⟨e, he, rfl, hw⟩
  · have h60 : r ≠ 60 := fun e => hno (60, [108, 116, 59]) (by decide) e.symm
    have h62 : r ≠ 62 := fun e => hno (62, [103, 116, 59]) (by decide) e.symm
    have h38 : r ≠ 38 := fun e => hno (38, [97, 109, 112, 59]) (by decide) e.symm
    have h34 : r ≠ 34 := fun e => hno (34, [113, 117, 111, 116, 59]) (by decide) e.symm
    have h173 : r ≠ 173 := fun e => hno (173, [115, 104, 121, 59]) (by decide) e.symm
    have h160 : r ≠ 160 := fun e => hno (160, [110, 98, 115, 112, 59]) (by decide) e.symm
    have he : wrR r b = enc r := by
      cases b
      · show tx r = _
        unfold tx; rw [if_neg h34, hw]
      · exact hw
    rw [he]
    have HP := hid (fun W => put_c hr W)
    have i60 : ((r : Int) == 60) = false := by simp; omega
    have i62 : ((r : Int) == 62) = false := by simp; omega
    have i38 : ((r : Int) == 38) = false := by simp; omega
    have i34 : ((r : Int) == 34) = false := by simp; omega
    have i173 : ((r : Int) == 173) = false := by simp; omega
    have i160 : ((r : Int) == 160) = false := by simp; omega
    clear hno hw he h60 h62 h38 h34 h173 h160 hr
    go_enter Tryd.func58, Tryd.ntmps58
    go_wp2_with fail
    refine (HP.out _).mono ?_
    rintro e w1 ⟨rfl, ho⟩
    go_wp2
    go_ret
    exact ⟨rfl, ho⟩
  · simp only [ents, List.mem_cons, List.not_mem_nil, or_false] at he
    clear hw
    rcases he with rfl | rfl | rfl | rfl | rfl | rfl
    all_goals cases b
    all_goals
      have HP := hid (fun W => put_c hr W)
      clear hr
      go_enter Tryd.func58, Tryd.ntmps58
      go_wp2_with fail
      first
      | (go_ret
         exact ⟨by kernel_rfl, Only.refl _ _⟩)
      | (refine (HP.out _).mono ?_
         rintro e w1 ⟨rfl, ho⟩
         go_wp2
         go_ret
         exact ⟨by kernel_rfl, ho⟩)

set_option maxRecDepth 100000 in
set_option maxHeartbeats 8000000 in
theorem refText_c {w : World} {ad : Option Addr} {cap : Nat} {l : List (Int × Int × Int)} (hs : Sl w ad l.length (l.flatMap chI)) (hl : l.length ≤ 4294967296) :
    Calls Tryd.prog 36 #[.slice ad l.length cap] w fun e w' => e = .returned (textV (textM l)) ∧ Only [] w w' := by
  have HS := hid hs
  obtain ⟨n, hn⟩ : ∃ n, l.length = n := ⟨_, rfl⟩
  have HN := hid hn
  rw [hn] at hl ⊢
  obtain ⟨i5, hi5, z50, z51, z52⟩ := info_parts info5
  clear hs hn
  go_enter Tryd.func36, Tryd.ntmps36
  go_wp2_with fail
  go_loopw [4, 5] (fun v i wr => ∃ (k : Nat) (rv : Value), v = rv ∧ i = .int .i64 k ∧ k ≤ n ∧ (l.take k).all (fun x => isR x.1) = true ∧ RB wr w.heap.size rv ((l.take k).flatMap fun x => tx x.1.toNat) ∧ Only [] w wr) (fun _ i _ => n - (RowKit.intOf i).toNat)
  case atStart => exact ⟨0, _, rfl, rfl, by omega, by simp, World.ownsRow_nil _ _ _ _, Only.refl _ _⟩
  case round =>
    obtain ⟨k, rv, rfl, rfl, hk, hall, hrb, ho⟩ := hrel
    have HRB := hid hrb
    have HOK := hid ho
    have HALL := hid hall
    clear hrb ho hall
    by_cases hlt : k < n
    · obtain ⟨x, hxk⟩ := some_at (xs := l) (i := k) (by rw [HN.out]; exact hlt)
      obtain ⟨b, off, rfl, hbl, e0, e1, e2⟩ := (HS.out.only HOK.out).charI hxk
      have htk : l.take (k + 1) = l.take k ++ [x] := by
        have hk' : k < l.length := by rw [HN.out]; exact hlt
        rw [List.take_succ_eq_append_getElem hk']
        congr 2
        rw [List.getElem?_eq_getElem hk'] at hxk
        exact Option.some.inj hxk
      have HTK := hid htk
      have hkl : (k : Int) < (n : Int) := by omega
      have hk0 : (0 : Int) ≤ (k : Int) := by omega
      have HLT := hid hlt
      have hwd := widthI_isR x.1
      have HW := hid (fun W => refWidth_any x.1 W)
      have HXK := hid hxk
      have hblen : ((l.take k).flatMap fun x => tx x.1.toNat).length ≤ 1099511627776 := by
        have := txs_len (l.take k)
        rw [List.length_take] at this
        omega
      have HBL := hid hblen
      clear hbl hlt htk hxk hblen
      obtain ⟨y, hy⟩ : ∃ y, widthI x.1 = y := ⟨_, rfl⟩
      rw [hy] at HW hwd
      rcases hir : isR x.1 with _ | _
      · have hy0 := hwd.2 hir
        subst hy0
        have hno : textM l = none := by
          unfold textM
          rw [if_neg]
          intro h
          have := List.all_eq_true.1 h x (List.mem_of_getElem? HXK.out)
          rw [hir] at this; cases this
        have HNO := hid hno
        clear hwd hy hir hno
        go_wp2_with fail
        refine (HW.out _).mono ?_
        rintro e w1 ⟨rfl, rfl⟩
        go_wp2
        go_ret2
        rw [HNO.out]
        exact ⟨rfl, HOK.out⟩
      · obtain ⟨hy1, hy2⟩ := hwd.1 hir
        have hyn : ¬ y = 0 := by omega
        have hrr : isRune x.1.toNat = true ∧ 0 ≤ x.1 := by unfold isR at hir; simp at hir; exact ⟨hir.2, hir.1⟩
        have hall2 : (l.take (k + 1)).all (fun x => isR x.1) = true := by rw [HTK.out, List.all_append, HALL.out]; simp [hir]
        have HALL2 := hid hall2
        have HRR := hid hrr
        have HWR := hid (fun W => written_c hrr.1 false W)
        rw [Int.toNat_of_nonneg hrr.2] at HWR
        have hflat : ((l.take (k + 1)).flatMap fun x => tx x.1.toNat) = ((l.take k).flatMap fun x => tx x.1.toNat) ++ tx x.1.toNat := by
          rw [HTK.out, List.flatMap_append, List.flatMap_cons, List.flatMap_nil, List.append_nil]
        have HFL := hid hflat
        clear hwd hy hir hall2 hrr hflat
        obtain ⟨t, ht⟩ : ∃ t, strN (wrR x.1.toNat false) = t := ⟨_, rfl⟩
        have htb : bl t = tx x.1.toNat := by rw [← ht]; exact bl_strN _ (wrR_lt HRR.out.1 false)
        have hts : t.size ≤ 6 := by rw [← bl_length, htb]; exact (tx_len _).2
        rw [ht] at HWR
        have HTB := hid htb
        clear ht htb
        have hm1 : ((l.take k).flatMap fun x => tx x.1.toNat).length + t.size ≤ maxLen := by have := HBL.out; unfold maxLen; omega
        have hm2 : ((l.take k).flatMap fun x => tx x.1.toNat).length + t.size ≤ 140737488355328 := by have := HBL.out; omega
        go_wp2_with fail
        refine (HW.out _).mono ?_
        rintro e w1 ⟨rfl, rfl⟩
        go_wp2_with fail
        refine (HWR.out _).mono ?_
        rintro e w2 ⟨rfl, ho2⟩
        have HO2 := hid (HOK.out.trans ho2)
        have HR2 := hid (row_only HRB.out ho2 (by simp))
        clear ho2
        go_wp2_with (at_builtin; refine Lib.wpList_append_own_string _ rfl _ _ 50 9 rfl w.heap.size 5 i5 Tryd.underlying50 Tryd.underlying9 hi5 z50 z51 z52 u4 ((l.take k).flatMap fun x => tx x.1.toNat).length (u8s ((l.take k).flatMap fun x => tx x.1.toNat)) (by rfl) ?qc1 t (by rfl) hm1 hm2 ?qc2 ?_)
        case qc1 => exact HR2.out
        case qc2 => exact HO2.out.size
        intro v' w6 hown hgrow hnil
        have hge := row_ge HRB.out
        have HG := hid (only_grow (L := []) HO2.out hgrow (fun b hb => .inr (hge b hb).1))
        have HOW := hid hown
        clear hown hgrow hge hnil
        go_wp2
        go_roundw
        case rel =>
          refine ⟨k + 1, v', rfl, by go_num, HLT.out, HALL2.out, ?_, HG.out⟩
          rw [HFL.out, ← HTB.out]
          have q := HOW.out
          rw [strCells_bl, ← u8s_app] at q
          unfold RB
          rw [List.length_append, bl_length, show ((l.take k).flatMap fun x => tx x.1.toNat).length = (List.take k (List.map (fun a => (tx a.1.toNat).length) l)).sum by rw [List.length_flatMap, List.map_take]]
          exact q
        case measure => have := HLT.out; simp [RowKit.intOf]; omega
    · have hkl : ¬ (k : Int) < (n : Int) := by omega
      have hkn : k = n := by omega
      subst hkn
      have htk : l.take k = l := List.take_of_length_le (by rw [HN.out]; exact Nat.le_refl _)
      have hall : l.all (fun x => isR x.1) = true := by have := HALL.out; rw [htk] at this; exact this
      have hyes : textM l = some (l.flatMap fun x => tx x.1.toNat) := by unfold textM; rw [if_pos hall]
      have hlt : ∀ b ∈ (l.flatMap fun x => tx x.1.toNat), b < 256 := by
        intro b hb
        obtain ⟨x, hx, hbx⟩ := List.mem_flatMap.1 hb
        have := List.all_eq_true.1 hall x hx
        unfold isR at this
        simp at this
        exact tx_lt this.2 b hbx
      have hrb2 := HRB.out
      rw [htk] at hrb2
      have hcv := RB.str hrb2 hlt
      have HY := hid hyes
      clear hyes hall hlt hrb2 htk
      go_wp2_with fail
      go_ret2
      rw [HY.out]
      exact ⟨rfl, HOK.out⟩
end Go.Proofs.YtmlhibcbgdhadaaDoor
