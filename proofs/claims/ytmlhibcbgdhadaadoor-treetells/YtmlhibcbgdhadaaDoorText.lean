/- lay: a rune as a markup has it; Text. -/
import Derived.Test.YtmlhibcbgdhadaaDoorTab
import Derived.Lib.AppendStr
namespace Go.Proofs.YtmlhibcbgdhadaaDoor
open Go.RowKit

theorem strCells_bl (s : ByteArray) : Lib.strCells s = u8s (bl s) := by
  unfold Lib.strCells u8s bl
  rw [List.map_map]
  rfl
def rn : Nat → Nat
  | 0 => 60
  | 1 => 62
  | 2 => 38
  | 3 => 34
  | 4 => 173
  | 5 => 160
  | _ => 0
theorem info5 : (Tryd.prog.info? 5).map (fun i => (i.zero, i.size, i.bytes)) = some (some (.int .u8 0), 1, 1) := by kernel_rfl

set_option maxRecDepth 100000 in
set_option maxHeartbeats 8000000 in
theorem lay_c {w : World} {B : Nat} {v : Value} {bs : List Nat} (h : RB w B v bs) (hT : Tc w) {r : Nat} (hr : isRune r = true) (hlen : bs.length ≤ 1099511627776) (hB : B ≤ w.heap.size) :
    Calls Tryd.prog 69 #[v, .int .i64 r] w fun e w' => ∃ v', e = .returned v' ∧ RB w' B v' (bs ++ wrt r) ∧ Only (ob v) w w' := by
  have HR := hid h
  have HT := hid hT
  have hr2 : r ≤ 1114111 := by unfold isRune at hr; simp at hr; exact hr.1
  have hr0 : (0 : Int) ≤ (r : Int) := by omega
  have hr1 : (r : Int) ≤ 1114111 := by omega
  have HAP := hid (fun W (h : RB W B v bs) (hB : B ≤ W.heap.size) => appendRune_any h hr hlen hB)
  obtain ⟨-, n0, s0, n1, s1, n2, s2, n3, s3, n4, s4, n5, s5⟩ := hT
  obtain ⟨i5, hi5, z50, z51, z52⟩ := info_parts info5
  clear h hr
  go_enter Tryd.func69, Tryd.ntmps69
  go_wp2
  clear n0 n1 n2 n3 n4 n5 s0 s1 s2 s3 s4 s5
  go_loopw [8] (fun i wr => ∃ k : Nat, k ≤ 6 ∧ i = .int .i64 k ∧ (∀ j, j < k → r ≠ rn j) ∧ Only [] w wr) (fun i _ => 7 - (RowKit.intOf i).toNat)
  case atStart => exact ⟨0, by omega, rfl, fun j hj => absurd hj (Nat.not_lt_zero _), Only.refl _ _⟩
  case round =>
    obtain ⟨k, hk, rfl, hall, ho⟩ := hrel
    have HALL := hid hall
    have HOK := hid ho
    clear hall ho
    rcases (by omega : k = 0 ∨ k = 1 ∨ k = 2 ∨ k = 3 ∨ k = 4 ∨ k = 5 ∨ k = 6) with rfl | rfl | rfl | rfl | rfl | rfl | rfl
    · have hix := entIdx0
      by_cases heq : r = 60
      · subst heq
        have hm1 : bs.length + e0T.size ≤ maxLen := by unfold maxLen; have : e0T.size = 4 := rfl; omega
        have hm2 : bs.length + e0T.size ≤ 140737488355328 := by have : e0T.size = 4 := rfl; omega
        go_wp2_with (at_builtin; refine Lib.wpList_append_own_string _ rfl _ _ 50 9 rfl B 5 i5 Tryd.underlying50 Tryd.underlying9 hi5 z50 z51 z52 v bs.length (u8s bs) rfl ?qc1 e0T rfl hm1 hm2 ?qc2 ?_)
        case qc1 => exact row_only HR.out (HOK.out.alloc _) (by simp)
        case qc2 => have := HOK.out.size; simp; omega
        intro v' w6 hown hgrow hnil
        go_wp2
        go_ret
        refine ⟨v', rfl, ?_, only_grow ((HOK.out.alloc _).mono (by simp)) hgrow (fun b hb => .inl (mem_ob.2 hb))⟩
        unfold RB
        rw [strCells_bl, ← u8s_app] at hown
        rw [show wrt 60 = bl e0T by decide, List.length_append, bl_length]
        exact hown
      · have hne : ¬ (r : Int) = 60 := by omega
        have hne2 : ¬ (60 : Int) = (r : Int) := by omega
        have hne3 : ((60 : Int) == (r : Int)) = false := by simpa using hne2
        go_wp2
        go_roundw
        case rel =>
          refine ⟨0 + 1, by omega, by go_num, fun j hj => ?_, HOK.out.alloc _⟩
          by_cases hj2 : j = 0
          · subst hj2; exact heq
          · exact HALL.out j (by omega)
        case measure => simp [RowKit.intOf]
    · have hix := entIdx1
      by_cases heq : r = 62
      · subst heq
        have hm1 : bs.length + e1T.size ≤ maxLen := by unfold maxLen; have : e1T.size = 4 := rfl; omega
        have hm2 : bs.length + e1T.size ≤ 140737488355328 := by have : e1T.size = 4 := rfl; omega
        go_wp2_with (at_builtin; refine Lib.wpList_append_own_string _ rfl _ _ 50 9 rfl B 5 i5 Tryd.underlying50 Tryd.underlying9 hi5 z50 z51 z52 v bs.length (u8s bs) rfl ?qc1 e1T rfl hm1 hm2 ?qc2 ?_)
        case qc1 => exact row_only HR.out (HOK.out.alloc _) (by simp)
        case qc2 => have := HOK.out.size; simp; omega
        intro v' w6 hown hgrow hnil
        go_wp2
        go_ret
        refine ⟨v', rfl, ?_, only_grow ((HOK.out.alloc _).mono (by simp)) hgrow (fun b hb => .inl (mem_ob.2 hb))⟩
        unfold RB
        rw [strCells_bl, ← u8s_app] at hown
        rw [show wrt 62 = bl e1T by decide, List.length_append, bl_length]
        exact hown
      · have hne : ¬ (r : Int) = 62 := by omega
        have hne2 : ¬ (62 : Int) = (r : Int) := by omega
        have hne3 : ((62 : Int) == (r : Int)) = false := by simpa using hne2
        go_wp2
        go_roundw
        case rel =>
          refine ⟨1 + 1, by omega, by go_num, fun j hj => ?_, HOK.out.alloc _⟩
          by_cases hj2 : j = 1
          · subst hj2; exact heq
          · exact HALL.out j (by omega)
        case measure => simp [RowKit.intOf]
    · have hix := entIdx2
      by_cases heq : r = 38
      · subst heq
        have hm1 : bs.length + e2T.size ≤ maxLen := by unfold maxLen; have : e2T.size = 5 := rfl; omega
        have hm2 : bs.length + e2T.size ≤ 140737488355328 := by have : e2T.size = 5 := rfl; omega
        go_wp2_with (at_builtin; refine Lib.wpList_append_own_string _ rfl _ _ 50 9 rfl B 5 i5 Tryd.underlying50 Tryd.underlying9 hi5 z50 z51 z52 v bs.length (u8s bs) rfl ?qc1 e2T rfl hm1 hm2 ?qc2 ?_)
        case qc1 => exact row_only HR.out (HOK.out.alloc _) (by simp)
        case qc2 => have := HOK.out.size; simp; omega
        intro v' w6 hown hgrow hnil
        go_wp2
        go_ret
        refine ⟨v', rfl, ?_, only_grow ((HOK.out.alloc _).mono (by simp)) hgrow (fun b hb => .inl (mem_ob.2 hb))⟩
        unfold RB
        rw [strCells_bl, ← u8s_app] at hown
        rw [show wrt 38 = bl e2T by decide, List.length_append, bl_length]
        exact hown
      · have hne : ¬ (r : Int) = 38 := by omega
        have hne2 : ¬ (38 : Int) = (r : Int) := by omega
        have hne3 : ((38 : Int) == (r : Int)) = false := by simpa using hne2
        go_wp2
        go_roundw
        case rel =>
          refine ⟨2 + 1, by omega, by go_num, fun j hj => ?_, HOK.out.alloc _⟩
          by_cases hj2 : j = 2
          · subst hj2; exact heq
          · exact HALL.out j (by omega)
        case measure => simp [RowKit.intOf]
    · have hix := entIdx3
      by_cases heq : r = 34
      · subst heq
        have hm1 : bs.length + e3T.size ≤ maxLen := by unfold maxLen; have : e3T.size = 6 := rfl; omega
        have hm2 : bs.length + e3T.size ≤ 140737488355328 := by have : e3T.size = 6 := rfl; omega
        go_wp2_with (at_builtin; refine Lib.wpList_append_own_string _ rfl _ _ 50 9 rfl B 5 i5 Tryd.underlying50 Tryd.underlying9 hi5 z50 z51 z52 v bs.length (u8s bs) rfl ?qc1 e3T rfl hm1 hm2 ?qc2 ?_)
        case qc1 => exact row_only HR.out (HOK.out.alloc _) (by simp)
        case qc2 => have := HOK.out.size; simp; omega
        intro v' w6 hown hgrow hnil
        go_wp2
        go_ret
        refine ⟨v', rfl, ?_, only_grow ((HOK.out.alloc _).mono (by simp)) hgrow (fun b hb => .inl (mem_ob.2 hb))⟩
        unfold RB
        rw [strCells_bl, ← u8s_app] at hown
        rw [show wrt 34 = bl e3T by decide, List.length_append, bl_length]
        exact hown
      · have hne : ¬ (r : Int) = 34 := by omega
        have hne2 : ¬ (34 : Int) = (r : Int) := by omega
        have hne3 : ((34 : Int) == (r : Int)) = false := by simpa using hne2
        go_wp2
        go_roundw
        case rel =>
          refine ⟨3 + 1, by omega, by go_num, fun j hj => ?_, HOK.out.alloc _⟩
          by_cases hj2 : j = 3
          · subst hj2; exact heq
          · exact HALL.out j (by omega)
        case measure => simp [RowKit.intOf]
    · have hix := entIdx4
      by_cases heq : r = 173
      · subst heq
        have hm1 : bs.length + e4T.size ≤ maxLen := by unfold maxLen; have : e4T.size = 5 := rfl; omega
        have hm2 : bs.length + e4T.size ≤ 140737488355328 := by have : e4T.size = 5 := rfl; omega
        go_wp2_with (at_builtin; refine Lib.wpList_append_own_string _ rfl _ _ 50 9 rfl B 5 i5 Tryd.underlying50 Tryd.underlying9 hi5 z50 z51 z52 v bs.length (u8s bs) rfl ?qc1 e4T rfl hm1 hm2 ?qc2 ?_)
        case qc1 => exact row_only HR.out (HOK.out.alloc _) (by simp)
        case qc2 => have := HOK.out.size; simp; omega
        intro v' w6 hown hgrow hnil
        go_wp2
        go_ret
        refine ⟨v', rfl, ?_, only_grow ((HOK.out.alloc _).mono (by simp)) hgrow (fun b hb => .inl (mem_ob.2 hb))⟩
        unfold RB
        rw [strCells_bl, ← u8s_app] at hown
        rw [show wrt 173 = bl e4T by decide, List.length_append, bl_length]
        exact hown
      · have hne : ¬ (r : Int) = 173 := by omega
        have hne2 : ¬ (173 : Int) = (r : Int) := by omega
        have hne3 : ((173 : Int) == (r : Int)) = false := by simpa using hne2
        go_wp2
        go_roundw
        case rel =>
          refine ⟨4 + 1, by omega, by go_num, fun j hj => ?_, HOK.out.alloc _⟩
          by_cases hj2 : j = 4
          · subst hj2; exact heq
          · exact HALL.out j (by omega)
        case measure => simp [RowKit.intOf]
    · have hix := entIdx5
      by_cases heq : r = 160
      · subst heq
        have hm1 : bs.length + e5T.size ≤ maxLen := by unfold maxLen; have : e5T.size = 6 := rfl; omega
        have hm2 : bs.length + e5T.size ≤ 140737488355328 := by have : e5T.size = 6 := rfl; omega
        go_wp2_with (at_builtin; refine Lib.wpList_append_own_string _ rfl _ _ 50 9 rfl B 5 i5 Tryd.underlying50 Tryd.underlying9 hi5 z50 z51 z52 v bs.length (u8s bs) rfl ?qc1 e5T rfl hm1 hm2 ?qc2 ?_)
        case qc1 => exact row_only HR.out (HOK.out.alloc _) (by simp)
        case qc2 => have := HOK.out.size; simp; omega
        intro v' w6 hown hgrow hnil
        go_wp2
        go_ret
        refine ⟨v', rfl, ?_, only_grow ((HOK.out.alloc _).mono (by simp)) hgrow (fun b hb => .inl (mem_ob.2 hb))⟩
        unfold RB
        rw [strCells_bl, ← u8s_app] at hown
        rw [show wrt 160 = bl e5T by decide, List.length_append, bl_length]
        exact hown
      · have hne : ¬ (r : Int) = 160 := by omega
        have hne2 : ¬ (160 : Int) = (r : Int) := by omega
        have hne3 : ((160 : Int) == (r : Int)) = false := by simpa using hne2
        go_wp2
        go_roundw
        case rel =>
          refine ⟨5 + 1, by omega, by go_num, fun j hj => ?_, HOK.out.alloc _⟩
          by_cases hj2 : j = 5
          · subst hj2; exact heq
          · exact HALL.out j (by omega)
        case measure => simp [RowKit.intOf]
    · have hwr : wrt r = enc r := by
        refine wrt_none fun e he => ?_
        have q := HALL.out
        simp only [ents, List.mem_cons, List.not_mem_nil, or_false] at he
        have a0 := q 0 (by decide)
        have a1 := q 1 (by decide)
        have a2 := q 2 (by decide)
        have a3 := q 3 (by decide)
        have a4 := q 4 (by decide)
        have a5 := q 5 (by decide)
        simp only [rn] at a0 a1 a2 a3 a4 a5
        rcases he with rfl | rfl | rfl | rfl | rfl | rfl <;> simp only <;> omega
      have HWR := hid hwr
      clear hwr
      go_wp2_with fail
      refine (HAP.out _ (row_only HR.out HOK.out (by simp)) (Nat.le_trans hB HOK.out.size)).mono ?_
      rintro e w1 ⟨v', rfl, hrb, o1, hg⟩
      go_wp2
      go_ret
      refine ⟨v', rfl, by rw [HWR.out]; exact hrb, only_grow ((HOK.out.alloc o1).mono (by simp)) hg (fun b hb => .inl (mem_ob.2 hb))⟩
/-- a char as it came in -/
def chI (x : Int × Int × Int) : List Value := [.int .i64 x.1, .int .i64 x.2.1, .int .i64 x.2.2]
theorem chI_len (x : Int × Int × Int) : (chI x).length = 3 := rfl
theorem Sl.charI {W : World} {ad : Option Addr} {ys : List (Int × Int × Int)} (h : Sl W ad ys.length (ys.flatMap chI)) {i : Nat} {x : Int × Int × Int} (hi : ys[i]? = some x) :
    ∃ b off, ad = some ⟨b, off, none⟩ ∧ b < W.heap.size ∧ W.cell? ⟨b, off + i * 3, none⟩ = some (.int .i64 x.1) ∧ W.cell? ⟨b, off + i * 3 + 1, none⟩ = some (.int .i64 x.2.1) ∧ W.cell? ⟨b, off + i * 3 + 2, none⟩ = some (.int .i64 x.2.2) := by
  have h0 : ys.length ≠ 0 := fun e => by
    rw [List.eq_nil_of_length_eq_zero e] at hi; simp at hi
  obtain ⟨b, off, e, ha⟩ := h h0
  have f := fun c (hc : c < 3) => flat_get (enc := chI) chI_len hc hi
  exact ⟨b, off, e, ha.1, ha.2 (i * 3) _ (f 0 (by decide)), ha.2 (i * 3 + 1) _ (f 1 (by decide)), ha.2 (i * 3 + 2) _ (f 2 (by decide))⟩
theorem widthI_isR (r : Int) : (isR r = true → 0 < widthI r ∧ widthI r ≤ 4) ∧ (isR r = false → widthI r = 0) := by
  unfold isR isRune widthI
  constructor
  · intro h
    simp at h
    rw [if_neg (by omega)]
    repeat' split
    all_goals omega
  · intro h
    simp at h
    rw [if_pos (by omega)]
/-- what Text answers -/
def textV (o : Option (List Nat)) : Value := match o with
  | some bs => .tuple #[.string (strN bs), .int .i64 0]
  | none => .tuple #[.string ⟨#[]⟩, .int .i64 1]

set_option maxRecDepth 100000 in
set_option maxHeartbeats 8000000 in
theorem text_c {w : World} {ad : Option Addr} {cap : Nat} {l : List (Int × Int × Int)} (hs : Sl w ad l.length (l.flatMap chI)) (hT : Tc w) (hl : l.length ≤ 4294967296) :
    Calls Tryd.prog 51 #[.slice ad l.length cap] w fun e w' => e = .returned (textV (textM l)) ∧ Only [] w w' := by
  have HS := hid hs
  have HT := hid hT
  have h3w := hid hT.sz
  obtain ⟨n, hn⟩ : ∃ n, l.length = n := ⟨_, rfl⟩
  have HN := hid hn
  rw [hn] at hl ⊢
  obtain ⟨i5, hi5, z50, z51, z52⟩ := info_parts info5
  clear hs hT hn
  go_enter Tryd.func51, Tryd.ntmps51
  go_wp2_with fail
  go_loopw [4, 9] (fun v i wr => ∃ (k : Nat) (rv : Value), v = rv ∧ i = .int .i64 k ∧ k ≤ n ∧ (l.take k).all (fun x => isR x.1) = true ∧ RB wr w.heap.size rv ((l.take k).flatMap fun x => tx x.1.toNat) ∧ Only [] w wr) (fun _ i _ => n - (RowKit.intOf i).toNat)
  case atStart => exact ⟨0, _, rfl, rfl, by omega, by simp, World.ownsRow_nil _ _ _ _, Only.refl _ _⟩
  case round =>
    obtain ⟨k, rv, rfl, rfl, hk, hall, hrb, ho⟩ := hrel
    have HRB := hid hrb
    have HOK := hid ho
    have HALL := hid hall
    clear hrb ho hall
    by_cases hlt : k < n
    · obtain ⟨x, hxk⟩ := some_at (xs := l) (i := k) (by rw [HN.out]; exact hlt)
      obtain ⟨b, off, rfl, hbl, e0, e1, e2⟩ := (HS.out.only HOK.out).charI hxk
      have htk : l.take (k + 1) = l.take k ++ [x] := by
        have hk' : k < l.length := by rw [HN.out]; exact hlt
        rw [List.take_succ_eq_append_getElem hk']
        congr 2
        rw [List.getElem?_eq_getElem hk'] at hxk
        exact Option.some.inj hxk
      have HTK := hid htk
      have hkl : (k : Int) < (n : Int) := by omega
      have hk0 : (0 : Int) ≤ (k : Int) := by omega
      have HLT := hid hlt
      have hwd := widthI_isR x.1
      have HW := hid (fun W => width_any x.1 W)
      have HXK := hid hxk
      have hblen : ((l.take k).flatMap fun x => tx x.1.toNat).length ≤ 1099511627776 := by
        have := txs_len (l.take k)
        rw [List.length_take] at this
        omega
      have HBL := hid hblen
      have hbw : ¬ b = wr.heap.size := by omega
      clear hbl hlt htk hxk hblen
      obtain ⟨y, hy⟩ : ∃ y, widthI x.1 = y := ⟨_, rfl⟩
      rw [hy] at HW hwd
      rcases hir : isR x.1 with _ | _
      · have hy0 := hwd.2 hir
        subst hy0
        have hno : textM l = none := by
          unfold textM
          rw [if_neg]
          intro h
          have := List.all_eq_true.1 h x (List.mem_of_getElem? HXK.out)
          rw [hir] at this; cases this
        have HNO := hid hno
        clear hwd hy hir hno
        go_wp2_with fail
        refine (HW.out _).mono ?_
        rintro e w1 ⟨rfl, rfl⟩
        go_wp2
        go_ret2
        rw [HNO.out]
        exact ⟨rfl, HOK.out.alloc _⟩
      · obtain ⟨hy1, hy2⟩ := hwd.1 hir
        have hyn : ¬ y = 0 := by omega
        have hrr : isRune x.1.toNat = true ∧ 0 ≤ x.1 := by unfold isR at hir; simp at hir; exact ⟨hir.2, hir.1⟩
        have hall2 : (l.take (k + 1)).all (fun x => isR x.1) = true := by rw [HTK.out, List.all_append, HALL.out]; simp [hir]
        have HALL2 := hid hall2
        have hxl : x.1 ≤ 1114111 := by have := hrr.1; unfold isRune at this; simp at this; omega
        have hx0 := hrr.2
        have HRR := hid hrr
        have HR1 := hid (row_only HRB.out ((Only.refl [] wr).alloc (.cells #[.int .i64 x.1, .int .i64 x.2.1, .int .i64 x.2.2] 44)) (by simp))
        clear hwd hy hir hall2 hrr
        by_cases h34 : x.1 = 34
        · have hflat : ((l.take (k + 1)).flatMap fun x => tx x.1.toNat) = ((l.take k).flatMap fun x => tx x.1.toNat) ++ [34] := by
            rw [HTK.out, List.flatMap_append, List.flatMap_cons, List.flatMap_nil, List.append_nil, h34]; rfl
          have HFL := hid hflat
          have ha1 : ((l.take k).flatMap fun x => tx x.1.toNat).length + 1 ≤ maxLen := by have := HBL.out; unfold maxLen; omega
          have ha2 : (((l.take k).flatMap fun x => tx x.1.toNat).length + 1) * 1 ≤ 140737488355328 := by have := HBL.out; omega
          have e34 : (x.1 == 34) = true := by simpa using h34
          clear hflat h34
          go_wp2_with fail
          refine (HW.out _).mono ?_
          rintro e w1 ⟨rfl, rfl⟩
          go_wp2_with (at_builtin; refine wpList_append_sl _ rfl _ _ 50 rfl w.heap.size 5 i5 _ 1 1 Tryd.underlying50 hi5 z50 z51 z52 rfl (by decide) u4 ((l.take k).flatMap fun x => tx x.1.toNat).length (u8s ((l.take k).flatMap fun x => tx x.1.toNat)) (by rfl) ?qc1 (some ⟨wr.heap.size + 1, 0, none⟩) 1 1 (u8s [34]) (by rfl) (by rfl) ?qc2 ?qc3 ha1 ha2 ?qc4 ?_)
          case qc1 => exact row_only HR1.out ((Only.refl [] _).alloc _) (by simp)
          case qc2 => exact sl_newest _ (u8s [34]) 5 (by simp)
          case qc3 => intro u hu; simp [u8s] at hu; subst hu; rfl
          case qc4 => have := HOK.out.size; simp; omega
          intro v' w6 hown hgrew
          have hge := row_ge HRB.out
          have HG := hid (only_grow ((HOK.out.alloc (.cells #[.int .i64 x.1, .int .i64 x.2.1, .int .i64 x.2.2] 44)).alloc (.cells #[.int .u8 34] 5)) hgrew.grown (fun b hb => .inr (hge b hb).1))
          have HOW := hid hown
          clear hown hgrew hge
          go_wp2
          go_roundw
          case rel =>
            refine ⟨k + 1, v', rfl, rfl, HLT.out, HALL2.out, ?_, HG.out⟩
            rw [HFL.out]
            unfold RB
            rw [u8s_app, List.length_append]
            have q := HOW.out
            rw [show ((l.take k).flatMap fun x => tx x.1.toNat).length = (List.take k (List.map (fun a => (tx a.1.toNat).length) l)).sum by rw [List.length_flatMap, List.map_take]]
            exact q
          case measure => have := HLT.out; simp [RowKit.intOf]; omega
        · have hflat : ((l.take (k + 1)).flatMap fun x => tx x.1.toNat) = ((l.take k).flatMap fun x => tx x.1.toNat) ++ wrt x.1.toNat := by
            rw [HTK.out, List.flatMap_append, List.flatMap_cons, List.flatMap_nil, List.append_nil]
            unfold tx
            rw [if_neg (by omega)]
          have HFL := hid hflat
          have e34 : (x.1 == 34) = false := by simpa using h34
          have HLAY := hid (lay_c HR1.out (HT.out.only (HOK.out.alloc (.cells #[.int .i64 x.1, .int .i64 x.2.1, .int .i64 x.2.2] 44)) (by simp)) HRR.out.1 HBL.out (by have := HOK.out.size; simp; omega))
          rw [Int.toNat_of_nonneg HRR.out.2] at HLAY
          clear hflat
          go_wp2_with fail
          refine (HW.out _).mono ?_
          rintro e w1 ⟨rfl, rfl⟩
          go_wp2_with fail
          refine HLAY.out.mono ?_
          rintro e w2 ⟨v', rfl, hrb2, ho2⟩
          have hge := row_ge HRB.out
          have HG : Hid (Only [] w w2) := hid ((HOK.out.alloc (.cells #[.int .i64 x.1, .int .i64 x.2.1, .int .i64 x.2.2] 44)).fresh ho2 (fun i hi hlt => by have := (hge i (mem_ob.1 hi)).1; omega))
          have HRB2 := hid hrb2
          clear hrb2 ho2 hge
          go_wp2
          go_roundw
          case rel =>
            refine ⟨k + 1, v', rfl, rfl, HLT.out, HALL2.out, ?_, HG.out⟩
            rw [HFL.out]
            exact HRB2.out
          case measure => have := HLT.out; simp [RowKit.intOf]; omega
    · have hkl : ¬ (k : Int) < (n : Int) := by omega
      have hkn : k = n := by omega
      subst hkn
      have htk : l.take k = l := List.take_of_length_le (by rw [HN.out]; exact Nat.le_refl _)
      have hall : l.all (fun x => isR x.1) = true := by have := HALL.out; rw [htk] at this; exact this
      have hyes : textM l = some (l.flatMap fun x => tx x.1.toNat) := by unfold textM; rw [if_pos hall]
      have hlt : ∀ b ∈ (l.flatMap fun x => tx x.1.toNat), b < 256 := by
        intro b hb
        obtain ⟨x, hx, hbx⟩ := List.mem_flatMap.1 hb
        have := List.all_eq_true.1 hall x hx
        unfold isR at this
        simp at this
        exact tx_lt this.2 b hbx
      have hrb2 := HRB.out
      rw [htk] at hrb2
      have hcv := RB.str hrb2 hlt
      have HY := hid hyes
      clear hyes hall hlt hrb2 htk
      go_wp2_with fail
      go_ret2
      rw [HY.out]
      exact ⟨rfl, HOK.out⟩

end Go.Proofs.YtmlhibcbgdhadaaDoor
