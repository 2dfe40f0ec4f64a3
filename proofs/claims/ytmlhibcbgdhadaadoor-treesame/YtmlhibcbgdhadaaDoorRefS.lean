/- The reference's Same. -/
import Derived.Test.YtmlhibcbgdhadaaDoorSame
import Derived.Test.YtmlhibcbgdhadaaDoorQuiet
namespace Go.Proofs.YtmlhibcbgdhadaaDoor
open Go.RowKit

set_option maxRecDepth 100000 in
set_option maxHeartbeats 16000000 in
theorem refSame_any {a b : List (Nd × Value)} {ad bd : Option Addr} {ac bc B : Nat} (w : World) (ha : NL w B ad a) (hb : NL w B bd b) (hfa : ∀ x ∈ a, Fit x.1) (hfb : ∀ x ∈ b, Fit x.1) (hla : a.length ≤ 4294967296) (hlb : b.length ≤ 4294967296) :
    Calls Tryd.prog 19 #[.slice ad a.length ac, .slice bd b.length bc] w fun e w' => e = .returned (.bool (sameL (nds a) (nds b))) ∧ Only [] w w' := by
  have HA := hid ha
  have HB := hid hb
  obtain ⟨n, hn⟩ : ∃ n, a.length = n := ⟨_, rfl⟩
  obtain ⟨m, hm⟩ : ∃ m, b.length = m := ⟨_, rfl⟩
  have hNa : (nds a).length = n := by simp [hn]
  have hNb : (nds b).length = m := by simp [hm]
  have HN := hid hn
  have HM := hid hm
  have HNA := hid hNa
  have HNB := hid hNb
  have HFA := hid hfa
  have HFB := hid hfb
  rw [hn] at hla ⊢
  rw [hm] at hlb ⊢
  clear ha hb hfa hfb hNa hNb
  by_cases hnm : n = m
  · subst hnm
    clear hn hm
    go_enter Tryd.func19, Tryd.ntmps19
    go_wp2_with fail
    go_loopw [5] (fun i wr => ∃ k : Nat, i = .int .i64 k ∧ k ≤ n ∧ Hid (∀ j, j < k → sameN (nd (nds a) j) (nd (nds b) j) = true) ∧ Only [] w wr) (fun i _ => n - (RowKit.intOf i).toNat)
    case atStart => exact ⟨0, rfl, by omega, fun j h => by omega, Only.refl _ _⟩
    case round =>
      obtain ⟨k, rfl, hk, hall, ho⟩ := hrel
      by_cases hlt : k < n
      · obtain ⟨x, hx⟩ := some_at (xs := a) (i := k) (by rw [HN.out]; exact hlt)
        obtain ⟨y, hy⟩ := some_at (xs := b) (i := k) (by rw [HM.out]; exact hlt)
        obtain ⟨xn, xv⟩ := x
        obtain ⟨yn, yv⟩ := y
        have hna := HA.out.still ho
        have hnb := HB.out.still ho
        obtain ⟨xa, xc, hxv, hxs⟩ := hna.cv _ (List.mem_of_getElem? hx)
        obtain ⟨ya, yc, hyv, hys⟩ := hnb.cv _ (List.mem_of_getElem? hy)
        dsimp only at hxv hyv hxs hys
        subst hxv hyv
        obtain ⟨ab, ao, rfl, -, abw, ca⟩ := hna.at_ hx
        obtain ⟨bb, bo, rfl, -, bbw, cb⟩ := hnb.at_ hy
        have hdx := nd_of (nds_get hx)
        have hdy := nd_of (nds_get hy)
        dsimp only at hdx hdy
        have hlx := (HFA.out _ (List.mem_of_getElem? hx)).chs
        have hly := (HFB.out _ (List.mem_of_getElem? hy)).chs
        have HXS := hid hxs
        have HYS := hid hys
        dsimp only at hlx hly
        obtain ⟨xm, hxm⟩ : ∃ xm, xn.chs.length = xm := ⟨_, rfl⟩
        obtain ⟨ym, hym⟩ : ∃ ym, yn.chs.length = ym := ⟨_, rfl⟩
        have HXM := hid hxm
        have HYM := hid hym
        rw [hxm] at ca hlx
        rw [hym] at cb hly
        clear hxm hym hxs hys
        have a0 := ca 0 _ rfl
        have a1 := ca 1 _ rfl
        have a2 := ca 2 _ rfl
        have a3 := ca 3 _ rfl
        have a4 := ca 4 _ rfl
        have a5 := ca 5 _ rfl
        have a6 := ca 6 _ rfl
        have a7 := ca 7 _ rfl
        have a8 := ca 8 _ rfl
        have a9 := ca 9 _ rfl
        have a10 := ca 10 _ rfl
        have a11 := ca 11 _ rfl
        have a12 := ca 12 _ rfl
        have p0 := fun o : Obj => (cell_past wr o bb _ bbw).trans (cb 0 _ rfl)
        have p1 := fun o : Obj => (cell_past wr o bb _ bbw).trans (cb 1 _ rfl)
        have p2 := fun o : Obj => (cell_past wr o bb _ bbw).trans (cb 2 _ rfl)
        have p3 := fun o : Obj => (cell_past wr o bb _ bbw).trans (cb 3 _ rfl)
        have p4 := fun o : Obj => (cell_past wr o bb _ bbw).trans (cb 4 _ rfl)
        have p5 := fun o : Obj => (cell_past wr o bb _ bbw).trans (cb 5 _ rfl)
        have p6 := fun o : Obj => (cell_past wr o bb _ bbw).trans (cb 6 _ rfl)
        have p7 := fun o : Obj => (cell_past wr o bb _ bbw).trans (cb 7 _ rfl)
        have p8 := fun o : Obj => (cell_past wr o bb _ bbw).trans (cb 8 _ rfl)
        have p9 := fun o : Obj => (cell_past wr o bb _ bbw).trans (cb 9 _ rfl)
        have p10 := fun o : Obj => (cell_past wr o bb _ bbw).trans (cb 10 _ rfl)
        have p11 := fun o : Obj => (cell_past wr o bb _ bbw).trans (cb 11 _ rfl)
        have p12 := fun o : Obj => (cell_past wr o bb _ bbw).trans (cb 12 _ rfl)
        simp only [Nat.add_zero] at a0 p0
        have hkl : (k : Int) < (n : Int) := by omega
        have hk0 : (0 : Int) ≤ (k : Int) := by omega
        have HO := hid ho
        have HLT := hid hlt
        have HDX := hid hdx
        have HDY := hid hdy
        clear hx hy ho hlt hna hnb ca cb hdx hdy
        by_cases h0 : xn.kind = yn.kind
        rotate_left
        · have e0 : (xn.kind == yn.kind) = false := by simpa using h0
          have n0 : (xn.kind != yn.kind) = true := by simpa using h0
          have HF : Hid (sameL (nds a) (nds b) = false) := by
            refine same_no (by rw [HNA.out]; exact HLT.out) ?_
            rw [HDX.out, HDY.out, Bool.eq_false_iff]
            intro q
            unfold sameN at q
            simp only [Bool.and_eq_true, beq_iff_eq, decide_eq_true_eq] at q
            exact h0 q.1.1.1.1.1.1.1.1.1.1
          clear h0
          go_wp2_with fail
          go_ret
          exact ⟨ret_bool HF.out.symm, (HO.out.alloc _).alloc _⟩
        have e0 : (xn.kind == yn.kind) = true := by simpa using h0
        have n0 : (xn.kind != yn.kind) = false := by simpa using h0
        have H0 := hid h0
        clear h0
        by_cases h1 : xn.par = yn.par
        rotate_left
        · have e1 : (xn.par == yn.par) = false := by simpa using h1
          have n1 : (xn.par != yn.par) = true := by simpa using h1
          have HF : Hid (sameL (nds a) (nds b) = false) := by
            refine same_no (by rw [HNA.out]; exact HLT.out) ?_
            rw [HDX.out, HDY.out, Bool.eq_false_iff]
            intro q
            unfold sameN at q
            simp only [Bool.and_eq_true, beq_iff_eq, decide_eq_true_eq] at q
            exact h1 q.1.1.1.1.1.1.1.1.1.2
          clear h1
          go_wp2_with fail
          go_ret
          exact ⟨ret_bool HF.out.symm, (HO.out.alloc _).alloc _⟩
        have e1 : (xn.par == yn.par) = true := by simpa using h1
        have n1 : (xn.par != yn.par) = false := by simpa using h1
        have H1 := hid h1
        clear h1
        by_cases h2 : xn.has = yn.has
        rotate_left
        · have e2 : (xn.has == yn.has) = false := by simpa using h2
          have n2 : (xn.has != yn.has) = true := by simpa using h2
          have HF : Hid (sameL (nds a) (nds b) = false) := by
            refine same_no (by rw [HNA.out]; exact HLT.out) ?_
            rw [HDX.out, HDY.out, Bool.eq_false_iff]
            intro q
            unfold sameN at q
            simp only [Bool.and_eq_true, beq_iff_eq, decide_eq_true_eq] at q
            exact h2 q.1.1.1.1.1.1.1.1.2
          clear h2
          go_wp2_with fail
          go_ret
          exact ⟨ret_bool HF.out.symm, (HO.out.alloc _).alloc _⟩
        have e2 : (xn.has == yn.has) = true := by simpa using h2
        have n2 : (xn.has != yn.has) = false := by simpa using h2
        have H2 := hid h2
        clear h2
        by_cases h3 : xn.font = yn.font
        rotate_left
        · have e3 : (xn.font.toList == yn.font.toList) = false := font_ne h3
          have HF : Hid (sameL (nds a) (nds b) = false) := by
            refine same_no (by rw [HNA.out]; exact HLT.out) ?_
            rw [HDX.out, HDY.out, Bool.eq_false_iff]
            intro q
            unfold sameN at q
            simp only [Bool.and_eq_true, beq_iff_eq, decide_eq_true_eq] at q
            exact h3 q.1.1.1.1.1.1.1.2
          clear h3
          go_wp2_with fail
          go_ret
          exact ⟨ret_bool HF.out.symm, (HO.out.alloc _).alloc _⟩
        have e3 : (xn.font.toList == yn.font.toList) = true := by rw [h3]; simp
        have H3 := hid h3
        clear h3
        by_cases h4 : xn.size = yn.size
        rotate_left
        · have e4 : (xn.size == yn.size) = false := by simpa using h4
          have n4 : (xn.size != yn.size) = true := by simpa using h4
          have HF : Hid (sameL (nds a) (nds b) = false) := by
            refine same_no (by rw [HNA.out]; exact HLT.out) ?_
            rw [HDX.out, HDY.out, Bool.eq_false_iff]
            intro q
            unfold sameN at q
            simp only [Bool.and_eq_true, beq_iff_eq, decide_eq_true_eq] at q
            exact h4 q.1.1.1.1.1.1.2
          clear h4
          go_wp2_with fail
          go_ret
          exact ⟨ret_bool HF.out.symm, (HO.out.alloc _).alloc _⟩
        have e4 : (xn.size == yn.size) = true := by simpa using h4
        have n4 : (xn.size != yn.size) = false := by simpa using h4
        have H4 := hid h4
        clear h4
        by_cases h5 : xn.width = yn.width
        rotate_left
        · have e5 : (xn.width == yn.width) = false := by simpa using h5
          have n5 : (xn.width != yn.width) = true := by simpa using h5
          have HF : Hid (sameL (nds a) (nds b) = false) := by
            refine same_no (by rw [HNA.out]; exact HLT.out) ?_
            rw [HDX.out, HDY.out, Bool.eq_false_iff]
            intro q
            unfold sameN at q
            simp only [Bool.and_eq_true, beq_iff_eq, decide_eq_true_eq] at q
            exact h5 q.1.1.1.1.1.2
          clear h5
          go_wp2_with fail
          go_ret
          exact ⟨ret_bool HF.out.symm, (HO.out.alloc _).alloc _⟩
        have e5 : (xn.width == yn.width) = true := by simpa using h5
        have n5 : (xn.width != yn.width) = false := by simpa using h5
        have H5 := hid h5
        clear h5
        by_cases h6 : xn.height = yn.height
        rotate_left
        · have e6 : (xn.height == yn.height) = false := by simpa using h6
          have n6 : (xn.height != yn.height) = true := by simpa using h6
          have HF : Hid (sameL (nds a) (nds b) = false) := by
            refine same_no (by rw [HNA.out]; exact HLT.out) ?_
            rw [HDX.out, HDY.out, Bool.eq_false_iff]
            intro q
            unfold sameN at q
            simp only [Bool.and_eq_true, beq_iff_eq, decide_eq_true_eq] at q
            exact h6 q.1.1.1.1.2
          clear h6
          go_wp2_with fail
          go_ret
          exact ⟨ret_bool HF.out.symm, (HO.out.alloc _).alloc _⟩
        have e6 : (xn.height == yn.height) = true := by simpa using h6
        have n6 : (xn.height != yn.height) = false := by simpa using h6
        have H6 := hid h6
        clear h6
        by_cases h7 : xn.lead = yn.lead
        rotate_left
        · have e7 : (xn.lead == yn.lead) = false := by simpa using h7
          have n7 : (xn.lead != yn.lead) = true := by simpa using h7
          have HF : Hid (sameL (nds a) (nds b) = false) := by
            refine same_no (by rw [HNA.out]; exact HLT.out) ?_
            rw [HDX.out, HDY.out, Bool.eq_false_iff]
            intro q
            unfold sameN at q
            simp only [Bool.and_eq_true, beq_iff_eq, decide_eq_true_eq] at q
            exact h7 q.1.1.1.2
          clear h7
          go_wp2_with fail
          go_ret
          exact ⟨ret_bool HF.out.symm, (HO.out.alloc _).alloc _⟩
        have e7 : (xn.lead == yn.lead) = true := by simpa using h7
        have n7 : (xn.lead != yn.lead) = false := by simpa using h7
        have H7 := hid h7
        clear h7
        by_cases h8 : xn.skip = yn.skip
        rotate_left
        · have e8 : (xn.skip == yn.skip) = false := by simpa using h8
          have n8 : (xn.skip != yn.skip) = true := by simpa using h8
          have HF : Hid (sameL (nds a) (nds b) = false) := by
            refine same_no (by rw [HNA.out]; exact HLT.out) ?_
            rw [HDX.out, HDY.out, Bool.eq_false_iff]
            intro q
            unfold sameN at q
            simp only [Bool.and_eq_true, beq_iff_eq, decide_eq_true_eq] at q
            exact h8 q.1.1.2
          clear h8
          go_wp2_with fail
          go_ret
          exact ⟨ret_bool HF.out.symm, (HO.out.alloc _).alloc _⟩
        have e8 : (xn.skip == yn.skip) = true := by simpa using h8
        have n8 : (xn.skip != yn.skip) = false := by simpa using h8
        have H8 := hid h8
        clear h8
        by_cases h9 : xn.tol = yn.tol
        rotate_left
        · have e9 : (xn.tol == yn.tol) = false := by simpa using h9
          have n9 : (xn.tol != yn.tol) = true := by simpa using h9
          have HF : Hid (sameL (nds a) (nds b) = false) := by
            refine same_no (by rw [HNA.out]; exact HLT.out) ?_
            rw [HDX.out, HDY.out, Bool.eq_false_iff]
            intro q
            unfold sameN at q
            simp only [Bool.and_eq_true, beq_iff_eq, decide_eq_true_eq] at q
            exact h9 q.1.2
          clear h9
          go_wp2_with fail
          go_ret
          exact ⟨ret_bool HF.out.symm, (HO.out.alloc _).alloc _⟩
        have e9 : (xn.tol == yn.tol) = true := by simpa using h9
        have n9 : (xn.tol != yn.tol) = false := by simpa using h9
        have H9 := hid h9
        clear h9
        have HR : Hid (sameN xn yn = runesB xn.chs yn.chs) := sameN_chs H0.out H1.out H2.out H3.out H4.out H5.out H6.out H7.out H8.out H9.out
        by_cases hl : xm = ym
        rotate_left
        · have HF : Hid (sameL (nds a) (nds b) = false) := by
            refine same_no (by rw [HNA.out]; exact HLT.out) ?_
            rw [HDX.out, HDY.out, HR.out]
            exact runes_len (by rw [HXM.out, HYM.out]; exact hl)
          have e11 : ((xm : Int) == (ym : Int)) = false := by simp; omega
          have n11 : ((xm : Int) != (ym : Int)) = true := by simp; omega
          clear hl
          go_wp2_with fail
          go_ret
          exact ⟨ret_bool HF.out.symm, (HO.out.alloc _).alloc _⟩
        subst hl
        go_wp2_with fail
        obtain ⟨wo, rfl⟩ : ∃ wo, wo = wr := ⟨wr, rfl⟩
        go_loopw [8] (fun i wr2 => ∃ j : Nat, i = .int .i64 j ∧ j ≤ xm ∧ Hid (∀ (l : Nat) (c d : Int × Int × Int), l < j → xn.chs[l]? = some c → yn.chs[l]? = some d → c.1 = d.1) ∧ Only [] wo wr2 ∧ wr2.cell? ⟨wo.heap.size, 12, none⟩ = some (.slice xa xm xc) ∧ wr2.cell? ⟨wo.heap.size + 1, 12, none⟩ = some (.slice ya xm yc) ∧ wo.heap.size + 1 < wr2.heap.size) (fun i _ => xm - (RowKit.intOf i).toNat)
        case atStart => exact ⟨0, rfl, by omega, fun l _ _ h => by omega, ((Only.refl _ _).alloc _).alloc _, ((Blk.new wo _ 42 rfl).alloc _).cell 12, (Blk.new (wo.alloc _) _ 42 (by simp)).cell 12, by simp⟩
        case round =>
          obtain ⟨j, rfl, hj, hrun, o2, cx, cy, hsz⟩ := hrel
          by_cases hjl : j < xm
          · obtain ⟨c, hc⟩ := some_at (xs := xn.chs) (i := j) (by rw [HXM.out]; exact hjl)
            obtain ⟨d, hd⟩ := some_at (xs := yn.chs) (i := j) (by rw [HYM.out]; exact hjl)
            obtain ⟨cb, co, rfl, -, cbw, c0, -, -⟩ := (HXS.out.keep o2 (by simp)).char hc
            obtain ⟨db, dof, rfl, -, dbw, d0, -, -⟩ := (HYS.out.keep o2 (by simp)).char hd
            have g0 : ∀ d os, (behind wr d os).cell? ⟨wo.heap.size, 12, none⟩ = some (.slice (some ⟨cb, co, none⟩) xm xc) := fun d os => (cell_behind (by omega) d os).trans cx
            have g1 : ∀ d os, (behind wr d os).cell? ⟨wo.heap.size + 1, 12, none⟩ = some (.slice (some ⟨db, dof, none⟩) xm yc) := fun d os => (cell_behind hsz d os).trans cy
            have g2 : ∀ d os, (behind wr d os).cell? ⟨cb, co + j * 3, none⟩ = some (.int .i64 c.1) := fun d os => (cell_behind cbw d os).trans c0
            have g3 : ∀ e os, (behind wr e os).cell? ⟨db, dof + j * 3, none⟩ = some (.int .i64 d.1) := fun e os => (cell_behind dbw e os).trans d0
            have hjx : (j : Int) < (xm : Int) := by omega
            have hj0 : (0 : Int) ≤ (j : Int) := by omega
            have HC := hid hc
            have HD := hid hd
            have HJ := hid hjl
            have O2 := hid o2
            have HRU := hid hrun
            have HSZ := hid hsz
            have HCX := hid cx
            have HCY := hid cy
            by_cases hcd : c.1 = d.1
            · have e12 : (c.1 == d.1) = true := by simpa using hcd
              have n12 : (c.1 != d.1) = false := by simpa using hcd
              have HE := hid hcd
              clear hc hd c0 d0 hjl hj hrun hcd o2 hsz
              go_wp2_with fail
              refine wp_region_behind (by kernel_rfl) (by kernel_rfl) ?_
              repeat (go_big_quiet_step (fail))
              refine wpQuiet_nil ?_
              intro _ hw'
              obtain ⟨⟨dq, osq⟩, hw''⟩ := hw'
              subst hw''
              go_wp2_with fail
              go_roundw
              case rel =>
                refine ⟨j + 1, by go_num, HJ.out, fun l c' d' hl hc' hd' => ?_, O2.out.trans (only_behind _ _ _), (cell_behind (by have := HSZ.out; omega) _ _).trans HCX.out, (cell_behind HSZ.out _ _).trans HCY.out, Nat.lt_of_lt_of_le HSZ.out (only_behind wr _ _).size⟩
                by_cases e : l = j
                · subst e
                  have q1 := HC.out
                  have q2 := HD.out
                  rw [hc'] at q1
                  rw [hd'] at q2
                  cases q1; cases q2
                  exact HE.out
                · exact HRU.out l c' d' (by omega) hc' hd'
              case measure => have := HJ.out; simp [RowKit.intOf]; omega
            · have e12 : (c.1 == d.1) = false := by simpa using hcd
              have n12 : (c.1 != d.1) = true := by simpa using hcd
              have HF : Hid (sameL (nds a) (nds b) = false) := by
                refine same_no (by rw [HNA.out]; exact HLT.out) ?_
                rw [HDX.out, HDY.out, HR.out]
                exact runes_no hc hd hcd
              clear hc hd c0 d0 hjl hj hrun hcd o2 hsz
              go_wp2_with fail
              refine wp_region_behind (by kernel_rfl) (by kernel_rfl) ?_
              repeat (go_big_quiet_step (fail))
              refine wpQuiet_nil ?_
              intro _ hw'
              obtain ⟨⟨dq, osq⟩, hw''⟩ := hw'
              subst hw''
              go_wp2_with fail
              go_ret
              exact ⟨ret_bool HF.out.symm, (HO.out.trans O2.out).trans (only_behind _ _ _)⟩
          · have hjd : decide (j < xm) = false := decide_eq_false hjl
            have HTR : Hid (sameN xn yn = true) := by
              show _ = _
              rw [HR.out]
              exact runes_yes (by rw [HXM.out, HYM.out]) fun l c d hc hd => hrun.out l c d (by have := (List.getElem?_eq_some_iff.1 hc).1; rw [HXM.out] at this; omega) hc hd
            have O2 := hid o2
            clear hj hrun o2
            go_wp2_with fail
            go_roundw
            case rel =>
              refine ⟨k + 1, by go_num, HLT.out, fun l hl => ?_, HO.out.trans O2.out⟩
              by_cases e : l = k
              · subst e; rw [HDX.out, HDY.out]; exact HTR.out
              · exact hall.out l (by omega)
            case measure => have := HLT.out; simp [RowKit.intOf]; omega
      · have hkn : k = n := by omega
        have HF : Hid (sameL (nds a) (nds b) = true) := same_yes (by rw [HNA.out, HNB.out]) (fun j hj => hall.out j (by rw [HNA.out] at hj; omega))
        have HO := hid ho
        subst hkn
        clear ho
        go_wp2_with fail
        go_ret
        exact ⟨ret_bool HF.out.symm, HO.out⟩
  · have HF : Hid (sameL (nds a) (nds b) = false) := same_len (by rw [HNA.out, HNB.out]; exact hnm)
    have e1 : ((n : Int) == (m : Int)) = false := by simp; omega
    have e2 : ((n : Int) != (m : Int)) = true := by simp; omega
    clear hnm hn hm
    go_enter Tryd.func19, Tryd.ntmps19
    go_wp2_with fail
    go_ret
    exact ⟨ret_bool HF.out.symm, Only.refl _ _⟩
end Go.Proofs.YtmlhibcbgdhadaaDoor
