/- Same: two rows. -/
import Derived.Test.YtmlhibcbgdhadaaDoorSameN
namespace Go.Proofs.YtmlhibcbgdhadaaDoor
open Go.RowKit


theorem same_no {a b : List Nd} {k : Nat} (hk : k < a.length) (h : sameN (nd a k) (nd b k) = false) : sameL a b = false := by
  unfold sameL
  rw [Bool.and_eq_false_iff]
  refine .inr ?_
  rw [List.all_eq_false]
  exact ⟨k, List.mem_range.2 hk, by rw [h]; decide⟩
theorem same_yes {a b : List Nd} (hl : a.length = b.length) (h : ∀ k, k < a.length → sameN (nd a k) (nd b k) = true) : sameL a b = true := by
  unfold sameL
  rw [decide_eq_true hl, Bool.true_and, List.all_eq_true]
  intro k hk
  exact h k (List.mem_range.1 hk)
theorem same_len {a b : List Nd} (h : a.length ≠ b.length) : sameL a b = false := by
  unfold sameL
  rw [decide_eq_false h]; rfl
set_option maxRecDepth 100000 in
set_option maxHeartbeats 8000000 in
theorem same_any {a b : List (Nd × Value)} {ad bd : Option Addr} {ac bc B : Nat} (w : World) (ha : NL w B ad a) (hb : NL w B bd b) (hfa : ∀ x ∈ a, Fit x.1) (hfb : ∀ x ∈ b, Fit x.1) (hla : a.length ≤ 4294967296) (hlb : b.length ≤ 4294967296) :
    Calls Tryd.prog 40 #[.slice ad a.length ac, .slice bd b.length bc, .func (.func 41) #[] #[]] w fun e w' => e = .returned (.bool (sameL (nds a) (nds b))) ∧ Only [] w w' := by
  have HA := hid ha
  have HB := hid hb
  obtain ⟨n, hn⟩ : ∃ n, a.length = n := ⟨_, rfl⟩
  obtain ⟨m, hm⟩ : ∃ m, b.length = m := ⟨_, rfl⟩
  have hNa : (nds a).length = n := by simp [hn]
  have hNb : (nds b).length = m := by simp [hm]
  have HN := hid hn
  have HM := hid hm
  have HNA := hid hNa
  have HNB := hid hNb
  have HFA := hid hfa
  have HFB := hid hfb
  rw [hn] at hla ⊢
  rw [hm] at hlb ⊢
  clear ha hb hfa hfb hNa hNb
  by_cases hnm : n = m
  · subst hnm
    clear hn hm
    go_enter Tryd.func40, Tryd.ntmps40
    go_wp2_with fail
    go_loopw [17] (fun i wr => ∃ k : Nat, i = .int .i64 k ∧ k ≤ n ∧ Hid (∀ j, j < k → sameN (nd (nds a) j) (nd (nds b) j) = true) ∧ Only [] w wr) (fun i _ => n - (RowKit.intOf i).toNat)
    case atStart => exact ⟨0, rfl, by omega, fun j h => by omega, Only.refl _ _⟩
    case round =>
      obtain ⟨k, rfl, hk, hall, ho⟩ := hrel
      by_cases hlt : k < n
      · obtain ⟨x, hx⟩ := some_at (xs := a) (i := k) (by rw [HN.out]; exact hlt)
        obtain ⟨y, hy⟩ := some_at (xs := b) (i := k) (by rw [HM.out]; exact hlt)
        obtain ⟨xn, xv⟩ := x
        obtain ⟨yn, yv⟩ := y
        have hna := HA.out.still ho
        have hnb := HB.out.still ho
        obtain ⟨xa, xc, hxv, hxs⟩ := hna.cv _ (List.mem_of_getElem? hx)
        obtain ⟨ya, yc, hyv, hys⟩ := hnb.cv _ (List.mem_of_getElem? hy)
        dsimp only at hxv hyv hxs hys
        subst hxv hyv
        obtain ⟨ab, ao, rfl, -, abw, ca⟩ := hna.at_ hx
        obtain ⟨bb, bo, rfl, -, bbw, cb⟩ := hnb.at_ hy
        have hdx := nd_of (nds_get hx)
        have hdy := nd_of (nds_get hy)
        dsimp only at hdx hdy
        have HR := hid (fun W (o : Only [] wr W) => sameNode_any (xc := xc) (yc := yc) xn yn W (hxs.keep o (by simp)) (hys.keep o (by simp)) (HFA.out _ (List.mem_of_getElem? hx)).chs (HFB.out _ (List.mem_of_getElem? hy)).chs)
        unfold ndc at HR
        dsimp only at HR
        obtain ⟨xm, hxm⟩ : ∃ xm, xn.chs.length = xm := ⟨_, rfl⟩
        obtain ⟨ym, hym⟩ : ∃ ym, yn.chs.length = ym := ⟨_, rfl⟩
        rw [hxm] at HR ca
        rw [hym] at HR cb
        clear hxm hym
        have a0 := ca 0 _ rfl
        have a1 := ca 1 _ rfl
        have a2 := ca 2 _ rfl
        have a3 := ca 3 _ rfl
        have a4 := ca 4 _ rfl
        have a5 := ca 5 _ rfl
        have a6 := ca 6 _ rfl
        have a7 := ca 7 _ rfl
        have a8 := ca 8 _ rfl
        have a9 := ca 9 _ rfl
        have a10 := ca 10 _ rfl
        have a11 := ca 11 _ rfl
        have a12 := ca 12 _ rfl
        have p0 := fun o : Obj => (cell_past wr o bb _ bbw).trans (cb 0 _ rfl)
        have p1 := fun o : Obj => (cell_past wr o bb _ bbw).trans (cb 1 _ rfl)
        have p2 := fun o : Obj => (cell_past wr o bb _ bbw).trans (cb 2 _ rfl)
        have p3 := fun o : Obj => (cell_past wr o bb _ bbw).trans (cb 3 _ rfl)
        have p4 := fun o : Obj => (cell_past wr o bb _ bbw).trans (cb 4 _ rfl)
        have p5 := fun o : Obj => (cell_past wr o bb _ bbw).trans (cb 5 _ rfl)
        have p6 := fun o : Obj => (cell_past wr o bb _ bbw).trans (cb 6 _ rfl)
        have p7 := fun o : Obj => (cell_past wr o bb _ bbw).trans (cb 7 _ rfl)
        have p8 := fun o : Obj => (cell_past wr o bb _ bbw).trans (cb 8 _ rfl)
        have p9 := fun o : Obj => (cell_past wr o bb _ bbw).trans (cb 9 _ rfl)
        have p10 := fun o : Obj => (cell_past wr o bb _ bbw).trans (cb 10 _ rfl)
        have p11 := fun o : Obj => (cell_past wr o bb _ bbw).trans (cb 11 _ rfl)
        have p12 := fun o : Obj => (cell_past wr o bb _ bbw).trans (cb 12 _ rfl)
        simp only [Nat.add_zero] at a0 p0
        have hkl : (k : Int) < (n : Int) := by omega
        have hk0 : (0 : Int) ≤ (k : Int) := by omega
        have HO := hid ho
        have HLT := hid hlt
        obtain ⟨r, hr⟩ : ∃ r, sameN xn yn = r := ⟨_, rfl⟩
        rw [hr] at HR
        have HDR : Hid (sameN (nd (nds a) k) (nd (nds b) k) = r) := by show _ = _; rw [hdx, hdy, hr]
        clear hx hy ho hlt hna hnb hxs hys ca cb hdx hdy hr
        cases r
        · have HF : Hid (sameL (nds a) (nds b) = false) := same_no (by rw [HNA.out]; exact HLT.out) HDR.out
          go_wp2_with fail
          refine (HR.out _ (((Only.refl _ _).alloc _).alloc _)).mono ?_
          rintro e w1 ⟨rfl, o1⟩
          have HO1 := hid o1
          clear o1
          go_wp2_with fail
          go_ret
          exact ⟨ret_bool HF.out.symm, ((HO.out.alloc _).alloc _).trans HO1.out⟩
        · go_wp2_with fail
          refine (HR.out _ (((Only.refl _ _).alloc _).alloc _)).mono ?_
          rintro e w1 ⟨rfl, o1⟩
          have HO1 := hid o1
          clear o1
          go_wp2_with fail
          go_roundw
          case rel =>
            refine ⟨k + 1, by go_num, HLT.out, fun j hj => ?_, ((HO.out.alloc _).alloc _).trans HO1.out⟩
            by_cases e : j = k
            · subst e; exact HDR.out
            · exact hall.out j (by omega)
          case measure => have := HLT.out; simp [RowKit.intOf]; omega
      · have hkl : ¬ (k : Int) < (n : Int) := by omega
        have hkn : k = n := by omega
        subst hkn
        have HF : Hid (sameL (nds a) (nds b) = true) := same_yes (by rw [HNA.out, HNB.out]) (fun j hj => hall.out j (by rw [HNA.out] at hj; exact hj))
        have HO := hid ho
        clear ho
        go_wp2_with fail
        go_ret
        exact ⟨ret_bool HF.out.symm, HO.out⟩
  · have HF : Hid (sameL (nds a) (nds b) = false) := same_len (by rw [HNA.out, HNB.out]; exact hnm)
    have e1 : ((n : Int) == (m : Int)) = false := by simp; omega
    have e2 : ((n : Int) != (m : Int)) = true := by simp; omega
    clear hnm hn hm
    go_enter Tryd.func40, Tryd.ntmps40
    go_wp2_with fail
    go_ret
    exact ⟨ret_bool HF.out.symm, Only.refl _ _⟩
theorem treeSame_any {a b : List (Nd × Value)} {ad bd : Option Addr} {ac bc B : Nat} (w : World) (ha : NL w B ad a) (hb : NL w B bd b) (hfa : ∀ x ∈ a, Fit x.1) (hfb : ∀ x ∈ b, Fit x.1) (hla : a.length ≤ 4294967296) (hlb : b.length ≤ 4294967296) :
    Calls Tryd.prog 18 #[.slice ad a.length ac, .slice bd b.length bc] w fun e w' => e = .returned (.bool (sameL (nds a) (nds b))) ∧ Only [] w w' := by
  have HS := hid (same_any (ac := ac) (bc := bc) w ha hb hfa hfb hla hlb)
  obtain ⟨r, hr⟩ : ∃ r, sameL (nds a) (nds b) = r := ⟨_, rfl⟩
  rw [hr] at HS ⊢
  clear hr ha hb hfa hfb hla hlb
  generalize a.length = n at *
  generalize b.length = m at *
  go_enter Tryd.func18, Tryd.ntmps18
  go_wp2_with fail
  refine HS.out.mono ?_
  rintro e w1 ⟨rfl, o1⟩
  have HO1 := hid o1
  clear o1
  go_wp2_with fail
  go_ret
  exact ⟨rfl, HO1.out⟩
end Go.Proofs.YtmlhibcbgdhadaaDoor
