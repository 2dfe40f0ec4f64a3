/- The writer: elements that end. -/
import Derived.Test.YtmlhibcbgdhadaaDoorOpn
namespace Go.Proofs.YtmlhibcbgdhadaaDoor
open Go.RowKit

/-- a row that is cut -/
theorem RI.cut {w : World} {B : Nat} {oa : Option Addr} {oc n : Nat} {l : List Nat} (h : RI w B (.slice oa n oc) l) {k : Nat} (hk : k ≤ l.length) : RI w B (.slice oa k oc) (l.take k) := by
  have hn : n = l.length := (ri_get h).1
  subst hn
  have hlen : (l.take k).length = k := by rw [List.length_take]; omega
  unfold RI at h ⊢
  rw [hlen]
  refine ⟨by rw [ivs_len, hlen, Nat.mul_one], ?_⟩
  rcases h.2 with ⟨h1, h2⟩ | ⟨g, cap, cur, h1, h2, h3, h4, h5, h6, h7⟩
  · injection h1 with e1 e2 e3
    subst e1 e3
    have e4 : k = 0 := by omega
    subst e4
    exact .inl ⟨rfl, rfl⟩
  · injection h1 with e1 e2 e3
    subst e1 e3
    refine .inr ⟨g, oc, cur, rfl, h2, h3, by omega, h5, h6, ?_⟩
    rw [Nat.mul_one] at h7 ⊢
    have : List.take k (List.take l.length cur.toList) = List.take k cur.toList := by rw [List.take_take, Nat.min_eq_left hk]
    rw [← this, h7]
    unfold ivs
    rw [List.map_take]
/-- the writer behind elements that ended -/
structure CPost (ts : List TypeId) (w w' : World) (wb B : Nat) (nv : Value) (l : List Nat) (bs : List Nat) : Prop where
  st : ∃ oa oc bv p, WB w' wb B nv (.slice oa l.length oc) bv p bs ∧ RI w' B (.slice oa l.length oc) l
  fr : FrT ts B w w'

set_option maxRecDepth 100000 in
set_option maxHeartbeats 8000000 in
theorem close_c {xs : List (Nd × Value)} {w : World} {wb B C cap oc : Nat} {ad oa : Option Addr} {bv p : Value} {bs l : List Nat} (q : Int) (h : WB w wb B (.slice ad xs.length cap) (.slice oa l.length oc) bv p bs) (hri : RI w B (.slice oa l.length oc) l)
    (hNL : NL w C ad xs) (hCB : C ≤ B) (hT : Tt w) (h5 : 5 ≤ B) (hl : ∀ i ∈ l, i < xs.length ∧ 1 ≤ nk (nds xs) i ∧ nk (nds xs) i ≤ 3) (hll : l.length ≤ 8192) (hbs : bs.length ≤ 8796093022208) :
    Calls Tryd.prog 28 #[.pointer (some ⟨wb, 0, none⟩), .int .i64 q] w fun e w' => e = .returned (.tuple #[]) ∧ CPost [54, 5] w w' wb B (.slice ad xs.length cap) ((clos (nds xs) q l.reverse).1.reverse) (bs ++ (clos (nds xs) q l.reverse).2) := by
  have HW := hid h
  have HRI := hid hri
  have HNL := hid hNL
  have HT := hid hT
  have HL := hid hl
  have HBS := hid hbs
  have c1 := h.blk.cell 1
  simp only [List.getElem?_cons_succ, List.getElem?_cons_zero] at c1
  have HLL := hid hll
  obtain ⟨N, hN⟩ : ∃ N, xs.length = N := ⟨_, rfl⟩
  obtain ⟨m, hm⟩ : ∃ m, l.length = m := ⟨_, rfl⟩
  rw [hN] at HW HL
  rw [hN]
  rw [hm] at HW HRI c1 hll
  have HN := hid hN
  have HM := hid hm
  have hm8 : (m : Int) ≤ 8192 := by omega
  have hm0 : (0 : Int) ≤ (m : Int) := by omega
  clear h hri hNL hT hl hbs hN hm
  go_enter Tryd.func28, Tryd.ntmps28
  go_wp2_with fail
  go_loopw [4] (fun i wr => ∃ (l' dn : List Nat), i = .int .i64 ((l'.length : Int) - 1) ∧ Hid (l' <+: l) ∧ Hid (clos (nds xs) q l.reverse = ((clos (nds xs) q l'.reverse).1, dn ++ (clos (nds xs) q l'.reverse).2)) ∧
    Hid (∃ bv p, WB wr wb B (.slice ad N cap) (.slice oa l'.length oc) bv p (bs ++ dn)) ∧ Hid (RI wr B (.slice oa l'.length oc) l') ∧ Hid (FrT [54, 5] B w wr) ∧ Hid (dn.length + 6 * l'.length ≤ 6 * m)) (fun i _ => (RowKit.intOf i + 1).toNat)
  case atStart => exact ⟨l, [], by rw [HM.out], List.prefix_refl _, by simp [Hid], ⟨bv, p, by rw [HM.out, List.append_nil]; exact HW.out⟩, by rw [HM.out]; exact HRI.out, FrT.refl _ _ _, by show _ ≤ _; rw [HM.out]; simp⟩
  case round =>
    obtain ⟨l', dn, rfl, hpre, hclos, hwb, hri, hfr, hdn⟩ := hrel
    obtain ⟨bv1, p1, hw⟩ := hwb.out
    have HW1 := hid hw
    have c1 := hw.blk.cell 1
    have c0 := hw.blk.cell 0
    have f1 := hw.blk.froz 1
    simp only [List.getElem?_cons_succ, List.getElem?_cons_zero] at c1 c0
    have hwlt := hw.blk.lt
    rcases List.eq_nil_or_concat l' with rfl | ⟨l2, t, rfl⟩
    · have HE : Hid (clos (nds xs) q l.reverse = ([], dn)) := by show _ = _; rw [hclos.out]; simp [clos]
      clear hw
      simp only [List.length_nil] at c1 ⊢
      go_wp2_with fail
      refine bodyPost_end (results_none (fn := Tryd.f28) rfl _ _ _) rfl ⟨rfl, ?_⟩
      rw [HE.out]
      exact ⟨⟨oa, oc, bv1, p1, HW1.out, hri.out⟩, hfr.out⟩
    · have hlen2 : (l2.concat t).length = l2.length + 1 := by simp
      have hcc : l2.concat t = l2 ++ [t] := List.concat_eq_append
      rw [hlen2] at c1 hw ⊢
      have hmem : t ∈ l := hpre.out.subset (by rw [hcc]; simp)
      obtain ⟨ht1, ht2, ht3⟩ := HL.out t hmem
      have hri1 := hri.out
      rw [hlen2, hcc] at hri1
      have hsl := (ri_get hri1).2
      obtain ⟨g, o2, hoa, hga⟩ := hsl (by simp)
      have ho2 : o2 = 0 := by
        rcases hri1.2 with ⟨h1, _⟩ | ⟨g', cap', cur', h1, _⟩
        · injection h1 with e1 _ _; rw [hoa] at e1; cases e1
        · injection h1 with e1 _ _; rw [hoa] at e1; injection e1 with e1; injection e1
      subst ho2
      subst hoa
      have ct : wr.cell? ⟨g, l2.length, none⟩ = some (.int .i64 (t : Int)) := by
        have := hga.2 l2.length (iv t) (by rw [ivs_get (by simp)]; simp)
        simpa [iv] using this
      have hcap : l2.length + 1 ≤ oc := by
        rcases hri1.2 with ⟨h1, _⟩ | ⟨g', cap', cur', h1, _, _, h4, _⟩
        · injection h1 with e1 _ _; cases e1
        · injection h1 with _ _ e3; rw [e3]; simpa using h4
      have hll2 : (l2.length : Int) + 1 ≤ 8192 := by
        have := hpre.out.length_le
        rw [hlen2, HM.out] at this
        omega
      have hl20 : (0 : Int) ≤ (l2.length : Int) := by omega
      have hrev : (l2.concat t).reverse = t :: l2.reverse := by rw [hcc]; simp
      have hglt := hga.1
      rw [show ((l2.length + 1 : Nat) : Int) - 1 = (l2.length : Int) by omega]
      have hlz : (l2.length : Int) < (l2.length : Int) + 1 := by omega
      have hlz2 : (l2.length : Int) < ((l2.length + 1 : Nat) : Int) := by omega
      by_cases hq : (t : Int) = q
      · have hqt : ((t : Int) == q) = true := by simpa using hq
        have hqn : ((t : Int) != q) = false := by simpa using hq
        have HE : Hid (clos (nds xs) q l.reverse = ((l2.concat t).reverse, dn)) := by
          show _ = _
          rw [hclos.out, hrev]
          unfold clos
          rw [if_pos hq]
          simp
        clear hq hw hri1 hsl hga
        go_wp2_with fail
        refine bodyPost_end (results_none (fn := Tryd.f28) rfl _ _ _) rfl ⟨rfl, ?_⟩
        rw [HE.out]
        simp only [List.reverse_reverse]
        exact ⟨⟨_, oc, bv1, p1, HW1.out, hri.out⟩, hfr.out⟩
      · have hqt : ((t : Int) == q) = false := by simpa using hq
        have hqn : ((t : Int) != q) = true := by simpa using hq
        have HCL : Hid (clos (nds xs) q l.reverse = ((clos (nds xs) q l2.reverse).1, (dn ++ ctag (nds xs) t) ++ (clos (nds xs) q l2.reverse).2)) := by
          show _ = _
          rw [hclos.out, hrev]
          conv => lhs; unfold clos
          rw [if_neg hq]
          simp
        obtain ⟨x, hx⟩ := some_at (xs := xs) (i := t) (by rw [HN.out]; exact ht1)
        obtain ⟨xn, xv⟩ := x
        have hbelow : Below B w wr := hfr.out.below HW.out.sz
        have hNw := HNL.out.below hbelow hCB
        obtain ⟨xa, xc, hxv, -⟩ := hNw.cv _ (List.mem_of_getElem? hx)
        dsimp only at hxv
        subst hxv
        obtain ⟨b, off, rfl, hbC, hbw, hcx⟩ := hNw.at_ hx
        have hkt := nk_of (nds_get hx)
        dsimp only at hkt
        obtain ⟨k, hk, hk1, hk3⟩ : ∃ k : Nat, xn.kind = (k : Int) ∧ 1 ≤ k ∧ k ≤ 3 := ⟨xn.kind.toNat, by omega, by omega, by omega⟩
        have htt : Tt wr := HT.out.below hbelow h5
        have HKN := hid (fun W (o : Only [] wr W) => kindOf_c (x := (xn, .slice xa xn.chs.length xc)) hk hk1 (by omega) W (htt.still o))
        obtain ⟨xm, hxm⟩ : ∃ xm, xn.chs.length = xm := ⟨_, rfl⟩
        rw [hxm] at HKN hcx
        unfold kindC at HKN
        obtain ⟨kn, hkn⟩ : ∃ kn, kName (k : Int) = kn := ⟨_, rfl⟩
        have hknb : ctag (nds xs) t = [60, 47] ++ bl kn ++ [62] := by unfold ctag; rw [← hkn, kName_bl hk1 hk3, hkt, hk]
        have hkns : kn.size ≤ 3 := by rw [← hkn]; exact kName_size _
        obtain ⟨ki, hki⟩ : ∃ ki, kIn (k : Int) = ki := ⟨_, rfl⟩
        obtain ⟨km, hkm⟩ : ∃ km, may (k : Int) = km := ⟨_, rfl⟩
        obtain ⟨ku, hku⟩ : ∃ ku, kMust (k : Int) = ku := ⟨_, rfl⟩
        rw [hkn, hki, hkm, hku] at HKN
        have hfd : ∀ W, (Instr.field 71 (.agg #[.string kn, .int .i64 ki, .int .i64 km, .int .i64 ku]) 0).run Tryd.prog W = .ok (.string kn) W := fun W => by kernel_rfl
        have hdn2 : dn.length ≤ 49152 := by have := hdn.out; omega
        have a1 : ¬ 9223372036854775807 < 2 + kn.size := by omega
        have a2 : ¬ 9223372036854775807 < 2 + kn.size + 1 := by omega
        have HWS := hid (fun W (o : Only [] wr W) => writeString_c (w := W) (⟨o.blk hw.blk (by simp), hw.pp, row_only hw.row o (by simp), hw.bB, Nat.le_trans hw.sz o.size⟩ : WB W wb B _ _ bv1 p1 (bs ++ dn)) ({ data := #[60, 47] } ++ kn ++ { data := #[62] }) (by
          have := HBS.out
          simp only [ByteArray.size_append, List.length_append]
          show _ + (2 + kn.size + 1) ≤ _
          omega))
        have hgty : Ty wr g 3 := Ty.row hri1 rfl
        have HK1 : Hid (∀ W, Only [] wr W → W.cell? ⟨wb, 0, none⟩ = some (.slice (some ⟨b, off, none⟩) N cap) ∧ W.cell? ⟨wb, 1, none⟩ = some (.slice (some ⟨g, 0, none⟩) (l2.length + 1) oc) ∧ W.cell? ⟨g, l2.length, none⟩ = some (.int .i64 (t : Int)) ∧ W.cell? ⟨b, off + t * 13, none⟩ = some (.int .i64 xn.kind) ∧ W.cell? ⟨b, off + t * 13 + 1, none⟩ = some (.int .i64 xn.par) ∧ W.cell? ⟨b, off + t * 13 + 2, none⟩ = some (.int .i64 xn.at_) ∧ W.cell? ⟨b, off + t * 13 + 3, none⟩ = some (.int .i64 xn.fin) ∧ W.cell? ⟨b, off + t * 13 + 4, none⟩ = some (.int .i64 xn.has) ∧ W.cell? ⟨b, off + t * 13 + 5, none⟩ = some (.string xn.font) ∧ W.cell? ⟨b, off + t * 13 + 6, none⟩ = some (.int .i64 xn.size) ∧ W.cell? ⟨b, off + t * 13 + 7, none⟩ = some (.int .i64 xn.width) ∧ W.cell? ⟨b, off + t * 13 + 8, none⟩ = some (.int .i64 xn.height) ∧ W.cell? ⟨b, off + t * 13 + 9, none⟩ = some (.int .i64 xn.lead) ∧ W.cell? ⟨b, off + t * 13 + 10, none⟩ = some (.int .i64 xn.skip) ∧ W.cell? ⟨b, off + t * 13 + 11, none⟩ = some (.int .i64 xn.tol) ∧ W.cell? ⟨b, off + t * 13 + 12, none⟩ = some (.slice xa xm xc)) := fun W o =>
          ⟨cell_keep o hwlt c0, cell_keep o hwlt c1, cell_keep o hglt ct, cell_keep o hbw (hcx 0 _ rfl), cell_keep o hbw (hcx 1 _ rfl), cell_keep o hbw (hcx 2 _ rfl), cell_keep o hbw (hcx 3 _ rfl), cell_keep o hbw (hcx 4 _ rfl), cell_keep o hbw (hcx 5 _ rfl), cell_keep o hbw (hcx 6 _ rfl), cell_keep o hbw (hcx 7 _ rfl), cell_keep o hbw (hcx 8 _ rfl), cell_keep o hbw (hcx 9 _ rfl), cell_keep o hbw (hcx 10 _ rfl), cell_keep o hbw (hcx 11 _ rfl), cell_keep o hbw (hcx 12 _ rfl)⟩
        have HK2 : Hid (∀ W W' bs', Only [] wr W → WPost W W' wb B (.slice (some ⟨b, off, none⟩) N cap) (.slice (some ⟨g, 0, none⟩) (l2.length + 1) oc) bs' → W'.cell? ⟨wb, 0, none⟩ = some (.slice (some ⟨b, off, none⟩) N cap) ∧ W'.cell? ⟨wb, 1, none⟩ = some (.slice (some ⟨g, 0, none⟩) (l2.length + 1) oc) ∧ W'.cell? ⟨g, l2.length, none⟩ = some (.int .i64 (t : Int)) ∧ W'.cell? ⟨b, off + t * 13, none⟩ = some (.int .i64 xn.kind) ∧ W'.cell? ⟨b, off + t * 13 + 1, none⟩ = some (.int .i64 xn.par) ∧ W'.cell? ⟨b, off + t * 13 + 2, none⟩ = some (.int .i64 xn.at_) ∧ W'.cell? ⟨b, off + t * 13 + 3, none⟩ = some (.int .i64 xn.fin) ∧ W'.cell? ⟨b, off + t * 13 + 4, none⟩ = some (.int .i64 xn.has) ∧ W'.cell? ⟨b, off + t * 13 + 5, none⟩ = some (.string xn.font) ∧ W'.cell? ⟨b, off + t * 13 + 6, none⟩ = some (.int .i64 xn.size) ∧ W'.cell? ⟨b, off + t * 13 + 7, none⟩ = some (.int .i64 xn.width) ∧ W'.cell? ⟨b, off + t * 13 + 8, none⟩ = some (.int .i64 xn.height) ∧ W'.cell? ⟨b, off + t * 13 + 9, none⟩ = some (.int .i64 xn.lead) ∧ W'.cell? ⟨b, off + t * 13 + 10, none⟩ = some (.int .i64 xn.skip) ∧ W'.cell? ⟨b, off + t * 13 + 11, none⟩ = some (.int .i64 xn.tol) ∧ W'.cell? ⟨b, off + t * 13 + 12, none⟩ = some (.slice xa xm xc)) := fun W W' bs' o q => by
          obtain ⟨e0, e1⟩ := q.cells
          have hB : Below B W W' := q.fr.below (Nat.le_trans hw.sz o.size)
          have hg2 : W'.heap[g]? = W.heap[g]? := q.fr.block g (Nat.lt_of_lt_of_le hglt o.size) (.inr fun u hu hty => by
            have := hgty.keep o (by simp)
            simp at hu
            rcases hu with rfl | rfl
            · exact this.ne (by decide) hty
            · exact this.ne (by decide) hty)
          have hb2 : W'.heap[b]? = W.heap[b]? := hB.block b (by omega)
          have kb : ∀ i v, W.cell? ⟨b, i, none⟩ = some v → W'.cell? ⟨b, i, none⟩ = some v := fun i v hv => (World.cell?_of_block (a := ⟨b, i, none⟩) hb2).trans hv
          exact ⟨e0, e1, (World.cell?_of_block (a := ⟨g, l2.length, none⟩) hg2).trans (cell_keep o hglt ct), kb _ _ (cell_keep o hbw (hcx 0 _ rfl)), kb _ _ (cell_keep o hbw (hcx 1 _ rfl)), kb _ _ (cell_keep o hbw (hcx 2 _ rfl)), kb _ _ (cell_keep o hbw (hcx 3 _ rfl)), kb _ _ (cell_keep o hbw (hcx 4 _ rfl)), kb _ _ (cell_keep o hbw (hcx 5 _ rfl)), kb _ _ (cell_keep o hbw (hcx 6 _ rfl)), kb _ _ (cell_keep o hbw (hcx 7 _ rfl)), kb _ _ (cell_keep o hbw (hcx 8 _ rfl)), kb _ _ (cell_keep o hbw (hcx 9 _ rfl)), kb _ _ (cell_keep o hbw (hcx 10 _ rfl)), kb _ _ (cell_keep o hbw (hcx 11 _ rfl)), kb _ _ (cell_keep o hbw (hcx 12 _ rfl))⟩
        have hs0 := hid (HK1.out wr.drew (Only.refl _ _).drew)
        have HKB := hid hknb
        have HXM := hid hxm
        have htl : (t : Int) < (N : Int) := by omega
        have ht0 : (0 : Int) ≤ (t : Int) := by omega
        have HRI1 := hid hri1
        unfold ndc at HKN
        dsimp only at HKN
        clear hk hq hw hri1 hsl hga hx hcx hkt hkn hki hkm hku hknb hxm hgty hbelow hNw htt
        go_wp2_with fail
        go_region_held3 (fun W => W.cell? ⟨wb, 0, none⟩ = some (.slice (some ⟨b, off, none⟩) N cap) ∧ W.cell? ⟨wb, 1, none⟩ = some (.slice (some ⟨g, 0, none⟩) (l2.length + 1) oc) ∧ W.cell? ⟨g, l2.length, none⟩ = some (.int .i64 (t : Int)) ∧ W.cell? ⟨b, off + t * 13, none⟩ = some (.int .i64 xn.kind) ∧ W.cell? ⟨b, off + t * 13 + 1, none⟩ = some (.int .i64 xn.par) ∧ W.cell? ⟨b, off + t * 13 + 2, none⟩ = some (.int .i64 xn.at_) ∧ W.cell? ⟨b, off + t * 13 + 3, none⟩ = some (.int .i64 xn.fin) ∧ W.cell? ⟨b, off + t * 13 + 4, none⟩ = some (.int .i64 xn.has) ∧ W.cell? ⟨b, off + t * 13 + 5, none⟩ = some (.string xn.font) ∧ W.cell? ⟨b, off + t * 13 + 6, none⟩ = some (.int .i64 xn.size) ∧ W.cell? ⟨b, off + t * 13 + 7, none⟩ = some (.int .i64 xn.width) ∧ W.cell? ⟨b, off + t * 13 + 8, none⟩ = some (.int .i64 xn.height) ∧ W.cell? ⟨b, off + t * 13 + 9, none⟩ = some (.int .i64 xn.lead) ∧ W.cell? ⟨b, off + t * 13 + 10, none⟩ = some (.int .i64 xn.skip) ∧ W.cell? ⟨b, off + t * 13 + 11, none⟩ = some (.int .i64 xn.tol) ∧ W.cell? ⟨b, off + t * 13 + 12, none⟩ = some (.slice xa xm xc))
          (first | exact hS2 | exact hS1 | exact hs0.out)
          ((first
            | (go_at_call 50; refine (HKN.out _ ((Only.refl _ _).drew)).mono ?_; rintro e w1 ⟨rfl, q1⟩; have HQ := hid ((Only.refl [] wr).drew.trans q1); have hS1 := HK1.out w1 HQ.out)
            | (go_at_call 49; refine (HWS.out _ HQ.out).mono ?_; rintro e w2 ⟨rfl, q2⟩; have HQ2 := hid q2; have hS2 := HK2.out w1 w2 _ HQ.out q2)))
        clear hS1 hS2 hs0
        have HWP : Hid (∃ bv' p', WB w2 wb B (.slice (some ⟨b, off, none⟩) N cap) (.slice (some ⟨g, 0, none⟩) (l2.length + 1) oc) bv' p' (bs ++ (dn ++ ctag (nds xs) t))) := by
          have q := HQ2.out.st
          rw [bl_app, bl_app, show bl { data := #[60, 47] } = [60, 47] from rfl, show bl { data := #[62] } = [62] from rfl, ← HKB.out, List.append_assoc] at q
          exact q
        have HFR : Hid (FrT [54, 5] B w w2) := hfr.out.trans ((FrT.still HQ.out).trans HQ2.out.fr)
        have HRI2 : Hid (RI w2 B (.slice (some ⟨g, 0, none⟩) (l2.length + 1) oc) (l2 ++ [t])) := ((FrT.still (ts := [54, 5]) (B := B) HQ.out).trans HQ2.out.fr).row HRI1.out (by decide)
        obtain ⟨bv2, p2, hwp⟩ := HWP.out
        have d1 := hwp.blk.cell 1
        have e1 := hwp.blk.froz 1
        simp only [List.getElem?_cons_succ, List.getElem?_cons_zero] at d1
        have HW2 := hid hwp
        clear hwp
        go_wp2_with fail
        go_roundw
        case rel =>
          have hset : Only [wb] w2 (w2.setCell ⟨wb, 1, none⟩ (.slice (some ⟨g, 0, none⟩) l2.length oc)) := (Only.refl [wb] w2).set (.inl (by simp)) _
          refine ⟨l2, dn ++ ctag (nds xs) t, by go_num, ?_, HCL.out, ⟨bv2, p2, ?_⟩, ?_, ?_, ?_⟩
          · exact (List.prefix_append l2 [t]).trans (hcc ▸ hpre.out)
          · exact ⟨HW2.out.blk.set 1 _, HW2.out.pp, row_only HW2.out.row hset (fun b hb hm => by simp at hm; subst hm; exact row_not HW2.out.row HW2.out.blk (by decide) hb), HW2.out.bB, by have := HW2.out.sz; simpa [World.setCell] using this⟩
          · have q := HRI2.out.cut (k := l2.length) (by simp)
            rw [List.take_left] at q
            exact row_only q hset (fun b hb hm => by simp at hm; subst hm; exact row_not q HW2.out.blk (by decide) hb)
          · exact HFR.out.trans (FrT.of hset (fun i hi _ => by simp at hi; subst hi; exact ⟨HW2.out.bB, 54, by simp, Ty.blk HW2.out.blk⟩))
          · have a := hdn.out
            have c := ctag_len (nds xs) t
            show _ ≤ _
            rw [hlen2] at a
            rw [List.length_append]
            omega
        case measure => simp [RowKit.intOf]
end Go.Proofs.YtmlhibcbgdhadaaDoor
