/- The writer: a node; Print. -/
import Derived.Test.YtmlhibcbgdhadaaDoorCls
namespace Go.Proofs.YtmlhibcbgdhadaaDoor
open Go.RowKit

/-- the open ones behind a node -/
def opn (x : Nd) (n : Nat) (l : List Nat) : List Nat := if x.kind = 4 ∨ x.kind = 5 then l else l ++ [n]
theorem CPost.of {w w' : World} {wb B : Nat} {nv : Value} {oa : Option Addr} {oc : Nat} {l bs : List Nat} (h : WPost w w' wb B nv (.slice oa l.length oc) bs) (hri : RI w B (.slice oa l.length oc) l) : CPost [54, 5, 3] w w' wb B nv l bs := by
  obtain ⟨bv, p, q⟩ := h.st
  exact ⟨⟨oa, oc, bv, p, q, h.fr.row hri (by simp)⟩, h.fr.mono (by simp)⟩

theorem CPost.front {ts : List TypeId} {w w1 w' : World} {wb B : Nat} {nv : Value} {l bs : List Nat} (k : FrT ts B w w1) (h : CPost ts w1 w' wb B nv l bs) : CPost ts w w' wb B nv l bs := ⟨h.st, k.trans h.fr⟩
set_option maxRecDepth 100000 in
set_option maxHeartbeats 8000000 in
theorem node_c {xs : List (Nd × Value)} {w : World} {wb B C cap oc n : Nat} {ad oa : Option Addr} {bv p : Value} {bs l : List Nat} (h : WB w wb B (.slice ad xs.length cap) (.slice oa l.length oc) bv p bs) (hri : RI w B (.slice oa l.length oc) l)
    (hNL : NL w C ad xs) (hT : Tt w) (h5 : 5 ≤ B) (hn : n < xs.length) (hok : ok (nds xs) n = true) (hf : ∀ x ∈ xs, Fit x.1) (hlen : xs.length ≤ 8192) (hll : l.length ≤ 8192) (hbs : bs.length ≤ 8796093022208) :
    Calls Tryd.prog 29 #[.pointer (some ⟨wb, 0, none⟩), .int .i64 n] w fun e w' => e = .returned (.tuple #[]) ∧ CPost [54, 5, 3] w w' wb B (.slice ad xs.length cap) (opn (nd (nds xs) n) n l) (bs ++ itemB (nd (nds xs) n)) := by
  obtain ⟨x, hx⟩ := some_at (xs := xs) (i := n) hn
  have hxm := List.mem_of_getElem? hx
  obtain ⟨xn, xv⟩ := x
  obtain ⟨xa, xc, hxv, hxs⟩ := hNL.cv _ hxm
  dsimp only at hxv hxs
  subst hxv
  obtain ⟨b, off, rfl, hbC, hbw, hcx⟩ := hNL.at_ hx
  have hdx := nd_of (nds_get hx)
  dsimp only at hdx
  rw [hdx]
  have hkx := nk_of (nds_get hx)
  dsimp only at hkx
  have hatr : atr xn = true := by have := ok_atr hok; rwa [hdx] at this
  have hfx : Fit xn := hf _ hxm
  obtain ⟨k, hk, hk1, hk5⟩ := nk_nat (ok_plc hok)
  rw [hkx] at hk
  obtain ⟨W1, hW1⟩ : ∃ W1, w.alloc (.cells (ndc (xn, .slice xa xn.chs.length xc)).toArray 42) = W1 := ⟨_, rfl⟩
  have o1 : Only [] w W1 := by rw [← hW1]; exact (Only.refl [] w).alloc _
  have hbx : Blk W1 w.heap.size (ndc (xn, .slice xa xn.chs.length xc)) 42 := by rw [← hW1]; exact Blk.new w (ndc (xn, .slice xa xn.chs.length xc)).toArray 42 rfl
  have hw1 : WB W1 wb B (.slice (some ⟨b, off, none⟩) xs.length cap) (.slice oa l.length oc) bv p bs := ⟨o1.blk h.blk (by simp), h.pp, row_only h.row o1 (by simp), h.bB, Nat.le_trans h.sz o1.size⟩
  have hr1 : RI W1 B (.slice oa l.length oc) l := row_only hri o1 (by simp)
  have htt : Tt W1 := hT.still o1
  have hwlt := h.blk.lt
  have hchl := hfx.chs
  have HTX := hid (text_c (cap := xc) ((hxs.keep o1 (by simp)).sl) htt.tc hchl)
  have HOP := hid (fun W (hW : WB W wb B (.slice (some ⟨b, off, none⟩) xs.length cap) (.slice oa l.length oc) bv p bs) (ht : Tt W) (h3 : k ≤ 3) => opening_c hW (xn, .slice xa xn.chs.length xc) ⟨_, _, _, rfl⟩ hfx hatr hk hk1 h3 ht h5 (by omega))
  dsimp only at HOP
  have c0 := h.blk.cell 0
  have f0 := fun i v (hv : (ndc (xn, .slice xa xn.chs.length xc))[i]? = some v) => hcx i v hv
  have y0 := f0 0 _ rfl
  have y1 := f0 1 _ rfl
  have y2 := f0 2 _ rfl
  have y3 := f0 3 _ rfl
  have y4 := f0 4 _ rfl
  have y5 := f0 5 _ rfl
  have y6 := f0 6 _ rfl
  have y7 := f0 7 _ rfl
  have y8 := f0 8 _ rfl
  have y9 := f0 9 _ rfl
  have y10 := f0 10 _ rfl
  have y11 := f0 11 _ rfl
  have y12 := f0 12 _ rfl
  simp only [List.getElem?_cons_zero] at c0
  simp only [Nat.add_zero] at y0
  have x0 : W1.cell? ⟨w.heap.size, 0, none⟩ = some (.int .i64 xn.kind) := hbx.cell 0
  have x12 : W1.cell? ⟨w.heap.size, 12, none⟩ = some (.slice xa xn.chs.length xc) := hbx.cell 12
  have xs' : ∀ i v, (ndc (xn, .slice xa xn.chs.length xc))[i]? = some v → W1.cell? ⟨w.heap.size, i, none⟩ = some v := fun i v hv => (hbx.cell i).trans hv
  have x1 := xs' 1 _ rfl
  have x2 := xs' 2 _ rfl
  have x3 := xs' 3 _ rfl
  have x4 := xs' 4 _ rfl
  have x5 := xs' 5 _ rfl
  have x6 := xs' 6 _ rfl
  have x7 := xs' 7 _ rfl
  have x8 := xs' 8 _ rfl
  have x9 := xs' 9 _ rfl
  have x10 := xs' 10 _ rfl
  have x11 := xs' 11 _ rfl
  have HO1 := hid o1
  have HW1 := hid hw1
  have HR1 := hid hr1
  have HTT := hid htt
  have HKK := hid hk
  have HBS := hid hbs
  have hnl : (n : Int) < (xs.length : Int) := by omega
  have hn0 : (0 : Int) ≤ (n : Int) := by omega
  have hn8 : (n : Int) ≤ 8192 := by omega
  have HLL := hid hll
  have hsay : xn.kind = 4 → (textM xn.chs).isSome = true := fun h4 => by
    have : say (nds xs) n = true := by unfold ok at hok; simp at hok; exact hok.2
    unfold say at this
    rw [hkx, if_pos h4, hdx] at this
    simp at this
    exact this.2
  obtain ⟨i3, hi3, z30, z31, z32⟩ := info_parts info3
  unfold ndc at hW1 HOP
  have HTM : Hid (∀ bs, textM xn.chs = some bs → bs.length ≤ 6 * 4294967296) := fun bs hbs => by have := textM_len hbs; omega
  obtain ⟨xm, hxm'⟩ : ∃ xm, xn.chs.length = xm := ⟨_, rfl⟩
  rw [hxm'] at hW1 HOP HTX y12 x12
  clear h hri hNL hT hok hf hxs hcx hdx hkx hatr hfx hbx hw1 hr1 htt hchl f0 xs' hxm hx o1 hlen hll hbs
  clear hxm' hk
  rcases (by omega : k = 4 ∨ k = 5 ∨ k ≤ 3) with h4 | h4 | h4
  · have hk4 : xn.kind = 4 := by rw [HKK.out, h4]; rfl
    obtain ⟨ts, hts⟩ := Option.isSome_iff_exists.1 (hsay hk4)
    have hI : Hid (itemB xn = ts ∧ opn xn n l = l) := ⟨by unfold itemB; rw [if_pos hk4, hts]; rfl, by unfold opn; rw [if_pos (.inl hk4)]⟩
    have hl := HTM.out ts hts
    rw [hts] at HTX
    unfold textV at HTX
    dsimp only at HTX
    rw [hk4] at hW1 x0 y0
    have hstb : bl (strN ts) = ts := bl_strN ts (textM_lt hts)
    have HWS := hid (fun W (o : Only [] W1 W) => writeString_c (w := W) (⟨o.blk HW1.out.blk (by simp), HW1.out.pp, row_only HW1.out.row o (by simp), HW1.out.bB, Nat.le_trans HW1.out.sz o.size⟩ : WB W wb B (.slice (some ⟨b, off, none⟩) xs.length cap) (.slice oa l.length oc) bv p bs) (strN ts) (by
      have := HBS.out
      rw [← bl_length, hstb]; omega))
    have HSB := hid hstb
    clear hts hsay hk4 hstb HOP h4 hl
    generalize xs.length = N at *
    generalize strN ts = st at *
    go_enter Tryd.func29, Tryd.ntmps29
    go_wp2_with fail
    refine HTX.out.mono ?_
    rintro e w2 ⟨rfl, ho2⟩
    have HO2 := hid ho2
    clear ho2
    go_wp2_with fail
    refine (HWS.out _ HO2.out).mono ?_
    rintro e w3 ⟨rfl, q3⟩
    have HQ := hid q3
    clear q3
    go_wp2_with fail
    refine bodyPost_end (results_none (fn := Tryd.f29) rfl _ _ _) rfl ⟨rfl, ?_⟩
    rw [hI.out.1, hI.out.2]
    have q := HQ.out
    rw [HSB.out] at q
    exact CPost.front (FrT.still (HO1.out.trans HO2.out)) (CPost.of q (row_only HR1.out HO2.out (by simp)))
  · have hk5' : xn.kind = 5 := by rw [HKK.out, h4]; rfl
    have hI : Hid (itemB xn = [60, 98, 114, 47, 62] ∧ opn xn n l = l) := ⟨by unfold itemB; rw [if_neg (by omega), if_pos hk5'], by unfold opn; rw [if_pos (.inr hk5')]⟩
    rw [hk5'] at hW1 x0 y0
    have HWS := hid (writeString_c HW1.out ({ data := #[60, 98, 114, 47, 62] } : ByteArray) (by
      have := HBS.out
      show _ + 5 ≤ _; omega))
    clear hk5' HOP h4 hsay
    generalize xs.length = N at *
    go_enter Tryd.func29, Tryd.ntmps29
    go_wp2_with fail
    refine HWS.out.mono ?_
    rintro e w3 ⟨rfl, q3⟩
    have HQ := hid q3
    clear q3
    go_wp2_with fail
    refine bodyPost_end (results_none (fn := Tryd.f29) rfl _ _ _) rfl ⟨rfl, ?_⟩
    rw [hI.out.1, hI.out.2]
    have q := HQ.out
    rw [show bl { data := #[60, 98, 114, 47, 62] } = [60, 98, 114, 47, 62] from rfl] at q
    exact CPost.front (FrT.still HO1.out) (CPost.of q HR1.out)
  · have hkn4 : xn.kind ≠ 4 := by rw [HKK.out]; omega
    have hkn5 : xn.kind ≠ 5 := by rw [HKK.out]; omega
    have hI : Hid (itemB xn = tagB xn ∧ opn xn n l = l ++ [n]) := ⟨by unfold itemB; rw [if_neg hkn4, if_neg hkn5], by unfold opn; rw [if_neg (by omega)]⟩
    have k4 : (xn.kind == 4) = false := by simpa using hkn4
    have k5 : (xn.kind == 5) = false := by simpa using hkn5
    have HOP2 := hid (HOP.out W1 HW1.out HTT.out h4)
    have hq1 : l.length + 1 ≤ maxLen := by have := HLL.out; unfold maxLen; omega
    have hq2 : (l.length + 1) * 8 ≤ 140737488355328 := by have := HLL.out; omega
    clear hkn4 hkn5 HOP h4 hsay
    generalize xs.length = N at *
    go_enter Tryd.func29, Tryd.ntmps29
    go_wp2_with fail
    refine HOP2.out.mono ?_
    rintro e w3 ⟨rfl, q3⟩
    have HQ := hid q3
    obtain ⟨bv2, p2, hw2⟩ := q3.st
    have d1 := hw2.blk.cell 1
    simp only [List.getElem?_cons_succ, List.getElem?_cons_zero] at d1
    have hwn : ¬ wb = w3.heap.size := by have := hw2.blk.lt; omega
    have HW2 := hid hw2
    have HR2 : Hid (RI w3 B (.slice oa l.length oc) l) := q3.fr.row HR1.out (by simp)
    clear q3 hw2
    go_wp2_with (at_builtin; refine wpList_append_sl _ rfl _ _ 36 rfl B 3 i3 _ 1 8 Tryd.underlying36 hi3 z30 z31 z32 rfl (by decide) (.slice oa l.length oc) l.length (ivs l) (by rfl) ?qc1 (some ⟨w3.heap.size, 0, none⟩) 1 1 [iv n] (by rfl) rfl ?qc2 ?qc3 hq1 hq2 ?qc4 ?_)
    case qc1 => exact row_only HR2.out ((Only.refl [] w3).alloc _) (by simp)
    case qc2 => exact sl_newest w3 [iv n] 3 rfl
    case qc3 => first | rfl | (intro u hu; simp at hu; subst hu; rfl)
    case qc4 => have := HW2.out.sz; simp; omega
    intro v2 w6 hown hgrew
    obtain ⟨ad2, cp2, rfl, -, -⟩ := row_reads hown
    have hb6 : Blk w6 wb [.slice (some ⟨b, off, none⟩) N cap, .slice oa l.length oc, p2, bv2] 54 := (hgrew.grown.block wb (by have := HW2.out.blk.lt; simp; omega) (fun e => row_not HR2.out HW2.out.blk (by decide) e.symm)).trans (HW2.out.blk.alloc _)
    have k6 := hb6.froz 1
    have k6c := hb6.cell 1
    simp only [List.getElem?_cons_succ, List.getElem?_cons_zero] at k6c
    have HB6 := hid hb6
    have HGR := hid hgrew
    have HOW := hid hown
    clear hown hgrew hb6
    go_wp2_with fail
    refine bodyPost_end (results_none (fn := Tryd.f29) rfl _ _ _) rfl ⟨rfl, ?_⟩
    rw [hI.out.1, hI.out.2]
    have hs6 : Only [wb] w6 (w6.setCell ⟨wb, 1, none⟩ (.slice ad2 (l.length + 1) cp2)) := (Only.refl [wb] w6).set (.inl (by simp)) _
    have ho6 : Only (ob (.slice oa l.length oc)) w3 w6 := only_grow ((Only.refl _ w3).alloc _) HGR.out.grown (fun b hb => .inl (mem_ob.2 hb))
    have hrb6 : RB w6 B bv2 (bs ++ tagB xn) := row_only HW2.out.row ho6 (fun b hb hm => row_row HR2.out HW2.out.row (by decide) (mem_ob.1 hm) hb)
    have hsz : w3.heap.size ≤ w6.heap.size := ho6.size
    refine ⟨⟨ad2, cp2, bv2, p2, ?_, ?_⟩, ?_⟩
    · rw [List.length_append]
      exact ⟨HB6.out.set 1 _, HW2.out.pp, row_only hrb6 hs6 (fun b hb hm => by simp at hm; subst hm; exact row_not hrb6 HB6.out (by decide) hb), HW2.out.bB, by have := HW2.out.sz; simp [World.setCell]; omega⟩
    · have q := row_only HOW.out hs6 (fun b hb hm => by simp at hm; subst hm; exact row_not HOW.out HB6.out (by decide) hb)
      unfold RI
      rw [ivs_app, List.length_append]
      exact q
    · refine ((FrT.still HO1.out).trans (HQ.out.fr.mono (by simp))).trans ((FrT.of ho6 (fun i hi _ => ⟨(row_ge HR2.out i (mem_ob.1 hi)).1, 3, by simp, Ty.row HR2.out (mem_ob.1 hi)⟩)).trans (FrT.of hs6 (fun i hi _ => by simp at hi; subst hi; exact ⟨HW2.out.bB, 54, by simp, Ty.blk HB6.out⟩)))
end Go.Proofs.YtmlhibcbgdhadaaDoor
