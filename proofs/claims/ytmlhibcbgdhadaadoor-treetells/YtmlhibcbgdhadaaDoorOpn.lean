/- The writer: an element's first tag. -/
import Derived.Test.YtmlhibcbgdhadaaDoorPrM
import Derived.Test.YtmlhibcbgdhadaaDoorBld
namespace Go.Proofs.YtmlhibcbgdhadaaDoor
open Go.RowKit

theorem kName_bl {k : Nat} (h1 : 1 ≤ k) (h3 : k ≤ 3) : bl (kName k) = nameB k := by
  obtain rfl | rfl | rfl : k = 1 ∨ k = 2 ∨ k = 3 := by omega
  all_goals rfl
theorem kName_size (k : Int) : (kName k).size ≤ 3 := by
  unfold kName
  repeat' split
  all_goals decide
/-- behind a writing call the parts of the writer that it does not write are as they were -/
theorem WPost.cells {w w' : World} {wb B : Nat} {nv ov : Value} {bs : List Nat} (h : WPost w w' wb B nv ov bs) : w'.cell? ⟨wb, 0, none⟩ = some nv ∧ w'.cell? ⟨wb, 1, none⟩ = some ov := by
  obtain ⟨bv, p, hw⟩ := h.st
  exact ⟨hw.blk.cell 0, hw.blk.cell 1⟩
theorem bl_app (a b : ByteArray) : bl (a ++ b) = bl a ++ bl b := U.bl_append a b

set_option maxRecDepth 100000 in
set_option maxHeartbeats 8000000 in
theorem opening_c {w : World} {wb B k : Nat} {nv ov bv p : Value} {bs : List Nat} (h : WB w wb B nv ov bv p bs) (x : Nd × Value) (hx : ∃ ad n c, x.2 = .slice ad n c) (hf : Fit x.1) (ha : atr x.1 = true) (hk : x.1.kind = (k : Int)) (h1 : 1 ≤ k) (h3 : k ≤ 3) (hT : Tt w) (h5 : 5 ≤ B) (hlen : bs.length ≤ 17592186044416) :
    Calls Tryd.prog 52 #[.pointer (some ⟨wb, 0, none⟩), .agg (ndc x).toArray] w fun e w' => e = .returned (.tuple #[]) ∧ WPost w w' wb B nv ov (bs ++ tagB x.1) := by
  obtain ⟨xn, xv⟩ := x
  obtain ⟨xa, xm, xc, hxv⟩ := hx
  dsimp only at hxv
  subst hxv
  obtain ⟨W1, hW1⟩ : ∃ W1, w.alloc (.cells (ndc (xn, .slice xa xm xc)).toArray 42) = W1 := ⟨_, rfl⟩
  have o1 : Only [] w W1 := by rw [← hW1]; exact (Only.refl [] w).alloc _
  have hbx : Blk W1 w.heap.size (ndc (xn, .slice xa xm xc)) 42 := by rw [← hW1]; exact Blk.new w (ndc (xn, .slice xa xm xc)).toArray 42 rfl
  have hw1 : WB W1 wb B nv ov bv p bs := ⟨o1.blk h.blk (by simp), h.pp, row_only h.row o1 (by simp), h.bB, Nat.le_trans h.sz o1.size⟩
  have hwx : wb ≠ w.heap.size := by have := h.blk.lt; omega
  have HKN := hid (fun W (o : Only [] W1 W) => kindOf_c (x := (xn, .slice xa xm xc)) hk h1 (by omega) W ((hT.still o1).still o))
  unfold kindC at HKN
  obtain ⟨kn, hkn⟩ : ∃ kn, kName (k : Int) = kn := ⟨_, rfl⟩
  have hknb : bl kn = nameB xn.kind := by rw [← hkn, kName_bl h1 h3, hk]
  have hkns : kn.size ≤ 3 := by rw [← hkn]; exact kName_size _
  obtain ⟨ki, hki⟩ : ∃ ki, kIn (k : Int) = ki := ⟨_, rfl⟩
  obtain ⟨km, hkm⟩ : ∃ km, may (k : Int) = km := ⟨_, rfl⟩
  obtain ⟨ku, hku⟩ : ∃ ku, kMust (k : Int) = ku := ⟨_, rfl⟩
  rw [hkn, hki, hkm, hku] at HKN
  have hfd : ∀ W, (Instr.field 71 (.agg #[.string kn, .int .i64 ki, .int .i64 km, .int .i64 ku]) 0).run Tryd.prog W = .ok (.string kn) W := fun W => by kernel_rfl
  have hadd : ¬ 9223372036854775807 < 1 + kn.size := by omega
  have HA := hid (fun W (hT : Tt W) => atts_any (xn, .slice xa xm xc) hf W hT)
  have HIX := hid (atts_idx xn)
  obtain ⟨AV, hAV⟩ : ∃ AV, Value.agg (attsC xn).toArray = AV := ⟨_, rfl⟩
  dsimp only at HA
  rw [hAV] at HA HIX
  have HWS := hid (fun W (o : Only [] W1 W) => writeString_c (w := W) (⟨o.blk hw1.blk (by simp), hw1.pp, row_only hw1.row o (by simp), hw1.bB, Nat.le_trans hw1.sz o.size⟩ : WB W wb B nv ov bv p bs) ({ data := #[60] } ++ kn) (by rw [ByteArray.size_append]; show bs.length + (1 + kn.size) ≤ _; omega))
  -- what the region reads stays
  have hc : ∀ W, Only [] W1 W → ∀ i v, (ndc (xn, .slice xa xm xc))[i]? = some v → W.cell? ⟨w.heap.size, i, none⟩ = some v := fun W o i v hv => cell_keep o hbx.lt ((hbx.cell i).trans hv)
  have hcp : ∀ W, FrT [54, 5] B W1 W → ∀ i v, (ndc (xn, .slice xa xm xc))[i]? = some v → W.cell? ⟨w.heap.size, i, none⟩ = some v := fun W o i v hv => ((o.blk hbx (by simp)).cell i).trans hv
  have HK : Hid (∀ W, (Only [] W1 W ∨ FrT [54, 5] B W1 W) → W.cell? ⟨w.heap.size, 0, none⟩ = some (.int .i64 xn.kind) ∧ W.cell? ⟨w.heap.size, 1, none⟩ = some (.int .i64 xn.par) ∧ W.cell? ⟨w.heap.size, 2, none⟩ = some (.int .i64 xn.at_) ∧ W.cell? ⟨w.heap.size, 3, none⟩ = some (.int .i64 xn.fin) ∧ W.cell? ⟨w.heap.size, 4, none⟩ = some (.int .i64 xn.has) ∧ W.cell? ⟨w.heap.size, 5, none⟩ = some (.string xn.font) ∧ W.cell? ⟨w.heap.size, 6, none⟩ = some (.int .i64 xn.size) ∧ W.cell? ⟨w.heap.size, 7, none⟩ = some (.int .i64 xn.width) ∧ W.cell? ⟨w.heap.size, 8, none⟩ = some (.int .i64 xn.height) ∧ W.cell? ⟨w.heap.size, 9, none⟩ = some (.int .i64 xn.lead) ∧ W.cell? ⟨w.heap.size, 10, none⟩ = some (.int .i64 xn.skip) ∧ W.cell? ⟨w.heap.size, 11, none⟩ = some (.int .i64 xn.tol) ∧ W.cell? ⟨w.heap.size, 12, none⟩ = some (.slice xa xm xc)) := fun W o => by
    have q : ∀ i v, (ndc (xn, .slice xa xm xc))[i]? = some v → W.cell? ⟨w.heap.size, i, none⟩ = some v := o.elim (hc W) (hcp W)
    exact ⟨q 0 _ rfl, q 1 _ rfl, q 2 _ rfl, q 3 _ rfl, q 4 _ rfl, q 5 _ rfl, q 6 _ rfl, q 7 _ rfl, q 8 _ rfl, q 9 _ rfl, q 10 _ rfl, q 11 _ rfl, q 12 _ rfl⟩
  have HO1 := hid o1
  have HBX := hid hbx
  have HW0 := hid h
  have HTT := hid (hT.still o1)
  have HAT := hid ha
  have hs0 := hid (HK.out W1.drew (.inl (Only.refl _ _).drew))
  unfold ndc at HKN HA hW1 ⊢
  dsimp only at HKN HA ⊢
  have HKNB := hid hknb
  clear hAV hkn hki hkm hku hT ha hc hcp h hw1 hbx o1 hf hknb hk
  go_enter Tryd.func52, Tryd.ntmps52
  go_wp2_with fail
  go_region_held3 (fun W => W.cell? ⟨w.heap.size, 0, none⟩ = some (.int .i64 xn.kind) ∧ W.cell? ⟨w.heap.size, 1, none⟩ = some (.int .i64 xn.par) ∧ W.cell? ⟨w.heap.size, 2, none⟩ = some (.int .i64 xn.at_) ∧ W.cell? ⟨w.heap.size, 3, none⟩ = some (.int .i64 xn.fin) ∧ W.cell? ⟨w.heap.size, 4, none⟩ = some (.int .i64 xn.has) ∧ W.cell? ⟨w.heap.size, 5, none⟩ = some (.string xn.font) ∧ W.cell? ⟨w.heap.size, 6, none⟩ = some (.int .i64 xn.size) ∧ W.cell? ⟨w.heap.size, 7, none⟩ = some (.int .i64 xn.width) ∧ W.cell? ⟨w.heap.size, 8, none⟩ = some (.int .i64 xn.height) ∧ W.cell? ⟨w.heap.size, 9, none⟩ = some (.int .i64 xn.lead) ∧ W.cell? ⟨w.heap.size, 10, none⟩ = some (.int .i64 xn.skip) ∧ W.cell? ⟨w.heap.size, 11, none⟩ = some (.int .i64 xn.tol) ∧ W.cell? ⟨w.heap.size, 12, none⟩ = some (.slice xa xm xc))
    (first | exact hS2 | exact hS1 | exact hs0.out)
    ((first
      | (go_at_call 50; refine (HKN.out _ ((Only.refl _ _).drew)).mono ?_; rintro e w1 ⟨rfl, q1⟩; have HQ := hid ((Only.refl [] W1).drew.trans q1); have hS1 := HK.out w1 (.inl HQ.out))
      | (go_at_call 49; refine (HWS.out _ HQ.out).mono ?_; rintro e w2 ⟨rfl, q2⟩; have HQ2 := hid q2; have hS2 := HK.out w2 (.inr ((FrT.still HQ.out).trans q2.fr)))))
  have HP1 : Hid (WPost w w2 wb B nv ov (bs ++ 60 :: nameB xn.kind)) := by
    have q := HQ2.out
    rw [bl_app, show bl { data := #[60] } = [60] from rfl, HKNB.out] at q
    exact ⟨q.st, (FrT.still (HO1.out.trans HQ.out)).trans q.fr⟩
  have HF1 : Hid (FrT [54, 5] B W1 w2) := (FrT.still HQ.out).trans HQ2.out.fr
  obtain ⟨r0, r1, r2, r3, r4, r5, r6, r7, r8, r9, r10, r11, r12⟩ := hS2
  have HTw2 : Hid (Tt w2) := HTT.out.below (HF1.out.below (by have := HW0.out.sz; have := HO1.out.size; omega)) h5
  clear HQ2 HQ hS1 hs0
  go_wp2_with fail
  refine (HA.out _ HTw2.out).mono ?_
  rintro e w3 ⟨rfl, ho3⟩
  have HO3 := hid ho3
  have HB3 : Hid (Blk w3 w.heap.size (ndc (xn, .slice xa xm xc)) 42) := ho3.blk (HF1.out.blk HBX.out (by simp)) (by simp)
  have HW3 : Hid (∃ bv' p', WB w3 wb B nv ov bv' p' (bs ++ 60 :: nameB xn.kind)) := by
    obtain ⟨bv', p', q⟩ := HP1.out.st
    exact ⟨bv', p', ho3.blk q.blk (by simp), q.pp, row_only q.row ho3 (by simp), q.bB, Nat.le_trans q.sz ho3.size⟩
  have HF3 : Hid (FrT [54, 5] B w w3) := HP1.out.fr.trans (FrT.still ho3)
  clear ho3 r0 r1 r2 r3 r4 r5 r6 r7 r8 r9 r10 r11 r12
  go_wp2_with fail
  go_loopw [16] (fun i wr => ∃ j : Nat, i = .int .i64 j ∧ j ≤ 7 ∧ Hid (∃ bv' p', WB wr wb B nv ov bv' p' (bs ++ 60 :: nameB xn.kind ++ (List.range j).flatMap (attB xn))) ∧ Hid (FrT [54, 5] B w3 wr)) (fun i _ => 8 - (RowKit.intOf i).toNat)
  case atStart => exact ⟨0, rfl, by omega, by show ∃ bv' p', _; simpa using HW3.out, FrT.refl _ _ _⟩
  case round =>
    obtain ⟨j, rfl, hj, hw, hfr⟩ := hrel
    have hb3 := hfr.out.blk HB3.out (by simp)
    have c4 : wr.cell? ⟨w.heap.size, 4, none⟩ = some (.int .i64 xn.has) := hb3.cell 4
    have hlt3 := hb3.lt
    obtain ⟨bv1, p1, hwb⟩ := hw.out
    have HWB := hid hwb
    have hwbz := hwb.blk.lt
    have HL : Hid ((bs ++ 60 :: nameB xn.kind ++ (List.range j).flatMap (attB xn)).length ≤ 17592186044800) := by
      show _ ≤ _
      have a1 := attsB_len HAT.out j hj
      have a2 := nameB_len xn.kind
      simp only [List.length_append, List.length_cons]
      omega
    clear hb3 hwb
    by_cases h7 : j < 7
    · have hix := fun W => HIX.out j h7 W
      have hjl : (j : Int) < 7 := by omega
      have H7 := hid h7
      have hvs : hb xn (aBit j) = true → (aVl xn j).size ≤ 32 := aVl_size HAT.out h7
      have hns := aNm_size j
      have hab : attB xn j = if hb xn (aBit j) then [32] ++ bl (aNm j) ++ [61, 34] ++ bl (aVl xn j) ++ [34] else [] := rfl
      have hsu := range_flat_succ (attB xn) j
      rw [hab] at hsu
      obtain ⟨bt, hbt⟩ : ∃ bt, aBit j = bt := ⟨_, rfl⟩
      obtain ⟨nm, hnm⟩ : ∃ nm, aNm j = nm := ⟨_, rfl⟩
      obtain ⟨vl, hvl⟩ : ∃ vl, aVl xn j = vl := ⟨_, rfl⟩
      obtain ⟨z, hz⟩ : ∃ z, aZ xn j = z := ⟨_, rfl⟩
      obtain ⟨r, hr⟩ : ∃ r, aR xn j = r := ⟨_, rfl⟩
      rw [hbt, hnm, hvl, hz, hr] at hix
      rw [hbt, hvl] at hvs
      rw [hnm] at hns
      rw [hbt, hnm, hvl] at hsu
      have HSU := hid hsu
      clear hbt hnm hvl hz hr h7 hab hsu
      have hj0 : (0 : Int) ≤ (j : Int) := by omega
      have hne : ¬ w.heap.size = wr.heap.size := by omega
      have hne2 : ¬ wb = wr.heap.size := by omega
      rcases hh : hb xn bt with _ | _
      · rw [hh] at HSU
        have e1 : (bits .and .i64 xn.has bt == 0) = true := by unfold hb at hh; simpa using hh
        have e2 : (bits .and .i64 xn.has bt != 0) = false := hh
        clear hh hvs
        go_wp2_with fail
        go_roundw
        case rel =>
          refine ⟨j + 1, by go_num, H7.out, ?_, hfr.out.trans (FrT.still ((Only.refl _ _).alloc _))⟩
          have q := HSU.out
          simp only [Bool.false_eq_true, if_false, List.append_nil] at q
          have o : Only [] wr (wr.alloc (.cells #[.int .i64 bt, .string nm, .string vl, .bool z, .bool r] 84)) := (Only.refl _ _).alloc _
          refine ⟨bv1, p1, ?_⟩
          rw [q]
          exact ⟨o.blk HWB.out.blk (by simp), HWB.out.pp, row_only HWB.out.row o (by simp), HWB.out.bB, Nat.le_trans HWB.out.sz o.size⟩
        case measure => have := H7.out; simp [RowKit.intOf]; omega
      · rw [hh] at HSU
        have e1 : (bits .and .i64 xn.has bt == 0) = false := by unfold hb at hh; simpa using hh
        have e2 : (bits .and .i64 xn.has bt != 0) = true := hh
        have hvl := hvs hh
        clear hh hvs
        obtain ⟨W2, hW2⟩ : ∃ W2, wr.alloc (.cells #[.int .i64 bt, .string nm, .string vl, .bool z, .bool r] 84) = W2 := ⟨_, rfl⟩
        have o2 : Only [] wr W2 := by rw [← hW2]; exact (Only.refl [] wr).alloc _
        have hb2 : Blk W2 wr.heap.size [.int .i64 bt, .string nm, .string vl, .bool z, .bool r] 84 := by rw [← hW2]; exact Blk.new wr #[.int .i64 bt, .string nm, .string vl, .bool z, .bool r] 84 rfl
        have HWS := hid (writeString_c (w := W2.drew) (⟨(o2.blk HWB.out.blk (by simp)).drew, HWB.out.pp, row_only HWB.out.row o2.drew (by simp), HWB.out.bB, Nat.le_trans HWB.out.sz o2.size⟩ : WB W2.drew wb B nv ov bv1 p1 _) ({ data := #[32] } ++ nm ++ { data := #[61, 34] } ++ vl ++ { data := #[34] }) (by
          have := HL.out
          simp only [ByteArray.size_append]
          show _ + (1 + nm.size + 2 + vl.size + 1) ≤ _
          omega))
        have hd : W2.drew.cell? ⟨wr.heap.size, 1, none⟩ = some (.string nm) ∧ W2.drew.cell? ⟨wr.heap.size, 2, none⟩ = some (.string vl) := ⟨hb2.cell 1, hb2.cell 2⟩
        have HD := hid hd
        have HO2 := hid o2
        have HBB := hid hb2
        have a1 : ¬ 9223372036854775807 < 1 + nm.size := by omega
        have a2 : ¬ 9223372036854775807 < 1 + nm.size + 2 := by omega
        have a3 : ¬ 9223372036854775807 < 1 + nm.size + 2 + vl.size := by omega
        have a4 : ¬ 9223372036854775807 < 1 + nm.size + 2 + vl.size + 1 := by omega
        have f0 : ∀ i v, [Value.int .i64 bt, .string nm, .string vl, .bool z, .bool r][i]? = some v → W2.cell? ⟨wr.heap.size, i, none⟩ = some v := fun i v hv => (hb2.cell i).trans hv
        have k0 := f0 0 _ rfl
        have c42 : W2.cell? ⟨w.heap.size, 4, none⟩ = some (.int .i64 xn.has) := cell_keep o2 hlt3 c4
        clear hd o2 hb2 f0
        go_wp2_with fail
        go_region_held3 (fun W => W.cell? ⟨wr.heap.size, 1, none⟩ = some (.string nm) ∧ W.cell? ⟨wr.heap.size, 2, none⟩ = some (.string vl))
          (first | exact hS2 | exact HD.out)
          ((first
            | (go_at_call 49; refine HWS.out.mono ?_; rintro e w4 ⟨rfl, q2⟩; have HQ2 := hid q2; have hS2 : w4.cell? ⟨wr.heap.size, 1, none⟩ = some (.string nm) ∧ w4.cell? ⟨wr.heap.size, 2, none⟩ = some (.string vl) := ⟨(q2.fr.blk HBB.out.drew (by simp)).cell 1, (q2.fr.blk HBB.out.drew (by simp)).cell 2⟩)))
        clear hS2
        go_wp2_with fail
        go_roundw
        case rel =>
          refine ⟨j + 1, by go_num, H7.out, ?_, (hfr.out.trans (FrT.still HO2.out.drew)).trans HQ2.out.fr⟩
          have q := HQ2.out.st
          have q1 := HSU.out
          simp only [if_true] at q1
          rw [bl_app, bl_app, bl_app, bl_app, show bl { data := #[32] } = [32] from rfl, show bl { data := #[61, 34] } = [61, 34] from rfl, show bl { data := #[34] } = [34] from rfl] at q
          obtain ⟨bv4, p4, q4⟩ := q
          refine ⟨bv4, p4, ?_⟩
          rw [q1, ← List.append_assoc]
          exact q4
        case measure => have := H7.out; simp [RowKit.intOf]; omega
    · have hjl : ¬ (j : Int) < 7 := by omega
      have hj7 : j = 7 := by omega
      subst hj7
      have HWY := hid (writeByte_c HWB.out 62 (by have := HL.out; omega))
      clear h7
      go_wp2_with fail
      refine HWY.out.mono ?_
      rintro e w4 ⟨rfl, q4⟩
      have HQ4 := hid q4
      clear q4
      go_wp2_with fail
      refine bodyPost_end (results_none (fn := Tryd.f52) rfl _ _ _) rfl ⟨rfl, ?_, (HF3.out.trans hfr.out).trans HQ4.out.fr⟩
      have q := HQ4.out.st
      have e : bs ++ tagB xn = bs ++ 60 :: nameB xn.kind ++ (List.range 7).flatMap (attB xn) ++ [62] := by
        unfold tagB attsB
        simp only [List.cons_append, List.append_assoc]
      rw [e]
      exact q
end Go.Proofs.YtmlhibcbgdhadaaDoor
