/- The writer's text: a strings.Builder that is a part of the writer. -/
import Derived.Test.YtmlhibcbgdhadaaDoorPath
import Derived.Lib.Builder
import Derived.Lib.UnsafeStr
import Derived.Lib.AppendStr
namespace Go.Proofs.YtmlhibcbgdhadaaDoor
open Go.RowKit

/-- of the blocks from B on none but those of these types has turned -/
structure FrT (ts : List TypeId) (B : Nat) (w w' : World) : Prop where
  os : w'.os = w.os
  tape : w'.tape = w.tape
  output : w'.output = w.output
  size : w.heap.size ≤ w'.heap.size
  block : ∀ k, k < w.heap.size → (k < B ∨ ∀ t ∈ ts, ¬ Ty w k t) → w'.heap[k]? = w.heap[k]?
theorem FrT.refl (ts : List TypeId) (B : Nat) (w : World) : FrT ts B w w := ⟨rfl, rfl, rfl, Nat.le_refl _, fun _ _ _ => rfl⟩
theorem FrT.trans {ts : List TypeId} {B : Nat} {a b c : World} (h : FrT ts B a b) (k : FrT ts B b c) : FrT ts B a c :=
  ⟨k.os.trans h.os, k.tape.trans h.tape, k.output.trans h.output, Nat.le_trans h.size k.size, fun i hi hc => by
    have h1 := h.block i hi hc
    refine (k.block i (Nat.lt_of_lt_of_le hi h.size) (hc.imp id fun q t ht hty => q t ht ?_)).trans h1
    obtain ⟨cur, hcur⟩ := hty
    exact ⟨cur, h1 ▸ hcur⟩⟩
theorem FrT.mono {ts us : List TypeId} {B : Nat} {w w' : World} (h : FrT ts B w w') (hs : ∀ t ∈ ts, t ∈ us) : FrT us B w w' :=
  ⟨h.os, h.tape, h.output, h.size, fun k hk hc => h.block k hk (hc.imp id fun q t ht => q t (hs t ht))⟩
theorem FrT.of {ts : List TypeId} {B : Nat} {L : List Nat} {w w' : World} (h : Only L w w') (hL : ∀ b ∈ L, b < w.heap.size → B ≤ b ∧ ∃ t ∈ ts, Ty w b t) : FrT ts B w w' :=
  ⟨h.os, h.tape, h.output, h.size, fun k hk hc => h.block k hk fun hm => by
    obtain ⟨h1, t, ht, hty⟩ := hL k hm hk
    rcases hc with g | g
    · omega
    · exact g t ht hty⟩
theorem FrT.still {ts : List TypeId} {B : Nat} {w w' : World} (h : Only [] w w') : FrT ts B w w' := FrT.of h (fun b hb => by cases hb)
theorem FrT.below {ts : List TypeId} {B : Nat} {w w' : World} (h : FrT ts B w w') (hB : B ≤ w.heap.size) : Below B w w' := ⟨h.os, h.tape, h.output, h.size, fun k hk => h.block k (by omega) (.inl hk)⟩
theorem FrT.blk {ts : List TypeId} {B : Nat} {w w' : World} (h : FrT ts B w w') {b : Nat} {xs : List Value} {t : TypeId} (k : Blk w b xs t) (ht : t ∉ ts) : Blk w' b xs t :=
  (h.block b k.lt (.inr fun u hu hty => by
    have := Ty.blk k
    by_cases e : t = u
    · subst e; exact ht hu
    · exact this.ne e hty)).trans k
theorem FrT.row {ts : List TypeId} {B : Nat} {w w' : World} (h : FrT ts B w w') {C n size : Nat} {e : TypeId} {v : Value} {xs : List Value} (k : w.ownsRow C e size v n xs) (ht : e ∉ ts) : w'.ownsRow C e size v n xs := by
  refine ⟨k.1, ?_⟩
  rcases k.2 with h2 | ⟨g, cap, cur, rfl, hb, hh, h3, h4, h5, h6⟩
  · exact .inl h2
  · have hty : Ty w g e := ⟨_, hh⟩
    refine .inr ⟨g, cap, cur, rfl, hb, (h.block g hty.lt (.inr fun u hu hu2 => ?_)).trans hh, h3, h4, h5, h6⟩
    by_cases e2 : e = u
    · subst e2; exact ht hu
    · exact hty.ne e2 hu2
theorem At.below {W W' : World} {B b off : Nat} {cs : List Value} (h : At W b off cs) (k : Below B W W') (hb : b < B) : At W' b off cs := h.of k hb
theorem SlB.below {W W' : World} {B C : Nat} {ad : Option Addr} {n : Nat} {cs : List Value} (h : SlB W C ad n cs) (k : Below B W W') (hC : C ≤ B) : SlB W' C ad n cs := fun h0 => by
  obtain ⟨b, off, e, hb, ha⟩ := h h0
  exact ⟨b, off, e, hb, ha.below k (by omega)⟩
theorem NL.below {W W' : World} {B C : Nat} {ad : Option Addr} {xs : List (Nd × Value)} (h : NL W C ad xs) (k : Below B W W') (hC : C ≤ B) : NL W' C ad xs :=
  ⟨h.sl.below k hC, fun x hx => by obtain ⟨ca, cap, e, hs⟩ := h.cv x hx; exact ⟨ca, cap, e, hs.below k hC⟩⟩
theorem Tt.below {w w' : World} {B : Nat} (h : Tt w) (k : Below B w w') (hB : 5 ≤ B) : Tt w' :=
  h.only (L := (List.range w.heap.size).filter fun i => decide (B ≤ i)) ⟨k.os, k.tape, k.output, k.size, fun i hi hn => k.block i (by
    rcases Nat.lt_or_ge i B with g | g
    · exact g
    · exact absurd (List.mem_filter.2 ⟨List.mem_range.2 hi, by simpa using g⟩) hn)⟩ (fun i hi => by have := (List.mem_filter.1 hi).2; simp at this; omega)

/-- the writer: what it writes, the open ones, its text -/
structure WB (w : World) (wb B : Nat) (nv ov bv p : Value) (bs : List Nat) : Prop where
  blk : Blk w wb [nv, ov, p, bv] 54
  pp : p = .pointer none ∨ p = .pointer (some ⟨wb, 2, none⟩)
  row : RB w B bv bs
  bB : B ≤ wb
  sz : B ≤ w.heap.size
theorem under52 : Tryd.prog.underlying 49 = some (.pointer 52) := Tryd.underlying49
theorem info52 : ∃ j, Tryd.prog.info? 52 = some j ∧ j.size = 2 := by
  have : (Tryd.prog.info? 52).map (·.size) = some 2 := by kernel_rfl
  exact Option.map_eq_some_iff.1 this
theorem lies54 : liesAt Tryd.prog Tryd.prog.depth 54 (4 / Tryd.prog.cellsOf 54) 2 52 1 = true := by kernel_rfl
theorem WB.shape {w : World} {wb B : Nat} {nv ov bv p : Value} {bs : List Nat} (h : WB w wb B nv ov bv p bs) : w.shape? wb = some (54, 4) := by
  have hb := h.blk
  unfold Blk at hb
  simp [World.shape?, hb]

set_option maxRecDepth 100000 in
set_option maxHeartbeats 4000000 in
theorem copyCheck_c {w : World} {wb B : Nat} {nv ov bv p : Value} {bs : List Nat} (h : WB w wb B nv ov bv p bs) :
    Calls Tryd.prog 67 #[.pointer (some ⟨wb, 2, none⟩)] w fun e w' => e = .returned (.tuple #[]) ∧ WB w' wb B nv ov bv (.pointer (some ⟨wb, 2, none⟩)) bs ∧ Only [wb] w w' := by
  obtain ⟨j, hj, hjs⟩ := info52
  have c2 := h.blk.cell 2
  have f2 := h.blk.froz 2
  simp only [List.getElem?_cons_succ, List.getElem?_cons_zero] at c2
  rcases h.pp with rfl | rfl
  · have hs := h.shape
    have HW : Hid (WB (w.setCell ⟨wb, 2, none⟩ (.pointer (some ⟨wb, 2, none⟩))) wb B nv ov bv (.pointer (some ⟨wb, 2, none⟩)) bs) :=
      ⟨h.blk.set 2 _, .inr rfl, row_only h.row ((Only.refl [wb] w).set (.inl (by simp)) _) (fun b hb hm => by simp at hm; subst hm; exact row_not h.row h.blk (by decide) hb), h.bB, by simpa [World.setCell] using h.sz⟩
    have HO : Hid (Only [wb] w (w.setCell ⟨wb, 2, none⟩ (.pointer (some ⟨wb, 2, none⟩)))) := (Only.refl [wb] w).set (.inl (by simp)) _
    have k1 : (convert 49 92 (.pointer (some ⟨wb, 2, none⟩))).run Tryd.prog w = .ok (.pointer (some ⟨wb, 2, none⟩)) w := Lib.run_to_unsafe w ⟨wb, 2, none⟩ under52 Tryd.underlying92 hj (by rw [hjs]; decide) hs (by show 2 < 4; decide)
    have k2 : (convert 92 49 (.pointer (some ⟨wb, 2, none⟩))).run Tryd.prog w = .ok (.pointer (some ⟨wb, 2, none⟩)) w := Lib.run_from_unsafe w ⟨wb, 2, none⟩ Tryd.underlying92 under52 hj hs lies54
    clear h hs
    go_enter Tryd.func67, Tryd.ntmps67
    go_wp2
    rw [run_callFunc_extern Tryd.func76 (by kernel_rfl) (by kernel_rfl) (by kernel_rfl) (e := Extern.AbiNoEscape.same) (by kernel_rfl)]
    rw [Lib.run_noEscape]
    simp only [Result.andThen]
    rw [Oper.upon_value]
    go_wp2
    refine bodyPost_end (results_none (fn := Tryd.f67) rfl _ _ _) rfl ⟨rfl, HW.out, HO.out⟩
  · have HW := hid h
    have k3 := Lib.run_neq_ptr_same (P := Tryd.prog) w ⟨wb, 2, none⟩ under52 hj
    clear h
    go_enter Tryd.func67, Tryd.ntmps67
    go_wp2
    refine bodyPost_end (results_none (fn := Tryd.f67) rfl _ _ _) rfl ⟨rfl, HW.out, Only.refl _ _⟩

/-- behind a writing call -/
structure WPost (w w' : World) (wb B : Nat) (nv ov : Value) (bs : List Nat) : Prop where
  st : ∃ bv' p', WB w' wb B nv ov bv' p' bs
  fr : FrT [54, 5] B w w'
theorem wb_fr {w w' : World} {wb B : Nat} {nv ov bv p : Value} {bs : List Nat} (h : WB w wb B nv ov bv p bs) (k : Only (wb :: ob bv) w w') : FrT [54, 5] B w w' :=
  FrT.of k (fun b hb _ => by
    simp only [List.mem_cons, mem_ob] at hb
    rcases hb with rfl | hb
    · exact ⟨h.bB, 54, by simp, Ty.blk h.blk⟩
    · exact ⟨(row_ge h.row b hb).1, 5, by simp, Ty.row h.row hb⟩)
set_option maxRecDepth 100000 in
set_option maxHeartbeats 4000000 in
theorem writeString_c {w : World} {wb B : Nat} {nv ov bv p : Value} {bs : List Nat} (h : WB w wb B nv ov bv p bs) (s : ByteArray) (hlen : bs.length + s.size ≤ 35184372088832) :
    Calls Tryd.prog 49 #[.pointer (some ⟨wb, 2, none⟩), .string s] w fun e w' => e = .returned (.tuple #[.int .i64 s.size, .nilIface]) ∧ WPost w w' wb B nv ov (bs ++ bl s) := by
  obtain ⟨i5, hi5, z50, z51, z52⟩ := info_parts info5
  have HC := hid (copyCheck_c h)
  have HW0 := hid h
  have hm1 : bs.length + s.size ≤ maxLen := by unfold maxLen; omega
  have hm2 : bs.length + s.size ≤ 140737488355328 := by omega
  clear h
  go_enter Tryd.func49, Tryd.ntmps49
  go_wp2_with fail
  refine HC.out.mono ?_
  rintro e w1 ⟨rfl, hw1, ho1⟩
  obtain ⟨ad, cap, rfl, -, -⟩ := row_reads hw1.row
  have c3 := hw1.blk.cell 3
  have f3 := hw1.blk.froz 3
  simp only [List.getElem?_cons_succ, List.getElem?_cons_zero] at c3
  have HW1 := hid hw1
  have HO1 := hid ho1
  clear hw1 ho1
  go_wp2_with (at_builtin; refine Lib.wpList_append_own_string _ rfl _ _ 50 9 rfl B 5 i5 Tryd.underlying50 Tryd.underlying9 hi5 z50 z51 z52 (.slice ad bs.length cap) bs.length (u8s bs) (by rfl) ?qc1 s (by rfl) hm1 hm2 ?qc2 ?_)
  case qc1 => exact HW1.out.row
  case qc2 => exact HW1.out.sz
  intro v' w6 hown hgrow hnil
  obtain ⟨ad', cap', rfl, -, -⟩ := row_reads hown
  have hb6 : Blk w6 wb [nv, ov, .pointer (some ⟨wb, 2, none⟩), .slice ad bs.length cap] 54 := (hgrow.block wb HW1.out.blk.lt (fun e => row_not HW1.out.row HW1.out.blk (by decide) e.symm)).trans HW1.out.blk
  have c63 := hb6.cell 3
  have f63 := hb6.froz 3
  simp only [List.getElem?_cons_succ, List.getElem?_cons_zero] at c63
  have hr6 : RB w6 B (.slice ad' (bs.length + s.size) cap') (bs ++ bl s) := by
    unfold RB
    rw [strCells_bl, ← u8s_app] at hown
    rw [List.length_append, bl_length]
    exact hown
  have HR6 := hid hr6
  have HB6 := hid hb6
  have HG := hid hgrow
  clear hown hgrow hnil hb6 hr6
  go_wp2
  go_ret2
  have hset : Only [wb] w6 (w6.setCell ⟨wb, 3, none⟩ (.slice ad' (bs.length + s.size) cap')) := (Only.refl [wb] w6).set (.inl (by simp)) _
  refine ⟨rfl, ⟨_, _, ⟨HB6.out.set 3 _, .inr rfl, row_only HR6.out hset (fun b hb hm => by simp at hm; subst hm; exact row_not HR6.out HB6.out (by decide) hb), HW1.out.bB, ?_⟩⟩, ?_⟩
  · have := HG.out.size; have := HW1.out.sz; simp [World.setCell]; omega
  · refine wb_fr HW0.out ((HO1.out.mono (by intro k _ hm; simp at hm; simp [hm])).trans ((only_grow (w := w1) (Only.refl _ w1) HG.out (fun b hb => .inl (List.mem_cons_of_mem _ (mem_ob.2 hb)))).trans (hset.mono (by intro k _ hm; simp at hm; simp [hm]))))

set_option maxRecDepth 100000 in
set_option maxHeartbeats 4000000 in
theorem writeByte_c {w : World} {wb B : Nat} {nv ov bv p : Value} {bs : List Nat} (h : WB w wb B nv ov bv p bs) (c : Nat) (hlen : bs.length ≤ 35184372088832) :
    Calls Tryd.prog 70 #[.pointer (some ⟨wb, 2, none⟩), .int .u8 c] w fun e w' => e = .returned .nilIface ∧ WPost w w' wb B nv ov (bs ++ [c]) := by
  obtain ⟨i5, hi5, z50, z51, z52⟩ := info_parts info5
  have HC := hid (copyCheck_c h)
  have HW0 := hid h
  have hm1 : bs.length + 1 ≤ maxLen := by unfold maxLen; omega
  have hm2 : (bs.length + 1) * 1 ≤ 140737488355328 := by omega
  clear h
  go_enter Tryd.func70, Tryd.ntmps70
  go_wp2_with fail
  refine HC.out.mono ?_
  rintro e w1 ⟨rfl, hw1, ho1⟩
  obtain ⟨ad, cap, rfl, -, -⟩ := row_reads hw1.row
  have c3 := hw1.blk.cell 3
  have f3 := hw1.blk.froz 3
  simp only [List.getElem?_cons_succ, List.getElem?_cons_zero] at c3
  have hne : ¬ wb = w1.heap.size := by have := hw1.blk.lt; omega
  have HW1 := hid hw1
  have HO1 := hid ho1
  clear hw1 ho1
  go_wp2_with (at_builtin; refine wpList_append_sl _ rfl _ _ 50 rfl B 5 i5 _ 1 1 Tryd.underlying50 hi5 z50 z51 z52 rfl (by decide) (.slice ad bs.length cap) bs.length (u8s bs) (by rfl) ?qc1 (some ⟨w1.heap.size, 0, none⟩) 1 1 (u8s [c]) (by rfl) rfl ?qc2 ?qc3 hm1 hm2 ?qc4 ?_)
  case qc1 => exact row_only HW1.out.row ((Only.refl [] w1).alloc _) (by simp)
  case qc2 => exact sl_newest w1 (u8s [c]) 5 rfl
  case qc3 => intro u hu; simp [u8s] at hu; subst hu; rfl
  case qc4 => have := HW1.out.sz; simp; omega
  intro v' w6 hown hgrew
  obtain ⟨ad', cap', rfl, -, -⟩ := row_reads hown
  have hgrow := hgrew.grown
  have hb6 : Blk w6 wb [nv, ov, .pointer (some ⟨wb, 2, none⟩), .slice ad bs.length cap] 54 := (hgrow.block wb (by have := HW1.out.blk.lt; simp; omega) (fun e => row_not HW1.out.row HW1.out.blk (by decide) e.symm)).trans (HW1.out.blk.alloc _)
  have c63 := hb6.cell 3
  have f63 := hb6.froz 3
  simp only [List.getElem?_cons_succ, List.getElem?_cons_zero] at c63
  have hr6 : RB w6 B (.slice ad' (bs.length + 1) cap') (bs ++ [c]) := by
    unfold RB
    rw [u8s_app, List.length_append]
    exact hown
  have HR6 := hid hr6
  have HB6 := hid hb6
  have HG := hid hgrow
  clear hown hgrow hgrew hb6 hr6
  go_wp2
  go_ret
  have hset : Only [wb] w6 (w6.setCell ⟨wb, 3, none⟩ (.slice ad' (bs.length + 1) cap')) := (Only.refl [wb] w6).set (.inl (by simp)) _
  refine ⟨rfl, ⟨_, _, ⟨HB6.out.set 3 _, .inr rfl, row_only HR6.out hset (fun b hb hm => by simp at hm; subst hm; exact row_not HR6.out HB6.out (by decide) hb), HW1.out.bB, ?_⟩⟩, ?_⟩
  · have h1 := HG.out.size; have := HW1.out.sz; simp [World.setCell]; simp at h1; omega
  · refine wb_fr HW0.out ((HO1.out.mono (by intro k _ hm; simp at hm; simp [hm])).trans ((only_grow (w := w1) ((Only.refl _ w1).alloc _) HG.out (fun b hb => .inl (List.mem_cons_of_mem _ (mem_ob.2 hb)))).trans (hset.mono (by intro k _ hm; simp at hm; simp [hm]))))

set_option maxRecDepth 100000 in
set_option maxHeartbeats 4000000 in
/-- the text of a writer that has written -/
theorem string_c {w : World} {wb B : Nat} {nv ov bv p : Value} {bs : List Nat} (h : WB w wb B nv ov bv p bs) (h0 : bs ≠ []) (h256 : ∀ b ∈ bs, b < 256) (hlen : bs.length ≤ 35184372088832) :
    Calls Tryd.prog 30 #[.pointer (some ⟨wb, 2, none⟩)] w fun e w' => e = .returned (.string (strN bs)) ∧ Below B w w' := by
  have hl0 : bs.length ≠ 0 := by simpa using h0
  have hrow := h.row
  obtain ⟨g, cap, cur, rfl, hbg, hg, hnc, hcm, hcs, htk⟩ : ∃ (g cap : Nat) (cur : Array Value), bv = .slice (some ⟨g, 0, none⟩) bs.length cap ∧ B ≤ g ∧ w.heap[g]? = some (.cells cur 5 (0, 0)) ∧ bs.length ≤ cap ∧ cap ≤ maxLen ∧ cur.size = cap * 1 ∧ cur.toList.take (bs.length * 1) = u8s bs := by
    rcases hrow.2 with ⟨_, hz⟩ | ⟨g, cap, cur, hv, r⟩
    · exact absurd hz hl0
    · exact ⟨g, cap, cur, hv, r⟩
  have c3 : w.drew.cell? ⟨wb, 3, none⟩ = some (.slice (some ⟨g, 0, none⟩) bs.length cap) := h.blk.drew.cell 3
  have hSD : (Builtin.unsafeSliceData_ #[50] 74 #[.slice (some ⟨g, 0, none⟩) bs.length cap]).run Tryd.prog w.drew = .ok (.pointer (some ⟨g, 0, none⟩)) w.drew :=
    Lib.run_unsafeSliceData_row _ _ _ _ _ _ (by omega)
  have hbl : (bs.map UInt8.ofNat).length = bs.length := by simp
  have hUS : (Builtin.unsafeString_ #[74, 3] 9 #[.pointer (some ⟨g, 0, none⟩), .int .i64 bs.length]).run Tryd.prog w.drew = .ok (.string (strN bs)) (w.drew.freeze ⟨g, 0, none⟩ bs.length) := by
    have := Lib.run_unsafeString_row (P := Tryd.prog) (w := w.drew) 74 3 9 5 Tryd.underlying74 (by kernel_rfl) g cur.size (by have hg' : w.drew.heap[g]? = some (.cells cur 5 (0, 0)) := hg; simp [World.shape?, hg']) (bs.map UInt8.ofNat) (by simpa using h0) (by rw [hbl]; omega) (by rw [hbl]; unfold maxLen at hcm; omega) (by
      intro j x hx
      have hj : j < bs.length := by have := (List.getElem?_eq_some_iff.1 hx).1; rwa [hbl] at this
      rw [List.getElem?_map, List.getElem?_eq_getElem hj] at hx
      have hx2 := Option.some.inj hx
      have := hrow.cells (g := g) rfl j (.int .u8 x.toNat) (by
        unfold u8s
        rw [List.getElem?_map, List.getElem?_eq_getElem hj, ← hx2]
        have := h256 _ (List.getElem_mem hj)
        simp [UInt8.toNat_ofNat']
        omega)
      exact this)
    rw [hbl] at this
    exact this
  have HB : Hid (Below B w (w.drew.freeze ⟨g, 0, none⟩ bs.length)) := Lib.below_freeze (Below.drew (Below.refl B w)) (p := ⟨g, 0, none⟩) hbg _
  clear hrow h hbg hg hnc hcm hcs htk hl0 h0 h256
  go_enter Tryd.func30, Tryd.ntmps30
  go_wp2_with fail
  go_region
  all_goals (go_wp2; go_ret; exact ⟨rfl, HB.out⟩)
end Go.Proofs.YtmlhibcbgdhadaaDoor
