/- The reference's Put: the same bytes. -/
import Derived.Test.YtdinlaoimpoolaaRefPut0
import Derived.Test.YtdinlaoimpoolaaRefFirst
import Derived.Deep.Cut
import Derived.Deep.CutRange
namespace Go.Proofs.Ytdinlaoimpoolaa
open Go.RowKit

set_option maxRecDepth 100000 in
set_option maxHeartbeats 16000000 in
theorem refput_any (em : Int) (gs : List Gl) (ps : List Pr) (ag ap : Option Addr) (ca cb : Nat) (w : World) (hg : gs.length ≤ 9223372036854775807) (hp : ps.length ≤ 9223372036854775807) (sg : Sl w ag gs.length (gs.flatMap cg)) (sp : Sl w ap ps.length (ps.flatMap cp)) :
    Calls Try.prog 11 #[.agg #[.int .i64 em, .slice ag gs.length ca, .slice ap ps.length cb]] w fun e w' => Puts w w' em gs ps e := by
  have HSG := hid (fun X (h : Below w.heap.size w X) => sg.below h)
  have HSP := hid (fun X (h : Below w.heap.size w X) => sp.below h)
  have HNW := hid (fun X (h : Below w.heap.size w X) => refnew_any em gs ps ag ap ca cb X hg hp (HSG.out X h) (HSP.out X h))
  have HFI := hid (fun (h : verd em gs ps = 0) => fine_of h)
  have HBK : Hid (Blk (w.alloc (.cells #[.int .i64 em, .slice ag gs.length ca, .slice ap ps.length cb] 25)) w.heap.size [.int .i64 em, .slice ag gs.length ca, .slice ap ps.length cb] 25) := hid (Blk.new w _ 25 rfl)
  have HB1 : Hid (Below w.heap.size w (w.alloc (.cells #[.int .i64 em, .slice ag gs.length ca, .slice ap ps.length cb] 25))) := hid ((Below.refl _ w).alloc (Nat.le_refl _) _)
  obtain ⟨h, hh⟩ : ∃ h, w.heap.size = h := ⟨_, rfl⟩
  rw [hh] at HSG HSP HNW HBK HB1
  have HH := hid hh
  clear sg sp hg hp
  go_enter Try.func11, Try.ntmps11
  go_wp2_with fail
  obtain ⟨W1, hW1⟩ : ∃ W1, w.alloc (.cells #[.int .i64 em, .slice ag gs.length ca, .slice ap ps.length cb] 25) = W1 := ⟨_, rfl⟩
  rw [hW1] at HBK HB1 ⊢
  clear hW1 hh
  refine (HNW.out W1 HB1.out).mono ?_
  rintro e W2 ⟨hbad, hgood0, hb2⟩
  have HB2 : Hid (Below h w W2) := hid (HB1.out.trans (hb2.mono (by have := HB1.out.size; have := HH.out; omega)))
  have HF2 : Hid (Blk W2 h [.int .i64 em, .slice ag gs.length ca, .slice ap ps.length cb] 25) := hid (HBK.out.below hb2)
  clear hb2
  by_cases hv : verd em gs ps = 0
  · obtain ⟨a0, ag', ca', ap', cb', rfl, _⟩ := hgood0 hv
    have HV := hid hv
    have HFN := hid (HFI.out hv)
    clear hbad hgood0 hv HFI HNW
    obtain ⟨en, hen⟩ : ∃ en : Nat, em = (en : Int) := ⟨em.toNat, by have := HFN.out.em; omega⟩
    have HEN := hid hen
    clear hen
    have hcv := Lib.run_convert_bytes_const (P := Try.prog) W2 56 5 #[.int .u8 80, .int .u8 70, .int .u8 49] 3 3 Try.underlying56 Try.underlying5
    have HW2 : Hid (W2.heap.size < (W2.alloc (.cells #[.int .u8 80, .int .u8 70, .int .u8 49] 5 (3, 4))).heap.size ∧ ∀ j u, (u8s PF)[j]? = some u → (W2.alloc (.cells #[.int .u8 80, .int .u8 70, .int .u8 49] 5 (3, 4))).cell? ⟨W2.heap.size, j, none⟩ = some u) := hid ⟨by simp, fun j u hj => (World.cell?_alloc_mark W2 #[.int .u8 80, .int .u8 70, .int .u8 49] 5 (3, 4) j).trans (by
      rw [← hj, ← Array.getElem?_toList]; rfl)⟩
    have HF3 : Hid (Blk (W2.alloc (.cells #[.int .u8 80, .int .u8 70, .int .u8 49] 5 (3, 4))) h [.int .i64 em, .slice ag gs.length ca, .slice ap ps.length cb] 25) := hid (HF2.out.alloc _)
    have HB3 : Hid (Below h w (W2.alloc (.cells #[.int .u8 80, .int .u8 70, .int .u8 49] 5 (3, 4)))) := hid (HB2.out.alloc (Nat.le_of_lt HF2.out.lt) _)
    have c0 : (W2.alloc (.cells #[.int .u8 80, .int .u8 70, .int .u8 49] 5 (3, 4))).cell? ⟨h, 0, none⟩ = some (.int .i64 en) := by
      rw [← HEN.out]; exact HF3.out.cell 0
    have HEN2 : Hid (en ≤ 4294967295) := hid (by have := HFN.out.em; have := HEN.out; omega)
    have l1 : (gs.length : Int) ≤ 1024 := by have := HFN.out.gl; omega
    have l2 : (ps.length : Int) ≤ 4096 := by have := HFN.out.pl; omega
    go_wp2_with fail
    obtain ⟨W3, hW3⟩ : ∃ W3, W2.alloc (.cells #[.int .u8 80, .int .u8 70, .int .u8 49] 5 (3, 4)) = W3 := ⟨_, rfl⟩
    rw [hW3] at HW2 HF3 HB3 ⊢
    clear hW3 hcv c0 HF2 HB2
    refine (laid_first W2.heap.size 3 en 2 PF W3 rfl (by decide) HEN2.out (by decide) (by decide) HW2.out).mono ?_
    rintro e W4 ⟨v4, rfl, hw4, hg4⟩
    have HF4 := hid (HF3.out.below hg4)
    have HB4 := hid (HB3.out.trans (hg4.mono (Nat.le_of_lt HF3.out.lt)))
    have HW4 : Hid (Rw h W4 v4 (PF ++ be 2 en)) := hid (by
      have := own_le hw4 (Nat.le_of_lt HF3.out.lt)
      unfold Rw
      rw [List.length_append, be_len]
      exact this)
    clear hw4 hg4 HF3 HB3 HW2
    have c1 : W4.cell? ⟨h, 1, none⟩ = some (.slice ag gs.length ca) := HF4.out.cell 1
    go_wp2_with fail
    refine (laid_rw h gs.length 2 v4 _ W4 HW4.out (by simp [PF, be_len]) (by have := HFN.out.gl; omega) (by decide) (Nat.le_of_lt HF4.out.lt)).mono ?_
    rintro e W5 ⟨v5, rfl, hw5, hg5⟩
    have HF5 := hid (blk_grown HF4.out hg5 (own_ne HW4.out HF4.out (by decide)))
    have HB5 := hid (below_rw HB4.out HW4.out hg5 (Nat.le_of_lt HF4.out.lt))
    obtain ⟨B0, hB0⟩ : ∃ B0, PF ++ be 2 en ++ be 2 gs.length = B0 := ⟨_, rfl⟩
    rw [hB0] at hw5
    have HB0 : Hid (B0 = PF ++ (be 2 en ++ be 2 gs.length)) := hid (by rw [← hB0, List.append_assoc])
    have HBL : Hid (B0.length = 7) := hid (by rw [HB0.out]; simp only [PF, List.length_append, be_len, List.length_cons, List.length_nil])
    have HW5 := hid hw5
    clear hw5 hg5 HF4 HB4 HW4 c1 hB0
    go_wp2_with fail
    go_loopw [6, 7] (fun vb vi wr => ∃ (k : Nat), vi = .int .i64 k ∧ k ≤ gs.length ∧ Rw h wr vb (B0 ++ (gs.take k).flatMap gb) ∧ Blk wr h [.int .i64 em, .slice ag gs.length ca, .slice ap ps.length cb] 25 ∧ Below h w wr) (fun _ vi _ => gs.length - (RowKit.intOf vi).toNat)
    case atStart => exact ⟨0, rfl, Nat.zero_le _, by simpa using HW5.out, HF5.out, HB5.out⟩
    case round =>
      obtain ⟨k, rfl, hk, hrw, hbk, hbl⟩ := hrel
      have HRW0 := hid hrw
      have HBK1 := hid hbk
      have HBW := hid hbl
      have c1 : wr.cell? ⟨h, 1, none⟩ = some (.slice ag gs.length ca) := HBK1.out.cell 1
      clear hrw hbk hbl HW5 HF5 HB5
      by_cases hlt : k < gs.length
      · obtain ⟨g, hg⟩ := some_at hlt
        have HG := hid hg
        have hsl := HSG.out wr HBW.out
        obtain ⟨bg, off, rfl, hbl, hga⟩ := hsl.glyph hg
        obtain ⟨g0, g1, g2, g3⟩ := hga
        have hfg := HFN.out.g g (List.mem_of_getElem? hg)
        have hkl : (k : Int) < (gs.length : Int) := by omega
        have hk0 : (0 : Int) ≤ (k : Int) := by omega
        have HKL := hid hlt
        obtain ⟨x0, x1, x2, x3⟩ := g
        simp only at g0 g1 g2 g3 hfg
        obtain ⟨q0, q1, q2, q3⟩ := hfg
        obtain ⟨n0, rfl⟩ : ∃ n : Nat, x0 = (n : Int) := ⟨x0.toNat, by omega⟩
        obtain ⟨n1, rfl⟩ : ∃ n : Nat, x1 = (n : Int) := ⟨x1.toNat, by omega⟩
        obtain ⟨n2, rfl⟩ : ∃ n : Nat, x2 = (n : Int) := ⟨x2.toNat, by omega⟩
        obtain ⟨n3, rfl⟩ : ∃ n : Nat, x3 = (n : Int) := ⟨x3.toNat, by omega⟩
        have HQ : Hid (n0 < 4294967296 ∧ n1 < 4294967296 ∧ n2 < 4294967296 ∧ n3 < 4294967296) := hid (by omega)
        obtain ⟨BB, hBB⟩ : ∃ BB, B0 ++ (gs.take k).flatMap gb = BB := ⟨_, rfl⟩
        have HT : Hid (B0 ++ (gs.take (k + 1)).flatMap gb = BB ++ be 3 n0 ++ be 2 n1 ++ be 2 n2 ++ be 2 n3) := hid (by
          rw [← hBB, List.take_add_one, HG.out, List.flatMap_append]
          simp [gb])
        have HLN : Hid (BB.length + 9 ≤ 1000000) := hid (by
          have := HFN.out.gl
          rw [← hBB, List.length_append, HBL.out, gbs_len, List.length_take]; omega)
        rw [hBB] at HRW0
        clear hg hsl hbl hlt q0 q1 q2 q3 hBB
        go_wp2_with fail
        have HRW : Hid (Rw h (wr.alloc (.cells #[.int .i64 n0, .int .i64 n1, .int .i64 n2, .int .i64 n3] 33)).drew u6 BB) := hid (HRW0.out.alloc _)
        have HPK : Hid (Pk w h wr.heap.size [.int .i64 em, .slice (some ⟨bg, off, none⟩) gs.length ca, .slice ap ps.length cb] [.int .i64 n0, .int .i64 n1, .int .i64 n2, .int .i64 n3] 33 (wr.alloc (.cells #[.int .i64 n0, .int .i64 n1, .int .i64 n2, .int .i64 n3] 33)).drew) :=
          hid ⟨(HBW.out.alloc (Nat.le_of_lt HBK1.out.lt) _).drew, HBK1.out.alloc _, Blk.new wr _ 33 rfl⟩
        obtain ⟨V1, hV1⟩ : ∃ V1, wr.alloc (.cells #[.int .i64 n0, .int .i64 n1, .int .i64 n2, .int .i64 n3] 33) = V1 := ⟨_, rfl⟩
        obtain ⟨d, hd⟩ : ∃ d, wr.heap.size = d := ⟨_, rfl⟩
        rw [hV1] at HRW HPK ⊢
        rw [hd] at HPK ⊢
        clear hV1 hd g0 g1 g2 g3 c1 HRW0 HBK1 HBW

        refine call_chain (C := ⟨_, _, 4, fun i => ([3, 6, 9, 12] : List Nat).getD i 0, 13, fun i => ([some (u6), some (.pointer (some ⟨d, 0, none⟩)), some (.int .i64 n0), none, some (.pointer (some ⟨d, 1, none⟩)), some (.int .i64 n1), none, some (.pointer (some ⟨d, 2, none⟩)), some (.int .i64 n2), none, some (.pointer (some ⟨d, 3, none⟩)), some (.int .i64 n3), none, none] : List (Option Value)).getD i none⟩) (Pk w h d [.int .i64 em, .slice (some ⟨bg, off, none⟩) gs.length ca, .slice ap ps.length cb] [.int .i64 n0, .int .i64 n1, .int .i64 n2, .int .i64 n3] 33) (fun j X u => Rw h X u (([BB, BB ++ be 3 n0, BB ++ be 3 n0 ++ be 2 n1, BB ++ be 3 n0 ++ be 2 n1 ++ be 2 n2, BB ++ be 3 n0 ++ be 2 n1 ++ be 2 n2 ++ be 2 n3] : List (List Nat)).getD j [])) u6
          (by kernel_rfl) (by kernel_rfl) (by kernel_rfl) (show 0 < 4 by decide) HPK.out HRW.out (by kernel_rfl) (by kernel_rfl) (by kernel_rfl) rfl ?hcall _ 53 6 rfl ⟨rfl, rfl, rfl⟩ rfl (by kernel_rfl) ?hp [6, 41, 42, 43, 44, 45, 46, 47, 48, 49, 50, 51, 52, 53] (by kernel_rfl) ?he
        case hcall =>
          intro j hj
          rcases j with _ | _ | _ | _ | j
          · refine ⟨_, rfl, rfl, fun h => absurd h (by decide), fun a X u hK hS hr hh h0 hl => ?_⟩
            obtain rfl := h0 rfl
            refine ⟨27, _, run_call27 rfl ((hh 0 _ (by kernel_rfl) rfl).only rfl rfl) ((hh 2 _ (by kernel_rfl) rfl).only rfl rfl), (laid_rw h n0 3 _ _ X hS (by have := HLN.out; simp only [List.getD_cons_zero]; omega) (by have := HQ.out; omega) (by decide) (Nat.le_of_lt hK.fb.lt)).mono ?_⟩
            rintro e X' ⟨u', rfl, hw', hg⟩
            exact ⟨u', rfl, hK.next (by decide) hS hg, hw'⟩
          · refine ⟨_, rfl, rfl, fun h => by kernel_rfl, fun a X u hK hS hr hh h0 hl => ?_⟩
            refine ⟨27, _, run_call27 rfl ((hl 0 rfl).only rfl rfl) ((hh 5 _ (by kernel_rfl) rfl).only rfl rfl), (laid_rw h n1 2 _ _ X hS (by have := HLN.out; simp only [List.getD_cons_zero, List.getD_cons_succ, List.length_append, be_len]; omega) (by have := HQ.out; omega) (by decide) (Nat.le_of_lt hK.fb.lt)).mono ?_⟩
            rintro e X' ⟨u', rfl, hw', hg⟩
            exact ⟨u', rfl, hK.next (by decide) hS hg, hw'⟩
          · refine ⟨_, rfl, rfl, fun h => by kernel_rfl, fun a X u hK hS hr hh h0 hl => ?_⟩
            refine ⟨27, _, run_call27 rfl ((hl 1 rfl).only rfl rfl) ((hh 8 _ (by kernel_rfl) rfl).only rfl rfl), (laid_rw h n2 2 _ _ X hS (by have := HLN.out; simp only [List.getD_cons_zero, List.getD_cons_succ, List.length_append, be_len]; omega) (by have := HQ.out; omega) (by decide) (Nat.le_of_lt hK.fb.lt)).mono ?_⟩
            rintro e X' ⟨u', rfl, hw', hg⟩
            exact ⟨u', rfl, hK.next (by decide) hS hg, hw'⟩
          · refine ⟨_, rfl, rfl, fun h => by kernel_rfl, fun a X u hK hS hr hh h0 hl => ?_⟩
            refine ⟨27, _, run_call27 rfl ((hl 2 rfl).only rfl rfl) ((hh 11 _ (by kernel_rfl) rfl).only rfl rfl), (laid_rw h n3 2 _ _ X hS (by have := HLN.out; simp only [List.getD_cons_zero, List.getD_cons_succ, List.length_append, be_len]; omega) (by have := HQ.out; omega) (by decide) (Nat.le_of_lt hK.fb.lt)).mono ?_⟩
            rintro e X' ⟨u', rfl, hw', hg⟩
            exact ⟨u', rfl, hK.next (by decide) hS hg, hw'⟩
          · exact absurd (show j + 4 < 4 from hj) (by omega)
        case hp =>
          intro i o ho
          rcases i with _ | _ | _ | _ | _ | _ | _ | _ | _ | _ | _ | _ | _ | _ | i
          · cases ho
            refine .inr (.inr ⟨rfl, _, rfl, fun a X hK hr hh hpre => ?_⟩)
            exact run_move rfl (eval_tmp (hpre (by kernel_rfl)))
          · cases ho
            refine .inr (.inr ⟨rfl, _, rfl, fun a X hK hr hh hpre => ?_⟩)
            exact run_fa33_0 rfl (eval_tmp (hr.2.2 8 (by kernel_rfl)))
          · cases ho
            refine .inr (.inr ⟨rfl, _, rfl, fun a X hK hr hh hpre => ?_⟩)
            exact run_load3 rfl ((hh 1 _ (by kernel_rfl) rfl).only rfl rfl) (hK.gb.cell 0)
          · exact .inl ⟨0, show 0 < 4 by decide, rfl⟩
          · cases ho
            refine .inr (.inr ⟨rfl, _, rfl, fun a X hK hr hh hpre => ?_⟩)
            exact run_fa33_1 rfl (eval_tmp (hr.2.2 8 (by kernel_rfl)))
          · cases ho
            refine .inr (.inr ⟨rfl, _, rfl, fun a X hK hr hh hpre => ?_⟩)
            exact run_load3 rfl ((hh 4 _ (by kernel_rfl) rfl).only rfl rfl) (hK.gb.cell 1)
          · exact .inl ⟨1, show 1 < 4 by decide, rfl⟩
          · cases ho
            refine .inr (.inr ⟨rfl, _, rfl, fun a X hK hr hh hpre => ?_⟩)
            exact run_fa33_2 rfl (eval_tmp (hr.2.2 8 (by kernel_rfl)))
          · cases ho
            refine .inr (.inr ⟨rfl, _, rfl, fun a X hK hr hh hpre => ?_⟩)
            exact run_load3 rfl ((hh 7 _ (by kernel_rfl) rfl).only rfl rfl) (hK.gb.cell 2)
          · exact .inl ⟨2, show 2 < 4 by decide, rfl⟩
          · cases ho
            refine .inr (.inr ⟨rfl, _, rfl, fun a X hK hr hh hpre => ?_⟩)
            exact run_fa33_3 rfl (eval_tmp (hr.2.2 8 (by kernel_rfl)))
          · cases ho
            refine .inr (.inr ⟨rfl, _, rfl, fun a X hK hr hh hpre => ?_⟩)
            exact run_load3 rfl ((hh 10 _ (by kernel_rfl) rfl).only rfl rfl) (hK.gb.cell 3)
          · exact .inl ⟨3, show 3 < 4 by decide, rfl⟩
          · exact .inr (.inl rfl)
          · cases ho
        case he =>
          intro us wx u hK hS hu
          have HK := hid hK
          have HS' := hid hS
          clear hK hS
          dsimp only
          simp only [List.foldl_cons, List.foldl_nil, List.setIfInBounds_toArray, List.set_cons_succ, List.set_cons_zero]
          rw [hu]
          generalize us 41 = u41 at *; generalize us 42 = u42 at *; generalize us 43 = u43 at *; generalize us 44 = u44 at *; generalize us 45 = u45 at *; generalize us 46 = u46 at *; generalize us 47 = u47 at *; generalize us 48 = u48 at *; generalize us 49 = u49 at *; generalize us 50 = u50 at *; generalize us 51 = u51 at *; generalize us 52 = u52 at *; generalize us 53 = u53 at *
          go_wp2_with fail
          go_roundw
          case rel => exact ⟨k + 1, by go_num, by have := HKL.out; omega, by rw [HT.out]; exact HS'.out, HK.out.fb, HK.out.bel⟩
          case measure => have := HKL.out; simp [RowKit.intOf]; omega
      · obtain rfl : k = gs.length := by omega
        have hkl : ¬ (gs.length : Int) < (gs.length : Int) := by omega
        rw [List.take_of_length_le (Nat.le_refl _)] at HRW0
        have c2 : wr.cell? ⟨h, 2, none⟩ = some (.slice ap ps.length cb) := HBK1.out.cell 2
        clear hlt hk
        go_wp2_with fail
        refine (laid_rw h ps.length 2 u6 _ wr HRW0.out (by have := HFN.out.gl; rw [List.length_append, HBL.out, gbs_len]; omega) (by have := HFN.out.pl; omega) (by decide) (Nat.le_of_lt HBK1.out.lt)).mono ?_
        rintro e W6 ⟨v6, rfl, hw6, hg6⟩
        have HF6 := hid (blk_grown HBK1.out hg6 (own_ne HRW0.out HBK1.out (by decide)))
        have HB6 := hid (below_rw HBW.out HRW0.out hg6 (Nat.le_of_lt HBK1.out.lt))
        obtain ⟨B1, hB1⟩ : ∃ B1, B0 ++ gs.flatMap gb ++ be 2 ps.length = B1 := ⟨_, rfl⟩
        rw [hB1] at hw6
        have HB1' : Hid (B1 = B0 ++ gs.flatMap gb ++ be 2 ps.length) := hid hB1.symm
        have HB1L : Hid (B1.length = 9 + 9 * gs.length) := hid (by rw [HB1'.out, List.length_append, List.length_append, HBL.out, gbs_len, be_len]; omega)
        have HW6 := hid hw6
        clear hw6 hg6 HRW0 HBK1 HBW c1 c2 hB1 hkl
        go_wp2_with fail
        go_loopw [6, 9] (fun vb vi wr => ∃ (k : Nat), vi = .int .i64 k ∧ k ≤ ps.length ∧ Rw h wr vb (B1 ++ (ps.take k).flatMap pb) ∧ Blk wr h [.int .i64 em, .slice ag gs.length ca, .slice ap ps.length cb] 25 ∧ Below h w wr) (fun _ vi _ => ps.length - (RowKit.intOf vi).toNat)
        case atStart => exact ⟨0, rfl, Nat.zero_le _, by simpa using HW6.out, HF6.out, HB6.out⟩
        case round =>
          obtain ⟨k, rfl, hk, hrw, hbk, hbl⟩ := hrel
          have HRW0 := hid hrw
          have HBK1 := hid hbk
          have HBW := hid hbl
          have c1 : wr.cell? ⟨h, 2, none⟩ = some (.slice ap ps.length cb) := HBK1.out.cell 2
          clear hrw hbk hbl HW6 HF6 HB6
          by_cases hlt : k < ps.length
          · obtain ⟨q, hq⟩ := some_at hlt
            have HG := hid hq
            have hsl := HSP.out wr HBW.out
            obtain ⟨bg, off, rfl, hbl, hqa⟩ := hsl.pair hq
            obtain ⟨g0, g1, g2, g3, g4⟩ := hqa
            have hfq := HFN.out.p q (List.mem_of_getElem? hq)
            have hkl : (k : Int) < (ps.length : Int) := by omega
            have hk0 : (0 : Int) ≤ (k : Int) := by omega
            have HKL := hid hlt
            obtain ⟨x0, x1, x2, x3, x4⟩ := q
            simp only at g0 g1 g2 g3 g4 hfq
            obtain ⟨q0, q1, q2, q3⟩ := hfq
            obtain ⟨n0, rfl⟩ : ∃ n : Nat, x0 = (n : Int) := ⟨x0.toNat, by omega⟩
            obtain ⟨n1, rfl⟩ : ∃ n : Nat, x1 = (n : Int) := ⟨x1.toNat, by omega⟩
            obtain ⟨n3, rfl⟩ : ∃ n : Nat, x3 = (n : Int) := ⟨x3.toNat, by omega⟩
            obtain ⟨n4, hn4⟩ : ∃ n : Nat, x4 + 32768 = (n : Int) := ⟨(x4 + 32768).toNat, by omega⟩
            have HN4 := hid hn4
            have HQ : Hid (n0 < 4294967296 ∧ n1 < 4294967296 ∧ n3 < 4294967296 ∧ n4 < 4294967296) := hid (by omega)
            have hk4 : x4 ≤ 65535 := by omega
            have hk5 : -32768 ≤ x4 := by omega
            obtain ⟨BB, hBB⟩ : ∃ BB, B1 ++ (ps.take k).flatMap pb = BB := ⟨_, rfl⟩
            have HT0 : Hid (B1 ++ (ps.take (k + 1)).flatMap pb = BB ++ pb ((n0 : Int), (n1 : Int), x2, (n3 : Int), x4)) := hid (by
              rw [← hBB, List.take_add_one, HG.out, List.flatMap_append]
              simp)
            have HE : Hid (pb ((n0 : Int), (n1 : Int), x2, (n3 : Int), x4) = be 3 n0 ++ (be 3 n1 ++ (if x2 = true then be 1 1 ++ be 3 n3 else be 1 2 ++ be 2 n4))) := hid (by
              simp only [pb, Int.toNat_natCast]
              rw [hn4, Int.toNat_natCast])
            have HLN : Hid (BB.length + 10 ≤ 1000000) := hid (by
              have h1 := HFN.out.gl
              have h2 := HFN.out.pl
              have h3 := pbs_len (ps.take k)
              rw [List.length_take] at h3
              rw [← hBB, List.length_append, HB1L.out]; omega)
            rw [hBB] at HRW0
            clear hq hsl hbl hlt q0 q1 q2 q3 hBB hn4
            rcases x2 with _ | _
            all_goals (
              go_wp2_with fail)

            · have HT : Hid (B1 ++ (ps.take (k + 1)).flatMap pb = BB ++ be 3 n0 ++ be 3 n1 ++ be 1 2 ++ be 2 n4) := hid (by
                rw [HT0.out, HE.out]; simp [List.append_assoc])
              have HRW : Hid (Rw h (wr.alloc (.cells #[.int .i64 n0, .int .i64 n1, .bool false, .int .i64 n3, .int .i64 x4] 35)).drew u6 BB) := hid (HRW0.out.alloc _)
              have HPK : Hid (Pk w h wr.heap.size [.int .i64 em, .slice ag gs.length ca, .slice (some ⟨bg, off, none⟩) ps.length cb] [.int .i64 n0, .int .i64 n1, .bool false, .int .i64 n3, .int .i64 x4] 35 (wr.alloc (.cells #[.int .i64 n0, .int .i64 n1, .bool false, .int .i64 n3, .int .i64 x4] 35)).drew) :=
                hid ⟨(HBW.out.alloc (Nat.le_of_lt HBK1.out.lt) _).drew, HBK1.out.alloc _, Blk.new wr _ 35 rfl⟩
              obtain ⟨V1, hV1⟩ : ∃ V1, wr.alloc (.cells #[.int .i64 n0, .int .i64 n1, .bool false, .int .i64 n3, .int .i64 x4] 35) = V1 := ⟨_, rfl⟩
              obtain ⟨d, hd⟩ : ∃ d, wr.heap.size = d := ⟨_, rfl⟩
              rw [hV1] at HRW HPK ⊢
              rw [hd] at HPK ⊢
              clear hV1 hd g0 g1 g2 g3 g4 c1 HRW0 HBK1 HBW HT0 HE
              refine call_chain (C := ⟨_, _, 2, fun i => ([3, 6] : List Nat).getD i 0, 7, fun i => ([some (u6), some (.pointer (some ⟨d, 0, none⟩)), some (.int .i64 n0), none, some (.pointer (some ⟨d, 1, none⟩)), some (.int .i64 n1), none, none] : List (Option Value)).getD i none⟩) (Pk w h d [.int .i64 em, .slice ag gs.length ca, .slice (some ⟨bg, off, none⟩) ps.length cb] [.int .i64 n0, .int .i64 n1, .bool false, .int .i64 n3, .int .i64 x4] 35) (fun j X u => Rw h X u (([BB, BB ++ be 3 n0, BB ++ be 3 n0 ++ be 3 n1] : List (List Nat)).getD j [])) u6
                (by kernel_rfl) (by kernel_rfl) (by kernel_rfl) (show 0 < 2 by decide) HPK.out HRW.out (by kernel_rfl) (by kernel_rfl) (by kernel_rfl) rfl ?hcall _ 77 6 rfl ⟨rfl, rfl, rfl⟩ rfl (by kernel_rfl) ?hp [6, 71, 72, 73, 74, 75, 76, 77] (by kernel_rfl) ?he
              case hcall =>
                intro j hj
                rcases j with _ | _ | j
                · refine ⟨_, rfl, rfl, fun h => absurd h (by decide), fun a X u hK hS hr hh h0 hl => ?_⟩
                  obtain rfl := h0 rfl
                  refine ⟨27, _, run_call27 rfl ((hh 0 _ (by kernel_rfl) rfl).only rfl rfl) ((hh 2 _ (by kernel_rfl) rfl).only rfl rfl), (laid_rw h n0 3 _ _ X hS (by have := HLN.out; simp only [List.getD_cons_zero]; omega) (by have := HQ.out; omega) (by decide) (Nat.le_of_lt hK.fb.lt)).mono ?_⟩
                  rintro e X' ⟨u', rfl, hw', hg⟩
                  exact ⟨u', rfl, hK.next (by decide) hS hg, hw'⟩
                · refine ⟨_, rfl, rfl, fun h => by kernel_rfl, fun a X u hK hS hr hh h0 hl => ?_⟩
                  refine ⟨27, _, run_call27 rfl ((hl 0 rfl).only rfl rfl) ((hh 5 _ (by kernel_rfl) rfl).only rfl rfl), (laid_rw h n1 3 _ _ X hS (by have := HLN.out; simp only [List.getD_cons_zero, List.getD_cons_succ, List.length_append, be_len]; omega) (by have := HQ.out; omega) (by decide) (Nat.le_of_lt hK.fb.lt)).mono ?_⟩
                  rintro e X' ⟨u', rfl, hw', hg⟩
                  exact ⟨u', rfl, hK.next (by decide) hS hg, hw'⟩
                · exact absurd (show j + 2 < 2 from hj) (by omega)
              case hp =>
                intro i o ho
                rcases i with _ | _ | _ | _ | _ | _ | _ | _ | i
                · cases ho
                  refine .inr (.inr ⟨rfl, _, rfl, fun a X hK hr hh hpre => ?_⟩)
                  exact run_move rfl (eval_tmp (hpre (by kernel_rfl)))
                · cases ho
                  refine .inr (.inr ⟨rfl, _, rfl, fun a X hK hr hh hpre => ?_⟩)
                  exact run_fa35_0 rfl (eval_tmp (hr.2.2 10 (by kernel_rfl)))
                · cases ho
                  refine .inr (.inr ⟨rfl, _, rfl, fun a X hK hr hh hpre => ?_⟩)
                  exact run_load3 rfl ((hh 1 _ (by kernel_rfl) rfl).only rfl rfl) (hK.gb.cell 0)
                · exact .inl ⟨0, show 0 < 2 by decide, rfl⟩
                · cases ho
                  refine .inr (.inr ⟨rfl, _, rfl, fun a X hK hr hh hpre => ?_⟩)
                  exact run_fa35_1 rfl (eval_tmp (hr.2.2 10 (by kernel_rfl)))
                · cases ho
                  refine .inr (.inr ⟨rfl, _, rfl, fun a X hK hr hh hpre => ?_⟩)
                  exact run_load3 rfl ((hh 4 _ (by kernel_rfl) rfl).only rfl rfl) (hK.gb.cell 1)
                · exact .inl ⟨1, show 1 < 2 by decide, rfl⟩
                · exact .inr (.inl rfl)
                · cases ho
              case he =>
                intro us wx u hK hS hu
                have HK := hid hK
                have HS' := hid hS
                clear hK hS
                dsimp only
                simp only [List.foldl_cons, List.foldl_nil, List.setIfInBounds_toArray, List.set_cons_succ, List.set_cons_zero]
                rw [hu]
                generalize us 71 = u71 at *; generalize us 72 = u72 at *; generalize us 73 = u73 at *; generalize us 74 = u74 at *; generalize us 75 = u75 at *; generalize us 76 = u76 at *; generalize us 77 = u77 at *
                obtain ⟨BB2, hBB2⟩ : ∃ BB2, BB ++ be 3 n0 ++ be 3 n1 = BB2 := ⟨_, rfl⟩
                have HRW2 : Hid (Rw h wx.drew u BB2) := hid (by rw [← hBB2]; exact HS'.out)
                have HPK2 := hid HK.out.drew
                have HLN2 : Hid (BB2.length + 4 ≤ 1000000) := hid (by have := HLN.out; rw [← hBB2]; simp only [List.length_append, be_len]; omega)
                rw [hBB2] at HT
                clear hBB2 HS'
                have c2 : wx.cell? ⟨d, 2, none⟩ = some (.bool false) := HK.out.gb.cell 2
                go_wp2_with fail
                refine call_chain (C := ⟨_, _, 2, fun i => ([1, 5] : List Nat).getD i 0, 6, fun i => ([some (u), none, some (.pointer (some ⟨d, 4, none⟩)), some (.int .i64 x4), some (.int .i64 n4), none, none] : List (Option Value)).getD i none⟩) (Pk w h d [.int .i64 em, .slice ag gs.length ca, .slice (some ⟨bg, off, none⟩) ps.length cb] [.int .i64 n0, .int .i64 n1, .bool false, .int .i64 n3, .int .i64 x4] 35) (fun j X u => Rw h X u (([BB2, BB2 ++ be 1 2, BB2 ++ be 1 2 ++ be 2 n4] : List (List Nat)).getD j [])) u
                  (by kernel_rfl) (by kernel_rfl) (by kernel_rfl) (show 0 < 2 by decide) HPK2.out HRW2.out (by kernel_rfl) (by kernel_rfl) (by kernel_rfl) rfl ?hcall _ 90 6 rfl ⟨rfl, rfl, rfl⟩ rfl (by kernel_rfl) ?hp [6, 85, 86, 87, 88, 89, 90] (by kernel_rfl) ?he
                case hcall =>
                  intro j hj
                  rcases j with _ | _ | j
                  · refine ⟨_, rfl, rfl, fun h => absurd h (by decide), fun a X u hK hS hr hh h0 hl => ?_⟩
                    obtain rfl := h0 rfl
                    refine ⟨27, _, run_call27 rfl ((hh 0 _ (by kernel_rfl) rfl).only rfl rfl) rfl, (laid_rw h 2 1 _ _ X hS (by have := HLN2.out; simp only [List.getD_cons_zero]; omega) (by decide) (by decide) (Nat.le_of_lt hK.fb.lt)).mono ?_⟩
                    rintro e X' ⟨u', rfl, hw', hg⟩
                    exact ⟨u', rfl, hK.next (by decide) hS hg, hw'⟩
                  · refine ⟨_, rfl, rfl, fun h => by kernel_rfl, fun a X u hK hS hr hh h0 hl => ?_⟩
                    refine ⟨27, _, run_call27 rfl ((hl 0 rfl).only rfl rfl) ((hh 4 _ (by kernel_rfl) rfl).only rfl rfl), (laid_rw h n4 2 _ _ X hS (by have := HLN2.out; simp only [List.getD_cons_zero, List.getD_cons_succ, List.length_append, be_len]; omega) (by have := HQ.out; omega) (by decide) (Nat.le_of_lt hK.fb.lt)).mono ?_⟩
                    rintro e X' ⟨u', rfl, hw', hg⟩
                    exact ⟨u', rfl, hK.next (by decide) hS hg, hw'⟩
                  · exact absurd (show j + 2 < 2 from hj) (by omega)
                case hp =>
                  intro i o ho
                  rcases i with _ | _ | _ | _ | _ | _ | _ | i
                  · cases ho
                    refine .inr (.inr ⟨rfl, _, rfl, fun a X hK hr hh hpre => ?_⟩)
                    exact run_move rfl (eval_tmp (hpre (by kernel_rfl)))
                  · exact .inl ⟨0, show 0 < 2 by decide, rfl⟩
                  · cases ho
                    refine .inr (.inr ⟨rfl, _, rfl, fun a X hK hr hh hpre => ?_⟩)
                    exact run_fa35_4 rfl (eval_tmp (hr.2.2 10 (by kernel_rfl)))
                  · cases ho
                    refine .inr (.inr ⟨rfl, _, rfl, fun a X hK hr hh hpre => ?_⟩)
                    exact run_load3 rfl ((hh 2 _ (by kernel_rfl) rfl).only rfl rfl) (hK.gb.cell 4)
                  · cases ho
                    refine .inr (.inr ⟨rfl, _, rfl, fun a X hK hr hh hpre => ?_⟩)
                    exact run_kern rfl ((hh 3 _ (by kernel_rfl) rfl).only rfl rfl) HN4.out (by have := HQ.out; omega)
                  · exact .inl ⟨1, show 1 < 2 by decide, rfl⟩
                  · exact .inr (.inl rfl)
                  · cases ho
                case he =>
                  intro us wy uu hK hS hu
                  have HK3 := hid hK
                  have HS3 := hid hS
                  clear hK hS
                  dsimp only
                  simp only [List.foldl_cons, List.foldl_nil, List.setIfInBounds_toArray, List.set_cons_succ, List.set_cons_zero]
                  rw [hu]
                  generalize us 85 = u85 at *; generalize us 86 = u86 at *; generalize us 87 = u87 at *; generalize us 88 = u88 at *; generalize us 89 = u89 at *; generalize us 90 = u90 at *
                  go_wp2_with fail
                  go_roundw
                  case rel => exact ⟨k + 1, by go_num, by have := HKL.out; omega, by rw [HT.out]; exact HS3.out, HK3.out.fb, HK3.out.bel⟩
                  case measure => have := HKL.out; simp [RowKit.intOf]; omega

            · have HT : Hid (B1 ++ (ps.take (k + 1)).flatMap pb = BB ++ be 3 n0 ++ be 3 n1 ++ be 1 1 ++ be 3 n3) := hid (by
                rw [HT0.out, HE.out]; simp [List.append_assoc])
              have HRW : Hid (Rw h (wr.alloc (.cells #[.int .i64 n0, .int .i64 n1, .bool true, .int .i64 n3, .int .i64 x4] 35)).drew u6 BB) := hid (HRW0.out.alloc _)
              have HPK : Hid (Pk w h wr.heap.size [.int .i64 em, .slice ag gs.length ca, .slice (some ⟨bg, off, none⟩) ps.length cb] [.int .i64 n0, .int .i64 n1, .bool true, .int .i64 n3, .int .i64 x4] 35 (wr.alloc (.cells #[.int .i64 n0, .int .i64 n1, .bool true, .int .i64 n3, .int .i64 x4] 35)).drew) :=
                hid ⟨(HBW.out.alloc (Nat.le_of_lt HBK1.out.lt) _).drew, HBK1.out.alloc _, Blk.new wr _ 35 rfl⟩
              obtain ⟨V1, hV1⟩ : ∃ V1, wr.alloc (.cells #[.int .i64 n0, .int .i64 n1, .bool true, .int .i64 n3, .int .i64 x4] 35) = V1 := ⟨_, rfl⟩
              obtain ⟨d, hd⟩ : ∃ d, wr.heap.size = d := ⟨_, rfl⟩
              rw [hV1] at HRW HPK ⊢
              rw [hd] at HPK ⊢
              clear hV1 hd g0 g1 g2 g3 g4 c1 HRW0 HBK1 HBW HT0 HE
              refine call_chain (C := ⟨_, _, 2, fun i => ([3, 6] : List Nat).getD i 0, 7, fun i => ([some (u6), some (.pointer (some ⟨d, 0, none⟩)), some (.int .i64 n0), none, some (.pointer (some ⟨d, 1, none⟩)), some (.int .i64 n1), none, none] : List (Option Value)).getD i none⟩) (Pk w h d [.int .i64 em, .slice ag gs.length ca, .slice (some ⟨bg, off, none⟩) ps.length cb] [.int .i64 n0, .int .i64 n1, .bool true, .int .i64 n3, .int .i64 x4] 35) (fun j X u => Rw h X u (([BB, BB ++ be 3 n0, BB ++ be 3 n0 ++ be 3 n1] : List (List Nat)).getD j [])) u6
                (by kernel_rfl) (by kernel_rfl) (by kernel_rfl) (show 0 < 2 by decide) HPK.out HRW.out (by kernel_rfl) (by kernel_rfl) (by kernel_rfl) rfl ?hcall _ 77 6 rfl ⟨rfl, rfl, rfl⟩ rfl (by kernel_rfl) ?hp [6, 71, 72, 73, 74, 75, 76, 77] (by kernel_rfl) ?he
              case hcall =>
                intro j hj
                rcases j with _ | _ | j
                · refine ⟨_, rfl, rfl, fun h => absurd h (by decide), fun a X u hK hS hr hh h0 hl => ?_⟩
                  obtain rfl := h0 rfl
                  refine ⟨27, _, run_call27 rfl ((hh 0 _ (by kernel_rfl) rfl).only rfl rfl) ((hh 2 _ (by kernel_rfl) rfl).only rfl rfl), (laid_rw h n0 3 _ _ X hS (by have := HLN.out; simp only [List.getD_cons_zero]; omega) (by have := HQ.out; omega) (by decide) (Nat.le_of_lt hK.fb.lt)).mono ?_⟩
                  rintro e X' ⟨u', rfl, hw', hg⟩
                  exact ⟨u', rfl, hK.next (by decide) hS hg, hw'⟩
                · refine ⟨_, rfl, rfl, fun h => by kernel_rfl, fun a X u hK hS hr hh h0 hl => ?_⟩
                  refine ⟨27, _, run_call27 rfl ((hl 0 rfl).only rfl rfl) ((hh 5 _ (by kernel_rfl) rfl).only rfl rfl), (laid_rw h n1 3 _ _ X hS (by have := HLN.out; simp only [List.getD_cons_zero, List.getD_cons_succ, List.length_append, be_len]; omega) (by have := HQ.out; omega) (by decide) (Nat.le_of_lt hK.fb.lt)).mono ?_⟩
                  rintro e X' ⟨u', rfl, hw', hg⟩
                  exact ⟨u', rfl, hK.next (by decide) hS hg, hw'⟩
                · exact absurd (show j + 2 < 2 from hj) (by omega)
              case hp =>
                intro i o ho
                rcases i with _ | _ | _ | _ | _ | _ | _ | _ | i
                · cases ho
                  refine .inr (.inr ⟨rfl, _, rfl, fun a X hK hr hh hpre => ?_⟩)
                  exact run_move rfl (eval_tmp (hpre (by kernel_rfl)))
                · cases ho
                  refine .inr (.inr ⟨rfl, _, rfl, fun a X hK hr hh hpre => ?_⟩)
                  exact run_fa35_0 rfl (eval_tmp (hr.2.2 10 (by kernel_rfl)))
                · cases ho
                  refine .inr (.inr ⟨rfl, _, rfl, fun a X hK hr hh hpre => ?_⟩)
                  exact run_load3 rfl ((hh 1 _ (by kernel_rfl) rfl).only rfl rfl) (hK.gb.cell 0)
                · exact .inl ⟨0, show 0 < 2 by decide, rfl⟩
                · cases ho
                  refine .inr (.inr ⟨rfl, _, rfl, fun a X hK hr hh hpre => ?_⟩)
                  exact run_fa35_1 rfl (eval_tmp (hr.2.2 10 (by kernel_rfl)))
                · cases ho
                  refine .inr (.inr ⟨rfl, _, rfl, fun a X hK hr hh hpre => ?_⟩)
                  exact run_load3 rfl ((hh 4 _ (by kernel_rfl) rfl).only rfl rfl) (hK.gb.cell 1)
                · exact .inl ⟨1, show 1 < 2 by decide, rfl⟩
                · exact .inr (.inl rfl)
                · cases ho
              case he =>
                intro us wx u hK hS hu
                have HK := hid hK
                have HS' := hid hS
                clear hK hS
                dsimp only
                simp only [List.foldl_cons, List.foldl_nil, List.setIfInBounds_toArray, List.set_cons_succ, List.set_cons_zero]
                rw [hu]
                generalize us 71 = u71 at *; generalize us 72 = u72 at *; generalize us 73 = u73 at *; generalize us 74 = u74 at *; generalize us 75 = u75 at *; generalize us 76 = u76 at *; generalize us 77 = u77 at *
                obtain ⟨BB2, hBB2⟩ : ∃ BB2, BB ++ be 3 n0 ++ be 3 n1 = BB2 := ⟨_, rfl⟩
                have HRW2 : Hid (Rw h wx.drew u BB2) := hid (by rw [← hBB2]; exact HS'.out)
                have HPK2 := hid HK.out.drew
                have HLN2 : Hid (BB2.length + 4 ≤ 1000000) := hid (by have := HLN.out; rw [← hBB2]; simp only [List.length_append, be_len]; omega)
                rw [hBB2] at HT
                clear hBB2 HS'
                have c2 : wx.cell? ⟨d, 2, none⟩ = some (.bool true) := HK.out.gb.cell 2
                go_wp2_with fail
                refine call_chain (C := ⟨_, _, 2, fun i => ([1, 4] : List Nat).getD i 0, 5, fun i => ([some (u), none, some (.pointer (some ⟨d, 3, none⟩)), some (.int .i64 n3), none, none] : List (Option Value)).getD i none⟩) (Pk w h d [.int .i64 em, .slice ag gs.length ca, .slice (some ⟨bg, off, none⟩) ps.length cb] [.int .i64 n0, .int .i64 n1, .bool true, .int .i64 n3, .int .i64 x4] 35) (fun j X u => Rw h X u (([BB2, BB2 ++ be 1 1, BB2 ++ be 1 1 ++ be 3 n3] : List (List Nat)).getD j [])) u
                  (by kernel_rfl) (by kernel_rfl) (by kernel_rfl) (show 0 < 2 by decide) HPK2.out HRW2.out (by kernel_rfl) (by kernel_rfl) (by kernel_rfl) rfl ?hcall _ 84 6 rfl ⟨rfl, rfl, rfl⟩ rfl (by kernel_rfl) ?hp [6, 80, 81, 82, 83, 84] (by kernel_rfl) ?he
                case hcall =>
                  intro j hj
                  rcases j with _ | _ | j
                  · refine ⟨_, rfl, rfl, fun h => absurd h (by decide), fun a X u hK hS hr hh h0 hl => ?_⟩
                    obtain rfl := h0 rfl
                    refine ⟨27, _, run_call27 rfl ((hh 0 _ (by kernel_rfl) rfl).only rfl rfl) rfl, (laid_rw h 1 1 _ _ X hS (by have := HLN2.out; simp only [List.getD_cons_zero]; omega) (by decide) (by decide) (Nat.le_of_lt hK.fb.lt)).mono ?_⟩
                    rintro e X' ⟨u', rfl, hw', hg⟩
                    exact ⟨u', rfl, hK.next (by decide) hS hg, hw'⟩
                  · refine ⟨_, rfl, rfl, fun h => by kernel_rfl, fun a X u hK hS hr hh h0 hl => ?_⟩
                    refine ⟨27, _, run_call27 rfl ((hl 0 rfl).only rfl rfl) ((hh 3 _ (by kernel_rfl) rfl).only rfl rfl), (laid_rw h n3 3 _ _ X hS (by have := HLN2.out; simp only [List.getD_cons_zero, List.getD_cons_succ, List.length_append, be_len]; omega) (by have := HQ.out; omega) (by decide) (Nat.le_of_lt hK.fb.lt)).mono ?_⟩
                    rintro e X' ⟨u', rfl, hw', hg⟩
                    exact ⟨u', rfl, hK.next (by decide) hS hg, hw'⟩
                  · exact absurd (show j + 2 < 2 from hj) (by omega)
                case hp =>
                  intro i o ho
                  rcases i with _ | _ | _ | _ | _ | _ | i
                  · cases ho
                    refine .inr (.inr ⟨rfl, _, rfl, fun a X hK hr hh hpre => ?_⟩)
                    exact run_move rfl (eval_tmp (hpre (by kernel_rfl)))
                  · exact .inl ⟨0, show 0 < 2 by decide, rfl⟩
                  · cases ho
                    refine .inr (.inr ⟨rfl, _, rfl, fun a X hK hr hh hpre => ?_⟩)
                    exact run_fa35_3 rfl (eval_tmp (hr.2.2 10 (by kernel_rfl)))
                  · cases ho
                    refine .inr (.inr ⟨rfl, _, rfl, fun a X hK hr hh hpre => ?_⟩)
                    exact run_load3 rfl ((hh 2 _ (by kernel_rfl) rfl).only rfl rfl) (hK.gb.cell 3)
                  · exact .inl ⟨1, show 1 < 2 by decide, rfl⟩
                  · exact .inr (.inl rfl)
                  · cases ho
                case he =>
                  intro us wy uu hK hS hu
                  have HK3 := hid hK
                  have HS3 := hid hS
                  clear hK hS
                  dsimp only
                  simp only [List.foldl_cons, List.foldl_nil, List.setIfInBounds_toArray, List.set_cons_succ, List.set_cons_zero]
                  rw [hu]
                  generalize us 80 = u80 at *; generalize us 81 = u81 at *; generalize us 82 = u82 at *; generalize us 83 = u83 at *; generalize us 84 = u84 at *
                  go_wp2_with fail
                  go_roundw
                  case rel => exact ⟨k + 1, by go_num, by have := HKL.out; omega, by rw [HT.out]; exact HS3.out, HK3.out.fb, HK3.out.bel⟩
                  case measure => have := HKL.out; simp [RowKit.intOf]; omega

          · obtain rfl : k = ps.length := by omega
            have hkl : ¬ (ps.length : Int) < (ps.length : Int) := by omega
            rw [List.take_of_length_le (Nat.le_refl _)] at HRW0
            have HBD : Hid (B1 ++ ps.flatMap pb = body em gs ps) := hid (by
              rw [HB1'.out, HB0.out]
              unfold body
              rw [HEN.out, Int.toNat_natCast]
              simp [List.append_assoc])
            rw [HBD.out] at HRW0
            have HLB : Hid ((body em gs ps).length ≠ 0 ∧ (body em gs ps).length ≤ 1000000) := hid (by
              have h1 := HFN.out.gl
              have h2 := HFN.out.pl
              have h3 := pbs_len ps
              rw [← HBD.out, List.length_append, HB1L.out]; omega)
            obtain ⟨ad, c, rfl, hsl, _⟩ := conv_rw HRW0.out (body_lt em gs ps) HLB.out.1
            have HSL := hid hsl
            clear hlt hk hsl
            go_wp2_with (go_at_call 28; refine (sum_any _ ad c _ (by have := HLB.out; omega) (body_lt em gs ps) HSL.out).mono ?_; rintro e w7 ⟨rfl, rfl⟩)
            refine (laid_rw h (sumB (body em gs ps)) 4 (.slice ad (body em gs ps).length c) (body em gs ps) _ HRW0.out HLB.out.2 (by have := sumB_lt (body em gs ps); omega) (by decide) (Nat.le_of_lt HBK1.out.lt)).mono ?_
            rintro e W8 ⟨v8, rfl, hw8, hg8⟩
            have HB8 := hid (below_rw HBW.out HRW0.out hg8 (Nat.le_of_lt HBK1.out.lt))
            have hfb : body em gs ps ++ be 4 (sumB (body em gs ps)) = fontB em gs ps := rfl
            rw [hfb] at hw8
            obtain ⟨ad8, c8, rfl, _, hcv⟩ := conv_rw hw8 (fontB_lt em gs ps) (by rw [← hfb, List.length_append, be_len]; omega)
            clear hw8 hg8 hfb HRW0 HBK1 HBW
            go_wp2_with fail
            go_ret2
            exact ⟨by rw [if_pos HV.out, HV.out]; rfl, by rw [HH.out]; exact HB8.out⟩
  · have he := hbad hv
    subst he
    have HV : Hid (verd em gs ps ≠ 0) := hid hv
    have hv2 : ((verd em gs ps) != 0) = true := by simpa using hv
    clear hbad hgood0 hv HFI
    go_wp2_with fail
    go_ret2
    exact ⟨by rw [if_neg HV.out]; rfl, by rw [HH.out]; exact HB2.out⟩
end Go.Proofs.Ytdinlaoimpoolaa
