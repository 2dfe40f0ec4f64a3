/- FontBack's walk. -/
import Derived.Test.YtdinlaoimpoolaaGreat
namespace Go.Proofs.Ytdinlaoimpoolaa
open Go.RowKit

set_option maxRecDepth 100000 in
set_option maxHeartbeats 8000000 in
theorem back_walk (em : Int) (gs : List Gl) (ps : List Pr) (ag ap : Option Addr) (ca cb : Nat) (b : ByteArray) (w : World) (hg : gs.length ≤ 9223372036854775807) (hp : ps.length ≤ 9223372036854775807) (hb : b.size ≤ 9223372036854775807) (sg : Sl w ag gs.length (gs.flatMap cg)) (sp : Sl w ap ps.length (ps.flatMap cp)) :
    Calls Try.prog 5 #[.agg #[.int .i64 em, .slice ag gs.length ca, .slice ap ps.length cb], .string b] w fun e w' => e = .returned (.bool true) ∧ Below w.heap.size w w' := by
  have HSG := hid (fun X (h : Below w.heap.size w X) => sg.below h)
  have HSP := hid (fun X (h : Below w.heap.size w X) => sp.below h)
  have HPUT := hid (fun X (h : Below w.heap.size w X) => put_any em gs ps ag ap ca cb X hg hp (HSG.out X h) (HSP.out X h))
  have HLB := hid (And.intro hg (And.intro hp hb))
  have HFB := hid (Blk.new w #[.int .i64 em, .slice ag gs.length ca, .slice ap ps.length cb] 25 rfl)
  have HB0 : Hid (Below w.heap.size w (w.alloc (.cells #[.int .i64 em, .slice ag gs.length ca, .slice ap ps.length cb] 25))) := hid ((Below.refl _ w).alloc (Nat.le_refl _) _)
  obtain ⟨h, hh⟩ : ∃ h, w.heap.size = h := ⟨_, rfl⟩
  clear sg sp hg hp hb
  go_enter Try.func5, Try.ntmps5
  go_wp2_with fail
  obtain ⟨W0, hW0⟩ : ∃ W0, w.alloc (.cells #[.int .i64 em, .slice ag gs.length ca, .slice ap ps.length cb] 25) = W0 := ⟨_, rfl⟩
  rw [hW0] at HFB HB0 ⊢
  rw [hh] at HFB
  clear hW0
  refine (shown_any W0).mono ?_
  rintro e w1 ⟨rfl, hb1⟩
  have HB1 := hid (HB0.out.trans (hb1.mono HB0.out.size))
  have HF1 := hid (HFB.out.below hb1)
  clear hb1 HFB HB0
  have c0 : w1.cell? ⟨h, 0, none⟩ = some (.int .i64 em) := HF1.out.cell 0
  have c1 : w1.cell? ⟨h, 1, none⟩ = some (.slice ag gs.length ca) := HF1.out.cell 1
  have c2 : w1.cell? ⟨h, 2, none⟩ = some (.slice ap ps.length cb) := HF1.out.cell 2
  go_wp2_with fail
  refine (HPUT.out w1 HB1.out).mono ?_
  rintro e w2 ⟨he, hb2⟩
  have HB2 := hid (HB1.out.trans (hb2.mono HB1.out.size))
  have HF2 := hid (HF1.out.below hb2)
  clear hb2 HF1 HB1 c0 c1 c2
  by_cases hv : verd em gs ps = 0
  · rw [if_pos hv, hv] at he
    subst he
    have HV := hid hv
    have HS := hid (fontB_size em gs ps hv)
    have HBL := hid (bl_strN (fontB em gs ps) (fontB_lt em gs ps))
    obtain ⟨st, hfin, hem, hgs, hps⟩ := fin_font hv
    have HFN : Hid (fin (bl (strN (fontB em gs ps))) = .inr st) := hid (by rw [HBL.out]; exact hfin)
    obtain ⟨S, hS⟩ : ∃ S, strN (fontB em gs ps) = S := ⟨_, rfl⟩
    have HSE := hid hS
    rw [hS] at HS HFN ⊢
    clear hS hv hfin HBL
    go_wp2_with fail
    refine (great_any w2).mono ?_
    rintro e w3 ⟨rfl, rfl⟩
    have HM3 := hid (Blk.new w2 MG.cells.toArray 72 rfl)
    have HB3 : Hid (Below w.heap.size w (w2.alloc (.cells MG.cells.toArray 72))) := hid (HB2.out.alloc HB2.out.size _)
    have HF3 := hid (HF2.out.alloc (.cells MG.cells.toArray 72))
    obtain ⟨m, hm⟩ : ∃ m, w2.heap.size = m := ⟨_, rfl⟩
    have HML : Hid (w.heap.size ≤ m ∧ h < m) := hid (by have := HB2.out.size; have := HF2.out.lt; omega)
    obtain ⟨W3, hW3⟩ : ∃ W3, w2.alloc (.cells MG.cells.toArray 72) = W3 := ⟨_, rfl⟩
    rw [hW3] at HM3 HB3 HF3
    rw [hm] at HM3
    simp only [hW3, hm]
    clear hW3 hm HB2 HF2
    go_wp2_with fail
    refine (get_great S m W3 HM3.out (by have := HS.out; omega)).mono ?_
    rintro e w4 ⟨ho4, hr4⟩
    rw [HFN.out] at hr4
    obtain ⟨bg, da, bp, db, rfl, sg4, sp4⟩ := hr4
    rw [hgs] at sg4
    rw [hps] at sp4
    rw [hgs, hps, hem]
    have HB4 : Hid (Below w.heap.size w w4) := hid (HB3.out.trans (ho4.toBelow HB3.out.size (by intro k hk; have := HML.out; simp at hk; omega)))
    have HF4 := hid (ho4.blk HF3.out (by have := HML.out; simp; omega))
    have HSG4 := hid sg4
    have HSP4 := hid sp4
    clear ho4 sg4 sp4 HB3 HF3 HM3 hgs hps hem
    have HB5 : Hid (Below w.heap.size w ((w4.alloc (.cells #[.int .i64 em, .slice bg gs.length da, .slice bp ps.length db] 25)).alloc (.cells #[.int .i64 0, .int .i64 0] 44))) := hid ((HB4.out.alloc HB4.out.size _).alloc (by have := HB4.out.size; simp; omega) _)
    have HB45 : Hid (Below w4.heap.size w4 ((w4.alloc (.cells #[.int .i64 em, .slice bg gs.length da, .slice bp ps.length db] 25)).alloc (.cells #[.int .i64 0, .int .i64 0] 44))) := hid (((Below.refl _ w4).alloc (Nat.le_refl _) _).alloc (by simp) _)
    have HF5 := hid (HF4.out.below HB45.out)
    have HX5 := hid ((Blk.new w4 #[.int .i64 em, .slice bg gs.length da, .slice bp ps.length db] 25 rfl).alloc (.cells #[.int .i64 0, .int .i64 0] 44))
    have HE5 := hid (Blk.new (w4.alloc (.cells #[.int .i64 em, .slice bg gs.length da, .slice bp ps.length db] 25)) #[.int .i64 0, .int .i64 0] 44 (k := w4.heap.size + 1) (by simp))
    have HSG5 := hid (fun X (hX : Below w4.heap.size w4 X) => HSG4.out.below hX)
    have HSP5 := hid (fun X (hX : Below w4.heap.size w4 X) => HSP4.out.below hX)
    have k0 : ((w4.alloc (.cells #[.int .i64 em, .slice bg gs.length da, .slice bp ps.length db] 25)).alloc (.cells #[.int .i64 0, .int .i64 0] 44)).cell? ⟨h, 0, none⟩ = some (.int .i64 em) := HF5.out.cell 0
    have k1 : ((w4.alloc (.cells #[.int .i64 em, .slice bg gs.length da, .slice bp ps.length db] 25)).alloc (.cells #[.int .i64 0, .int .i64 0] 44)).cell? ⟨h, 1, none⟩ = some (.slice ag gs.length ca) := HF5.out.cell 1
    have k2 : ((w4.alloc (.cells #[.int .i64 em, .slice bg gs.length da, .slice bp ps.length db] 25)).alloc (.cells #[.int .i64 0, .int .i64 0] 44)).cell? ⟨h, 2, none⟩ = some (.slice ap ps.length cb) := HF5.out.cell 2
    go_wp2_with fail
    obtain ⟨x4, hx4⟩ : ∃ x4, w4.heap.size = x4 := ⟨_, rfl⟩
    obtain ⟨W5, hW5⟩ : ∃ W5, (w4.alloc (.cells #[.int .i64 em, .slice bg gs.length da, .slice bp ps.length db] 25)).alloc (.cells #[.int .i64 0, .int .i64 0] 44) = W5 := ⟨_, rfl⟩
    rw [hW5] at HB5 HB45 HF5 HX5 HE5 ⊢
    rw [hx4] at HX5 HE5
    simp only [hx4]
    clear hW5 k0 k1 k2 HB4 HF4
    refine (same_true em gs ps bg ag bp ap da ca db cb W5 HLB.out.1 HLB.out.2.1 (HSG5.out W5 HB45.out) (HSP5.out W5 HB45.out) (HSG.out W5 HB5.out) (HSP.out W5 HB5.out)).mono ?_
    rintro e w6 ⟨rfl, hb6⟩
    have HB6 := hid (HB5.out.trans (hb6.mono HB5.out.size))
    have HB46 := hid (HB45.out.trans (hb6.mono HB45.out.size))
    have HX6 := hid (HX5.out.below hb6)
    have HE6 := hid (HE5.out.below hb6)
    clear hb6 HB5 HB45 HF5 HX5 HE5
    have k0 : w6.cell? ⟨x4, 0, none⟩ = some (.int .i64 em) := HX6.out.cell 0
    have k1 : w6.cell? ⟨x4, 1, none⟩ = some (.slice bg gs.length da) := HX6.out.cell 1
    have k2 : w6.cell? ⟨x4, 2, none⟩ = some (.slice bp ps.length db) := HX6.out.cell 2
    go_wp2_with fail
    refine (put_any em gs ps bg bp da db w6 HLB.out.1 HLB.out.2.1 (HSG5.out w6 HB46.out) (HSP5.out w6 HB46.out)).mono ?_
    rintro e w7 ⟨he, hb7⟩
    rw [if_pos HV.out, HV.out, HSE.out] at he
    subst he
    have HB7 := hid (HB6.out.trans (hb7.mono HB6.out.size))
    have HE7 := hid (HE6.out.below hb7)
    clear hb7 k0 k1 k2 HB6 HX6 HE6 HB46
    have k0 : w7.cell? ⟨x4 + 1, 0, none⟩ = some (.int .i64 0) := HE7.out.cell 0
    go_wp2_with fail
    clear k0 HE7 HSG4 HSP4 HSG5 HSP5 HML HS HFN HV
    refine (great_any w7).mono ?_
    rintro e w8 ⟨rfl, rfl⟩
    have HM8 := hid (Blk.new w7 MG.cells.toArray 72 rfl)
    have HB8 : Hid (Below w.heap.size w (w7.alloc (.cells MG.cells.toArray 72))) := hid (HB7.out.alloc HB7.out.size _)
    obtain ⟨m2, hm2⟩ : ∃ m, w7.heap.size = m := ⟨_, rfl⟩
    have HML2 : Hid (w.heap.size ≤ m2) := hid (by have := HB7.out.size; omega)
    obtain ⟨W8, hW8⟩ : ∃ W8, w7.alloc (.cells MG.cells.toArray 72) = W8 := ⟨_, rfl⟩
    rw [hW8] at HM8 HB8
    rw [hm2] at HM8
    simp only [hW8, hm2]
    clear hW8 hm2 HB7
    go_wp2_with fail
    refine (get_great b m2 W8 HM8.out HLB.out.2.2).mono ?_
    rintro e w9 ⟨ho9, hr9⟩
    have HB9 : Hid (Below w.heap.size w w9) := hid (HB8.out.trans (ho9.toBelow HB8.out.size (by intro k hk; have := HML2.out; simp at hk; omega)))
    clear ho9 HB8 HM8
    cases hf : fin (bl b) with
    | inl x =>
      rw [hf] at hr9
      obtain ⟨ee, jj⟩ := x
      have hat := fin_at hf
      rw [bl_length] at hat
      simp only at hr9
      subst hr9
      have HB10 : Hid (Below w.heap.size w ((w9.alloc (.cells #[.int .i64 0, .slice none 0 0, .slice none 0 0] 25)).alloc (.cells #[.int .i64 ee, .int .i64 jj] 44))) := hid ((HB9.out.alloc HB9.out.size _).alloc (by have := HB9.out.size; simp; omega) _)
      have he1 : (ee != 0) = true := by simpa using hat.1
      have hj1 : (jj : Int) ≤ (b.size : Int) := by have := hat.2; omega
      clear hf hat
      go_wp2_with fail
      go_ret
      exact ⟨rfl, HB10.out⟩
    | inr st2 =>
      rw [hf] at hr9
      obtain ⟨bg2, da2, bp2, db2, rfl, sg9, sp9⟩ := hr9
      obtain ⟨hfb, hv3⟩ := fin_back (bl_lt b) hf
      have HV3 := hid hv3
      have HSB : Hid (strN (fontB (st2.em : Int) st2.gs st2.ps) = b) := hid (by rw [← hfb]; exact strN_bl b)
      have HB10 : Hid (Below w.heap.size w ((w9.alloc (.cells #[.int .i64 st2.em, .slice bg2 st2.gs.length da2, .slice bp2 st2.ps.length db2] 25)).alloc (.cells #[.int .i64 0, .int .i64 0] 44))) := hid ((HB9.out.alloc HB9.out.size _).alloc (by have := HB9.out.size; simp; omega) _)
      have HB910 : Hid (Below w9.heap.size w9 ((w9.alloc (.cells #[.int .i64 st2.em, .slice bg2 st2.gs.length da2, .slice bp2 st2.ps.length db2] 25)).alloc (.cells #[.int .i64 0, .int .i64 0] 44))) := hid (((Below.refl _ w9).alloc (Nat.le_refl _) _).alloc (by simp) _)
      have HX10 := hid ((Blk.new w9 #[.int .i64 st2.em, .slice bg2 st2.gs.length da2, .slice bp2 st2.ps.length db2] 25 rfl).alloc (.cells #[.int .i64 0, .int .i64 0] 44))
      have HSG9 := hid (fun X (hX : Below w9.heap.size w9 X) => sg9.below hX)
      have HSP9 := hid (fun X (hX : Below w9.heap.size w9 X) => sp9.below hX)
      have HL9 : Hid (st2.gs.length ≤ 1024 ∧ st2.ps.length ≤ 4096) := hid (by have := verd_zero hv3; omega)
      clear hf hfb hv3 sg9 sp9
      go_wp2_with fail
      obtain ⟨x9, hx9⟩ : ∃ x9, w9.heap.size = x9 := ⟨_, rfl⟩
      obtain ⟨W10, hW10⟩ : ∃ W10, (w9.alloc (.cells #[.int .i64 st2.em, .slice bg2 st2.gs.length da2, .slice bp2 st2.ps.length db2] 25)).alloc (.cells #[.int .i64 0, .int .i64 0] 44) = W10 := ⟨_, rfl⟩
      rw [hW10] at HB10 HB910 HX10 ⊢
      rw [hx9] at HX10
      simp only [hx9]
      clear hW10 HB9
      refine (new_any (st2.em : Int) st2.gs st2.ps bg2 bp2 da2 db2 W10 (by have := HL9.out; omega) (by have := HL9.out; omega) (HSG9.out W10 HB910.out) (HSP9.out W10 HB910.out)).mono ?_
      rintro e w11 ⟨_, hm, hb11⟩
      obtain ⟨aT, rfl, _⟩ := hm HV3.out
      have HB11 := hid (HB10.out.trans (hb11.mono HB10.out.size))
      have HB911 := hid (HB910.out.trans (hb11.mono HB910.out.size))
      have HX11 := hid (HX10.out.below hb11)
      clear hm hb11 HB10 HB910 HX10
      have k0 : w11.cell? ⟨x9, 0, none⟩ = some (.int .i64 st2.em) := HX11.out.cell 0
      have k1 : w11.cell? ⟨x9, 1, none⟩ = some (.slice bg2 st2.gs.length da2) := HX11.out.cell 1
      have k2 : w11.cell? ⟨x9, 2, none⟩ = some (.slice bp2 st2.ps.length db2) := HX11.out.cell 2
      go_wp2_with fail
      refine (put_any (st2.em : Int) st2.gs st2.ps bg2 bp2 da2 db2 w11 (by have := HL9.out; omega) (by have := HL9.out; omega) (HSG9.out w11 HB911.out) (HSP9.out w11 HB911.out)).mono ?_
      rintro e w12 ⟨he, hb12⟩
      rw [if_pos HV3.out, HV3.out, HSB.out] at he
      subst he
      have HB12 := hid (HB11.out.trans (hb12.mono HB11.out.size))
      clear hb12 k0 k1 k2
      go_wp2_with fail
      go_ret
      exact ⟨by simp, HB12.out⟩
  · have HV := hid hv
    have hv2 : ((verd em gs ps) == 0) = false := by simpa using hv
    rw [if_neg hv] at he
    subst he
    have HB7 := HB2
    clear hv HB2 HF2
    go_wp2_with fail
    clear hv2
    obtain ⟨w7, hw7⟩ : ∃ x, w2 = x := ⟨_, rfl⟩
    rw [hw7] at HB7 ⊢
    clear hw7
    refine (great_any w7).mono ?_
    rintro e w8 ⟨rfl, rfl⟩
    have HM8 := hid (Blk.new w7 MG.cells.toArray 72 rfl)
    have HB8 : Hid (Below w.heap.size w (w7.alloc (.cells MG.cells.toArray 72))) := hid (HB7.out.alloc HB7.out.size _)
    obtain ⟨m2, hm2⟩ : ∃ m, w7.heap.size = m := ⟨_, rfl⟩
    have HML2 : Hid (w.heap.size ≤ m2) := hid (by have := HB7.out.size; omega)
    obtain ⟨W8, hW8⟩ : ∃ W8, w7.alloc (.cells MG.cells.toArray 72) = W8 := ⟨_, rfl⟩
    rw [hW8] at HM8 HB8
    rw [hm2] at HM8
    simp only [hW8, hm2]
    clear hW8 hm2 HB7
    go_wp2_with fail
    refine (get_great b m2 W8 HM8.out HLB.out.2.2).mono ?_
    rintro e w9 ⟨ho9, hr9⟩
    have HB9 : Hid (Below w.heap.size w w9) := hid (HB8.out.trans (ho9.toBelow HB8.out.size (by intro k hk; have := HML2.out; simp at hk; omega)))
    clear ho9 HB8 HM8
    cases hf : fin (bl b) with
    | inl x =>
      rw [hf] at hr9
      obtain ⟨ee, jj⟩ := x
      have hat := fin_at hf
      rw [bl_length] at hat
      simp only at hr9
      subst hr9
      have HB10 : Hid (Below w.heap.size w ((w9.alloc (.cells #[.int .i64 0, .slice none 0 0, .slice none 0 0] 25)).alloc (.cells #[.int .i64 ee, .int .i64 jj] 44))) := hid ((HB9.out.alloc HB9.out.size _).alloc (by have := HB9.out.size; simp; omega) _)
      have he1 : (ee != 0) = true := by simpa using hat.1
      have hj1 : (jj : Int) ≤ (b.size : Int) := by have := hat.2; omega
      clear hf hat
      go_wp2_with fail
      go_ret
      exact ⟨rfl, HB10.out⟩
    | inr st2 =>
      rw [hf] at hr9
      obtain ⟨bg2, da2, bp2, db2, rfl, sg9, sp9⟩ := hr9
      obtain ⟨hfb, hv3⟩ := fin_back (bl_lt b) hf
      have HV3 := hid hv3
      have HSB : Hid (strN (fontB (st2.em : Int) st2.gs st2.ps) = b) := hid (by rw [← hfb]; exact strN_bl b)
      have HB10 : Hid (Below w.heap.size w ((w9.alloc (.cells #[.int .i64 st2.em, .slice bg2 st2.gs.length da2, .slice bp2 st2.ps.length db2] 25)).alloc (.cells #[.int .i64 0, .int .i64 0] 44))) := hid ((HB9.out.alloc HB9.out.size _).alloc (by have := HB9.out.size; simp; omega) _)
      have HB910 : Hid (Below w9.heap.size w9 ((w9.alloc (.cells #[.int .i64 st2.em, .slice bg2 st2.gs.length da2, .slice bp2 st2.ps.length db2] 25)).alloc (.cells #[.int .i64 0, .int .i64 0] 44))) := hid (((Below.refl _ w9).alloc (Nat.le_refl _) _).alloc (by simp) _)
      have HX10 := hid ((Blk.new w9 #[.int .i64 st2.em, .slice bg2 st2.gs.length da2, .slice bp2 st2.ps.length db2] 25 rfl).alloc (.cells #[.int .i64 0, .int .i64 0] 44))
      have HSG9 := hid (fun X (hX : Below w9.heap.size w9 X) => sg9.below hX)
      have HSP9 := hid (fun X (hX : Below w9.heap.size w9 X) => sp9.below hX)
      have HL9 : Hid (st2.gs.length ≤ 1024 ∧ st2.ps.length ≤ 4096) := hid (by have := verd_zero hv3; omega)
      clear hf hfb hv3 sg9 sp9
      go_wp2_with fail
      obtain ⟨x9, hx9⟩ : ∃ x9, w9.heap.size = x9 := ⟨_, rfl⟩
      obtain ⟨W10, hW10⟩ : ∃ W10, (w9.alloc (.cells #[.int .i64 st2.em, .slice bg2 st2.gs.length da2, .slice bp2 st2.ps.length db2] 25)).alloc (.cells #[.int .i64 0, .int .i64 0] 44) = W10 := ⟨_, rfl⟩
      rw [hW10] at HB10 HB910 HX10 ⊢
      rw [hx9] at HX10
      simp only [hx9]
      clear hW10 HB9
      refine (new_any (st2.em : Int) st2.gs st2.ps bg2 bp2 da2 db2 W10 (by have := HL9.out; omega) (by have := HL9.out; omega) (HSG9.out W10 HB910.out) (HSP9.out W10 HB910.out)).mono ?_
      rintro e w11 ⟨_, hm, hb11⟩
      obtain ⟨aT, rfl, _⟩ := hm HV3.out
      have HB11 := hid (HB10.out.trans (hb11.mono HB10.out.size))
      have HB911 := hid (HB910.out.trans (hb11.mono HB910.out.size))
      have HX11 := hid (HX10.out.below hb11)
      clear hm hb11 HB10 HB910 HX10
      have k0 : w11.cell? ⟨x9, 0, none⟩ = some (.int .i64 st2.em) := HX11.out.cell 0
      have k1 : w11.cell? ⟨x9, 1, none⟩ = some (.slice bg2 st2.gs.length da2) := HX11.out.cell 1
      have k2 : w11.cell? ⟨x9, 2, none⟩ = some (.slice bp2 st2.ps.length db2) := HX11.out.cell 2
      go_wp2_with fail
      refine (put_any (st2.em : Int) st2.gs st2.ps bg2 bp2 da2 db2 w11 (by have := HL9.out; omega) (by have := HL9.out; omega) (HSG9.out w11 HB911.out) (HSP9.out w11 HB911.out)).mono ?_
      rintro e w12 ⟨he, hb12⟩
      rw [if_pos HV3.out, HV3.out, HSB.out] at he
      subst he
      have HB12 := hid (HB11.out.trans (hb12.mono HB11.out.size))
      clear hb12 k0 k1 k2
      go_wp2_with fail
      go_ret
      exact ⟨by simp, HB12.out⟩
end Go.Proofs.Ytdinlaoimpoolaa
