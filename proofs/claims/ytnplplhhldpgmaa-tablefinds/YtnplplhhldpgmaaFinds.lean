/- TableFinds's walk. -/
import Derived.Test.YtnplplhhldpgmaaShown
import Derived.Test.YtnplplhhldpgmaaWide
namespace Go.Proofs.Ytnplplhhldpgmaa
open Go.RowKit Go.MapKept
open Go.ChangeMaps (setBlock)

set_option maxRecDepth 100000 in
set_option maxHeartbeats 8000000 in
theorem finds_walk (em : Int) (gs : List Gl) (ps : List Pr) (ag ap : Option Addr) (ca cb : Nat) (y : Int) (w : World) (hg : gs.length ≤ 9223372036854775807) (hp : ps.length ≤ 9223372036854775807) (sg : Sl w ag gs.length (gs.flatMap cg)) (sp : Sl w ap ps.length (ps.flatMap cp)) :
    Calls Try.prog 5 #[.agg #[.int .i64 em, .slice ag gs.length ca, .slice ap ps.length cb], .int .i64 y] w fun e w' => e = .returned (.bool true) ∧ Below w.heap.size w w' := by
  have HS : Hid (Sl w ag gs.length (gs.flatMap cg) ∧ Sl w ap ps.length (ps.flatMap cp)) := ⟨sg, sp⟩
  have HL : Hid (gs.length ≤ 9223372036854775807 ∧ ps.length ≤ 9223372036854775807) := ⟨hg, hp⟩
  have BF := Blk.new w #[.int .i64 em, .slice ag gs.length ca, .slice ap ps.length cb] 25 rfl
  have B0 : Below w.heap.size w (w.alloc (.cells #[.int .i64 em, .slice ag gs.length ca, .slice ap ps.length cb] 25)) := (Below.refl _ w).alloc (Nat.le_refl _) _
  have HBY := fun W => beyond_any (.int .i64 em) ag ap gs.length ps.length ca cb W ⟨em, rfl⟩
  clear sg sp hg hp
  by_cases hbey : 2147483647 < gs.length + ps.length
  · simp only [decide_eq_true hbey] at HBY
    have HB : Hid _ := HBY
    have HB0 : Hid (Below w.heap.size w (w.alloc (.cells #[.int .i64 em, .slice ag gs.length ca, .slice ap ps.length cb] 25))) := B0
    clear HBY BF B0 hbey
    generalize gs.length = n at *
    generalize ps.length = q at *
    go_enter Try.func5, Try.ntmps5
    go_wp2_with (go_at_call 7; refine (HB.out _).mono ?_; rintro e w1 ⟨rfl, hb⟩)
    go_ret
    exact ⟨rfl, HB0.out.trans (hb.mono HB0.out.size)⟩
  · simp only [decide_eq_false hbey] at HBY
    have HB : Hid _ := HBY
    have HB0 : Hid (Below w.heap.size w (w.alloc (.cells #[.int .i64 em, .slice ag gs.length ca, .slice ap ps.length cb] 25))) := B0
    have HN : Hid (∀ W, Below w.heap.size w W → Calls Try.prog 10 #[.agg #[.int .i64 em, .slice ag gs.length ca, .slice ap ps.length cb]] W fun e w' => Made W w' em gs ps e) := fun W h =>
      new_any em gs ps ag ap ca cb W HL.out.1 HL.out.2 (HS.out.1.below h) (HS.out.2.below h)
    have HLE : Hid (gs.length ≤ 2147483647 ∧ ps.length ≤ 2147483647) := ⟨by omega, by omega⟩
    obtain ⟨n, hne⟩ : ∃ n, gs.length = n := ⟨_, rfl⟩
    obtain ⟨q, hqe⟩ : ∃ q, ps.length = q := ⟨_, rfl⟩
    have HNN : Hid (gs.length = n) := hne
    have HQQ : Hid (ps.length = q) := hqe
    rw [hne, hqe] at HB HB0 HN BF
    rw [hne, hqe]
    clear HBY B0 hbey hne hqe
    go_enter Try.func5, Try.ntmps5
    go_wp2_with fail
    refine (HB.out _).mono ?_
    rintro e w1 ⟨rfl, hb⟩
    have HB1 : Hid (Below w.heap.size w w1) := HB0.out.trans (hb.mono HB0.out.size)
    have BF1 := BF.below hb
    clear hb BF HB HB0
    go_wp2_with fail
    refine (shown_any _).mono ?_
    rintro e w2 ⟨rfl, hb⟩
    have HB2 : Hid (Below w.heap.size w w2) := HB1.out.trans (hb.mono HB1.out.size)
    have BF2 := BF1.below hb
    have k0 : w2.cell? ⟨w.heap.size, 0, none⟩ = some (.int .i64 em) := BF2.cell 0
    have k1 : w2.cell? ⟨w.heap.size, 1, none⟩ = some (.slice ag n ca) := BF2.cell 1
    have k2 : w2.cell? ⟨w.heap.size, 2, none⟩ = some (.slice ap q cb) := BF2.cell 2
    clear hb BF1 HB1
    go_wp2_with fail
    refine (HN.out _ HB2.out).mono ?_
    rintro e w3 ⟨hwr, hok, hb⟩
    have HB3 : Hid (Below w.heap.size w w3) := HB2.out.trans (hb.mono HB2.out.size)
    have BF3 := BF2.below hb
    by_cases hv : verd em gs ps = 0
    · obtain ⟨a, rfl, hT⟩ := hok hv
      have HT : Hid (Tab w2.heap.size w3.heap.size w3 a em gs ps) := hT
      have k1 : w3.cell? ⟨w.heap.size, 1, none⟩ = some (.slice ag n ca) := BF3.cell 1
      have k2 : w3.cell? ⟨w.heap.size, 2, none⟩ = some (.slice ap q cb) := BF3.cell 2
      have hn1 : n ≤ 1024 := by rw [← HNN.out]; exact hT.gl
      have hq1 : q ≤ 4096 := by rw [← HQQ.out]; exact hT.pl
      have hn1i : (n : Int) ≤ 1024 := by omega
      have hq1i : (q : Int) ≤ 4096 := by omega
      have hlF := BF3.lt
      have HBF : Hid (Blk w3 w.heap.size [.int .i64 em, .slice ag n ca, .slice ap q cb] 25) := BF3
      have hmm := @run_makeMap Try.prog
      have HV : Hid (verd em gs ps = 0) := hv
      clear hwr hok hT hb BF3 BF2 k0 HB2 hv
      go_wp2_with fail
      have hM0 : WideAt (w3.alloc (.map #[] 0)) w3.heap.size [] := heap_alloc_new w3 _
      have o0 : Only [w3.heap.size] w3 (w3.alloc (.map #[] 0)) := (Only.refl _ _).alloc _
      obtain ⟨M, hM⟩ : ∃ M, w3.heap.size = M := ⟨_, rfl⟩
      have HK : Hid (∀ W, Only [M] w3 W → Tab w2.heap.size w3.heap.size W a em gs ps ∧ Blk W w.heap.size [.int .i64 em, .slice ag n ca, .slice ap q cb] 25 ∧ Below w.heap.size w W) := fun W o =>
        ⟨HT.out.keep o (by intro i hi; rw [List.mem_singleton.1 hi]; omega), o.blk HBF.out (by simp only [List.mem_singleton]; omega), HB3.out.trans (o.toBelow HB3.out.size (by intro i hi; rw [List.mem_singleton.1 hi]; omega))⟩
      rw [hM] at hM0 o0 ⊢
      have HMM : Hid (w3.heap.size = M) := hM
      have mf : Try.prog.follows .mixedOrders = true := by kernel_rfl
      obtain ⟨W0, hW0⟩ : ∃ W0, w3.alloc (.map #[] 0) = W0 := ⟨_, rfl⟩
      rw [hW0] at hM0 o0 ⊢
      have HM0 : Hid (WideAt W0 M [] ∧ Only [M] w3 W0) := ⟨hM0, o0⟩
      clear hM hW0 hM0 o0 k1 k2 hlF hmm HB3 HBF
      go_loopw [8] (fun vi wr => ∃ k : Nat, vi = .int .i64 k ∧ k ≤ n ∧ WideAt wr M (gs.take k) ∧ Only [M] w3 wr) (fun vi _ => n - (RowKit.intOf vi).toNat)
      case atStart => exact ⟨0, rfl, by omega, HM0.out.1, HM0.out.2⟩
      case round =>
        obtain ⟨k, rfl, hk, hwa, ho⟩ := hrel
        have HWA : Hid (WideAt wr M (gs.take k)) := hwa
        have HO : Hid (Only [M] w3 wr) := ho
        obtain ⟨tT, tF, tB⟩ := HK.out wr ho
        have TG0 := hid tT.tg
        have hlF := tF.lt
        have k1 : wr.cell? ⟨w.heap.size, 1, none⟩ = some (.slice ag n ca) := tF.cell 1
        have TF := hid tF
        have TB := hid tB
        have hRi := hid (rise_of tT.ok).1
        clear hwa ho tT tF tB HM0
        by_cases hlt : k < n
        · obtain ⟨g, hgk⟩ := some_at (xs := gs) (i := k) (by rw [HNN.out]; exact hlt)
          obtain ⟨b, off, rfl, hbl, hga⟩ := HS.out.1.glyph hgk
          obtain ⟨c0, c1, c2, c3⟩ := hga.below TB.out hbl
          have HGK : Hid (gs[k]? = some g) := hgk
          have hat := lookG_at hRi.out hgk
          have HC := hid (TG0.out.glyph g.1)
          rw [hat.1, hat.2] at HC
          have HGA : Hid (GAt w b (off + k * 4) g) := hga
          have hli : (k : Int) < (n : Int) := by omega
          have hl0 : (0 : Int) ≤ (k : Int) := by omega
          have hne := fun W => neqG g g W
          have hgd := guard45
          obtain ⟨g0, g1, g2, g3⟩ := g
          simp only [cg, decide_true, Bool.not_true] at HC hne c0 c1 c2 c3
          clear hgk hga hat
          go_wp2_with fail
          refine HC.out.mono ?_
          rintro e w4 ⟨rfl, hb⟩
          have TF4 := TF.out.below hb
          have HO4 : Hid (Only [M] w3 w4) := HO.out.trans ((Only.ofBelow hb).mono (by simp))
          have HWA4 := hid (HWA.out.below hb)
          have TB4 : Hid (Below w.heap.size w w4) := (HK.out w4 HO4.out).2.2
          have z4 := TB4.out.size
          have bX := Blk.new w4 (cg (g0, g1, g2, g3)).toArray 45 rfl
          have oX : Below w4.heap.size w4 (w4.alloc (.cells (cg (g0, g1, g2, g3)).toArray 45)) := (Below.refl _ _).alloc (Nat.le_refl _) _
          have TFX := TF4.below oX
          have HOX : Hid (Only [M] w3 (w4.alloc (.cells (cg (g0, g1, g2, g3)).toArray 45))) := HO4.out.alloc _
          have HWX := hid (HWA4.out.below oX)
          have TBX : Hid (Below w.heap.size w (w4.alloc (.cells (cg (g0, g1, g2, g3)).toArray 45))) := TB4.out.alloc z4 _
          simp only [cg] at bX oX TFX HOX HWX TBX
          clear TF4 hb oX k1 HC
          go_wp2_with fail
          obtain ⟨WX, hWX⟩ : ∃ WX, w4.alloc (.cells #[.int .i64 g0, .int .i64 g1, .int .i64 g2, .int .i64 g3] 45) = WX := ⟨_, rfl⟩
          rw [hWX] at bX TFX HOX HWX TBX ⊢
          clear hWX
          have x0 : ∀ d os, (behind WX d os).cell? ⟨w4.heap.size, 0, none⟩ = some (.int .i64 g0) := fun d os => (cell_behind bX.lt d os).trans (bX.cell 0)
          have x1 : ∀ d os, (behind WX d os).cell? ⟨w4.heap.size, 1, none⟩ = some (.int .i64 g1) := fun d os => (cell_behind bX.lt d os).trans (bX.cell 1)
          have x2 : ∀ d os, (behind WX d os).cell? ⟨w4.heap.size, 2, none⟩ = some (.int .i64 g2) := fun d os => (cell_behind bX.lt d os).trans (bX.cell 2)
          have x3 : ∀ d os, (behind WX d os).cell? ⟨w4.heap.size, 3, none⟩ = some (.int .i64 g3) := fun d os => (cell_behind bX.lt d os).trans (bX.cell 3)
          have y1 : ∀ d os, (behind WX d os).cell? ⟨w.heap.size, 1, none⟩ = some (.slice (some ⟨b, off, none⟩) n ca) := fun d os => (cell_behind TFX.lt d os).trans (TFX.cell 1)
          have A := fun d os => HGA.out.below (TBX.out.trans ((below_behind WX d os).mono TBX.out.size)) hbl
          have e0 := fun d os => (A d os).c0
          have e1 := fun d os => (A d os).c1
          have e2 := fun d os => (A d os).c2
          have e3 := fun d os => (A d os).c3
          simp only at e0 e1 e2 e3
          clear A bX TFX c0 c1 c2 c3
          refine wp_region_behind (by assumption) (by kernel_rfl) ?_
          repeat (go_big_quiet_step (fail))
          refine wpQuiet_nil ?_
          intro _ hw'
          obtain ⟨⟨dq, osq⟩, hw''⟩ := hw'
          subst hw''
          have z0 := x0 dq osq
          have z1 := x1 dq osq
          have HWY := hid (HWX.out.below (below_behind WX dq osq))
          have HOY : Hid (Only [M] w3 (behind WX dq osq)) := HOX.out.trans ((Only.ofBelow (below_behind WX dq osq)).mono (by simp))
          clear x0 x1 x2 x3 y1 e0 e1 e2 e3 hne
          generalize behind WX dq osq = WY at *
          have hup := updateW_run HWY.out (g0, g1, g2, g3) (lookG_none hRi.out HGK.out)
          have hset := set_heap WY M (.map (entw 0 (gs.take k ++ [(g0, g1, g2, g3)])).toArray (gs.take k ++ [(g0, g1, g2, g3)]).length) HWY.out.lt
          have HZ : Hid (WideAt (setBlock WY M (.map (entw 0 (gs.take k ++ [(g0, g1, g2, g3)])).toArray (gs.take k ++ [(g0, g1, g2, g3)]).length)) M (gs.take (k + 1)) ∧ Only [M] w3 (setBlock WY M (.map (entw 0 (gs.take k ++ [(g0, g1, g2, g3)])).toArray (gs.take k ++ [(g0, g1, g2, g3)]).length))) :=
            ⟨by rw [take_at HGK.out]; exact hset.1, only_set HOY.out M _ HWY.out.lt (.inl (by simp))⟩
          generalize (Obj.map (entw 0 (gs.take k ++ [(g0, g1, g2, g3)])).toArray (gs.take k ++ [(g0, g1, g2, g3)]).length) = O at *
          simp only at hup
          clear hset
          go_wp2_with fail
          refine ⟨⟨k + 1, by go_num, by omega, HZ.out.1, HZ.out.2⟩, ?_⟩
          simp [RowKit.intOf]; omega
        · have hkn : ¬ (k : Int) < (n : Int) := by omega
          have hgs : gs.take k = gs := by rw [show k = gs.length by rw [HNN.out]; omega]; exact List.take_length
          have HWG : Hid (WideAt wr M gs) := by have := HWA.out; rw [hgs] at this; exact this
          have hrun := lookupW_run HWG.out y
          have HC := hid (TG0.out.glyph y)
          obtain ⟨gy, hgy⟩ : ∃ gy, gotG gs y = gy := ⟨_, rfl⟩
          obtain ⟨by', hby⟩ : ∃ by', hasG gs y = by' := ⟨_, rfl⟩
          rw [hgy, hby] at HC hrun
          have hnn : ∀ W, Sem.run Try.prog (binOp .neq 4 (.bool by') (.bool by')) W = .ok (.bool false) W := fun W => by cases by' <;> kernel_rfl
          obtain ⟨g0, g1, g2, g3⟩ := gy
          simp only [cg] at HC hrun
          clear hgy hby hgs
          go_wp2_with fail
          refine HC.out.mono ?_
          rintro e w4 ⟨rfl, hb⟩
          have TF4 := TF.out.below hb
          have HO4 : Hid (Only [M] w3 w4) := HO.out.trans ((Only.ofBelow hb).mono (by simp))
          have HW4 := hid (HWG.out.below hb)
          have HWX : Hid (WideAt (w4.alloc (.cells #[.int .i64 g0, .int .i64 g1, .int .i64 g2, .int .i64 g3] 45)) M gs) := hid (HW4.out.below ((Below.refl _ w4).alloc (Nat.le_refl _) _))
          have HOX : Hid (Only [M] w3 (w4.alloc (.cells #[.int .i64 g0, .int .i64 g1, .int .i64 g2, .int .i64 g3] 45))) := HO4.out.alloc _
          clear hb HC k1 TF4 hlF hrun
          obtain ⟨WA, hWA⟩ : ∃ WA, w4.alloc (.cells #[.int .i64 g0, .int .i64 g1, .int .i64 g2, .int .i64 g3] 45) = WA := ⟨_, rfl⟩
          rw [hWA] at HWX HOX
          go_wp2_with fail
          clear HWA HO TF TB TG0 hRi HWG HO4 HW4 hWA hnn hkn hk
          go_loopw [15] (fun vi wr => ∃ k : Nat, vi = .int .i64 k ∧ k ≤ q ∧ WideAt wr M gs ∧ Only [M] w3 wr) (fun vi _ => q - (RowKit.intOf vi).toNat)
          case atStart => exact ⟨0, rfl, by omega, HWX.out, HOX.out⟩
          case round =>
            obtain ⟨k, rfl, hk, hwa, ho⟩ := hrel
            have HWB := hid hwa
            have HO := hid ho
            obtain ⟨tT, tF, tB⟩ := HK.out _ ho
            have HT2 := hid tT
            have k2 := tF.cell 2
            have lF := tF.lt
            have TF := hid tF
            have TB := hid tB
            clear hwa ho tT tF tB
            by_cases hlt : k < q
            · obtain ⟨p, hpk⟩ := some_at (xs := ps) (i := k) (by rw [HQQ.out]; exact hlt)
              obtain ⟨b, off, rfl, hbl, hpa⟩ := HS.out.2.pair hpk
              obtain ⟨c0, c1, c2, c3, c4⟩ := hpa.below TB.out hbl
              have hat := lookP_at HT2.out.rp hpk
              have hkeep := pair_keeps (units_of HT2.out.ok) (pairs_ok HT2.out.pok p (List.mem_of_getElem? hpk))
              have HPA : Hid (PAt w b (off + k * 5) p) := hpa
              have hli : (k : Int) < (q : Int) := by omega
              have hl0 : (0 : Int) ≤ (k : Int) := by omega
              have hne := fun W => neqP p p W
              have hgd := guard52
              have hw0 := (wide_of (units_of HT2.out.ok) p.1).2
              have hw1 := (wide_of (units_of HT2.out.ok) p.2.1).2
              have bX := Blk.new wr (cp p).toArray 52 rfl
              have oX : Below wr.heap.size wr (wr.alloc (.cells (cp p).toArray 52)) := (Below.refl _ _).alloc (Nat.le_refl _) _
              have HOX2 := hid (HO.out.alloc (.cells (cp p).toArray 52))
              have HC := hid ((HK.out _ HOX2.out).1.pair p.1 p.2.1)
              rw [hat.1, hat.2] at HC
              have TFX := TF.out.below oX
              have HWX2 := hid (HWB.out.below oX)
              have TBX := hid (HK.out _ HOX2.out).2.2
              have hL0 := fun W (h : WideAt W M gs) => lookupW_run h p.1
              have hL1 := fun W (h : WideAt W M gs) => lookupW_run h p.2.1
              rw [hkeep.1] at hL0
              rw [hkeep.2.1] at hL1
              obtain ⟨v0, hv0⟩ : ∃ v, (gotG gs p.1).2.1 = v := ⟨_, rfl⟩
              obtain ⟨v1, hv1⟩ : ∃ v, (gotG gs p.2.1).2.1 = v := ⟨_, rfl⟩
              rw [hv0] at hL0 hw0 hkeep
              rw [hv1] at hL1 hw1 hkeep
              obtain ⟨_, _, hs0, hs1, hs2, hs3⟩ := hkeep
              have HLL : Hid ((∀ W, WideAt W M gs → Sem.run Try.prog (Instr.lookup 47 (.map (some M)) (.int .i64 p.1) true) W = .ok (.tuple #[.int .i64 v0, .bool true]) W) ∧ (∀ W, WideAt W M gs → Sem.run Try.prog (Instr.lookup 47 (.map (some M)) (.int .i64 p.2.1) true) W = .ok (.tuple #[.int .i64 v1, .bool true]) W)) := ⟨hL0, hL1⟩
              have n0 : ¬ v0 + p.2.2.2.2 < 0 := by omega
              have n1 : ¬ v1 + p.2.2.2.2 < 0 := by omega
              obtain ⟨p0, p1, p2, p3, p4⟩ := p
              have hx0 : (wr.alloc (.cells (cp (p0, p1, p2, p3, p4)).toArray 52)).cell? ⟨wr.heap.size, 0, none⟩ = some (.int .i64 p0) := bX.cell 0
              have hx1 : (wr.alloc (.cells (cp (p0, p1, p2, p3, p4)).toArray 52)).cell? ⟨wr.heap.size, 1, none⟩ = some (.int .i64 p1) := bX.cell 1
              have HBX := hid bX
              simp only [cp, decide_true, Bool.not_true] at HC hne c0 c1 c2 c3 c4 hx0 hx1 HBX HOX2 HWX2 TBX TFX
              clear hpk hpa hat hL0 hL1 hv0 hv1 oX bX
              go_wp2_with fail
              obtain ⟨WX, hWX⟩ : ∃ WX, wr.alloc (.cells #[.int .i64 p0, .int .i64 p1, .bool p2, .int .i64 p3, .int .i64 p4] 52) = WX := ⟨_, rfl⟩
              rw [hWX] at HC hx0 hx1 HBX HOX2 HWX2 TBX TFX ⊢
              clear hWX
              refine HC.out.mono ?_
              rintro e w5 ⟨rfl, hb⟩
              have TF5 := hid (TFX.below hb)
              have HO5 := hid (HOX2.out.trans ((Only.ofBelow hb).mono (by simp)))
              have HW5 := hid (HWX2.out.below hb)
              have TB5 : Hid (Below w.heap.size w w5) := TBX.out.trans (hb.mono TBX.out.size)
              have z5 := TB5.out.size
              have HB5 := hid (HBX.out.below hb)
              have bY := Blk.new w5 #[.int .i64 p0, .int .i64 p1, .bool p2, .int .i64 p3, .int .i64 p4] 52 rfl
              have oY : Below w5.heap.size w5 (w5.alloc (.cells #[.int .i64 p0, .int .i64 p1, .bool p2, .int .i64 p3, .int .i64 p4] 52)) := (Below.refl _ _).alloc (Nat.le_refl _) _
              have HBY := hid (HB5.out.below oY)
              have TFY := hid (TF5.out.below oY)
              have HOY := hid (HO5.out.alloc (.cells #[.int .i64 p0, .int .i64 p1, .bool p2, .int .i64 p3, .int .i64 p4] 52))
              have HWY := hid (HW5.out.below oY)
              have TBY := hid (TB5.out.alloc z5 (.cells #[.int .i64 p0, .int .i64 p1, .bool p2, .int .i64 p3, .int .i64 p4] 52))
              have HNY := hid bY
              clear hb HC hx0 hx1 k2 TFX lF c0 c1 c2 c3 c4 oY bY
              obtain ⟨hx0, hx1, hx2, hx3, hx4⟩ : (∀ i u, [Value.int .i64 p0, .int .i64 p1, .bool p2, .int .i64 p3, .int .i64 p4][i]? = some u → (w5.alloc (.cells #[.int .i64 p0, .int .i64 p1, .bool p2, .int .i64 p3, .int .i64 p4] 52)).cell? ⟨wr.heap.size, i, none⟩ = some u) ∧ True ∧ True ∧ True ∧ True := ⟨fun i u h => (HBY.out.cell i).trans h, trivial, trivial, trivial, trivial⟩
              have y0 := hx0 0 _ rfl
              have y1 := hx0 1 _ rfl
              have y2 := hx0 2 _ rfl
              have y3 := hx0 3 _ rfl
              have y4 := hx0 4 _ rfl
              have hR0 := HLL.out.1 _ HWY.out
              have hR1 := HLL.out.2 _ HWY.out
              clear hx0 hx1 hx2 hx3 hx4
              go_wp2_with fail
              refine ⟨⟨k + 1, by go_num, by omega, HWY.out, HOY.out⟩, ?_⟩
              simp [RowKit.intOf]; omega
            · have hkn : ¬ (k : Int) < (q : Int) := by omega
              have HSM : Hid (∀ W, Below w.heap.size w W → ∀ a1 b1 c1 d1, Sl W a1 gs.length (gs.flatMap cg) → Sl W b1 ps.length (ps.flatMap cp) → Calls Try.prog 18 #[.agg #[.int .i64 em, .slice a1 gs.length c1, .slice b1 ps.length d1], .agg #[.int .i64 em, .slice ag n ca, .slice ap q cb]] W fun e w' => e = .returned (.bool true) ∧ Below W.heap.size W w') := hid fun W h a1 b1 c1 d1 s1 s2 => by
                have t := same_true em gs ps a1 ag b1 ap c1 ca d1 cb W HLE.out.1 HLE.out.2 s1 s2 (HS.out.1.below h) (HS.out.2.below h)
                rw [HNN.out, HQQ.out] at t ⊢
                exact t
              have HF := hid (font_any w2.heap.size w3.heap.size a em gs ps wr HO.out.size HT2.out)
              go_wp2_with fail
              clear k2 lF HWX HOX
              refine HF.out.mono ?_
              rintro e w5 ⟨gv, pv, rfl, r1, r2, hb⟩
              obtain ⟨ad, c1, rfl, sl1, _⟩ := row_reads r1
              obtain ⟨bd, c2, rfl, sl2, _⟩ := row_reads r2
              have HB5 : Hid (Below w.heap.size w w5) := TB.out.trans (hb.mono TB.out.size)
              have TF5 := hid (TF.out.below hb)
              have HN5 := hid (new_any em gs ps ad bd c1 c2 w5 HL.out.1 HL.out.2 sl1 sl2)
              clear r1 r2 hb sl1 sl2 HF
              go_wp2_with fail
              refine HN5.out.mono ?_
              rintro e w6 ⟨_, hok, hb⟩
              obtain ⟨a2, rfl, hT6⟩ := hok HV.out
              have HT6 := hid hT6
              have HB6 : Hid (Below w.heap.size w w6) := HB5.out.trans (hb.mono HB5.out.size)
              have HX : Hid (∀ W, Below w6.heap.size w6 W → W.cell? ⟨w.heap.size, 0, none⟩ = some (.int .i64 em) ∧ W.cell? ⟨w.heap.size, 1, none⟩ = some (.slice ag n ca) ∧ W.cell? ⟨w.heap.size, 2, none⟩ = some (.slice ap q cb)) := hid fun W h =>
                have t := (TF5.out.below hb).below h
                ⟨t.cell 0, t.cell 1, t.cell 2⟩
              have hS0 := HX.out w6 (Below.refl _ _)
              clear hok hT6 hb HN5
              go_wp2_with fail
              go_region_held3 (fun W => W.cell? ⟨w.heap.size, 0, none⟩ = some (.int .i64 em) ∧ W.cell? ⟨w.heap.size, 1, none⟩ = some (.slice ag n ca) ∧ W.cell? ⟨w.heap.size, 2, none⟩ = some (.slice ap q cb))
                (first | exact hS0 | exact hS7 | exact hS8)
                (first
                  | (go_at_call 17; refine (font_any w5.heap.size w6.heap.size a2 em gs ps _ (by exact Nat.le_refl _) (HT6.out.below (by first | exact Below.refl _ _ | exact (Below.refl _ _).drew | exact ((Below.refl _ _).drew).drew))).mono ?_; rintro e w7 ⟨gv, pv, rfl, r1, r2, hb⟩; obtain ⟨ad7, c7, rfl, sl7, _⟩ := row_reads r1; obtain ⟨bd7, d7, rfl, tl7, _⟩ := row_reads r2; have HB7 : Hid (Below w6.heap.size w6 w7) := (by first | exact hb | exact undrew hb | exact undrew (undrew hb)); have SL7 := hid sl7; have TL7 := hid tl7; have hS7 := HX.out _ HB7.out; clear r1 r2 hb sl7 tl7)
                  | (go_at_call 18; refine (HSM.out _ (HB6.out.trans (HB7.out.mono HB6.out.size)) _ _ _ _ SL7.out TL7.out).mono ?_; rintro e w8 ⟨rfl, hb⟩; have HB8 : Hid (Below w.heap.size w w8) := hid ((HB6.out.trans (HB7.out.mono HB6.out.size)).trans (hb.mono (HB6.out.trans (HB7.out.mono HB6.out.size)).size)); have hS8 := HX.out _ (HB7.out.trans (hb.mono HB7.out.size)); clear hb))
              go_wp2_with fail
              go_ret
              exact ⟨by simp, HB8.out⟩
    · have he := hwr hv
      subst he
      have hv' : (verd em gs ps == 0) = false := by simpa using hv
      have hv2 : (verd em gs ps != 0) = true := by simpa using hv
      clear hwr hok hb BF3 BF2
      go_wp2_with fail
      go_ret
      exact ⟨by simp, HB3.out⟩
end Go.Proofs.Ytnplplhhldpgmaa
