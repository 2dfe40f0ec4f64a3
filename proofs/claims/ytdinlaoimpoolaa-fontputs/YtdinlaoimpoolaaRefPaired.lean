/- The reference: may a pair stand? -/
import Derived.Test.YtdinlaoimpoolaaRefPair
namespace Go.Proofs.Ytdinlaoimpoolaa
open Go.RowKit

set_option maxRecDepth 100000 in
set_option maxHeartbeats 8000000 in
theorem paired_any (em : Int) (gs : List Gl) (ag ap : Option Addr) (ca m cb : Nat) (p : Pr) (w : World) (hu : ∀ g ∈ gs, units g = true) (hg : gs.length ≤ 9223372036854775807) (sg : Sl w ag gs.length (gs.flatMap cg)) :
    Calls Try.prog 68 #[.agg #[.int .i64 em, .slice ag gs.length ca, .slice ap m cb], .agg (cp p).toArray] w fun e w' => e = .returned (.bool (pairOK gs p)) ∧ Below w.heap.size w w' := by
  obtain ⟨p0, p1, is, lig, kern⟩ := p
  have w0 := wide_of hu p0
  have w1 := wide_of hu p1
  have HT : Hid (∀ r W, Below w.heap.size w W → Calls Try.prog 77 #[.agg #[.int .i64 em, .slice ag gs.length ca, .slice ap m cb], .int .i64 r] W fun e w' => e = .returned (.tuple #[.agg (cg (gotG gs r)).toArray, .bool (hasG gs r)]) ∧ Below W.heap.size W w') := fun r W h => refglyph_any em gs ag ap ca m cb r W hg (sg.below h)
  have ways := joins_ways (hasG gs p0) (hasG gs p1) (hasG gs lig) is lig kern (gotG gs p0).2.1 (gotG gs p1).2.1
  have HL := hid (HT.out p0)
  have HR := hid (HT.out p1)
  have HI := hid (HT.out lig)
  obtain ⟨q, hq⟩ : ∃ q, pairOK gs (p0, p1, is, lig, kern) = q := ⟨_, rfl⟩
  rw [hq]
  have HQ : Hid (pairOK gs (p0, p1, is, lig, kern) = q) := hq
  unfold pairOK at HQ
  simp only at HQ
  clear HT hu hq sg hg
  generalize hasG gs p0 = hl at *
  generalize hasG gs p1 = hr at *
  generalize hasG gs lig = hg at *
  generalize gotG gs p0 = g0 at *
  generalize gotG gs p1 = g1 at *
  generalize gotG gs lig = g2 at *
  generalize gs.length = n at *
  obtain ⟨x0, x1, x2, x3⟩ := g0
  obtain ⟨y0, y1, y2, y3⟩ := g1
  obtain ⟨z0, z1, z2, z3⟩ := g2
  simp only [cg, cp] at *
  have HW := hid ways
  have F0 := (Blk.new w #[.int .i64 em, .slice ag n ca, .slice ap m cb] 25 rfl).alloc (.cells #[.int .i64 p0, .int .i64 p1, .bool is, .int .i64 lig, .int .i64 kern] 35)
  have P0 := Blk.new (w.alloc (.cells #[.int .i64 em, .slice ag n ca, .slice ap m cb] 25)) #[.int .i64 p0, .int .i64 p1, .bool is, .int .i64 lig, .int .i64 kern] 35 (k := w.heap.size + 1) (by simp)
  have B0 : Below w.heap.size w ((w.alloc (.cells #[.int .i64 em, .slice ag n ca, .slice ap m cb] 25)).alloc (.cells #[.int .i64 p0, .int .i64 p1, .bool is, .int .i64 lig, .int .i64 kern] 35)) := ((Below.refl _ w).alloc (Nat.le_refl _) _).alloc (by simp) _
  have HF := hid F0
  have HP := hid P0
  have HB := hid B0
  clear ways F0 P0 B0
  go_enter Try.func68, Try.ntmps68
  go_wp2_with fail
  refine (HL.out _ HB.out).mono ?_
  rintro e w2 ⟨rfl, hb⟩
  have HF2 := hid ((HF.out.below hb).alloc (.cells #[.int .i64 x0, .int .i64 x1, .int .i64 x2, .int .i64 x3] 33))
  have HP2 := hid ((HP.out.below hb).alloc (.cells #[.int .i64 x0, .int .i64 x1, .int .i64 x2, .int .i64 x3] 33))
  have HB1 : Hid (Below w.heap.size w w2) := HB.out.trans (hb.mono HB.out.size)
  have HB2 := hid (HB1.out.alloc HB1.out.size (.cells #[.int .i64 x0, .int .i64 x1, .int .i64 x2, .int .i64 x3] 33))
  have HX2 := hid (Blk.new w2 #[.int .i64 x0, .int .i64 x1, .int .i64 x2, .int .i64 x3] 33 rfl)
  have f0 : (w2.alloc (.cells #[.int .i64 x0, .int .i64 x1, .int .i64 x2, .int .i64 x3] 33)).cell? ⟨w.heap.size, 0, none⟩ = some (.int .i64 em) := HF2.out.cell 0
  have f1 : (w2.alloc (.cells #[.int .i64 x0, .int .i64 x1, .int .i64 x2, .int .i64 x3] 33)).cell? ⟨w.heap.size, 1, none⟩ = some (.slice ag n ca) := HF2.out.cell 1
  have f2 : (w2.alloc (.cells #[.int .i64 x0, .int .i64 x1, .int .i64 x2, .int .i64 x3] 33)).cell? ⟨w.heap.size, 2, none⟩ = some (.slice ap m cb) := HF2.out.cell 2
  have c1 : (w2.alloc (.cells #[.int .i64 x0, .int .i64 x1, .int .i64 x2, .int .i64 x3] 33)).cell? ⟨w.heap.size + 1, 1, none⟩ = some (.int .i64 p1) := HP2.out.cell 1
  clear hb HF HP HB
  go_wp2_with fail
  refine (HR.out _ HB2.out).mono ?_
  rintro e w3 ⟨rfl, hb3⟩
  clear f0 f1 f2 c1
  have HF4 := hid ((HF2.out.below hb3).alloc (.cells #[.int .i64 y0, .int .i64 y1, .int .i64 y2, .int .i64 y3] 33))
  have HP4 := hid ((HP2.out.below hb3).alloc (.cells #[.int .i64 y0, .int .i64 y1, .int .i64 y2, .int .i64 y3] 33))
  have HX4 := hid ((HX2.out.below hb3).alloc (.cells #[.int .i64 y0, .int .i64 y1, .int .i64 y2, .int .i64 y3] 33))
  have HB3 : Hid (Below w.heap.size w w3) := HB2.out.trans (hb3.mono HB2.out.size)
  have HB4 := hid (HB3.out.alloc HB3.out.size (.cells #[.int .i64 y0, .int .i64 y1, .int .i64 y2, .int .i64 y3] 33))
  have HY4 := hid (Blk.new w3 #[.int .i64 y0, .int .i64 y1, .int .i64 y2, .int .i64 y3] 33 rfl)
  clear hb3 HF2 HP2 HX2 HB1 HB2
  have f0 : (w3.alloc (.cells #[.int .i64 y0, .int .i64 y1, .int .i64 y2, .int .i64 y3] 33)).cell? ⟨w.heap.size, 0, none⟩ = some (.int .i64 em) := HF4.out.cell 0
  have f1 : (w3.alloc (.cells #[.int .i64 y0, .int .i64 y1, .int .i64 y2, .int .i64 y3] 33)).cell? ⟨w.heap.size, 1, none⟩ = some (.slice ag n ca) := HF4.out.cell 1
  have f2 : (w3.alloc (.cells #[.int .i64 y0, .int .i64 y1, .int .i64 y2, .int .i64 y3] 33)).cell? ⟨w.heap.size, 2, none⟩ = some (.slice ap m cb) := HF4.out.cell 2
  have c2 : (w3.alloc (.cells #[.int .i64 y0, .int .i64 y1, .int .i64 y2, .int .i64 y3] 33)).cell? ⟨w.heap.size + 1, 2, none⟩ = some (.bool is) := HP4.out.cell 2
  have c3 : (w3.alloc (.cells #[.int .i64 y0, .int .i64 y1, .int .i64 y2, .int .i64 y3] 33)).cell? ⟨w.heap.size + 1, 3, none⟩ = some (.int .i64 lig) := HP4.out.cell 3
  have c4 : (w3.alloc (.cells #[.int .i64 y0, .int .i64 y1, .int .i64 y2, .int .i64 y3] 33)).cell? ⟨w.heap.size + 1, 4, none⟩ = some (.int .i64 kern) := HP4.out.cell 4
  have d1 : (w3.alloc (.cells #[.int .i64 y0, .int .i64 y1, .int .i64 y2, .int .i64 y3] 33)).cell? ⟨w2.heap.size, 1, none⟩ = some (.int .i64 x1) := HX4.out.cell 1
  have e1 : (w3.alloc (.cells #[.int .i64 y0, .int .i64 y1, .int .i64 y2, .int .i64 y3] 33)).cell? ⟨w3.heap.size, 1, none⟩ = some (.int .i64 y1) := HY4.out.cell 1
  rcases HW.out with h1 | ⟨h1, h2⟩ | ⟨h1, h2, h3, h4⟩ | ⟨h1, h2, h3, h4, h5⟩ | ⟨h1, h2, h3, h4, h5⟩ | ⟨h1, h2, h3, h4⟩ | ⟨h1, h2, h3, h4, h5⟩ | ⟨h1, h2, h3, h4, h5, h6⟩ | ⟨h1, h2, h3, h4, h5, h6, h7⟩ | ⟨h1, h2, h3, h4, h5, h6, h7⟩
  all_goals
    clear HW
    subst h1
    try subst h2
    try subst h3
  · go_wp2_with fail
    go_ret
    exact ⟨ret_bool (by rw [← HQ.out]; rfl), HB4.out⟩
  · go_wp2_with fail
    go_ret
    exact ⟨ret_bool (by rw [← HQ.out]; rfl), HB4.out⟩
  · subst h4
    go_wp2_with fail
    refine (HI.out _ HB4.out).mono ?_
    rintro e w4 ⟨rfl, hb4⟩
    have HB5 : Hid (Below w.heap.size w w4) := HB4.out.trans (hb4.mono HB4.out.size)
    clear hb4 f0 f1 f2 c2 c3 c4 d1 e1
    go_wp2_with fail
    go_ret
    exact ⟨ret_bool (by rw [← HQ.out]; rfl), HB5.out.alloc HB5.out.size _⟩
  · subst h4
    subst h5
    go_wp2_with fail
    refine (HI.out _ HB4.out).mono ?_
    rintro e w4 ⟨rfl, hb4⟩
    have HB5 : Hid (Below w.heap.size w w4) := HB4.out.trans (hb4.mono HB4.out.size)
    have q4 : (w4.alloc (.cells #[.int .i64 z0, .int .i64 z1, .int .i64 z2, .int .i64 z3] 33)).cell? ⟨w.heap.size + 1, 4, none⟩ = some (.int .i64 0) := ((HP4.out.below hb4).alloc _).cell 4
    clear hb4 f0 f1 f2 c2 c3 c4 d1 e1
    go_wp2_with fail
    go_ret
    exact ⟨ret_bool (by rw [← HQ.out]; rfl), HB5.out.alloc HB5.out.size _⟩
  · subst h4
    go_wp2_with fail
    refine (HI.out _ HB4.out).mono ?_
    rintro e w4 ⟨rfl, hb4⟩
    have HB5 : Hid (Below w.heap.size w w4) := HB4.out.trans (hb4.mono HB4.out.size)
    have q4 : (w4.alloc (.cells #[.int .i64 z0, .int .i64 z1, .int .i64 z2, .int .i64 z3] 33)).cell? ⟨w.heap.size + 1, 4, none⟩ = some (.int .i64 kern) := ((HP4.out.below hb4).alloc _).cell 4
    clear hb4 f0 f1 f2 c2 c3 c4 d1 e1
    go_wp2_with fail
    go_ret
    exact ⟨ret_bool (by rw [← HQ.out]; simp [h5]), HB5.out.alloc HB5.out.size _⟩
  -- no ligature: the lesser width is taken
  all_goals
    clear HI
    by_cases hm : y1 < x1
    · have hmn : min x1 y1 = y1 := by omega
      have HM := hid hmn
      first | rw [hmn] at h6 | skip
      clear hmn
      go_wp2_with fail
      go_ret
      refine ⟨ret_bool ?_, HB4.out⟩
      rw [← HQ.out]
      have hmn := HM.out
      first | (simp [kernOK, *]; done) | (simp [kernOK, *]; omega)
    · have hmn : min x1 y1 = x1 := by omega
      have HM := hid hmn
      first | rw [hmn] at h6 | skip
      clear hmn
      go_wp2_with fail
      go_ret
      refine ⟨ret_bool ?_, HB4.out⟩
      rw [← HQ.out]
      have hmn := HM.out
      first | (simp [kernOK, *]; done) | (simp [kernOK, *]; omega)
end Go.Proofs.Ytdinlaoimpoolaa
