/- The reference: a glyph looked for one by one. -/
import Derived.Test.YtdinlaoimpoolaaSame
import Derived.Test.YtdinlaoimpoolaaNew
namespace Go.Proofs.Ytdinlaoimpoolaa
open Go.RowKit

theorem lookG_next {gs : List Gl} {k : Nat} {g : Gl} {r : Int} (hg : gs[k]? = some g) (h : lookG (gs.take k) r = none) (hr : g.1 ≠ r) : lookG (gs.take (k + 1)) r = none := by
  unfold lookG at h ⊢
  rw [take_at hg, List.find?_append, h]
  simp [hr]
theorem lookG_hit {gs : List Gl} {k : Nat} {g : Gl} {r : Int} (hg : gs[k]? = some g) (h : lookG (gs.take k) r = none) (hr : g.1 = r) : gotG gs r = g ∧ hasG gs r = true := by
  have e : lookG gs r = some g := by
    unfold lookG at h ⊢
    conv => lhs; rw [← List.take_append_drop k gs]
    rw [List.find?_append, h, drop_at hg]
    simp [hr]
  unfold gotG hasG
  rw [e]
  exact ⟨rfl, rfl⟩
theorem lookG_miss {gs : List Gl} {r : Int} (h : lookG gs r = none) : gotG gs r = (0, 0, 0, 0) ∧ hasG gs r = false := by
  unfold gotG hasG
  rw [h]
  exact ⟨rfl, rfl⟩

theorem results77 {W : World} {B : Nat} {a b c d : Int} {t : Bool} (hR : Blk W B [.int .i64 a, .int .i64 b, .int .i64 c, .int .i64 d] 33) {tmps : Array Value} (h4 : tmps[4]? = some (.pointer (some ⟨B, 0, none⟩))) (h5 : tmps[5]? = some (.bool t)) :
    (results Try.f77 tmps).run Try.prog W = .ok (.tuple #[.agg #[.int .i64 a, .int .i64 b, .int .i64 c, .int .i64 d], .bool t]) W := by
  have m0 : W.cell? ⟨B, 0, none⟩ = some (.int .i64 a) := hR.cell 0
  have m1 : W.cell? ⟨B, 1, none⟩ = some (.int .i64 b) := hR.cell 1
  have m2 : W.cell? ⟨B, 2, none⟩ = some (.int .i64 c) := hR.cell 2
  have m3 : W.cell? ⟨B, 3, none⟩ = some (.int .i64 d) := hR.cell 3
  simp [results, Try.results77, go_sem, h4, h5, m0, m1, m2, m3]

set_option maxRecDepth 100000 in
set_option maxHeartbeats 4000000 in
theorem refglyph_any (em : Int) (gs : List Gl) (ag ap : Option Addr) (ca m cb : Nat) (r : Int) (w : World) (hg : gs.length ≤ 9223372036854775807) (sg : Sl w ag gs.length (gs.flatMap cg)) :
    Calls Try.prog 77 #[.agg #[.int .i64 em, .slice ag gs.length ca, .slice ap m cb], .int .i64 r] w fun e w' => e = .returned (.tuple #[.agg (cg (gotG gs r)).toArray, .bool (hasG gs r)]) ∧ Below w.heap.size w w' := by
  have HS : Hid (Sl w ag gs.length (gs.flatMap cg)) := sg
  obtain ⟨n, hne⟩ : ∃ n, gs.length = n := ⟨_, rfl⟩
  have HN := hid hne
  rw [hne] at hg ⊢
  clear sg hne
  have hgi : (n : Int) ≤ 9223372036854775807 := by omega
  have BF := (Blk.new w #[.int .i64 em, .slice ag n ca, .slice ap m cb] 25 rfl).alloc (.cells #[.int .i64 0, .int .i64 0, .int .i64 0, .int .i64 0] 33)
  have BR := Blk.new (w.alloc (.cells #[.int .i64 em, .slice ag n ca, .slice ap m cb] 25)) #[.int .i64 0, .int .i64 0, .int .i64 0, .int .i64 0] 33 (k := w.heap.size + 1) (by simp)
  have B0 : Below w.heap.size w ((w.alloc (.cells #[.int .i64 em, .slice ag n ca, .slice ap m cb] 25)).alloc (.cells #[.int .i64 0, .int .i64 0, .int .i64 0, .int .i64 0] 33)) := ((Below.refl _ w).alloc (Nat.le_refl _) _).alloc (by simp) _
  go_enter Try.func77, Try.ntmps77
  go_wp2_with fail
  obtain ⟨W, hW⟩ : ∃ W, (w.alloc (.cells #[.int .i64 em, .slice ag n ca, .slice ap m cb] 25)).alloc (.cells #[.int .i64 0, .int .i64 0, .int .i64 0, .int .i64 0] 33) = W := ⟨_, rfl⟩
  rw [hW] at BF BR B0 ⊢
  clear hW
  have k1 : W.cell? ⟨w.heap.size, 1, none⟩ = some (.slice ag n ca) := BF.cell 1
  have HB := hid B0
  have HR := hid BR
  clear BF BR B0
  have z0 : W.cell? ⟨w.heap.size + 1, 0, none⟩ = some (.int .i64 0) := HR.out.cell 0
  have z1 : W.cell? ⟨w.heap.size + 1, 1, none⟩ = some (.int .i64 0) := HR.out.cell 1
  have z2 : W.cell? ⟨w.heap.size + 1, 2, none⟩ = some (.int .i64 0) := HR.out.cell 2
  have z3 : W.cell? ⟨w.heap.size + 1, 3, none⟩ = some (.int .i64 0) := HR.out.cell 3
  have f0 := HR.out.froz 0
  have f1 := HR.out.froz 1
  have f2 := HR.out.froz 2
  have f3 := HR.out.froz 3
  go_loop [6] (fun vi => ∃ k : Nat, vi = .int .i64 k ∧ k ≤ n ∧ lookG (gs.take k) r = none) (fun vi => n - (RowKit.intOf vi).toNat)
  case atStart => exact ⟨0, rfl, by omega, rfl⟩
  case round =>
    obtain ⟨k, rfl, hk, hlk⟩ := hrel
    have HLK := hid hlk
    clear hlk
    by_cases hlt : k < n
    · obtain ⟨g, hgk⟩ := some_at (xs := gs) (i := k) (by rw [HN.out]; exact hlt)
      obtain ⟨b, off, rfl, hbl, hga⟩ := HS.out.glyph hgk
      obtain ⟨c0, c1, c2, c3⟩ := hga.below HB.out hbl
      have HGK := hid hgk
      have hli : (k : Int) < (n : Int) := by omega
      have hl0 : (0 : Int) ≤ (k : Int) := by omega
      obtain ⟨g0, g1, g2, g3⟩ := g
      simp only at c0 c1 c2 c3
      clear hgk hga
      by_cases hr : g0 = r
      · have hh := lookG_hit HGK.out HLK.out hr
        have HH := hid hh
        clear hh
        go_wp2_with fail
        refine bodyPost_ret (results77 (put4_blk HR.out _ _ _ _) rfl rfl) rfl ⟨?_, put4_below HB.out (by omega) _ _ _ _⟩
        rw [HH.out.1, HH.out.2]; subst hr; rfl
      · go_wp2_with fail
        refine ⟨⟨k + 1, by go_num, by omega, lookG_next HGK.out HLK.out hr⟩, ?_⟩
        simp [RowKit.intOf]; omega
    · have hkn : ¬ (k : Int) < (n : Int) := by omega
      have hm := lookG_miss (gs := gs) (r := r) (by have := HLK.out; rwa [List.take_of_length_le (by rw [HN.out]; omega)] at this)
      have HM := hid hm
      clear hm
      go_wp2_with fail
      refine bodyPost_ret (results77 (put4_blk HR.out _ _ _ _) rfl rfl) rfl ⟨?_, put4_below HB.out (by omega) _ _ _ _⟩
      rw [HM.out.1, HM.out.2]; rfl
end Go.Proofs.Ytdinlaoimpoolaa
namespace Go.Proofs.Ytdinlaoimpoolaa
open Go.RowKit

def bhd (a b : Pr) : Bool := decide (b.1 < a.1) || (decide (a.1 = b.1) && decide (b.2.1 < a.2.1))
theorem bhd_ord (a b : Pr) : bhd a b = decide (ordI b a < 0) := by
  have h := ord_lt b a
  unfold ltP at h
  unfold bhd
  by_cases hc : ordI b a < 0
  · rw [decide_eq_true hc]
    rcases h.1 hc with h1 | ⟨h1, h2⟩
    · rw [decide_eq_true h1]; rfl
    · rw [decide_eq_true h2, decide_eq_true h1.symm]; simp
  · rw [decide_eq_false hc]
    have n1 : ¬ b.1 < a.1 := fun e => hc (h.2 (.inl e))
    rw [decide_eq_false n1]
    by_cases h2 : a.1 = b.1
    · have n2 : ¬ b.2.1 < a.2.1 := fun e => hc (h.2 (.inr ⟨h2.symm, e⟩))
      rw [decide_eq_false n2]; simp
    · rw [decide_eq_false h2]; rfl
set_option maxRecDepth 100000 in
set_option maxHeartbeats 2000000 in
theorem behind_any (a b : Pr) (w : World) : Calls Try.prog 69 #[.agg (cp a).toArray, .agg (cp b).toArray] w fun e w' => e = .returned (.bool (bhd a b)) ∧ Below w.heap.size w w' := by
  obtain ⟨a0, a1, a2, a3, a4⟩ := a
  obtain ⟨b0, b1, b2, b3, b4⟩ := b
  have B0 : Below w.heap.size w ((w.alloc (.cells (cp (a0, a1, a2, a3, a4)).toArray 35)).alloc (.cells (cp (b0, b1, b2, b3, b4)).toArray 35)) := ((Below.refl _ w).alloc (Nat.le_refl _) _).alloc (by simp) _
  have HB := hid B0
  clear B0
  simp only [cp] at *
  by_cases h1 : b0 < a0
  · have e : bhd (a0, a1, a2, a3, a4) (b0, b1, b2, b3, b4) = true := by simp [bhd, h1]
    rw [e]
    go_enter Try.func69, Try.ntmps69
    go_wp2_with fail
    go_ret
    exact ⟨rfl, HB.out⟩
  · by_cases h2 : a0 = b0
    · subst h2
      by_cases h3 : b1 < a1
      · have e : bhd (a0, a1, a2, a3, a4) (a0, b1, b2, b3, b4) = true := by simp [bhd, h3]
        rw [e]
        go_enter Try.func69, Try.ntmps69
        go_wp2_with fail
        go_ret
        exact ⟨by simp, HB.out⟩
      · have e : bhd (a0, a1, a2, a3, a4) (a0, b1, b2, b3, b4) = false := by simp [bhd, h3]
        rw [e]
        go_enter Try.func69, Try.ntmps69
        go_wp2_with fail
        go_ret
        exact ⟨by simp, HB.out⟩
    · have e : bhd (a0, a1, a2, a3, a4) (b0, b1, b2, b3, b4) = false := by simp [bhd, h1, h2]
      rw [e]
      go_enter Try.func69, Try.ntmps69
      go_wp2_with fail
      go_ret
      exact ⟨by simp, HB.out⟩
end Go.Proofs.Ytdinlaoimpoolaa
namespace Go.Proofs.Ytdinlaoimpoolaa
open Go.RowKit

set_option maxRecDepth 100000 in
set_option maxHeartbeats 8000000 in
theorem paired_any (em : Int) (gs : List Gl) (ag ap : Option Addr) (ca m cb : Nat) (p : Pr) (w : World) (hu : ∀ g ∈ gs, units g = true) (hg : gs.length ≤ 9223372036854775807) (sg : Sl w ag gs.length (gs.flatMap cg)) :
    Calls Try.prog 68 #[.agg #[.int .i64 em, .slice ag gs.length ca, .slice ap m cb], .agg (cp p).toArray] w fun e w' => e = .returned (.bool (pairOK gs p)) ∧ Below w.heap.size w w' := by
  obtain ⟨p0, p1, is, lig, kern⟩ := p
  have w0 := wide_of hu p0
  have w1 := wide_of hu p1
  have HT : Hid (∀ r W, Below w.heap.size w W → Calls Try.prog 77 #[.agg #[.int .i64 em, .slice ag gs.length ca, .slice ap m cb], .int .i64 r] W fun e w' => e = .returned (.tuple #[.agg (cg (gotG gs r)).toArray, .bool (hasG gs r)]) ∧ Below W.heap.size W w') := fun r W h => refglyph_any em gs ag ap ca m cb r W hg (sg.below h)
  have ways := joins_ways (hasG gs p0) (hasG gs p1) (hasG gs lig) is lig kern (gotG gs p0).2.1 (gotG gs p1).2.1
  have HL := hid (HT.out p0)
  have HR := hid (HT.out p1)
  have HI := hid (HT.out lig)
  obtain ⟨q, hq⟩ : ∃ q, pairOK gs (p0, p1, is, lig, kern) = q := ⟨_, rfl⟩
  rw [hq]
  have HQ : Hid (pairOK gs (p0, p1, is, lig, kern) = q) := hq
  unfold pairOK at HQ
  simp only at HQ
  clear HT hu hq sg hg
  generalize hasG gs p0 = hl at *
  generalize hasG gs p1 = hr at *
  generalize hasG gs lig = hg at *
  generalize gotG gs p0 = g0 at *
  generalize gotG gs p1 = g1 at *
  generalize gotG gs lig = g2 at *
  generalize gs.length = n at *
  obtain ⟨x0, x1, x2, x3⟩ := g0
  obtain ⟨y0, y1, y2, y3⟩ := g1
  obtain ⟨z0, z1, z2, z3⟩ := g2
  simp only [cg, cp] at *
  have HW := hid ways
  have F0 := (Blk.new w #[.int .i64 em, .slice ag n ca, .slice ap m cb] 25 rfl).alloc (.cells #[.int .i64 p0, .int .i64 p1, .bool is, .int .i64 lig, .int .i64 kern] 35)
  have P0 := Blk.new (w.alloc (.cells #[.int .i64 em, .slice ag n ca, .slice ap m cb] 25)) #[.int .i64 p0, .int .i64 p1, .bool is, .int .i64 lig, .int .i64 kern] 35 (k := w.heap.size + 1) (by simp)
  have B0 : Below w.heap.size w ((w.alloc (.cells #[.int .i64 em, .slice ag n ca, .slice ap m cb] 25)).alloc (.cells #[.int .i64 p0, .int .i64 p1, .bool is, .int .i64 lig, .int .i64 kern] 35)) := ((Below.refl _ w).alloc (Nat.le_refl _) _).alloc (by simp) _
  have HF := hid F0
  have HP := hid P0
  have HB := hid B0
  clear ways F0 P0 B0
  go_enter Try.func68, Try.ntmps68
  go_wp2_with fail
  refine (HL.out _ HB.out).mono ?_
  rintro e w2 ⟨rfl, hb⟩
  have HF2 := hid ((HF.out.below hb).alloc (.cells #[.int .i64 x0, .int .i64 x1, .int .i64 x2, .int .i64 x3] 33))
  have HP2 := hid ((HP.out.below hb).alloc (.cells #[.int .i64 x0, .int .i64 x1, .int .i64 x2, .int .i64 x3] 33))
  have HB1 : Hid (Below w.heap.size w w2) := HB.out.trans (hb.mono HB.out.size)
  have HB2 := hid (HB1.out.alloc HB1.out.size (.cells #[.int .i64 x0, .int .i64 x1, .int .i64 x2, .int .i64 x3] 33))
  have HX2 := hid (Blk.new w2 #[.int .i64 x0, .int .i64 x1, .int .i64 x2, .int .i64 x3] 33 rfl)
  have f0 : (w2.alloc (.cells #[.int .i64 x0, .int .i64 x1, .int .i64 x2, .int .i64 x3] 33)).cell? ⟨w.heap.size, 0, none⟩ = some (.int .i64 em) := HF2.out.cell 0
  have f1 : (w2.alloc (.cells #[.int .i64 x0, .int .i64 x1, .int .i64 x2, .int .i64 x3] 33)).cell? ⟨w.heap.size, 1, none⟩ = some (.slice ag n ca) := HF2.out.cell 1
  have f2 : (w2.alloc (.cells #[.int .i64 x0, .int .i64 x1, .int .i64 x2, .int .i64 x3] 33)).cell? ⟨w.heap.size, 2, none⟩ = some (.slice ap m cb) := HF2.out.cell 2
  have c1 : (w2.alloc (.cells #[.int .i64 x0, .int .i64 x1, .int .i64 x2, .int .i64 x3] 33)).cell? ⟨w.heap.size + 1, 1, none⟩ = some (.int .i64 p1) := HP2.out.cell 1
  clear hb HF HP HB
  go_wp2_with fail
  refine (HR.out _ HB2.out).mono ?_
  rintro e w3 ⟨rfl, hb3⟩
  clear f0 f1 f2 c1
  have HF4 := hid ((HF2.out.below hb3).alloc (.cells #[.int .i64 y0, .int .i64 y1, .int .i64 y2, .int .i64 y3] 33))
  have HP4 := hid ((HP2.out.below hb3).alloc (.cells #[.int .i64 y0, .int .i64 y1, .int .i64 y2, .int .i64 y3] 33))
  have HX4 := hid ((HX2.out.below hb3).alloc (.cells #[.int .i64 y0, .int .i64 y1, .int .i64 y2, .int .i64 y3] 33))
  have HB3 : Hid (Below w.heap.size w w3) := HB2.out.trans (hb3.mono HB2.out.size)
  have HB4 := hid (HB3.out.alloc HB3.out.size (.cells #[.int .i64 y0, .int .i64 y1, .int .i64 y2, .int .i64 y3] 33))
  have HY4 := hid (Blk.new w3 #[.int .i64 y0, .int .i64 y1, .int .i64 y2, .int .i64 y3] 33 rfl)
  clear hb3 HF2 HP2 HX2 HB1 HB2
  have f0 : (w3.alloc (.cells #[.int .i64 y0, .int .i64 y1, .int .i64 y2, .int .i64 y3] 33)).cell? ⟨w.heap.size, 0, none⟩ = some (.int .i64 em) := HF4.out.cell 0
  have f1 : (w3.alloc (.cells #[.int .i64 y0, .int .i64 y1, .int .i64 y2, .int .i64 y3] 33)).cell? ⟨w.heap.size, 1, none⟩ = some (.slice ag n ca) := HF4.out.cell 1
  have f2 : (w3.alloc (.cells #[.int .i64 y0, .int .i64 y1, .int .i64 y2, .int .i64 y3] 33)).cell? ⟨w.heap.size, 2, none⟩ = some (.slice ap m cb) := HF4.out.cell 2
  have c2 : (w3.alloc (.cells #[.int .i64 y0, .int .i64 y1, .int .i64 y2, .int .i64 y3] 33)).cell? ⟨w.heap.size + 1, 2, none⟩ = some (.bool is) := HP4.out.cell 2
  have c3 : (w3.alloc (.cells #[.int .i64 y0, .int .i64 y1, .int .i64 y2, .int .i64 y3] 33)).cell? ⟨w.heap.size + 1, 3, none⟩ = some (.int .i64 lig) := HP4.out.cell 3
  have c4 : (w3.alloc (.cells #[.int .i64 y0, .int .i64 y1, .int .i64 y2, .int .i64 y3] 33)).cell? ⟨w.heap.size + 1, 4, none⟩ = some (.int .i64 kern) := HP4.out.cell 4
  have d1 : (w3.alloc (.cells #[.int .i64 y0, .int .i64 y1, .int .i64 y2, .int .i64 y3] 33)).cell? ⟨w2.heap.size, 1, none⟩ = some (.int .i64 x1) := HX4.out.cell 1
  have e1 : (w3.alloc (.cells #[.int .i64 y0, .int .i64 y1, .int .i64 y2, .int .i64 y3] 33)).cell? ⟨w3.heap.size, 1, none⟩ = some (.int .i64 y1) := HY4.out.cell 1
  rcases HW.out with h1 | ⟨h1, h2⟩ | ⟨h1, h2, h3, h4⟩ | ⟨h1, h2, h3, h4, h5⟩ | ⟨h1, h2, h3, h4, h5⟩ | ⟨h1, h2, h3, h4⟩ | ⟨h1, h2, h3, h4, h5⟩ | ⟨h1, h2, h3, h4, h5, h6⟩ | ⟨h1, h2, h3, h4, h5, h6, h7⟩ | ⟨h1, h2, h3, h4, h5, h6, h7⟩
  all_goals
    clear HW
    subst h1
    try subst h2
    try subst h3
  · go_wp2_with fail
    go_ret
    exact ⟨ret_bool (by rw [← HQ.out]; rfl), HB4.out⟩
  · go_wp2_with fail
    go_ret
    exact ⟨ret_bool (by rw [← HQ.out]; rfl), HB4.out⟩
  · subst h4
    go_wp2_with fail
    refine (HI.out _ HB4.out).mono ?_
    rintro e w4 ⟨rfl, hb4⟩
    have HB5 : Hid (Below w.heap.size w w4) := HB4.out.trans (hb4.mono HB4.out.size)
    clear hb4 f0 f1 f2 c2 c3 c4 d1 e1
    go_wp2_with fail
    go_ret
    exact ⟨ret_bool (by rw [← HQ.out]; rfl), HB5.out.alloc HB5.out.size _⟩
  · subst h4
    subst h5
    go_wp2_with fail
    refine (HI.out _ HB4.out).mono ?_
    rintro e w4 ⟨rfl, hb4⟩
    have HB5 : Hid (Below w.heap.size w w4) := HB4.out.trans (hb4.mono HB4.out.size)
    have q4 : (w4.alloc (.cells #[.int .i64 z0, .int .i64 z1, .int .i64 z2, .int .i64 z3] 33)).cell? ⟨w.heap.size + 1, 4, none⟩ = some (.int .i64 0) := ((HP4.out.below hb4).alloc _).cell 4
    clear hb4 f0 f1 f2 c2 c3 c4 d1 e1
    go_wp2_with fail
    go_ret
    exact ⟨ret_bool (by rw [← HQ.out]; rfl), HB5.out.alloc HB5.out.size _⟩
  · subst h4
    go_wp2_with fail
    refine (HI.out _ HB4.out).mono ?_
    rintro e w4 ⟨rfl, hb4⟩
    have HB5 : Hid (Below w.heap.size w w4) := HB4.out.trans (hb4.mono HB4.out.size)
    have q4 : (w4.alloc (.cells #[.int .i64 z0, .int .i64 z1, .int .i64 z2, .int .i64 z3] 33)).cell? ⟨w.heap.size + 1, 4, none⟩ = some (.int .i64 kern) := ((HP4.out.below hb4).alloc _).cell 4
    clear hb4 f0 f1 f2 c2 c3 c4 d1 e1
    go_wp2_with fail
    go_ret
    exact ⟨ret_bool (by rw [← HQ.out]; simp [h5]), HB5.out.alloc HB5.out.size _⟩
  -- no ligature: the lesser width is taken
  all_goals
    clear HI
    by_cases hm : y1 < x1
    · have hmn : min x1 y1 = y1 := by omega
      have HM := hid hmn
      first | rw [hmn] at h6 | skip
      clear hmn
      go_wp2_with fail
      go_ret
      refine ⟨ret_bool ?_, HB4.out⟩
      rw [← HQ.out]
      have hmn := HM.out
      first | (simp [kernOK, *]; done) | (simp [kernOK, *]; omega)
    · have hmn : min x1 y1 = x1 := by omega
      have HM := hid hmn
      first | rw [hmn] at h6 | skip
      clear hmn
      go_wp2_with fail
      go_ret
      refine ⟨ret_bool ?_, HB4.out⟩
      rw [← HQ.out]
      have hmn := HM.out
      first | (simp [kernOK, *]; done) | (simp [kernOK, *]; omega)
end Go.Proofs.Ytdinlaoimpoolaa
namespace Go.Proofs.Ytdinlaoimpoolaa
open Go.RowKit

/-- the rune ahead of place k -/
def ahead (gs : List Gl) : Nat → Int
  | 0 => -1
  | k + 1 => ((gs[k]?).map fun g => g.1).getD 0
theorem ahead_at {gs : List Gl} {k : Nat} {g : Gl} (h : gs[k]? = some g) : ahead gs (k + 1) = g.1 := by simp [ahead, h]
theorem width_pos {r : Int} (h : widthI r ≠ 0) : -1 < r := by
  unfold widthI at h
  split at h
  · exact absurd rfl h
  · omega
/-- one glyph as the reference asks of it -/
theorem glyph_ways (gs : List Gl) (k : Nat) (g : Gl) : (widthI g.1 = 0 ∧ okG (ahead gs k) g = false) ∨ (widthI g.1 ≠ 0 ∧ k ≠ 0 ∧ g.1 ≤ ahead gs k ∧ okG (ahead gs k) g = false) ∨
    (widthI g.1 ≠ 0 ∧ (k = 0 ∨ ¬ g.1 ≤ ahead gs k) ∧ inU g.2.1 = false ∧ okG (ahead gs k) g = false) ∨ (widthI g.1 ≠ 0 ∧ (k = 0 ∨ ¬ g.1 ≤ ahead gs k) ∧ inU g.2.1 = true ∧ inU g.2.2.1 = false ∧ okG (ahead gs k) g = false) ∨
    (widthI g.1 ≠ 0 ∧ (k = 0 ∨ ¬ g.1 ≤ ahead gs k) ∧ inU g.2.1 = true ∧ inU g.2.2.1 = true ∧ inU g.2.2.2 = false ∧ okG (ahead gs k) g = false) ∨
    (widthI g.1 ≠ 0 ∧ (k = 0 ∨ ¬ g.1 ≤ ahead gs k) ∧ inU g.2.1 = true ∧ inU g.2.2.1 = true ∧ inU g.2.2.2 = true ∧ okG (ahead gs k) g = true) := by
  unfold okG units
  by_cases h1 : widthI g.1 = 0
  · simp [h1]
  · have hp := width_pos h1
    by_cases h2 : k = 0
    · subst h2
      have e : ahead gs 0 = -1 := rfl
      rw [e]
      cases inU g.2.1 <;> cases inU g.2.2.1 <;> cases inU g.2.2.2 <;> simp [h1] <;> omega
    · by_cases h3 : g.1 ≤ ahead gs k
      · have : ¬ ahead gs k < g.1 := by omega
        simp [h1, h2, h3, this]
      · have : ahead gs k < g.1 := by omega
        cases inU g.2.1 <;> cases inU g.2.2.1 <;> cases inU g.2.2.2 <;> simp [h1, h2, h3, this]

set_option maxRecDepth 100000 in
set_option maxHeartbeats 8000000 in
theorem check_any (em : Int) (gs : List Gl) (ps : List Pr) (ag ap : Option Addr) (ca cb : Nat) (w : World) (hg : gs.length ≤ 9223372036854775807) (hp : ps.length ≤ 9223372036854775807) (sg : Sl w ag gs.length (gs.flatMap cg)) (sp : Sl w ap ps.length (ps.flatMap cp)) :
    Calls Try.prog 53 #[.agg #[.int .i64 em, .slice ag gs.length ca, .slice ap ps.length cb]] w fun e w' => e = .returned (.int .i64 (verd em gs ps)) ∧ Below w.heap.size w w' := by
  have HS : Hid (Sl w ag gs.length (gs.flatMap cg) ∧ Sl w ap ps.length (ps.flatMap cp)) := ⟨sg, sp⟩
  have HL : Hid (gs.length ≤ 9223372036854775807 ∧ ps.length ≤ 9223372036854775807) := ⟨hg, hp⟩
  have HF := hid (Blk.new w #[.int .i64 em, .slice ag gs.length ca, .slice ap ps.length cb] 25 rfl)
  have HB : Hid (Below w.heap.size w (w.alloc (.cells #[.int .i64 em, .slice ag gs.length ca, .slice ap ps.length cb] 25))) := (Below.refl _ w).alloc (Nat.le_refl _) _
  obtain ⟨v, hv⟩ : ∃ v, verd em gs ps = v := ⟨_, rfl⟩
  have ways := verd_ways em gs ps
  rw [hv] at ways ⊢
  obtain ⟨n, hne⟩ : ∃ n, gs.length = n := ⟨_, rfl⟩
  obtain ⟨q, hqe⟩ : ∃ q, ps.length = q := ⟨_, rfl⟩
  have HN := hid hne
  have HQ := hid hqe
  rw [hne, hqe] at ways HF HB ⊢
  have hgi : (n : Int) ≤ 9223372036854775807 := by omega
  have hpi : (q : Int) ≤ 9223372036854775807 := by omega
  clear sg sp hv hne hqe hg hp
  have HW := hid ways
  rcases ways with ⟨h1, rfl⟩ | ⟨h1, h2, rfl⟩ | ⟨h1, h2, h3, rfl⟩ | ⟨h1, h2, h3, h4, rfl⟩ | h
  · go_enter Try.func53, Try.ntmps53
    go_wp2_with fail
    go_ret
    exact ⟨rfl, HB.out⟩
  · go_enter Try.func53, Try.ntmps53
    go_wp2_with fail
    go_ret
    exact ⟨rfl, HB.out⟩
  · have h3i : (1024 : Int) < n := by omega
    go_enter Try.func53, Try.ntmps53
    go_wp2_with fail
    go_ret
    exact ⟨rfl, HB.out⟩
  · have h3i : ¬ (1024 : Int) < n := by omega
    have h4i : (4096 : Int) < q := by omega
    go_enter Try.func53, Try.ntmps53
    go_wp2_with fail
    go_ret
    exact ⟨rfl, HB.out⟩
  · have HH : Hid ((glOK (-1) gs = false ∧ v = 51) ∨ (glOK (-1) gs = true ∧ prOK gs none ps = false ∧ v = 52) ∨ (glOK (-1) gs = true ∧ prOK gs none ps = true ∧ v = 0)) := by
      rcases h with ⟨_, _, _, _, a, b⟩ | ⟨_, _, _, _, a, b, c⟩ | ⟨_, _, _, _, a, b, c⟩
      · exact .inl ⟨a, b⟩
      · exact .inr (.inl ⟨a, b, c⟩)
      · exact .inr (.inr ⟨a, b, c⟩)
    obtain ⟨h1, h2, h3, h4⟩ : ¬ em < 1 ∧ ¬ 16384 < em ∧ ¬ 1024 < n ∧ ¬ 4096 < q := by
      rcases h with ⟨a, b, c, d, _⟩ | ⟨a, b, c, d, _⟩ | ⟨a, b, c, d, _⟩ <;> exact ⟨a, b, c, d⟩
    have h3i : ¬ (1024 : Int) < n := by omega
    have h4i : ¬ (4096 : Int) < q := by omega
    have mf : Try.prog.follows .mixedOrders = true := by kernel_rfl
    have HV51 : Hid (glOK (-1) gs = false → v = 51) := hid fun e => by
      rcases HH.out with ⟨_, h⟩ | ⟨h, _⟩ | ⟨h, _⟩
      · exact h
      all_goals (rw [e] at h; cases h)
    clear h HW
    go_enter Try.func53, Try.ntmps53
    go_wp2_with fail
    obtain ⟨W0, hW0⟩ : ∃ W0, w.alloc (.cells #[.int .i64 em, .slice ag n ca, .slice ap q cb] 25) = W0 := ⟨_, rfl⟩
    rw [hW0] at HF HB ⊢
    clear hW0
    go_loopw [3] (fun vi wr => ∃ k : Nat, vi = .int .i64 k ∧ k ≤ n ∧ glOK (-1) gs = glOK (ahead gs k) (gs.drop k) ∧ Below w.heap.size w wr ∧ Blk wr w.heap.size [.int .i64 em, .slice ag n ca, .slice ap q cb] 25) (fun vi _ => n - (RowKit.intOf vi).toNat)
    case atStart => exact ⟨0, rfl, by omega, rfl, HB.out, HF.out⟩
    case round =>
      obtain ⟨k, rfl, hk, hgl, hb, hf⟩ := hrel
      have HGL := hid hgl
      have HB1 := hid hb
      have HF1 := hid hf
      have k1 : wr.cell? ⟨w.heap.size, 1, none⟩ = some (.slice ag n ca) := hf.cell 1
      clear hgl hb hf HF HB
      by_cases hlt : k < n
      · obtain ⟨g, hgk⟩ := some_at (xs := gs) (i := k) (by rw [HN.out]; exact hlt)
        obtain ⟨b, off, rfl, hbl, hga⟩ := HS.out.1.glyph hgk
        obtain ⟨c0, c1, c2, c3⟩ := hga.below HB1.out hbl
        have HD : Hid (glOK (-1) gs = (okG (ahead gs k) g && glOK (ahead gs (k + 1)) (gs.drop (k + 1)))) := by rw [ahead_at hgk]; exact HGL.out.trans (glOK_drop hgk)
        have HPV : Hid (∀ W, Below w.heap.size w W → ∀ j, k = j + 1 → W.cell? ⟨b, off + j * 4, none⟩ = some (.int .i64 (ahead gs k))) := hid fun W h j e => by
          subst e
          obtain ⟨g', hg'⟩ := some_at (xs := gs) (i := j) (by rw [HN.out]; omega)
          obtain ⟨b', off', e', hbl', hga'⟩ := HS.out.1.glyph hg'
          cases e'
          rw [ahead_at hg']
          exact (hga'.below h hbl').c0
        have ways := glyph_ways gs k g
        have hli : (k : Int) < (n : Int) := by omega
        have hl0 : (0 : Int) ≤ (k : Int) := by omega
        obtain ⟨r, wi, he, de⟩ := g
        have hR := fun W => refwidth_any r W
        simp only at c0 c1 c2 c3 ways
        clear hgk hga
        generalize ahead gs k = pr at *
        have HWY := hid ways
        generalize hwd : widthI r = wd at *
        clear hwd ways
        have HOX : Hid (Below w.heap.size w (wr.alloc (.cells #[.int .i64 r, .int .i64 wi, .int .i64 he, .int .i64 de] 33))) := HB1.out.alloc HB1.out.size _
        have HFX := hid (HF1.out.alloc (.cells #[.int .i64 r, .int .i64 wi, .int .i64 he, .int .i64 de] 33))
        have HBX := hid (Blk.new wr #[.int .i64 r, .int .i64 wi, .int .i64 he, .int .i64 de] 33 rfl)
        go_wp2_with fail
        obtain ⟨WX, hWX⟩ : ∃ WX, wr.alloc (.cells #[.int .i64 r, .int .i64 wi, .int .i64 he, .int .i64 de] 33) = WX := ⟨_, rfl⟩
        rw [hWX] at HOX HFX HBX ⊢
        clear hWX k1 c0 c1 c2 c3
        have HOB : Hid (∀ d os, Below w.heap.size w (behind WX d os)) := hid fun d os => HOX.out.trans ((below_behind WX d os).mono HOX.out.size)
        have HFB : Hid (∀ d os, Blk (behind WX d os) w.heap.size [.int .i64 em, .slice (some ⟨b, off, none⟩) n ca, .slice ap q cb] 25) := hid fun d os => HFX.out.below (below_behind WX d os)
        have x0 : ∀ d os, (behind WX d os).cell? ⟨wr.heap.size, 0, none⟩ = some (.int .i64 r) := fun d os => (cell_behind HBX.out.lt d os).trans (HBX.out.cell 0)
        have x1 : ∀ d os, (behind WX d os).cell? ⟨wr.heap.size, 1, none⟩ = some (.int .i64 wi) := fun d os => (cell_behind HBX.out.lt d os).trans (HBX.out.cell 1)
        have x2 : ∀ d os, (behind WX d os).cell? ⟨wr.heap.size, 2, none⟩ = some (.int .i64 he) := fun d os => (cell_behind HBX.out.lt d os).trans (HBX.out.cell 2)
        have x3 : ∀ d os, (behind WX d os).cell? ⟨wr.heap.size, 3, none⟩ = some (.int .i64 de) := fun d os => (cell_behind HBX.out.lt d os).trans (HBX.out.cell 3)
        have y1 : ∀ d os, (behind WX d os).cell? ⟨w.heap.size, 1, none⟩ = some (.slice (some ⟨b, off, none⟩) n ca) := fun d os => (HFB.out d os).cell 1
        rcases HWY.out with ⟨h5, h6⟩ | h
        · -- no rune
          subst h5
          have HO := hid h6
          clear h6 HWY
          refine wp_region_behind (by assumption) (by kernel_rfl) ?_
          repeat (go_big_quiet_step ((first | (go_at_call 61; refine Calls.behind_of ((hR _).mono fun _ _ h => ⟨h.1, by rw [h.2]; exact Below.refl _ _⟩)) | (go_at_call 67; refine Calls.behind_of ((within_any _ _).mono fun _ _ h => ⟨h.1, by rw [h.2]; exact Below.refl _ _⟩)))))
          refine wpQuiet_nil ?_
          intro _ hw'
          obtain ⟨⟨dq, osq⟩, hw''⟩ := hw'
          subst hw''
          clear x0 x1 x2 x3 y1
          go_wp2_with fail
          go_ret
          have hve := HV51.out (by rw [HD.out, HO.out]; rfl)
          subst hve
          exact ⟨rfl, HOB.out dq osq⟩
        · by_cases hk0 : k = 0
          · subst hk0
            rcases h with ⟨h5, hc, _⟩ | ⟨h5, _, a1, h6⟩ | ⟨h5, _, a1, a2, h6⟩ | ⟨h5, _, a1, a2, a3, h6⟩ | ⟨h5, _, a1, a2, a3, h6⟩
            · exact absurd rfl hc
            · have h5b : (wd == 0) = false := by simpa using h5
              have HO := hid h6
              clear h6 HWY
              refine wp_region_behind (by assumption) (by kernel_rfl) ?_
              repeat (go_big_quiet_step ((first | (go_at_call 61; refine Calls.behind_of ((hR _).mono fun _ _ h => ⟨h.1, by rw [h.2]; exact Below.refl _ _⟩)) | (go_at_call 67; refine Calls.behind_of ((within_any _ _).mono fun _ _ h => ⟨h.1, by rw [h.2]; exact Below.refl _ _⟩)))))
              refine wpQuiet_nil ?_
              intro _ hw'
              obtain ⟨⟨dq, osq⟩, hw''⟩ := hw'
              subst hw''
              clear x0 x1 x2 x3 y1
              go_wp2_with fail
              go_ret
              have hve := HV51.out (by rw [HD.out, HO.out]; rfl)
              subst hve
              exact ⟨rfl, HOB.out dq osq⟩
            · have h5b : (wd == 0) = false := by simpa using h5
              have HO := hid h6
              clear h6 HWY
              refine wp_region_behind (by assumption) (by kernel_rfl) ?_
              repeat (go_big_quiet_step ((first | (go_at_call 61; refine Calls.behind_of ((hR _).mono fun _ _ h => ⟨h.1, by rw [h.2]; exact Below.refl _ _⟩)) | (go_at_call 67; refine Calls.behind_of ((within_any _ _).mono fun _ _ h => ⟨h.1, by rw [h.2]; exact Below.refl _ _⟩)))))
              refine wpQuiet_nil ?_
              intro _ hw'
              obtain ⟨⟨dq, osq⟩, hw''⟩ := hw'
              subst hw''
              clear x0 x1 x2 x3 y1
              go_wp2_with fail
              go_ret
              have hve := HV51.out (by rw [HD.out, HO.out]; rfl)
              subst hve
              exact ⟨rfl, HOB.out dq osq⟩
            · have h5b : (wd == 0) = false := by simpa using h5
              have HO := hid h6
              clear h6 HWY
              refine wp_region_behind (by assumption) (by kernel_rfl) ?_
              repeat (go_big_quiet_step ((first | (go_at_call 61; refine Calls.behind_of ((hR _).mono fun _ _ h => ⟨h.1, by rw [h.2]; exact Below.refl _ _⟩)) | (go_at_call 67; refine Calls.behind_of ((within_any _ _).mono fun _ _ h => ⟨h.1, by rw [h.2]; exact Below.refl _ _⟩)))))
              refine wpQuiet_nil ?_
              intro _ hw'
              obtain ⟨⟨dq, osq⟩, hw''⟩ := hw'
              subst hw''
              clear x0 x1 x2 x3 y1
              go_wp2_with fail
              go_ret
              have hve := HV51.out (by rw [HD.out, HO.out]; rfl)
              subst hve
              exact ⟨rfl, HOB.out dq osq⟩
            · have h5b : (wd == 0) = false := by simpa using h5
              have HO := hid h6
              clear h6 HWY
              refine wp_region_behind (by assumption) (by kernel_rfl) ?_
              repeat (go_big_quiet_step ((first | (go_at_call 61; refine Calls.behind_of ((hR _).mono fun _ _ h => ⟨h.1, by rw [h.2]; exact Below.refl _ _⟩)) | (go_at_call 67; refine Calls.behind_of ((within_any _ _).mono fun _ _ h => ⟨h.1, by rw [h.2]; exact Below.refl _ _⟩)))))
              refine wpQuiet_nil ?_
              intro _ hw'
              obtain ⟨⟨dq, osq⟩, hw''⟩ := hw'
              subst hw''
              clear x0 x1 x2 x3 y1
              go_wp2_with fail
              refine ⟨⟨0 + 1, by go_num, by omega, by rw [HD.out, HO.out]; rfl, HOB.out _ _, HFB.out _ _⟩, ?_⟩
              simp [RowKit.intOf]; omega
          · obtain ⟨j, rfl⟩ : ∃ j, k = j + 1 := ⟨k - 1, by omega⟩
            have yp : ∀ d os, (behind WX d os).cell? ⟨b, off + j * 4, none⟩ = some (.int .i64 pr) := fun d os => HPV.out _ (HOB.out d os) j rfl
            have hj1 : ((j + 1 : Nat) : Int) - 1 = (j : Int) := by omega
            have hj2 : (j : Int) < (n : Int) := by omega
            have hj3 : (0 : Int) ≤ (j : Int) := by omega
            have hj4 : 0 < j + 1 := by omega
            have hj5 : (0 : Int) < ((j + 1 : Nat) : Int) := by omega
            rcases h with ⟨h5, _, h7, h6⟩ | ⟨h5, h7, a1, h6⟩ | ⟨h5, h7, a1, a2, h6⟩ | ⟨h5, h7, a1, a2, a3, h6⟩ | ⟨h5, h7, a1, a2, a3, h6⟩
            · have h8 : decide (r ≤ pr) = true := decide_eq_true h7
              have h5b : (wd == 0) = false := by simpa using h5
              have HO := hid h6
              clear h6 HWY
              refine wp_region_behind (by assumption) (by kernel_rfl) ?_
              repeat (go_big_quiet_step ((first | (go_at_call 61; refine Calls.behind_of ((hR _).mono fun _ _ h => ⟨h.1, by rw [h.2]; exact Below.refl _ _⟩)) | (go_at_call 67; refine Calls.behind_of ((within_any _ _).mono fun _ _ h => ⟨h.1, by rw [h.2]; exact Below.refl _ _⟩)))))
              refine wpQuiet_nil ?_
              intro _ hw'
              obtain ⟨⟨dq, osq⟩, hw''⟩ := hw'
              subst hw''
              clear x0 x1 x2 x3 y1 yp
              go_wp2_with fail
              go_ret
              have hve := HV51.out (by rw [HD.out, HO.out]; rfl)
              subst hve
              exact ⟨rfl, HOB.out dq osq⟩
            · have h9 : ¬ r ≤ pr := by rcases h7 with h7 | h7 <;> omega
              have h8 : decide (r ≤ pr) = false := decide_eq_false h9
              have h5b : (wd == 0) = false := by simpa using h5
              have HO := hid h6
              clear h6 HWY
              refine wp_region_behind (by assumption) (by kernel_rfl) ?_
              repeat (go_big_quiet_step ((first | (go_at_call 61; refine Calls.behind_of ((hR _).mono fun _ _ h => ⟨h.1, by rw [h.2]; exact Below.refl _ _⟩)) | (go_at_call 67; refine Calls.behind_of ((within_any _ _).mono fun _ _ h => ⟨h.1, by rw [h.2]; exact Below.refl _ _⟩)))))
              refine wpQuiet_nil ?_
              intro _ hw'
              obtain ⟨⟨dq, osq⟩, hw''⟩ := hw'
              subst hw''
              clear x0 x1 x2 x3 y1 yp
              go_wp2_with fail
              go_ret
              have hve := HV51.out (by rw [HD.out, HO.out]; rfl)
              subst hve
              exact ⟨rfl, HOB.out dq osq⟩
            · have h9 : ¬ r ≤ pr := by rcases h7 with h7 | h7 <;> omega
              have h8 : decide (r ≤ pr) = false := decide_eq_false h9
              have h5b : (wd == 0) = false := by simpa using h5
              have HO := hid h6
              clear h6 HWY
              refine wp_region_behind (by assumption) (by kernel_rfl) ?_
              repeat (go_big_quiet_step ((first | (go_at_call 61; refine Calls.behind_of ((hR _).mono fun _ _ h => ⟨h.1, by rw [h.2]; exact Below.refl _ _⟩)) | (go_at_call 67; refine Calls.behind_of ((within_any _ _).mono fun _ _ h => ⟨h.1, by rw [h.2]; exact Below.refl _ _⟩)))))
              refine wpQuiet_nil ?_
              intro _ hw'
              obtain ⟨⟨dq, osq⟩, hw''⟩ := hw'
              subst hw''
              clear x0 x1 x2 x3 y1 yp
              go_wp2_with fail
              go_ret
              have hve := HV51.out (by rw [HD.out, HO.out]; rfl)
              subst hve
              exact ⟨rfl, HOB.out dq osq⟩
            · have h9 : ¬ r ≤ pr := by rcases h7 with h7 | h7 <;> omega
              have h8 : decide (r ≤ pr) = false := decide_eq_false h9
              have h5b : (wd == 0) = false := by simpa using h5
              have HO := hid h6
              clear h6 HWY
              refine wp_region_behind (by assumption) (by kernel_rfl) ?_
              repeat (go_big_quiet_step ((first | (go_at_call 61; refine Calls.behind_of ((hR _).mono fun _ _ h => ⟨h.1, by rw [h.2]; exact Below.refl _ _⟩)) | (go_at_call 67; refine Calls.behind_of ((within_any _ _).mono fun _ _ h => ⟨h.1, by rw [h.2]; exact Below.refl _ _⟩)))))
              refine wpQuiet_nil ?_
              intro _ hw'
              obtain ⟨⟨dq, osq⟩, hw''⟩ := hw'
              subst hw''
              clear x0 x1 x2 x3 y1 yp
              go_wp2_with fail
              go_ret
              have hve := HV51.out (by rw [HD.out, HO.out]; rfl)
              subst hve
              exact ⟨rfl, HOB.out dq osq⟩
            · have h9 : ¬ r ≤ pr := by rcases h7 with h7 | h7 <;> omega
              have h8 : decide (r ≤ pr) = false := decide_eq_false h9
              have h5b : (wd == 0) = false := by simpa using h5
              have HO := hid h6
              clear h6 HWY
              refine wp_region_behind (by assumption) (by kernel_rfl) ?_
              repeat (go_big_quiet_step ((first | (go_at_call 61; refine Calls.behind_of ((hR _).mono fun _ _ h => ⟨h.1, by rw [h.2]; exact Below.refl _ _⟩)) | (go_at_call 67; refine Calls.behind_of ((within_any _ _).mono fun _ _ h => ⟨h.1, by rw [h.2]; exact Below.refl _ _⟩)))))
              refine wpQuiet_nil ?_
              intro _ hw'
              obtain ⟨⟨dq, osq⟩, hw''⟩ := hw'
              subst hw''
              clear x0 x1 x2 x3 y1 yp
              go_wp2_with fail
              refine ⟨⟨j + 1 + 1, by go_num, by omega, by rw [HD.out, HO.out]; rfl, HOB.out _ _, HFB.out _ _⟩, ?_⟩
              simp [RowKit.intOf]; omega
      · have hkn : ¬ (k : Int) < (n : Int) := by omega
        have hgt : glOK (-1) gs = true := by rw [HGL.out, List.drop_eq_nil_of_le (by rw [HN.out]; omega)]; rfl
        have HG1 := hid hgt
        have HV : Hid ((prOK gs none ps = false → v = 52) ∧ (prOK gs none ps = true → v = 0)) := by
          rcases HH.out with ⟨h, _⟩ | ⟨_, h, h'⟩ | ⟨_, h, h'⟩
          · rw [hgt] at h; cases h
          · exact ⟨fun _ => h', fun e => absurd (e.symm.trans h) (by decide)⟩
          · exact ⟨fun e => absurd (e.symm.trans h) (by decide), fun _ => h'⟩
        clear hgt
        go_wp2_with fail
        clear HGL k1 HV51 HH hkn
        go_loopw [5] (fun vi wr => ∃ k : Nat, vi = .int .i64 k ∧ k ≤ q ∧ prOK gs none ps = prOK gs (prev ps k) (ps.drop k) ∧ Below w.heap.size w wr ∧ Blk wr w.heap.size [.int .i64 em, .slice ag n ca, .slice ap q cb] 25) (fun vi _ => q - (RowKit.intOf vi).toNat)
        case atStart => exact ⟨0, rfl, by omega, rfl, HB1.out, HF1.out⟩
        case round =>
          obtain ⟨k2, rfl, hk2, hpl, hb, hf⟩ := hrel
          have HPL := hid hpl
          have HB2 := hid hb
          have HF2 := hid hf
          have k2c : wr.cell? ⟨w.heap.size, 2, none⟩ = some (.slice ap q cb) := hf.cell 2
          clear hpl hb hf HF1 HB1
          by_cases hlt2 : k2 < q
          · obtain ⟨p, hpk⟩ := some_at (xs := ps) (i := k2) (by rw [HQ.out]; exact hlt2)
            obtain ⟨b, off, rfl, hbl, hga⟩ := HS.out.2.pair hpk
            have HU := hid (units_of HG1.out)
            have HX : Hid (∀ d os, Below w.heap.size w (behind wr d os)) := hid fun d os => HB2.out.trans ((below_behind wr d os).mono HB2.out.size)
            have HFX : Hid (∀ d os, Blk (behind wr d os) w.heap.size [.int .i64 em, .slice ag n ca, .slice (some ⟨b, off, none⟩) q cb] 25) := hid fun d os => HF2.out.below (below_behind wr d os)
            have y0 : ∀ d os, (behind wr d os).cell? ⟨w.heap.size, 0, none⟩ = some (.int .i64 em) := fun d os => (HFX.out d os).cell 0
            have y1 : ∀ d os, (behind wr d os).cell? ⟨w.heap.size, 1, none⟩ = some (.slice ag n ca) := fun d os => (HFX.out d os).cell 1
            have y2 : ∀ d os, (behind wr d os).cell? ⟨w.heap.size, 2, none⟩ = some (.slice (some ⟨b, off, none⟩) q cb) := fun d os => (HFX.out d os).cell 2
            have x0 := fun d os => (hga.below (HX.out d os) hbl).c0
            have x1 := fun d os => (hga.below (HX.out d os) hbl).c1
            have x2 := fun d os => (hga.below (HX.out d os) hbl).c2
            have x3 := fun d os => (hga.below (HX.out d os) hbl).c3
            have x4 := fun d os => (hga.below (HX.out d os) hbl).c4
            have HD : Hid (prOK gs none ps = (okP gs (prev ps k2) p && prOK gs (prev ps (k2 + 1)) (ps.drop (k2 + 1)))) := hid (HPL.out.trans (prOK_drop hpk))
            obtain ⟨po, hpo⟩ : ∃ po, pairOK gs p = po := ⟨_, rfl⟩
            have HPO := hid hpo
            have hP : ∀ d os, Calls Try.prog 68 #[.agg #[.int .i64 em, .slice ag n ca, .slice (some ⟨b, off, none⟩) q cb], .agg (cp p).toArray] (behind wr d os) fun e w' => e = .returned (.bool po) ∧ Below (behind wr d os).heap.size (behind wr d os) w' := fun d os => by
              have := paired_any em gs ag (some ⟨b, off, none⟩) ca q cb p (behind wr d os) HU.out (by rw [HN.out]; omega) (HS.out.1.below (HX.out d os))
              rw [HN.out, hpo] at this
              exact this
            have HB41 : Hid (∀ p' d os, Calls Try.prog 69 #[.agg (cp p).toArray, .agg (cp p').toArray] (behind wr d os) fun e w' => e = .returned (.bool (decide (ordI p' p < 0))) ∧ Below (behind wr d os).heap.size (behind wr d os) w') := hid fun p' d os => by
              have := behind_any p p' (behind wr d os)
              rw [bhd_ord] at this
              exact this
            have HPV : Hid (∀ j, k2 = j + 1 → ∃ p', prev ps k2 = some p' ∧ ∀ W, Below w.heap.size w W → PAt W b (off + j * 5) p') := hid fun j e => by
              subst e
              obtain ⟨p', hp'⟩ := some_at (xs := ps) (i := j) (by rw [HQ.out]; omega)
              obtain ⟨b', off', e', hbl', hga'⟩ := HS.out.2.pair hp'
              cases e'
              exact ⟨p', hp', fun W h => hga'.below h hbl'⟩
            have hli : (k2 : Int) < (q : Int) := by omega
            have hl0 : (0 : Int) ≤ (k2 : Int) := by omega
            clear hpk hga hpo
            have HNX : Hid (okP gs (prev ps k2) p = true → prOK gs none ps = prOK gs (prev ps (k2 + 1)) (ps.drop (k2 + 1))) := hid fun h => by rw [HD.out, h]; rfl
            have HNO : Hid (okP gs (prev ps k2) p = false → v = 52) := hid fun h => HV.out.1 (by rw [HD.out, h]; rfl)
            clear HD
            cases po with
            | false =>
              have HO := hid (HNO.out (okP_false HPO.out))
              obtain ⟨p0, p1, p2, p3, p4⟩ := p
              simp only [cp] at hP x0 x1 x2 x3 x4
              go_wp2_with fail
              refine wp_region_behind (by assumption) (by kernel_rfl) ?_
              repeat (go_big_quiet_step ((go_at_call 68; refine Calls.behind_of (hP _ _))))
              refine wpQuiet_nil ?_
              intro _ hw'
              obtain ⟨⟨dq, osq⟩, hw''⟩ := hw'
              subst hw''
              clear x0 x1 x2 x3 x4 y0 y1 y2
              go_wp2_with fail
              go_ret
              have hve := HO.out
              subst hve
              exact ⟨rfl, HX.out dq osq⟩
            | true =>
              by_cases hk0 : k2 = 0
              · have HO := hid (HNX.out (okP_none HPO.out (by rw [hk0]; rfl)))
                have hkz : ¬ (0 : Int) < (k2 : Int) := by omega
                have hkz2 : decide ((0 : Int) < (k2 : Int)) = false := decide_eq_false hkz
                have hkz3 : ¬ 0 < k2 := by omega
                have HK0 := hid hk0
                clear hk0
                obtain ⟨p0, p1, p2, p3, p4⟩ := p
                simp only [cp] at hP x0 x1 x2 x3 x4
                go_wp2_with fail
                refine wp_region_behind (by assumption) (by kernel_rfl) ?_
                repeat (go_big_quiet_step ((go_at_call 68; refine Calls.behind_of (hP _ _))))
                refine wpQuiet_nil ?_
                intro _ hw'
                obtain ⟨⟨dq, osq⟩, hw''⟩ := hw'
                subst hw''
                clear x0 x1 x2 x3 x4 y0 y1 y2
                go_wp2_with fail
                refine ⟨⟨k2 + 1, by go_num, by omega, HO.out, HX.out _ _, HFX.out _ _⟩, ?_⟩
                simp [RowKit.intOf]; omega
              · obtain ⟨j, rfl⟩ : ∃ j, k2 = j + 1 := ⟨k2 - 1, by omega⟩
                obtain ⟨p', hpr, hpa⟩ := HPV.out j rfl
                have z0 := fun d os => (hpa _ (HX.out d os)).c0
                have z1 := fun d os => (hpa _ (HX.out d os)).c1
                have z2 := fun d os => (hpa _ (HX.out d os)).c2
                have z3 := fun d os => (hpa _ (HX.out d os)).c3
                have z4 := fun d os => (hpa _ (HX.out d os)).c4
                have hj1 : ((j + 1 : Nat) : Int) - 1 = (j : Int) := by omega
                have hj2 : (j : Int) < (q : Int) := by omega
                have hj3 : (0 : Int) ≤ (j : Int) := by omega
                have hj4 : 0 < j + 1 := by omega
                have hj5 : (0 : Int) < ((j + 1 : Nat) : Int) := by omega
                have hB := HB41.out p'
                obtain ⟨bo, hbo⟩ : ∃ bo, decide (ordI p' p < 0) = bo := ⟨_, rfl⟩
                rw [hbo] at hB
                have HO : Hid (okP gs (prev ps (j + 1)) p = bo) := hid (okP_some HPO.out hpr hbo)
                clear hbo hpr hpa
                obtain ⟨p0, p1, p2, p3, p4⟩ := p
                obtain ⟨r0, r1, r2, r3, r4⟩ := p'
                simp only [cp] at hP hB x0 x1 x2 x3 x4 z0 z1 z2 z3 z4
                cases bo with
                | false =>
                  have HO1 := hid (HNO.out HO.out)
                  go_wp2_with fail
                  refine wp_region_behind (by assumption) (by kernel_rfl) ?_
                  repeat (go_big_quiet_step ((first | (go_at_call 68; refine Calls.behind_of (hP _ _)) | (go_at_call 69; refine Calls.behind_of (hB _ _)))))
                  refine wpQuiet_nil ?_
                  intro _ hw'
                  obtain ⟨⟨dq, osq⟩, hw''⟩ := hw'
                  subst hw''
                  clear x0 x1 x2 x3 x4 y0 y1 y2 z0 z1 z2 z3 z4
                  go_wp2_with fail
                  go_ret
                  have hve := HO1.out
                  subst hve
                  exact ⟨rfl, HX.out dq osq⟩
                | true =>
                  have HO1 := hid (HNX.out HO.out)
                  go_wp2_with fail
                  refine wp_region_behind (by assumption) (by kernel_rfl) ?_
                  repeat (go_big_quiet_step ((first | (go_at_call 68; refine Calls.behind_of (hP _ _)) | (go_at_call 69; refine Calls.behind_of (hB _ _)))))
                  refine wpQuiet_nil ?_
                  intro _ hw'
                  obtain ⟨⟨dq, osq⟩, hw''⟩ := hw'
                  subst hw''
                  clear x0 x1 x2 x3 x4 y0 y1 y2 z0 z1 z2 z3 z4
                  go_wp2_with fail
                  refine ⟨⟨j + 1 + 1, by go_num, by omega, HO1.out, HX.out _ _, HFX.out _ _⟩, ?_⟩
                  simp [RowKit.intOf]; omega
          · have hkn : ¬ (k2 : Int) < (q : Int) := by omega
            have hpt : prOK gs none ps = true := by rw [HPL.out, List.drop_eq_nil_of_le (by rw [HQ.out]; omega)]; rfl
            have hv0 := HV.out.2 hpt
            have HV0 := hid hv0
            clear hpt hv0
            go_wp2_with fail
            go_ret
            have hve := HV0.out
            subst hve
            exact ⟨rfl, HB2.out⟩
end Go.Proofs.Ytdinlaoimpoolaa
