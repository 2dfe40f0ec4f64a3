/- same: two fonts alike are told so. -/
import Derived.Test.YtdinlaoimpoolaaRd
namespace Go.Proofs.Ytdinlaoimpoolaa
open Go.RowKit

theorem guard33 : Try.prog.eqGuardType Try.prog.depth 33 = false := by kernel_rfl
theorem guard35 : Try.prog.eqGuardType Try.prog.depth 35 = false := by kernel_rfl
theorem GAt.below {W W' : World} {b o n : Nat} {g : Gl} (h : GAt W b o g) (k : Below n W W') (hb : b < n) : GAt W' b o g := by
  have f := fun o => k.cell (p := ⟨b, o, none⟩) hb
  exact ⟨(f _).trans h.c0, (f _).trans h.c1, (f _).trans h.c2, (f _).trans h.c3⟩
theorem PAt.below {W W' : World} {b o n : Nat} {p : Pr} (h : PAt W b o p) (k : Below n W W') (hb : b < n) : PAt W' b o p := by
  have f := fun o => k.cell (p := ⟨b, o, none⟩) hb
  exact ⟨(f _).trans h.c0, (f _).trans h.c1, (f _).trans h.c2, (f _).trans h.c3, (f _).trans h.c4⟩
set_option maxRecDepth 100000 in
set_option maxHeartbeats 4000000 in
theorem glyphs_true (gs : List Gl) (a1 a2 : Option Addr) (c1 c2 : Nat) (w : World) (hg : gs.length ≤ 9223372036854775807) (sa : Sl w a1 gs.length (gs.flatMap cg)) (sb : Sl w a2 gs.length (gs.flatMap cg)) :
    Calls Try.prog 29 #[.slice a1 gs.length c1, .slice a2 gs.length c2] w fun e w' => e = .returned (.bool true) ∧ Below w.heap.size w w' := by
  have HSA : Hid (Sl w a1 gs.length (gs.flatMap cg) ∧ Sl w a2 gs.length (gs.flatMap cg)) := ⟨sa, sb⟩
  obtain ⟨n, hn⟩ : ∃ n, gs.length = n := ⟨_, rfl⟩
  have HN : Hid (gs.length = n) := hn
  rw [hn] at hg ⊢
  clear sa sb hn
  have mf : Try.prog.follows .mixedOrders = true := by kernel_rfl
  go_enter Try.func29, Try.ntmps29
  go_wp2_with fail
  go_loopw [5] (fun vi wr => ∃ k : Nat, vi = .int .i64 k ∧ k ≤ n ∧ Below w.heap.size w wr) (fun vi _ => n - (RowKit.intOf vi).toNat)
  case atStart => exact ⟨0, rfl, by omega, Below.refl _ _⟩
  case round =>
    obtain ⟨k, rfl, hk, hb⟩ := hrel
    have HB : Hid (Below w.heap.size w wr) := hb
    clear hb
    by_cases hlt : k < n
    · obtain ⟨g, hgk⟩ := some_at (xs := gs) (i := k) (by rw [HN.out]; exact hlt)
      obtain ⟨b, off, rfl, hbl, hga⟩ := HSA.out.1.glyph hgk
      obtain ⟨b', off', rfl, hbl', hga'⟩ := HSA.out.2.glyph hgk
      have A := fun d os => hga.below (HB.out.trans ((below_behind wr d os).mono HB.out.size)) hbl
      have A' := fun d os => hga'.below (HB.out.trans ((below_behind wr d os).mono HB.out.size)) hbl'
      have e0 := fun d os => (A d os).c0
      have e1 := fun d os => (A d os).c1
      have e2 := fun d os => (A d os).c2
      have e3 := fun d os => (A d os).c3
      have f0 := fun d os => (A' d os).c0
      have f1 := fun d os => (A' d os).c1
      have f2 := fun d os => (A' d os).c2
      have f3 := fun d os => (A' d os).c3
      have hkl : (k : Int) < (n : Int) := by omega
      have hk0 : (0 : Int) ≤ (k : Int) := by omega
      have hq : ∀ W, Sem.run Try.prog (binOp .neq 33 (.agg #[.int .i64 g.1, .int .i64 g.2.1, .int .i64 g.2.2.1, .int .i64 g.2.2.2]) (.agg #[.int .i64 g.1, .int .i64 g.2.1, .int .i64 g.2.2.1, .int .i64 g.2.2.2])) W = .ok (.bool false) W := fun W => by
        have := neqG g g W
        rw [decide_eq_true rfl] at this
        exact this
      have hgd := guard33
      have HLT := hid hlt
      clear A A' hga hga' hbl hbl' hgk hlt
      go_wp2_with fail
      refine wp_region_behind (by assumption) (by kernel_rfl) ?_
      repeat (go_big_quiet_step (fail))
      refine wpQuiet_nil ?_
      intro _ hw'
      obtain ⟨⟨dq, osq⟩, hw''⟩ := hw'
      subst hw''
      go_wp2_with fail
      refine ⟨⟨k + 1, by go_num, by have := HLT.out; omega, HB.out.trans ((below_behind _ _ _).mono HB.out.size)⟩, ?_⟩
      have := HLT.out
      simp [RowKit.intOf]; omega
    · have hkl : ¬ (k : Int) < (n : Int) := by omega
      clear hlt
      go_wp2_with fail
      go_ret
      exact ⟨rfl, HB.out⟩
set_option maxRecDepth 100000 in
set_option maxHeartbeats 4000000 in
theorem pairs_true (ps : List Pr) (a1 a2 : Option Addr) (c1 c2 : Nat) (w : World) (hg : ps.length ≤ 9223372036854775807) (sa : Sl w a1 ps.length (ps.flatMap cp)) (sb : Sl w a2 ps.length (ps.flatMap cp)) :
    Calls Try.prog 30 #[.slice a1 ps.length c1, .slice a2 ps.length c2] w fun e w' => e = .returned (.bool true) ∧ Below w.heap.size w w' := by
  have HSA : Hid (Sl w a1 ps.length (ps.flatMap cp) ∧ Sl w a2 ps.length (ps.flatMap cp)) := ⟨sa, sb⟩
  obtain ⟨n, hn⟩ : ∃ n, ps.length = n := ⟨_, rfl⟩
  have HN : Hid (ps.length = n) := hn
  rw [hn] at hg ⊢
  clear sa sb hn
  have mf : Try.prog.follows .mixedOrders = true := by kernel_rfl
  go_enter Try.func30, Try.ntmps30
  go_wp2_with fail
  go_loopw [5] (fun vi wr => ∃ k : Nat, vi = .int .i64 k ∧ k ≤ n ∧ Below w.heap.size w wr) (fun vi _ => n - (RowKit.intOf vi).toNat)
  case atStart => exact ⟨0, rfl, by omega, Below.refl _ _⟩
  case round =>
    obtain ⟨k, rfl, hk, hb⟩ := hrel
    have HB : Hid (Below w.heap.size w wr) := hb
    clear hb
    by_cases hlt : k < n
    · obtain ⟨g, hgk⟩ := some_at (xs := ps) (i := k) (by rw [HN.out]; exact hlt)
      obtain ⟨b, off, rfl, hbl, hga⟩ := HSA.out.1.pair hgk
      obtain ⟨b', off', rfl, hbl', hga'⟩ := HSA.out.2.pair hgk
      have A := fun d os => hga.below (HB.out.trans ((below_behind wr d os).mono HB.out.size)) hbl
      have A' := fun d os => hga'.below (HB.out.trans ((below_behind wr d os).mono HB.out.size)) hbl'
      have e0 := fun d os => (A d os).c0
      have e1 := fun d os => (A d os).c1
      have e2 := fun d os => (A d os).c2
      have e3 := fun d os => (A d os).c3
      have f0 := fun d os => (A' d os).c0
      have f1 := fun d os => (A' d os).c1
      have f2 := fun d os => (A' d os).c2
      have f3 := fun d os => (A' d os).c3
      have e4 := fun d os => (A d os).c4
      have f4 := fun d os => (A' d os).c4
      have hkl : (k : Int) < (n : Int) := by omega
      have hk0 : (0 : Int) ≤ (k : Int) := by omega
      have hq : ∀ W, Sem.run Try.prog (binOp .neq 35 (.agg #[.int .i64 g.1, .int .i64 g.2.1, .bool g.2.2.1, .int .i64 g.2.2.2.1, .int .i64 g.2.2.2.2]) (.agg #[.int .i64 g.1, .int .i64 g.2.1, .bool g.2.2.1, .int .i64 g.2.2.2.1, .int .i64 g.2.2.2.2])) W = .ok (.bool false) W := fun W => by
        have := neqP g g W
        rw [decide_eq_true rfl] at this
        exact this
      have hgd := guard35
      have HLT := hid hlt
      clear A A' hga hga' hbl hbl' hgk hlt
      go_wp2_with fail
      refine wp_region_behind (by assumption) (by kernel_rfl) ?_
      repeat (go_big_quiet_step (fail))
      refine wpQuiet_nil ?_
      intro _ hw'
      obtain ⟨⟨dq, osq⟩, hw''⟩ := hw'
      subst hw''
      go_wp2_with fail
      refine ⟨⟨k + 1, by go_num, by have := HLT.out; omega, HB.out.trans ((below_behind _ _ _).mono HB.out.size)⟩, ?_⟩
      have := HLT.out
      simp [RowKit.intOf]; omega
    · have hkl : ¬ (k : Int) < (n : Int) := by omega
      clear hlt
      go_wp2_with fail
      go_ret
      exact ⟨rfl, HB.out⟩
set_option maxRecDepth 100000 in
set_option maxHeartbeats 4000000 in
theorem same_true (em : Int) (gs : List Gl) (ps : List Pr) (a1 a2 b1 b2 : Option Addr) (c1 c2 d1 d2 : Nat) (w : World) (hg : gs.length ≤ 9223372036854775807) (hp : ps.length ≤ 9223372036854775807)
    (sa : Sl w a1 gs.length (gs.flatMap cg)) (sb : Sl w b1 ps.length (ps.flatMap cp)) (ta : Sl w a2 gs.length (gs.flatMap cg)) (tb : Sl w b2 ps.length (ps.flatMap cp)) :
    Calls Try.prog 12 #[.agg #[.int .i64 em, .slice a1 gs.length c1, .slice b1 ps.length d1], .agg #[.int .i64 em, .slice a2 gs.length c2, .slice b2 ps.length d2]] w fun e w' => e = .returned (.bool true) ∧ Below w.heap.size w w' := by
  have HG := hid (fun X (h : Below w.heap.size w X) => glyphs_true gs a1 a2 c1 c2 X hg (sa.below h) (ta.below h))
  have HP := hid (fun X (h : Below w.heap.size w X) => pairs_true ps b1 b2 d1 d2 X hp (sb.below h) (tb.below h))
  obtain ⟨n, hn⟩ : ∃ n, gs.length = n := ⟨_, rfl⟩
  obtain ⟨m, hm⟩ : ∃ m, ps.length = m := ⟨_, rfl⟩
  rw [hn] at HG ⊢
  rw [hm] at HP ⊢
  clear sa sb ta tb hn hm hg hp
  have HX := hid ((Blk.new w #[.int .i64 em, .slice a1 n c1, .slice b1 m d1] 25 rfl).alloc (.cells #[.int .i64 em, .slice a2 n c2, .slice b2 m d2] 25))
  have HY := hid (Blk.new (w.alloc (.cells #[.int .i64 em, .slice a1 n c1, .slice b1 m d1] 25)) #[.int .i64 em, .slice a2 n c2, .slice b2 m d2] 25 (k := w.heap.size + 1) (by simp))
  have HB0 : Hid (Below w.heap.size w ((w.alloc (.cells #[.int .i64 em, .slice a1 n c1, .slice b1 m d1] 25)).alloc (.cells #[.int .i64 em, .slice a2 n c2, .slice b2 m d2] 25))) := hid (((Below.refl _ w).alloc (Nat.le_refl _) _).alloc (by simp) _)
  obtain ⟨h, hh⟩ : ∃ h, w.heap.size = h := ⟨_, rfl⟩
  go_enter Try.func12, Try.ntmps12
  go_wp2_with fail
  rw [hh] at HX HY
  obtain ⟨W1, hW1⟩ : ∃ W1, (w.alloc (.cells #[.int .i64 em, .slice a1 n c1, .slice b1 m d1] 25)).alloc (.cells #[.int .i64 em, .slice a2 n c2, .slice b2 m d2] 25) = W1 := ⟨_, rfl⟩
  rw [hW1] at HX HY HB0 ⊢
  clear hW1
  refine (HG.out W1 HB0.out).mono ?_
  rintro e w2 ⟨rfl, hb2⟩
  have HB2 := hid (HB0.out.trans (hb2.mono HB0.out.size))
  have HX2 := hid (HX.out.below hb2)
  have HY2 := hid (HY.out.below hb2)
  clear hb2 HX HY HB0
  have x2 : w2.cell? ⟨h, 2, none⟩ = some (.slice b1 m d1) := HX2.out.cell 2
  have y2 : w2.cell? ⟨h + 1, 2, none⟩ = some (.slice b2 m d2) := HY2.out.cell 2
  go_wp2_with fail
  refine (HP.out w2 HB2.out).mono ?_
  rintro e w3 ⟨rfl, hb3⟩
  have HB3 := hid (HB2.out.trans (hb3.mono HB2.out.size))
  have HX3 := hid (HX2.out.below hb3)
  have HY3 := hid (HY2.out.below hb3)
  clear hb3 x2 y2
  have x0 : w3.cell? ⟨h, 0, none⟩ = some (.int .i64 em) := HX3.out.cell 0
  have y0 : w3.cell? ⟨h + 1, 0, none⟩ = some (.int .i64 em) := HY3.out.cell 0
  go_wp2_with fail
  go_ret
  exact ⟨by simp, HB3.out⟩
end Go.Proofs.Ytdinlaoimpoolaa
