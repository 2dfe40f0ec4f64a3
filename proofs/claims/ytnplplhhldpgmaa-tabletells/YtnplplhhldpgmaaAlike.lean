/- same, the law's own: two fonts that are alike; plain; beyond. -/
import Derived.Test.YtnplplhhldpgmaaClone
import Derived.Test.YtnplplhhldpgmaaQuiet
namespace Go.Proofs.Ytnplplhhldpgmaa
open Go.RowKit

theorem guard45 : Try.prog.eqGuardType Try.prog.depth 45 = false := by kernel_rfl
theorem guard52 : Try.prog.eqGuardType Try.prog.depth 52 = false := by kernel_rfl
theorem GAt.below {W W' : World} {b o n : Nat} {g : Gl} (h : GAt W b o g) (k : Below n W W') (hb : b < n) : GAt W' b o g := by
  have f := fun o => k.cell (p := ⟨b, o, none⟩) hb
  exact ⟨(f _).trans h.c0, (f _).trans h.c1, (f _).trans h.c2, (f _).trans h.c3⟩
theorem PAt.below {W W' : World} {b o n : Nat} {p : Pr} (h : PAt W b o p) (k : Below n W W') (hb : b < n) : PAt W' b o p := by
  have f := fun o => k.cell (p := ⟨b, o, none⟩) hb
  exact ⟨(f _).trans h.c0, (f _).trans h.c1, (f _).trans h.c2, (f _).trans h.c3, (f _).trans h.c4⟩
set_option maxRecDepth 100000 in
set_option maxHeartbeats 4000000 in
theorem same_true (em : Int) (gs : List Gl) (ps : List Pr) (a1 a2 b1 b2 : Option Addr) (c1 c2 d1 d2 : Nat) (w : World) (hg : gs.length ≤ 2147483647) (hp : ps.length ≤ 2147483647)
    (sa : Sl w a1 gs.length (gs.flatMap cg)) (sb : Sl w b1 ps.length (ps.flatMap cp)) (ta : Sl w a2 gs.length (gs.flatMap cg)) (tb : Sl w b2 ps.length (ps.flatMap cp)) :
    Calls Try.prog 18 #[.agg #[.int .i64 em, .slice a1 gs.length c1, .slice b1 ps.length d1], .agg #[.int .i64 em, .slice a2 gs.length c2, .slice b2 ps.length d2]] w fun e w' => e = .returned (.bool true) ∧ Below w.heap.size w w' := by
  have HSA : Hid (Sl w a1 gs.length (gs.flatMap cg) ∧ Sl w b1 ps.length (ps.flatMap cp) ∧ Sl w a2 gs.length (gs.flatMap cg) ∧ Sl w b2 ps.length (ps.flatMap cp)) := ⟨sa, sb, ta, tb⟩
  obtain ⟨n, hn⟩ : ∃ n, gs.length = n := ⟨_, rfl⟩
  obtain ⟨m, hm⟩ : ∃ m, ps.length = m := ⟨_, rfl⟩
  have HN : Hid (gs.length = n) := hn
  have HM : Hid (ps.length = m) := hm
  rw [hn] at hg ⊢
  rw [hm] at hp ⊢
  clear sa sb ta tb hn hm
  have X := (Blk.new w #[.int .i64 em, .slice a1 n c1, .slice b1 m d1] 25 rfl).alloc (.cells #[.int .i64 em, .slice a2 n c2, .slice b2 m d2] 25)
  have Y := Blk.new (w.alloc (.cells #[.int .i64 em, .slice a1 n c1, .slice b1 m d1] 25)) #[.int .i64 em, .slice a2 n c2, .slice b2 m d2] 25 (k := w.heap.size + 1) (by simp)
  have B0 : Below w.heap.size w ((w.alloc (.cells #[.int .i64 em, .slice a1 n c1, .slice b1 m d1] 25)).alloc (.cells #[.int .i64 em, .slice a2 n c2, .slice b2 m d2] 25)) := ((Below.refl _ w).alloc (Nat.le_refl _) _).alloc (by simp) _
  go_enter Try.func18, Try.ntmps18
  go_wp2_with fail
  obtain ⟨W0, hW⟩ : ∃ W, (w.alloc (.cells #[.int .i64 em, .slice a1 n c1, .slice b1 m d1] 25)).alloc (.cells #[.int .i64 em, .slice a2 n c2, .slice b2 m d2] 25) = W := ⟨_, rfl⟩
  rw [hW] at X Y B0 ⊢
  have HX : Hid (∀ W, Below W0.heap.size W0 W → Blk W w.heap.size [.int .i64 em, .slice a1 n c1, .slice b1 m d1] 25 ∧ Blk W (w.heap.size + 1) [.int .i64 em, .slice a2 n c2, .slice b2 m d2] 25) := fun W h => ⟨X.below h, Y.below h⟩
  have HB0 : Hid (Below w.heap.size w W0) := B0
  have mf : Try.prog.follows .mixedOrders = true := by kernel_rfl
  clear hW X Y B0
  go_loopw [5] (fun vi wr => ∃ k : Nat, vi = .int .i64 k ∧ k ≤ n ∧ Below W0.heap.size W0 wr) (fun vi _ => n - (RowKit.intOf vi).toNat)
  case atStart => exact ⟨0, rfl, by omega, Below.refl _ _⟩
  case round =>
    obtain ⟨k, rfl, hk, hb⟩ := hrel
    have HB : Hid (Below W0.heap.size W0 wr) := hb
    obtain ⟨x, y⟩ := HX.out wr hb
    have x1 : wr.cell? ⟨w.heap.size, 1, none⟩ = some (.slice a1 n c1) := x.cell 1
    have hx := x.lt
    have hy := y.lt
    clear hb
    by_cases hlt : k < n
    · obtain ⟨g, hgk⟩ := some_at (xs := gs) (i := k) (by rw [HN.out]; exact hlt)
      obtain ⟨b, off, rfl, hbl, hga⟩ := HSA.out.1.glyph hgk
      obtain ⟨b', off', rfl, hbl', hga'⟩ := HSA.out.2.2.1.glyph hgk
      have HW : Hid (Below w.heap.size w wr) := HB0.out.trans (HB.out.mono HB0.out.size)
      have A := fun d os => hga.below (HW.out.trans ((below_behind wr d os).mono HW.out.size)) hbl
      have A' := fun d os => hga'.below (HW.out.trans ((below_behind wr d os).mono HW.out.size)) hbl'
      have xb := fun d os (c : Nat) => (cell_behind hx d os (o := c)).trans (x.cell c)
      have yb := fun d os (c : Nat) => (cell_behind hy d os (o := c)).trans (y.cell c)
      have q1 : ∀ d os, (behind wr d os).cell? ⟨w.heap.size, 1, none⟩ = some (.slice (some ⟨b, off, none⟩) n c1) := fun d os => xb d os 1
      have q2 : ∀ d os, (behind wr d os).cell? ⟨w.heap.size + 1, 1, none⟩ = some (.slice (some ⟨b', off', none⟩) n c2) := fun d os => yb d os 1
      have e0 := fun d os => (A d os).c0
      have e1 := fun d os => (A d os).c1
      have e2 := fun d os => (A d os).c2
      have e3 := fun d os => (A d os).c3
      have f0 := fun d os => (A' d os).c0
      have f1 := fun d os => (A' d os).c1
      have f2 := fun d os => (A' d os).c2
      have f3 := fun d os => (A' d os).c3
      have hne := fun W => neqG g g W
      obtain ⟨g0, g1, g2, g3⟩ := g
      simp only [cg, decide_true, Bool.not_true] at hne e0 e1 e2 e3 f0 f1 f2 f3
      have hgd := guard45
      have hli : (k : Int) < (n : Int) := by omega
      have hl0 : (0 : Int) ≤ (k : Int) := by omega
      clear A A' xb yb x y hga hga' hgk
      go_wp2_with fail
      refine wp_region_behind (by assumption) (by kernel_rfl) ?_
      repeat (go_big_quiet_step (fail))
      refine wpQuiet_nil ?_
      intro _ hw'
      obtain ⟨⟨dq, osq⟩, hw''⟩ := hw'
      subst hw''
      go_wp2_with fail
      refine ⟨⟨k + 1, by go_num, by omega, HB.out.trans ((below_behind _ _ _).mono HB.out.size)⟩, ?_⟩
      simp [RowKit.intOf]; omega
    · have hkn : ¬ (k : Int) < (n : Int) := by omega
      clear x y
      go_wp2_with fail
      clear x1 hx hy
      go_loopw [6] (fun vi wr => ∃ k : Nat, vi = .int .i64 k ∧ k ≤ m ∧ Below W0.heap.size W0 wr) (fun vi _ => m - (RowKit.intOf vi).toNat)
      case atStart => exact ⟨0, rfl, by omega, HB.out⟩
      case round =>
        rename_i wr
        clear hlt hkn hk HB
        obtain ⟨k, rfl, hk, hb⟩ := hrel
        have HB : Hid (Below W0.heap.size W0 wr) := hb
        obtain ⟨x, y⟩ := HX.out wr hb
        have x1 : wr.cell? ⟨w.heap.size, 2, none⟩ = some (.slice b1 m d1) := x.cell 2
        have hx := x.lt
        have hy := y.lt
        clear hb
        by_cases hlt : k < m
        · obtain ⟨p, hpk⟩ := some_at (xs := ps) (i := k) (by rw [HM.out]; exact hlt)
          obtain ⟨b, off, rfl, hbl, hga⟩ := HSA.out.2.1.pair hpk
          obtain ⟨b', off', rfl, hbl', hga'⟩ := HSA.out.2.2.2.pair hpk
          have HW : Hid (Below w.heap.size w wr) := HB0.out.trans (HB.out.mono HB0.out.size)
          have A := fun d os => hga.below (HW.out.trans ((below_behind wr d os).mono HW.out.size)) hbl
          have A' := fun d os => hga'.below (HW.out.trans ((below_behind wr d os).mono HW.out.size)) hbl'
          have xb := fun d os (c : Nat) => (cell_behind hx d os (o := c)).trans (x.cell c)
          have yb := fun d os (c : Nat) => (cell_behind hy d os (o := c)).trans (y.cell c)
          have q1 : ∀ d os, (behind wr d os).cell? ⟨w.heap.size, 2, none⟩ = some (.slice (some ⟨b, off, none⟩) m d1) := fun d os => xb d os 2
          have q2 : ∀ d os, (behind wr d os).cell? ⟨w.heap.size + 1, 2, none⟩ = some (.slice (some ⟨b', off', none⟩) m d2) := fun d os => yb d os 2
          have e0 := fun d os => (A d os).c0
          have e1 := fun d os => (A d os).c1
          have e2 := fun d os => (A d os).c2
          have e3 := fun d os => (A d os).c3
          have e4 := fun d os => (A d os).c4
          have f0 := fun d os => (A' d os).c0
          have f1 := fun d os => (A' d os).c1
          have f2 := fun d os => (A' d os).c2
          have f3 := fun d os => (A' d os).c3
          have f4 := fun d os => (A' d os).c4
          have hne := fun W => neqP p p W
          obtain ⟨g0, g1, g2, g3, g4⟩ := p
          simp only [cp, decide_true, Bool.not_true] at hne e0 e1 e2 e3 e4 f0 f1 f2 f3 f4
          have hgd := guard52
          have hli : (k : Int) < (m : Int) := by omega
          have hl0 : (0 : Int) ≤ (k : Int) := by omega
          clear A A' xb yb x y hga hga' hpk
          go_wp2_with fail
          refine wp_region_behind (by assumption) (by kernel_rfl) ?_
          repeat (go_big_quiet_step (fail))
          refine wpQuiet_nil ?_
          intro _ hw'
          obtain ⟨⟨dq, osq⟩, hw''⟩ := hw'
          subst hw''
          go_wp2_with fail
          refine ⟨⟨k + 1, by go_num, by omega, HB.out.trans ((below_behind _ _ _).mono HB.out.size)⟩, ?_⟩
          simp [RowKit.intOf]; omega
        · have hkn : ¬ (k : Int) < (m : Int) := by omega
          clear x y
          go_wp2_with fail
          go_ret
          exact ⟨rfl, HB0.out.trans (HB.out.mono HB0.out.size)⟩

/-- the document's font, with a kern -/
def plainG : List Gl := [(97, 500, 700, 200), (98, 400, 700, 0), (102, 300, 700, 0), (64257, 500, 700, 0)]
def plainP (k : Int) : List Pr := [(97, 98, false, 0, k), (102, 97, true, 64257, 0)]
set_option maxRecDepth 100000 in
set_option maxHeartbeats 2000000 in
theorem plain_any (k : Int) (w : World) : Calls Try.prog 20 #[.int .i64 k] w fun e w' => ∃ ad bd, e = .returned (.agg #[.int .i64 1000, .slice ad (plainG).length 4, .slice bd (plainP k).length 2]) ∧ Sl w' ad plainG.length (plainG.flatMap cg) ∧ Sl w' bd (plainP k).length ((plainP k).flatMap cp) ∧ Below w.heap.size w w' := by
  go_enter Try.func20, Try.ntmps20
  go_wp2_with fail
  refine bodyPost_ret (v := .agg #[.int .i64 1000, .slice (some ⟨w.heap.size + 1, 0, none⟩) 4 4, .slice (some ⟨w.heap.size + 1 + 1, 0, none⟩) 2 2]) (by simp [results, Try.results20, go_sem]) rfl ⟨some ⟨w.heap.size + 1, 0, none⟩, some ⟨w.heap.size + 1 + 1, 0, none⟩, rfl, fun _ => ⟨_, 0, rfl, ?_⟩, fun _ => ⟨_, 0, rfl, ?_⟩, ?_⟩
  · refine ⟨by simp, fun j u hj => ?_⟩
    have := ((Blk.new (w.alloc (.cells #[.int .i64 1000, .slice (some ⟨w.heap.size + 1, 0, none⟩) 4 4, .slice (some ⟨w.heap.size + 1 + 1, 0, none⟩) 2 2] 25)) (plainG.flatMap cg).toArray 45 (k := w.heap.size + 1) (by simp)).alloc (.cells ((plainP k).flatMap cp).toArray 52)).cell j
    rw [Nat.zero_add]
    exact this.trans hj
  · refine ⟨by simp, fun j u hj => ?_⟩
    have := (Blk.new ((w.alloc (.cells #[.int .i64 1000, .slice (some ⟨w.heap.size + 1, 0, none⟩) 4 4, .slice (some ⟨w.heap.size + 1 + 1, 0, none⟩) 2 2] 25)).alloc (.cells (plainG.flatMap cg).toArray 45)) ((plainP k).flatMap cp).toArray 52 (k := w.heap.size + 1 + 1) (by simp)).cell j
    rw [Nat.zero_add]
    exact this.trans hj
  · exact (((Below.refl _ w).alloc (Nat.le_refl _) _).alloc (by simp) _).alloc (by simp; omega) _
set_option maxHeartbeats 400000 in
theorem beyond_any (em : Value) (ad bd : Option Addr) (n m c d : Nat) (w : World) (hem : ∃ x, em = .int .i64 x) :
    Calls Try.prog 7 #[.agg #[em, .slice ad n c, .slice bd m d]] w fun e w' => e = .returned (.bool (decide (2147483647 < n + m))) ∧ Below w.heap.size w w' := by
  obtain ⟨x, rfl⟩ := hem
  have hm := fun W => more_any (n : Int) (m : Int) W (by omega) (by omega)
  by_cases h : 2147483647 < n + m
  · rw [decide_eq_true h]
    have hi : (2147483647 : Int) < (n : Int) + (m : Int) := by omega
    simp only [hi, if_true] at hm
    go_enter Try.func7, Try.ntmps7
    go_wp2_with (go_at_call 19; refine (hm _).mono ?_; rintro e w' ⟨rfl, rfl⟩)
    go_ret
    exact ⟨rfl, (Below.refl _ w).alloc (Nat.le_refl _) _⟩
  · rw [decide_eq_false h]
    have hi : ¬ (2147483647 : Int) < (n : Int) + (m : Int) := by omega
    have hi2 : (n : Int) + (m : Int) ≤ 2147483647 := by omega
    simp only [hi, if_false] at hm
    go_enter Try.func7, Try.ntmps7
    go_wp2_with (go_at_call 19; refine (hm _).mono ?_; rintro e w' ⟨rfl, rfl⟩)
    go_ret
    exact ⟨by first | rfl | (simp; omega), (Below.refl _ w).alloc (Nat.le_refl _) _⟩
end Go.Proofs.Ytnplplhhldpgmaa
