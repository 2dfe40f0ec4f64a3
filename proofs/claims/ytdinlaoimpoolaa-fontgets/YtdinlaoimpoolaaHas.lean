/- Is there a glyph of this rune? May a kern be so? -/
import Derived.Test.YtdinlaoimpoolaaBytesAll
import Derived.Deep.Cut
import Derived.Deep.CutRange
namespace Go.Proofs.Ytdinlaoimpoolaa
open Go.RowKit

set_option maxRecDepth 100000 in
set_option maxHeartbeats 1000000 in
theorem has_any (r a : Nat) (gs : List Gl) (n : Int) (xs : List Value) (W : World) (hB : Blk W r xs 81) (h18 : xs[18]? = some (.pointer (some ⟨a, 0, none⟩))) (hT : TG W a gs) :
    Calls Try.prog 80 #[.pointer (some ⟨r, 0, none⟩), .int .i64 n] W fun e w' => e = .returned (.bool (hasG gs n)) ∧ Below W.heap.size W w' := by
  have c := (hB.cell 18).trans h18
  have HG : Hid (Calls Try.prog 74 _ W _) := hT.glyph n
  obtain ⟨b, hb⟩ : ∃ b, hasG gs n = b := ⟨_, rfl⟩
  obtain ⟨g, hg⟩ : ∃ g, gotG gs n = g := ⟨_, rfl⟩
  rw [hb, hg] at HG
  rw [hb]
  clear hB h18 hT hb hg
  obtain ⟨g0, g1, g2, g3⟩ := g
  simp only [cg] at HG
  go_enter Try.func80, Try.ntmps80
  go_wp2_with (go_at_call 74; refine HG.out.mono ?_; rintro e w' ⟨rfl, hb⟩)
  go_ret
  exact ⟨rfl, hb.alloc hb.size _⟩

abbrev put4 (W : World) (B : Nat) (a b c d : Int) : World := (((W.setCell ⟨B, 0, none⟩ (.int .i64 a)).setCell ⟨B, 1, none⟩ (.int .i64 b)).setCell ⟨B, 2, none⟩ (.int .i64 c)).setCell ⟨B, 3, none⟩ (.int .i64 d)
theorem put4_blk {W : World} {B : Nat} (hR : Blk W B [.int .i64 0, .int .i64 0, .int .i64 0, .int .i64 0] 33) (a b c d : Int) : Blk (put4 W B a b c d) B [.int .i64 a, .int .i64 b, .int .i64 c, .int .i64 d] 33 :=
  (((hR.set 0 _).set 1 _).set 2 _).set 3 _
theorem put4_below {w W : World} {n B : Nat} (h : Below n w W) (hB : n ≤ B) (a b c d : Int) : Below n w (put4 W B a b c d) :=
  (((h.setCell (p := ⟨B, 0, none⟩) hB _).setCell (p := ⟨B, 1, none⟩) hB _).setCell (p := ⟨B, 2, none⟩) hB _).setCell (p := ⟨B, 3, none⟩) hB _
theorem meetG1 {w w5 : World} (hp : Bool) (p0 p1 p2 p3 : Int) (hb : Below w.heap.size w w5) : ∃ b, (Value.pointer (some ⟨w5.heap.size, 0, none⟩) = .pointer (some ⟨b, 0, none⟩) ∧ Blk (w5.alloc (.cells #[.int .i64 p0, .int .i64 p1, .int .i64 p2, .int .i64 p3] 33)) b [.int .i64 p0, .int .i64 p1, .int .i64 p2, .int .i64 p3] 33 ∧ Below w.heap.size w (w5.alloc (.cells #[.int .i64 p0, .int .i64 p1, .int .i64 p2, .int .i64 p3] 33))) ∧ Value.bool hp = .bool hp :=
  ⟨_, ⟨rfl, Blk.new w5 _ 33 rfl, hb.alloc hb.size _⟩, rfl⟩
theorem meetG2 {w w5 : World} (hp : Bool) (p0 p1 p2 p3 : Int) (hb : Below (w.heap.size + 1) (w.alloc (.cells #[.int .i64 0, .int .i64 0, .int .i64 0, .int .i64 0] 33)) w5) : ∃ b, (Value.pointer (some ⟨w.heap.size, 0, none⟩) = .pointer (some ⟨b, 0, none⟩) ∧ Blk (put4 w5 w.heap.size p0 p1 p2 p3) b [.int .i64 p0, .int .i64 p1, .int .i64 p2, .int .i64 p3] 33 ∧ Below w.heap.size w (put4 w5 w.heap.size p0 p1 p2 p3)) ∧ Value.bool hp = .bool hp := by
  have b0 := Blk.new w #[.int .i64 0, .int .i64 0, .int .i64 0, .int .i64 0] 33 rfl
  have b1 : Blk w5 w.heap.size [.int .i64 0, .int .i64 0, .int .i64 0, .int .i64 0] 33 := (hb.block _ (Nat.lt_succ_self _)).trans b0
  exact ⟨_, ⟨rfl, put4_blk b1 _ _ _ _, put4_below (((Below.refl _ w).alloc (Nat.le_refl _) _).trans (hb.mono (by omega))) (Nat.le_refl _) _ _ _ _⟩, rfl⟩
theorem zerosG {w w5 : World} (hb : Below (w.alloc (.cells #[.int .i64 0, .int .i64 0, .int .i64 0, .int .i64 0] 33)).heap.size (w.alloc (.cells #[.int .i64 0, .int .i64 0, .int .i64 0, .int .i64 0] 33)) w5) :
    w5.cell? ⟨w.heap.size, 0, none⟩ = some (.int .i64 0) ∧ w5.cell? ⟨w.heap.size, 1, none⟩ = some (.int .i64 0) ∧ w5.cell? ⟨w.heap.size, 2, none⟩ = some (.int .i64 0) ∧ w5.cell? ⟨w.heap.size, 3, none⟩ = some (.int .i64 0) ∧
      w5.frozen? ⟨w.heap.size, 0, none⟩ = false ∧ w5.frozen? ⟨w.heap.size, 1, none⟩ = false ∧ w5.frozen? ⟨w.heap.size, 2, none⟩ = false ∧ w5.frozen? ⟨w.heap.size, 3, none⟩ = false := by
  have b1 := (Blk.new w #[.int .i64 0, .int .i64 0, .int .i64 0, .int .i64 0] 33 rfl).below hb
  exact ⟨b1.cell 0, b1.cell 1, b1.cell 2, b1.cell 3, b1.froz 0, b1.froz 1, b1.froz 2, b1.froz 3⟩
set_option maxRecDepth 100000 in
set_option maxHeartbeats 2000000 in
theorem mayKern_any (r a : Nat) (s : St) (xs : List Value) (k : Int) (W : World) (hB : Blk W r xs 81) (h13 : xs[13]? = some (.int .i64 s.p.1)) (h14 : xs[14]? = some (.int .i64 s.p.2.1)) (h17 : xs[17]? = some (.int .i64 k)) (h18 : xs[18]? = some (.pointer (some ⟨a, 0, none⟩))) (hT : TG W a s.gs)
    (hu : ∀ n, inU (gotG s.gs n).2.1 = true) :
    Calls Try.prog 82 #[.pointer (some ⟨r, 0, none⟩)] W fun e w' => e = .returned (.bool (mayK s k)) ∧ Below W.heap.size W w' := by
  have HB := hid hB
  have HG1 : Hid (∀ X, Below W.heap.size W X → _) := hid fun X (h : Below W.heap.size W X) => (hT.below h).glyph s.p.1
  have HG2 : Hid (∀ X, Below W.heap.size W X → _) := hid fun X (h : Below W.heap.size W X) => (hT.below h).glyph s.p.2.1
  have c13 := (hB.cell 13).trans h13
  have c14 := (hB.cell 14).trans h14
  have c17 := (hB.cell 17).trans h17
  have c18 := (hB.cell 18).trans h18
  have hu1 := hu s.p.1
  have hu2 := hu s.p.2.1
  have HM : Hid (mayK s k = (decide (k ≠ 0) && (decide (k ≤ 16384) && decide (-(min (gotG s.gs s.p.1).2.1 (gotG s.gs s.p.2.1).2.1) ≤ k)))) := hid rfl
  obtain ⟨q1, hq1⟩ : ∃ q, s.p.1 = q := ⟨_, rfl⟩
  obtain ⟨q2, hq2⟩ : ∃ q, s.p.2.1 = q := ⟨_, rfl⟩
  rw [hq1] at HG1 c13 hu1 HM h13
  rw [hq2] at HG2 c14 hu2 HM h14
  obtain ⟨x, hx⟩ : ∃ x, gotG s.gs q1 = x := ⟨_, rfl⟩
  obtain ⟨y, hy⟩ : ∃ x, gotG s.gs q2 = x := ⟨_, rfl⟩
  obtain ⟨b1, hb1⟩ : ∃ x, hasG s.gs q1 = x := ⟨_, rfl⟩
  obtain ⟨b2, hb2⟩ : ∃ x, hasG s.gs q2 = x := ⟨_, rfl⟩
  rw [hx] at HG1 hu1 HM
  rw [hy] at HG2 hu2 HM
  rw [hb1] at HG1
  rw [hb2] at HG2
  obtain ⟨x0, x1, x2, x3⟩ := x
  obtain ⟨y0, y1, y2, y3⟩ := y
  simp only [inU, decide_eq_true_eq] at hu1 hu2
  obtain ⟨u1, u2⟩ := hu1
  obtain ⟨u3, u4⟩ := hu2
  simp only [cg] at HG1 HG2
  simp only at HM
  obtain ⟨q, hq⟩ : ∃ q, mayK s k = q := ⟨_, rfl⟩
  rw [hq] at HM ⊢
  clear hq hB hT hu hq1 hq2 hx hy hb1 hb2 h13 h14 h17 h18
  have HX : Hid (∀ X, Below W.heap.size W X → X.cell? ⟨r, 18, none⟩ = some (.pointer (some ⟨a, 0, none⟩)) ∧ X.cell? ⟨r, 13, none⟩ = some (.int .i64 q1)) := hid fun X h => by
    have f := fun o => h.cell (p := ⟨r, o, none⟩) HB.out.lt
    exact ⟨(f 18).trans c18, (f 13).trans c13⟩
  have HY : Hid (∀ X, Below W.heap.size W X → X.cell? ⟨r, 18, none⟩ = some (.pointer (some ⟨a, 0, none⟩)) ∧ X.cell? ⟨r, 14, none⟩ = some (.int .i64 q2)) := hid fun X h => by
    have f := fun o => h.cell (p := ⟨r, o, none⟩) HB.out.lt
    exact ⟨(f 18).trans c18, (f 14).trans c14⟩
  have HZ : Hid (∀ X, Below W.heap.size W X → X.cell? ⟨r, 17, none⟩ = some (.int .i64 k)) := hid fun X h => (h.cell (p := ⟨r, 17, none⟩) HB.out.lt).trans c17
  clear HB c13 c14 c17 c18
  have hS0 := HX.out W (Below.refl _ _)
  obtain ⟨t0, t1⟩ := hS0
  go_enter Try.func82, Try.ntmps82
  go_wp2_with fail
  go_cut [3, 4] from 8 to 20 (fun p th wx => ∃ bp, (p = .pointer (some ⟨bp, 0, none⟩) ∧ Blk wx bp [.int .i64 x0, .int .i64 x1, .int .i64 x2, .int .i64 x3] 33 ∧ Below W.heap.size W wx) ∧ th = .bool b1)
  case first =>
    have HLB : Hid (W.heap.size ≤ W.heap.size) := hid (Nat.le_refl _)
    have HB2 : Hid (Below W.heap.size W W) := hid (Below.refl _ _)
    go_region_held3 (fun X => X.cell? ⟨r, 18, none⟩ = some (.pointer (some ⟨a, 0, none⟩)) ∧ X.cell? ⟨r, 13, none⟩ = some (.int .i64 q1))
      (first | with_reducible exact HX.out _ HB2.out.drew | with_reducible exact HX.out _ HX0.out | with_reducible exact HX.out _ (HX0.out.alloc HX0.out.size _) | with_reducible exact HX.out _ (HB2.out.alloc HB2.out.size _).drew | with_reducible exact HX.out _ (HB2.out.drew.alloc HB2.out.size _) | with_reducible exact HX.out _ (put4_below HX0.out HLB.out _ _ _ _))
      ((go_at_call 74; refine (HG1.out _ ?_).mono ?_; (first | exact HB2.out.drew | exact HB2.out | exact (HB2.out.drew).alloc HB2.out.size _ | exact (HB2.out.alloc HB2.out.size _).drew); rintro e w5 ⟨rfl, hb5⟩; have HB5 := hid (undrew hb5); have HX0 : Hid (Below W.heap.size W w5) := hid (by first | exact HB2.out.trans ((undrew hb5).mono HB2.out.size) | exact (HB2.out.alloc HB2.out.size _).trans ((undrew hb5).mono (HB2.out.alloc HB2.out.size _).size)); clear hb5; (first | (have hz := zerosG HB5.out; obtain ⟨z0, z1, z2, z3, f0, f1, f2, f3⟩ := hz) | skip)))
    · (try go_wp2_with fail)
      go_meet
      exact meetG1 _ _ _ _ _ HB5.out
    · (try go_wp2_with fail)
      go_meet
      exact meetG2 _ _ _ _ _ (HB5.out.mono (by simp))
  case rest =>
    obtain ⟨bp, ⟨rfl, hbk, hbw⟩, rfl⟩ := hcut
    obtain ⟨W2, hW2⟩ : ∃ W2, wc = W2 := ⟨_, rfl⟩
    rw [hW2] at hbk hbw ⊢
    clear hW2
    have HB2 : Hid (Below W.heap.size W W2) := hid hbw
    have HK := hid hbk
    have HLB := hid hbw.size
    clear t0 t1 hbk hbw
    obtain ⟨t0, t1⟩ := HY.out _ HB2.out
    go_wp2_with fail
    go_cut [5, 6] from 21 to 33 (fun p th wx => ∃ bp, (p = .pointer (some ⟨bp, 0, none⟩) ∧ Blk wx bp [.int .i64 y0, .int .i64 y1, .int .i64 y2, .int .i64 y3] 33 ∧ Below W2.heap.size W2 wx) ∧ th = .bool b2)
    case first =>
      go_region_held3 (fun X => X.cell? ⟨r, 18, none⟩ = some (.pointer (some ⟨a, 0, none⟩)) ∧ X.cell? ⟨r, 14, none⟩ = some (.int .i64 q2))
        (first | with_reducible exact HY.out _ HB2.out.drew | with_reducible exact HY.out _ HX0.out | with_reducible exact HY.out _ (HX0.out.alloc HX0.out.size _) | with_reducible exact HY.out _ (HB2.out.alloc HB2.out.size _).drew | with_reducible exact HY.out _ (HB2.out.drew.alloc HB2.out.size _) | with_reducible exact HY.out _ (put4_below HX0.out HLB.out _ _ _ _))
        ((go_at_call 74; refine (HG2.out _ ?_).mono ?_; (first | exact HB2.out.drew | exact HB2.out | exact (HB2.out.drew).alloc HB2.out.size _ | exact (HB2.out.alloc HB2.out.size _).drew); rintro e w5 ⟨rfl, hb5⟩; have HB5 := hid (undrew hb5); have HX0 : Hid (Below W.heap.size W w5) := hid (by first | exact HB2.out.trans ((undrew hb5).mono HB2.out.size) | exact (HB2.out.alloc HB2.out.size _).trans ((undrew hb5).mono (HB2.out.alloc HB2.out.size _).size)); clear hb5; (first | (have hz := zerosG HB5.out; obtain ⟨z0, z1, z2, z3, f0, f1, f2, f3⟩ := hz) | skip)))
      · (try go_wp2_with fail)
        go_meet
        exact meetG1 _ _ _ _ _ HB5.out
      · (try go_wp2_with fail)
        go_meet
        exact meetG2 _ _ _ _ _ (HB5.out.mono (by simp))
    case rest =>
      obtain ⟨bq, ⟨rfl, hbk, hbw⟩, rfl⟩ := hcut
      have z1 : wc.cell? ⟨bp, 1, none⟩ = some (.int .i64 x1) := (HK.out.below hbw).cell 1
      have z2 : wc.cell? ⟨bq, 1, none⟩ = some (.int .i64 y1) := hbk.cell 1
      have HB3 : Hid (Below W.heap.size W wc) := hid (HB2.out.trans (hbw.mono HB2.out.size))
      have z3 := HZ.out _ HB3.out
      clear hbk hbw HX HY HZ HG1 HG2 t0 t1
      rcases (show k = 0 ∨ (k ≠ 0 ∧ 16384 < k) ∨ (k ≠ 0 ∧ k ≤ 16384) by omega) with h | ⟨h, h0⟩ | ⟨h, h0⟩
      · subst h
        go_wp2_with fail
        go_ret
        exact ⟨by rw [HM.out]; rfl, HB3.out⟩
      · have HK1 : Hid (¬ k ≤ 16384) := hid (by intro h; omega)
        have h2 : (k != 0) = true := by simpa using h
        clear h
        go_wp2_with fail
        go_ret
        refine ⟨?_, HB3.out⟩
        rw [HM.out, show decide (k ≤ 16384) = false from decide_eq_false (by have := HK1.out; omega), Bool.false_and, Bool.and_false]
        rfl
      · have HK0 : Hid (k ≠ 0) := hid h
        have HK1 : Hid (k ≤ 16384) := hid h0
        have h2 : (k != 0) = true := by simpa using h
        clear h
        go_wp2_with fail
        all_goals
          go_ret
          refine ⟨?_, HB3.out⟩
          rw [HM.out, decide_eq_true HK0.out, decide_eq_true HK1.out, Bool.true_and, Bool.true_and]
          first | (rw [Int.min_eq_left (by omega)]; rfl) | (rw [Int.min_eq_right (by omega)]; rfl)
end Go.Proofs.Ytdinlaoimpoolaa
