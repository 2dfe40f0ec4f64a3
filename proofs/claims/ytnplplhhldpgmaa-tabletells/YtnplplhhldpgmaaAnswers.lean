/- answers: a table answers as the reference's does; what is answered is the caller's. -/
import Derived.Test.YtnplplhhldpgmaaSpoils
import Derived.Test.YtnplplhhldpgmaaRefFind
import Derived.Test.YtnplplhhldpgmaaShown
import Derived.Deep.Cut
import Derived.Deep.CutRange
namespace Go.Proofs.Ytnplplhhldpgmaa
open Go.RowKit Go.Shelf

/-- a question's two cells -/
def cq (q : Int × Int) : List Value := [.int .i64 q.1, .int .i64 q.2]
theorem cq_len (q : Int × Int) : (cq q).length = 2 := rfl
theorem Sl.ask {W : World} {ad : Option Addr} {qs : List (Int × Int)} (h : Sl W ad qs.length (qs.flatMap cq)) {i : Nat} {q : Int × Int} (hi : qs[i]? = some q) :
    ∃ b off, ad = some ⟨b, off, none⟩ ∧ b < W.heap.size ∧ W.cell? ⟨b, off + i * 2, none⟩ = some (.int .i64 q.1) ∧ W.cell? ⟨b, off + i * 2 + 1, none⟩ = some (.int .i64 q.2) := by
  have h0 : qs.length ≠ 0 := fun e => by
    rw [List.eq_nil_of_length_eq_zero e] at hi; simp at hi
  obtain ⟨b, off, e, ha⟩ := h h0
  have f := fun c (hc : c < 2) => flat_get (enc := cq) cq_len hc hi
  exact ⟨b, off, e, ha.1, ha.2 (i * 2) _ (f 0 (by decide)), ha.2 (i * 2 + 1) _ (f 1 (by decide))⟩
/-- the call ahead of the new block -/
theorem meetP1 {w w5 : World} (hp : Bool) (p0 p1 : Int) (p2 : Bool) (p3 p4 : Int) (hb : Below w.heap.size w w5) : ∃ b, (Value.pointer (some ⟨w5.heap.size, 0, none⟩) = .pointer (some ⟨b, 0, none⟩) ∧ Blk (w5.alloc (.cells #[.int .i64 p0, .int .i64 p1, .bool p2, .int .i64 p3, .int .i64 p4] 52)) b [.int .i64 p0, .int .i64 p1, .bool p2, .int .i64 p3, .int .i64 p4] 52 ∧ Below w.heap.size w (w5.alloc (.cells #[.int .i64 p0, .int .i64 p1, .bool p2, .int .i64 p3, .int .i64 p4] 52))) ∧ Value.bool hp = .bool hp :=
  ⟨_, ⟨rfl, Blk.new w5 _ 52 rfl, hb.alloc hb.size _⟩, rfl⟩
/-- the new block ahead of the call -/
theorem meetP2 {w w5 : World} (hp : Bool) (p0 p1 : Int) (p2 : Bool) (p3 p4 : Int) (hb : Below (w.heap.size + 1) (w.alloc (.cells #[.int .i64 0, .int .i64 0, .bool false, .int .i64 0, .int .i64 0] 52)) w5) : ∃ b, (Value.pointer (some ⟨w.heap.size, 0, none⟩) = .pointer (some ⟨b, 0, none⟩) ∧ Blk (put5 w5 w.heap.size p0 p1 p2 p3 p4) b [.int .i64 p0, .int .i64 p1, .bool p2, .int .i64 p3, .int .i64 p4] 52 ∧ Below w.heap.size w (put5 w5 w.heap.size p0 p1 p2 p3 p4)) ∧ Value.bool hp = .bool hp := by
  have b0 := Blk.new w #[.int .i64 0, .int .i64 0, .bool false, .int .i64 0, .int .i64 0] 52 rfl
  have b1 : Blk w5 w.heap.size [.int .i64 0, .int .i64 0, .bool false, .int .i64 0, .int .i64 0] 52 := (hb.block _ (Nat.lt_succ_self _)).trans b0
  exact ⟨_, ⟨rfl, put5_blk b1 _ _ _ _ _, put5_below (((Below.refl _ w).alloc (Nat.le_refl _) _).trans (hb.mono (by omega))) (Nat.le_refl _) _ _ _ _ _⟩, rfl⟩

theorem zerosP {w w5 : World} (hb : Below (w.alloc (.cells #[.int .i64 0, .int .i64 0, .bool false, .int .i64 0, .int .i64 0] 52)).heap.size (w.alloc (.cells #[.int .i64 0, .int .i64 0, .bool false, .int .i64 0, .int .i64 0] 52)) w5) :
    w5.cell? ⟨w.heap.size, 0, none⟩ = some (.int .i64 0) ∧ w5.cell? ⟨w.heap.size, 1, none⟩ = some (.int .i64 0) ∧ w5.cell? ⟨w.heap.size, 2, none⟩ = some (.bool false) ∧ w5.cell? ⟨w.heap.size, 3, none⟩ = some (.int .i64 0) ∧ w5.cell? ⟨w.heap.size, 4, none⟩ = some (.int .i64 0) ∧
    w5.frozen? ⟨w.heap.size, 0, none⟩ = false ∧ w5.frozen? ⟨w.heap.size, 1, none⟩ = false ∧ w5.frozen? ⟨w.heap.size, 2, none⟩ = false ∧ w5.frozen? ⟨w.heap.size, 3, none⟩ = false ∧ w5.frozen? ⟨w.heap.size, 4, none⟩ = false := by
  have b1 := (Blk.new w #[.int .i64 0, .int .i64 0, .bool false, .int .i64 0, .int .i64 0] 52 rfl).below hb
  exact ⟨b1.cell 0, b1.cell 1, b1.cell 2, b1.cell 3, b1.cell 4, b1.froz 0, b1.froz 1, b1.froz 2, b1.froz 3, b1.froz 4⟩

set_option maxRecDepth 100000 in
set_option maxHeartbeats 8000000 in
theorem answers_any (B C a d : Nat) (em : Int) (gs : List Gl) (ps : List Pr) (ag ap : Option Addr) (ca cb : Nat) (aa : Option Addr) (qs : List (Int × Int)) (cc : Nat) (w : World) (hC : C ≤ w.heap.size) (hT : Tab B C w a em gs ps) (hR : RT w d em gs ps ag ca ap cb)
    (hQ : Sl w aa qs.length (qs.flatMap cq)) (hql : qs.length ≤ 9223372036854775807) :
    Calls Try.prog 13 #[.pointer (some ⟨a, 0, none⟩), .pointer (some ⟨d, 0, none⟩), .slice aa qs.length cc] w fun e w' => e = .returned (.bool true) ∧ Below w.heap.size w w' := by
  have HT := hid hT
  have HR := hid hR
  have HQ := hid hQ
  have HC0 := hid hC
  obtain ⟨n, hne⟩ : ∃ n, qs.length = n := ⟨_, rfl⟩
  have HN := hid hne
  rw [hne] at hql ⊢
  have hqi : (n : Int) ≤ 9223372036854775807 := by omega
  have mf : Try.prog.follows .mixedOrders = true := by kernel_rfl
  clear hT hR hQ hne hC
  go_enter Try.func13, Try.ntmps13
  go_wp2_with fail
  go_loopw [7] (fun vi wr => ∃ k : Nat, vi = .int .i64 k ∧ k ≤ n ∧ Below w.heap.size w wr) (fun vi _ => n - (RowKit.intOf vi).toNat)
  case atStart => exact ⟨0, rfl, by omega, Below.refl _ _⟩
  case round =>
    obtain ⟨k, rfl, hk, hb⟩ := hrel
    have HB := hid hb
    clear hb
    by_cases hlt : k < n
    · obtain ⟨q, hqk⟩ := some_at (xs := qs) (i := k) (by rw [HN.out]; exact hlt)
      obtain ⟨b, off, rfl, hbl, s0, s1⟩ := HQ.out.ask hqk
      obtain ⟨x, y⟩ := q
      simp only at s0 s1
      have HQC : Hid (∀ W, Below w.heap.size w W → W.cell? ⟨b, off + k * 2, none⟩ = some (.int .i64 x) ∧ W.cell? ⟨b, off + k * 2 + 1, none⟩ = some (.int .i64 y)) := hid fun W h => ⟨(h.cell (p := ⟨b, _, none⟩) hbl).trans s0, (h.cell (p := ⟨b, _, none⟩) hbl).trans s1⟩
      have hli : (k : Int) < (n : Int) := by omega
      have hl0 : (0 : Int) ≤ (k : Int) := by omega
      have HG1 : Hid (∀ W, Below w.heap.size w W → Calls Try.prog 15 #[.pointer (some ⟨a, 0, none⟩), .int .i64 x] W fun e w' => e = .returned (.tuple #[.agg (cg (gotG gs x)).toArray, .bool (hasG gs x)]) ∧ Below W.heap.size W w') := hid fun W h => (HT.out.below h).tg.glyph x
      have HG2 : Hid (∀ W, Below w.heap.size w W → Calls Try.prog 25 #[.pointer (some ⟨d, 0, none⟩), .int .i64 x] W fun e w' => e = .returned (.tuple #[.agg (cg (gotG gs x)).toArray, .bool (hasG gs x)]) ∧ Below W.heap.size W w') := hid fun W h => refglyph2_any (HR.out.below h) (by have := HT.out.gl; omega) x
      have HP1 : Hid (∀ W, Below w.heap.size w W → Calls Try.prog 16 #[.pointer (some ⟨a, 0, none⟩), .int .i64 x, .int .i64 y] W fun e w' => e = .returned (.tuple #[.agg (cp (gotP ps x y)).toArray, .bool (hasP ps x y)]) ∧ Below W.heap.size W w') := hid fun W h => (HT.out.below h).pair x y
      have HP2 : Hid (∀ W, Below w.heap.size w W → Calls Try.prog 26 #[.pointer (some ⟨d, 0, none⟩), .int .i64 x, .int .i64 y] W fun e w' => e = .returned (.tuple #[.agg (cp (gotP ps x y)).toArray, .bool (hasP ps x y)]) ∧ Below W.heap.size W w') := hid fun W h => refpair_any (HR.out.below h) (by have := HT.out.pl; omega) x y
      have hneG := fun W => neqG (gotG gs x) (gotG gs x) W
      have hneP := fun W => neqP (gotP ps x y) (gotP ps x y) W
      generalize gotG gs x = g at *
      generalize hasG gs x = hg at *
      generalize gotP ps x y = p at *
      generalize hasP ps x y = hp at *
      have hnn : ∀ (b : Bool) W, Sem.run Try.prog (binOp .neq 4 (.bool b) (.bool b)) W = .ok (.bool false) W := fun b W => by cases b <;> kernel_rfl
      obtain ⟨g0, g1, g2, g3⟩ := g
      obtain ⟨p0, p1, p2, p3, p4⟩ := p
      simp only [cg, cp, decide_true, Bool.not_true] at HG1 HG2 HP1 HP2 hneG hneP
      have gd45 := guard45
      have gd52 := guard52
      obtain ⟨t0, t1⟩ := HQC.out wr HB.out
      clear hqk s0 s1 hbl
      go_wp2_with fail
      refine (HG1.out _ HB.out).mono ?_
      rintro e w1 ⟨rfl, hb⟩
      have HB1 := hid ((HB.out.trans (hb.mono HB.out.size)).alloc (HB.out.trans (hb.mono HB.out.size)).size (.cells #[.int .i64 g0, .int .i64 g1, .int .i64 g2, .int .i64 g3] 45))
      have HX1 := hid (Blk.new w1 #[.int .i64 g0, .int .i64 g1, .int .i64 g2, .int .i64 g3] 45 rfl)
      clear hb t0 t1
      obtain ⟨t0, t1⟩ := HQC.out _ HB1.out
      go_wp2_with fail
      obtain ⟨W1, hW1⟩ : ∃ W1, w1.alloc (.cells #[.int .i64 g0, .int .i64 g1, .int .i64 g2, .int .i64 g3] 45) = W1 := ⟨_, rfl⟩
      obtain ⟨b1, hb1⟩ : ∃ b1, w1.heap.size = b1 := ⟨_, rfl⟩
      rw [hW1] at HB1 HX1 t0 t1 ⊢
      rw [hb1] at HX1 ⊢
      clear hW1 hb1
      refine (HG2.out _ HB1.out).mono ?_
      rintro e w2 ⟨rfl, hb⟩
      have HB2 := hid ((HB1.out.trans (hb.mono HB1.out.size)).alloc (HB1.out.trans (hb.mono HB1.out.size)).size (.cells #[.int .i64 g0, .int .i64 g1, .int .i64 g2, .int .i64 g3] 45))
      have HX2 := hid ((HX1.out.below hb).alloc (.cells #[.int .i64 g0, .int .i64 g1, .int .i64 g2, .int .i64 g3] 45))
      have HY2 := hid (Blk.new w2 #[.int .i64 g0, .int .i64 g1, .int .i64 g2, .int .i64 g3] 45 rfl)
      clear hb t0 t1
      go_wp2_with fail
      obtain ⟨W2, hW2⟩ : ∃ W2, w2.alloc (.cells #[.int .i64 g0, .int .i64 g1, .int .i64 g2, .int .i64 g3] 45) = W2 := ⟨_, rfl⟩
      obtain ⟨b2, hb2⟩ : ∃ b2, w2.heap.size = b2 := ⟨_, rfl⟩
      rw [hW2] at HB2 HX2 HY2 ⊢
      rw [hb2] at HY2 ⊢
      clear hW2 hb2
      obtain ⟨t0, t1⟩ := HQC.out _ HB2.out
      go_cut [12, 13] from 43 to 57 (fun p th wx => ∃ bp, (p = .pointer (some ⟨bp, 0, none⟩) ∧ Blk wx bp [.int .i64 p0, .int .i64 p1, .bool p2, .int .i64 p3, .int .i64 p4] 52 ∧ Below W2.heap.size W2 wx) ∧ th = .bool hp)
      case first =>
        have HLB := hid HB2.out.size
        go_region_held3 (fun X => X.cell? ⟨b, off + k * 2, none⟩ = some (.int .i64 x) ∧ X.cell? ⟨b, off + k * 2 + 1, none⟩ = some (.int .i64 y))
          (first | with_reducible exact HQC.out _ HB2.out.drew | with_reducible exact HQC.out _ HX0.out | with_reducible exact HQC.out _ (HX0.out.alloc HX0.out.size _) | with_reducible exact HQC.out _ (HB2.out.alloc HB2.out.size _).drew | with_reducible exact HQC.out _ (HB2.out.drew.alloc HB2.out.size _) | with_reducible exact HQC.out _ (put5_below HX0.out HLB.out _ _ _ _ _))
          ((go_at_call 16; refine (HP1.out _ ?_).mono ?_; (first | exact HB2.out.drew | exact HB2.out | exact (HB2.out.drew).alloc HB2.out.size _ | exact (HB2.out.alloc HB2.out.size _).drew); rintro e w5 ⟨rfl, hb5⟩; have HB5 := hid (undrew hb5); have HX0 : Hid (Below w.heap.size w w5) := hid (by first | exact HB2.out.trans ((undrew hb5).mono HB2.out.size) | exact (HB2.out.alloc HB2.out.size _).trans ((undrew hb5).mono (HB2.out.alloc HB2.out.size _).size)); clear hb5; (first | (have hz := zerosP HB5.out; obtain ⟨z0, z1, z2, z3, z4, f0, f1, f2, f3, f4⟩ := hz) | skip)))
        · (try go_wp2_with fail)
          go_meet
          exact meetP1 hp p0 p1 p2 p3 p4 HB5.out
        · (try go_wp2_with fail)
          go_meet
          exact meetP2 hp p0 p1 p2 p3 p4 (HB5.out.mono (by simp))
      case rest =>
        obtain ⟨bp, ⟨rfl, hbk, hbw⟩, rfl⟩ := hcut
        have HB3 : Hid (Below w.heap.size w wc) := hid (HB2.out.trans (hbw.mono HB2.out.size))
        have HX3 := hid (HX2.out.below hbw)
        have HY3 := hid (HY2.out.below hbw)
        have HZ3 := hid hbk
        clear hbk hbw t0 t1
        obtain ⟨W3, hW3⟩ : ∃ W3, wc = W3 := ⟨_, rfl⟩
        rw [hW3] at HB3 HX3 HY3 HZ3 ⊢
        clear hW3
        obtain ⟨t0, t1⟩ := HQC.out _ HB3.out
        go_wp2_with fail
        go_cut [14, 15] from 58 to 72 (fun p th wx => ∃ bp, (p = .pointer (some ⟨bp, 0, none⟩) ∧ Blk wx bp [.int .i64 p0, .int .i64 p1, .bool p2, .int .i64 p3, .int .i64 p4] 52 ∧ Below W3.heap.size W3 wx) ∧ th = .bool hp)
        case first =>
          have HLB := hid HB3.out.size
          go_region_held3 (fun X => X.cell? ⟨b, off + k * 2, none⟩ = some (.int .i64 x) ∧ X.cell? ⟨b, off + k * 2 + 1, none⟩ = some (.int .i64 y))
            (first | with_reducible exact HQC.out _ HB3.out.drew | with_reducible exact HQC.out _ HX0.out | with_reducible exact HQC.out _ (HX0.out.alloc HX0.out.size _) | with_reducible exact HQC.out _ (HB3.out.alloc HB3.out.size _).drew | with_reducible exact HQC.out _ (HB3.out.drew.alloc HB3.out.size _) | with_reducible exact HQC.out _ (put5_below HX0.out HLB.out _ _ _ _ _))
            ((go_at_call 26; refine (HP2.out _ ?_).mono ?_; (first | exact HB3.out.drew | exact HB3.out | exact (HB3.out.drew).alloc HB3.out.size _ | exact (HB3.out.alloc HB3.out.size _).drew); rintro e w5 ⟨rfl, hb5⟩; have HB5 := hid (undrew hb5); have HX0 : Hid (Below w.heap.size w w5) := hid (by first | exact HB3.out.trans ((undrew hb5).mono HB3.out.size) | exact (HB3.out.alloc HB3.out.size _).trans ((undrew hb5).mono (HB3.out.alloc HB3.out.size _).size)); clear hb5; (first | (have hz := zerosP HB5.out; obtain ⟨z0, z1, z2, z3, z4, f0, f1, f2, f3, f4⟩ := hz) | skip)))
          · (try go_wp2_with fail)
            go_meet
            exact meetP1 hp p0 p1 p2 p3 p4 HB5.out
          · (try go_wp2_with fail)
            go_meet
            exact meetP2 hp p0 p1 p2 p3 p4 (HB5.out.mono (by simp))
        case rest =>
          obtain ⟨bq, ⟨rfl, hbk, hbw⟩, rfl⟩ := hcut
          have HB4 : Hid (Below w.heap.size w wc) := hid (HB3.out.trans (hbw.mono HB3.out.size))
          have HX4 := hid (HX3.out.below hbw)
          have HY4 := hid (HY3.out.below hbw)
          have HZ4 := hid (HZ3.out.below hbw)
          have HU4 := hid hbk
          clear hbk hbw t0 t1
          have x0 := HX4.out.cell 0
          have x1 := HX4.out.cell 1
          have x2 := HX4.out.cell 2
          have x3 := HX4.out.cell 3
          have y0 := HY4.out.cell 0
          have y1 := HY4.out.cell 1
          have y2 := HY4.out.cell 2
          have y3 := HY4.out.cell 3
          have z0 := HZ4.out.cell 0
          have z1 := HZ4.out.cell 1
          have z2 := HZ4.out.cell 2
          have z3 := HZ4.out.cell 3
          have z4 := HZ4.out.cell 4
          have u0 := HU4.out.cell 0
          have u1 := HU4.out.cell 1
          have u2 := HU4.out.cell 2
          have u3 := HU4.out.cell 3
          have u4 := HU4.out.cell 4
          simp only [List.getElem?_cons_zero, List.getElem?_cons_succ] at x0 x1 x2 x3 y0 y1 y2 y3 z0 z1 z2 z3 z4 u0 u1 u2 u3 u4
          go_wp2_with fail
          refine ⟨⟨k + 1, by go_num, by omega, HB4.out⟩, ?_⟩
          simp [RowKit.intOf]; omega
    · have hkn : ¬ (k : Int) < (n : Int) := by omega
      have HF := hid (font_any B C a em gs ps wr (Nat.le_trans HC0.out HB.out.size) (HT.out.below HB.out))
      go_wp2_with fail
      refine HF.out.mono ?_
      rintro e w5 ⟨gv, pv, rfl, r1, r2, hb⟩
      obtain ⟨ad, c1, rfl, _, _⟩ := row_reads r1
      obtain ⟨bd, c2, rfl, _, _⟩ := row_reads r2
      have HR1 := hid (r1.alloc (.cells #[.int .i64 em, .slice ad gs.length c1, .slice bd ps.length c2] 25))
      have HR2 := hid (r2.alloc (.cells #[.int .i64 em, .slice ad gs.length c1, .slice bd ps.length c2] 25))
      have HB5 : Hid (Below w.heap.size w w5) := hid (HB.out.trans (hb.mono HB.out.size))
      have HB6 := hid (HB5.out.alloc HB5.out.size (.cells #[.int .i64 em, .slice ad gs.length c1, .slice bd ps.length c2] 25))
      have HX6 := hid (Blk.new w5 #[.int .i64 em, .slice ad gs.length c1, .slice bd ps.length c2] 25 rfl)
      have HSZ : Hid (w.heap.size ≤ wr.heap.size ∧ wr.heap.size ≤ w5.heap.size) := hid ⟨HB.out.size, hb.size⟩
      clear r1 r2 hb HF
      go_wp2_with fail
      obtain ⟨W6, hW6⟩ : ∃ W6, w5.alloc (.cells #[.int .i64 em, .slice ad gs.length c1, .slice bd ps.length c2] 25) = W6 := ⟨_, rfl⟩
      obtain ⟨b6, hb6⟩ : ∃ b6, w5.heap.size = b6 := ⟨_, rfl⟩
      rw [hW6] at HR1 HR2 HB6 HX6 ⊢
      rw [hb6] at HX6 HSZ ⊢
      clear hW6 hb6
      have HSZ6 : Hid (wr.heap.size ≤ W6.heap.size) := hid (by have := HX6.out.lt; have := HSZ.out.2; omega)
      have HGL := hid HT.out.gl
      have HPL := hid HT.out.pl
      have z0 : W6.cell? ⟨b6, 0, none⟩ = some (.int .i64 em) := HX6.out.cell 0
      have z1 : W6.cell? ⟨b6, 1, none⟩ = some (.slice ad gs.length c1) := HX6.out.cell 1
      have z2 : W6.cell? ⟨b6, 2, none⟩ = some (.slice bd ps.length c2) := HX6.out.cell 2
      have HRF : Hid (∀ W, Below w.heap.size w W → Calls Try.prog 27 #[.pointer (some ⟨d, 0, none⟩)] W fun e w' => e = .returned (.agg #[.int .i64 em, .slice ag gs.length ca, .slice ap ps.length cb]) ∧ Below W.heap.size W w') := hid fun W h => reffont_any (HR.out.below h)
      have HSM : Hid (∀ W, Below w.heap.size w W → Below W6.heap.size W6 W → Calls Try.prog 18 #[.agg #[.int .i64 em, .slice ad gs.length c1, .slice bd ps.length c2], .agg #[.int .i64 em, .slice ag gs.length ca, .slice ap ps.length cb]] W fun e w' => e = .returned (.bool true) ∧ Below W.heap.size W w') := hid fun W h h6 => by
        obtain ⟨_, _, e1, s1, _⟩ := row_reads HR1.out
        obtain ⟨_, _, e2, s2, _⟩ := row_reads HR2.out
        cases e1
        cases e2
        exact same_true em gs ps ad ag bd ap c1 ca c2 cb W (by have := HGL.out; omega) (by have := HPL.out; omega) (s1.below h6) (s2.below h6) (HR.out.sg.below h) (HR.out.sp.below h)
      have HSP : Hid (∀ W, Below W6.heap.size W6 W → wr.heap.size ≤ W.heap.size → Calls Try.prog 28 #[.agg #[.int .i64 em, .slice ad gs.length c1, .slice bd ps.length c2]] W fun e w' => e = .returned (.bool true) ∧ Below wr.heap.size W w') := hid fun W h6 hz => spoils_any em gs.length ps.length _ _ _ _ wr.heap.size W hz (by have := HGL.out; omega) (by have := HPL.out; omega) (row_below HR1.out h6) (row_below HR2.out h6)
      generalize gs.length = ng at *
      generalize ps.length = np at *
      go_region_with (first
        | (go_at_call 27; refine (HRF.out _ HB6.out.drew).mono ?_; rintro e w7 ⟨rfl, hb7⟩; have HB7 : Hid (Below w.heap.size w w7) := hid (HB6.out.trans ((undrew hb7).mono HB6.out.size)); have HY7 : Hid (Below W6.heap.size W6 w7) := hid (undrew hb7); have x0 := (HX6.out.below HY7.out).cell 0; have x1 := (HX6.out.below HY7.out).cell 1; have x2 := (HX6.out.below HY7.out).cell 2; clear hb7)
        | (go_at_call 18; refine (HSM.out _ HB7.out HY7.out).mono ?_; rintro e w8 ⟨rfl, hb8⟩; have HB8 : Hid (Below w.heap.size w w8) := hid (HB7.out.trans (hb8.mono HB7.out.size)); have HY8 : Hid (Below W6.heap.size W6 w8) := hid (HY7.out.trans (hb8.mono HY7.out.size)); have y0 := (HX6.out.below HY8.out).cell 0; have y1 := (HX6.out.below HY8.out).cell 1; have y2 := (HX6.out.below HY8.out).cell 2; clear hb8)
        | (go_at_call 28; refine (HSP.out _ HY8.out ?_).mono ?_; exact Nat.le_trans HSZ6.out HY8.out.size; rintro e w9 ⟨rfl, hb9⟩; have HB9 : Hid (Below w.heap.size w w9) := hid (HB8.out.trans (hb9.mono HSZ.out.1)); clear hb9))
      all_goals
        go_wp2_with fail
        go_ret
        exact ⟨rfl, HB9.out⟩
end Go.Proofs.Ytnplplhhldpgmaa
