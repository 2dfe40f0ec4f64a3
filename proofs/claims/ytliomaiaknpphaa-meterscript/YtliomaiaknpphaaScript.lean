import Derived.Test.YtliomaiaknpphaaInv
import Derived.Maps.AppendAt
namespace Go.Proofs.Ytliomaiaknpphaa
open Go.RowKit

theorem info24 : (Try.prog.info? 24).map (fun i => (i.zero, i.size, i.bytes)) = some (some (Value.pointer none), 1, 8) := by kernel_rfl
theorem info28 : (Try.prog.info? 28).map (fun i => (i.zero, i.size, i.bytes)) = some (some (Value.pointer none), 1, 8) := by kernel_rfl
/-- where a script lies, if it has an act -/
def Lies (w : World) (a0 : Option Addr) (len : Nat) : Prop := len = 0 ∨ ∃ b off f, a0 = some ⟨b, off, none⟩ ∧ b < w.heap.size ∧ len ≤ 9223372036854775807 ∧ Acts w b off len f

theorem one_row (w : World) (B : Nat) (t : TypeId) (v : Value) (h : B ≤ w.heap.size) : Row (w.alloc (.cells #[v] t)) B t w.heap.size 1 1 [v] := by
  refine ⟨rfl, Or.inr ⟨w.heap.size, 1, #[v], rfl, h, ?_, by omega, by decide, rfl, rfl⟩⟩
  show (w.heap.push _)[w.heap.size]? = _
  simp

theorem two_start {B : Nat} {w0 w : World} (m : M) (hm : m.Ok) (hb : Below B w0 w) (base : B ≤ w0.heap.size) :
    Two B w0 ((((w.alloc (.cells m.cells.toArray 52)).alloc (.cells m.rcells.toArray 54)).alloc (.cells #[.pointer (some ⟨w.heap.size, 0, none⟩)] 24)).alloc (.cells #[.pointer (some ⟨w.heap.size + 1, 0, none⟩)] 28)) (w.heap.size + 1 + 1) 1 (w.heap.size + 1 + 1 + 1) 1 [⟨w.heap.size, w.heap.size + 1, m⟩] := by
  have hB := Nat.le_trans base hb.size
  have e1 : (w.alloc (.cells m.cells.toArray 52)).heap.size = w.heap.size + 1 := by simp
  have e2 : ((w.alloc (.cells m.cells.toArray 52)).alloc (.cells m.rcells.toArray 54)).heap.size = w.heap.size + 1 + 1 := by simp
  have e3 : (((w.alloc (.cells m.cells.toArray 52)).alloc (.cells m.rcells.toArray 54)).alloc (.cells #[.pointer (some ⟨w.heap.size, 0, none⟩)] 24)).heap.size = w.heap.size + 1 + 1 + 1 := by simp
  refine ⟨?_, ?_, ?_, ?_, ?_, base⟩
  · have := one_row ((w.alloc (.cells m.cells.toArray 52)).alloc (.cells m.rcells.toArray 54)) B 24 (.pointer (some ⟨w.heap.size, 0, none⟩)) (by omega)
    rw [e2] at this
    exact this.alloc _
  · have := one_row (((w.alloc (.cells m.cells.toArray 52)).alloc (.cells m.rcells.toArray 54)).alloc (.cells #[.pointer (some ⟨w.heap.size, 0, none⟩)] 24)) B 28 (.pointer (some ⟨w.heap.size + 1, 0, none⟩)) (by omega)
    rw [e3] at this
    exact this
  · intro i x hx
    have hi : i = 0 := by
      rcases Nat.eq_zero_or_pos i with h | h
      · exact h
      · rw [List.getElem?_eq_none (by simp; omega)] at hx; cases hx
    subst hi
    simp at hx
    subst hx
    refine ⟨?_, ?_, hm, hB, by show B ≤ w.heap.size + 1; omega⟩
    · exact ((((Blk.new w m.cells.toArray 52 rfl).alloc _).alloc _).alloc _)
    · exact (((Blk.new (w.alloc (.cells m.cells.toArray 52)) m.rcells.toArray 54 e1).alloc _).alloc _)
  · intro i j x y hx hy hij
    have hi : i = 0 := by
      rcases Nat.eq_zero_or_pos i with h | h
      · exact h
      · rw [List.getElem?_eq_none (by simp; omega)] at hx; cases hx
    have hj : j = 0 := by
      rcases Nat.eq_zero_or_pos j with h | h
      · exact h
      · rw [List.getElem?_eq_none (by simp; omega)] at hy; cases hy
    omega
  · exact (((hb.alloc hB _).alloc (by omega) _).alloc (by omega) _).alloc (by omega) _

/-- the cells that a call on one pair is led by -/
def Held (ga gb bo z : Nat) (X : Pr) (n : Int) (w : World) : Prop := w.cell? ⟨ga, z, none⟩ = some (.pointer (some ⟨X.na, 0, none⟩)) ∧ w.cell? ⟨gb, z, none⟩ = some (.pointer (some ⟨X.nb, 0, none⟩)) ∧ w.cell? ⟨bo, 2, none⟩ = some (.int .i64 n)
theorem Held.keep {ga gb bo z d : Nat} {X : Pr} {n : Int} {w w' : World} (h : Held ga gb bo z X n w) (k : Only [d] w w') (ha : ga ≠ d) (hb : gb ≠ d) (hbo : bo ≠ d) : Held ga gb bo z X n w' := by
  obtain ⟨h1, h2, h3⟩ := h
  exact ⟨(World.cell?_of_block (k.block ga (World.block_lt_of_cell? w _ h1) (by simpa using ha))).trans h1, (World.cell?_of_block (k.block gb (World.block_lt_of_cell? w _ h2) (by simpa using hb))).trans h2, (World.cell?_of_block (k.block bo (World.block_lt_of_cell? w _ h3) (by simpa using hbo))).trans h3⟩
structure Led (ga gb bo z : Nat) (X : Pr) (n : Int) (w : World) : Prop where
  held : Held ga gb bo z X n w
  good : Good 0 w X
  gna : ga ≠ X.na
  gnb : ga ≠ X.nb
  hna : gb ≠ X.na
  hnb : gb ≠ X.nb
  bna : bo ≠ X.na
  bnb : bo ≠ X.nb
  nab : X.na ≠ X.nb
theorem Two.led {B : Nat} {w0 w : World} {ga ca gb cb bo z : Nat} {P : List Pr} {k x n : Int} {X : Pr} (h : Two B w0 w ga ca gb cb P) (hX : P[z]? = some X) (hb : Blk w bo [.int .i64 k, .int .i64 x, .int .i64 n] 34) : Led ga gb bo z X n w := by
  have g := h.each z X hX
  refine ⟨⟨h.atA z X hX, h.atB z X hX, hb.cell 2⟩, ⟨g.ba, g.bb, g.ok, Nat.zero_le _, Nat.zero_le _⟩, Ne.symm (h.rowA.ne_blk g.ba (by decide)), Ne.symm (h.rowA.ne_blk g.bb (by decide)), Ne.symm (h.rowB.ne_blk g.ba (by decide)), Ne.symm (h.rowB.ne_blk g.bb (by decide)), ?_, ?_, ?_⟩
  · intro e; have := (hb.same (e ▸ g.ba)).2; revert this; decide
  · intro e; have := (hb.same (e ▸ g.bb)).2; revert this; decide
  · intro e; have := (g.ba.same (e ▸ g.bb)).2; revert this; decide

/-- a new pair -/
theorem fresh_pair (w : World) (m : M) (hm : m.Ok) : Good w.heap.size ((w.alloc (.cells m.cells.toArray 52)).alloc (.cells m.rcells.toArray 54)) ⟨w.heap.size, w.heap.size + 1, m⟩ :=
  ⟨(Blk.new w m.cells.toArray 52 rfl).alloc _, Blk.new (w.alloc (.cells m.cells.toArray 52)) m.rcells.toArray 54 (by simp), hm, Nat.le_refl _, by simp⟩

set_option maxHeartbeats 4000000 in
set_option maxRecDepth 100000 in
theorem script_walk (s c : Int) (s0 : 0 ≤ s) (c0 : 0 ≤ c) (s1 : s ≤ 9223372036854775807) (c1 : c ≤ 9223372036854775807) (a0 : Option Addr) (len cap : Nat) (w : World) (hS : Lies w a0 len) :
    Calls Try.prog 3 #[.int .i64 s, .int .i64 c, .slice a0 len cap] w fun e w' => e = .returned (.bool true) ∧ Below w.heap.size w w' := by
  obtain ⟨iA, hiA, hzA0, hzA1, hzA2⟩ := info_parts info24
  obtain ⟨iB, hiB, hzB0, hzB1, hzB2⟩ := info_parts info28
  have HS := hidden hS
  have HM : Hid ((M.mk s c 0 0 0 0).Ok) := ⟨by simp, s0, s1, by simp, by simp, c0, c1⟩
  clear hS
  go_enter Try.func3, Try.ntmps3
  go_wp2_with fail
  refine (shown_any _).mono ?_
  rintro e w1 ⟨rfl, ho⟩
  have hb := hidden ho.below
  have hP0 := hidden (two_start (M.mk s c 0 0 0 0) HM.out hb.out (Nat.le_refl _))
  clear ho
  go_wp2_with (first | (go_at_call 8; refine (new_yes s c _ s0 c0).mono ?_; rintro e w2 ⟨rfl, rfl⟩) | (go_at_call 9; refine (newR_yes s c _ s0 c0).mono ?_; rintro e w2 ⟨rfl, rfl⟩))
  have hlt := hidden hP0.out.wlt
  obtain ⟨WS, hWS⟩ : ∃ W, (((w1.alloc (.cells (M.mk s c 0 0 0 0).cells.toArray 52)).alloc (.cells (M.mk s c 0 0 0 0).rcells.toArray 54)).alloc (.cells #[.pointer (some ⟨w1.heap.size, 0, none⟩)] 24)).alloc (.cells #[.pointer (some ⟨w1.heap.size + 1, 0, none⟩)] 28) = W := ⟨_, rfl⟩
  rw [hWS] at hP0 hlt
  rw [hWS]
  obtain ⟨gb, hgb⟩ : ∃ g, w1.heap.size + 1 + 1 + 1 = g := ⟨_, rfl⟩
  rw [hgb] at hP0
  rw [hgb]
  obtain ⟨ga, hga⟩ : ∃ g, w1.heap.size + 1 + 1 = g := ⟨_, rfl⟩
  rw [hga] at hP0
  rw [hga]
  clear hWS hga hgb hb HM
  go_loopw [11, 12, 52] (fun va vb vi wr => ∃ (i : Nat) (P : List Pr) (ga ca gb cb : Nat), va = .slice (some ⟨ga, 0, none⟩) P.length ca ∧ vb = .slice (some ⟨gb, 0, none⟩) P.length cb ∧ vi = .int .i64 i ∧ i ≤ len ∧ 1 ≤ P.length ∧ P.length ≤ 4 ∧ Two w.heap.size w wr ga ca gb cb P) (fun _ _ vi _ => len - (intOf vi).toNat)
  case atStart => exact ⟨0, _, ga, 1, gb, 1, rfl, rfl, rfl, Nat.zero_le _, by simp, by simp, hP0.out⟩
  case round =>
    clear hP0
    obtain ⟨i, P, ga, ca, gb, cb, rfl, rfl, rfl, hil, hP1, hP4, hP⟩ := hrel
    have hP := hidden hP
    by_cases hlt : i < len
    · obtain ⟨b, off, f, rfl, hbw, hlen, hA⟩ : ∃ b off f, a0 = some ⟨b, off, none⟩ ∧ b < w.heap.size ∧ len ≤ 9223372036854775807 ∧ Acts w b off len f := by
        rcases HS.out with h | h
        · omega
        · exact h
      obtain ⟨a1, a2, a3, b1, b2, b3⟩ := hA i hlt
      have q1 := (hP.out.below.cell (p := ⟨b, off + i * 3, none⟩) hbw).trans a1
      have q2 := (hP.out.below.cell (p := ⟨b, off + i * 3 + 1, none⟩) hbw).trans a2
      have q3 := (hP.out.below.cell (p := ⟨b, off + i * 3 + 2, none⟩) hbw).trans a3
      obtain ⟨k, hk⟩ : ∃ k, (f i).1 = k := ⟨_, rfl⟩
      obtain ⟨x, hx⟩ : ∃ x, (f i).2.1 = x := ⟨_, rfl⟩
      obtain ⟨n, hn⟩ : ∃ n, (f i).2.2 = n := ⟨_, rfl⟩
      rw [hk] at q1
      rw [hx] at q2
      rw [hn] at q3
      clear a1 a2 a3 b1 b2 b3 hk hx hn hA
      obtain ⟨z0, z1⟩ := amg_bd x P.length (by omega)
      have HX := hidden fun W => among_any x P.length (by omega) (by omega) W
      obtain ⟨zz, hz⟩ : ∃ z, amg x P.length = z := ⟨_, rfl⟩
      rw [hz] at z0 z1 HX
      clear hz
      obtain ⟨z, rfl⟩ := Int.eq_ofNat_of_zero_le z0
      have hzl : z < P.length := by omega
      obtain ⟨X, hX⟩ : ∃ X, P[z]? = some X := ⟨P[z], by simp [hzl]⟩
      clear z0
      have hP1' := hidden (hP.out.later ((Only.refl _ _).alloc (.cells #[.int .i64 k, .int .i64 x, .int .i64 n] 34)))
      have hbox := Blk.new wr #[.int .i64 k, .int .i64 x, .int .i64 n] 34 rfl
      go_wp2_with fail
      refine (HX.out _).mono ?_
      rintro e w2 ⟨rfl, rfl⟩
      have hhb := hidden (show Blk (wr.alloc (.cells #[.int .i64 k, .int .i64 x, .int .i64 n] 34)) wr.heap.size [.int .i64 k, .int .i64 x, .int .i64 n] 34 from hbox)
      have hk := hbox.cell 0
      clear q1 q2 q3 HX
      obtain ⟨WA, hWA⟩ : ∃ W, wr.alloc (.cells #[.int .i64 k, .int .i64 x, .int .i64 n] 34) = W := ⟨_, rfl⟩
      rw [hWA] at hP1' hhb hk
      rw [hWA]
      obtain ⟨bo, hbo⟩ : ∃ bo, wr.heap.size = bo := ⟨_, rfl⟩
      rw [hbo] at hhb hk
      rw [hbo]
      clear hWA hbo hP hbox
      have hP := hidden hP1'.out
      clear hP1'
      go_wp2_with fail
      refine (among_any k 4 (by omega) (by omega) _).mono ?_
      rintro e WA ⟨rfl, rfl⟩
      obtain ⟨y0, y1⟩ := amg_bd k 4 (by omega)
      obtain ⟨y, hy⟩ : ∃ y, amg k 4 = y := ⟨_, rfl⟩
      rw [hy] at y0 y1
      rw [hy]
      clear hy hk
      rcases (show y = 0 ∨ y = 1 ∨ y = 2 ∨ y = 3 by omega) with rfl | rfl | rfl | rfl
      · clear y0 y1
        have hL := hidden (hP.out.led hX hhb.out)
        have HSA := hidden fun W => step_any X.m hL.out.good.ok X.na n W
        have HSB := hidden fun W => stepR_any X.m hL.out.good.ok X.nb n W
        have hmo := hidden (M.step_ok hL.out.good.ok n)
        obtain ⟨o, ho⟩ : ∃ o, X.m.stepOk n = o := ⟨_, rfl⟩
        obtain ⟨m3, hm3⟩ : ∃ m3, X.m.step n = m3 := ⟨_, rfl⟩
        rw [ho, hm3] at HSA HSB
        rw [hm3] at hmo
        clear ho hm3
        have hS0 := hL.out.held
        unfold Held at hS0
        go_wp2_with fail
        go_region_held3 (fun w' => w'.cell? ⟨ga, z, none⟩ = some (.pointer (some ⟨X.na, 0, none⟩)) ∧ w'.cell? ⟨gb, z, none⟩ = some (.pointer (some ⟨X.nb, 0, none⟩)) ∧ w'.cell? ⟨bo, 2, none⟩ = some (.int .i64 n))
          (first | exact kS2 | exact kS1 | exact hS0)
          (first
            | (go_at_call 11; refine (HSA.out _ (by exact hL.out.good.ba)).mono ?_; rintro e wB ⟨rfl, hA1, hO1⟩; have hO1 : Only [X.na] WA wB := ⟨hO1.os, hO1.tape, hO1.output, hO1.size, hO1.block⟩; have kS1 := Held.keep hL.out.held hO1 hL.out.gna hL.out.hna hL.out.bna; have hB1 := hO1.blk hL.out.good.bb (by simpa using Ne.symm hL.out.nab))
            | (go_at_call 12; refine (HSB.out _ (by exact hB1)).mono ?_; rintro e wC ⟨rfl, hB2, hO2⟩; have hO2 : Only [X.nb] wB wC := ⟨hO2.os, hO2.tape, hO2.output, hO2.size, hO2.block⟩; have kS2 := Held.keep kS1 hO2 hL.out.gnb hL.out.hnb hL.out.bnb; have hA2 := hO2.blk hA1 (by simpa using hL.out.nab)))
        have hOO : Only [X.na, X.nb] WA wC := (hO1.mono (by intro _ _ h; simp at h ⊢; exact Or.inl h)).trans (hO2.mono (by intro _ _ h; simp at h ⊢; exact Or.inr h))
        have hP3 := hidden (hP.out.done z X hX m3 hmo.out hOO hA2 hB2)
        have hl3 : (P.set z { X with m := m3 }).length = P.length := by simp
        have hX3 : (P.set z { X with m := m3 })[z]? = some { X with m := m3 } := by simp [hzl]
        obtain ⟨X3, hXX⟩ : ∃ X3, { X with m := m3 } = X3 := ⟨_, rfl⟩
        rw [hXX] at hP3 hl3 hX3
        obtain ⟨P3, hPP⟩ : ∃ P3, P.set z X3 = P3 := ⟨_, rfl⟩
        rw [hPP] at hP3 hl3 hX3
        rw [← hl3]
        rw [← hl3] at hzl hP1 hP4
        have hP := hidden hP3.out
        clear hP3 hL HSA HSB hmo hS0 kS1 kS2 hA1 hB1 hA2 hB2 hO1 hO2 hOO hPP hXX hl3 hX hhb
        have t1 := hP.out.atA z X3 hX3
        have t2 := hP.out.atB z X3 hX3
        have t3 := hidden (hP.out.each z X3 hX3)
        have hS := And.intro t1 t2
        go_wp2_with fail
        go_region_held3 (fun w' => w'.cell? ⟨ga, z, none⟩ = some (.pointer (some ⟨X3.na, 0, none⟩)) ∧ w'.cell? ⟨gb, z, none⟩ = some (.pointer (some ⟨X3.nb, 0, none⟩)))
          (exact hS) (first | (go_at_call 19; refine (same_any X3.m X3.na X3.nb _ (by exact t3.out.ba) (by exact t3.out.bb)).mono ?_; rintro e w5 ⟨rfl, rfl⟩))
        go_wp2_with fail
        go_roundw
        case rel => exact ⟨i + 1, P3, ga, ca, gb, cb, rfl, rfl, by go_num, by omega, hP1, hP4, hP.out.later ((Only.refl _ _).drewN _)⟩
        case measure => simp [intOf]; omega
      · clear y0 y1
        have hL := hidden (hP.out.led hX hhb.out)
        have HSA := hidden fun W => hold_any X.m hL.out.good.ok X.na n W
        have HSB := hidden fun W => holdR_any X.m hL.out.good.ok X.nb n W
        have hmo := hidden (M.hold_ok hL.out.good.ok n)
        obtain ⟨o, ho⟩ : ∃ o, X.m.holdOk n = o := ⟨_, rfl⟩
        obtain ⟨m3, hm3⟩ : ∃ m3, X.m.hold n = m3 := ⟨_, rfl⟩
        rw [ho, hm3] at HSA HSB
        rw [hm3] at hmo
        clear ho hm3
        have hS0 := hL.out.held
        unfold Held at hS0
        go_wp2_with fail
        go_region_held3 (fun w' => w'.cell? ⟨ga, z, none⟩ = some (.pointer (some ⟨X.na, 0, none⟩)) ∧ w'.cell? ⟨gb, z, none⟩ = some (.pointer (some ⟨X.nb, 0, none⟩)) ∧ w'.cell? ⟨bo, 2, none⟩ = some (.int .i64 n))
          (first | exact kS2 | exact kS1 | exact hS0)
          (first
            | (go_at_call 13; refine (HSA.out _ (by exact hL.out.good.ba)).mono ?_; rintro e wB ⟨rfl, hA1, hO1⟩; have hO1 : Only [X.na] WA wB := ⟨hO1.os, hO1.tape, hO1.output, hO1.size, hO1.block⟩; have kS1 := Held.keep hL.out.held hO1 hL.out.gna hL.out.hna hL.out.bna; have hB1 := hO1.blk hL.out.good.bb (by simpa using Ne.symm hL.out.nab))
            | (go_at_call 14; refine (HSB.out _ (by exact hB1)).mono ?_; rintro e wC ⟨rfl, hB2, hO2⟩; have hO2 : Only [X.nb] wB wC := ⟨hO2.os, hO2.tape, hO2.output, hO2.size, hO2.block⟩; have kS2 := Held.keep kS1 hO2 hL.out.gnb hL.out.hnb hL.out.bnb; have hA2 := hO2.blk hA1 (by simpa using hL.out.nab)))
        have hOO : Only [X.na, X.nb] WA wC := (hO1.mono (by intro _ _ h; simp at h ⊢; exact Or.inl h)).trans (hO2.mono (by intro _ _ h; simp at h ⊢; exact Or.inr h))
        have hP3 := hidden (hP.out.done z X hX m3 hmo.out hOO hA2 hB2)
        have hl3 : (P.set z { X with m := m3 }).length = P.length := by simp
        have hX3 : (P.set z { X with m := m3 })[z]? = some { X with m := m3 } := by simp [hzl]
        obtain ⟨X3, hXX⟩ : ∃ X3, { X with m := m3 } = X3 := ⟨_, rfl⟩
        rw [hXX] at hP3 hl3 hX3
        obtain ⟨P3, hPP⟩ : ∃ P3, P.set z X3 = P3 := ⟨_, rfl⟩
        rw [hPP] at hP3 hl3 hX3
        rw [← hl3]
        rw [← hl3] at hzl hP1 hP4
        have hP := hidden hP3.out
        clear hP3 hL HSA HSB hmo hS0 kS1 kS2 hA1 hB1 hA2 hB2 hO1 hO2 hOO hPP hXX hl3 hX hhb
        have t1 := hP.out.atA z X3 hX3
        have t2 := hP.out.atB z X3 hX3
        have t3 := hidden (hP.out.each z X3 hX3)
        have hS := And.intro t1 t2
        go_wp2_with fail
        go_region_held3 (fun w' => w'.cell? ⟨ga, z, none⟩ = some (.pointer (some ⟨X3.na, 0, none⟩)) ∧ w'.cell? ⟨gb, z, none⟩ = some (.pointer (some ⟨X3.nb, 0, none⟩)))
          (exact hS) (first | (go_at_call 19; refine (same_any X3.m X3.na X3.nb _ (by exact t3.out.ba) (by exact t3.out.bb)).mono ?_; rintro e w5 ⟨rfl, rfl⟩))
        go_wp2_with fail
        go_roundw
        case rel => exact ⟨i + 1, P3, ga, ca, gb, cb, rfl, rfl, by go_num, by omega, hP1, hP4, hP.out.later ((Only.refl _ _).drewN _)⟩
        case measure => simp [intOf]; omega
      · clear y0 y1
        have hL := hidden (hP.out.led hX hhb.out)
        have HSA := hidden fun W => drop_any X.m hL.out.good.ok X.na n W
        have HSB := hidden fun W => dropR_any X.m hL.out.good.ok X.nb n W
        have hmo := hidden (M.drop_ok hL.out.good.ok n)
        obtain ⟨o, ho⟩ : ∃ o, X.m.dropOk n = o := ⟨_, rfl⟩
        obtain ⟨m3, hm3⟩ : ∃ m3, X.m.drop n = m3 := ⟨_, rfl⟩
        rw [ho, hm3] at HSA HSB
        rw [hm3] at hmo
        clear ho hm3
        have hS0 := hL.out.held
        unfold Held at hS0
        go_wp2_with fail
        go_region_held3 (fun w' => w'.cell? ⟨ga, z, none⟩ = some (.pointer (some ⟨X.na, 0, none⟩)) ∧ w'.cell? ⟨gb, z, none⟩ = some (.pointer (some ⟨X.nb, 0, none⟩)) ∧ w'.cell? ⟨bo, 2, none⟩ = some (.int .i64 n))
          (first | exact kS2 | exact kS1 | exact hS0)
          (first
            | (go_at_call 15; refine (HSA.out _ (by exact hL.out.good.ba)).mono ?_; rintro e wB ⟨rfl, hA1, hO1⟩; have hO1 : Only [X.na] WA wB := ⟨hO1.os, hO1.tape, hO1.output, hO1.size, hO1.block⟩; have kS1 := Held.keep hL.out.held hO1 hL.out.gna hL.out.hna hL.out.bna; have hB1 := hO1.blk hL.out.good.bb (by simpa using Ne.symm hL.out.nab))
            | (go_at_call 16; refine (HSB.out _ (by exact hB1)).mono ?_; rintro e wC ⟨rfl, hB2, hO2⟩; have hO2 : Only [X.nb] wB wC := ⟨hO2.os, hO2.tape, hO2.output, hO2.size, hO2.block⟩; have kS2 := Held.keep kS1 hO2 hL.out.gnb hL.out.hnb hL.out.bnb; have hA2 := hO2.blk hA1 (by simpa using hL.out.nab)))
        have hOO : Only [X.na, X.nb] WA wC := (hO1.mono (by intro _ _ h; simp at h ⊢; exact Or.inl h)).trans (hO2.mono (by intro _ _ h; simp at h ⊢; exact Or.inr h))
        have hP3 := hidden (hP.out.done z X hX m3 hmo.out hOO hA2 hB2)
        have hl3 : (P.set z { X with m := m3 }).length = P.length := by simp
        have hX3 : (P.set z { X with m := m3 })[z]? = some { X with m := m3 } := by simp [hzl]
        obtain ⟨X3, hXX⟩ : ∃ X3, { X with m := m3 } = X3 := ⟨_, rfl⟩
        rw [hXX] at hP3 hl3 hX3
        obtain ⟨P3, hPP⟩ : ∃ P3, P.set z X3 = P3 := ⟨_, rfl⟩
        rw [hPP] at hP3 hl3 hX3
        rw [← hl3]
        rw [← hl3] at hzl hP1 hP4
        have hP := hidden hP3.out
        clear hP3 hL HSA HSB hmo hS0 kS1 kS2 hA1 hB1 hA2 hB2 hO1 hO2 hOO hPP hXX hl3 hX hhb
        have t1 := hP.out.atA z X3 hX3
        have t2 := hP.out.atB z X3 hX3
        have t3 := hidden (hP.out.each z X3 hX3)
        have hS := And.intro t1 t2
        go_wp2_with fail
        go_region_held3 (fun w' => w'.cell? ⟨ga, z, none⟩ = some (.pointer (some ⟨X3.na, 0, none⟩)) ∧ w'.cell? ⟨gb, z, none⟩ = some (.pointer (some ⟨X3.nb, 0, none⟩)))
          (exact hS) (first | (go_at_call 19; refine (same_any X3.m X3.na X3.nb _ (by exact t3.out.ba) (by exact t3.out.bb)).mono ?_; rintro e w5 ⟨rfl, rfl⟩))
        go_wp2_with fail
        go_roundw
        case rel => exact ⟨i + 1, P3, ga, ca, gb, cb, rfl, rfl, by go_num, by omega, hP1, hP4, hP.out.later ((Only.refl _ _).drewN _)⟩
        case measure => simp [intOf]; omega
      · clear y0 y1
        have hgd := hP.out.each z X hX
        have m1 := hP.out.atA z X hX
        have m2 := hP.out.atB z X hX
        have hGA := hidden hgd.ba
        have hGB := hidden hgd.bb
        have hfy := hidden (fresh_pair WA X.m hgd.ok)
        have m3 : (WA.alloc (.cells X.m.cells.toArray 52)).cell? ⟨gb, z, none⟩ = some (.pointer (some ⟨X.nb, 0, none⟩)) := (cell_past _ _ _ _ hP.out.rowB.lo.2).trans m2
        clear hgd m2
        go_wp2_with fail
        refine (clone_any X.m X.na _ (by exact hGA.out)).mono ?_
        rintro e w3 ⟨rfl, rfl⟩
        go_wp2_with fail
        refine (cloneR_any X.m X.nb _ (by exact hGB.out.alloc _)).mono ?_
        rintro e w3 ⟨rfl, rfl⟩
        have k1 := hidden (((Only.refl [] WA).alloc (.cells X.m.cells.toArray 52)).alloc (.cells X.m.rcells.toArray 54))
        obtain ⟨WC, hWC⟩ : ∃ W, (WA.alloc (.cells X.m.cells.toArray 52)).alloc (.cells X.m.rcells.toArray 54) = W := ⟨_, rfl⟩
        rw [hWC] at k1 hfy
        rw [hWC]
        clear m1 m3 hGA hGB hWC
        by_cases h4 : P.length < 4
        · have hwc := (hP.out.later k1.out).wlt
          go_wp2_with (at_builtin; refine wpList_append_own _ rfl _ _ 31 rfl w.heap.size 24 iA (.pointer none) 1 8 Try.underlying31 hiA hzA0 hzA1 hzA2 rfl (by decide) _ _ _ rfl ((hP.out.later k1.out).rowA.alloc _) ⟨WC.heap.size, 0, none⟩ 1 1 [.pointer (some ⟨WA.heap.size, 0, none⟩)] rfl rfl ?c1 ?c2 ?c3 ?c4 ?c5 ?_)
          case c1 => exact cell_one_new _ _ _
          case c2 => intro u hu; simp at hu; subst hu; rfl
          case c3 => unfold maxLen; omega
          case c4 => omega
          case c5 => simp; omega
          intro v5 w5 hown5 hgrow5 _
          obtain ⟨ga2, ca2, hv5⟩ := Go.Joins.ownsRow_form hown5 (by omega)
          rw [hv5]
          rw [hv5] at hown5
          have rB5 := hP.out.half (k1.out.alloc _) hgrow5
          have hw5 : w.heap.size ≤ w5.heap.size := Nat.le_trans (Nat.le_trans hwc (by simp)) hgrow5.size
          have hown5 := hidden hown5
          have hgrow5 := hidden hgrow5
          go_wp2_with (at_builtin; refine wpList_append_own _ rfl _ _ 32 rfl w.heap.size 28 iB (.pointer none) 1 8 Try.underlying32 hiB hzB0 hzB1 hzB2 rfl (by decide) _ _ _ rfl (rB5.alloc _) ⟨w5.heap.size, 0, none⟩ 1 1 [.pointer (some ⟨WA.heap.size + 1, 0, none⟩)] rfl rfl ?c1 ?c2 ?c3 ?c4 ?c5 ?_)
          case c1 => exact cell_one_new _ _ _
          case c2 => intro u hu; simp at hu; subst hu; rfl
          case c3 => unfold maxLen; omega
          case c4 => omega
          case c5 => simp; omega
          intro v6 w6 hown6 hgrow6 _
          obtain ⟨gb2, cb2, hv6⟩ := Go.Joins.ownsRow_form hown6 (by omega)
          rw [hv6]
          rw [hv6] at hown6
          have hP3 := hidden (hP.out.more (y := ⟨WA.heap.size, WA.heap.size + 1, X.m⟩) (k1.out.alloc _) (hfy.out.keep ((Only.refl [] _).alloc _) (by simp) (by simp)) hgrow5.out hown5.out ((Only.refl [] w5).alloc _) hgrow6 hown6)
          have hX3 : (P ++ [(⟨WA.heap.size, WA.heap.size + 1, X.m⟩ : Pr)])[z]? = some X := by rw [List.getElem?_append_left hzl]; exact hX
          have hl3 : (P ++ [(⟨WA.heap.size, WA.heap.size + 1, X.m⟩ : Pr)]).length = P.length + 1 := by simp
          obtain ⟨P3, hPP⟩ : ∃ P3, P ++ [(⟨WA.heap.size, WA.heap.size + 1, X.m⟩ : Pr)] = P3 := ⟨_, rfl⟩
          rw [hPP] at hP3 hl3 hX3
          rw [← hl3]
          have hzl : z < P3.length := by omega
          have z1 : (z : Int) < (P3.length : Int) := by omega
          have hP1 : 1 ≤ P3.length := by omega
          have hP4 : P3.length ≤ 4 := by omega
          obtain ⟨X3, hXX⟩ : ∃ X3, X = X3 := ⟨_, rfl⟩
          rw [hXX] at hX3
          have hP := hidden hP3.out
          clear hP3 hl3 hPP hXX hown5 hgrow5 hown6 hgrow6 rB5 hw5 hwc hv5 hv6 h4 k1 hfy hX hhb
          have t1 := hP.out.atA z X3 hX3
          have t2 := hP.out.atB z X3 hX3
          have t3 := hidden (hP.out.each z X3 hX3)
          have hS := And.intro t1 t2
          go_wp2_with fail
          go_region_held3 (fun w' => w'.cell? ⟨ga2, z, none⟩ = some (.pointer (some ⟨X3.na, 0, none⟩)) ∧ w'.cell? ⟨gb2, z, none⟩ = some (.pointer (some ⟨X3.nb, 0, none⟩)))
            (exact hS) (first | (go_at_call 19; refine (same_any X3.m X3.na X3.nb _ (by exact t3.out.ba) (by exact t3.out.bb)).mono ?_; rintro e w5 ⟨rfl, rfl⟩))
          go_wp2_with fail
          go_roundw
          case rel => exact ⟨i + 1, P3, ga2, ca2, gb2, cb2, rfl, rfl, by go_num, by omega, hP1, hP4, hP.out.later ((Only.refl _ _).drewN _)⟩
          case measure => simp [intOf]; omega
        · have e4 : P.length = 4 := by omega
          have HN := hidden fun W => among_any n 4 (by omega) (by omega) W
          obtain ⟨j0, j1⟩ := amg_bd n 4 (by omega)
          obtain ⟨jj, hjj⟩ : ∃ j, amg n 4 = j := ⟨_, rfl⟩
          rw [hjj] at HN j0 j1
          clear hjj
          obtain ⟨j, rfl⟩ := Int.eq_ofNat_of_zero_le j0
          have hj4 : j < 4 := by omega
          have hjl : j < P.length := by omega
          have hPC := hP.out.later k1.out
          have hbC := k1.out.blk hhb.out (by simp)
          have d3 : WC.cell? ⟨bo, 2, none⟩ = some (.int .i64 n) := hbC.cell 2
          obtain ⟨XJ, hXJ⟩ : ∃ XJ, P[j]? = some XJ := ⟨P[j], by simp [hjl]⟩
          have dA := hPC.atA j XJ hXJ
          have dB := hPC.atB j XJ hXJ
          have fA := hPC.rowA.frozenAt j
          have fB := hPC.rowB.frozenAt j
          have nA : ¬ bo = ga := hPC.rowA.ne_blk hbC (by decide)
          have nG : ¬ gb = ga := hPC.rowA.ne_row hPC.rowB (by decide)
          have HPUT := hidden (hP.out.put k1.out hfy.out j)
          have hjI : (j : Int) < (P.length : Int) := by omega
          clear e4
          have HN := hidden fun W => (show Calls Try.prog 10 #[.int .i64 n, .int .i64 4] W _ from HN.out W)
          clear hPC hbC hXJ
          go_wp2_with (go_at_call 10; refine (HN.out _).mono ?_; rintro e w2 ⟨rfl, rfl⟩)
          have hP3 := hidden HPUT.out
          have hl3 : (P.set j ⟨WA.heap.size, WA.heap.size + 1, X.m⟩).length = P.length := by simp
          obtain ⟨P3, hPP⟩ : ∃ P3, P.set j ⟨WA.heap.size, WA.heap.size + 1, X.m⟩ = P3 := ⟨_, rfl⟩
          rw [hPP] at hP3 hl3
          obtain ⟨WD, hWD⟩ : ∃ W, (w2.setCell ⟨ga, j, none⟩ (.pointer (some ⟨WA.heap.size, 0, none⟩))).setCell ⟨gb, j, none⟩ (.pointer (some ⟨WA.heap.size + 1, 0, none⟩)) = W := ⟨_, rfl⟩
          have hP3 : Hid (Two w.heap.size w WD ga ca gb cb P3) := by rw [← hWD]; exact hP3.out
          rw [hWD]
          rw [← hl3]
          rw [← hl3] at hzl hP1 hP4 h4 z1
          obtain ⟨X3, hX3⟩ : ∃ X3, P3[z]? = some X3 := ⟨P3[z], by simp [hzl]⟩
          have hP := hidden hP3.out
          clear hP3 hl3 hPP hWD HPUT HN d3 dA dB fA fB nA nG hjl hjI k1 hfy hX hhb
          have t1 := hP.out.atA z X3 hX3
          have t2 := hP.out.atB z X3 hX3
          have t3 := hidden (hP.out.each z X3 hX3)
          have hS := And.intro t1 t2
          go_wp2_with fail
          go_region_held3 (fun w' => w'.cell? ⟨ga, z, none⟩ = some (.pointer (some ⟨X3.na, 0, none⟩)) ∧ w'.cell? ⟨gb, z, none⟩ = some (.pointer (some ⟨X3.nb, 0, none⟩)))
            (exact hS) (first | (go_at_call 19; refine (same_any X3.m X3.na X3.nb _ (by exact t3.out.ba) (by exact t3.out.bb)).mono ?_; rintro e w5 ⟨rfl, rfl⟩))
          go_wp2_with fail
          go_roundw
          case rel => exact ⟨i + 1, P3, ga, ca, gb, cb, rfl, rfl, by go_num, by omega, hP1, hP4, hP.out.later ((Only.refl _ _).drewN _)⟩
          case measure => simp [intOf]; omega
    · go_wp2_with fail
      go_loopw [167] (fun vi wz => ∃ j : Nat, vi = .int .i64 j ∧ j ≤ P.length ∧ ∃ nq, wz = wr.drewN nq) (fun vi _ => P.length - (intOf vi).toNat)
      case atStart => exact ⟨0, rfl, Nat.zero_le _, 0, rfl⟩
      case round =>
        obtain ⟨j, rfl, hj, nq, rfl⟩ := hrel
        by_cases hlt3 : j < P.length
        · obtain ⟨Y, hY⟩ : ∃ Y, P[j]? = some Y := ⟨P[j], by simp [hlt3]⟩
          have t1 := hP.out.atA j Y hY
          have t2 := hP.out.atB j Y hY
          have t3 := hidden (hP.out.each j Y hY)
          have hj2 : (j : Int) < (P.length : Int) := by omega
          have hS := And.intro t1 t2
          clear hY
          go_wp2_with fail
          go_region_held3 (fun w' => w'.cell? ⟨ga, j, none⟩ = some (.pointer (some ⟨Y.na, 0, none⟩)) ∧ w'.cell? ⟨gb, j, none⟩ = some (.pointer (some ⟨Y.nb, 0, none⟩)))
            (exact hS) (first | (go_at_call 19; refine (same_any Y.m Y.na Y.nb _ (by exact t3.out.ba) (by exact t3.out.bb)).mono ?_; rintro e w5 ⟨rfl, rfl⟩))
          go_wp2_with fail
          go_roundw
          case rel => exact ⟨j + 1, by go_num, by omega, _, rfl⟩
          case measure => simp [intOf]; omega
        · go_wp2_with fail
          go_ret
          exact ⟨rfl, (hP.out.later ((Only.refl _ _).drewN _)).below⟩
end Go.Proofs.Ytliomaiaknpphaa
