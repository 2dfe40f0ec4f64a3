/- settleGlyph: a number of a glyph, where it belongs. -/
import Derived.Test.YtdinlaoimpoolaaRd
namespace Go.Proofs.Ytdinlaoimpoolaa
open Go.RowKit

theorem field33_0 (a b c d : Int) (w : World) : (Instr.field 33 (.agg #[.int .i64 a, .int .i64 b, .int .i64 c, .int .i64 d]) 0).run Try.prog w = .ok (.int .i64 a) w := by kernel_rfl
theorem field35_0 (a b : Int) (i : Bool) (c d : Int) (w : World) : (Instr.field 35 (.agg #[.int .i64 a, .int .i64 b, .bool i, .int .i64 c, .int .i64 d]) 0).run Try.prog w = .ok (.int .i64 a) w := by kernel_rfl
theorem field35_1 (a b : Int) (i : Bool) (c d : Int) (w : World) : (Instr.field 35 (.agg #[.int .i64 a, .int .i64 b, .bool i, .int .i64 c, .int .i64 d]) 1).run Try.prog w = .ok (.int .i64 b) w := by kernel_rfl
set_option maxRecDepth 100000 in
set_option maxHeartbeats 2000000 in
theorem setGlyph5 (h bp r : Nat) (s : St) (gv pv tv : Value) (n : Nat) (W : World) (R : Rd h bp W r s gv pv tv False) (hx : s.nx = 5) (hn : n < 16777216) (hl : s.gs.length ≤ 1024) :
    Calls Try.prog 72 #[.pointer (some ⟨r, 0, none⟩), .int .i64 n] W fun e w' => e = .returned (.bool (fits s n)) ∧ Rd h bp w' r (put s n) gv pv tv False ∧ Below h W w' := by
  have HF : Hid (fits s n = (decide (widthI n ≠ 0) && decide ((aheadG s.gs).1 < (n : Int)))) := hid (by simp only [fits, hx])
  have HP : Hid (put s n = { s with g := ((n : Int), 0, 0, 0) }) := hid (by simp only [put, hx])
  have HR := hid R
  obtain ⟨q, hq⟩ : ∃ q, fits s n = q := ⟨_, rfl⟩
  rw [hq] at HF ⊢
  rw [HP.out]
  have c0 : W.cell? ⟨r, 0, none⟩ = some (.int .i64 s.nx) := R.blk.cell 0
  have c5 : W.cell? ⟨r, 5, none⟩ = some gv := R.blk.cell 5
  have k9 : W.cell? ⟨r, 9, none⟩ = some (.int .i64 s.g.1) := R.blk.cell 9
  have k10 : W.cell? ⟨r, 10, none⟩ = some (.int .i64 s.g.2.1) := R.blk.cell 10
  have k11 : W.cell? ⟨r, 11, none⟩ = some (.int .i64 s.g.2.2.1) := R.blk.cell 11
  have k12 : W.cell? ⟨r, 12, none⟩ = some (.int .i64 s.g.2.2.2) := R.blk.cell 12
  have f9 := R.blk.froz 9
  have f10 := R.blk.froz 10
  have f11 := R.blk.froz 11
  have f12 := R.blk.froz 12
  rw [hx] at c0
  have hnw : IntKind.i32.wrap (n : Int) = n := by simp [IntKind.wrap, IntKind.bits, IntKind.signed]; omega
  have HN : Hid (n < 16777216) := hid hn
  have HL : Hid (s.gs.length ≤ 1024) := hid hl
  have HV := hid (valid_any n hn)
  clear R hq hn hl hx
  go_enter Try.func72, Try.ntmps72
  go_wp2_with fail
  have R2 := HR.out.cellG n 0 0 0
  have B2 : Below h W ((((W.setCell ⟨r, 9, none⟩ (.int .i64 n)).setCell ⟨r, 10, none⟩ (.int .i64 0)).setCell ⟨r, 11, none⟩ (.int .i64 0)).setCell ⟨r, 12, none⟩ (.int .i64 0)) :=
    ((((Below.refl h W).setCell (p := ⟨r, 9, none⟩) HR.out.rh _).setCell (p := ⟨r, 10, none⟩) HR.out.rh _).setCell (p := ⟨r, 11, none⟩) HR.out.rh _).setCell (p := ⟨r, 12, none⟩) HR.out.rh _
  obtain ⟨W2, hW2⟩ : ∃ W2, (((W.setCell ⟨r, 9, none⟩ (.int .i64 n)).setCell ⟨r, 10, none⟩ (.int .i64 0)).setCell ⟨r, 11, none⟩ (.int .i64 0)).setCell ⟨r, 12, none⟩ (.int .i64 0) = W2 := ⟨_, rfl⟩
  rw [hW2] at R2 B2 ⊢
  have HR2 := hid R2
  have HB2 := hid B2
  clear R2 B2 hW2 c0 c5 k9 k10 k11 k12 f9 f10 f11 f12
  refine (HV.out W2).mono ?_
  rintro e w2 ⟨rfl, rfl⟩
  cases hv : decide (widthI (n : Int) ≠ 0) with
  | false =>
    rw [hv] at HF
    go_wp2_with fail
    go_ret
    exact ⟨by rw [HF.out]; rfl, HR2.out, HB2.out⟩
  | true =>
    rw [hv] at HF
    obtain ⟨ad, cap, hgv, hsl, _⟩ := row_reads HR2.out.gr
    have HA := hid (glyphAhead_any r s.gs ad cap _ w2 HR2.out.blk (by rw [hgv]; rfl) hsl HL.out)
    clear hv hsl
    go_wp2_with fail
    refine HA.out.mono ?_
    rintro e w3 ⟨rfl, hb3⟩
    have HR3 := hid (HR2.out.below hb3)
    have HB3 := hid (HB2.out.trans (hb3.mono (by have := HR2.out.hb; omega)))
    clear hb3
    obtain ⟨x, hx⟩ : ∃ x, aheadG s.gs = x := ⟨_, rfl⟩
    rw [hx] at HF ⊢
    obtain ⟨x0, x1, x2, x3⟩ := x
    simp only [cg] at *
    clear hx
    have hfd := field33_0
    go_wp2_with fail
    go_ret
    exact ⟨by rw [HF.out]; rfl, HR3.out, HB3.out⟩
set_option maxRecDepth 100000 in
set_option maxHeartbeats 2000000 in
theorem setGlyph6 (h bp r : Nat) (s : St) (gv pv tv : Value) (n : Nat) (W : World) (R : Rd h bp W r s gv pv tv False) (hx : s.nx = 6) :
    Calls Try.prog 72 #[.pointer (some ⟨r, 0, none⟩), .int .i64 n] W fun e w' => e = .returned (.bool (fits s n)) ∧ Rd h bp w' r (put s n) gv pv tv False ∧ Below h W w' := by
  have HF : Hid (fits s n = decide (n ≤ 16384)) := hid (by simp only [fits, hx])
  have HP : Hid (put s n = { s with g := (s.g.1, (n : Int), s.g.2.2.1, s.g.2.2.2) }) := hid (by simp only [put, hx])
  have HR2 := hid (R.cell { s with g := (s.g.1, (n : Int), s.g.2.2.1, s.g.2.2.2) } 10 (.int .i64 n) rfl rfl rfl rfl)
  have HB2 : Hid (Below h W (W.setCell ⟨r, 10, none⟩ (.int .i64 n))) := hid ((Below.refl h W).setCell (p := ⟨r, 10, none⟩) R.rh _)
  rw [HF.out, HP.out]
  have c0 : W.cell? ⟨r, 0, none⟩ = some (.int .i64 s.nx) := R.blk.cell 0
  have kc : W.cell? ⟨r, 10, none⟩ = some (.int .i64 s.g.2.1) := R.blk.cell 10
  have fc := R.blk.froz 10
  rw [hx] at c0
  have hdec : decide ((n : Int) ≤ 16384) = decide (n ≤ 16384) := decide_eq_decide.2 (by omega)
  have HD := hid hdec
  clear R hx HF HP hdec
  go_enter Try.func72, Try.ntmps72
  go_wp2_with fail
  go_ret
  exact ⟨by rw [← HD.out]; rfl, HR2.out, HB2.out⟩

set_option maxRecDepth 100000 in
set_option maxHeartbeats 2000000 in
theorem setGlyph7 (h bp r : Nat) (s : St) (gv pv tv : Value) (n : Nat) (W : World) (R : Rd h bp W r s gv pv tv False) (hx : s.nx = 7) :
    Calls Try.prog 72 #[.pointer (some ⟨r, 0, none⟩), .int .i64 n] W fun e w' => e = .returned (.bool (fits s n)) ∧ Rd h bp w' r (put s n) gv pv tv False ∧ Below h W w' := by
  have HF : Hid (fits s n = decide (n ≤ 16384)) := hid (by simp only [fits, hx])
  have HP : Hid (put s n = { s with g := (s.g.1, s.g.2.1, (n : Int), s.g.2.2.2) }) := hid (by simp only [put, hx])
  have HR2 := hid (R.cell { s with g := (s.g.1, s.g.2.1, (n : Int), s.g.2.2.2) } 11 (.int .i64 n) rfl rfl rfl rfl)
  have HB2 : Hid (Below h W (W.setCell ⟨r, 11, none⟩ (.int .i64 n))) := hid ((Below.refl h W).setCell (p := ⟨r, 11, none⟩) R.rh _)
  rw [HF.out, HP.out]
  have c0 : W.cell? ⟨r, 0, none⟩ = some (.int .i64 s.nx) := R.blk.cell 0
  have kc : W.cell? ⟨r, 11, none⟩ = some (.int .i64 s.g.2.2.1) := R.blk.cell 11
  have fc := R.blk.froz 11
  rw [hx] at c0
  have hdec : decide ((n : Int) ≤ 16384) = decide (n ≤ 16384) := decide_eq_decide.2 (by omega)
  have HD := hid hdec
  clear R hx HF HP hdec
  go_enter Try.func72, Try.ntmps72
  go_wp2_with fail
  go_ret
  exact ⟨by rw [← HD.out]; rfl, HR2.out, HB2.out⟩

set_option maxRecDepth 100000 in
set_option maxHeartbeats 2000000 in
theorem setGlyph8 (h bp r : Nat) (s : St) (gv pv tv : Value) (n : Nat) (W : World) (R : Rd h bp W r s gv pv tv False) (hx : s.nx = 8) (hl : s.gs.length < 1024) :
    Calls Try.prog 72 #[.pointer (some ⟨r, 0, none⟩), .int .i64 n] W fun e w' => e = .returned (.bool (fits s n)) ∧ (∃ gv', Rd h bp w' r (put s n) gv' pv tv False) ∧ Below h W w' := by
  obtain ⟨i33, hi33, z330, z331, z332⟩ := info_parts info45
  have HF : Hid (fits s n = decide (n ≤ 16384)) := hid (by simp only [fits, hx])
  have HP : Hid (put s n = { s with g := (s.g.1, s.g.2.1, s.g.2.2.1, (n : Int)), gs := s.gs ++ [(s.g.1, s.g.2.1, s.g.2.2.1, (n : Int))] }) := hid (by simp only [put, hx])
  have HR2 := hid (R.cell { s with g := (s.g.1, s.g.2.1, s.g.2.2.1, (n : Int)) } 12 (.int .i64 n) rfl rfl rfl rfl)
  have HB2 : Hid (Below h W (W.setCell ⟨r, 12, none⟩ (.int .i64 n))) := hid ((Below.refl h W).setCell (p := ⟨r, 12, none⟩) R.rh _)
  have HL := hid hl
  rw [HF.out, HP.out]
  have c0 : W.cell? ⟨r, 0, none⟩ = some (.int .i64 s.nx) := R.blk.cell 0
  have kc : W.cell? ⟨r, 12, none⟩ = some (.int .i64 s.g.2.2.2) := R.blk.cell 12
  have fc := R.blk.froz 12
  rw [hx] at c0
  have hdec : decide ((n : Int) ≤ 16384) = decide (n ≤ 16384) := decide_eq_decide.2 (by omega)
  have HD := hid hdec
  clear R hx HF HP hdec hl
  go_enter Try.func72, Try.ntmps72
  go_wp2_with fail
  obtain ⟨W2, hW2⟩ : ∃ W2, W.setCell ⟨r, 12, none⟩ (.int .i64 n) = W2 := ⟨_, rfl⟩
  rw [hW2] at HR2 HB2 ⊢
  clear hW2 c0 kc fc
  have HS : Hid (∀ X, Below W2.heap.size W2 X → X.cell? ⟨r, 5, none⟩ = some gv ∧ X.cell? ⟨r, 9, none⟩ = some (.int .i64 s.g.1) ∧ X.cell? ⟨r, 10, none⟩ = some (.int .i64 s.g.2.1) ∧ X.cell? ⟨r, 11, none⟩ = some (.int .i64 s.g.2.2.1) ∧ X.cell? ⟨r, 12, none⟩ = some (.int .i64 (n : Int))) := hid fun X hX =>
    have b := (HR2.out.below hX).blk
    ⟨b.cell 5, b.cell 9, b.cell 10, b.cell 11, b.cell 12⟩
  have HA : Hid (Rd h bp (W2.drew.alloc (.cells #[.int .i64 s.g.1, .int .i64 s.g.2.1, .int .i64 s.g.2.2.1, .int .i64 (n : Int)] 33)) r _ gv pv tv False) := hid (HR2.out.below (((Below.refl _ W2).drew).alloc (Nat.le_refl _) _))
  have HN : Hid (Sl (W2.drew.alloc (.cells #[.int .i64 s.g.1, .int .i64 s.g.2.1, .int .i64 s.g.2.2.1, .int .i64 (n : Int)] 33)) (some ⟨W2.heap.size, 0, none⟩) 1 (cg (s.g.1, s.g.2.1, s.g.2.2.1, (n : Int)))) := hid (fun _ => ⟨_, 0, rfl, (Blk.new W2.drew _ 33 rfl).lt, fun j u hj => by rw [Nat.zero_add]; exact ((Blk.new W2.drew #[.int .i64 s.g.1, .int .i64 s.g.2.1, .int .i64 s.g.2.2.1, .int .i64 (n : Int)] 33 rfl).cell j).trans hj⟩)
  have HBA : Hid (Below h W2 (W2.drew.alloc (.cells #[.int .i64 s.g.1, .int .i64 s.g.2.1, .int .i64 s.g.2.2.1, .int .i64 (n : Int)] 33))) := hid (((Below.refl h W2).drew).alloc (by have := HR2.out.hb; simp; omega) _)
  have hS0 := HS.out W2 (Below.refl _ _)
  have hm1 : s.gs.length + 1 ≤ maxLen := by have := HL.out; unfold maxLen; omega
  have hm2 : (s.gs.length + 1) * 32 ≤ 140737488355328 := by have := HL.out; omega
  have hm3 : h ≤ (W2.drew.alloc (.cells #[.int .i64 s.g.1, .int .i64 s.g.2.1, .int .i64 s.g.2.2.1, .int .i64 (n : Int)] 33)).heap.size := by have := HR2.out.hb; simp; omega
  have HM := hid (And.intro hm1 (And.intro hm2 hm3))
  clear hm1 hm2 hm3
  obtain ⟨c5, k9, k10, k11, k12⟩ := hS0
  have hne : ¬ r = W2.heap.size := by have := HR2.out.blk.lt; omega
  have c5' : (W2.alloc (.cells #[.int .i64 s.g.1, .int .i64 s.g.2.1, .int .i64 s.g.2.2.1, .int .i64 (n : Int)] 33)).cell? ⟨r, 5, none⟩ = some gv := HA.out.blk.cell 5
  have mf : Try.prog.follows .mixedOrders = true := by kernel_rfl
  go_region_law
    ((refine step_append_sl _ rfl _ _ 22 rfl h 33 i33 _ 4 32 Try.underlying22 hi33 z330 z331 z332 rfl (by decide) gv s.gs.length (s.gs.flatMap cg) (by rfl) HA.out.gr (some ⟨W2.heap.size, 0, none⟩) 1 1 (cg (s.g.1, s.g.2.1, s.g.2.2.1, (n : Int))) (by rfl) (by rfl) HN.out (by simp [cg, Value.oneCell']) HM.out.1 HM.out.2.1 HM.out.2.2 ?_; intro v' w1 hown hgrew; have hrow := row_reads hown; obtain ⟨ad', cap', rfl, _, _⟩ := hrow; have HG := hid (HA.out.growG hown hgrew.grown); have d5 : w1.cell? ⟨r, 5, none⟩ = some gv := HG.out.1.cell 5; have f5 := HG.out.1.froz 5; clear hown hgrew))
  all_goals
    have HG2 := hid HG.out.2
    obtain ⟨W3, hW3⟩ : ∃ W3, w1.setCell ⟨r, 5, none⟩ (.slice ad' (s.gs.length + 1) cap') = W3 := ⟨_, rfl⟩
    rw [hW3] at HG2 ⊢
    clear hW3 d5 f5 HG c5 c5' k9 k10 k11 k12
    go_wp2_with fail
    go_ret
    exact ⟨by rw [← HD.out]; rfl, ⟨_, HG2.out.1⟩, HB2.out.trans (HBA.out.trans HG2.out.2)⟩
/-- what settleGlyph leaves -/
theorem setGlyph_any (h bp r : Nat) (s : St) (gv pv tv : Value) (n : Nat) (W : World) (R : Rd h bp W r s gv pv tv False) (hx : 5 ≤ s.nx ∧ s.nx ≤ 8) (hl : s.gs.length < 1024) (hn : n < 16777216) :
    Calls Try.prog 72 #[.pointer (some ⟨r, 0, none⟩), .int .i64 n] W fun e w' => e = .returned (.bool (fits s n)) ∧ (∃ gv', Rd h bp w' r (put s n) gv' pv tv False) ∧ Below h W w' := by
  rcases (show s.nx = 5 ∨ s.nx = 6 ∨ s.nx = 7 ∨ s.nx = 8 by omega) with e | e | e | e
  · exact (setGlyph5 h bp r s gv pv tv n W R e hn (by omega)).mono fun e w' k => ⟨k.1, ⟨_, k.2.1⟩, k.2.2⟩
  · exact (setGlyph6 h bp r s gv pv tv n W R e).mono fun e w' k => ⟨k.1, ⟨_, k.2.1⟩, k.2.2⟩
  · exact (setGlyph7 h bp r s gv pv tv n W R e).mono fun e w' k => ⟨k.1, ⟨_, k.2.1⟩, k.2.2⟩
  · exact setGlyph8 h bp r s gv pv tv n W R e hl
end Go.Proofs.Ytdinlaoimpoolaa
namespace Go.Proofs.Ytdinlaoimpoolaa
open Go.RowKit

set_option maxRecDepth 100000 in
set_option maxHeartbeats 2000000 in
theorem setPair10 (h bp r : Nat) (s : St) (gv pv tv : Value) (n : Nat) (W : World) (R : Rd h bp W r s gv pv tv True) (hx : s.nx = 10) (hl : s.ps.length ≤ 4096) :
    Calls Try.prog 73 #[.pointer (some ⟨r, 0, none⟩), .int .i64 n] W fun e w' => e = .returned (.bool (fits s n)) ∧ Rd h bp w' r (put s n) gv pv tv True ∧ Below h W w' := by
  have HF : Hid (fits s n = (hasG s.gs n && decide ((aheadP s.ps).1 ≤ (n : Int)))) := hid (by simp only [fits, hx])
  have HP : Hid (put s n = { s with p := ((n : Int), 0, false, 0, 0) }) := hid (by simp only [put, hx])
  have HR := hid R
  obtain ⟨q, hq⟩ : ∃ q, fits s n = q := ⟨_, rfl⟩
  rw [hq] at HF ⊢
  rw [HP.out]
  have c0 : W.cell? ⟨r, 0, none⟩ = some (.int .i64 s.nx) := R.blk.cell 0
  have k13 : W.cell? ⟨r, 13, none⟩ = some (.int .i64 s.p.1) := R.blk.cell 13
  have k14 : W.cell? ⟨r, 14, none⟩ = some (.int .i64 s.p.2.1) := R.blk.cell 14
  have k15 : W.cell? ⟨r, 15, none⟩ = some (.bool s.p.2.2.1) := R.blk.cell 15
  have k16 : W.cell? ⟨r, 16, none⟩ = some (.int .i64 s.p.2.2.2.1) := R.blk.cell 16
  have k17 : W.cell? ⟨r, 17, none⟩ = some (.int .i64 s.p.2.2.2.2) := R.blk.cell 17
  have f13 := R.blk.froz 13
  have f14 := R.blk.froz 14
  have f15 := R.blk.froz 15
  have f16 := R.blk.froz 16
  have f17 := R.blk.froz 17
  rw [hx] at c0
  have HL : Hid (s.ps.length ≤ 4096) := hid hl
  have HFD := hid field35_0
  clear R hq hl hx
  go_enter Try.func73, Try.ntmps73
  go_wp2_with fail
  have R2 := HR.out.cellP n 0 false 0 0
  have B2 : Below h W (((((W.setCell ⟨r, 13, none⟩ (.int .i64 n)).setCell ⟨r, 14, none⟩ (.int .i64 0)).setCell ⟨r, 15, none⟩ (.bool false)).setCell ⟨r, 16, none⟩ (.int .i64 0)).setCell ⟨r, 17, none⟩ (.int .i64 0)) :=
    (((((Below.refl h W).setCell (p := ⟨r, 13, none⟩) HR.out.rh _).setCell (p := ⟨r, 14, none⟩) HR.out.rh _).setCell (p := ⟨r, 15, none⟩) HR.out.rh _).setCell (p := ⟨r, 16, none⟩) HR.out.rh _).setCell (p := ⟨r, 17, none⟩) HR.out.rh _
  obtain ⟨W2, hW2⟩ : ∃ W2, ((((W.setCell ⟨r, 13, none⟩ (.int .i64 n)).setCell ⟨r, 14, none⟩ (.int .i64 0)).setCell ⟨r, 15, none⟩ (.bool false)).setCell ⟨r, 16, none⟩ (.int .i64 0)).setCell ⟨r, 17, none⟩ (.int .i64 0) = W2 := ⟨_, rfl⟩
  rw [hW2] at R2 B2 ⊢
  have HR2 := hid R2
  have HB2 := hid B2
  clear R2 B2 hW2 c0 k13 k14 k15 k16 k17 f13 f14 f15 f16 f17
  obtain ⟨a, hta, hTG⟩ := HR2.out.tg trivial
  refine (has_any r a s.gs n _ W2 HR2.out.blk (by rw [hta]; rfl) hTG).mono ?_
  rintro e w2 ⟨rfl, hb2⟩
  have HR3 := hid (HR2.out.below hb2)
  have HB3 := hid (HB2.out.trans (hb2.mono (by have := HR2.out.hb; omega)))
  clear hb2 hTG hta
  cases hv : hasG s.gs (n : Int) with
  | false =>
    rw [hv] at HF
    go_wp2_with fail
    go_ret
    exact ⟨by rw [HF.out]; rfl, HR3.out, HB3.out⟩
  | true =>
    rw [hv] at HF
    obtain ⟨ad, cap, hgv, hsl, _⟩ := row_reads HR3.out.pr
    have HA := hid (pairAhead_any r s.ps ad cap _ w2 HR3.out.blk (by rw [hgv]; rfl) hsl HL.out)
    clear hv hsl
    go_wp2_with fail
    refine HA.out.mono ?_
    rintro e w3 ⟨rfl, hb3⟩
    have HR4 := hid (HR3.out.below hb3)
    have HB4 := hid (HB3.out.trans (hb3.mono (by have := HR3.out.hb; omega)))
    clear hb3
    obtain ⟨x, hx⟩ : ∃ x, aheadP s.ps = x := ⟨_, rfl⟩
    rw [hx] at HF ⊢
    obtain ⟨x0, x1, x2, x3, x4⟩ := x
    simp only [cp] at *
    clear hx
    have hfd := field35_0
    go_wp2_with fail
    go_ret
    exact ⟨by rw [HF.out]; rfl, HR4.out, HB4.out⟩

set_option maxRecDepth 100000 in
set_option maxHeartbeats 2000000 in
theorem setPair12 (h bp r : Nat) (s : St) (gv pv tv : Value) (n : Nat) (W : World) (R : Rd h bp W r s gv pv tv True) (hx : s.nx = 12) :
    Calls Try.prog 73 #[.pointer (some ⟨r, 0, none⟩), .int .i64 n] W fun e w' => e = .returned (.bool (fits s n)) ∧ Rd h bp w' r (put s n) gv pv tv True ∧ Below h W w' := by
  have HF : Hid (fits s n = (decide (n = 1) || decide (n = 2))) := hid (by simp only [fits, hx])
  have HP : Hid (put s n = { s with p := (s.p.1, s.p.2.1, decide (n = 1), s.p.2.2.2.1, s.p.2.2.2.2) }) := hid (by simp only [put, hx])
  have HR2 := hid (R.cell { s with p := (s.p.1, s.p.2.1, decide (n = 1), s.p.2.2.2.1, s.p.2.2.2.2) } 15 (.bool (decide (n = 1))) rfl rfl rfl rfl)
  have HB2 : Hid (Below h W (W.setCell ⟨r, 15, none⟩ (.bool (decide (n = 1))))) := hid ((Below.refl h W).setCell (p := ⟨r, 15, none⟩) R.rh _)
  obtain ⟨q, hq⟩ : ∃ q, fits s n = q := ⟨_, rfl⟩
  rw [hq] at HF ⊢
  rw [HP.out]
  have c0 : W.cell? ⟨r, 0, none⟩ = some (.int .i64 s.nx) := R.blk.cell 0
  have kc : W.cell? ⟨r, 15, none⟩ = some (.bool s.p.2.2.1) := R.blk.cell 15
  have fc := R.blk.froz 15
  rw [hx] at c0
  clear R hx HP hq
  by_cases h1 : n = 1
  · subst h1
    go_enter Try.func73, Try.ntmps73
    go_wp2_with fail
    go_ret
    exact ⟨by rw [HF.out]; rfl, HR2.out, HB2.out⟩
  · have e1 : decide (n = 1) = false := decide_eq_false h1
    have e2 : ((n : Int) == 1) = false := by simp; omega
    rw [e1] at HF HR2 HB2 ⊢
    by_cases h2 : n = 2
    · subst h2
      clear h1 e1 e2
      go_enter Try.func73, Try.ntmps73
      go_wp2_with fail
      go_ret
      exact ⟨by rw [HF.out]; rfl, HR2.out, HB2.out⟩
    · have e3 : decide (n = 2) = false := decide_eq_false h2
      have e4 : ((n : Int) == 2) = false := by simp; omega
      rw [e3] at HF
      clear h1 h2 e1 e3
      go_enter Try.func73, Try.ntmps73
      go_wp2_with fail
      go_ret
      exact ⟨by rw [HF.out]; rfl, HR2.out, HB2.out⟩
set_option maxRecDepth 100000 in
set_option maxHeartbeats 4000000 in
theorem setPair11 (h bp r : Nat) (s : St) (gv pv tv : Value) (n : Nat) (W : World) (R : Rd h bp W r s gv pv tv True) (hx : s.nx = 11) (hl : s.ps.length ≤ 4096) :
    Calls Try.prog 73 #[.pointer (some ⟨r, 0, none⟩), .int .i64 n] W fun e w' => e = .returned (.bool (fits s n)) ∧ Rd h bp w' r (put s n) gv pv tv True ∧ Below h W w' := by
  have HF : Hid (fits s n = (hasG s.gs n && (decide ((aheadP s.ps).1 < s.p.1) || decide ((aheadP s.ps).2.1 < (n : Int))))) := hid (by simp only [fits, hx])
  have HP : Hid (put s n = { s with p := (s.p.1, (n : Int), s.p.2.2.1, s.p.2.2.2.1, s.p.2.2.2.2) }) := hid (by simp only [put, hx])
  have HR2 := hid (R.cell { s with p := (s.p.1, (n : Int), s.p.2.2.1, s.p.2.2.2.1, s.p.2.2.2.2) } 14 (.int .i64 n) rfl rfl rfl rfl)
  have HB2 : Hid (Below h W (W.setCell ⟨r, 14, none⟩ (.int .i64 n))) := hid ((Below.refl h W).setCell (p := ⟨r, 14, none⟩) R.rh _)
  obtain ⟨q, hq⟩ : ∃ q, fits s n = q := ⟨_, rfl⟩
  rw [hq] at HF ⊢
  rw [HP.out]
  have c0 : W.cell? ⟨r, 0, none⟩ = some (.int .i64 s.nx) := R.blk.cell 0
  have kc : W.cell? ⟨r, 14, none⟩ = some (.int .i64 s.p.2.1) := R.blk.cell 14
  have fc := R.blk.froz 14
  rw [hx] at c0
  have HL : Hid (s.ps.length ≤ 4096) := hid hl
  clear R hx HP hq hl
  have HW : Hid (∀ W2, Rd h bp W2 r { s with p := (s.p.1, (n : Int), s.p.2.2.1, s.p.2.2.2.1, s.p.2.2.2.2) } gv pv tv True → (∀ X, Below W2.heap.size W2 X → Calls Try.prog 80 #[.pointer (some ⟨r, 0, none⟩), .int .i64 n] X fun e w' => e = .returned (.bool (hasG s.gs n)) ∧ Below X.heap.size X w') ∧ (∀ X, Below W2.heap.size W2 X → Calls Try.prog 81 #[.pointer (some ⟨r, 0, none⟩)] X fun e w' => e = .returned (.agg (cp (aheadP s.ps)).toArray) ∧ Below X.heap.size X w')) := hid fun W2 R2 => by
    refine ⟨fun X hX => ?_, fun X hX => ?_⟩
    · have R3 := R2.below hX
      obtain ⟨a, hta, hTG⟩ := R3.tg trivial
      exact has_any r a s.gs n _ X R3.blk (by rw [hta]; rfl) hTG
    · have R3 := R2.below hX
      obtain ⟨ad, cap, hgv, hsl, _⟩ := row_reads R3.pr
      exact pairAhead_any r s.ps ad cap _ X R3.blk (by rw [hgv]; rfl) hsl HL.out
  obtain ⟨x, hx⟩ : ∃ x, aheadP s.ps = x := ⟨_, rfl⟩
  obtain ⟨b, hb⟩ : ∃ b, hasG s.gs (n : Int) = b := ⟨_, rfl⟩
  rw [hx, hb] at HF HW
  clear hx hb
  obtain ⟨x0, x1, x2, x3, x4⟩ := x
  simp only [cp] at HW HF
  go_enter Try.func73, Try.ntmps73
  go_wp2_with fail
  obtain ⟨W2, hW2⟩ : ∃ W2, W.setCell ⟨r, 14, none⟩ (.int .i64 n) = W2 := ⟨_, rfl⟩
  rw [hW2] at HR2 HB2 ⊢
  clear hW2 c0 kc fc
  obtain ⟨HH, HA⟩ := HW.out W2 HR2.out
  have HH := hid HH
  have HA := hid HA
  have HC : Hid (∀ X, Below W2.heap.size W2 X → X.cell? ⟨r, 13, none⟩ = some (.int .i64 s.p.1)) := hid fun X hX => (HR2.out.below hX).blk.cell 13
  have HX := hid (Below.refl W2.heap.size W2)
  have hS0 := HC.out W2 HX.out
  clear HW
  have hfd0 := field35_0
  have hfd1 := field35_1
  have x13 : ∀ d os, (behind W2 d os).cell? ⟨r, 13, none⟩ = some (.int .i64 s.p.1) := fun d os => HC.out _ (below_behind _ _ _)
  have mf : Try.prog.follows .mixedOrders = true := by kernel_rfl
  have HWY := hid (below_behind W2)
  clear hS0 HX
  have hways : b = false ∨ (b = true ∧ x0 < s.p.1) ∨ (b = true ∧ ¬ x0 < s.p.1) := by
    cases b
    · exact .inl rfl
    · by_cases h : x0 < s.p.1
      · exact .inr (.inl ⟨rfl, h⟩)
      · exact .inr (.inr ⟨rfl, h⟩)
  rcases hways with hb | ⟨hb, h1⟩ | ⟨hb, h1⟩
  · subst hb
    refine wp_region_behind (by assumption) (by kernel_rfl) ?_
    repeat (go_big_quiet_step ((first | (go_at_call 80; refine Calls.behind_of (HH.out _ ?_); exact HWY.out _ _) | (go_at_call 81; refine Calls.behind_of (HA.out _ ?_); exact HWY.out _ _))))
    refine wpQuiet_nil ?_
    intro _ hw'
    obtain ⟨⟨dq, osq⟩, hw''⟩ := hw'
    subst hw''
    go_wp2_with fail
    go_ret
    exact ⟨by rw [HF.out]; rfl, HR2.out.below (HWY.out _ _), HB2.out.trans ((HWY.out _ _).mono (by have := HR2.out.hb; omega))⟩
  · subst hb
    have HD := hid (show decide (x0 < s.p.1) = true from decide_eq_true h1)
    have hd : decide (x0 < s.p.1) = true := HD.out
    refine wp_region_behind (by assumption) (by kernel_rfl) ?_
    repeat (go_big_quiet_step ((first | (go_at_call 80; refine Calls.behind_of (HH.out _ ?_); exact HWY.out _ _) | (go_at_call 81; refine Calls.behind_of (HA.out _ ?_); exact HWY.out _ _))))
    refine wpQuiet_nil ?_
    intro _ hw'
    obtain ⟨⟨dq, osq⟩, hw''⟩ := hw'
    subst hw''
    go_wp2_with fail
    go_ret
    exact ⟨by rw [HF.out, HD.out]; rfl, HR2.out.below (HWY.out _ _), HB2.out.trans ((HWY.out _ _).mono (by have := HR2.out.hb; omega))⟩
  · subst hb
    have HD := hid (show decide (x0 < s.p.1) = false from decide_eq_false h1)
    have hd : decide (x0 < s.p.1) = false := HD.out
    refine wp_region_behind (by assumption) (by kernel_rfl) ?_
    repeat (go_big_quiet_step ((first | (go_at_call 80; refine Calls.behind_of (HH.out _ ?_); exact HWY.out _ _) | (go_at_call 81; refine Calls.behind_of (HA.out _ ?_); exact HWY.out _ _))))
    refine wpQuiet_nil ?_
    intro _ hw'
    obtain ⟨⟨dq, osq⟩, hw''⟩ := hw'
    subst hw''
    go_wp2_with fail
    go_ret
    exact ⟨by rw [HF.out, HD.out]; rfl, HR2.out.below (HWY.out _ _), HB2.out.trans ((HWY.out _ _).mono (by have := HR2.out.hb; omega))⟩
set_option maxRecDepth 100000 in
set_option maxHeartbeats 4000000 in
theorem setPair13 (h bp r : Nat) (s : St) (gv pv tv : Value) (n : Nat) (W : World) (R : Rd h bp W r s gv pv tv True) (hx : s.nx = 13) (hl : s.ps.length < 4096) :
    Calls Try.prog 73 #[.pointer (some ⟨r, 0, none⟩), .int .i64 n] W fun e w' => e = .returned (.bool (fits s n)) ∧ (∃ pv', Rd h bp w' r (put s n) gv pv' tv True) ∧ Below h W w' := by
  obtain ⟨i35, hi35, z350, z351, z352⟩ := info_parts info52
  have HF : Hid (fits s n = hasG s.gs n) := hid (by simp only [fits, hx])
  have HP : Hid (put s n = { s with p := (s.p.1, s.p.2.1, s.p.2.2.1, (n : Int), s.p.2.2.2.2), ps := s.ps ++ [(s.p.1, s.p.2.1, s.p.2.2.1, (n : Int), s.p.2.2.2.2)] }) := hid (by simp only [put, hx])
  have HR2 := hid (R.cell { s with p := (s.p.1, s.p.2.1, s.p.2.2.1, (n : Int), s.p.2.2.2.2) } 16 (.int .i64 (n : Int)) rfl rfl rfl rfl)
  have HB2 : Hid (Below h W (W.setCell ⟨r, 16, none⟩ (.int .i64 (n : Int)))) := hid ((Below.refl h W).setCell (p := ⟨r, 16, none⟩) R.rh _)
  have HL := hid hl
  obtain ⟨q, hq⟩ : ∃ q, fits s n = q := ⟨_, rfl⟩
  rw [hq] at HF ⊢
  rw [HP.out]
  have c0 : W.cell? ⟨r, 0, none⟩ = some (.int .i64 s.nx) := R.blk.cell 0
  have kc : W.cell? ⟨r, 16, none⟩ = some (.int .i64 s.p.2.2.2.1) := R.blk.cell 16
  have fc := R.blk.froz 16
  rw [hx] at c0
  clear R hx HP hl hq
  go_enter Try.func73, Try.ntmps73
  go_wp2_with fail
  obtain ⟨W2, hW2⟩ : ∃ W2, W.setCell ⟨r, 16, none⟩ (.int .i64 (n : Int)) = W2 := ⟨_, rfl⟩
  rw [hW2] at HR2 HB2 ⊢
  clear hW2 c0 kc fc
  have HS : Hid (∀ X, Below W2.heap.size W2 X → X.cell? ⟨r, 6, none⟩ = some pv ∧ X.cell? ⟨r, 13, none⟩ = some (.int .i64 s.p.1) ∧ X.cell? ⟨r, 14, none⟩ = some (.int .i64 s.p.2.1) ∧ X.cell? ⟨r, 15, none⟩ = some (.bool s.p.2.2.1) ∧ X.cell? ⟨r, 16, none⟩ = some (.int .i64 (n : Int)) ∧ X.cell? ⟨r, 17, none⟩ = some (.int .i64 s.p.2.2.2.2)) := hid fun X hX =>
    have b := (HR2.out.below hX).blk
    ⟨b.cell 6, b.cell 13, b.cell 14, b.cell 15, b.cell 16, b.cell 17⟩
  have HA : Hid (Rd h bp (W2.drew.alloc (.cells #[.int .i64 s.p.1, .int .i64 s.p.2.1, .bool s.p.2.2.1, .int .i64 (n : Int), .int .i64 s.p.2.2.2.2] 35)) r _ gv pv tv True) := hid (HR2.out.below (((Below.refl _ W2).drew).alloc (Nat.le_refl _) _))
  have HN : Hid (Sl (W2.drew.alloc (.cells #[.int .i64 s.p.1, .int .i64 s.p.2.1, .bool s.p.2.2.1, .int .i64 (n : Int), .int .i64 s.p.2.2.2.2] 35)) (some ⟨W2.heap.size, 0, none⟩) 1 (cp (s.p.1, s.p.2.1, s.p.2.2.1, (n : Int), s.p.2.2.2.2))) := hid (fun _ => ⟨_, 0, rfl, (Blk.new W2.drew _ 35 rfl).lt, fun j u hj => by rw [Nat.zero_add]; exact ((Blk.new W2.drew #[.int .i64 s.p.1, .int .i64 s.p.2.1, .bool s.p.2.2.1, .int .i64 (n : Int), .int .i64 s.p.2.2.2.2] 35 rfl).cell j).trans hj⟩)
  have HBA : Hid (Below h W2 (W2.drew.alloc (.cells #[.int .i64 s.p.1, .int .i64 s.p.2.1, .bool s.p.2.2.1, .int .i64 (n : Int), .int .i64 s.p.2.2.2.2] 35))) := hid (((Below.refl h W2).drew).alloc (by have := HR2.out.hb; simp; omega) _)
  have hS0 := HS.out W2 (Below.refl _ _)
  have HM : Hid (s.ps.length + 1 ≤ maxLen ∧ (s.ps.length + 1) * 40 ≤ 140737488355328 ∧ bp ≤ (W2.drew.alloc (.cells #[.int .i64 s.p.1, .int .i64 s.p.2.1, .bool s.p.2.2.1, .int .i64 (n : Int), .int .i64 s.p.2.2.2.2] 35)).heap.size) := hid ⟨by have := HL.out; unfold maxLen; omega, by have := HL.out; omega, by have := HR2.out.hb; simp; omega⟩
  obtain ⟨c6, k13, k14, k15, k16, k17⟩ := hS0
  have hne : ¬ r = W2.heap.size := by have := HR2.out.blk.lt; omega
  have c6' : (W2.alloc (.cells #[.int .i64 s.p.1, .int .i64 s.p.2.1, .bool s.p.2.2.1, .int .i64 (n : Int), .int .i64 s.p.2.2.2.2] 35)).cell? ⟨r, 6, none⟩ = some pv := HA.out.blk.cell 6
  have mf : Try.prog.follows .mixedOrders = true := by kernel_rfl
  go_region_law
    ((refine step_append_sl _ rfl _ _ 23 rfl bp 35 i35 _ 5 40 Try.underlying23 hi35 z350 z351 z352 rfl (by decide) pv s.ps.length (s.ps.flatMap cp) (by rfl) HA.out.pr (some ⟨W2.heap.size, 0, none⟩) 1 1 (cp (s.p.1, s.p.2.1, s.p.2.2.1, (n : Int), s.p.2.2.2.2)) (by rfl) (by rfl) HN.out (by simp [cp, Value.oneCell']) HM.out.1 HM.out.2.1 HM.out.2.2 ?_; intro v' w1 hown hgrew; have hrow := row_reads hown; obtain ⟨ad', cap', rfl, _, _⟩ := hrow; have HG := hid (HA.out.growP hown hgrew.grown); have d6 : w1.cell? ⟨r, 6, none⟩ = some pv := HG.out.1.cell 6; have f6 := HG.out.1.froz 6; clear hown hgrew))
  all_goals
    have HG2 := hid HG.out.2
    obtain ⟨W3, hW3⟩ : ∃ W3, w1.setCell ⟨r, 6, none⟩ (.slice ad' (s.ps.length + 1) cap') = W3 := ⟨_, rfl⟩
    rw [hW3] at HG2 ⊢
    clear hW3 d6 f6 HG c6 c6' k13 k14 k15 k16 k17
    have HB3 := hid (HB2.out.trans (HBA.out.trans HG2.out.2))
    have HR3 := hid HG2.out.1
    obtain ⟨a, hta, hTG⟩ := HR3.out.tg trivial
    have HH := hid (has_any r a s.gs n _ W3 HR3.out.blk (by rw [hta]; rfl) hTG)
    clear hta hTG
    obtain ⟨b, hb⟩ : ∃ b, hasG s.gs (n : Int) = b := ⟨_, rfl⟩
    rw [hb] at HF HH
    clear hb
    go_wp2_with (go_at_call 80; refine HH.out.mono ?_; rintro e w4 ⟨rfl, hb4⟩)
    go_ret
    exact ⟨by rw [HF.out]; rfl, ⟨_, HR3.out.below hb4⟩, HB3.out.trans (hb4.mono (by have := HR3.out.hb; omega))⟩

set_option maxRecDepth 100000 in
set_option maxHeartbeats 4000000 in
theorem setPair14 (h bp r : Nat) (s : St) (gv pv tv : Value) (n : Nat) (W : World) (R : Rd h bp W r s gv pv tv True) (hx : s.nx = 14) (hl : s.ps.length < 4096) (hn : n < 16777216) (hu : ∀ g ∈ s.gs, units g = true) :
    Calls Try.prog 73 #[.pointer (some ⟨r, 0, none⟩), .int .i64 n] W fun e w' => e = .returned (.bool (fits s n)) ∧ (∃ pv', Rd h bp w' r (put s n) gv pv' tv True) ∧ Below h W w' := by
  obtain ⟨i35, hi35, z350, z351, z352⟩ := info_parts info52
  have HF : Hid (fits s n = mayK s ((n : Int) - 32768)) := hid (by simp only [fits, hx])
  have HP : Hid (put s n = { s with p := (s.p.1, s.p.2.1, s.p.2.2.1, s.p.2.2.2.1, (n : Int) - 32768), ps := s.ps ++ [(s.p.1, s.p.2.1, s.p.2.2.1, s.p.2.2.2.1, (n : Int) - 32768)] }) := hid (by simp only [put, hx])
  have HR2 := hid (R.cell { s with p := (s.p.1, s.p.2.1, s.p.2.2.1, s.p.2.2.2.1, (n : Int) - 32768) } 17 (.int .i64 ((n : Int) - 32768)) rfl rfl rfl rfl)
  have HB2 : Hid (Below h W (W.setCell ⟨r, 17, none⟩ (.int .i64 ((n : Int) - 32768)))) := hid ((Below.refl h W).setCell (p := ⟨r, 17, none⟩) R.rh _)
  have HL := hid hl
  obtain ⟨q, hq⟩ : ∃ q, fits s n = q := ⟨_, rfl⟩
  rw [hq] at HF ⊢
  rw [HP.out]
  have c0 : W.cell? ⟨r, 0, none⟩ = some (.int .i64 s.nx) := R.blk.cell 0
  have kc : W.cell? ⟨r, 17, none⟩ = some (.int .i64 s.p.2.2.2.2) := R.blk.cell 17
  have fc := R.blk.froz 17
  rw [hx] at c0
  have HU : Hid (∀ x, inU (gotG s.gs x).2.1 = true) := hid fun x => by
    cases hh : hasG s.gs x with
    | true => exact inU_true (wide_of hu x)
    | false =>
      unfold gotG
      unfold hasG at hh
      cases hl : lookG s.gs x with
      | none => rfl
      | some y => rw [hl] at hh; cases hh
  have hn1 : (n : Int) ≤ 16777215 := by omega
  clear hu hn
  clear R hx HP hl hq
  go_enter Try.func73, Try.ntmps73
  go_wp2_with fail
  obtain ⟨W2, hW2⟩ : ∃ W2, W.setCell ⟨r, 17, none⟩ (.int .i64 ((n : Int) - 32768)) = W2 := ⟨_, rfl⟩
  rw [hW2] at HR2 HB2 ⊢
  clear hW2 c0 kc fc
  have HS : Hid (∀ X, Below W2.heap.size W2 X → X.cell? ⟨r, 6, none⟩ = some pv ∧ X.cell? ⟨r, 13, none⟩ = some (.int .i64 s.p.1) ∧ X.cell? ⟨r, 14, none⟩ = some (.int .i64 s.p.2.1) ∧ X.cell? ⟨r, 15, none⟩ = some (.bool s.p.2.2.1) ∧ X.cell? ⟨r, 16, none⟩ = some (.int .i64 s.p.2.2.2.1) ∧ X.cell? ⟨r, 17, none⟩ = some (.int .i64 ((n : Int) - 32768))) := hid fun X hX =>
    have b := (HR2.out.below hX).blk
    ⟨b.cell 6, b.cell 13, b.cell 14, b.cell 15, b.cell 16, b.cell 17⟩
  have HA : Hid (Rd h bp (W2.drew.alloc (.cells #[.int .i64 s.p.1, .int .i64 s.p.2.1, .bool s.p.2.2.1, .int .i64 s.p.2.2.2.1, .int .i64 ((n : Int) - 32768)] 35)) r _ gv pv tv True) := hid (HR2.out.below (((Below.refl _ W2).drew).alloc (Nat.le_refl _) _))
  have HN : Hid (Sl (W2.drew.alloc (.cells #[.int .i64 s.p.1, .int .i64 s.p.2.1, .bool s.p.2.2.1, .int .i64 s.p.2.2.2.1, .int .i64 ((n : Int) - 32768)] 35)) (some ⟨W2.heap.size, 0, none⟩) 1 (cp (s.p.1, s.p.2.1, s.p.2.2.1, s.p.2.2.2.1, (n : Int) - 32768))) := hid (fun _ => ⟨_, 0, rfl, (Blk.new W2.drew _ 35 rfl).lt, fun j u hj => by rw [Nat.zero_add]; exact ((Blk.new W2.drew #[.int .i64 s.p.1, .int .i64 s.p.2.1, .bool s.p.2.2.1, .int .i64 s.p.2.2.2.1, .int .i64 ((n : Int) - 32768)] 35 rfl).cell j).trans hj⟩)
  have HBA : Hid (Below h W2 (W2.drew.alloc (.cells #[.int .i64 s.p.1, .int .i64 s.p.2.1, .bool s.p.2.2.1, .int .i64 s.p.2.2.2.1, .int .i64 ((n : Int) - 32768)] 35))) := hid (((Below.refl h W2).drew).alloc (by have := HR2.out.hb; simp; omega) _)
  have hS0 := HS.out W2 (Below.refl _ _)
  have HM : Hid (s.ps.length + 1 ≤ maxLen ∧ (s.ps.length + 1) * 40 ≤ 140737488355328 ∧ bp ≤ (W2.drew.alloc (.cells #[.int .i64 s.p.1, .int .i64 s.p.2.1, .bool s.p.2.2.1, .int .i64 s.p.2.2.2.1, .int .i64 ((n : Int) - 32768)] 35)).heap.size) := hid ⟨by have := HL.out; unfold maxLen; omega, by have := HL.out; omega, by have := HR2.out.hb; simp; omega⟩
  obtain ⟨c6, k13, k14, k15, k16, k17⟩ := hS0
  have hne : ¬ r = W2.heap.size := by have := HR2.out.blk.lt; omega
  have c6' : (W2.alloc (.cells #[.int .i64 s.p.1, .int .i64 s.p.2.1, .bool s.p.2.2.1, .int .i64 s.p.2.2.2.1, .int .i64 ((n : Int) - 32768)] 35)).cell? ⟨r, 6, none⟩ = some pv := HA.out.blk.cell 6
  have mf : Try.prog.follows .mixedOrders = true := by kernel_rfl
  go_region_law
    ((refine step_append_sl _ rfl _ _ 23 rfl bp 35 i35 _ 5 40 Try.underlying23 hi35 z350 z351 z352 rfl (by decide) pv s.ps.length (s.ps.flatMap cp) (by rfl) HA.out.pr (some ⟨W2.heap.size, 0, none⟩) 1 1 (cp (s.p.1, s.p.2.1, s.p.2.2.1, s.p.2.2.2.1, (n : Int) - 32768)) (by rfl) (by rfl) HN.out (by simp [cp, Value.oneCell']) HM.out.1 HM.out.2.1 HM.out.2.2 ?_; intro v' w1 hown hgrew; have hrow := row_reads hown; obtain ⟨ad', cap', rfl, _, _⟩ := hrow; have HG := hid (HA.out.growP hown hgrew.grown); have d6 : w1.cell? ⟨r, 6, none⟩ = some pv := HG.out.1.cell 6; have f6 := HG.out.1.froz 6; clear hown hgrew))
  all_goals
    have HG2 := hid HG.out.2
    obtain ⟨W3, hW3⟩ : ∃ W3, w1.setCell ⟨r, 6, none⟩ (.slice ad' (s.ps.length + 1) cap') = W3 := ⟨_, rfl⟩
    rw [hW3] at HG2 ⊢
    clear hW3 d6 f6 HG c6 c6' k13 k14 k15 k16 k17
    have HB3 := hid (HB2.out.trans (HBA.out.trans HG2.out.2))
    have HR3 := hid HG2.out.1
    obtain ⟨a, hta, hTG⟩ := HR3.out.tg trivial
    have HH := hid (mayKern_any r a s _ ((n : Int) - 32768) W3 HR3.out.blk rfl rfl rfl (by rw [hta]; rfl) hTG HU.out)
    clear hta hTG
    obtain ⟨b, hb⟩ : ∃ b, mayK s ((n : Int) - 32768) = b := ⟨_, rfl⟩
    rw [hb] at HF HH
    clear hb
    go_wp2_with (go_at_call 82; refine HH.out.mono ?_; rintro e w4 ⟨rfl, hb4⟩)
    go_ret
    exact ⟨by rw [HF.out]; rfl, ⟨_, HR3.out.below hb4⟩, HB3.out.trans (hb4.mono (by have := HR3.out.hb; omega))⟩
/-- what settlePair leaves -/
theorem setPair_any (h bp r : Nat) (s : St) (gv pv tv : Value) (n : Nat) (W : World) (R : Rd h bp W r s gv pv tv True) (hx : 10 ≤ s.nx ∧ s.nx ≤ 14) (hl : s.ps.length < 4096) (hn : n < 16777216) (hu : ∀ g ∈ s.gs, units g = true) :
    Calls Try.prog 73 #[.pointer (some ⟨r, 0, none⟩), .int .i64 n] W fun e w' => e = .returned (.bool (fits s n)) ∧ (∃ pv', Rd h bp w' r (put s n) gv pv' tv True) ∧ Below h W w' := by
  rcases (show s.nx = 10 ∨ s.nx = 11 ∨ s.nx = 12 ∨ s.nx = 13 ∨ s.nx = 14 by omega) with e | e | e | e | e
  · exact (setPair10 h bp r s gv pv tv n W R e (by omega)).mono fun e w' k => ⟨k.1, ⟨_, k.2.1⟩, k.2.2⟩
  · exact (setPair11 h bp r s gv pv tv n W R e (by omega)).mono fun e w' k => ⟨k.1, ⟨_, k.2.1⟩, k.2.2⟩
  · exact (setPair12 h bp r s gv pv tv n W R e).mono fun e w' k => ⟨k.1, ⟨_, k.2.1⟩, k.2.2⟩
  · exact setPair13 h bp r s gv pv tv n W R e hl
  · exact setPair14 h bp r s gv pv tv n W R e hl hn hu
end Go.Proofs.Ytdinlaoimpoolaa
