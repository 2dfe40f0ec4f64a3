/- settleGlyph: a number of a glyph, where it belongs. -/
import Derived.Test.YtdinlaoimpoolaaRd
namespace Go.Proofs.Ytdinlaoimpoolaa
open Go.RowKit

theorem field33_0 (a b c d : Int) (w : World) : (Instr.field 33 (.agg #[.int .i64 a, .int .i64 b, .int .i64 c, .int .i64 d]) 0).run Try.prog w = .ok (.int .i64 a) w := by kernel_rfl
theorem field35_0 (a b : Int) (i : Bool) (c d : Int) (w : World) : (Instr.field 35 (.agg #[.int .i64 a, .int .i64 b, .bool i, .int .i64 c, .int .i64 d]) 0).run Try.prog w = .ok (.int .i64 a) w := by kernel_rfl
theorem field35_1 (a b : Int) (i : Bool) (c d : Int) (w : World) : (Instr.field 35 (.agg #[.int .i64 a, .int .i64 b, .bool i, .int .i64 c, .int .i64 d]) 1).run Try.prog w = .ok (.int .i64 b) w := by kernel_rfl
set_option maxRecDepth 100000 in
set_option maxHeartbeats 2000000 in
theorem setGlyph5 (h bp r : Nat) (s : St) (gv pv tv : Value) (n : Nat) (W : World) (R : Rd h bp W r s gv pv tv False) (hx : s.nx = 5) (hn : n < 16777216) (hl : s.gs.length ≤ 1024) :
    Calls Try.prog 72 #[.pointer (some ⟨r, 0, none⟩), .int .i64 n] W fun e w' => e = .returned (.bool (fits s n)) ∧ Rd h bp w' r (put s n) gv pv tv False ∧ Below h W w' := by
  have HF : Hid (fits s n = (decide (widthI n ≠ 0) && decide ((aheadG s.gs).1 < (n : Int)))) := hid (by simp only [fits, hx])
  have HP : Hid (put s n = { s with g := ((n : Int), 0, 0, 0) }) := hid (by simp only [put, hx])
  have HR := hid R
  obtain ⟨q, hq⟩ : ∃ q, fits s n = q := ⟨_, rfl⟩
  rw [hq] at HF ⊢
  rw [HP.out]
  have c0 : W.cell? ⟨r, 0, none⟩ = some (.int .i64 s.nx) := R.blk.cell 0
  have c5 : W.cell? ⟨r, 5, none⟩ = some gv := R.blk.cell 5
  have k9 : W.cell? ⟨r, 9, none⟩ = some (.int .i64 s.g.1) := R.blk.cell 9
  have k10 : W.cell? ⟨r, 10, none⟩ = some (.int .i64 s.g.2.1) := R.blk.cell 10
  have k11 : W.cell? ⟨r, 11, none⟩ = some (.int .i64 s.g.2.2.1) := R.blk.cell 11
  have k12 : W.cell? ⟨r, 12, none⟩ = some (.int .i64 s.g.2.2.2) := R.blk.cell 12
  have f9 := R.blk.froz 9
  have f10 := R.blk.froz 10
  have f11 := R.blk.froz 11
  have f12 := R.blk.froz 12
  rw [hx] at c0
  have hnw : IntKind.i32.wrap (n : Int) = n := by simp [IntKind.wrap, IntKind.bits, IntKind.signed]; omega
  have HN : Hid (n < 16777216) := hid hn
  have HL : Hid (s.gs.length ≤ 1024) := hid hl
  have HV := hid (valid_any n hn)
  clear R hq hn hl hx
  go_enter Try.func72, Try.ntmps72
  go_wp2_with fail
  have R2 := HR.out.cellG n 0 0 0
  have B2 : Below h W ((((W.setCell ⟨r, 9, none⟩ (.int .i64 n)).setCell ⟨r, 10, none⟩ (.int .i64 0)).setCell ⟨r, 11, none⟩ (.int .i64 0)).setCell ⟨r, 12, none⟩ (.int .i64 0)) :=
    ((((Below.refl h W).setCell (p := ⟨r, 9, none⟩) HR.out.rh _).setCell (p := ⟨r, 10, none⟩) HR.out.rh _).setCell (p := ⟨r, 11, none⟩) HR.out.rh _).setCell (p := ⟨r, 12, none⟩) HR.out.rh _
  obtain ⟨W2, hW2⟩ : ∃ W2, (((W.setCell ⟨r, 9, none⟩ (.int .i64 n)).setCell ⟨r, 10, none⟩ (.int .i64 0)).setCell ⟨r, 11, none⟩ (.int .i64 0)).setCell ⟨r, 12, none⟩ (.int .i64 0) = W2 := ⟨_, rfl⟩
  rw [hW2] at R2 B2 ⊢
  have HR2 := hid R2
  have HB2 := hid B2
  clear R2 B2 hW2 c0 c5 k9 k10 k11 k12 f9 f10 f11 f12
  refine (HV.out W2).mono ?_
  rintro e w2 ⟨rfl, rfl⟩
  cases hv : decide (widthI (n : Int) ≠ 0) with
  | false =>
    rw [hv] at HF
    go_wp2_with fail
    go_ret
    exact ⟨by rw [HF.out]; rfl, HR2.out, HB2.out⟩
  | true =>
    rw [hv] at HF
    obtain ⟨ad, cap, hgv, hsl, _⟩ := row_reads HR2.out.gr
    have HA := hid (glyphAhead_any r s.gs ad cap _ w2 HR2.out.blk (by rw [hgv]; rfl) hsl HL.out)
    clear hv hsl
    go_wp2_with fail
    refine HA.out.mono ?_
    rintro e w3 ⟨rfl, hb3⟩
    have HR3 := hid (HR2.out.below hb3)
    have HB3 := hid (HB2.out.trans (hb3.mono (by have := HR2.out.hb; omega)))
    clear hb3
    obtain ⟨x, hx⟩ : ∃ x, aheadG s.gs = x := ⟨_, rfl⟩
    rw [hx] at HF ⊢
    obtain ⟨x0, x1, x2, x3⟩ := x
    simp only [cg] at *
    clear hx
    have hfd := field33_0
    go_wp2_with fail
    go_ret
    exact ⟨by rw [HF.out]; rfl, HR3.out, HB3.out⟩
set_option maxRecDepth 100000 in
set_option maxHeartbeats 2000000 in
theorem setGlyph6 (h bp r : Nat) (s : St) (gv pv tv : Value) (n : Nat) (W : World) (R : Rd h bp W r s gv pv tv False) (hx : s.nx = 6) :
    Calls Try.prog 72 #[.pointer (some ⟨r, 0, none⟩), .int .i64 n] W fun e w' => e = .returned (.bool (fits s n)) ∧ Rd h bp w' r (put s n) gv pv tv False ∧ Below h W w' := by
  have HF : Hid (fits s n = decide (n ≤ 16384)) := hid (by simp only [fits, hx])
  have HP : Hid (put s n = { s with g := (s.g.1, (n : Int), s.g.2.2.1, s.g.2.2.2) }) := hid (by simp only [put, hx])
  have HR2 := hid (R.cell { s with g := (s.g.1, (n : Int), s.g.2.2.1, s.g.2.2.2) } 10 (.int .i64 n) rfl rfl rfl rfl)
  have HB2 : Hid (Below h W (W.setCell ⟨r, 10, none⟩ (.int .i64 n))) := hid ((Below.refl h W).setCell (p := ⟨r, 10, none⟩) R.rh _)
  rw [HF.out, HP.out]
  have c0 : W.cell? ⟨r, 0, none⟩ = some (.int .i64 s.nx) := R.blk.cell 0
  have kc : W.cell? ⟨r, 10, none⟩ = some (.int .i64 s.g.2.1) := R.blk.cell 10
  have fc := R.blk.froz 10
  rw [hx] at c0
  have hdec : decide ((n : Int) ≤ 16384) = decide (n ≤ 16384) := decide_eq_decide.2 (by omega)
  have HD := hid hdec
  clear R hx HF HP hdec
  go_enter Try.func72, Try.ntmps72
  go_wp2_with fail
  go_ret
  exact ⟨by rw [← HD.out]; rfl, HR2.out, HB2.out⟩

set_option maxRecDepth 100000 in
set_option maxHeartbeats 2000000 in
theorem setGlyph7 (h bp r : Nat) (s : St) (gv pv tv : Value) (n : Nat) (W : World) (R : Rd h bp W r s gv pv tv False) (hx : s.nx = 7) :
    Calls Try.prog 72 #[.pointer (some ⟨r, 0, none⟩), .int .i64 n] W fun e w' => e = .returned (.bool (fits s n)) ∧ Rd h bp w' r (put s n) gv pv tv False ∧ Below h W w' := by
  have HF : Hid (fits s n = decide (n ≤ 16384)) := hid (by simp only [fits, hx])
  have HP : Hid (put s n = { s with g := (s.g.1, s.g.2.1, (n : Int), s.g.2.2.2) }) := hid (by simp only [put, hx])
  have HR2 := hid (R.cell { s with g := (s.g.1, s.g.2.1, (n : Int), s.g.2.2.2) } 11 (.int .i64 n) rfl rfl rfl rfl)
  have HB2 : Hid (Below h W (W.setCell ⟨r, 11, none⟩ (.int .i64 n))) := hid ((Below.refl h W).setCell (p := ⟨r, 11, none⟩) R.rh _)
  rw [HF.out, HP.out]
  have c0 : W.cell? ⟨r, 0, none⟩ = some (.int .i64 s.nx) := R.blk.cell 0
  have kc : W.cell? ⟨r, 11, none⟩ = some (.int .i64 s.g.2.2.1) := R.blk.cell 11
  have fc := R.blk.froz 11
  rw [hx] at c0
  have hdec : decide ((n : Int) ≤ 16384) = decide (n ≤ 16384) := decide_eq_decide.2 (by omega)
  have HD := hid hdec
  clear R hx HF HP hdec
  go_enter Try.func72, Try.ntmps72
  go_wp2_with fail
  go_ret
  exact ⟨by rw [← HD.out]; rfl, HR2.out, HB2.out⟩

set_option maxRecDepth 100000 in
set_option maxHeartbeats 2000000 in
theorem setGlyph8 (h bp r : Nat) (s : St) (gv pv tv : Value) (n : Nat) (W : World) (R : Rd h bp W r s gv pv tv False) (hx : s.nx = 8) (hl : s.gs.length < 1024) :
    Calls Try.prog 72 #[.pointer (some ⟨r, 0, none⟩), .int .i64 n] W fun e w' => e = .returned (.bool (fits s n)) ∧ (∃ gv', Rd h bp w' r (put s n) gv' pv tv False) ∧ Below h W w' := by
  obtain ⟨i33, hi33, z330, z331, z332⟩ := info_parts info45
  have HF : Hid (fits s n = decide (n ≤ 16384)) := hid (by simp only [fits, hx])
  have HP : Hid (put s n = { s with g := (s.g.1, s.g.2.1, s.g.2.2.1, (n : Int)), gs := s.gs ++ [(s.g.1, s.g.2.1, s.g.2.2.1, (n : Int))] }) := hid (by simp only [put, hx])
  have HR2 := hid (R.cell { s with g := (s.g.1, s.g.2.1, s.g.2.2.1, (n : Int)) } 12 (.int .i64 n) rfl rfl rfl rfl)
  have HB2 : Hid (Below h W (W.setCell ⟨r, 12, none⟩ (.int .i64 n))) := hid ((Below.refl h W).setCell (p := ⟨r, 12, none⟩) R.rh _)
  have HL := hid hl
  rw [HF.out, HP.out]
  have c0 : W.cell? ⟨r, 0, none⟩ = some (.int .i64 s.nx) := R.blk.cell 0
  have kc : W.cell? ⟨r, 12, none⟩ = some (.int .i64 s.g.2.2.2) := R.blk.cell 12
  have fc := R.blk.froz 12
  rw [hx] at c0
  have hdec : decide ((n : Int) ≤ 16384) = decide (n ≤ 16384) := decide_eq_decide.2 (by omega)
  have HD := hid hdec
  clear R hx HF HP hdec hl
  go_enter Try.func72, Try.ntmps72
  go_wp2_with fail
  obtain ⟨W2, hW2⟩ : ∃ W2, W.setCell ⟨r, 12, none⟩ (.int .i64 n) = W2 := ⟨_, rfl⟩
  rw [hW2] at HR2 HB2 ⊢
  clear hW2 c0 kc fc
  have HS : Hid (∀ X, Below W2.heap.size W2 X → X.cell? ⟨r, 5, none⟩ = some gv ∧ X.cell? ⟨r, 9, none⟩ = some (.int .i64 s.g.1) ∧ X.cell? ⟨r, 10, none⟩ = some (.int .i64 s.g.2.1) ∧ X.cell? ⟨r, 11, none⟩ = some (.int .i64 s.g.2.2.1) ∧ X.cell? ⟨r, 12, none⟩ = some (.int .i64 (n : Int))) := hid fun X hX =>
    have b := (HR2.out.below hX).blk
    ⟨b.cell 5, b.cell 9, b.cell 10, b.cell 11, b.cell 12⟩
  have HA : Hid (Rd h bp (W2.drew.alloc (.cells #[.int .i64 s.g.1, .int .i64 s.g.2.1, .int .i64 s.g.2.2.1, .int .i64 (n : Int)] 33)) r _ gv pv tv False) := hid (HR2.out.below (((Below.refl _ W2).drew).alloc (Nat.le_refl _) _))
  have HN : Hid (Sl (W2.drew.alloc (.cells #[.int .i64 s.g.1, .int .i64 s.g.2.1, .int .i64 s.g.2.2.1, .int .i64 (n : Int)] 33)) (some ⟨W2.heap.size, 0, none⟩) 1 (cg (s.g.1, s.g.2.1, s.g.2.2.1, (n : Int)))) := hid (fun _ => ⟨_, 0, rfl, (Blk.new W2.drew _ 33 rfl).lt, fun j u hj => by rw [Nat.zero_add]; exact ((Blk.new W2.drew #[.int .i64 s.g.1, .int .i64 s.g.2.1, .int .i64 s.g.2.2.1, .int .i64 (n : Int)] 33 rfl).cell j).trans hj⟩)
  have HBA : Hid (Below h W2 (W2.drew.alloc (.cells #[.int .i64 s.g.1, .int .i64 s.g.2.1, .int .i64 s.g.2.2.1, .int .i64 (n : Int)] 33))) := hid (((Below.refl h W2).drew).alloc (by have := HR2.out.hb; simp; omega) _)
  have hS0 := HS.out W2 (Below.refl _ _)
  have hm1 : s.gs.length + 1 ≤ maxLen := by have := HL.out; unfold maxLen; omega
  have hm2 : (s.gs.length + 1) * 32 ≤ 140737488355328 := by have := HL.out; omega
  have hm3 : h ≤ (W2.drew.alloc (.cells #[.int .i64 s.g.1, .int .i64 s.g.2.1, .int .i64 s.g.2.2.1, .int .i64 (n : Int)] 33)).heap.size := by have := HR2.out.hb; simp; omega
  have HM := hid (And.intro hm1 (And.intro hm2 hm3))
  clear hm1 hm2 hm3
  obtain ⟨c5, k9, k10, k11, k12⟩ := hS0
  have hne : ¬ r = W2.heap.size := by have := HR2.out.blk.lt; omega
  have c5' : (W2.alloc (.cells #[.int .i64 s.g.1, .int .i64 s.g.2.1, .int .i64 s.g.2.2.1, .int .i64 (n : Int)] 33)).cell? ⟨r, 5, none⟩ = some gv := HA.out.blk.cell 5
  have mf : Try.prog.follows .mixedOrders = true := by kernel_rfl
  go_region_law
    ((refine step_append_sl _ rfl _ _ 22 rfl h 33 i33 _ 4 32 Try.underlying22 hi33 z330 z331 z332 rfl (by decide) gv s.gs.length (s.gs.flatMap cg) (by rfl) HA.out.gr (some ⟨W2.heap.size, 0, none⟩) 1 1 (cg (s.g.1, s.g.2.1, s.g.2.2.1, (n : Int))) (by rfl) (by rfl) HN.out (by simp [cg, Value.oneCell']) HM.out.1 HM.out.2.1 HM.out.2.2 ?_; intro v' w1 hown hgrew; have hrow := row_reads hown; obtain ⟨ad', cap', rfl, _, _⟩ := hrow; have HG := hid (HA.out.growG hown hgrew.grown); have d5 : w1.cell? ⟨r, 5, none⟩ = some gv := HG.out.1.cell 5; have f5 := HG.out.1.froz 5; clear hown hgrew))
  all_goals
    have HG2 := hid HG.out.2
    obtain ⟨W3, hW3⟩ : ∃ W3, w1.setCell ⟨r, 5, none⟩ (.slice ad' (s.gs.length + 1) cap') = W3 := ⟨_, rfl⟩
    rw [hW3] at HG2 ⊢
    clear hW3 d5 f5 HG c5 c5' k9 k10 k11 k12
    go_wp2_with fail
    go_ret
    exact ⟨by rw [← HD.out]; rfl, ⟨_, HG2.out.1⟩, HB2.out.trans (HBA.out.trans HG2.out.2)⟩
/-- what settleGlyph leaves -/
theorem setGlyph_any (h bp r : Nat) (s : St) (gv pv tv : Value) (n : Nat) (W : World) (R : Rd h bp W r s gv pv tv False) (hx : 5 ≤ s.nx ∧ s.nx ≤ 8) (hl : s.gs.length < 1024) (hn : n < 16777216) :
    Calls Try.prog 72 #[.pointer (some ⟨r, 0, none⟩), .int .i64 n] W fun e w' => e = .returned (.bool (fits s n)) ∧ (∃ gv', Rd h bp w' r (put s n) gv' pv tv False) ∧ Below h W w' := by
  rcases (show s.nx = 5 ∨ s.nx = 6 ∨ s.nx = 7 ∨ s.nx = 8 by omega) with e | e | e | e
  · exact (setGlyph5 h bp r s gv pv tv n W R e hn (by omega)).mono fun e w' k => ⟨k.1, ⟨_, k.2.1⟩, k.2.2⟩
  · exact (setGlyph6 h bp r s gv pv tv n W R e).mono fun e w' k => ⟨k.1, ⟨_, k.2.1⟩, k.2.2⟩
  · exact (setGlyph7 h bp r s gv pv tv n W R e).mono fun e w' k => ⟨k.1, ⟨_, k.2.1⟩, k.2.2⟩
  · exact setGlyph8 h bp r s gv pv tv n W R e hl
end Go.Proofs.Ytdinlaoimpoolaa
