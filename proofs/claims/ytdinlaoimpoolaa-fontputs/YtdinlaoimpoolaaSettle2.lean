/- settle: a whole number, where it belongs. -/
import Derived.Test.YtdinlaoimpoolaaSettle
namespace Go.Proofs.Ytdinlaoimpoolaa
open Go.RowKit

set_option maxRecDepth 100000 in
set_option maxHeartbeats 4000000 in
theorem settle3 (h bp r : Nat) (s : St) (gv pv tv : Value) (n : Nat) (W : World) (R : Rd h bp W r s gv pv tv (10 ≤ s.nx)) (hx : s.nx = 3) :
    Calls Try.prog 57 #[.pointer (some ⟨r, 0, none⟩), .int .i64 n] W (Settled h r s n W) := by
  have HP : Hid (put s n = { s with em := n }) := hid (by simp only [put, hx])
  have HR2 : Hid (Rd h bp (W.setCell ⟨r, 4, none⟩ (.int .i64 n)) r { s with em := n } gv pv tv (9 ≤ s.nx)) := hid (((R.iff (T' := False) ⟨fun h => by omega, fun h => h.elim⟩).cellE { s with em := n } 4 (.int .i64 n) rfl rfl rfl).iff ⟨fun h => h.elim, fun h => by omega⟩)
  have HB2 : Hid (Below h W (W.setCell ⟨r, 4, none⟩ (.int .i64 n))) := hid ((Below.refl h W).setCell (p := ⟨r, 4, none⟩) R.rh _)
  have c0 : W.cell? ⟨r, 0, none⟩ = some (.int .i64 s.nx) := R.blk.cell 0
  have kc : W.cell? ⟨r, 4, none⟩ = some (.int .i64 s.em) := R.blk.cell 4
  have fc := R.blk.froz 4
  rw [hx] at c0
  unfold Settled
  rw [HP.out]
  obtain ⟨q, hq⟩ : ∃ q, (if fits s n = true then (0 : Int) else bad s) = q := ⟨_, rfl⟩
  rw [hq]
  rcases (show n < 1 ∨ (1 ≤ n ∧ 16384 < n) ∨ (1 ≤ n ∧ n ≤ 16384) by omega) with h1 | ⟨h1, h2⟩ | ⟨h1, h2⟩
  · have HQ : Hid (q = 60) := hid (by rw [← hq]; simp [fits, hx, bad]; omega)
    have d1 : ¬ (1 : Int) ≤ (n : Int) := by omega
    clear R HP hq hx h1
    go_enter Try.func57, Try.ntmps57
    go_wp2_with fail
    go_ret
    exact ⟨ret_int HQ.out, ⟨_, _, _, _, HR2.out⟩, HB2.out⟩
  · have HQ : Hid (q = 60) := hid (by rw [← hq]; simp [fits, hx, bad]; omega)
    have d1 : (1 : Int) ≤ (n : Int) := by omega
    have d2 : ¬ (n : Int) ≤ 16384 := by omega
    clear R HP hq hx h1 h2
    go_enter Try.func57, Try.ntmps57
    go_wp2_with fail
    go_ret
    exact ⟨ret_int HQ.out, ⟨_, _, _, _, HR2.out⟩, HB2.out⟩
  · have HQ : Hid (q = 0) := hid (by rw [← hq]; simp [fits, hx]; omega)
    have d1 : (1 : Int) ≤ (n : Int) := by omega
    have d2 : (n : Int) ≤ 16384 := by omega
    clear R HP hq hx h1 h2
    go_enter Try.func57, Try.ntmps57
    go_wp2_with fail
    go_ret
    exact ⟨ret_int HQ.out, ⟨_, _, _, _, HR2.out⟩, HB2.out⟩
set_option maxRecDepth 100000 in
set_option maxHeartbeats 4000000 in
theorem settle4 (h bp r : Nat) (s : St) (gv pv tv : Value) (n : Nat) (W : World) (R : Rd h bp W r s gv pv tv (10 ≤ s.nx)) (hx : s.nx = 4) :
    Calls Try.prog 57 #[.pointer (some ⟨r, 0, none⟩), .int .i64 n] W (Settled h r s n W) := by
  have HP : Hid (put s n = { s with ng := n }) := hid (by simp only [put, hx])
  have HR2 : Hid (Rd h bp (W.setCell ⟨r, 7, none⟩ (.int .i64 n)) r { s with ng := n } gv pv tv (9 ≤ s.nx)) := hid (((R.iff (T' := False) ⟨fun h => by omega, fun h => h.elim⟩).cell { s with ng := n } 7 (.int .i64 n) rfl rfl rfl rfl).iff ⟨fun h => h.elim, fun h => by omega⟩)
  have HB2 : Hid (Below h W (W.setCell ⟨r, 7, none⟩ (.int .i64 n))) := hid ((Below.refl h W).setCell (p := ⟨r, 7, none⟩) R.rh _)
  have c0 : W.cell? ⟨r, 0, none⟩ = some (.int .i64 s.nx) := R.blk.cell 0
  have kc : W.cell? ⟨r, 7, none⟩ = some (.int .i64 s.ng) := R.blk.cell 7
  have fc := R.blk.froz 7
  rw [hx] at c0
  unfold Settled
  rw [HP.out]
  obtain ⟨q, hq⟩ : ∃ q, (if fits s n = true then (0 : Int) else bad s) = q := ⟨_, rfl⟩
  rw [hq]
  by_cases h1 : n ≤ 1024
  · have HQ : Hid (q = 0) := hid (by rw [← hq]; simp [fits, hx]; omega)
    have d1 : (n : Int) ≤ 1024 := by omega
    clear R HP hq hx h1
    go_enter Try.func57, Try.ntmps57
    go_wp2_with fail
    go_ret
    exact ⟨ret_int HQ.out, ⟨_, _, _, _, HR2.out⟩, HB2.out⟩
  · have HQ : Hid (q = 60) := hid (by rw [← hq]; simp [fits, hx, bad]; omega)
    have d1 : ¬ (n : Int) ≤ 1024 := by omega
    clear R HP hq hx h1
    go_enter Try.func57, Try.ntmps57
    go_wp2_with fail
    go_ret
    exact ⟨ret_int HQ.out, ⟨_, _, _, _, HR2.out⟩, HB2.out⟩
set_option maxRecDepth 100000 in
set_option maxHeartbeats 4000000 in
theorem settleG (h bp r : Nat) (s : St) (gv pv tv : Value) (n : Nat) (W : World) (R : Rd h bp W r s gv pv tv (10 ≤ s.nx)) (hx : 5 ≤ s.nx ∧ s.nx ≤ 8) (hl : s.gs.length < 1024) (hn : n < 16777216) :
    Calls Try.prog 57 #[.pointer (some ⟨r, 0, none⟩), .int .i64 n] W (Settled h r s n W) := by
  have HC := hid (setGlyph_any h bp r s gv pv tv n W (R.iff (T' := False) (by simp; omega)) hx hl hn)
  have HT : Hid ((False : Prop) ↔ 9 ≤ s.nx) := hid (by simp; omega)
  have c0 : W.cell? ⟨r, 0, none⟩ = some (.int .i64 s.nx) := R.blk.cell 0
  have hb : bad s = 60 := if_neg (by omega)
  unfold Settled
  obtain ⟨q, hq⟩ : ∃ q, (if fits s n = true then (0 : Int) else bad s) = q := ⟨_, rfl⟩
  rw [hq]
  have HQ : Hid (q = if fits s n = true then (0 : Int) else 60) := hid (by rw [← hq, hb])
  clear R hq hb
  obtain ⟨b, hb⟩ : ∃ b, fits s n = b := ⟨_, rfl⟩
  rw [hb] at HC HQ
  have hways : s.nx = 5 ∨ s.nx = 6 ∨ s.nx = 7 ∨ s.nx = 8 := by omega
  clear hx hb
  rcases hways with e | e | e | e
  all_goals
    rw [e] at c0
    clear e
    cases b
    all_goals
      go_enter Try.func57, Try.ntmps57
      go_wp2_with (go_at_call 72; refine HC.out.mono ?_; rintro e w2 ⟨rfl, hR, hB⟩; have HRr := hid hR; clear hR)
      go_ret
      refine ⟨ret_int HQ.out, ?_, hB⟩
      obtain ⟨v, hv⟩ := HRr.out
      exact ⟨_, _, _, _, hv.iff HT.out⟩
set_option maxRecDepth 100000 in
set_option maxHeartbeats 4000000 in
theorem settleP (h bp r : Nat) (s : St) (gv pv tv : Value) (n : Nat) (W : World) (R : Rd h bp W r s gv pv tv (10 ≤ s.nx)) (hx : 10 ≤ s.nx ∧ s.nx ≤ 14) (hl : s.ps.length < 4096) (hn : n < 16777216) (hu : ∀ g ∈ s.gs, units g = true) :
    Calls Try.prog 57 #[.pointer (some ⟨r, 0, none⟩), .int .i64 n] W (Settled h r s n W) := by
  have HC := hid (setPair_any h bp r s gv pv tv n W (R.iff (T' := True) (by simp; omega)) hx hl hn hu)
  have HT : Hid ((True : Prop) ↔ 9 ≤ s.nx) := hid (by simp; omega)
  have c0 : W.cell? ⟨r, 0, none⟩ = some (.int .i64 s.nx) := R.blk.cell 0
  have hb : bad s = 60 := if_neg (by omega)
  unfold Settled
  obtain ⟨q, hq⟩ : ∃ q, (if fits s n = true then (0 : Int) else bad s) = q := ⟨_, rfl⟩
  rw [hq]
  have HQ : Hid (q = if fits s n = true then (0 : Int) else 60) := hid (by rw [← hq, hb])
  clear R hq hb
  obtain ⟨b, hb⟩ : ∃ b, fits s n = b := ⟨_, rfl⟩
  rw [hb] at HC HQ
  have hways : s.nx = 10 ∨ s.nx = 11 ∨ s.nx = 12 ∨ s.nx = 13 ∨ s.nx = 14 := by omega
  clear hx hb
  rcases hways with e | e | e | e | e
  all_goals
    rw [e] at c0
    clear e
    cases b
    all_goals
      go_enter Try.func57, Try.ntmps57
      go_wp2_with (go_at_call 73; refine HC.out.mono ?_; rintro e w2 ⟨rfl, hR, hB⟩; have HRr := hid hR; clear hR)
      go_ret
      refine ⟨ret_int HQ.out, ?_, hB⟩
      obtain ⟨v, hv⟩ := HRr.out
      exact ⟨_, _, _, _, hv.iff HT.out⟩
theorem verd_nil {em : Int} {gs : List Gl} (h1 : 1 ≤ em) (h2 : em ≤ 16384) (h3 : gs.length ≤ 1024) (h4 : glOK (-1) gs = true) : verd em gs [] = 0 := by
  unfold verd
  rw [if_neg (by omega), if_neg (by simp; omega), if_neg (by rw [h4]; decide), if_neg (by simp [prOK])]
set_option maxRecDepth 100000 in
set_option maxHeartbeats 4000000 in
theorem settle9 (h bp r : Nat) (s : St) (gv pv tv : Value) (n : Nat) (W : World) (R : Rd h bp W r s gv pv tv (10 ≤ s.nx)) (hx : s.nx = 9) (he : 1 ≤ s.em ∧ s.em ≤ 16384) (hl : s.gs.length ≤ 1024) (hg : glOK (-1) s.gs = true) (hp : s.ps = []) :
    Calls Try.prog 57 #[.pointer (some ⟨r, 0, none⟩), .int .i64 n] W (Settled h r s n W) := by
  have R := R.iff (T' := False) ⟨fun h => by omega, fun h => h.elim⟩
  have hpv := R.pn (fun t => t)
  subst hpv
  have HP : Hid (put s n = { s with np := n }) := hid (by simp only [put, hx])
  have HR2 := hid (R.cell { s with np := n } 8 (.int .i64 n) rfl rfl rfl rfl)
  have HB2 : Hid (Below h W (W.setCell ⟨r, 8, none⟩ (.int .i64 n))) := hid ((Below.refl h W).setCell (p := ⟨r, 8, none⟩) R.rh _)
  have c0 : W.cell? ⟨r, 0, none⟩ = some (.int .i64 s.nx) := R.blk.cell 0
  have kc : W.cell? ⟨r, 8, none⟩ = some (.int .i64 s.np) := R.blk.cell 8
  have fc := R.blk.froz 8
  have c4 : W.cell? ⟨r, 4, none⟩ = some (.int .i64 s.em) := R.blk.cell 4
  have c5 : W.cell? ⟨r, 5, none⟩ = some gv := R.blk.cell 5
  have c6 : W.cell? ⟨r, 6, none⟩ = some (.slice none 0 0) := R.blk.cell 6
  obtain ⟨ad, cap, hgv, _, _⟩ := row_reads R.gr
  subst hgv
  rw [hx] at c0
  have HV : Hid (verd s.em s.gs [] = 0) := hid (verd_nil (by omega) (by omega) hl hg)
  have HL := hid hl
  have HPS := hid hp
  have HT : Hid (9 ≤ s.nx) := hid (by omega)
  unfold Settled
  rw [HP.out]
  obtain ⟨q, hq⟩ : ∃ q, (if fits s n = true then (0 : Int) else bad s) = q := ⟨_, rfl⟩
  rw [hq]
  have hways : (n ≤ 4096 ∧ q = 0) ∨ (¬ n ≤ 4096 ∧ q = 60) := by
    by_cases h1 : n ≤ 4096
    · exact .inl ⟨h1, by rw [← hq]; simp [fits, hx, h1]⟩
    · exact .inr ⟨h1, by rw [← hq]; simp [fits, hx, h1, bad]⟩
  have HNW : Hid (∀ X, Rd h bp X r { s with np := n } (.slice ad s.gs.length cap) (.slice none 0 0) tv False → Calls Try.prog 20 #[.agg #[.int .i64 s.em, .slice ad s.gs.length cap, .slice none 0 0]] X fun e w' => Made X w' s.em s.gs [] e) := hid fun X RX => by
    obtain ⟨ad', cap', hgv, hsl, _⟩ := row_reads RX.gr
    cases hgv
    exact new_any s.em s.gs [] ad none cap 0 X (by omega) (by simp) hsl Sl.nil
  clear R hq hx hl hg hp he HP
  rcases hways with ⟨h1, h2⟩ | ⟨h1, h2⟩
  · have HQ := hid h2
    clear h2
    have d2 : (n : Int) ≤ 4096 := by omega
    clear h1
    go_enter Try.func57, Try.ntmps57
    go_wp2_with fail
    obtain ⟨W2, hW2⟩ : ∃ W2, W.setCell ⟨r, 8, none⟩ (.int .i64 n) = W2 := ⟨_, rfl⟩
    rw [hW2] at HR2 HB2 ⊢
    clear hW2 c0 kc fc c4 c5 c6
    refine (HNW.out W2 HR2.out).mono ?_
    rintro e w3 ⟨_, hm, hb3⟩
    obtain ⟨a, rfl, hT⟩ := hm HV.out
    have R3 := HR2.out.below hb3
    have hrW : r < W2.heap.size := HR2.out.blk.lt
    have HB4 : Hid (Below h W (w3.setCell ⟨r, 18, none⟩ (.pointer (some ⟨a, 0, none⟩)))) := hid ((HB2.out.trans (hb3.mono (by have := HR2.out.hb; omega))).setCell (p := ⟨r, 18, none⟩) R3.rh _)
    have k : Only [r] w3 (w3.setCell ⟨r, 18, none⟩ (.pointer (some ⟨a, 0, none⟩))) := (Only.refl [r] w3).set (p := ⟨r, 18, none⟩) (.inl (by simp)) _
    have hPR : (w3.setCell ⟨r, 18, none⟩ (.pointer (some ⟨a, 0, none⟩))).ownsRow w3.heap.size 35 5 (.slice none 0 0) ({ s with np := n } : St).ps.length (({ s with np := n } : St).ps.flatMap cp) := by
      rw [show ({ s with np := n } : St).ps = [] from HPS.out]
      exact World.ownsRow_nil _ _ _ _
    have HR4 : Hid (Rd h w3.heap.size (w3.setCell ⟨r, 18, none⟩ (.pointer (some ⟨a, 0, none⟩))) r { s with np := n } (.slice ad s.gs.length cap) (.slice none 0 0) (.pointer (some ⟨a, 0, none⟩)) True) := hid
      ⟨R3.blk.set 18 _, R3.rh, ⟨by have := R3.hb; omega, by have := k.size; omega⟩, row_only R3.gr k (blk_not_row R3.blk R3.gr (by decide)), hPR, fun t => absurd trivial t, fun _ => ⟨a, W2.heap.size, w3.heap.size, rfl, hrW, Nat.le_refl _, hT.keep k (fun i hi => by rw [List.mem_singleton.1 hi]; exact .inl hrW)⟩⟩
    have k18 : w3.cell? ⟨r, 18, none⟩ = some tv := R3.blk.cell 18
    have f18 := R3.blk.froz 18
    clear hm hT R3 k hb3
    go_wp2_with fail
    go_ret
    exact ⟨ret_int HQ.out, ⟨_, _, _, _, HR4.out.iff ⟨fun _ => HT.out, fun _ => trivial⟩⟩, HB4.out⟩
  · have HQ := hid h2
    clear h2
    have HD2 : Hid (decide ((n : Int) ≤ 4096) = false) := hid (decide_eq_false (by omega))
    clear h1
    go_enter Try.func57, Try.ntmps57
    go_wp2_with fail
    obtain ⟨W2, hW2⟩ : ∃ W2, W.setCell ⟨r, 8, none⟩ (.int .i64 n) = W2 := ⟨_, rfl⟩
    rw [hW2] at HR2 HB2 ⊢
    clear hW2 c0 kc fc c4 c5 c6
    refine (HNW.out W2 HR2.out).mono ?_
    rintro e w3 ⟨_, hm, hb3⟩
    obtain ⟨a, rfl, hT⟩ := hm HV.out
    have R3 := HR2.out.below hb3
    have hrW : r < W2.heap.size := HR2.out.blk.lt
    have HB4 : Hid (Below h W (w3.setCell ⟨r, 18, none⟩ (.pointer (some ⟨a, 0, none⟩)))) := hid ((HB2.out.trans (hb3.mono (by have := HR2.out.hb; omega))).setCell (p := ⟨r, 18, none⟩) R3.rh _)
    have k : Only [r] w3 (w3.setCell ⟨r, 18, none⟩ (.pointer (some ⟨a, 0, none⟩))) := (Only.refl [r] w3).set (p := ⟨r, 18, none⟩) (.inl (by simp)) _
    have hPR : (w3.setCell ⟨r, 18, none⟩ (.pointer (some ⟨a, 0, none⟩))).ownsRow w3.heap.size 35 5 (.slice none 0 0) ({ s with np := n } : St).ps.length (({ s with np := n } : St).ps.flatMap cp) := by
      rw [show ({ s with np := n } : St).ps = [] from HPS.out]
      exact World.ownsRow_nil _ _ _ _
    have HR4 : Hid (Rd h w3.heap.size (w3.setCell ⟨r, 18, none⟩ (.pointer (some ⟨a, 0, none⟩))) r { s with np := n } (.slice ad s.gs.length cap) (.slice none 0 0) (.pointer (some ⟨a, 0, none⟩)) True) := hid
      ⟨R3.blk.set 18 _, R3.rh, ⟨by have := R3.hb; omega, by have := k.size; omega⟩, row_only R3.gr k (blk_not_row R3.blk R3.gr (by decide)), hPR, fun t => absurd trivial t, fun _ => ⟨a, W2.heap.size, w3.heap.size, rfl, hrW, Nat.le_refl _, hT.keep k (fun i hi => by rw [List.mem_singleton.1 hi]; exact .inl hrW)⟩⟩
    have k18 : w3.cell? ⟨r, 18, none⟩ = some tv := R3.blk.cell 18
    have f18 := R3.blk.froz 18
    clear hm hT R3 k hb3
    have d2 : decide ((n : Int) ≤ 4096) = false := HD2.out
    go_wp2_with fail
    go_ret
    exact ⟨ret_int HQ.out, ⟨_, _, _, _, HR4.out.iff ⟨fun _ => HT.out, fun _ => trivial⟩⟩, HB4.out⟩

set_option maxRecDepth 100000 in
set_option maxHeartbeats 4000000 in
theorem settle15 (h bp r : Nat) (s : St) (gv pv tv : Value) (n : Nat) (W : World) (R : Rd h bp W r s gv pv tv (10 ≤ s.nx)) (hx : s.nx = 15) (hn : n < 4294967296) :
    Calls Try.prog 57 #[.pointer (some ⟨r, 0, none⟩), .int .i64 n] W (Settled h r s n W) := by
  have HP : Hid (put s n = s) := hid (by simp only [put, hx])
  have HR : Hid (Rd h bp W r s gv pv tv (9 ≤ s.nx)) := hid (R.iff ⟨fun _ => by omega, fun _ => by omega⟩)
  have c0 : W.cell? ⟨r, 0, none⟩ = some (.int .i64 s.nx) := R.blk.cell 0
  have c3 : W.cell? ⟨r, 3, none⟩ = some (.int .u32 s.sm) := R.blk.cell 3
  rw [hx] at c0
  have hnw : IntKind.u32.wrap (n : Int) = n := by rw [wrap_u32]; omega
  unfold Settled
  rw [HP.out]
  obtain ⟨q, hq⟩ : ∃ q, (if fits s n = true then (0 : Int) else bad s) = q := ⟨_, rfl⟩
  rw [hq]
  by_cases h1 : n = s.sm
  · have HQ : Hid (q = 0) := hid (by rw [← hq]; simp [fits, hx, h1])
    rw [← h1] at c3
    clear R HP hq hx h1
    go_enter Try.func57, Try.ntmps57
    go_wp2_with fail
    go_ret
    exact ⟨ret_int HQ.out, ⟨_, _, _, _, HR.out⟩, Below.refl _ _⟩
  · have HQ : Hid (q = 61) := hid (by rw [← hq]; simp [fits, hx, h1, bad])
    have h2 : ((n : Int) != (s.sm : Int)) = true := by simp; omega
    clear R HP hq hx h1
    go_enter Try.func57, Try.ntmps57
    go_wp2_with fail
    go_ret
    exact ⟨ret_int HQ.out, ⟨_, _, _, _, HR.out⟩, Below.refl _ _⟩
set_option maxRecDepth 100000 in
set_option maxHeartbeats 4000000 in
theorem settle16 (h bp r : Nat) (s : St) (gv pv tv : Value) (n : Nat) (W : World) (R : Rd h bp W r s gv pv tv (10 ≤ s.nx)) (hx : s.nx = 16) :
    Calls Try.prog 57 #[.pointer (some ⟨r, 0, none⟩), .int .i64 n] W (Settled h r s n W) := by
  have HP : Hid (put s n = s) := hid (by simp only [put, hx])
  have HR : Hid (Rd h bp W r s gv pv tv (9 ≤ s.nx)) := hid (R.iff ⟨fun _ => by omega, fun _ => by omega⟩)
  have c0 : W.cell? ⟨r, 0, none⟩ = some (.int .i64 s.nx) := R.blk.cell 0
  rw [hx] at c0
  unfold Settled
  rw [HP.out]
  obtain ⟨q, hq⟩ : ∃ q, (if fits s n = true then (0 : Int) else bad s) = q := ⟨_, rfl⟩
  rw [hq]
  have HQ : Hid (q = 60) := hid (by rw [← hq]; simp [fits, hx, bad])
  clear R HP hq hx
  go_enter Try.func57, Try.ntmps57
  go_wp2_with fail
  go_ret
  exact ⟨ret_int HQ.out, ⟨_, _, _, _, HR.out⟩, Below.refl _ _⟩

theorem settle_any (h bp r : Nat) (s : St) (gv pv tv : Value) (n : Nat) (W : World) (R : Rd h bp W r s gv pv tv (10 ≤ s.nx)) (G : Good s) (hn : n < 256 ^ sz s.nx) :
    Calls Try.prog 57 #[.pointer (some ⟨r, 0, none⟩), .int .i64 n] W (Settled h r s n W) := by
  have h16 := G.n16
  rcases (show s.nx = 0 ∨ s.nx = 1 ∨ s.nx = 2 ∨ s.nx = 3 ∨ s.nx = 4 ∨ (5 ≤ s.nx ∧ s.nx ≤ 8) ∨ s.nx = 9 ∨ (10 ≤ s.nx ∧ s.nx ≤ 14) ∨ s.nx = 15 ∨ s.nx = 16 by omega) with e | e | e | e | e | e | e | e | e | e
  · exact settle0 h bp r s gv pv tv n W R e
  · exact settle1 h bp r s gv pv tv n W R e
  · exact settle2 h bp r s gv pv tv n W R e
  · exact settle3 h bp r s gv pv tv n W R e
  · exact settle4 h bp r s gv pv tv n W R e
  · have h1 := G.gl e.1 e.2
    have h2 := G.ng e.1
    have h3 : n < 16777216 := by
      have : sz s.nx ≤ 3 := by rcases (show s.nx = 5 ∨ s.nx = 6 ∨ s.nx = 7 ∨ s.nx = 8 by omega) with e | e | e | e <;> rw [e] <;> decide
      exact Nat.lt_of_lt_of_le hn (Nat.pow_le_pow_right (by decide) this)
    exact settleG h bp r s gv pv tv n W R e (by omega) h3
  · have h1 := G.em (by omega)
    have h2 := G.ng (by omega)
    have h3 := G.ge (by omega)
    exact settle9 h bp r s gv pv tv n W R e h1 (by omega) G.ok (G.p0 (by omega))
  · have h1 := G.pl e.1 e.2
    have h2 := G.np e.1
    have h3 : n < 16777216 := by
      have : sz s.nx ≤ 3 := by rcases (show s.nx = 10 ∨ s.nx = 11 ∨ s.nx = 12 ∨ s.nx = 13 ∨ s.nx = 14 by omega) with e | e | e | e | e <;> rw [e] <;> decide
      exact Nat.lt_of_lt_of_le hn (Nat.pow_le_pow_right (by decide) this)
    exact settleP h bp r s gv pv tv n W R e (by omega) h3 (units_of G.ok)
  · exact settle15 h bp r s gv pv tv n W R e (by rw [e] at hn; exact hn)
  · exact settle16 h bp r s gv pv tv n W R e
end Go.Proofs.Ytdinlaoimpoolaa
