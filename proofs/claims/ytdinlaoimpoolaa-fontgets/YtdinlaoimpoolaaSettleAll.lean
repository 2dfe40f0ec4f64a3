/- What stands behind a part; a number settled. -/
import Derived.Test.YtdinlaoimpoolaaSetAll
namespace Go.Proofs.Ytdinlaoimpoolaa
open Go.RowKit

set_option maxRecDepth 100000 in
set_option maxHeartbeats 4000000 in
theorem after_any (h bp r : Nat) (s : St) (gv pv tv : Value) (T : Prop) (W : World) (R : Rd h bp W r s gv pv tv T) (hx : s.nx ≤ 16) :
    Calls Try.prog 58 #[.pointer (some ⟨r, 0, none⟩)] W fun e w' => e = .returned (.int .i64 (after s)) ∧ Below W.heap.size W w' := by
  obtain ⟨ag, ca, hgv, _, _⟩ := row_reads R.gr
  obtain ⟨ap, cb, hpv, _, _⟩ := row_reads R.pr
  have c0 : W.cell? ⟨r, 0, none⟩ = some (.int .i64 s.nx) := R.blk.cell 0
  have c5 : W.cell? ⟨r, 5, none⟩ = some gv := R.blk.cell 5
  have c6 : W.cell? ⟨r, 6, none⟩ = some pv := R.blk.cell 6
  have c7 : W.cell? ⟨r, 7, none⟩ = some (.int .i64 s.ng) := R.blk.cell 7
  have c8 : W.cell? ⟨r, 8, none⟩ = some (.int .i64 s.np) := R.blk.cell 8
  have c15 : W.cell? ⟨r, 15, none⟩ = some (.bool s.p.2.2.1) := R.blk.cell 15
  rw [hgv] at c5
  rw [hpv] at c6
  have HE : Hid (after s = after s) := hid rfl
  obtain ⟨q, hq⟩ : ∃ q, after s = q := ⟨_, rfl⟩
  rw [hq] at HE ⊢
  have HQ : Hid (after s = q) := hid hq
  clear R HE hq hgv hpv
  by_cases h48 : s.nx = 4 ∨ s.nx = 8
  · by_cases hl : s.gs.length < s.ng
    · have e : q = 5 := by rw [← HQ.out]; unfold after; rcases h48 with e | e <;> rw [e] <;> simp [hl]
      have hl' : (s.gs.length : Int) < (s.ng : Int) := by omega
      subst e
      clear hl
      rcases h48 with e | e
      all_goals
        rw [e] at c0
        clear e HQ
        go_enter Try.func58, Try.ntmps58
        go_wp2_with fail
        go_region
        go_wp2_with fail
        go_ret
        exact ⟨rfl, (Below.refl _ _).drew⟩
    · have e : q = 9 := by rw [← HQ.out]; unfold after; rcases h48 with e | e <;> rw [e] <;> simp [hl]
      have hl' : ¬ (s.gs.length : Int) < (s.ng : Int) := by omega
      subst e
      clear hl
      rcases h48 with e | e
      all_goals
        rw [e] at c0
        clear e HQ
        go_enter Try.func58, Try.ntmps58
        go_wp2_with fail
        go_region
        go_wp2_with fail
        go_ret
        exact ⟨rfl, (Below.refl _ _).drew⟩
  · by_cases h9 : s.nx = 9 ∨ s.nx = 13 ∨ s.nx = 14
    · by_cases hl : s.ps.length < s.np
      · have e : q = 10 := by rw [← HQ.out]; unfold after; rcases h9 with e | e | e <;> rw [e] <;> simp [hl]
        have hl' : (s.ps.length : Int) < (s.np : Int) := by omega
        subst e
        clear hl h48
        rcases h9 with e | e | e
        all_goals
          rw [e] at c0
          clear e HQ
          go_enter Try.func58, Try.ntmps58
          go_wp2_with fail
          go_region
          go_wp2_with fail
          go_ret
          exact ⟨rfl, (Below.refl _ _).drew⟩
      · have e : q = 15 := by rw [← HQ.out]; unfold after; rcases h9 with e | e | e <;> rw [e] <;> simp [hl]
        have hl' : ¬ (s.ps.length : Int) < (s.np : Int) := by omega
        subst e
        clear hl h48
        rcases h9 with e | e | e
        all_goals
          rw [e] at c0
          clear e HQ
          go_enter Try.func58, Try.ntmps58
          go_wp2_with fail
          go_region
          go_wp2_with fail
          go_ret
          exact ⟨rfl, (Below.refl _ _).drew⟩
    · by_cases h12 : s.nx = 12
      · have e : q = if s.p.2.2.1 = true then 13 else 14 := by rw [← HQ.out]; unfold after; rw [h12]; rfl
        rw [h12] at c0
        clear h48 h9 h12 HQ
        obtain ⟨i, hi⟩ : ∃ i, s.p.2.2.1 = i := ⟨_, rfl⟩
        rw [hi] at e c15
        clear hi
        cases i
        all_goals
          simp only [if_true, if_false, Bool.false_eq_true] at e
          subst e
          go_enter Try.func58, Try.ntmps58
          go_wp2_with fail
          go_ret
          exact ⟨rfl, Below.refl _ _⟩
      · have e : q = s.nx + 1 := by
          rw [← HQ.out]
          have : s.nx = 0 ∨ s.nx = 1 ∨ s.nx = 2 ∨ s.nx = 3 ∨ s.nx = 5 ∨ s.nx = 6 ∨ s.nx = 7 ∨ s.nx = 10 ∨ s.nx = 11 ∨ s.nx = 15 ∨ s.nx = 16 := by omega
          unfold after
          rcases this with e | e | e | e | e | e | e | e | e | e | e <;> rw [e] <;> rfl
        subst e
        have n4 : ((s.nx : Int) == 4) = false := by simp; omega
        have n8 : ((s.nx : Int) == 8) = false := by simp; omega
        have n9 : ((s.nx : Int) == 9) = false := by simp; omega
        have n12 : ((s.nx : Int) == 12) = false := by simp; omega
        have n13 : ((s.nx : Int) == 13) = false := by simp; omega
        have n14 : ((s.nx : Int) == 14) = false := by simp; omega
        have hx' : (s.nx : Int) ≤ 16 := by omega
        clear h48 h9 h12 HQ
        go_enter Try.func58, Try.ntmps58
        go_wp2_with fail
        go_ret
        exact ⟨by simp, Below.refl _ _⟩
theorem Rd.iff {h bp r : Nat} {W : World} {s : St} {gv pv tv : Value} {T T' : Prop} (R : Rd h bp W r s gv pv tv T) (e : T ↔ T') : Rd h bp W r s gv pv tv T' := by
  rw [propext e] at R; exact R
/-- a cell turns while there is no table -/
theorem Rd.cellE {h bp r : Nat} {W : World} {s : St} {gv pv tv : Value} (R : Rd h bp W r s gv pv tv False) (s' : St) (i : Nat) (v : Value) (hx : (rcells s gv pv tv).set i v = rcells s' gv pv tv) (hg : s'.gs = s.gs) (hp : s'.ps = s.ps) : Rd h bp (W.setCell ⟨r, i, none⟩ v) r s' gv pv tv False := by
  have k : Only [r] W (W.setCell ⟨r, i, none⟩ v) := (Only.refl [r] W).set (p := ⟨r, i, none⟩) (.inl (by simp)) _
  exact ⟨by rw [← hx]; exact R.blk.set i v, R.rh, ⟨R.hb.1, by have := R.hb.2; have := k.size; omega⟩, by rw [hg]; exact row_only R.gr k (blk_not_row R.blk R.gr (by decide)), by rw [hp]; exact row_only R.pr k (blk_not_row R.blk R.pr (by decide)), R.pn, fun t => t.elim⟩

/-- what settle leaves -/
def Settled (h r : Nat) (s : St) (n : Nat) (W : World) (e : Ending) (w' : World) : Prop :=
  e = .returned (.int .i64 (if fits s n = true then 0 else bad s)) ∧ (∃ bp gv pv tv, Rd h bp w' r (put s n) gv pv tv (9 ≤ s.nx)) ∧ Below h W w'
theorem ret_int {v q : Int} (h : q = v) : Ending.returned (.int .i64 v) = .returned (.int .i64 q) := by rw [h]
/-- the answer of settle -/
def ansr (s : St) (n : Nat) : Int := if fits s n = true then 0 else bad s
set_option maxRecDepth 100000 in
set_option maxHeartbeats 4000000 in
theorem settle0 (h bp r : Nat) (s : St) (gv pv tv : Value) (n : Nat) (W : World) (R : Rd h bp W r s gv pv tv (10 ≤ s.nx)) (hx : s.nx = 0) :
    Calls Try.prog 57 #[.pointer (some ⟨r, 0, none⟩), .int .i64 n] W (Settled h r s n W) := by
  have HP : Hid (put s n = s) := hid (by simp only [put, hx])
  have HR : Hid (Rd h bp W r s gv pv tv (9 ≤ s.nx)) := hid (R.iff (by omega))
  have c0 : W.cell? ⟨r, 0, none⟩ = some (.int .i64 s.nx) := R.blk.cell 0
  rw [hx] at c0
  have hb : ((⟨#[80, 70, 49]⟩ : ByteArray)[0]'(by decide)).toNat = 80 := by rfl
  unfold Settled
  rw [HP.out]
  obtain ⟨q, hq⟩ : ∃ q, (if fits s n = true then (0 : Int) else bad s) = q := ⟨_, rfl⟩
  rw [hq]
  by_cases h1 : n = 80
  · have HQ : Hid (q = 0) := hid (by rw [← hq]; simp [fits, hx, h1])
    subst h1
    clear R HP hq hx
    go_enter Try.func57, Try.ntmps57
    go_wp2_with fail
    go_ret
    exact ⟨ret_int HQ.out, ⟨_, _, _, _, HR.out⟩, Below.refl _ _⟩
  · have HQ : Hid (q = 60) := hid (by rw [← hq]; simp [fits, hx, h1, bad])
    have h2 : ((n : Int) == 80) = false := by simp; omega
    clear R HP hq hx h1
    go_enter Try.func57, Try.ntmps57
    go_wp2_with fail
    go_ret
    exact ⟨ret_int HQ.out, ⟨_, _, _, _, HR.out⟩, Below.refl _ _⟩
set_option maxRecDepth 100000 in
set_option maxHeartbeats 4000000 in
theorem settle1 (h bp r : Nat) (s : St) (gv pv tv : Value) (n : Nat) (W : World) (R : Rd h bp W r s gv pv tv (10 ≤ s.nx)) (hx : s.nx = 1) :
    Calls Try.prog 57 #[.pointer (some ⟨r, 0, none⟩), .int .i64 n] W (Settled h r s n W) := by
  have HP : Hid (put s n = s) := hid (by simp only [put, hx])
  have HR : Hid (Rd h bp W r s gv pv tv (9 ≤ s.nx)) := hid (R.iff (by omega))
  have c0 : W.cell? ⟨r, 0, none⟩ = some (.int .i64 s.nx) := R.blk.cell 0
  rw [hx] at c0
  have hb : ((⟨#[80, 70, 49]⟩ : ByteArray)[1]'(by decide)).toNat = 70 := by rfl
  unfold Settled
  rw [HP.out]
  obtain ⟨q, hq⟩ : ∃ q, (if fits s n = true then (0 : Int) else bad s) = q := ⟨_, rfl⟩
  rw [hq]
  by_cases h1 : n = 70
  · have HQ : Hid (q = 0) := hid (by rw [← hq]; simp [fits, hx, h1])
    subst h1
    clear R HP hq hx
    go_enter Try.func57, Try.ntmps57
    go_wp2_with fail
    go_ret
    exact ⟨ret_int HQ.out, ⟨_, _, _, _, HR.out⟩, Below.refl _ _⟩
  · have HQ : Hid (q = 60) := hid (by rw [← hq]; simp [fits, hx, h1, bad])
    have h2 : ((n : Int) == 70) = false := by simp; omega
    clear R HP hq hx h1
    go_enter Try.func57, Try.ntmps57
    go_wp2_with fail
    go_ret
    exact ⟨ret_int HQ.out, ⟨_, _, _, _, HR.out⟩, Below.refl _ _⟩
set_option maxRecDepth 100000 in
set_option maxHeartbeats 4000000 in
theorem settle2 (h bp r : Nat) (s : St) (gv pv tv : Value) (n : Nat) (W : World) (R : Rd h bp W r s gv pv tv (10 ≤ s.nx)) (hx : s.nx = 2) :
    Calls Try.prog 57 #[.pointer (some ⟨r, 0, none⟩), .int .i64 n] W (Settled h r s n W) := by
  have HP : Hid (put s n = s) := hid (by simp only [put, hx])
  have HR : Hid (Rd h bp W r s gv pv tv (9 ≤ s.nx)) := hid (R.iff (by omega))
  have c0 : W.cell? ⟨r, 0, none⟩ = some (.int .i64 s.nx) := R.blk.cell 0
  rw [hx] at c0
  have hb : ((⟨#[80, 70, 49]⟩ : ByteArray)[2]'(by decide)).toNat = 49 := by rfl
  unfold Settled
  rw [HP.out]
  obtain ⟨q, hq⟩ : ∃ q, (if fits s n = true then (0 : Int) else bad s) = q := ⟨_, rfl⟩
  rw [hq]
  by_cases h1 : n = 49
  · have HQ : Hid (q = 0) := hid (by rw [← hq]; simp [fits, hx, h1])
    subst h1
    clear R HP hq hx
    go_enter Try.func57, Try.ntmps57
    go_wp2_with fail
    go_ret
    exact ⟨ret_int HQ.out, ⟨_, _, _, _, HR.out⟩, Below.refl _ _⟩
  · have HQ : Hid (q = 60) := hid (by rw [← hq]; simp [fits, hx, h1, bad])
    have h2 : ((n : Int) == 49) = false := by simp; omega
    clear R HP hq hx h1
    go_enter Try.func57, Try.ntmps57
    go_wp2_with fail
    go_ret
    exact ⟨ret_int HQ.out, ⟨_, _, _, _, HR.out⟩, Below.refl _ _⟩
end Go.Proofs.Ytdinlaoimpoolaa
namespace Go.Proofs.Ytdinlaoimpoolaa
open Go.RowKit

set_option maxRecDepth 100000 in
set_option maxHeartbeats 4000000 in
theorem settle3 (h bp r : Nat) (s : St) (gv pv tv : Value) (n : Nat) (W : World) (R : Rd h bp W r s gv pv tv (10 ≤ s.nx)) (hx : s.nx = 3) :
    Calls Try.prog 57 #[.pointer (some ⟨r, 0, none⟩), .int .i64 n] W (Settled h r s n W) := by
  have HP : Hid (put s n = { s with em := n }) := hid (by simp only [put, hx])
  have HR2 : Hid (Rd h bp (W.setCell ⟨r, 4, none⟩ (.int .i64 n)) r { s with em := n } gv pv tv (9 ≤ s.nx)) := hid (((R.iff (T' := False) ⟨fun h => by omega, fun h => h.elim⟩).cellE { s with em := n } 4 (.int .i64 n) rfl rfl rfl).iff ⟨fun h => h.elim, fun h => by omega⟩)
  have HB2 : Hid (Below h W (W.setCell ⟨r, 4, none⟩ (.int .i64 n))) := hid ((Below.refl h W).setCell (p := ⟨r, 4, none⟩) R.rh _)
  have c0 : W.cell? ⟨r, 0, none⟩ = some (.int .i64 s.nx) := R.blk.cell 0
  have kc : W.cell? ⟨r, 4, none⟩ = some (.int .i64 s.em) := R.blk.cell 4
  have fc := R.blk.froz 4
  rw [hx] at c0
  unfold Settled
  rw [HP.out]
  obtain ⟨q, hq⟩ : ∃ q, (if fits s n = true then (0 : Int) else bad s) = q := ⟨_, rfl⟩
  rw [hq]
  rcases (show n < 1 ∨ (1 ≤ n ∧ 16384 < n) ∨ (1 ≤ n ∧ n ≤ 16384) by omega) with h1 | ⟨h1, h2⟩ | ⟨h1, h2⟩
  · have HQ : Hid (q = 60) := hid (by rw [← hq]; simp [fits, hx, bad]; omega)
    have d1 : ¬ (1 : Int) ≤ (n : Int) := by omega
    clear R HP hq hx h1
    go_enter Try.func57, Try.ntmps57
    go_wp2_with fail
    go_ret
    exact ⟨ret_int HQ.out, ⟨_, _, _, _, HR2.out⟩, HB2.out⟩
  · have HQ : Hid (q = 60) := hid (by rw [← hq]; simp [fits, hx, bad]; omega)
    have d1 : (1 : Int) ≤ (n : Int) := by omega
    have d2 : ¬ (n : Int) ≤ 16384 := by omega
    clear R HP hq hx h1 h2
    go_enter Try.func57, Try.ntmps57
    go_wp2_with fail
    go_ret
    exact ⟨ret_int HQ.out, ⟨_, _, _, _, HR2.out⟩, HB2.out⟩
  · have HQ : Hid (q = 0) := hid (by rw [← hq]; simp [fits, hx]; omega)
    have d1 : (1 : Int) ≤ (n : Int) := by omega
    have d2 : (n : Int) ≤ 16384 := by omega
    clear R HP hq hx h1 h2
    go_enter Try.func57, Try.ntmps57
    go_wp2_with fail
    go_ret
    exact ⟨ret_int HQ.out, ⟨_, _, _, _, HR2.out⟩, HB2.out⟩
set_option maxRecDepth 100000 in
set_option maxHeartbeats 4000000 in
theorem settle4 (h bp r : Nat) (s : St) (gv pv tv : Value) (n : Nat) (W : World) (R : Rd h bp W r s gv pv tv (10 ≤ s.nx)) (hx : s.nx = 4) :
    Calls Try.prog 57 #[.pointer (some ⟨r, 0, none⟩), .int .i64 n] W (Settled h r s n W) := by
  have HP : Hid (put s n = { s with ng := n }) := hid (by simp only [put, hx])
  have HR2 : Hid (Rd h bp (W.setCell ⟨r, 7, none⟩ (.int .i64 n)) r { s with ng := n } gv pv tv (9 ≤ s.nx)) := hid (((R.iff (T' := False) ⟨fun h => by omega, fun h => h.elim⟩).cell { s with ng := n } 7 (.int .i64 n) rfl rfl rfl rfl).iff ⟨fun h => h.elim, fun h => by omega⟩)
  have HB2 : Hid (Below h W (W.setCell ⟨r, 7, none⟩ (.int .i64 n))) := hid ((Below.refl h W).setCell (p := ⟨r, 7, none⟩) R.rh _)
  have c0 : W.cell? ⟨r, 0, none⟩ = some (.int .i64 s.nx) := R.blk.cell 0
  have kc : W.cell? ⟨r, 7, none⟩ = some (.int .i64 s.ng) := R.blk.cell 7
  have fc := R.blk.froz 7
  rw [hx] at c0
  unfold Settled
  rw [HP.out]
  obtain ⟨q, hq⟩ : ∃ q, (if fits s n = true then (0 : Int) else bad s) = q := ⟨_, rfl⟩
  rw [hq]
  by_cases h1 : n ≤ 1024
  · have HQ : Hid (q = 0) := hid (by rw [← hq]; simp [fits, hx]; omega)
    have d1 : (n : Int) ≤ 1024 := by omega
    clear R HP hq hx h1
    go_enter Try.func57, Try.ntmps57
    go_wp2_with fail
    go_ret
    exact ⟨ret_int HQ.out, ⟨_, _, _, _, HR2.out⟩, HB2.out⟩
  · have HQ : Hid (q = 60) := hid (by rw [← hq]; simp [fits, hx, bad]; omega)
    have d1 : ¬ (n : Int) ≤ 1024 := by omega
    clear R HP hq hx h1
    go_enter Try.func57, Try.ntmps57
    go_wp2_with fail
    go_ret
    exact ⟨ret_int HQ.out, ⟨_, _, _, _, HR2.out⟩, HB2.out⟩
set_option maxRecDepth 100000 in
set_option maxHeartbeats 4000000 in
theorem settleG (h bp r : Nat) (s : St) (gv pv tv : Value) (n : Nat) (W : World) (R : Rd h bp W r s gv pv tv (10 ≤ s.nx)) (hx : 5 ≤ s.nx ∧ s.nx ≤ 8) (hl : s.gs.length < 1024) (hn : n < 16777216) :
    Calls Try.prog 57 #[.pointer (some ⟨r, 0, none⟩), .int .i64 n] W (Settled h r s n W) := by
  have HC := hid (setGlyph_any h bp r s gv pv tv n W (R.iff (T' := False) (by simp; omega)) hx hl hn)
  have HT : Hid ((False : Prop) ↔ 9 ≤ s.nx) := hid (by simp; omega)
  have c0 : W.cell? ⟨r, 0, none⟩ = some (.int .i64 s.nx) := R.blk.cell 0
  have hb : bad s = 60 := if_neg (by omega)
  unfold Settled
  obtain ⟨q, hq⟩ : ∃ q, (if fits s n = true then (0 : Int) else bad s) = q := ⟨_, rfl⟩
  rw [hq]
  have HQ : Hid (q = if fits s n = true then (0 : Int) else 60) := hid (by rw [← hq, hb])
  clear R hq hb
  obtain ⟨b, hb⟩ : ∃ b, fits s n = b := ⟨_, rfl⟩
  rw [hb] at HC HQ
  have hways : s.nx = 5 ∨ s.nx = 6 ∨ s.nx = 7 ∨ s.nx = 8 := by omega
  clear hx hb
  rcases hways with e | e | e | e
  all_goals
    rw [e] at c0
    clear e
    cases b
    all_goals
      go_enter Try.func57, Try.ntmps57
      go_wp2_with (go_at_call 72; refine HC.out.mono ?_; rintro e w2 ⟨rfl, hR, hB⟩; have HRr := hid hR; clear hR)
      go_ret
      refine ⟨ret_int HQ.out, ?_, hB⟩
      obtain ⟨v, hv⟩ := HRr.out
      exact ⟨_, _, _, _, hv.iff HT.out⟩
set_option maxRecDepth 100000 in
set_option maxHeartbeats 4000000 in
theorem settleP (h bp r : Nat) (s : St) (gv pv tv : Value) (n : Nat) (W : World) (R : Rd h bp W r s gv pv tv (10 ≤ s.nx)) (hx : 10 ≤ s.nx ∧ s.nx ≤ 14) (hl : s.ps.length < 4096) (hn : n < 16777216) (hu : ∀ g ∈ s.gs, units g = true) :
    Calls Try.prog 57 #[.pointer (some ⟨r, 0, none⟩), .int .i64 n] W (Settled h r s n W) := by
  have HC := hid (setPair_any h bp r s gv pv tv n W (R.iff (T' := True) (by simp; omega)) hx hl hn hu)
  have HT : Hid ((True : Prop) ↔ 9 ≤ s.nx) := hid (by simp; omega)
  have c0 : W.cell? ⟨r, 0, none⟩ = some (.int .i64 s.nx) := R.blk.cell 0
  have hb : bad s = 60 := if_neg (by omega)
  unfold Settled
  obtain ⟨q, hq⟩ : ∃ q, (if fits s n = true then (0 : Int) else bad s) = q := ⟨_, rfl⟩
  rw [hq]
  have HQ : Hid (q = if fits s n = true then (0 : Int) else 60) := hid (by rw [← hq, hb])
  clear R hq hb
  obtain ⟨b, hb⟩ : ∃ b, fits s n = b := ⟨_, rfl⟩
  rw [hb] at HC HQ
  have hways : s.nx = 10 ∨ s.nx = 11 ∨ s.nx = 12 ∨ s.nx = 13 ∨ s.nx = 14 := by omega
  clear hx hb
  rcases hways with e | e | e | e | e
  all_goals
    rw [e] at c0
    clear e
    cases b
    all_goals
      go_enter Try.func57, Try.ntmps57
      go_wp2_with (go_at_call 73; refine HC.out.mono ?_; rintro e w2 ⟨rfl, hR, hB⟩; have HRr := hid hR; clear hR)
      go_ret
      refine ⟨ret_int HQ.out, ?_, hB⟩
      obtain ⟨v, hv⟩ := HRr.out
      exact ⟨_, _, _, _, hv.iff HT.out⟩
theorem verd_nil {em : Int} {gs : List Gl} (h1 : 1 ≤ em) (h2 : em ≤ 16384) (h3 : gs.length ≤ 1024) (h4 : glOK (-1) gs = true) : verd em gs [] = 0 := by
  unfold verd
  rw [if_neg (by omega), if_neg (by simp; omega), if_neg (by rw [h4]; decide), if_neg (by simp [prOK])]
set_option maxRecDepth 100000 in
set_option maxHeartbeats 4000000 in
theorem settle9 (h bp r : Nat) (s : St) (gv pv tv : Value) (n : Nat) (W : World) (R : Rd h bp W r s gv pv tv (10 ≤ s.nx)) (hx : s.nx = 9) (he : 1 ≤ s.em ∧ s.em ≤ 16384) (hl : s.gs.length ≤ 1024) (hg : glOK (-1) s.gs = true) (hp : s.ps = []) :
    Calls Try.prog 57 #[.pointer (some ⟨r, 0, none⟩), .int .i64 n] W (Settled h r s n W) := by
  have R := R.iff (T' := False) ⟨fun h => by omega, fun h => h.elim⟩
  have hpv := R.pn (fun t => t)
  subst hpv
  have HP : Hid (put s n = { s with np := n }) := hid (by simp only [put, hx])
  have HR2 := hid (R.cell { s with np := n } 8 (.int .i64 n) rfl rfl rfl rfl)
  have HB2 : Hid (Below h W (W.setCell ⟨r, 8, none⟩ (.int .i64 n))) := hid ((Below.refl h W).setCell (p := ⟨r, 8, none⟩) R.rh _)
  have c0 : W.cell? ⟨r, 0, none⟩ = some (.int .i64 s.nx) := R.blk.cell 0
  have kc : W.cell? ⟨r, 8, none⟩ = some (.int .i64 s.np) := R.blk.cell 8
  have fc := R.blk.froz 8
  have c4 : W.cell? ⟨r, 4, none⟩ = some (.int .i64 s.em) := R.blk.cell 4
  have c5 : W.cell? ⟨r, 5, none⟩ = some gv := R.blk.cell 5
  have c6 : W.cell? ⟨r, 6, none⟩ = some (.slice none 0 0) := R.blk.cell 6
  obtain ⟨ad, cap, hgv, _, _⟩ := row_reads R.gr
  subst hgv
  rw [hx] at c0
  have HV : Hid (verd s.em s.gs [] = 0) := hid (verd_nil (by omega) (by omega) hl hg)
  have HL := hid hl
  have HPS := hid hp
  have HT : Hid (9 ≤ s.nx) := hid (by omega)
  unfold Settled
  rw [HP.out]
  obtain ⟨q, hq⟩ : ∃ q, (if fits s n = true then (0 : Int) else bad s) = q := ⟨_, rfl⟩
  rw [hq]
  have hways : (n ≤ 4096 ∧ q = 0) ∨ (¬ n ≤ 4096 ∧ q = 60) := by
    by_cases h1 : n ≤ 4096
    · exact .inl ⟨h1, by rw [← hq]; simp [fits, hx, h1]⟩
    · exact .inr ⟨h1, by rw [← hq]; simp [fits, hx, h1, bad]⟩
  have HNW : Hid (∀ X, Rd h bp X r { s with np := n } (.slice ad s.gs.length cap) (.slice none 0 0) tv False → Calls Try.prog 20 #[.agg #[.int .i64 s.em, .slice ad s.gs.length cap, .slice none 0 0]] X fun e w' => Made X w' s.em s.gs [] e) := hid fun X RX => by
    obtain ⟨ad', cap', hgv, hsl, _⟩ := row_reads RX.gr
    cases hgv
    exact new_any s.em s.gs [] ad none cap 0 X (by omega) (by simp) hsl Sl.nil
  clear R hq hx hl hg hp he HP
  rcases hways with ⟨h1, h2⟩ | ⟨h1, h2⟩
  · have HQ := hid h2
    clear h2
    have d2 : (n : Int) ≤ 4096 := by omega
    clear h1
    go_enter Try.func57, Try.ntmps57
    go_wp2_with fail
    obtain ⟨W2, hW2⟩ : ∃ W2, W.setCell ⟨r, 8, none⟩ (.int .i64 n) = W2 := ⟨_, rfl⟩
    rw [hW2] at HR2 HB2 ⊢
    clear hW2 c0 kc fc c4 c5 c6
    refine (HNW.out W2 HR2.out).mono ?_
    rintro e w3 ⟨_, hm, hb3⟩
    obtain ⟨a, rfl, hT⟩ := hm HV.out
    have R3 := HR2.out.below hb3
    have hrW : r < W2.heap.size := HR2.out.blk.lt
    have HB4 : Hid (Below h W (w3.setCell ⟨r, 18, none⟩ (.pointer (some ⟨a, 0, none⟩)))) := hid ((HB2.out.trans (hb3.mono (by have := HR2.out.hb; omega))).setCell (p := ⟨r, 18, none⟩) R3.rh _)
    have k : Only [r] w3 (w3.setCell ⟨r, 18, none⟩ (.pointer (some ⟨a, 0, none⟩))) := (Only.refl [r] w3).set (p := ⟨r, 18, none⟩) (.inl (by simp)) _
    have hPR : (w3.setCell ⟨r, 18, none⟩ (.pointer (some ⟨a, 0, none⟩))).ownsRow w3.heap.size 35 5 (.slice none 0 0) ({ s with np := n } : St).ps.length (({ s with np := n } : St).ps.flatMap cp) := by
      rw [show ({ s with np := n } : St).ps = [] from HPS.out]
      exact World.ownsRow_nil _ _ _ _
    have HR4 : Hid (Rd h w3.heap.size (w3.setCell ⟨r, 18, none⟩ (.pointer (some ⟨a, 0, none⟩))) r { s with np := n } (.slice ad s.gs.length cap) (.slice none 0 0) (.pointer (some ⟨a, 0, none⟩)) True) := hid
      ⟨R3.blk.set 18 _, R3.rh, ⟨by have := R3.hb; omega, by have := k.size; omega⟩, row_only R3.gr k (blk_not_row R3.blk R3.gr (by decide)), hPR, fun t => absurd trivial t, fun _ => ⟨a, W2.heap.size, w3.heap.size, rfl, hrW, Nat.le_refl _, hT.keep k (fun i hi => by rw [List.mem_singleton.1 hi]; exact .inl hrW)⟩⟩
    have k18 : w3.cell? ⟨r, 18, none⟩ = some tv := R3.blk.cell 18
    have f18 := R3.blk.froz 18
    clear hm hT R3 k hb3
    go_wp2_with fail
    go_ret
    exact ⟨ret_int HQ.out, ⟨_, _, _, _, HR4.out.iff ⟨fun _ => HT.out, fun _ => trivial⟩⟩, HB4.out⟩
  · have HQ := hid h2
    clear h2
    have HD2 : Hid (decide ((n : Int) ≤ 4096) = false) := hid (decide_eq_false (by omega))
    clear h1
    go_enter Try.func57, Try.ntmps57
    go_wp2_with fail
    obtain ⟨W2, hW2⟩ : ∃ W2, W.setCell ⟨r, 8, none⟩ (.int .i64 n) = W2 := ⟨_, rfl⟩
    rw [hW2] at HR2 HB2 ⊢
    clear hW2 c0 kc fc c4 c5 c6
    refine (HNW.out W2 HR2.out).mono ?_
    rintro e w3 ⟨_, hm, hb3⟩
    obtain ⟨a, rfl, hT⟩ := hm HV.out
    have R3 := HR2.out.below hb3
    have hrW : r < W2.heap.size := HR2.out.blk.lt
    have HB4 : Hid (Below h W (w3.setCell ⟨r, 18, none⟩ (.pointer (some ⟨a, 0, none⟩)))) := hid ((HB2.out.trans (hb3.mono (by have := HR2.out.hb; omega))).setCell (p := ⟨r, 18, none⟩) R3.rh _)
    have k : Only [r] w3 (w3.setCell ⟨r, 18, none⟩ (.pointer (some ⟨a, 0, none⟩))) := (Only.refl [r] w3).set (p := ⟨r, 18, none⟩) (.inl (by simp)) _
    have hPR : (w3.setCell ⟨r, 18, none⟩ (.pointer (some ⟨a, 0, none⟩))).ownsRow w3.heap.size 35 5 (.slice none 0 0) ({ s with np := n } : St).ps.length (({ s with np := n } : St).ps.flatMap cp) := by
      rw [show ({ s with np := n } : St).ps = [] from HPS.out]
      exact World.ownsRow_nil _ _ _ _
    have HR4 : Hid (Rd h w3.heap.size (w3.setCell ⟨r, 18, none⟩ (.pointer (some ⟨a, 0, none⟩))) r { s with np := n } (.slice ad s.gs.length cap) (.slice none 0 0) (.pointer (some ⟨a, 0, none⟩)) True) := hid
      ⟨R3.blk.set 18 _, R3.rh, ⟨by have := R3.hb; omega, by have := k.size; omega⟩, row_only R3.gr k (blk_not_row R3.blk R3.gr (by decide)), hPR, fun t => absurd trivial t, fun _ => ⟨a, W2.heap.size, w3.heap.size, rfl, hrW, Nat.le_refl _, hT.keep k (fun i hi => by rw [List.mem_singleton.1 hi]; exact .inl hrW)⟩⟩
    have k18 : w3.cell? ⟨r, 18, none⟩ = some tv := R3.blk.cell 18
    have f18 := R3.blk.froz 18
    clear hm hT R3 k hb3
    have d2 : decide ((n : Int) ≤ 4096) = false := HD2.out
    go_wp2_with fail
    go_ret
    exact ⟨ret_int HQ.out, ⟨_, _, _, _, HR4.out.iff ⟨fun _ => HT.out, fun _ => trivial⟩⟩, HB4.out⟩

set_option maxRecDepth 100000 in
set_option maxHeartbeats 4000000 in
theorem settle15 (h bp r : Nat) (s : St) (gv pv tv : Value) (n : Nat) (W : World) (R : Rd h bp W r s gv pv tv (10 ≤ s.nx)) (hx : s.nx = 15) (hn : n < 4294967296) :
    Calls Try.prog 57 #[.pointer (some ⟨r, 0, none⟩), .int .i64 n] W (Settled h r s n W) := by
  have HP : Hid (put s n = s) := hid (by simp only [put, hx])
  have HR : Hid (Rd h bp W r s gv pv tv (9 ≤ s.nx)) := hid (R.iff ⟨fun _ => by omega, fun _ => by omega⟩)
  have c0 : W.cell? ⟨r, 0, none⟩ = some (.int .i64 s.nx) := R.blk.cell 0
  have c3 : W.cell? ⟨r, 3, none⟩ = some (.int .u32 s.sm) := R.blk.cell 3
  rw [hx] at c0
  have hnw : IntKind.u32.wrap (n : Int) = n := by rw [wrap_u32]; omega
  unfold Settled
  rw [HP.out]
  obtain ⟨q, hq⟩ : ∃ q, (if fits s n = true then (0 : Int) else bad s) = q := ⟨_, rfl⟩
  rw [hq]
  by_cases h1 : n = s.sm
  · have HQ : Hid (q = 0) := hid (by rw [← hq]; simp [fits, hx, h1])
    rw [← h1] at c3
    clear R HP hq hx h1
    go_enter Try.func57, Try.ntmps57
    go_wp2_with fail
    go_ret
    exact ⟨ret_int HQ.out, ⟨_, _, _, _, HR.out⟩, Below.refl _ _⟩
  · have HQ : Hid (q = 61) := hid (by rw [← hq]; simp [fits, hx, h1, bad])
    have h2 : ((n : Int) != (s.sm : Int)) = true := by simp; omega
    clear R HP hq hx h1
    go_enter Try.func57, Try.ntmps57
    go_wp2_with fail
    go_ret
    exact ⟨ret_int HQ.out, ⟨_, _, _, _, HR.out⟩, Below.refl _ _⟩
set_option maxRecDepth 100000 in
set_option maxHeartbeats 4000000 in
theorem settle16 (h bp r : Nat) (s : St) (gv pv tv : Value) (n : Nat) (W : World) (R : Rd h bp W r s gv pv tv (10 ≤ s.nx)) (hx : s.nx = 16) :
    Calls Try.prog 57 #[.pointer (some ⟨r, 0, none⟩), .int .i64 n] W (Settled h r s n W) := by
  have HP : Hid (put s n = s) := hid (by simp only [put, hx])
  have HR : Hid (Rd h bp W r s gv pv tv (9 ≤ s.nx)) := hid (R.iff ⟨fun _ => by omega, fun _ => by omega⟩)
  have c0 : W.cell? ⟨r, 0, none⟩ = some (.int .i64 s.nx) := R.blk.cell 0
  rw [hx] at c0
  unfold Settled
  rw [HP.out]
  obtain ⟨q, hq⟩ : ∃ q, (if fits s n = true then (0 : Int) else bad s) = q := ⟨_, rfl⟩
  rw [hq]
  have HQ : Hid (q = 60) := hid (by rw [← hq]; simp [fits, hx, bad])
  clear R HP hq hx
  go_enter Try.func57, Try.ntmps57
  go_wp2_with fail
  go_ret
  exact ⟨ret_int HQ.out, ⟨_, _, _, _, HR.out⟩, Below.refl _ _⟩

theorem settle_any (h bp r : Nat) (s : St) (gv pv tv : Value) (n : Nat) (W : World) (R : Rd h bp W r s gv pv tv (10 ≤ s.nx)) (G : Good s) (hn : n < 256 ^ sz s.nx) :
    Calls Try.prog 57 #[.pointer (some ⟨r, 0, none⟩), .int .i64 n] W (Settled h r s n W) := by
  have h16 := G.n16
  rcases (show s.nx = 0 ∨ s.nx = 1 ∨ s.nx = 2 ∨ s.nx = 3 ∨ s.nx = 4 ∨ (5 ≤ s.nx ∧ s.nx ≤ 8) ∨ s.nx = 9 ∨ (10 ≤ s.nx ∧ s.nx ≤ 14) ∨ s.nx = 15 ∨ s.nx = 16 by omega) with e | e | e | e | e | e | e | e | e | e
  · exact settle0 h bp r s gv pv tv n W R e
  · exact settle1 h bp r s gv pv tv n W R e
  · exact settle2 h bp r s gv pv tv n W R e
  · exact settle3 h bp r s gv pv tv n W R e
  · exact settle4 h bp r s gv pv tv n W R e
  · have h1 := G.gl e.1 e.2
    have h2 := G.ng e.1
    have h3 : n < 16777216 := by
      have : sz s.nx ≤ 3 := by rcases (show s.nx = 5 ∨ s.nx = 6 ∨ s.nx = 7 ∨ s.nx = 8 by omega) with e | e | e | e <;> rw [e] <;> decide
      exact Nat.lt_of_lt_of_le hn (Nat.pow_le_pow_right (by decide) this)
    exact settleG h bp r s gv pv tv n W R e (by omega) h3
  · have h1 := G.em (by omega)
    have h2 := G.ng (by omega)
    have h3 := G.ge (by omega)
    exact settle9 h bp r s gv pv tv n W R e h1 (by omega) G.ok (G.p0 (by omega))
  · have h1 := G.pl e.1 e.2
    have h2 := G.np e.1
    have h3 : n < 16777216 := by
      have : sz s.nx ≤ 3 := by rcases (show s.nx = 10 ∨ s.nx = 11 ∨ s.nx = 12 ∨ s.nx = 13 ∨ s.nx = 14 by omega) with e | e | e | e | e <;> rw [e] <;> decide
      exact Nat.lt_of_lt_of_le hn (Nat.pow_le_pow_right (by decide) this)
    exact settleP h bp r s gv pv tv n W R e (by omega) h3 (units_of G.ok)
  · exact settle15 h bp r s gv pv tv n W R e (by rw [e] at hn; exact hn)
  · exact settle16 h bp r s gv pv tv n W R e
end Go.Proofs.Ytdinlaoimpoolaa
namespace Go.Proofs.Ytdinlaoimpoolaa
open Go.RowKit

theorem sz_le (k : Nat) (hk : k ≤ 16) : 1 ≤ sz k ∧ sz k ≤ 4 := by
  have hc : k = 0 ∨ k = 1 ∨ k = 2 ∨ k = 3 ∨ k = 4 ∨ k = 5 ∨ k = 6 ∨ k = 7 ∨ k = 8 ∨ k = 9 ∨ k = 10 ∨ k = 11 ∨ k = 12 ∨ k = 13 ∨ k = 14 ∨ k = 15 ∨ k = 16 := by omega
  rcases hc with rfl | rfl | rfl | rfl | rfl | rfl | rfl | rfl | rfl | rfl | rfl | rfl | rfl | rfl | rfl | rfl | rfl <;> decide
theorem Num.small {s : St} (N : Num s) (h : s.nx ≤ 16) : s.bs ≤ 3 ∧ s.nu < 16777216 := by
  have h1 := (sz_le s.nx h).2
  have h2 := N.b
  have h3 : s.bs ≤ 3 := by omega
  exact ⟨h3, Nat.lt_of_lt_of_le N.nu (Nat.pow_le_pow_right (by decide) h3)⟩
theorem Good.one {s : St} (G : Good s) (c : Nat) : Good (one s c) := by
  obtain ⟨a1, a2, a3, a4, a5, a6, a7, a8, a9, b1, b2, b3, b4, b5, b6, b7, b8, b9, c1, c2, c3⟩ := G
  refine ⟨a1, ?_, a3, a4, a5, a6, a7, a8, a9, b1, b2, b3, b4, b5, b6, b7, b8, b9, c1, c2, c3⟩
  show (if s.nx = 15 then s.sm else wit s.sm c) < 4294967296
  split
  · exact a2
  · exact wit_lt _ _
/-- what take leaves -/
def Took (h r : Nat) (s : St) (c : Nat) (W : World) (e : Ending) (w' : World) : Prop :=
  (match tk s c with
    | none => e = .returned (.int .i64 (bad s))
    | some s' => e = .returned (.int .i64 0) ∧ ∃ bp gv pv tv, Rd h bp w' r s' gv pv tv (10 ≤ s'.nx)) ∧ Below h W w'
theorem after_put (s : St) (n : Nat) : (put s n).nx = s.nx := by
  unfold put
  split <;> rfl
theorem ten_after {s : St} (h : s.nx ≤ 16) : 9 ≤ s.nx ↔ 10 ≤ after s := by
  have hc : s.nx = 0 ∨ s.nx = 1 ∨ s.nx = 2 ∨ s.nx = 3 ∨ s.nx = 4 ∨ s.nx = 5 ∨ s.nx = 6 ∨ s.nx = 7 ∨ s.nx = 8 ∨ s.nx = 9 ∨ s.nx = 10 ∨ s.nx = 11 ∨ s.nx = 12 ∨ s.nx = 13 ∨ s.nx = 14 ∨ s.nx = 15 ∨ s.nx = 16 := by omega
  unfold after
  rcases hc with e | e | e | e | e | e | e | e | e | e | e | e | e | e | e | e | e <;> rw [e] <;> simp only [] <;> (try split) <;> omega

set_option maxRecDepth 100000 in
set_option maxHeartbeats 8000000 in
theorem take_byte (h bp r : Nat) (s : St) (gv pv tv : Value) (c : Nat) (W : World) (R : Rd h bp W r s gv pv tv (10 ≤ s.nx)) (G : Good s) (N : Num s) (hc : c < 256) :
    Calls Try.prog 34 #[.pointer (some ⟨r, 0, none⟩), .int .u8 c] W (Took h r s c W) := by
  obtain ⟨hb3, hnu⟩ := N.small G.n16
  obtain ⟨hs1, hs4⟩ := sz_le s.nx G.n16
  have HR1 : Hid (Rd h bp ((W.setCell ⟨r, 1, none⟩ (.int .i64 ((s.nu : Int) * 256 + (c : Int)))).setCell ⟨r, 2, none⟩ (.int .i64 ((s.bs : Int) + 1))) r { s with nu := s.nu * 256 + c, bs := s.bs + 1 } gv pv tv (10 ≤ s.nx)) := hid
    ((R.cell { s with nu := s.nu * 256 + c } 1 (.int .i64 ((s.nu : Int) * 256 + (c : Int))) rfl rfl rfl rfl).cell { s with nu := s.nu * 256 + c, bs := s.bs + 1 } 2 (.int .i64 ((s.bs : Int) + 1)) rfl rfl rfl rfl)
  have HB1 : Hid (Below h W ((W.setCell ⟨r, 1, none⟩ (.int .i64 ((s.nu : Int) * 256 + (c : Int)))).setCell ⟨r, 2, none⟩ (.int .i64 ((s.bs : Int) + 1)))) := hid (((Below.refl h W).setCell (p := ⟨r, 1, none⟩) R.rh _).setCell (p := ⟨r, 2, none⟩) R.rh _)
  have c0 : W.cell? ⟨r, 0, none⟩ = some (.int .i64 s.nx) := R.blk.cell 0
  have c1 : W.cell? ⟨r, 1, none⟩ = some (.int .i64 s.nu) := R.blk.cell 1
  have c2 : W.cell? ⟨r, 2, none⟩ = some (.int .i64 s.bs) := R.blk.cell 2
  have c3 : W.cell? ⟨r, 3, none⟩ = some (.int .u32 s.sm) := R.blk.cell 3
  have f1 := R.blk.froz 1
  have f2 := R.blk.froz 2
  have hor := or_i64 s.nu c hnu hc
  have hn1 : (s.nu : Int) ≤ 16777215 := by omega
  have hb1 : (s.bs : Int) ≤ 3 := by omega
  have hci : (c : Int) ≤ 255 := by omega
  have HN : Hid (s.nu < 16777216 ∧ s.bs ≤ 3 ∧ c < 256) := hid ⟨hnu, hb3, hc⟩
  have HG := hid G
  have HNum := hid N
  clear R G N hnu hb3 hc hs1 hs4
  by_cases h15 : s.nx = 15
  · have e15 : ((s.nx : Int) != 15) = false := by simp; omega
    have HE : Hid (one s c = { s with nu := s.nu * 256 + c, bs := s.bs + 1 }) := hid (by unfold one; rw [if_pos h15])
    clear h15
    go_enter Try.func34, Try.ntmps34
    go_wp2_with fail
    obtain ⟨W1, hW1⟩ : ∃ W1, (W.setCell ⟨r, 1, none⟩ (.int .i64 ((s.nu : Int) * 256 + (c : Int)))).setCell ⟨r, 2, none⟩ (.int .i64 ((s.bs : Int) + 1)) = W1 := ⟨_, rfl⟩
    have HRX := hid HR1.out
    have HBX := hid HB1.out
    rw [hW1] at HRX HBX ⊢
    clear hW1
    have HQ1 : Hid (Rd h bp W1 r (one s c) gv pv tv (10 ≤ s.nx)) := hid (by rw [HE.out]; exact HRX.out)
    clear HE HRX HR1 HB1 c0 c1 c2 c3 f1 f2
    have x0 : ∀ d os, (behind W1 d os).cell? ⟨r, 0, none⟩ = some (.int .i64 s.nx) := fun d os => (HQ1.out.below (below_behind W1 d os)).blk.cell 0
    have x2 : ∀ d os, (behind W1 d os).cell? ⟨r, 2, none⟩ = some (.int .i64 ((s.bs : Int) + 1)) := fun d os => (HQ1.out.below (below_behind W1 d os)).blk.cell 2
    have HSZ : Hid (∀ X, Calls Try.prog 56 #[.int .i64 s.nx] X fun e w' => e = .returned (.int .i64 (sz s.nx)) ∧ Below X.heap.size X w') := hid fun X => (size_any s.nx HG.out.n16 X).mono fun e w' k => ⟨k.1, by rw [k.2]; exact Below.refl _ _⟩
    have mf : Try.prog.follows .mixedOrders = true := by kernel_rfl
    have HWY := hid (below_behind W1)
    have HZ : Hid (1 ≤ sz s.nx ∧ sz s.nx ≤ 4) := hid (sz_le s.nx HG.out.n16)
    refine wp_region_behind (by assumption) (by kernel_rfl) ?_
    repeat (go_big_quiet_step ((first | (go_at_call 56; refine Calls.behind_of (HSZ.out _)))))
    refine wpQuiet_nil ?_
    intro _ hw'
    obtain ⟨⟨dq, osq⟩, hw''⟩ := hw'
    subst hw''
    have HQ2 : Hid (Rd h bp (behind W1 dq osq) r (one s c) gv pv tv (10 ≤ s.nx)) := hid (HQ1.out.below (HWY.out _ _))
    have HB2 : Hid (Below h W (behind W1 dq osq)) := hid (HBX.out.trans ((HWY.out _ _).mono (by have := HQ1.out.hb; omega)))
    obtain ⟨W2, hW2⟩ : ∃ W2, behind W1 dq osq = W2 := ⟨_, rfl⟩
    rw [hW2] at HQ2 HB2
    simp only [hW2]
    clear hW2 x0 x2 HSZ HWY HQ1 HBX
    by_cases hlt : s.bs + 1 < sz s.nx
    · have HT : Hid (tk s c = some (one s c)) := hid (by unfold tk; rw [if_pos hlt])
      have d1 : (s.bs : Int) + 1 < (sz s.nx : Int) := by omega
      clear hlt
      go_wp2_with fail
      go_ret
      unfold Took
      rw [HT.out]
      exact ⟨⟨rfl, _, _, _, _, HQ2.out⟩, HB2.out⟩
    · have HT : Hid (tk s c = if fits (one s c) (one s c).nu = true then some (nxt (one s c)) else none) := hid (by unfold tk; rw [if_neg hlt])
      have d1 : ¬ (s.bs : Int) + 1 < (sz s.nx : Int) := by omega
      have hn : (one s c).nu < 256 ^ sz (one s c).nx := by
        have e : sz s.nx = s.bs + 1 := by have := HNum.out.b; omega
        show s.nu * 256 + c < 256 ^ sz s.nx
        rw [e, Nat.pow_succ]
        have := HNum.out.nu
        have := HN.out.2.2
        omega
      have HS := hid (settle_any h bp r (one s c) gv pv tv (one s c).nu W2 HQ2.out (HG.out.one c) hn)
      have k1 : W2.cell? ⟨r, 1, none⟩ = some (.int .i64 (one s c).nu) := HQ2.out.blk.cell 1
      clear hlt hn
      go_wp2_with fail
      refine HS.out.mono ?_
      rintro e w3 ⟨rfl, hR3, hB3⟩
      have HB3 := hid (HB2.out.trans hB3)
      obtain ⟨bp', gv', pv', tv', hR3⟩ := hR3
      have HR3 := hid hR3
      clear hR3 hB3 k1 d1 HS
      cases hf : fits (one s c) (one s c).nu with
      | false =>
        rw [hf] at HT
        simp only [Bool.false_eq_true, if_false]
        have hbd : ((bad (one s c)) != 0) = true := by unfold bad; split <;> rfl
        clear hf
        go_wp2_with fail
        go_ret
        unfold Took
        rw [HT.out]
        exact ⟨rfl, HB3.out⟩
      | true =>
        rw [hf] at HT
        simp only [if_true]
        have HA := hid (after_any h bp' r (put (one s c) (one s c).nu) gv' pv' tv' _ w3 HR3.out (by rw [after_put]; exact HG.out.n16))
        clear hf
        go_wp2_with fail
        refine HA.out.mono ?_
        rintro e w4 ⟨rfl, hb4⟩
        have HR4 := hid (HR3.out.below hb4)
        have HB4 := hid (HB3.out.trans (hb4.mono (by have := HR3.out.hb; omega)))
        have e0 : w4.cell? ⟨r, 0, none⟩ = some (.int .i64 (put (one s c) (one s c).nu).nx) := HR4.out.blk.cell 0
        have e1 : w4.cell? ⟨r, 1, none⟩ = some (.int .i64 (put (one s c) (one s c).nu).nu) := HR4.out.blk.cell 1
        have e2 : w4.cell? ⟨r, 2, none⟩ = some (.int .i64 (put (one s c) (one s c).nu).bs) := HR4.out.blk.cell 2
        have g0 := HR4.out.blk.froz 0
        have g1 := HR4.out.blk.froz 1
        have g2 := HR4.out.blk.froz 2
        have HR5 : Hid (Rd h bp' (((w4.setCell ⟨r, 0, none⟩ (.int .i64 (after (put (one s c) (one s c).nu)))).setCell ⟨r, 1, none⟩ (.int .i64 0)).setCell ⟨r, 2, none⟩ (.int .i64 0)) r (nxt (one s c)) gv' pv' tv' (9 ≤ (one s c).nx)) := hid
          (((HR4.out.cell { put (one s c) (one s c).nu with nx := after (put (one s c) (one s c).nu) } 0 (.int .i64 (after (put (one s c) (one s c).nu))) rfl rfl rfl rfl).cell { put (one s c) (one s c).nu with nx := after (put (one s c) (one s c).nu), nu := 0 } 1 (.int .i64 0) rfl rfl rfl rfl).cell (nxt (one s c)) 2 (.int .i64 0) rfl rfl rfl rfl)
        have HB5 : Hid (Below h W (((w4.setCell ⟨r, 0, none⟩ (.int .i64 (after (put (one s c) (one s c).nu)))).setCell ⟨r, 1, none⟩ (.int .i64 0)).setCell ⟨r, 2, none⟩ (.int .i64 0))) := hid (((HB4.out.setCell (p := ⟨r, 0, none⟩) HR4.out.rh _).setCell (p := ⟨r, 1, none⟩) HR4.out.rh _).setCell (p := ⟨r, 2, none⟩) HR4.out.rh _)
        clear hb4 HA
        go_wp2_with fail
        go_ret
        unfold Took
        rw [HT.out]
        refine ⟨⟨rfl, _, _, _, _, HR5.out.iff ?_⟩, HB5.out⟩
        show 9 ≤ (one s c).nx ↔ 10 ≤ after (put (one s c) (one s c).nu)
        rw [← after_put (one s c) (one s c).nu]
        exact ten_after (by rw [after_put]; exact HG.out.n16)
  · have e15 : ((s.nx : Int) != 15) = true := by simp; omega
    have HE : Hid (one s c = { s with nu := s.nu * 256 + c, bs := s.bs + 1, sm := wit s.sm c }) := hid (by unfold one; rw [if_neg h15])
    have HR2 : Hid (Rd h bp (((W.setCell ⟨r, 1, none⟩ (.int .i64 ((s.nu : Int) * 256 + (c : Int)))).setCell ⟨r, 2, none⟩ (.int .i64 ((s.bs : Int) + 1))).setCell ⟨r, 3, none⟩ (.int .u32 (wit s.sm c))) r { s with nu := s.nu * 256 + c, bs := s.bs + 1, sm := wit s.sm c } gv pv tv (10 ≤ s.nx)) := hid
      (HR1.out.cell { s with nu := s.nu * 256 + c, bs := s.bs + 1, sm := wit s.sm c } 3 (.int .u32 (wit s.sm c)) rfl rfl rfl rfl)
    have f3 := HR1.out.blk.froz 3
    have HW := hid (with_any s.sm c HG.out.sm HN.out.2.2)
    clear h15
    go_enter Try.func34, Try.ntmps34
    go_wp2_with (go_at_call 55; refine (HW.out _).mono ?_; rintro e w' ⟨rfl, rfl⟩)
    obtain ⟨W1, hW1⟩ : ∃ W1, ((W.setCell ⟨r, 1, none⟩ (.int .i64 ((s.nu : Int) * 256 + (c : Int)))).setCell ⟨r, 2, none⟩ (.int .i64 ((s.bs : Int) + 1))).setCell ⟨r, 3, none⟩ (.int .u32 (wit s.sm c)) = W1 := ⟨_, rfl⟩
    have HRX := hid HR2.out
    have HBX : Hid (Below h W (((W.setCell ⟨r, 1, none⟩ (.int .i64 ((s.nu : Int) * 256 + (c : Int)))).setCell ⟨r, 2, none⟩ (.int .i64 ((s.bs : Int) + 1))).setCell ⟨r, 3, none⟩ (.int .u32 (wit s.sm c)))) := hid (HB1.out.setCell (p := ⟨r, 3, none⟩) HR1.out.rh _)
    rw [hW1] at HRX HBX ⊢
    clear hW1 HR2
    have HQ1 : Hid (Rd h bp W1 r (one s c) gv pv tv (10 ≤ s.nx)) := hid (by rw [HE.out]; exact HRX.out)
    clear HE HRX HR1 HB1 c0 c1 c2 c3 f1 f2
    have x0 : ∀ d os, (behind W1 d os).cell? ⟨r, 0, none⟩ = some (.int .i64 s.nx) := fun d os => (HQ1.out.below (below_behind W1 d os)).blk.cell 0
    have x2 : ∀ d os, (behind W1 d os).cell? ⟨r, 2, none⟩ = some (.int .i64 ((s.bs : Int) + 1)) := fun d os => (HQ1.out.below (below_behind W1 d os)).blk.cell 2
    have HSZ : Hid (∀ X, Calls Try.prog 56 #[.int .i64 s.nx] X fun e w' => e = .returned (.int .i64 (sz s.nx)) ∧ Below X.heap.size X w') := hid fun X => (size_any s.nx HG.out.n16 X).mono fun e w' k => ⟨k.1, by rw [k.2]; exact Below.refl _ _⟩
    have mf : Try.prog.follows .mixedOrders = true := by kernel_rfl
    have HWY := hid (below_behind W1)
    have HZ : Hid (1 ≤ sz s.nx ∧ sz s.nx ≤ 4) := hid (sz_le s.nx HG.out.n16)
    refine wp_region_behind (by assumption) (by kernel_rfl) ?_
    repeat (go_big_quiet_step ((first | (go_at_call 56; refine Calls.behind_of (HSZ.out _)))))
    refine wpQuiet_nil ?_
    intro _ hw'
    obtain ⟨⟨dq, osq⟩, hw''⟩ := hw'
    subst hw''
    have HQ2 : Hid (Rd h bp (behind W1 dq osq) r (one s c) gv pv tv (10 ≤ s.nx)) := hid (HQ1.out.below (HWY.out _ _))
    have HB2 : Hid (Below h W (behind W1 dq osq)) := hid (HBX.out.trans ((HWY.out _ _).mono (by have := HQ1.out.hb; omega)))
    obtain ⟨W2, hW2⟩ : ∃ W2, behind W1 dq osq = W2 := ⟨_, rfl⟩
    rw [hW2] at HQ2 HB2
    simp only [hW2]
    clear hW2 x0 x2 HSZ HWY HQ1 HBX
    by_cases hlt : s.bs + 1 < sz s.nx
    · have HT : Hid (tk s c = some (one s c)) := hid (by unfold tk; rw [if_pos hlt])
      have d1 : (s.bs : Int) + 1 < (sz s.nx : Int) := by omega
      clear hlt
      go_wp2_with fail
      go_ret
      unfold Took
      rw [HT.out]
      exact ⟨⟨rfl, _, _, _, _, HQ2.out⟩, HB2.out⟩
    · have HT : Hid (tk s c = if fits (one s c) (one s c).nu = true then some (nxt (one s c)) else none) := hid (by unfold tk; rw [if_neg hlt])
      have d1 : ¬ (s.bs : Int) + 1 < (sz s.nx : Int) := by omega
      have hn : (one s c).nu < 256 ^ sz (one s c).nx := by
        have e : sz s.nx = s.bs + 1 := by have := HNum.out.b; omega
        show s.nu * 256 + c < 256 ^ sz s.nx
        rw [e, Nat.pow_succ]
        have := HNum.out.nu
        have := HN.out.2.2
        omega
      have HS := hid (settle_any h bp r (one s c) gv pv tv (one s c).nu W2 HQ2.out (HG.out.one c) hn)
      have k1 : W2.cell? ⟨r, 1, none⟩ = some (.int .i64 (one s c).nu) := HQ2.out.blk.cell 1
      clear hlt hn
      go_wp2_with fail
      refine HS.out.mono ?_
      rintro e w3 ⟨rfl, hR3, hB3⟩
      have HB3 := hid (HB2.out.trans hB3)
      obtain ⟨bp', gv', pv', tv', hR3⟩ := hR3
      have HR3 := hid hR3
      clear hR3 hB3 k1 d1 HS
      cases hf : fits (one s c) (one s c).nu with
      | false =>
        rw [hf] at HT
        simp only [Bool.false_eq_true, if_false]
        have hbd : ((bad (one s c)) != 0) = true := by unfold bad; split <;> rfl
        clear hf
        go_wp2_with fail
        go_ret
        unfold Took
        rw [HT.out]
        exact ⟨rfl, HB3.out⟩
      | true =>
        rw [hf] at HT
        simp only [if_true]
        have HA := hid (after_any h bp' r (put (one s c) (one s c).nu) gv' pv' tv' _ w3 HR3.out (by rw [after_put]; exact HG.out.n16))
        clear hf
        go_wp2_with fail
        refine HA.out.mono ?_
        rintro e w4 ⟨rfl, hb4⟩
        have HR4 := hid (HR3.out.below hb4)
        have HB4 := hid (HB3.out.trans (hb4.mono (by have := HR3.out.hb; omega)))
        have e0 : w4.cell? ⟨r, 0, none⟩ = some (.int .i64 (put (one s c) (one s c).nu).nx) := HR4.out.blk.cell 0
        have e1 : w4.cell? ⟨r, 1, none⟩ = some (.int .i64 (put (one s c) (one s c).nu).nu) := HR4.out.blk.cell 1
        have e2 : w4.cell? ⟨r, 2, none⟩ = some (.int .i64 (put (one s c) (one s c).nu).bs) := HR4.out.blk.cell 2
        have g0 := HR4.out.blk.froz 0
        have g1 := HR4.out.blk.froz 1
        have g2 := HR4.out.blk.froz 2
        have HR5 : Hid (Rd h bp' (((w4.setCell ⟨r, 0, none⟩ (.int .i64 (after (put (one s c) (one s c).nu)))).setCell ⟨r, 1, none⟩ (.int .i64 0)).setCell ⟨r, 2, none⟩ (.int .i64 0)) r (nxt (one s c)) gv' pv' tv' (9 ≤ (one s c).nx)) := hid
          (((HR4.out.cell { put (one s c) (one s c).nu with nx := after (put (one s c) (one s c).nu) } 0 (.int .i64 (after (put (one s c) (one s c).nu))) rfl rfl rfl rfl).cell { put (one s c) (one s c).nu with nx := after (put (one s c) (one s c).nu), nu := 0 } 1 (.int .i64 0) rfl rfl rfl rfl).cell (nxt (one s c)) 2 (.int .i64 0) rfl rfl rfl rfl)
        have HB5 : Hid (Below h W (((w4.setCell ⟨r, 0, none⟩ (.int .i64 (after (put (one s c) (one s c).nu)))).setCell ⟨r, 1, none⟩ (.int .i64 0)).setCell ⟨r, 2, none⟩ (.int .i64 0))) := hid (((HB4.out.setCell (p := ⟨r, 0, none⟩) HR4.out.rh _).setCell (p := ⟨r, 1, none⟩) HR4.out.rh _).setCell (p := ⟨r, 2, none⟩) HR4.out.rh _)
        clear hb4 HA
        go_wp2_with fail
        go_ret
        unfold Took
        rw [HT.out]
        refine ⟨⟨rfl, _, _, _, _, HR5.out.iff ?_⟩, HB5.out⟩
        show 9 ≤ (one s c).nx ↔ 10 ≤ after (put (one s c) (one s c).nu)
        rw [← after_put (one s c) (one s c).nu]
        exact ten_after (by rw [after_put]; exact HG.out.n16)
end Go.Proofs.Ytdinlaoimpoolaa
