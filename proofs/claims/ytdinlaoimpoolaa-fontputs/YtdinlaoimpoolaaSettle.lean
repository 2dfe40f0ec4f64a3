/- What stands behind a part; a number settled. -/
import Derived.Test.YtdinlaoimpoolaaSetP
namespace Go.Proofs.Ytdinlaoimpoolaa
open Go.RowKit

set_option maxRecDepth 100000 in
set_option maxHeartbeats 4000000 in
theorem after_any (h bp r : Nat) (s : St) (gv pv tv : Value) (T : Prop) (W : World) (R : Rd h bp W r s gv pv tv T) (hx : s.nx ≤ 16) :
    Calls Try.prog 58 #[.pointer (some ⟨r, 0, none⟩)] W fun e w' => e = .returned (.int .i64 (after s)) ∧ Below W.heap.size W w' := by
  obtain ⟨ag, ca, hgv, _, _⟩ := row_reads R.gr
  obtain ⟨ap, cb, hpv, _, _⟩ := row_reads R.pr
  have c0 : W.cell? ⟨r, 0, none⟩ = some (.int .i64 s.nx) := R.blk.cell 0
  have c5 : W.cell? ⟨r, 5, none⟩ = some gv := R.blk.cell 5
  have c6 : W.cell? ⟨r, 6, none⟩ = some pv := R.blk.cell 6
  have c7 : W.cell? ⟨r, 7, none⟩ = some (.int .i64 s.ng) := R.blk.cell 7
  have c8 : W.cell? ⟨r, 8, none⟩ = some (.int .i64 s.np) := R.blk.cell 8
  have c15 : W.cell? ⟨r, 15, none⟩ = some (.bool s.p.2.2.1) := R.blk.cell 15
  rw [hgv] at c5
  rw [hpv] at c6
  have HE : Hid (after s = after s) := hid rfl
  obtain ⟨q, hq⟩ : ∃ q, after s = q := ⟨_, rfl⟩
  rw [hq] at HE ⊢
  have HQ : Hid (after s = q) := hid hq
  clear R HE hq hgv hpv
  by_cases h48 : s.nx = 4 ∨ s.nx = 8
  · by_cases hl : s.gs.length < s.ng
    · have e : q = 5 := by rw [← HQ.out]; unfold after; rcases h48 with e | e <;> rw [e] <;> simp [hl]
      have hl' : (s.gs.length : Int) < (s.ng : Int) := by omega
      subst e
      clear hl
      rcases h48 with e | e
      all_goals
        rw [e] at c0
        clear e HQ
        go_enter Try.func58, Try.ntmps58
        go_wp2_with fail
        go_region
        go_wp2_with fail
        go_ret
        exact ⟨rfl, (Below.refl _ _).drew⟩
    · have e : q = 9 := by rw [← HQ.out]; unfold after; rcases h48 with e | e <;> rw [e] <;> simp [hl]
      have hl' : ¬ (s.gs.length : Int) < (s.ng : Int) := by omega
      subst e
      clear hl
      rcases h48 with e | e
      all_goals
        rw [e] at c0
        clear e HQ
        go_enter Try.func58, Try.ntmps58
        go_wp2_with fail
        go_region
        go_wp2_with fail
        go_ret
        exact ⟨rfl, (Below.refl _ _).drew⟩
  · by_cases h9 : s.nx = 9 ∨ s.nx = 13 ∨ s.nx = 14
    · by_cases hl : s.ps.length < s.np
      · have e : q = 10 := by rw [← HQ.out]; unfold after; rcases h9 with e | e | e <;> rw [e] <;> simp [hl]
        have hl' : (s.ps.length : Int) < (s.np : Int) := by omega
        subst e
        clear hl h48
        rcases h9 with e | e | e
        all_goals
          rw [e] at c0
          clear e HQ
          go_enter Try.func58, Try.ntmps58
          go_wp2_with fail
          go_region
          go_wp2_with fail
          go_ret
          exact ⟨rfl, (Below.refl _ _).drew⟩
      · have e : q = 15 := by rw [← HQ.out]; unfold after; rcases h9 with e | e | e <;> rw [e] <;> simp [hl]
        have hl' : ¬ (s.ps.length : Int) < (s.np : Int) := by omega
        subst e
        clear hl h48
        rcases h9 with e | e | e
        all_goals
          rw [e] at c0
          clear e HQ
          go_enter Try.func58, Try.ntmps58
          go_wp2_with fail
          go_region
          go_wp2_with fail
          go_ret
          exact ⟨rfl, (Below.refl _ _).drew⟩
    · by_cases h12 : s.nx = 12
      · have e : q = if s.p.2.2.1 = true then 13 else 14 := by rw [← HQ.out]; unfold after; rw [h12]; rfl
        rw [h12] at c0
        clear h48 h9 h12 HQ
        obtain ⟨i, hi⟩ : ∃ i, s.p.2.2.1 = i := ⟨_, rfl⟩
        rw [hi] at e c15
        clear hi
        cases i
        all_goals
          simp only [if_true, if_false, Bool.false_eq_true] at e
          subst e
          go_enter Try.func58, Try.ntmps58
          go_wp2_with fail
          go_ret
          exact ⟨rfl, Below.refl _ _⟩
      · have e : q = s.nx + 1 := by
          rw [← HQ.out]
          have : s.nx = 0 ∨ s.nx = 1 ∨ s.nx = 2 ∨ s.nx = 3 ∨ s.nx = 5 ∨ s.nx = 6 ∨ s.nx = 7 ∨ s.nx = 10 ∨ s.nx = 11 ∨ s.nx = 15 ∨ s.nx = 16 := by omega
          unfold after
          rcases this with e | e | e | e | e | e | e | e | e | e | e <;> rw [e] <;> rfl
        subst e
        have n4 : ((s.nx : Int) == 4) = false := by simp; omega
        have n8 : ((s.nx : Int) == 8) = false := by simp; omega
        have n9 : ((s.nx : Int) == 9) = false := by simp; omega
        have n12 : ((s.nx : Int) == 12) = false := by simp; omega
        have n13 : ((s.nx : Int) == 13) = false := by simp; omega
        have n14 : ((s.nx : Int) == 14) = false := by simp; omega
        have hx' : (s.nx : Int) ≤ 16 := by omega
        clear h48 h9 h12 HQ
        go_enter Try.func58, Try.ntmps58
        go_wp2_with fail
        go_ret
        exact ⟨by simp, Below.refl _ _⟩
theorem Rd.iff {h bp r : Nat} {W : World} {s : St} {gv pv tv : Value} {T T' : Prop} (R : Rd h bp W r s gv pv tv T) (e : T ↔ T') : Rd h bp W r s gv pv tv T' := by
  rw [propext e] at R; exact R
/-- a cell turns while there is no table -/
theorem Rd.cellE {h bp r : Nat} {W : World} {s : St} {gv pv tv : Value} (R : Rd h bp W r s gv pv tv False) (s' : St) (i : Nat) (v : Value) (hx : (rcells s gv pv tv).set i v = rcells s' gv pv tv) (hg : s'.gs = s.gs) (hp : s'.ps = s.ps) : Rd h bp (W.setCell ⟨r, i, none⟩ v) r s' gv pv tv False := by
  have k : Only [r] W (W.setCell ⟨r, i, none⟩ v) := (Only.refl [r] W).set (p := ⟨r, i, none⟩) (.inl (by simp)) _
  exact ⟨by rw [← hx]; exact R.blk.set i v, R.rh, ⟨R.hb.1, by have := R.hb.2; have := k.size; omega⟩, by rw [hg]; exact row_only R.gr k (blk_not_row R.blk R.gr (by decide)), by rw [hp]; exact row_only R.pr k (blk_not_row R.blk R.pr (by decide)), R.pn, fun t => t.elim⟩

/-- what settle leaves -/
def Settled (h r : Nat) (s : St) (n : Nat) (W : World) (e : Ending) (w' : World) : Prop :=
  e = .returned (.int .i64 (if fits s n = true then 0 else bad s)) ∧ (∃ bp gv pv tv, Rd h bp w' r (put s n) gv pv tv (9 ≤ s.nx)) ∧ Below h W w'
theorem ret_int {v q : Int} (h : q = v) : Ending.returned (.int .i64 v) = .returned (.int .i64 q) := by rw [h]
/-- the answer of settle -/
def ansr (s : St) (n : Nat) : Int := if fits s n = true then 0 else bad s
set_option maxRecDepth 100000 in
set_option maxHeartbeats 4000000 in
theorem settle0 (h bp r : Nat) (s : St) (gv pv tv : Value) (n : Nat) (W : World) (R : Rd h bp W r s gv pv tv (10 ≤ s.nx)) (hx : s.nx = 0) :
    Calls Try.prog 57 #[.pointer (some ⟨r, 0, none⟩), .int .i64 n] W (Settled h r s n W) := by
  have HP : Hid (put s n = s) := hid (by simp only [put, hx])
  have HR : Hid (Rd h bp W r s gv pv tv (9 ≤ s.nx)) := hid (R.iff (by omega))
  have c0 : W.cell? ⟨r, 0, none⟩ = some (.int .i64 s.nx) := R.blk.cell 0
  rw [hx] at c0
  have hb : ((⟨#[80, 70, 49]⟩ : ByteArray)[0]'(by decide)).toNat = 80 := by rfl
  unfold Settled
  rw [HP.out]
  obtain ⟨q, hq⟩ : ∃ q, (if fits s n = true then (0 : Int) else bad s) = q := ⟨_, rfl⟩
  rw [hq]
  by_cases h1 : n = 80
  · have HQ : Hid (q = 0) := hid (by rw [← hq]; simp [fits, hx, h1])
    subst h1
    clear R HP hq hx
    go_enter Try.func57, Try.ntmps57
    go_wp2_with fail
    go_ret
    exact ⟨ret_int HQ.out, ⟨_, _, _, _, HR.out⟩, Below.refl _ _⟩
  · have HQ : Hid (q = 60) := hid (by rw [← hq]; simp [fits, hx, h1, bad])
    have h2 : ((n : Int) == 80) = false := by simp; omega
    clear R HP hq hx h1
    go_enter Try.func57, Try.ntmps57
    go_wp2_with fail
    go_ret
    exact ⟨ret_int HQ.out, ⟨_, _, _, _, HR.out⟩, Below.refl _ _⟩
set_option maxRecDepth 100000 in
set_option maxHeartbeats 4000000 in
theorem settle1 (h bp r : Nat) (s : St) (gv pv tv : Value) (n : Nat) (W : World) (R : Rd h bp W r s gv pv tv (10 ≤ s.nx)) (hx : s.nx = 1) :
    Calls Try.prog 57 #[.pointer (some ⟨r, 0, none⟩), .int .i64 n] W (Settled h r s n W) := by
  have HP : Hid (put s n = s) := hid (by simp only [put, hx])
  have HR : Hid (Rd h bp W r s gv pv tv (9 ≤ s.nx)) := hid (R.iff (by omega))
  have c0 : W.cell? ⟨r, 0, none⟩ = some (.int .i64 s.nx) := R.blk.cell 0
  rw [hx] at c0
  have hb : ((⟨#[80, 70, 49]⟩ : ByteArray)[1]'(by decide)).toNat = 70 := by rfl
  unfold Settled
  rw [HP.out]
  obtain ⟨q, hq⟩ : ∃ q, (if fits s n = true then (0 : Int) else bad s) = q := ⟨_, rfl⟩
  rw [hq]
  by_cases h1 : n = 70
  · have HQ : Hid (q = 0) := hid (by rw [← hq]; simp [fits, hx, h1])
    subst h1
    clear R HP hq hx
    go_enter Try.func57, Try.ntmps57
    go_wp2_with fail
    go_ret
    exact ⟨ret_int HQ.out, ⟨_, _, _, _, HR.out⟩, Below.refl _ _⟩
  · have HQ : Hid (q = 60) := hid (by rw [← hq]; simp [fits, hx, h1, bad])
    have h2 : ((n : Int) == 70) = false := by simp; omega
    clear R HP hq hx h1
    go_enter Try.func57, Try.ntmps57
    go_wp2_with fail
    go_ret
    exact ⟨ret_int HQ.out, ⟨_, _, _, _, HR.out⟩, Below.refl _ _⟩
set_option maxRecDepth 100000 in
set_option maxHeartbeats 4000000 in
theorem settle2 (h bp r : Nat) (s : St) (gv pv tv : Value) (n : Nat) (W : World) (R : Rd h bp W r s gv pv tv (10 ≤ s.nx)) (hx : s.nx = 2) :
    Calls Try.prog 57 #[.pointer (some ⟨r, 0, none⟩), .int .i64 n] W (Settled h r s n W) := by
  have HP : Hid (put s n = s) := hid (by simp only [put, hx])
  have HR : Hid (Rd h bp W r s gv pv tv (9 ≤ s.nx)) := hid (R.iff (by omega))
  have c0 : W.cell? ⟨r, 0, none⟩ = some (.int .i64 s.nx) := R.blk.cell 0
  rw [hx] at c0
  have hb : ((⟨#[80, 70, 49]⟩ : ByteArray)[2]'(by decide)).toNat = 49 := by rfl
  unfold Settled
  rw [HP.out]
  obtain ⟨q, hq⟩ : ∃ q, (if fits s n = true then (0 : Int) else bad s) = q := ⟨_, rfl⟩
  rw [hq]
  by_cases h1 : n = 49
  · have HQ : Hid (q = 0) := hid (by rw [← hq]; simp [fits, hx, h1])
    subst h1
    clear R HP hq hx
    go_enter Try.func57, Try.ntmps57
    go_wp2_with fail
    go_ret
    exact ⟨ret_int HQ.out, ⟨_, _, _, _, HR.out⟩, Below.refl _ _⟩
  · have HQ : Hid (q = 60) := hid (by rw [← hq]; simp [fits, hx, h1, bad])
    have h2 : ((n : Int) == 49) = false := by simp; omega
    clear R HP hq hx h1
    go_enter Try.func57, Try.ntmps57
    go_wp2_with fail
    go_ret
    exact ⟨ret_int HQ.out, ⟨_, _, _, _, HR.out⟩, Below.refl _ _⟩
end Go.Proofs.Ytdinlaoimpoolaa
