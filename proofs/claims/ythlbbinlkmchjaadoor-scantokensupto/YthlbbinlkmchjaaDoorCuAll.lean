/- The cutter in memory; its smallest calls: ahead, step, refused, wrong, letter, digit. -/
import Derived.Test.YthlbbinlkmchjaaDoorPay
import Derived.Test.YthlbbinlkmchjaaDoorSmall
namespace Go.Proofs.YthlbbinlkmchjaaDoor
open Go.RowKit

def ccells (mb : Nat) (s : ByteArray) (p : Nat) (v : Value) (F : Int × Int) : List Value := [.pointer (some ⟨mb, 0, none⟩), .string s, .int .i64 p, v, .int .i64 F.1, .int .i64 F.2]
/-- a cutter that may go on, at place p -/
structure Cu (w : World) (cb mb : Nat) (s : ByteArray) (p : Nat) (v : Value) (m : M) : Prop where
  c : Blk w cb (ccells mb s p v (0, 0)) 64
  mt : Blk w mb m.cells 68
  ne : cb ≠ mb
  ok : m.Ok
  why : m.why = 0
  le : p ≤ s.size
  sz : s.size ≤ 4294967296
/-- one whose fault was told -/
structure Cx (w : World) (cb mb : Nat) (s : ByteArray) (m : M) (F : Int × Int) : Prop where
  c : ∃ p v, Blk w cb (ccells mb s p v F) 64
  mt : Blk w mb m.cells 68
  ok : m.Ok
/-- what follows in the text -/
def rest (s : ByteArray) (p : Nat) : List Nat := (bl s).drop p
theorem rest_length (s : ByteArray) (p : Nat) : (rest s p).length = s.size - p := by rw [rest, List.length_drop, bl_length]
theorem rest_drop (s : ByteArray) (p n : Nat) : (rest s p).drop n = rest s (p + n) := by rw [rest, rest, List.drop_drop]
theorem rest_head (s : ByteArray) (p : Nat) : (rest s p).head? = (bl s)[p]? := by rw [rest, List.head?_drop]
def aheadI : Option Nat → Int
  | none => -1
  | some b => b
/-- the post of what answers whether it may go on -/
def PB (w' : World) (cb mb : Nat) (s : ByteArray) (v : Value) (o : O Unit) (e : Ending) : Prop := match o.2 with
  | .ok x => e = .returned (.bool true) ∧ Cu w' cb mb s x.2 v o.1
  | .error F => e = .returned (.bool false) ∧ Cx w' cb mb s o.1 F
def PV {α : Type} (ev : α → Nat → Value → Prop) (ez : Value → Prop) (w' : World) (cb mb : Nat) (s : ByteArray) (v : Value) (o : O α) (e : Ending) : Prop := match o.2 with
  | .ok x => (∃ z, e = .returned (.tuple #[z, .bool true]) ∧ ev x.1 x.2 z) ∧ Cu w' cb mb s x.2 v o.1
  | .error F => (∃ z, e = .returned (.tuple #[z, .bool false]) ∧ ez z) ∧ Cx w' cb mb s o.1 F
theorem byte_rest (s : ByteArray) (p : Nat) (h : p < s.size) : (rest s p).head? = some (s[p]'h).toNat := by
  rw [rest_head, bl_at s p h, List.getD_eq_getElem?_getD, List.getElem?_eq_getElem (by rw [bl_length]; exact h)]
  rfl

theorem Cu.drewN {w : World} {cb mb : Nat} {s : ByteArray} {p : Nat} {v : Value} {m : M} (h : Cu w cb mb s p v m) (n : Nat) : Cu (w.drewN n) cb mb s p v m :=
  ⟨h.c.drewN n, h.mt.drewN n, h.ne, h.ok, h.why, h.le, h.sz⟩
theorem Cu.only {w w' : World} {cb mb : Nat} {s : ByteArray} {p : Nat} {v : Value} {m : M} (h : Cu w cb mb s p v m) (k : Only [] w w') : Cu w' cb mb s p v m :=
  ⟨k.blk h.c (by simp), k.blk h.mt (by simp), h.ne, h.ok, h.why, h.le, h.sz⟩
theorem Cu.alloc {w : World} {cb mb : Nat} {s : ByteArray} {p : Nat} {v : Value} {m : M} (h : Cu w cb mb s p v m) (o : Obj) : Cu (w.alloc o) cb mb s p v m :=
  ⟨h.c.alloc o, h.mt.alloc o, h.ne, h.ok, h.why, h.le, h.sz⟩
theorem drewN_two (w : World) (a b : Nat) : (w.drewN a).drewN b = w.drewN (a + b) := by
  induction b with
  | zero => rfl
  | succ b ih => show ((w.drewN a).drewN b).drew = (w.drewN (a + b)).drew; rw [ih]
theorem only_drewN (w : World) (n : Nat) : Only [] w (w.drewN n) := (Only.refl _ _).drewN n

set_option maxHeartbeats 1000000 in
theorem ahead_any {w : World} {cb mb : Nat} {s : ByteArray} {p : Nat} {v : Value} {m : M} (h : Cu w cb mb s p v m) :
    Calls Tryd.prog 60 #[.pointer (some ⟨cb, 0, none⟩)] w fun e w' => e = .returned (.int .i64 (aheadI (rest s p).head?)) ∧ ∃ n, w' = w.drewN n := by
  have c1 : w.cell? ⟨cb, 1, none⟩ = some (.string s) := h.c.cell 1
  have c2 : w.cell? ⟨cb, 2, none⟩ = some (.int .i64 p) := h.c.cell 2
  have hsz := h.sz
  have hle := h.le
  clear h
  by_cases hp : p < s.size
  · have hb := byte_rest s p hp
    have hu := (s[p]'hp).toNat_lt
    have HB : Hid (aheadI (rest s p).head? = ((s[p]'hp).toNat : Int)) := by rw [hb]; rfl
    have h1 : ¬ (p : Int) = (s.size : Int) := by omega
    obtain ⟨x, hx⟩ : ∃ x, s[p]'hp = x := ⟨_, rfl⟩
    rw [hx] at HB hu
    clear hb
    go_enter Tryd.func60, Tryd.ntmps60
    go_wp2
    go_quiet (fail)
    go_wp2
    go_quiet (fail)
    go_wp2
    go_ret
    refine ⟨ret_int ?_, _, drewN_two _ _ _⟩
    exact HB.out.symm
  · have hb : (rest s p).head? = none := by rw [rest_head, List.getElem?_eq_none (by rw [bl_length]; omega)]
    have HB : Hid (aheadI (rest s p).head? = -1) := by rw [hb]; rfl
    have h1 : p = s.size := by omega
    subst h1
    clear hb
    go_enter Tryd.func60, Tryd.ntmps60
    go_wp2
    go_quiet (fail)
    go_wp2
    go_ret
    exact ⟨ret_int HB.out.symm, _, rfl⟩
theorem letter_any (b : Int) (w : World) : Calls Tryd.prog 85 #[.int .i64 b] w fun e w' => e = .returned (.bool (decide ((97 ≤ b ∧ b ≤ 122) ∨ (65 ≤ b ∧ b ≤ 90)))) ∧ w' = w := by
  rcases (by omega : b < 65 ∨ (65 ≤ b ∧ b ≤ 90) ∨ (90 < b ∧ b < 97) ∨ (97 ≤ b ∧ b ≤ 122) ∨ 122 < b) with h | ⟨h, h'⟩ | ⟨h, h'⟩ | ⟨h, h'⟩ | h
  all_goals
    go_enter Tryd.func85, Tryd.ntmps85
    go_wp2
  all_goals first | (exfalso; omega) | skip
  all_goals
    go_ret
    exact ⟨ret_bool (by first | (simp; done) | (simp; omega) | (rw [Bool.eq_iff_iff]; simp; omega)), rfl⟩
def digI (b : Int) : Int := if 48 ≤ b ∧ b ≤ 57 then b - 48 else if 97 ≤ b ∧ b ≤ 102 then b - 87 else if 65 ≤ b ∧ b ≤ 70 then b - 55 else -1
theorem digit_any (b : Int) (w : World) (h0 : -1 ≤ b) (h1 : b ≤ 255) : Calls Tryd.prog 111 #[.int .i64 b] w fun e w' => e = .returned (.int .i64 (digI b)) ∧ w' = w := by
  rcases (by omega : b < 48 ∨ (48 ≤ b ∧ b ≤ 57) ∨ (57 < b ∧ b < 65) ∨ (65 ≤ b ∧ b ≤ 70) ∨ (70 < b ∧ b < 97) ∨ (97 ≤ b ∧ b ≤ 102) ∨ 102 < b) with h | ⟨h, h'⟩ | ⟨h, h'⟩ | ⟨h, h'⟩ | ⟨h, h'⟩ | ⟨h, h'⟩ | h
  all_goals
    go_enter Tryd.func111, Tryd.ntmps111
    go_wp2
  all_goals first | (exfalso; omega) | skip
  all_goals
    go_ret
    refine ⟨ret_int ?_, rfl⟩
    unfold digI
    repeat' split
  all_goals omega
end Go.Proofs.YthlbbinlkmchjaaDoor
namespace Go.Proofs.YthlbbinlkmchjaaDoor
open Go.RowKit

theorem Only.inl {a b : Nat} {w w' : World} (h : Only [a] w w') : Only [a, b] w w' := h.mono fun _ _ h => by simp at h ⊢; exact .inl h
theorem Only.inr {a b : Nat} {w w' : World} (h : Only [b] w w') : Only [a, b] w w' := h.mono fun _ _ h => by simp at h ⊢; exact .inr h
theorem hid {p : Prop} (h : p) : Hid p := h
theorem skip_rest {s : ByteArray} {p : Nat} (h : p < s.size) : skip (rest s p) = .ok ((), 1) := by
  have := byte_rest s p h
  unfold skip byteP
  rcases hl : rest s p with _ | ⟨b, l⟩
  · rw [hl] at this; cases this
  · rfl
set_option maxHeartbeats 1000000 in
theorem refused_c {w : World} {cb mb : Nat} {s : ByteArray} {p : Nat} {v : Value} {m : M} {F : Int × Int} (hc : Blk w cb (ccells mb s p v F) 64) (hm : Blk w mb m.cells 68) (hne : cb ≠ mb) (hok : m.Ok) :
    Calls Tryd.prog 95 #[.pointer (some ⟨cb, 0, none⟩)] w fun e w' => e = .returned (.bool false) ∧ Cx w' cb mb s m (m.why, 0) ∧ Only [cb] w w' := by
  have c0 : w.cell? ⟨cb, 0, none⟩ = some (.pointer (some ⟨mb, 0, none⟩)) := hc.cell 0
  have c4 : w.cell? ⟨cb, 4, none⟩ = some (.int .i64 F.1) := hc.cell 4
  have c5 : w.cell? ⟨cb, 5, none⟩ = some (.int .i64 F.2) := hc.cell 5
  have f4 := hc.froz 4
  have f5 := hc.froz 5
  have HR := hid (fun W (h : Blk W mb m.cells 68) => refused_any m mb W h)
  have HC := hid hc
  have HM := hid hm
  have HN := hid hne
  clear hc hm hne
  go_enter Tryd.func95, Tryd.ntmps95
  go_wp2_with (go_at_call 37; refine (HR.out _ HM.out).mono ?_; rintro e w' ⟨rfl, rfl⟩)
  go_ret
  refine ⟨rfl, ⟨⟨p, v, ?_⟩, ?_, hok⟩, ?_⟩
  · exact (HC.out.set 4 _).set 5 _
  · exact (HM.out.other _ _ (fun e => HN.out e.symm)).other _ _ (fun e => HN.out e.symm)
  · exact ((Only.refl _ _).set (by simp) _).set (by simp) _

set_option maxHeartbeats 1000000 in
theorem step_c {w : World} {cb mb : Nat} {s : ByteArray} {p : Nat} {v : Value} {m : M} (h : Cu w cb mb s p v m) (hp : p < s.size) :
    Calls Tryd.prog 80 #[.pointer (some ⟨cb, 0, none⟩)] w fun e w' => PB w' cb mb s v (fin m p (s.size - p) (skip (rest s p))) e ∧ Only [cb, mb] w w' := by
  obtain ⟨hc, hm, hne, hok, hw, hle, hsz⟩ := h
  rw [skip_rest hp]
  have HST := hid (fun W (h : Blk W mb m.cells 68) => step_any m hok mb 1 W h)
  have HM := hid hm
  have HN := hid hne
  have HC := hid hc
  have c0 : w.cell? ⟨cb, 0, none⟩ = some (.pointer (some ⟨mb, 0, none⟩)) := hc.cell 0
  rcases hs : m.stepOk 1 with _ | _
  · obtain ⟨e1, _⟩ := M.step_bad hw (by decide) hs
    have ef : fin m p (s.size - p) (.ok ((), 1) : R Unit) = (m.step 1, .error (20, 0)) := fin_no hs
    rw [ef]
    rw [hs] at HST
    have hwhy : (m.step 1).why = 20 := by rw [e1]
    have HF := hid (fun W hc hm => refused_c (w := W) (cb := cb) (mb := mb) (s := s) (p := p) (v := v) (m := m.step 1) (F := (0, 0)) hc hm hne (M.step_ok hok 1))
    have HWH := hid hwhy
    clear hc hm hne hs e1 hwhy
    go_enter Tryd.func80, Tryd.ntmps80
    go_wp2_with fail
    refine (HST.out _ HM.out).mono ?_
    rintro e w1 ⟨rfl, hm1, ho1⟩
    have hc1 := ho1.blk HC.out (by simpa using HN.out)
    go_wp2_with fail
    refine (HF.out _ hc1 hm1).mono ?_
    rintro e w2 ⟨rfl, hx2, ho2⟩
    go_wp2
    go_ret
    rw [HWH.out] at hx2
    exact ⟨⟨rfl, hx2⟩, ho1.inr.trans ho2.inl⟩
  · obtain ⟨e1, _⟩ := M.step_good hw (by decide) hs
    have ef : fin m p (s.size - p) (.ok ((), 1) : R Unit) = (m.step 1, .ok ((), p + 1)) := fin_yes hs
    rw [ef]
    rw [hs] at HST
    have hwhy : (m.step 1).why = 0 := by rw [e1]; exact hw
    have HWH := hid hwhy
    have HOK := hid (M.step_ok hok 1)
    clear hc hm hne hs e1 hwhy
    go_enter Tryd.func80, Tryd.ntmps80
    go_wp2_with fail
    refine (HST.out _ HM.out).mono ?_
    rintro e w1 ⟨rfl, hm1, ho1⟩
    have hc1 := ho1.blk HC.out (by simpa using HN.out)
    have c2 : w1.cell? ⟨cb, 2, none⟩ = some (.int .i64 p) := hc1.cell 2
    have f2 := hc1.froz 2
    go_wp2
    go_ret
    refine ⟨⟨rfl, ⟨?_, hm1.other _ _ (fun e => HN.out e.symm), HN.out, HOK.out, HWH.out, by simp only; omega, hsz⟩⟩, ho1.inr.trans ((Only.refl _ _).set (by simp) _)⟩
    have := hc1.set 2 (.int .i64 ((p : Int) + 1))
    exact this
theorem skip_end {s : ByteArray} {p : Nat} (h : ¬ p < s.size) : rest s p = [] := List.eq_nil_of_length_eq_zero (by rw [rest_length]; omega)
theorem Cu.nil_or {w : World} {cb mb : Nat} {s : ByteArray} {p : Nat} {v : Value} {m : M} (h : Cu w cb mb s p v m) : (p < s.size ∧ ∃ b : Nat, b < 256 ∧ (rest s p).head? = some b ∧ ∃ l, rest s p = b :: l) ∨ (p = s.size ∧ rest s p = []) := by
  have := h.le
  by_cases hp : p < s.size
  · refine .inl ⟨hp, (s[p]'hp).toNat, (s[p]'hp).toNat_lt, byte_rest s p hp, ?_⟩
    have := byte_rest s p hp
    rcases hl : rest s p with _ | ⟨b, l⟩
    · rw [hl] at this; cases this
    · rw [hl] at this; simp at this; subst this; exact ⟨l, rfl⟩
  · exact .inr ⟨by omega, skip_end hp⟩

set_option maxHeartbeats 1000000 in
/-- what stands next can't stand -/
theorem wrong_c {w : World} {cb mb : Nat} {s : ByteArray} {p : Nat} {v : Value} {m : M} (h : Cu w cb mb s p v m) (k : Nat) :
    Calls Tryd.prog 84 #[.pointer (some ⟨cb, 0, none⟩), .int .i64 k] w fun e w' => PB w' cb mb s v (fin m p (s.size - p) (fails k (rest s p))) e ∧ Only [cb, mb] w w' := by
  have HU := hid h
  have HA := hid (fun W (h : Cu W cb mb s p v m) => ahead_any h)
  have HN := hid h.ne
  have c2 : w.cell? ⟨cb, 2, none⟩ = some (.int .i64 p) := h.c.cell 2
  rcases h.nil_or with ⟨hp, b, hb, hh, -⟩ | ⟨hp, hh⟩
  · have HS := hid (fun W (h : Cu W cb mb s p v m) => step_c h hp)
    have hne : ((aheadI (some b)) == -1) = false := by simp [aheadI]
    have hne2 : ¬ (aheadI (some b)) = -1 := by simp [aheadI]
    rw [hh] at HA
    obtain ⟨x, hx⟩ : ∃ x, aheadI (some b) = x := ⟨_, rfl⟩
    rw [hx] at HA hne hne2
    have hw := h.why
    have hok := h.ok
    rw [skip_rest hp] at HS
    have hu : used (s.size - p) (fails k (rest s p) : R Unit) = 1 := by unfold used fails; simp only; rw [if_pos (by omega)]
    clear h hh hx hb
    rcases hs : m.stepOk 1 with _ | _
    · have ef : fin m p (s.size - p) (.ok ((), 1) : R Unit) = (m.step 1, .error (20, 0)) := fin_no hs
      have eg : fin m p (s.size - p) (fails k (rest s p) : R Unit) = (m.step 1, .error (20, 0)) := fin_ref hu hs
      rw [eg]
      rw [ef] at HS
      clear ef eg hu
      go_enter Tryd.func84, Tryd.ntmps84
      go_wp2_with fail
      refine (HA.out _ HU.out).mono ?_
      rintro e w1 ⟨rfl, n, rfl⟩
      go_wp2_with fail
      refine (HS.out _ (HU.out.drewN n)).mono ?_
      rintro e w2 ⟨⟨rfl, hx2⟩, ho2⟩
      go_wp2
      go_ret
      exact ⟨⟨rfl, hx2⟩, (Only.behind (only_drewN w n) ho2)⟩
    · have ef : fin m p (s.size - p) (.ok ((), 1) : R Unit) = (m.step 1, .ok ((), p + 1)) := fin_yes hs
      have eg : fin m p (s.size - p) (fails k (rest s p) : R Unit) = (m.step 1, .error (k, p)) := fin_told hu hs
      rw [eg]
      rw [ef] at HS
      clear ef eg hu
      go_enter Tryd.func84, Tryd.ntmps84
      go_wp2_with fail
      refine (HA.out _ HU.out).mono ?_
      rintro e w1 ⟨rfl, n, rfl⟩
      go_wp2_with fail
      refine (HS.out _ (HU.out.drewN n)).mono ?_
      rintro e w2 ⟨⟨rfl, hx2⟩, ho2⟩
      have HX := hid hx2
      have c4 : w2.cell? ⟨cb, 4, none⟩ = some (.int .i64 0) := hx2.c.cell 4
      have c5 : w2.cell? ⟨cb, 5, none⟩ = some (.int .i64 0) := hx2.c.cell 5
      have f4 := hx2.c.froz 4
      have f5 := hx2.c.froz 5
      clear hx2
      go_wp2
      go_ret
      refine ⟨⟨rfl, ⟨⟨p + 1, v, ?_⟩, (HX.out.mt.other _ _ (fun e => HN.out e.symm)).other _ _ (fun e => HN.out e.symm), HX.out.ok⟩⟩, (Only.behind (only_drewN w n) ho2).trans (((Only.refl _ _).set (by simp) _).set (by simp) _)⟩
      exact (HX.out.c.set 4 _).set 5 _
  · have hne : ((aheadI (none)) == -1) = true := rfl
    rw [hh, List.head?_nil] at HA
    have hw := h.why
    have hok := h.ok
    have hu : used (s.size - p) (fails k (rest s p) : R Unit) = 0 := by unfold used fails; simp only; rw [if_neg (by omega)]
    have eg : fin m p (s.size - p) (fails k (rest s p) : R Unit) = (m, .error (k, p)) := by
      obtain ⟨z1, z2⟩ := M.step_zero hok hw
      have := fin_told (m := m) (p := p) hu z2
      rw [show m.step ((0 : Nat) : Int) = m from z1] at this
      exact this
    rw [eg]
    have c4 : w.cell? ⟨cb, 4, none⟩ = some (.int .i64 0) := h.c.cell 4
    have c5 : w.cell? ⟨cb, 5, none⟩ = some (.int .i64 0) := h.c.cell 5
    have f4 := h.c.froz 4
    have f5 := h.c.froz 5
    clear h hh eg hu hp
    have haI : aheadI none = -1 := rfl
    rw [haI] at HA
    go_enter Tryd.func84, Tryd.ntmps84
    go_wp2_with fail
    refine (HA.out _ HU.out).mono ?_
    rintro e w1 ⟨rfl, n, rfl⟩
    go_wp2
    go_ret
    have HX := HU.out.drewN n
    refine ⟨⟨rfl, ⟨⟨p, v, ?_⟩, (HX.mt.other _ _ (fun e => HN.out e.symm)).other _ _ (fun e => HN.out e.symm), HX.ok⟩⟩, (Only.behind (only_drewN w n) (((Only.refl _ _).set (by simp) _).set (by simp) _))⟩
    exact (HX.c.set 4 _).set 5 _
end Go.Proofs.YthlbbinlkmchjaaDoor
namespace Go.Proofs.YthlbbinlkmchjaaDoor
open Go.RowKit

theorem step_yes {w : World} {cb mb : Nat} {s : ByteArray} {p : Nat} {v : Value} {m : M} (h : Cu w cb mb s p v m) (hp : p < s.size) (hs : m.stepOk 1 = true) :
    Calls Tryd.prog 80 #[.pointer (some ⟨cb, 0, none⟩)] w fun e w' => e = .returned (.bool true) ∧ Cu w' cb mb s (p + 1) v (m.step 1) ∧ Only [cb, mb] w w' := by
  refine (step_c h hp).mono ?_
  rintro e w' ⟨h1, h2⟩
  rw [skip_rest hp, fin_yes (n := 1) hs] at h1
  exact ⟨h1.1, h1.2, h2⟩
theorem step_no {w : World} {cb mb : Nat} {s : ByteArray} {p : Nat} {v : Value} {m : M} (h : Cu w cb mb s p v m) (hp : p < s.size) (hs : m.stepOk 1 = false) :
    Calls Tryd.prog 80 #[.pointer (some ⟨cb, 0, none⟩)] w fun e w' => e = .returned (.bool false) ∧ Cx w' cb mb s (m.step 1) (20, 0) ∧ Only [cb, mb] w w' := by
  refine (step_c h hp).mono ?_
  rintro e w' ⟨h1, h2⟩
  rw [skip_rest hp, fin_no (n := 1) hs] at h1
  exact ⟨h1.1, h1.2, h2⟩
/-- what is told: the outcome of a part, from place p on -/
abbrev fo {α : Type} (s : ByteArray) (m : M) (p : Nat) (P : Pz α) : O α := fin m p (s.size - p) (P (rest s p))
theorem fo_skip_yes {α : Type} {s : ByteArray} {m : M} (hw : m.why = 0) {p : Nat} (hp : p < s.size) (hs : m.stepOk 1 = true) (f : Unit → Nat → Pz α) : fo s m p (andThen skip f) = fo s (m.step 1) (p + 1) (f () 1) := by
  have h1 : fin m p (rest s p).length (skip (rest s p)) = (m.step 1, .ok ((), p + 1)) := by rw [skip_rest hp]; exact fin_yes (n := 1) hs
  have := fin_then_ok hw (f := f) fair_skip h1
  rw [Nat.add_sub_cancel_left, rest_drop, rest_length, Nat.sub_sub] at this
  exact this
theorem fo_skip_no {α : Type} {s : ByteArray} {m : M} (hw : m.why = 0) {p : Nat} (hp : p < s.size) (hs : m.stepOk 1 = false) (f : Unit → Nat → Pz α) : fo s m p (andThen skip f) = (m.step 1, .error (20, 0)) := by
  have h1 : fin m p (rest s p).length (skip (rest s p)) = (m.step 1, .error (20, 0)) := by rw [skip_rest hp]; exact fin_no (n := 1) hs
  have := fin_then_bad hw (f := f) fair_skip h1
  rw [rest_length] at this
  exact this
theorem fo_congr {α : Type} {s : ByteArray} {m : M} {p : Nat} {P Q : Pz α} (h : P (rest s p) = Q (rest s p)) : fo s m p P = fo s m p Q := by
  unfold fo; rw [h]
theorem byteP_head {q : Nat → Bool} {k b : Nat} {l : List Nat} (h : l.head? = some b) (hq : q b = true) : byteP q k l = skip l := by
  rcases l with _ | ⟨c, l⟩
  · cases h
  · simp at h; subst h; unfold skip byteP; simp only; rw [if_pos hq]; rfl
theorem byteP_not {q : Nat → Bool} {k : Nat} {l : List Nat} (h : ∀ b, l.head? = some b → q b = false) : byteP q k l = fails k l := by
  rcases l with _ | ⟨c, l⟩
  · rfl
  · have := h c rfl
    unfold byteP
    simp only; rw [if_neg (by rw [this]; decide)]; rfl
theorem word_head {k c : Nat} {cs l : List Nat} (h : l.head? = some c) : word k (c :: cs) l = andThen skip (fun _ _ => word k cs) l := by
  show andThen _ _ l = _
  unfold andThen
  rw [byteP_head h (by simp)]
theorem word_not {k c : Nat} {cs l : List Nat} (h : l.head? ≠ some c) : word k (c :: cs) l = fails k l := by
  show andThen _ _ l = _
  exact then_bad (e := (k, 0)) (byteP_not fun b hb => by
    simp only [beq_eq_false_iff_ne]
    rintro rfl; exact h hb)
theorem fo_done {α : Type} {s : ByteArray} {m : M} (hm : m.Ok) (hw : m.why = 0) (p : Nat) (a : α) : fo s m p (done a) = (m, .ok (a, p)) := fin_done hm hw p _ a
theorem bl_head_at (t : ByteArray) (k : Nat) (h : k < t.size) : (bl t).drop k = (t[k]'h).toNat :: (bl t).drop (k + 1) := by
  have h1 : k < (bl t).length := by rw [bl_length]; exact h
  rw [List.drop_eq_getElem_cons h1]
  congr 1
  rw [bl_at t k h, List.getD_eq_getElem?_getD, List.getElem?_eq_getElem h1]; rfl

set_option maxHeartbeats 1000000 in
theorem steps_c {w : World} {cb mb : Nat} {s : ByteArray} {p : Nat} {v : Value} {m : M} (h : Cu w cb mb s p v m) (n : Nat) (hn : p + n ≤ s.size) :
    Calls Tryd.prog 108 #[.pointer (some ⟨cb, 0, none⟩), .int .i64 n] w fun e w' => PB w' cb mb s v (fin m p (s.size - p) (.ok ((), n))) e ∧ Only [cb, mb] w w' := by
  obtain ⟨o, ho⟩ : ∃ o : O Unit, fin m p (s.size - p) (.ok ((), n)) = o := ⟨_, rfl⟩
  rw [ho]
  have HO := hid ho
  have HU := hid h
  have hsz := h.sz
  have hw := hid h.why
  have hz := hid (M.step_zero h.ok h.why)
  clear ho h
  go_enter Tryd.func108, Tryd.ntmps108
  go_wp2
  go_loopw [6] (fun i wr => ∃ k : Nat, k ≤ n ∧ i = .int .i64 k ∧ m.stepOk k = true ∧ Cu wr cb mb s (p + k) v (m.step k) ∧ Only [cb, mb] w wr) (fun i _ => n - (RowKit.intOf i).toNat)
  case atStart =>
    refine ⟨0, by omega, rfl, hz.out.2, ?_, Only.refl _ _⟩
    rw [show m.step ((0 : Nat) : Int) = m from hz.out.1]
    exact HU.out
  case round =>
    obtain ⟨k, hk, rfl, hs, hu, ho⟩ := hrel
    have HUK := hid hu
    have HOK := hid ho
    have HSK := hid hs
    clear hu ho hs
    by_cases hlt : k < n
    · have hlt' : (k : Int) < (n : Int) := by omega
      obtain ⟨e1, e2, e3⟩ := M.step_add hw.out (a := (k : Nat)) (b := 1) (by omega) (by omega) HSK.out
      have E1 := hid e1; have E2 := hid e2; have E3 := hid e3
      clear e1 e2 e3
      rcases hs1 : (m.step (k : Nat)).stepOk 1 with _ | _
      · have HS1 := hid hs1
        clear hs1
        go_wp2_with fail
        refine (step_no HUK.out (by omega) HS1.out).mono ?_
        rintro e w1 ⟨rfl, hx, hol⟩
        go_wp2
        go_ret
        refine ⟨?_, HOK.out.trans hol⟩
        have hno : m.stepOk (n : Nat) = false ∧ m.step (n : Nat) = (m.step (k : Nat)).step 1 := by
          have q : m.stepOk ((k : Int) + 1) = false := by rw [E3.out]; exact HS1.out
          have := M.step_over hw.out (a := (k : Int) + 1) (b := ((n - (k + 1) : Nat) : Int)) (by omega) (by omega) q
          rw [show (k : Int) + 1 + ((n - (k + 1) : Nat) : Int) = (n : Nat) by omega] at this
          exact ⟨this.2, this.1.trans E2.out⟩
        rw [← HO.out, fin_no hno.1, hno.2]
        exact ⟨rfl, hx⟩
      · have HS1 := hid hs1
        clear hs1
        go_wp2_with fail
        refine (step_yes HUK.out (by omega) HS1.out).mono ?_
        rintro e w1 ⟨rfl, hx, hol⟩
        go_wp2
        go_roundw
        case rel =>
          refine ⟨k + 1, by omega, by go_num, ?_, ?_, HOK.out.trans hol⟩
          · have := E3.out.trans HS1.out
            rw [Int.natCast_add]; exact this
          · rw [Int.natCast_add, show ((1 : Nat) : Int) = 1 from rfl, E2.out]; exact hx
        case measure => simp [RowKit.intOf]; omega
    · have hlt' : ¬ (k : Int) < (n : Int) := by omega
      obtain rfl : k = n := by omega
      go_wp2
      go_ret
      refine ⟨?_, HOK.out⟩
      rw [← HO.out, fin_yes HSK.out]
      exact ⟨rfl, HUK.out⟩

set_option maxHeartbeats 1000000 in
theorem word_c {w : World} {cb mb : Nat} {s : ByteArray} {p : Nat} {v : Value} {m : M} (h : Cu w cb mb s p v m) (t : ByteArray) (ht : t.size ≤ 256) (K : Nat) :
    Calls Tryd.prog 97 #[.pointer (some ⟨cb, 0, none⟩), .string t, .int .i64 K] w fun e w' => PB w' cb mb s v (fo s m p (word K (bl t))) e ∧ Only [cb, mb] w w' := by
  obtain ⟨o, ho⟩ : ∃ o : O Unit, fo s m p (word K (bl t)) = o := ⟨_, rfl⟩
  rw [ho]
  have HO := hid ho
  have HU := hid h
  have hsz := h.sz
  clear ho h
  go_enter Tryd.func97, Tryd.ntmps97
  go_wp2
  go_loopw [10] (fun i wr => ∃ (k : Nat) (m' : M), k ≤ t.size ∧ i = .int .i64 k ∧ Cu wr cb mb s (p + k) v m' ∧ fo s m' (p + k) (word K ((bl t).drop k)) = o ∧ Only [cb, mb] w wr) (fun i _ => t.size - (RowKit.intOf i).toNat)
  case atStart => exact ⟨0, m, by omega, rfl, HU.out, HO.out, Only.refl _ _⟩
  case round =>
    obtain ⟨k, m', hk, rfl, hu, hoo, ho⟩ := hrel
    have HUK := hid hu
    have HOK := hid ho
    have HOO := hid hoo
    clear hu ho hoo
    by_cases hlt : k < t.size
    · have hx8 := (t[k]'hlt).toNat_lt
      have hdr := bl_head_at t k hlt
      obtain ⟨x, hx⟩ : ∃ x, t[k]'hlt = x := ⟨_, rfl⟩
      rw [hx] at hdr hx8
      have HD := hid hdr
      clear hdr
      obtain ⟨a, ha⟩ : ∃ a, aheadI (rest s (p + k)).head? = a := ⟨_, rfl⟩
      have HAI := hid ha
      clear ha
      have HA := hid (fun W (h : Cu W cb mb s (p + k) v m') => (HAI.out ▸ ahead_any h : Calls Tryd.prog 60 #[.pointer (some ⟨cb, 0, none⟩)] W fun e w' => e = .returned (.int .i64 a) ∧ ∃ n, w' = W.drewN n))
      by_cases heq : a = (x.toNat : Int)
      · subst heq
        have hhead : (rest s (p + k)).head? = some x.toNat := by
          have := HAI.out
          rcases hh : (rest s (p + k)).head? with _ | b
          · rw [hh] at this; simp [aheadI] at this
          · rw [hh] at this; simp only [aheadI] at this; congr 1; omega
        have hp : p + k < s.size := by
          rcases HUK.out.nil_or with ⟨h, _⟩ | ⟨_, h⟩
          · exact h
          · rw [h] at hhead; cases hhead
        have hP : fo s m' (p + k) (word K ((bl t).drop k)) = fo s m' (p + k) (andThen skip fun _ _ => word K ((bl t).drop (k + 1))) := by
          refine fo_congr ?_
          rw [HD.out]
          exact word_head hhead
        have HP := hid hP
        clear hP hhead
        rcases hs1 : m'.stepOk 1 with _ | _
        · have HS1 := hid hs1
          clear hs1
          go_wp2
          go_quiet ((go_at_call 60; exact Calls.quiet_of (HA.out _ (HUK.out.drewN _))))
          go_wp2_with fail
          refine (step_no (HUK.out.drewN _) hp HS1.out).mono ?_
          rintro e w1 ⟨rfl, hx, hol⟩
          go_wp2
          go_ret
          refine ⟨?_, HOK.out.trans (Only.behind (only_drewN _ _) hol)⟩
          rw [← HOO.out, HP.out, fo_skip_no HUK.out.why hp HS1.out]
          exact ⟨rfl, hx⟩
        · have HS1 := hid hs1
          clear hs1
          go_wp2
          go_quiet ((go_at_call 60; exact Calls.quiet_of (HA.out _ (HUK.out.drewN _))))
          go_wp2_with fail
          refine (step_yes (HUK.out.drewN _) hp HS1.out).mono ?_
          rintro e w1 ⟨rfl, hx, hol⟩
          go_wp2
          go_roundw
          case rel =>
            refine ⟨k + 1, m'.step 1, by omega, by go_num, hx, ?_, HOK.out.trans (Only.behind (only_drewN _ _) hol)⟩
            rw [← HOO.out, HP.out, fo_skip_yes HUK.out.why hp HS1.out]
            rfl
          case measure => simp [RowKit.intOf]; omega
      · have hne : (a != (x.toNat : Int)) = true := by simpa using heq
        have hP : fo s m' (p + k) (word K ((bl t).drop k)) = fo s m' (p + k) (fails K) := by
          refine fo_congr ?_
          rw [HD.out]
          refine word_not fun hh => heq ?_
          have := HAI.out
          rw [hh] at this
          exact this.symm
        have HP := hid hP
        clear hP
        go_wp2
        go_quiet ((go_at_call 60; exact Calls.quiet_of (HA.out _ (HUK.out.drewN _))))
        go_wp2_with fail
        refine (wrong_c (HUK.out.drewN _) K).mono ?_
        rintro e w1 ⟨hx, hol⟩
        have hx : PB w1 cb mb s v o e := by rw [← HOO.out, HP.out]; exact hx
        have HX := hid hx
        have : ∃ b, e = .returned (.bool b) := by
          unfold PB at hx
          split at hx
          · exact ⟨_, hx.1⟩
          · exact ⟨_, hx.1⟩
        obtain ⟨b, rfl⟩ := this
        clear hx
        go_wp2
        go_ret
        exact ⟨HX.out, HOK.out.trans (Only.behind (only_drewN _ _) hol)⟩
    · obtain rfl : k = t.size := by omega
      go_wp2
      go_ret
      refine ⟨?_, HOK.out⟩
      rw [← HOO.out, List.drop_eq_nil_of_le (by rw [bl_length]; exact Nat.le_refl _)]
      show PB wr cb mb s v (fo s m' (p + t.size) (done ())) _
      rw [fo_done HUK.out.ok HUK.out.why]
      exact ⟨rfl, HUK.out⟩
end Go.Proofs.YthlbbinlkmchjaaDoor
