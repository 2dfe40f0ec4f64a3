/- The cutter's refused, step, wrong. -/
import Derived.Test.YthlbbinlkmchjaaDoorCu
namespace Go.Proofs.YthlbbinlkmchjaaDoor
open Go.RowKit

theorem Only.inl {a b : Nat} {w w' : World} (h : Only [a] w w') : Only [a, b] w w' := h.mono fun _ _ h => by simp at h ⊢; exact .inl h
theorem Only.inr {a b : Nat} {w w' : World} (h : Only [b] w w') : Only [a, b] w w' := h.mono fun _ _ h => by simp at h ⊢; exact .inr h
theorem hid {p : Prop} (h : p) : Hid p := h
theorem skip_rest {s : ByteArray} {p : Nat} (h : p < s.size) : skip (rest s p) = .ok ((), 1) := by
  have := byte_rest s p h
  unfold skip byteP
  rcases hl : rest s p with _ | ⟨b, l⟩
  · rw [hl] at this; cases this
  · rfl
set_option maxHeartbeats 1000000 in
theorem refused_c {w : World} {cb mb : Nat} {s : ByteArray} {p : Nat} {v : Value} {m : M} {F : Int × Int} (hc : Blk w cb (ccells mb s p v F) 64) (hm : Blk w mb m.cells 68) (hne : cb ≠ mb) (hok : m.Ok) :
    Calls Tryd.prog 95 #[.pointer (some ⟨cb, 0, none⟩)] w fun e w' => e = .returned (.bool false) ∧ Cx w' cb mb s m (m.why, 0) ∧ Only [cb] w w' := by
  have c0 : w.cell? ⟨cb, 0, none⟩ = some (.pointer (some ⟨mb, 0, none⟩)) := hc.cell 0
  have c4 : w.cell? ⟨cb, 4, none⟩ = some (.int .i64 F.1) := hc.cell 4
  have c5 : w.cell? ⟨cb, 5, none⟩ = some (.int .i64 F.2) := hc.cell 5
  have f4 := hc.froz 4
  have f5 := hc.froz 5
  have HR := hid (fun W (h : Blk W mb m.cells 68) => refused_any m mb W h)
  have HC := hid hc
  have HM := hid hm
  have HN := hid hne
  clear hc hm hne
  go_enter Tryd.func95, Tryd.ntmps95
  go_wp2_with (go_at_call 37; refine (HR.out _ HM.out).mono ?_; rintro e w' ⟨rfl, rfl⟩)
  go_ret
  refine ⟨rfl, ⟨⟨p, v, ?_⟩, ?_, hok⟩, ?_⟩
  · exact (HC.out.set 4 _).set 5 _
  · exact (HM.out.other _ _ (fun e => HN.out e.symm)).other _ _ (fun e => HN.out e.symm)
  · exact ((Only.refl _ _).set (by simp) _).set (by simp) _

set_option maxHeartbeats 1000000 in
theorem step_c {w : World} {cb mb : Nat} {s : ByteArray} {p : Nat} {v : Value} {m : M} (h : Cu w cb mb s p v m) (hp : p < s.size) :
    Calls Tryd.prog 80 #[.pointer (some ⟨cb, 0, none⟩)] w fun e w' => PB w' cb mb s v (fin m p (s.size - p) (skip (rest s p))) e ∧ Only [cb, mb] w w' := by
  obtain ⟨hc, hm, hne, hok, hw, hle, hsz⟩ := h
  rw [skip_rest hp]
  have HST := hid (fun W (h : Blk W mb m.cells 68) => step_any m hok mb 1 W h)
  have HM := hid hm
  have HN := hid hne
  have HC := hid hc
  have c0 : w.cell? ⟨cb, 0, none⟩ = some (.pointer (some ⟨mb, 0, none⟩)) := hc.cell 0
  rcases hs : m.stepOk 1 with _ | _
  · obtain ⟨e1, _⟩ := M.step_bad hw (by decide) hs
    have ef : fin m p (s.size - p) (.ok ((), 1) : R Unit) = (m.step 1, .error (20, 0)) := fin_no hs
    rw [ef]
    rw [hs] at HST
    have hwhy : (m.step 1).why = 20 := by rw [e1]
    have HF := hid (fun W hc hm => refused_c (w := W) (cb := cb) (mb := mb) (s := s) (p := p) (v := v) (m := m.step 1) (F := (0, 0)) hc hm hne (M.step_ok hok 1))
    have HWH := hid hwhy
    clear hc hm hne hs e1 hwhy
    go_enter Tryd.func80, Tryd.ntmps80
    go_wp2_with fail
    refine (HST.out _ HM.out).mono ?_
    rintro e w1 ⟨rfl, hm1, ho1⟩
    have hc1 := ho1.blk HC.out (by simpa using HN.out)
    go_wp2_with fail
    refine (HF.out _ hc1 hm1).mono ?_
    rintro e w2 ⟨rfl, hx2, ho2⟩
    go_wp2
    go_ret
    rw [HWH.out] at hx2
    exact ⟨⟨rfl, hx2⟩, ho1.inr.trans ho2.inl⟩
  · obtain ⟨e1, _⟩ := M.step_good hw (by decide) hs
    have ef : fin m p (s.size - p) (.ok ((), 1) : R Unit) = (m.step 1, .ok ((), p + 1)) := fin_yes hs
    rw [ef]
    rw [hs] at HST
    have hwhy : (m.step 1).why = 0 := by rw [e1]; exact hw
    have HWH := hid hwhy
    have HOK := hid (M.step_ok hok 1)
    clear hc hm hne hs e1 hwhy
    go_enter Tryd.func80, Tryd.ntmps80
    go_wp2_with fail
    refine (HST.out _ HM.out).mono ?_
    rintro e w1 ⟨rfl, hm1, ho1⟩
    have hc1 := ho1.blk HC.out (by simpa using HN.out)
    have c2 : w1.cell? ⟨cb, 2, none⟩ = some (.int .i64 p) := hc1.cell 2
    have f2 := hc1.froz 2
    go_wp2
    go_ret
    refine ⟨⟨rfl, ⟨?_, hm1.other _ _ (fun e => HN.out e.symm), HN.out, HOK.out, HWH.out, by simp only; omega, hsz⟩⟩, ho1.inr.trans ((Only.refl _ _).set (by simp) _)⟩
    have := hc1.set 2 (.int .i64 ((p : Int) + 1))
    exact this
theorem skip_end {s : ByteArray} {p : Nat} (h : ¬ p < s.size) : rest s p = [] := List.eq_nil_of_length_eq_zero (by rw [rest_length]; omega)
theorem Cu.nil_or {w : World} {cb mb : Nat} {s : ByteArray} {p : Nat} {v : Value} {m : M} (h : Cu w cb mb s p v m) : (p < s.size ∧ ∃ b : Nat, b < 256 ∧ (rest s p).head? = some b ∧ ∃ l, rest s p = b :: l) ∨ (p = s.size ∧ rest s p = []) := by
  have := h.le
  by_cases hp : p < s.size
  · refine .inl ⟨hp, (s[p]'hp).toNat, (s[p]'hp).toNat_lt, byte_rest s p hp, ?_⟩
    have := byte_rest s p hp
    rcases hl : rest s p with _ | ⟨b, l⟩
    · rw [hl] at this; cases this
    · rw [hl] at this; simp at this; subst this; exact ⟨l, rfl⟩
  · exact .inr ⟨by omega, skip_end hp⟩

set_option maxHeartbeats 1000000 in
/-- what stands next can't stand -/
theorem wrong_c {w : World} {cb mb : Nat} {s : ByteArray} {p : Nat} {v : Value} {m : M} (h : Cu w cb mb s p v m) (k : Nat) :
    Calls Tryd.prog 84 #[.pointer (some ⟨cb, 0, none⟩), .int .i64 k] w fun e w' => PB w' cb mb s v (fin m p (s.size - p) (fails k (rest s p))) e ∧ Only [cb, mb] w w' := by
  have HU := hid h
  have HA := hid (fun W (h : Cu W cb mb s p v m) => ahead_any h)
  have HN := hid h.ne
  have c2 : w.cell? ⟨cb, 2, none⟩ = some (.int .i64 p) := h.c.cell 2
  rcases h.nil_or with ⟨hp, b, hb, hh, -⟩ | ⟨hp, hh⟩
  · have HS := hid (fun W (h : Cu W cb mb s p v m) => step_c h hp)
    have hne : ((aheadI (some b)) == -1) = false := by simp [aheadI]
    have hne2 : ¬ (aheadI (some b)) = -1 := by simp [aheadI]
    rw [hh] at HA
    obtain ⟨x, hx⟩ : ∃ x, aheadI (some b) = x := ⟨_, rfl⟩
    rw [hx] at HA hne hne2
    have hw := h.why
    have hok := h.ok
    rw [skip_rest hp] at HS
    have hu : used (s.size - p) (fails k (rest s p) : R Unit) = 1 := by unfold used fails; simp only; rw [if_pos (by omega)]
    clear h hh hx hb
    rcases hs : m.stepOk 1 with _ | _
    · have ef : fin m p (s.size - p) (.ok ((), 1) : R Unit) = (m.step 1, .error (20, 0)) := fin_no hs
      have eg : fin m p (s.size - p) (fails k (rest s p) : R Unit) = (m.step 1, .error (20, 0)) := fin_ref hu hs
      rw [eg]
      rw [ef] at HS
      clear ef eg hu
      go_enter Tryd.func84, Tryd.ntmps84
      go_wp2_with fail
      refine (HA.out _ HU.out).mono ?_
      rintro e w1 ⟨rfl, n, rfl⟩
      go_wp2_with fail
      refine (HS.out _ (HU.out.drewN n)).mono ?_
      rintro e w2 ⟨⟨rfl, hx2⟩, ho2⟩
      go_wp2
      go_ret
      exact ⟨⟨rfl, hx2⟩, (Only.behind (only_drewN w n) ho2)⟩
    · have ef : fin m p (s.size - p) (.ok ((), 1) : R Unit) = (m.step 1, .ok ((), p + 1)) := fin_yes hs
      have eg : fin m p (s.size - p) (fails k (rest s p) : R Unit) = (m.step 1, .error (k, p)) := fin_told hu hs
      rw [eg]
      rw [ef] at HS
      clear ef eg hu
      go_enter Tryd.func84, Tryd.ntmps84
      go_wp2_with fail
      refine (HA.out _ HU.out).mono ?_
      rintro e w1 ⟨rfl, n, rfl⟩
      go_wp2_with fail
      refine (HS.out _ (HU.out.drewN n)).mono ?_
      rintro e w2 ⟨⟨rfl, hx2⟩, ho2⟩
      have HX := hid hx2
      have c4 : w2.cell? ⟨cb, 4, none⟩ = some (.int .i64 0) := hx2.c.cell 4
      have c5 : w2.cell? ⟨cb, 5, none⟩ = some (.int .i64 0) := hx2.c.cell 5
      have f4 := hx2.c.froz 4
      have f5 := hx2.c.froz 5
      clear hx2
      go_wp2
      go_ret
      refine ⟨⟨rfl, ⟨⟨p + 1, v, ?_⟩, (HX.out.mt.other _ _ (fun e => HN.out e.symm)).other _ _ (fun e => HN.out e.symm), HX.out.ok⟩⟩, (Only.behind (only_drewN w n) ho2).trans (((Only.refl _ _).set (by simp) _).set (by simp) _)⟩
      exact (HX.out.c.set 4 _).set 5 _
  · have hne : ((aheadI (none)) == -1) = true := rfl
    rw [hh, List.head?_nil] at HA
    have hw := h.why
    have hok := h.ok
    have hu : used (s.size - p) (fails k (rest s p) : R Unit) = 0 := by unfold used fails; simp only; rw [if_neg (by omega)]
    have eg : fin m p (s.size - p) (fails k (rest s p) : R Unit) = (m, .error (k, p)) := by
      obtain ⟨z1, z2⟩ := M.step_zero hok hw
      have := fin_told (m := m) (p := p) hu z2
      rw [show m.step ((0 : Nat) : Int) = m from z1] at this
      exact this
    rw [eg]
    have c4 : w.cell? ⟨cb, 4, none⟩ = some (.int .i64 0) := h.c.cell 4
    have c5 : w.cell? ⟨cb, 5, none⟩ = some (.int .i64 0) := h.c.cell 5
    have f4 := h.c.froz 4
    have f5 := h.c.froz 5
    clear h hh eg hu hp
    have haI : aheadI none = -1 := rfl
    rw [haI] at HA
    go_enter Tryd.func84, Tryd.ntmps84
    go_wp2_with fail
    refine (HA.out _ HU.out).mono ?_
    rintro e w1 ⟨rfl, n, rfl⟩
    go_wp2
    go_ret
    have HX := HU.out.drewN n
    refine ⟨⟨rfl, ⟨⟨p, v, ?_⟩, (HX.mt.other _ _ (fun e => HN.out e.symm)).other _ _ (fun e => HN.out e.symm), HX.ok⟩⟩, (Only.behind (only_drewN w n) (((Only.refl _ _).set (by simp) _).set (by simp) _))⟩
    exact (HX.c.set 4 _).set 5 _
end Go.Proofs.YthlbbinlkmchjaaDoor
