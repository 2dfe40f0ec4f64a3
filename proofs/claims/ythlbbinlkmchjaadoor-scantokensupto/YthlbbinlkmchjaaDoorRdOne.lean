/- The reference's reader: its memory; more, is, step, take, bad, want. -/
import Derived.Test.YthlbbinlkmchjaaDoorCuAll
import Derived.Test.YthlbbinlkmchjaaDoorName
import Derived.Test.YthlbbinlkmchjaaDoorRefMeter
import Derived.BigQuiet
import Derived.Test.YthlbbinlkmchjaaDoorEqs
import Derived.Shelf.SlSortCmp.QuietGrown
import Derived.Test.YthlbbinlkmchjaaDoorChr
namespace Go.Proofs.YthlbbinlkmchjaaDoor
open Go.RowKit

/-- the reader at p, what it has laid down, its fault, whether it is wrong -/
structure RS (w : World) (xb mb : Nat) (s : ByteArray) (p : Nat) (v : Value) (F : Int × Int) (wr : Bool) (m : M) : Prop where
  c : Blk w xb [.pointer (some ⟨mb, 0, none⟩), .string s, .int .i64 p, v, .int .i64 F.1, .int .i64 F.2, .bool wr] 89
  mt : Blk w mb m.rcells 84
  ok : m.Ok
  le : p ≤ s.size
  sz : s.size ≤ 4294967296
theorem RS.ne {w : World} {xb mb : Nat} {s : ByteArray} {p : Nat} {v : Value} {F : Int × Int} {wr : Bool} {m : M} (h : RS w xb mb s p v F wr m) : xb ≠ mb := by
  intro e
  subst e
  exact absurd (h.c.same h.mt).2 (by decide)
theorem RS.only {L : List Nat} {w w' : World} {xb mb : Nat} {s : ByteArray} {p : Nat} {v : Value} {F : Int × Int} {wr : Bool} {m : M} (h : RS w xb mb s p v F wr m) (k : Only L w w') (h1 : xb ∉ L) (h2 : mb ∉ L) : RS w' xb mb s p v F wr m :=
  ⟨k.blk h.c h1, k.blk h.mt h2, h.ok, h.le, h.sz⟩
theorem RS.still {w w' : World} {xb mb : Nat} {s : ByteArray} {p : Nat} {v : Value} {F : Int × Int} {wr : Bool} {m : M} (h : RS w xb mb s p v F wr m) (k : Only [] w w') : RS w' xb mb s p v F wr m := h.only k (by simp) (by simp)
/-- one that is fine -/
structure RU (w : World) (xb mb : Nat) (s : ByteArray) (p : Nat) (v : Value) (m : M) : Prop where
  rs : RS w xb mb s p v (0, 0) false m
  why : m.why = 0
/-- one that is wrong -/
def RX (w : World) (xb mb : Nat) (s : ByteArray) (m : M) (F : Int × Int) : Prop := ∃ p v, RS w xb mb s p v F true m
theorem RX.only {L : List Nat} {w w' : World} {xb mb : Nat} {s : ByteArray} {m : M} {F : Int × Int} (h : RX w xb mb s m F) (k : Only L w w') (h1 : xb ∉ L) (h2 : mb ∉ L) : RX w' xb mb s m F := by
  obtain ⟨p, v, h⟩ := h
  exact ⟨p, v, h.only k h1 h2⟩
theorem RX.still {w w' : World} {xb mb : Nat} {s : ByteArray} {m : M} {F : Int × Int} (h : RX w xb mb s m F) (k : Only [] w w') : RX w' xb mb s m F := h.only k (by simp) (by simp)
theorem RU.still {w w' : World} {xb mb : Nat} {s : ByteArray} {p : Nat} {v : Value} {m : M} (h : RU w xb mb s p v m) (k : Only [] w w') : RU w' xb mb s p v m := ⟨h.rs.still k, h.why⟩
theorem RU.only {L : List Nat} {w w' : World} {xb mb : Nat} {s : ByteArray} {p : Nat} {v : Value} {m : M} (h : RU w xb mb s p v m) (k : Only L w w') (h1 : xb ∉ L) (h2 : mb ∉ L) : RU w' xb mb s p v m := ⟨h.rs.only k h1 h2, h.why⟩
/-- what a part leaves -/
def PR {α : Type} (w' : World) (xb mb : Nat) (s : ByteArray) (v : Value) (o : O α) : Prop := match o.2 with
  | .ok x => RU w' xb mb s x.2 v o.1
  | .error F => RX w' xb mb s o.1 F

theorem more_c {w : World} {xb mb : Nat} {s : ByteArray} {p : Nat} {v : Value} {F : Int × Int} {wr : Bool} {m : M} (h : RS w xb mb s p v F wr m) :
    Calls Tryd.prog 51 #[.pointer (some ⟨xb, 0, none⟩)] w fun e w' => e = .returned (.bool (!wr && decide (p < s.size))) ∧ ∃ n, w' = w.drewN n := by
  have c1 : w.cell? ⟨xb, 1, none⟩ = some (.string s) := h.c.cell 1
  have c2 : w.cell? ⟨xb, 2, none⟩ = some (.int .i64 p) := h.c.cell 2
  have c6 : w.cell? ⟨xb, 6, none⟩ = some (.bool wr) := h.c.cell 6
  clear h
  cases wr with
  | true =>
    go_enter Tryd.func51, Tryd.ntmps51
    go_wp2
    go_quiet (fail)
    go_wp2
    go_ret
    exact ⟨rfl, _, rfl⟩
  | false =>
    go_enter Tryd.func51, Tryd.ntmps51
    go_wp2
    go_quiet (fail)
    go_wp2
    go_ret
    exact ⟨rfl, _, rfl⟩
/-- is it this byte? -/
theorem is_c {w : World} {xb mb : Nat} {s : ByteArray} {p : Nat} {v : Value} {F : Int × Int} {wr : Bool} {m : M} (h : RS w xb mb s p v F wr m) (c : Nat) (hc : c < 256) :
    Calls Tryd.prog 54 #[.pointer (some ⟨xb, 0, none⟩), .int .u8 c] w fun e w' => e = .returned (.bool (!wr && decide ((rest s p).head? = some c))) ∧ ∃ n, w' = w.drewN n := by
  have c1 : w.cell? ⟨xb, 1, none⟩ = some (.string s) := h.c.cell 1
  have c2 : w.cell? ⟨xb, 2, none⟩ = some (.int .i64 p) := h.c.cell 2
  have HM := hid (fun n => more_c (h.still (only_drewN w n)))
  have hle := h.le
  clear h
  cases wr with
  | true =>
    simp only [Bool.not_true, Bool.false_and] at HM ⊢
    go_enter Tryd.func54, Tryd.ntmps54
    go_wp2
    go_quiet ((go_at_call 51; exact Calls.quiet_of (HM.out _)))
    go_wp2
    go_ret
    exact ⟨rfl, _, rfl⟩
  | false =>
    simp only [Bool.not_false, Bool.true_and] at HM ⊢
    by_cases hp : p < s.size
    · have hb := byte_rest s p hp
      rw [decide_eq_true hp] at HM
      have hpI : (p : Int) < (s.size : Int) := by omega
      have hp0 : (0 : Int) ≤ (p : Int) := by omega
      obtain ⟨x, hx⟩ : ∃ x, s[p]'hp = x := ⟨_, rfl⟩
      rw [hx] at hb
      rw [hb]
      clear hb
      by_cases hxc : x.toNat = c
      · rw [decide_eq_true (by rw [hxc])]
        subst hxc
        go_enter Tryd.func54, Tryd.ntmps54
        go_wp2
        go_quiet ((go_at_call 51; exact Calls.quiet_of (HM.out _)))
        go_wp2
        go_ret
        exact ⟨rfl, _, rfl⟩
      · rw [decide_eq_false (fun e => hxc (Option.some.inj e))]
        have hxI : ¬ (x.toNat : Int) = (c : Int) := by omega
        have hxB : ((x.toNat : Int) == (c : Int)) = false := by simpa using hxI
        clear hxc
        go_enter Tryd.func54, Tryd.ntmps54
        go_wp2
        go_quiet ((go_at_call 51; exact Calls.quiet_of (HM.out _)))
        go_wp2
        go_ret
        exact ⟨ret_bool (by first | rfl | simpa using hxI), _, rfl⟩
    · have hb : (rest s p).head? = none := by rw [rest_head, List.getElem?_eq_none (by rw [bl_length]; omega)]
      rw [hb]
      rw [decide_eq_false hp] at HM
      rw [decide_eq_false (by simp)]
      clear hb hp
      go_enter Tryd.func54, Tryd.ntmps54
      go_wp2
      go_quiet ((go_at_call 51; exact Calls.quiet_of (HM.out _)))
      go_wp2
      go_ret
      exact ⟨rfl, _, rfl⟩
/-- the reference's meter tells its refusal -/
theorem faultR_c (m : M) (b : Nat) (w : World) (h : Blk w b m.rcells 84) : Calls Tryd.prog 77 #[.pointer (some ⟨b, 0, none⟩)] w fun e w' => e = .returned (.agg #[.int .i64 m.why, .int .i64 0]) ∧ Only [] w w' := by
  have c5 : w.cell? ⟨b, 5, none⟩ = some (.int .i64 m.why) := h.cell 5
  have hlt := h.lt
  have hb : ¬ b = w.heap.size := by omega
  clear h
  go_enter Tryd.func77, Tryd.ntmps77
  go_wp2
  refine bodyPost_ret (v := .agg #[.int .i64 m.why, .int .i64 0]) ?_ rfl ⟨rfl, (Only.refl [] w).alloc _⟩
  simp [results, Tryd.f77, go_sem]
/-- a step of the reader -/
theorem stepx_no {w : World} {xb mb : Nat} {s : ByteArray} {p : Nat} {v : Value} {F : Int × Int} {m : M} (h : RS w xb mb s p v F true m) :
    Calls Tryd.prog 74 #[.pointer (some ⟨xb, 0, none⟩)] w fun e w' => e = .returned (.tuple #[]) ∧ w' = w := by
  have c6 : w.cell? ⟨xb, 6, none⟩ = some (.bool true) := h.c.cell 6
  clear h
  go_enter Tryd.func74, Tryd.ntmps74
  go_wp2
  exact bodyPost_end (results_none (fn := Tryd.f74) rfl _ _ _) rfl ⟨rfl, rfl⟩
theorem stepx_c {w : World} {xb mb : Nat} {s : ByteArray} {p : Nat} {v : Value} {m : M} (h : RU w xb mb s p v m) :
    Calls Tryd.prog 74 #[.pointer (some ⟨xb, 0, none⟩)] w fun e w' => e = .returned (.tuple #[]) ∧ (m.stepOk 1 = true → RU w' xb mb s p v (m.step 1)) ∧ (m.stepOk 1 = false → RX w' xb mb s (m.step 1) (20, 0)) ∧ Only [xb, mb] w w' := by
  have HU := hid h
  have c0 : w.cell? ⟨xb, 0, none⟩ = some (.pointer (some ⟨mb, 0, none⟩)) := h.rs.c.cell 0
  have c6 : w.cell? ⟨xb, 6, none⟩ = some (.bool false) := h.rs.c.cell 6
  have HST := hid (stepR_any m h.rs.ok mb 1 w h.rs.mt)
  have HNE := hid h.rs.ne
  clear h
  rcases hs : m.stepOk 1 with _ | _
  · obtain ⟨e1, _⟩ := M.step_bad HU.out.why (by decide) hs
    rw [hs] at HST
    have hwhy : (m.step 1).why = 20 := by rw [e1]
    have HF := hid (fun W h => faultR_c (m.step 1) mb W h)
    rw [hwhy] at HF
    clear e1 hwhy hs
    go_enter Tryd.func74, Tryd.ntmps74
    go_wp2_with fail
    refine HST.out.mono ?_
    rintro e w1 ⟨rfl, hm1, ho1⟩
    have hc1 := ho1.blk HU.out.rs.c (by simpa using HNE.out)
    have HM1 := hid hm1
    have HO1 := hid ho1
    have HC1 := hid hc1
    have c0 : w1.cell? ⟨xb, 0, none⟩ = some (.pointer (some ⟨mb, 0, none⟩)) := hc1.cell 0
    clear hc1 hm1 ho1
    go_wp2_with fail
    refine (HF.out w1 HM1.out).mono ?_
    rintro e w2 ⟨rfl, ho2⟩
    have hc2 := ho2.blk HC1.out (by simp)
    have HC2 := hid hc2
    have HM2 := hid (ho2.blk HM1.out (by simp))
    have HO2 := hid ho2
    have f4 := hc2.froz 4
    have f5 := hc2.froz 5
    have f6 := hc2.froz 6
    have c4 : w2.cell? ⟨xb, 4, none⟩ = some (.int .i64 0) := hc2.cell 4
    have c5 : w2.cell? ⟨xb, 5, none⟩ = some (.int .i64 0) := hc2.cell 5
    have c6 : w2.cell? ⟨xb, 6, none⟩ = some (.bool false) := hc2.cell 6
    clear hc2 ho2
    go_wp2_with fail
    refine bodyPost_end (results_none (fn := Tryd.f74) rfl _ _ _) rfl ⟨rfl, ?_, ?_, ?_⟩
    · intro h; cases h
    · exact fun _ => ⟨p, v, ((HC2.out.set 4 (.int .i64 20)).set 5 (.int .i64 0)).set 6 (.bool true), ((HM2.out.other _ _ (Ne.symm HNE.out)).other _ _ (Ne.symm HNE.out)).other _ _ (Ne.symm HNE.out), M.step_ok HU.out.rs.ok 1, HU.out.rs.le, HU.out.rs.sz⟩
    · exact (((HO1.out.inr.trans (HO2.out.mono (by simp))).set (p := ⟨xb, 4, none⟩) (.inl (by simp)) _).set (p := ⟨xb, 5, none⟩) (.inl (by simp)) _).set (p := ⟨xb, 6, none⟩) (.inl (by simp)) _
  · obtain ⟨e1, _⟩ := M.step_good HU.out.why (by decide) hs
    rw [hs] at HST
    have hwhy : (m.step 1).why = 0 := by rw [e1]; exact HU.out.why
    have HWH := hid hwhy
    clear e1 hwhy hs
    go_enter Tryd.func74, Tryd.ntmps74
    go_wp2_with fail
    refine HST.out.mono ?_
    rintro e w1 ⟨rfl, hm1, ho1⟩
    have HM1 := hid hm1
    have HO1 := hid ho1
    clear hm1 ho1
    go_wp2_with fail
    refine bodyPost_end (results_none (fn := Tryd.f74) rfl _ _ _) rfl ⟨rfl, fun _ => ⟨⟨HO1.out.blk HU.out.rs.c (by simpa using HNE.out), HM1.out, M.step_ok HU.out.rs.ok 1, HU.out.rs.le, HU.out.rs.sz⟩, HWH.out⟩, fun h => (by cases h), HO1.out.inr⟩
end Go.Proofs.YthlbbinlkmchjaaDoor
namespace Go.Proofs.YthlbbinlkmchjaaDoor
open Go.RowKit

theorem er_yes {s : ByteArray} {m : M} {p : Nat} (hp : p < s.size) (hs : m.stepOk 1 = true) (k : Nat) : erM s m p = m.step 1 ∧ erF s m p k = ((k : Int), (p : Int)) := by
  unfold erM erF
  rw [if_pos (by omega)]
  exact ⟨rfl, by rw [show (((1 : Nat) : Int)) = 1 from rfl, hs]; rfl⟩
theorem er_no {s : ByteArray} {m : M} {p : Nat} (hp : p < s.size) (hs : m.stepOk 1 = false) (k : Nat) : erM s m p = m.step 1 ∧ erF s m p k = (20, 0) := by
  unfold erM erF
  rw [if_pos (by omega)]
  exact ⟨rfl, by rw [show (((1 : Nat) : Int)) = 1 from rfl, hs]; rfl⟩
theorem er_end {s : ByteArray} {m : M} {p : Nat} (hp : ¬ p < s.size) (hok : m.Ok) (hw : m.why = 0) (k : Nat) : erM s m p = m ∧ erF s m p k = ((k : Int), (p : Int)) := by
  obtain ⟨h1, h2⟩ := M.step_zero hok hw
  unfold erM erF
  rw [if_neg (by omega)]
  exact ⟨h1, by rw [show (((0 : Nat) : Int)) = 0 from rfl, h2]; rfl⟩
theorem take_no {w : World} {xb mb : Nat} {s : ByteArray} {p : Nat} {v : Value} {F : Int × Int} {m : M} (h : RS w xb mb s p v F true m) :
    Calls Tryd.prog 53 #[.pointer (some ⟨xb, 0, none⟩)] w fun e w' => e = .returned (.tuple #[]) ∧ w' = w := by
  have c6 : w.cell? ⟨xb, 6, none⟩ = some (.bool true) := h.c.cell 6
  have HS := hid (stepx_no h)
  clear h
  go_enter Tryd.func53, Tryd.ntmps53
  go_wp2_with fail
  refine HS.out.mono ?_
  rintro e w1 ⟨rfl, rfl⟩
  go_wp2
  exact bodyPost_end (results_none (fn := Tryd.f53) rfl _ _ _) rfl ⟨rfl, rfl⟩
theorem take_c {w : World} {xb mb : Nat} {s : ByteArray} {p : Nat} {v : Value} {m : M} (h : RU w xb mb s p v m) (hp : p < s.size) :
    Calls Tryd.prog 53 #[.pointer (some ⟨xb, 0, none⟩)] w fun e w' => e = .returned (.tuple #[]) ∧ (m.stepOk 1 = true → RU w' xb mb s (p + 1) v (m.step 1)) ∧ (m.stepOk 1 = false → RX w' xb mb s (m.step 1) (20, 0)) ∧ Only [xb, mb] w w' := by
  have HS := hid (stepx_c h)
  have hsz := h.rs.sz
  have hne := h.rs.ne
  have HNE := hid hne
  clear h hne
  rcases hs : m.stepOk 1 with _ | _
  · rw [hs] at HS
    clear hs
    go_enter Tryd.func53, Tryd.ntmps53
    go_wp2_with fail
    refine HS.out.mono ?_
    rintro e w1 ⟨rfl, -, h1, ho⟩
    obtain ⟨q, u, hx⟩ := h1 trivial
    have c6 : w1.cell? ⟨xb, 6, none⟩ = some (.bool true) := hx.c.cell 6
    have HX := hid hx
    have HO := hid ho
    clear hx h1 ho
    go_wp2
    refine bodyPost_end (results_none (fn := Tryd.f53) rfl _ _ _) rfl ⟨rfl, ?_, ?_, HO.out⟩
    · intro h; cases h
    · exact fun _ => ⟨q, u, HX.out⟩
  · rw [hs] at HS
    clear hs
    go_enter Tryd.func53, Tryd.ntmps53
    go_wp2_with fail
    refine HS.out.mono ?_
    rintro e w1 ⟨rfl, h1, -, ho⟩
    have hu := h1 trivial
    have c6 : w1.cell? ⟨xb, 6, none⟩ = some (.bool false) := hu.rs.c.cell 6
    have c2 : w1.cell? ⟨xb, 2, none⟩ = some (.int .i64 p) := hu.rs.c.cell 2
    have f2 := hu.rs.c.froz 2
    have HU := hid hu
    have HO := hid ho
    clear hu h1 ho
    go_wp2
    refine bodyPost_end (results_none (fn := Tryd.f53) rfl _ _ _) rfl ⟨rfl, ?_, ?_, ?_⟩
    · intro _
      exact ⟨⟨HU.out.rs.c.set 2 (.int .i64 ((p : Int) + 1)), HU.out.rs.mt.other _ _ (Ne.symm HNE.out), HU.out.rs.ok, by omega, hsz⟩, HU.out.why⟩
    · intro h; cases h
    · exact HO.out.set (p := ⟨xb, 2, none⟩) (.inl (by simp)) _
theorem bad_no {w : World} {xb mb : Nat} {s : ByteArray} {p : Nat} {v : Value} {F : Int × Int} {m : M} (h : RS w xb mb s p v F true m) (k : Int) :
    Calls Tryd.prog 76 #[.pointer (some ⟨xb, 0, none⟩), .int .i64 k] w fun e w' => e = .returned (.tuple #[]) ∧ w' = w := by
  have c6 : w.cell? ⟨xb, 6, none⟩ = some (.bool true) := h.c.cell 6
  clear h
  go_enter Tryd.func76, Tryd.ntmps76
  go_wp2
  refine bodyPost_ret (results_none (fn := Tryd.f76) rfl _ _ _) rfl ⟨rfl, rfl⟩
theorem bad_c {w : World} {xb mb : Nat} {s : ByteArray} {p : Nat} {v : Value} {m : M} (h : RU w xb mb s p v m) (k : Nat) :
    Calls Tryd.prog 76 #[.pointer (some ⟨xb, 0, none⟩), .int .i64 k] w fun e w' => e = .returned (.tuple #[]) ∧ RX w' xb mb s (erM s m p) (erF s m p k) ∧ Only [xb, mb] w w' := by
  have HU := hid h
  have hle := h.rs.le
  have HNE := hid h.rs.ne
  have c1 : w.cell? ⟨xb, 1, none⟩ = some (.string s) := h.rs.c.cell 1
  have c2 : w.cell? ⟨xb, 2, none⟩ = some (.int .i64 p) := h.rs.c.cell 2
  have c6 : w.cell? ⟨xb, 6, none⟩ = some (.bool false) := h.rs.c.cell 6
  have HS := hid (fun W h => stepx_c (w := W) (xb := xb) (mb := mb) (s := s) (p := p) (v := v) (m := m) h)
  clear h
  have fin : ∀ (W : World) (m' : M), RU W xb mb s p v m' → ∀ r : Prop, (RX (((W.setCell ⟨xb, 4, none⟩ (.int .i64 k)).setCell ⟨xb, 5, none⟩ (.int .i64 p)).setCell ⟨xb, 6, none⟩ (.bool true)) xb mb s m' ((k : Int), (p : Int)) → r) → r := by
    intro W m' hu r hr
    exact hr ⟨p, v, ((hu.rs.c.set 4 _).set 5 _).set 6 _, ((hu.rs.mt.other _ _ (Ne.symm HNE.out)).other _ _ (Ne.symm HNE.out)).other _ _ (Ne.symm HNE.out), hu.rs.ok, hu.rs.le, hu.rs.sz⟩
  have FIN := hid fin
  clear fin
  by_cases hp : p < s.size
  · have hpI : (p : Int) < (s.size : Int) := by omega
    rcases hs : m.stepOk 1 with _ | _
    · have e1 : erM s m p = m.step 1 ∧ erF s m p k = (20, 0) := er_no hp hs k
      rw [e1.1, e1.2]
      rw [hs] at HS
      clear e1 hs hp
      go_enter Tryd.func76, Tryd.ntmps76
      go_wp2
      go_quiet (fail)
      go_wp2_with fail
      refine (HS.out _ (HU.out.still (only_drewN w _))).mono ?_
      rintro e w1 ⟨rfl, -, h1, ho⟩
      obtain ⟨q, u, hx⟩ := h1 trivial
      have c6 : w1.cell? ⟨xb, 6, none⟩ = some (.bool true) := hx.c.cell 6
      have HX := hid hx
      have HO := hid ho
      clear hx h1 ho
      go_wp2
      refine bodyPost_end (results_none (fn := Tryd.f76) rfl _ _ _) rfl ⟨rfl, ⟨q, u, HX.out⟩, (Only.behind (only_drewN w _) HO.out)⟩
    · have e1 : erM s m p = m.step 1 ∧ erF s m p k = ((k : Int), (p : Int)) := er_yes hp hs k
      rw [e1.1, e1.2]
      rw [hs] at HS
      clear e1 hs hp
      go_enter Tryd.func76, Tryd.ntmps76
      go_wp2
      go_quiet (fail)
      go_wp2_with fail
      refine (HS.out _ (HU.out.still (only_drewN w _))).mono ?_
      rintro e w1 ⟨rfl, h1, -, ho⟩
      have hu := h1 trivial
      have c2 : w1.cell? ⟨xb, 2, none⟩ = some (.int .i64 p) := hu.rs.c.cell 2
      have c4 : w1.cell? ⟨xb, 4, none⟩ = some (.int .i64 0) := hu.rs.c.cell 4
      have c5 : w1.cell? ⟨xb, 5, none⟩ = some (.int .i64 0) := hu.rs.c.cell 5
      have c6 : w1.cell? ⟨xb, 6, none⟩ = some (.bool false) := hu.rs.c.cell 6
      have f4 := hu.rs.c.froz 4
      have f5 := hu.rs.c.froz 5
      have f6 := hu.rs.c.froz 6
      have HX := hid hu
      have HO := hid ho
      clear hu h1 ho
      go_wp2
      refine bodyPost_end (results_none (fn := Tryd.f76) rfl _ _ _) rfl ⟨rfl, FIN.out w1 _ HX.out _ id, ?_⟩
      exact (((Only.behind (only_drewN w _) HO.out).set (p := ⟨xb, 4, none⟩) (.inl (by simp)) _).set (p := ⟨xb, 5, none⟩) (.inl (by simp)) _).set (p := ⟨xb, 6, none⟩) (.inl (by simp)) _
  · have hpI : ¬ (p : Int) < (s.size : Int) := by omega
    have e1 : erM s m p = m ∧ erF s m p k = ((k : Int), (p : Int)) := er_end hp HU.out.rs.ok HU.out.why k
    rw [e1.1, e1.2]
    have c4 : w.cell? ⟨xb, 4, none⟩ = some (.int .i64 0) := HU.out.rs.c.cell 4
    have c5 : w.cell? ⟨xb, 5, none⟩ = some (.int .i64 0) := HU.out.rs.c.cell 5
    have f4 := HU.out.rs.c.froz 4
    have f5 := HU.out.rs.c.froz 5
    have f6 := HU.out.rs.c.froz 6
    clear e1 hp
    go_enter Tryd.func76, Tryd.ntmps76
    go_wp2
    go_quiet (fail)
    go_wp2
    refine bodyPost_end (results_none (fn := Tryd.f76) rfl _ _ _) rfl ⟨rfl, FIN.out (w.drewN nq) _ (HU.out.still (only_drewN w _)) _ id, ?_⟩
    exact (((Only.mono (only_drewN w _) (by simp)).set (p := ⟨xb, 4, none⟩) (.inl (by simp)) _).set (p := ⟨xb, 5, none⟩) (.inl (by simp)) _).set (p := ⟨xb, 6, none⟩) (.inl (by simp)) _
theorem want_no {w : World} {xb mb : Nat} {s : ByteArray} {p : Nat} {v : Value} {F : Int × Int} {m : M} (h : RS w xb mb s p v F true m) (c : Nat) (hc : c < 256) :
    Calls Tryd.prog 56 #[.pointer (some ⟨xb, 0, none⟩), .int .u8 c] w fun e w' => e = .returned (.tuple #[]) ∧ Only [] w w' := by
  have HI := hid (is_c h c hc)
  have HB := hid (fun W (h : RS W xb mb s p v F true m) => bad_no h 70)
  have HS := hid h
  simp only [Bool.not_true, Bool.false_and] at HI
  clear h
  go_enter Tryd.func56, Tryd.ntmps56
  go_wp2_with fail
  refine HI.out.mono ?_
  rintro e w1 ⟨rfl, n, rfl⟩
  go_wp2_with fail
  refine (HB.out _ (HS.out.still (only_drewN w n))).mono ?_
  rintro e w2 ⟨rfl, rfl⟩
  go_wp2
  exact bodyPost_end (results_none (fn := Tryd.f56) rfl _ _ _) rfl ⟨rfl, only_drewN w n⟩
theorem want_c {w : World} {xb mb : Nat} {s : ByteArray} {p : Nat} {v : Value} {m : M} (h : RU w xb mb s p v m) (c : Nat) (hc : c < 256) :
    Calls Tryd.prog 56 #[.pointer (some ⟨xb, 0, none⟩), .int .u8 c] w fun e w' => e = .returned (.tuple #[]) ∧ PR w' xb mb s v (fo s m p (word 70 [c])) ∧ Only [xb, mb] w w' := by
  have HI := hid (is_c h.rs c hc)
  have HU := hid h
  simp only [Bool.not_false, Bool.true_and] at HI
  have hle := h.rs.le
  by_cases hh : (rest s p).head? = some c
  · rw [decide_eq_true hh] at HI
    have hp : p < s.size := by
      rcases Nat.lt_or_ge p s.size with q | q
      · exact q
      · rw [rest_head, List.getElem?_eq_none (by rw [bl_length]; exact q)] at hh; cases hh
    have HT := hid (fun W (h : RU W xb mb s p v m) => take_c h hp)
    have e0 : fo s m p (word 70 [c]) = fo s m p (andThen skip fun _ _ => word 70 []) := fo_congr (word_head hh)
    rcases hs : m.stepOk 1 with _ | _
    · rw [e0, fo_skip_no HU.out.why hp hs]
      rw [hs] at HT
      clear h hh e0 hs
      go_enter Tryd.func56, Tryd.ntmps56
      go_wp2_with fail
      refine HI.out.mono ?_
      rintro e w1 ⟨rfl, n, rfl⟩
      go_wp2_with fail
      refine (HT.out _ (HU.out.still (only_drewN w n))).mono ?_
      rintro e w2 ⟨rfl, -, h1, ho⟩
      have HX := hid (h1 trivial)
      have HO := hid ho
      clear h1 ho
      go_wp2
      refine bodyPost_ret (results_none (fn := Tryd.f56) rfl _ _ _) rfl ⟨rfl, HX.out, Only.behind (only_drewN w n) HO.out⟩
    · have hok := M.step_ok HU.out.rs.ok 1
      have hwy : (m.step 1).why = 0 := by rw [(M.step_good HU.out.why (by decide) hs).1]; exact HU.out.why
      rw [e0, fo_skip_yes HU.out.why hp hs, show word 70 [] = done () from rfl, fo_done hok hwy]
      rw [hs] at HT
      clear h hh e0 hs hok hwy
      go_enter Tryd.func56, Tryd.ntmps56
      go_wp2_with fail
      refine HI.out.mono ?_
      rintro e w1 ⟨rfl, n, rfl⟩
      go_wp2_with fail
      refine (HT.out _ (HU.out.still (only_drewN w n))).mono ?_
      rintro e w2 ⟨rfl, h1, -, ho⟩
      have HX := hid (h1 trivial)
      have HO := hid ho
      clear h1 ho
      go_wp2
      refine bodyPost_ret (results_none (fn := Tryd.f56) rfl _ _ _) rfl ⟨rfl, HX.out, Only.behind (only_drewN w n) HO.out⟩
  · rw [decide_eq_false hh] at HI
    have e0 : fo s m p (word 70 [c]) = (erM s m p, .error (erF s m p 70)) := (fo_congr (word_not hh)).trans (fo_fails s m p 70)
    rw [e0]
    have HB := hid (fun W (h : RU W xb mb s p v m) => bad_c h 70)
    clear h hh e0
    go_enter Tryd.func56, Tryd.ntmps56
    go_wp2_with fail
    refine HI.out.mono ?_
    rintro e w1 ⟨rfl, n, rfl⟩
    go_wp2_with fail
    refine (HB.out _ (HU.out.still (only_drewN w n))).mono ?_
    rintro e w2 ⟨rfl, h1, ho⟩
    have HX := hid h1
    have HO := hid ho
    clear h1 ho
    go_wp2
    exact bodyPost_end (results_none (fn := Tryd.f56) rfl _ _ _) rfl ⟨rfl, HX.out, Only.behind (only_drewN w n) HO.out⟩
end Go.Proofs.YthlbbinlkmchjaaDoor
namespace Go.Proofs.YthlbbinlkmchjaaDoor
open Go.RowKit

theorem letterR_c (b : Nat) (w : World) : Calls Tryd.prog 75 #[.int .u8 b] w fun e w' => e = .returned (.bool (isL b)) ∧ w' = w := by
  unfold isL
  rcases (by omega : (b : Int) < 65 ∨ (65 ≤ (b : Int) ∧ (b : Int) ≤ 90) ∨ (90 < (b : Int) ∧ (b : Int) < 97) ∨ (97 ≤ (b : Int) ∧ (b : Int) ≤ 122) ∨ 122 < (b : Int)) with h | ⟨h, h'⟩ | ⟨h, h'⟩ | ⟨h, h'⟩ | h
  all_goals
    go_enter Tryd.func75, Tryd.ntmps75
    go_wp2
  all_goals first | (exfalso; omega) | skip
  all_goals
    go_ret
    exact ⟨ret_bool (by first | (simp; done) | (simp; omega) | (rw [Bool.eq_iff_iff]; simp; omega)), rfl⟩
/-- the byte at a place -/
theorem RU.nil_or {w : World} {xb mb : Nat} {s : ByteArray} {p : Nat} {v : Value} {m : M} (h : RU w xb mb s p v m) : (∃ hp : p < s.size, (rest s p).head? = some (s[p]'hp).toNat) ∨ (p = s.size ∧ (rest s p).head? = none) := by
  have := h.rs.le
  by_cases hp : p < s.size
  · exact .inl ⟨hp, byte_rest s p hp⟩
  · exact .inr ⟨by omega, by rw [skip_end hp]; rfl⟩
def PRs (w' : World) (xb mb : Nat) (s : ByteArray) (v : Value) (o : O (List Nat)) (e : Ending) : Prop := match o.2 with
  | .ok x => (∃ t : ByteArray, e = .returned (.string t) ∧ bl t = x.1) ∧ RU w' xb mb s x.2 v o.1
  | .error F => e = .returned (.string ⟨#[]⟩) ∧ RX w' xb mb s o.1 F
/-- how far a loop of the reader still goes -/
def mR (s : ByteArray) (xb : Nat) (w : World) : Nat := match w.cell? ⟨xb, 6, none⟩ with
  | some (.bool true) => 0
  | _ => 1 + (s.size - (RowKit.intOf ((w.cell? ⟨xb, 2, none⟩).getD (.int .i64 0))).toNat)
theorem mR_fine {w : World} {xb mb : Nat} {s : ByteArray} {p : Nat} {v : Value} {m : M} (h : RU w xb mb s p v m) : mR s xb w = 1 + (s.size - p) := by
  have c2 : w.cell? ⟨xb, 2, none⟩ = some (.int .i64 p) := h.rs.c.cell 2
  have c6 : w.cell? ⟨xb, 6, none⟩ = some (.bool false) := h.rs.c.cell 6
  unfold mR
  rw [c6, c2]
  simp [RowKit.intOf]
theorem mR_wrong {w : World} {xb mb : Nat} {s : ByteArray} {m : M} {F : Int × Int} (h : RX w xb mb s m F) : mR s xb w = 0 := by
  obtain ⟨p, v, h⟩ := h
  have c6 : w.cell? ⟨xb, 6, none⟩ = some (.bool true) := h.c.cell 6
  unfold mR
  rw [c6]
theorem nameR_no {w : World} {xb mb : Nat} {s : ByteArray} {p : Nat} {v : Value} {F : Int × Int} {m : M} (h : RS w xb mb s p v F true m) :
    Calls Tryd.prog 55 #[.pointer (some ⟨xb, 0, none⟩)] w fun e w' => e = .returned (.string ⟨#[]⟩) ∧ Only [] w w' := by
  have c2 : w.cell? ⟨xb, 2, none⟩ = some (.int .i64 p) := h.c.cell 2
  have HU := hid h
  have HM := hid (fun W (h : RS W xb mb s p v F true m) => more_c h)
  simp only [Bool.not_true, Bool.false_and] at HM
  clear h
  go_enter Tryd.func55, Tryd.ntmps55
  go_wp2
  go_loopw [] (fun wr => RS wr xb mb s p v F true m ∧ Only [] w wr) (fun wr => 0)
  case atStart => exact ⟨HU.out, Only.refl _ _⟩
  case round =>
    obtain ⟨hr, ho⟩ := hrel
    have HR := hid hr
    have HO := hid ho
    have c6 : wr.cell? ⟨xb, 6, none⟩ = some (.bool true) := hr.c.cell 6
    clear hr ho
    go_wp2
    go_quiet ((go_at_call 51; exact Calls.quiet_of (HM.out _ (HR.out.still (only_drewN _ _)))))
    have c6' : (wr.drewN nq).cell? ⟨xb, 6, none⟩ = some (.bool true) := (HR.out.c.drewN nq).cell 6
    go_wp2
    go_ret
    exact ⟨rfl, HO.out.trans (only_drewN _ _)⟩

set_option maxHeartbeats 4000000 in
theorem nameR_c {w : World} {xb mb : Nat} {s : ByteArray} {p : Nat} {v : Value} {m : M} (h : RU w xb mb s p v m) :
    Calls Tryd.prog 55 #[.pointer (some ⟨xb, 0, none⟩)] w fun e w' => PRs w' xb mb s v (fo s m p name) e ∧ Only [xb, mb] w w' := by
  obtain ⟨o, ho⟩ : ∃ o : O (List Nat), fo s m p name = o := ⟨_, rfl⟩
  rw [ho]
  have HO := hid ho
  have HU := hid h
  have hsz := h.rs.sz
  have hle := h.rs.le
  have c2 : w.cell? ⟨xb, 2, none⟩ = some (.int .i64 p) := h.rs.c.cell 2
  clear ho h
  go_enter Tryd.func55, Tryd.ntmps55
  go_wp2
  go_loopw [] (fun wr => (∃ (k : Nat) (m' : M), k ≤ 256 ∧ RU wr xb mb s (p + k) v m' ∧ fo s m' (p + k) (namK (256 - k)) = fo s m p (namK 256) ∧ ((k = 0 ∧ m' = m) ∨ (1 ≤ k ∧ isLo (rest s p).head? = true)) ∧ Only [xb, mb] w wr) ∨ (∃ m1 F, o = (m1, .error F) ∧ RX wr xb mb s m1 F ∧ Only [xb, mb] w wr)) (fun wr => mR s xb wr)
  case atStart => exact .inl ⟨0, m, by omega, HU.out, rfl, .inl ⟨rfl, rfl⟩, Only.refl _ _⟩
  case round =>
    rcases hrel with ⟨k, m', hk, hu, hoo, hfst, ho⟩ | ⟨m1, F, hoo, hx, ho⟩
    · have HUK := hid hu
      have HOK := hid ho
      have HOO := hid hoo
      have hz : p + k ≤ s.size := hu.rs.le
      have HF := hid hfst
      have d2 : wr.cell? ⟨xb, 2, none⟩ = some (.int .i64 ((p : Int) + (k : Int))) := by have := hu.rs.c.cell 2; simpa using this
      have d1 : wr.cell? ⟨xb, 1, none⟩ = some (.string s) := hu.rs.c.cell 1
      have d6 : wr.cell? ⟨xb, 6, none⟩ = some (.bool false) := hu.rs.c.cell 6
      have HM := hid (fun n => more_c (hu.rs.still (only_drewN wr n)))
      simp only [Bool.not_false, Bool.true_and] at HM
      have hz0 : (0 : Int) ≤ (p : Int) + (k : Int) := by omega
      have hz4 : (p : Int) + (k : Int) ≤ 4294967296 := by omega
      clear hu ho hoo hfst
      rcases HUK.out.nil_or with ⟨hp, hh⟩ | ⟨hp, hh⟩
      · rw [decide_eq_true hp] at HM
        obtain ⟨b, hb⟩ : ∃ b, s[p + k]'hp = b := ⟨_, rfl⟩
        rw [hb] at hh
        have hpI : (p : Int) + (k : Int) < (s.size : Int) := by omega
        have HL := hid (fun W => letterR_c b.toNat W)
        rcases hl : isL b.toNat with _ | _
        · rw [hl] at HL
          have HH : Hid (isLo (rest s (p + k)).head? = false) := hid (by rw [hh]; exact hl)
          clear hh hl
          rcases HF.out with ⟨hk0, hmm⟩ | ⟨hk1, hf⟩
          · have hP : o = (erM s m' (p + k), .error (erF s m' (p + k) 70)) := by
              rw [← HO.out, ← fo_fails]
              have h1 := HH.out
              subst hk0
              subst hmm
              show fo s m' p (look _) = _
              rw [fo_look]
              rw [Nat.add_zero] at h1
              rw [h1]; rfl
            have HP := hid hP
            have HK0 := hid hk0
            clear hP hk0 hmm
            go_wp2
            go_quiet ((first | (go_at_call 51; exact Calls.quiet_of (HM.out _)) | (go_at_call 75; exact Calls.quiet_of_same (HL.out _))))
            obtain ⟨W1, hW1⟩ : ∃ W1, wr.drewN nq = W1 := ⟨_, rfl⟩
            have HO1 : Hid (Only [] wr W1) := hid (by rw [← hW1]; exact only_drewN wr nq)
            rw [hW1]
            have HW1 := hid (HUK.out.still HO1.out)
            have g6 : W1.cell? ⟨xb, 6, none⟩ = some (.bool false) := HW1.out.rs.c.cell 6
            have g2 : W1.cell? ⟨xb, 2, none⟩ = some (.int .i64 (p : Int)) := by have := HW1.out.rs.c.cell 2; rw [HK0.out] at this; simpa using this
            clear hW1
            go_wp2_with fail
            refine (bad_c HW1.out 70).mono ?_
            rintro e w1 ⟨rfl, hx, hol⟩
            obtain ⟨q, u, hx⟩ := hx
            have HX := hid hx
            have g6' : w1.cell? ⟨xb, 6, none⟩ = some (.bool true) := hx.c.cell 6
            have HOL := hid hol
            clear hx hol g6 g2
            go_wp2
            go_ret
            rw [HP.out]
            exact ⟨⟨rfl, q, u, HX.out⟩, HOK.out.trans (Only.behind HO1.out HOL.out)⟩
          · have hne2 : ¬ (p : Int) + (k : Int) = (p : Int) := by omega
            have hneB : ((p : Int) + (k : Int) == (p : Int)) = false := by simpa using hne2
            have hP : o = (m', .ok ((rest s p).take k, p + k)) := by
              have h1 : fo s m' (p + k) (namK (256 - k)) = (m', .ok ((), p + k)) := by
                rw [← fo_done HUK.out.rs.ok HUK.out.why (p + k) ()]
                exact fo_congr (namK_stop _ HH.out)
              rw [← HO.out]
              show fo s m p (look _) = _
              rw [fo_look, hf, if_pos rfl, fo_text, ← HOO.out, h1]
              simp only [Nat.add_sub_cancel_left]
            have HP := hid hP
            clear hP
            have hsz2 : ((p : Int) + (k : Int)) ≤ (s.size : Int) := by omega
            have hzp : (0 : Int) ≤ (p : Int) := by omega
            have hz1 : (p : Int) ≤ (p : Int) + (k : Int) := by omega
            go_wp2
            go_quiet ((first | (go_at_call 51; exact Calls.quiet_of (HM.out _)) | (go_at_call 75; exact Calls.quiet_of_same (HL.out _))))
            obtain ⟨W1, hW1⟩ : ∃ W1, wr.drewN nq = W1 := ⟨_, rfl⟩
            have HO1 : Hid (Only [] wr W1) := hid (by rw [← hW1]; exact only_drewN wr nq)
            rw [hW1]
            have HW1 := hid (HUK.out.still HO1.out)
            have g6 : W1.cell? ⟨xb, 6, none⟩ = some (.bool false) := HW1.out.rs.c.cell 6
            have g2 : W1.cell? ⟨xb, 2, none⟩ = some (.int .i64 ((p : Int) + (k : Int))) := by have := HW1.out.rs.c.cell 2; simpa using this
            have g1 : W1.cell? ⟨xb, 1, none⟩ = some (.string s) := HW1.out.rs.c.cell 1
            clear hW1
            go_wp2
            go_quiet (fail)
            go_wp2
            go_ret
            rw [HP.out]
            exact ⟨⟨⟨_, rfl, (rest_take s p k).symm⟩, HW1.out.still (only_drewN _ _)⟩, HOK.out.trans ((HO1.out.trans (only_drewN _ _)).mono (by simp))⟩
        · rw [hl] at HL
          have HH : Hid (isLo (rest s (p + k)).head? = true) := hid (by rw [hh]; exact hl)
          clear hh hl
          have hf : isLo (rest s p).head? = true := by
            rcases HF.out with ⟨h1, _⟩ | ⟨_, h2⟩
            · have := HH.out; rw [h1, Nat.add_zero] at this; exact this
            · exact h2
          by_cases hk2 : k = 256
          · have hP : o = (erM s m' (p + k), .error (erF s m' (p + k) 72)) := by
              have h1 : fo s m' (p + k) (namK (256 - k)) = (erM s m' (p + k), .error (erF s m' (p + k) 72)) := by
                rw [hk2]
                have hq := HH.out
                rw [hk2] at hq
                exact (fo_congr (namK_long hq)).trans (fo_fails ..)
              rw [← HO.out]
              show fo s m p (look _) = _
              rw [fo_look, hf, if_pos rfl, fo_text, ← HOO.out, h1]
            have HP := hid hP
            have HK2 := hid hk2
            clear hP hf hk2
            go_wp2
            go_quiet ((first | (go_at_call 51; exact Calls.quiet_of (HM.out _)) | (go_at_call 75; exact Calls.quiet_of_same (HL.out _))))
            obtain ⟨W1, hW1⟩ : ∃ W1, wr.drewN nq = W1 := ⟨_, rfl⟩
            have HO1 : Hid (Only [] wr W1) := hid (by rw [← hW1]; exact only_drewN wr nq)
            rw [hW1]
            have HW1 := hid (HUK.out.still HO1.out)
            have g2 : W1.cell? ⟨xb, 2, none⟩ = some (.int .i64 ((p : Int) + 256)) := by have := HW1.out.rs.c.cell 2; rw [HK2.out] at this; simpa using this
            clear hW1
            go_wp2_with fail
            refine (bad_c HW1.out 72).mono ?_
            rintro e w1 ⟨rfl, hx, hol⟩
            go_wp2
            go_ret
            rw [HP.out]
            exact ⟨⟨rfl, hx⟩, HOK.out.trans (Only.behind HO1.out hol)⟩
          · have hne2 : ¬ (p : Int) + (k : Int) - (p : Int) = 256 := by omega
            have hneI : ¬ (k : Int) = 256 := by omega
            have hneB : ((k : Int) == 256) = false := by simpa using hneI
            have hk3 : 256 - k = (256 - (k + 1)) + 1 := by omega
            have hP : fo s m' (p + k) (namK (256 - k)) = fo s m' (p + k) (andThen skip fun _ _ => namK (256 - (k + 1))) := by rw [hk3]; exact fo_congr (namK_go _ HH.out)
            have HP := hid hP
            have HFF := hid hf
            clear hP hf hk3
            go_wp2
            go_quiet ((first | (go_at_call 51; exact Calls.quiet_of (HM.out _)) | (go_at_call 75; exact Calls.quiet_of_same (HL.out _))))
            obtain ⟨W1, hW1⟩ : ∃ W1, wr.drewN nq = W1 := ⟨_, rfl⟩
            have HO1 : Hid (Only [] wr W1) := hid (by rw [← hW1]; exact only_drewN wr nq)
            rw [hW1]
            have HW1 := hid (HUK.out.still HO1.out)
            have g2 : W1.cell? ⟨xb, 2, none⟩ = some (.int .i64 ((p : Int) + (k : Int))) := by have := HW1.out.rs.c.cell 2; simpa using this
            clear hW1
            go_wp2_with fail
            refine (take_c HW1.out hp).mono ?_
            rintro e w1 ⟨rfl, h1, h2, hol⟩
            have H1 := hid h1
            have H2 := hid h2
            have HOL := hid hol
            clear h1 h2 hol
            go_wp2
            go_roundw
            case rel =>
              rcases hs : m'.stepOk 1 with _ | _
              · refine .inr ⟨m'.step 1, (20, 0), ?_, H2.out hs, HOK.out.trans (Only.behind HO1.out HOL.out)⟩
                rw [← HO.out]
                show fo s m p (look _) = _
                rw [fo_look, HFF.out, if_pos rfl, fo_text, ← HOO.out, HP.out, fo_skip_no HUK.out.why hp hs]
              · refine .inl ⟨k + 1, m'.step 1, by omega, H1.out hs, ?_, .inr ⟨by omega, HFF.out⟩, HOK.out.trans (Only.behind HO1.out HOL.out)⟩
                rw [← HOO.out, HP.out, fo_skip_yes HUK.out.why hp hs]
                rfl
            case measure =>
              rw [mR_fine HUK.out]
              rcases hs : m'.stepOk 1 with _ | _
              · rw [mR_wrong (H2.out hs)]; omega
              · rw [mR_fine (H1.out hs)]; omega
      · have hnp : ¬ p + k < s.size := by omega
        rw [decide_eq_false hnp] at HM
        have HH : Hid (isLo (rest s (p + k)).head? = false) := hid (by rw [hh]; rfl)
        clear hh hnp
        rcases HF.out with ⟨hk0, hmm⟩ | ⟨hk1, hf⟩
        · have hP : o = (erM s m' (p + k), .error (erF s m' (p + k) 70)) := by
            rw [← HO.out, ← fo_fails]
            have h1 := HH.out
            subst hk0
            subst hmm
            show fo s m' p (look _) = _
            rw [fo_look]
            rw [Nat.add_zero] at h1
            rw [h1]; rfl
          have HP := hid hP
          have HK0 := hid hk0
          clear hP hk0 hmm
          go_wp2
          go_quiet ((go_at_call 51; exact Calls.quiet_of (HM.out _)))
          obtain ⟨W1, hW1⟩ : ∃ W1, wr.drewN nq = W1 := ⟨_, rfl⟩
          have HO1 : Hid (Only [] wr W1) := hid (by rw [← hW1]; exact only_drewN wr nq)
          rw [hW1]
          have HW1 := hid (HUK.out.still HO1.out)
          have g6 : W1.cell? ⟨xb, 6, none⟩ = some (.bool false) := HW1.out.rs.c.cell 6
          have g2 : W1.cell? ⟨xb, 2, none⟩ = some (.int .i64 (p : Int)) := by have := HW1.out.rs.c.cell 2; rw [HK0.out] at this; simpa using this
          clear hW1
          go_wp2_with fail
          refine (bad_c HW1.out 70).mono ?_
          rintro e w1 ⟨rfl, hx, hol⟩
          obtain ⟨q, u, hx⟩ := hx
          have HX := hid hx
          have g6' : w1.cell? ⟨xb, 6, none⟩ = some (.bool true) := hx.c.cell 6
          have HOL := hid hol
          clear hx hol g6 g2
          go_wp2
          go_ret
          rw [HP.out]
          exact ⟨⟨rfl, q, u, HX.out⟩, HOK.out.trans (Only.behind HO1.out HOL.out)⟩
        · have hne2 : ¬ (p : Int) + (k : Int) = (p : Int) := by omega
          have hneB : ((p : Int) + (k : Int) == (p : Int)) = false := by simpa using hne2
          have hP : o = (m', .ok ((rest s p).take k, p + k)) := by
            have h1 : fo s m' (p + k) (namK (256 - k)) = (m', .ok ((), p + k)) := by
              rw [← fo_done HUK.out.rs.ok HUK.out.why (p + k) ()]
              exact fo_congr (namK_stop _ HH.out)
            rw [← HO.out]
            show fo s m p (look _) = _
            rw [fo_look, hf, if_pos rfl, fo_text, ← HOO.out, h1]
            simp only [Nat.add_sub_cancel_left]
          have HP := hid hP
          clear hP
          have hsz2 : ((p : Int) + (k : Int)) ≤ (s.size : Int) := by omega
          have hzp : (0 : Int) ≤ (p : Int) := by omega
          have hz1 : (p : Int) ≤ (p : Int) + (k : Int) := by omega
          go_wp2
          go_quiet ((go_at_call 51; exact Calls.quiet_of (HM.out _)))
          obtain ⟨W1, hW1⟩ : ∃ W1, wr.drewN nq = W1 := ⟨_, rfl⟩
          have HO1 : Hid (Only [] wr W1) := hid (by rw [← hW1]; exact only_drewN wr nq)
          rw [hW1]
          have HW1 := hid (HUK.out.still HO1.out)
          have g6 : W1.cell? ⟨xb, 6, none⟩ = some (.bool false) := HW1.out.rs.c.cell 6
          have g2 : W1.cell? ⟨xb, 2, none⟩ = some (.int .i64 ((p : Int) + (k : Int))) := by have := HW1.out.rs.c.cell 2; simpa using this
          have g1 : W1.cell? ⟨xb, 1, none⟩ = some (.string s) := HW1.out.rs.c.cell 1
          clear hW1
          go_wp2
          go_quiet (fail)
          go_wp2
          go_ret
          rw [HP.out]
          exact ⟨⟨⟨_, rfl, (rest_take s p k).symm⟩, HW1.out.still (only_drewN _ _)⟩, HOK.out.trans ((HO1.out.trans (only_drewN _ _)).mono (by simp))⟩
    · obtain ⟨q, u, hx⟩ := hx
      have HX := hid hx
      have HOK := hid ho
      have HOO := hid hoo
      have d6 : wr.cell? ⟨xb, 6, none⟩ = some (.bool true) := hx.c.cell 6
      have HM := hid (fun n => more_c (hx.still (only_drewN wr n)))
      simp only [Bool.not_true, Bool.false_and] at HM
      clear hx ho hoo
      go_wp2
      go_quiet ((go_at_call 51; exact Calls.quiet_of (HM.out _)))
      have d6' : (wr.drewN nq).cell? ⟨xb, 6, none⟩ = some (.bool true) := (HX.out.c.drewN nq).cell 6
      go_wp2
      go_ret
      rw [HOO.out]
      exact ⟨⟨rfl, q, u, HX.out.still (only_drewN _ _)⟩, HOK.out.trans ((only_drewN _ _).mono (by simp))⟩
end Go.Proofs.YthlbbinlkmchjaaDoor
namespace Go.Proofs.YthlbbinlkmchjaaDoor
open Go.RowKit

def nmsT : List ByteArray := [⟨#[108, 116]⟩, ⟨#[103, 116]⟩, ⟨#[97, 109, 112]⟩, ⟨#[113, 117, 111, 116]⟩, ⟨#[115, 104, 121]⟩, ⟨#[110, 98, 115, 112]⟩]
def nms : List (Nat × List Nat) := [(60, [108, 116]), (62, [103, 116]), (38, [97, 109, 112]), (34, [113, 117, 111, 116]), (173, [115, 104, 121]), (160, [110, 98, 115, 112])]
def namedI (l : List Nat) : Int := match nms.find? (fun e => e.2 == l) with
  | some e => e.1
  | none => -1
def begB (l : List Nat) : Bool := nms.any fun e => decide (l.length ≤ e.2.length) && (e.2.take l.length == l)
theorem bl_lit {t : ByteArray} {l : List Nat} (ht : bl t = l) (s : ByteArray) : s = t ↔ bl s = l := ⟨fun h => by rw [h, ht], fun h => bl_inj (h.trans ht.symm)⟩
theorem toList_ne {s : ByteArray} {l : List UInt8} (h : ¬ s = ⟨l.toArray⟩) : (s.toList == l) = false := by
  rw [ByteArray.toList_eq]
  rw [beq_eq_false_iff_ne]
  intro e
  apply h
  cases s with | mk d =>
  congr 1
  rw [← e]
theorem nm_no {s : ByteArray} {t : ByteArray} {l : List Nat} (ht : bl t = l) (h : ¬ s = t) : ¬ (l == bl s) = true := by
  rw [beq_iff_eq]
  exact fun e => h (bl_inj (e.symm.trans ht.symm))
set_option maxHeartbeats 4000000 in
theorem named_c (s : ByteArray) (w : World) : Calls Tryd.prog 105 #[.string s] w fun e w' => e = .returned (.int .i64 (namedI (bl s))) ∧ w' = w := by
  by_cases h0 : s = ⟨#[108, 116]⟩
  · subst h0
    go_enter Tryd.func105, Tryd.ntmps105
    go_wp2
    go_ret
    exact ⟨rfl, rfl⟩
  by_cases h1 : s = ⟨#[103, 116]⟩
  · subst h1
    go_enter Tryd.func105, Tryd.ntmps105
    go_wp2
    go_ret
    exact ⟨rfl, rfl⟩
  by_cases h2 : s = ⟨#[97, 109, 112]⟩
  · subst h2
    go_enter Tryd.func105, Tryd.ntmps105
    go_wp2
    go_ret
    exact ⟨rfl, rfl⟩
  by_cases h3 : s = ⟨#[113, 117, 111, 116]⟩
  · subst h3
    go_enter Tryd.func105, Tryd.ntmps105
    go_wp2
    go_ret
    exact ⟨rfl, rfl⟩
  by_cases h4 : s = ⟨#[115, 104, 121]⟩
  · subst h4
    go_enter Tryd.func105, Tryd.ntmps105
    go_wp2
    go_ret
    exact ⟨rfl, rfl⟩
  by_cases h5 : s = ⟨#[110, 98, 115, 112]⟩
  · subst h5
    go_enter Tryd.func105, Tryd.ntmps105
    go_wp2
    go_ret
    exact ⟨rfl, rfl⟩
  have hno : namedI (bl s) = -1 := by
    unfold namedI
    rw [List.find?_eq_none.2]
    intro e he
    simp only [nms, List.mem_cons, List.not_mem_nil, or_false] at he
    rcases he with rfl | rfl | rfl | rfl | rfl | rfl
    · exact nm_no rfl h0
    · exact nm_no rfl h1
    · exact nm_no rfl h2
    · exact nm_no rfl h3
    · exact nm_no rfl h4
    · exact nm_no rfl h5
  have HN := hid hno
  have g0 := toList_ne (l := [108, 116]) h0
  have g1 := toList_ne (l := [103, 116]) h1
  have g2 := toList_ne (l := [97, 109, 112]) h2
  have g3 := toList_ne (l := [113, 117, 111, 116]) h3
  have g4 := toList_ne (l := [115, 104, 121]) h4
  have g5 := toList_ne (l := [110, 98, 115, 112]) h5
  clear hno h0 h1 h2 h3 h4 h5
  go_enter Tryd.func105, Tryd.ntmps105
  go_wp2
  go_ret
  exact ⟨by rw [HN.out]; rfl, rfl⟩
set_option maxHeartbeats 1000000 in
theorem digitR_c (b : Nat) (hb : b < 256) (w : World) : Calls Tryd.prog 102 #[.int .u8 b] w fun e w' => e = .returned (.int .i64 (digI b)) ∧ w' = w := by
  rcases (by omega : (b : Int) < 48 ∨ (48 ≤ (b : Int) ∧ (b : Int) ≤ 57) ∨ (57 < (b : Int) ∧ (b : Int) < 65) ∨ (65 ≤ (b : Int) ∧ (b : Int) ≤ 70) ∨ (70 < (b : Int) ∧ (b : Int) < 97) ∨ (97 ≤ (b : Int) ∧ (b : Int) ≤ 102) ∨ 102 < (b : Int)) with h | ⟨h, h'⟩ | ⟨h, h'⟩ | ⟨h, h'⟩ | ⟨h, h'⟩ | ⟨h, h'⟩ | h
  all_goals
    have hw0 : IntKind.u8.wrap ((b : Int) - 48) = (b : Int) - 48 ∨ ¬ (48 ≤ (b : Int) ∧ (b : Int) ≤ 57) := by
      by_cases q : 48 ≤ (b : Int) ∧ (b : Int) ≤ 57
      · exact .inl (by simp [IntKind.wrap, IntKind.signed, IntKind.bits]; omega)
      · exact .inr q
    have hw1 : IntKind.u8.wrap ((b : Int) - 65) = (b : Int) - 65 ∨ ¬ (65 ≤ (b : Int) ∧ (b : Int) ≤ 70) := by
      by_cases q : 65 ≤ (b : Int) ∧ (b : Int) ≤ 70
      · exact .inl (by simp [IntKind.wrap, IntKind.signed, IntKind.bits]; omega)
      · exact .inr q
    have hw2 : IntKind.u8.wrap ((b : Int) - 97) = (b : Int) - 97 ∨ ¬ (97 ≤ (b : Int) ∧ (b : Int) ≤ 102) := by
      by_cases q : 97 ≤ (b : Int) ∧ (b : Int) ≤ 102
      · exact .inl (by simp [IntKind.wrap, IntKind.signed, IntKind.bits]; omega)
      · exact .inr q
    have h0 := hw0.resolve_right
    have h1 := hw1.resolve_right
    have h2 := hw2.resolve_right
    clear hw0 hw1 hw2
    try (have g0 := h0 (fun q => q ⟨by omega, by omega⟩))
    try (have g1 := h1 (fun q => q ⟨by omega, by omega⟩))
    try (have g2 := h2 (fun q => q ⟨by omega, by omega⟩))
    clear h0 h1 h2
    go_enter Tryd.func102, Tryd.ntmps102
    go_wp2
  all_goals first | (exfalso; omega) | skip
  all_goals
    go_ret
    refine ⟨ret_int ?_, rfl⟩
    unfold digI
    repeat' split
  all_goals omega
theorem aliveR_c (u k : Nat) (hk : k ≤ 7) (hu : u ≤ 268435455) (w : World) : Calls Tryd.prog 103 #[.int .i64 u, .int .i64 k] w fun e w' => e = .returned (.bool (decide (k ≤ 6 ∧ u ≤ 1114111) && (isRune u || decide (k < 6)))) ∧ w' = w := by
  have HW := hid (refWidth_any (u : Int) w)
  by_cases h1 : k ≤ 6 ∧ u ≤ 1114111
  · rw [decide_eq_true h1]
    have hk1 : ¬ (6 : Int) < (k : Int) := by omega
    have hu1 : ¬ (1114111 : Int) < (u : Int) := by omega
    by_cases hr : isRune u = true
    · have hrr : u ≤ 1114111 ∧ (u < 55296 ∨ 57343 < u) := by unfold isRune at hr; exact of_decide_eq_true hr
      rw [widthI_rune hrr] at HW
      have hpos1 : 1 ≤ widthR u := by
        unfold widthR
        repeat' split
        all_goals omega
      have hpos : (0 : Int) < (widthR u : Int) := by omega
      rw [hr]
      clear h1 hr hrr
      go_enter Tryd.func103, Tryd.ntmps103
      go_wp2_with fail
      refine HW.out.mono ?_
      rintro e w1 ⟨rfl, rfl⟩
      go_wp2
      go_ret
      exact ⟨rfl, rfl⟩
    · have hr' : isRune u = false := by simpa using hr
      have hz : widthI (u : Int) = 0 := by
        unfold isRune at hr
        simp at hr
        unfold widthI
        rw [if_pos (by omega)]
      rw [hz] at HW
      rw [hr']
      by_cases hk6 : k < 6
      · have hk6' : (k : Int) < 6 := by omega
        rw [decide_eq_true hk6]
        clear h1 hr hr' hz hk6
        go_enter Tryd.func103, Tryd.ntmps103
        go_wp2_with fail
        refine HW.out.mono ?_
        rintro e w1 ⟨rfl, rfl⟩
        go_wp2
        go_ret
        exact ⟨rfl, rfl⟩
      · have hk6' : ¬ (k : Int) < 6 := by omega
        rw [decide_eq_false hk6]
        clear h1 hr hr' hz hk6
        go_enter Tryd.func103, Tryd.ntmps103
        go_wp2_with fail
        refine HW.out.mono ?_
        rintro e w1 ⟨rfl, rfl⟩
        go_wp2
        go_ret
        exact ⟨ret_bool (by first | rfl | simpa using hk6'), rfl⟩
  · rw [decide_eq_false h1]
    rcases (by omega : (6 : Int) < (k : Int) ∨ (¬ (6 : Int) < (k : Int) ∧ (1114111 : Int) < (u : Int))) with h | ⟨h, h'⟩
    all_goals
      clear h1
      go_enter Tryd.func103, Tryd.ntmps103
      go_wp2
      go_ret
      exact ⟨rfl, rfl⟩
end Go.Proofs.YthlbbinlkmchjaaDoor
namespace Go.Proofs.YthlbbinlkmchjaaDoor
open Go.RowKit

def nmAt : Nat → ByteArray
  | 0 => ⟨#[108, 116]⟩
  | 1 => ⟨#[103, 116]⟩
  | 2 => ⟨#[97, 109, 112]⟩
  | 3 => ⟨#[113, 117, 111, 116]⟩
  | 4 => ⟨#[115, 104, 121]⟩
  | 5 => ⟨#[110, 98, 115, 112]⟩
  | _ => ⟨#[]⟩
def mtch (k : Nat) (l : List Nat) : Bool := decide (l.length ≤ (bl (nmAt k)).length) && ((bl (nmAt k)).take l.length == l)
theorem begB_eq (l : List Nat) : begB l = (mtch 0 l || (mtch 1 l || (mtch 2 l || (mtch 3 l || (mtch 4 l || (mtch 5 l)))))) := by
  simp only [begB, nms, List.any_cons, List.any_nil, Bool.or_false]
  rfl
theorem ext_bl {t s : ByteArray} (h : (bl t).take s.size = bl s) : t.extract 0 s.size = s := bl_inj (by rw [bl_extract, Nat.sub_zero, List.drop_zero]; exact h)
theorem ext_ne {t s : ByteArray} (h : ¬ (bl t).take s.size = bl s) : ¬ t.extract 0 s.size = s := fun e => h (by
  have := congrArg bl e
  rw [bl_extract, Nat.sub_zero, List.drop_zero] at this
  exact this)
theorem toList_ne2 {s t : ByteArray} (h : ¬ s = t) : (s.toList == t.toList) = false := by
  rw [beq_eq_false_iff_ne]
  intro e
  rw [ByteArray.toList_eq, ByteArray.toList_eq] at e
  apply h
  cases s; cases t
  congr 1
  exact Array.toList_inj.1 e
theorem mtch_yes {k : Nat} {s : ByteArray} (h1 : s.size ≤ (nmAt k).size) (h2 : (nmAt k).extract 0 s.size = s) : mtch k (bl s) = true := by
  unfold mtch
  rw [bl_length, bl_length, decide_eq_true h1, Bool.true_and, beq_iff_eq]
  have := congrArg bl h2
  rw [bl_extract, Nat.sub_zero, List.drop_zero] at this
  exact this
theorem mtch_big {k : Nat} {s : ByteArray} (h1 : ¬ s.size ≤ (nmAt k).size) : mtch k (bl s) = false := by
  unfold mtch
  rw [bl_length, bl_length, decide_eq_false h1, Bool.false_and]
theorem mtch_no {k : Nat} {s : ByteArray} (h2 : ¬ (nmAt k).extract 0 s.size = s) : mtch k (bl s) = false := by
  unfold mtch
  rw [Bool.and_eq_false_iff]
  right
  rw [beq_eq_false_iff_ne, bl_length]
  exact fun e => h2 (ext_bl e)
theorem beg_yes {k : Nat} (hk : k < 6) {l : List Nat} (h : mtch k l = true) : begB l = true := by
  rw [begB_eq]
  rcases (by omega : k = 0 ∨ k = 1 ∨ k = 2 ∨ k = 3 ∨ k = 4 ∨ k = 5) with rfl | rfl | rfl | rfl | rfl | rfl <;> rw [h] <;> simp
theorem beg_no {l : List Nat} (h : ∀ j, j < 6 → mtch j l = false) : begB l = false := by
  rw [begB_eq, h 0 (by decide), h 1 (by decide), h 2 (by decide), h 3 (by decide), h 4 (by decide), h 5 (by decide)]
  rfl
set_option maxRecDepth 100000 in
set_option maxHeartbeats 8000000 in
theorem begins_r (s : ByteArray) (w : World) (hs : s.size ≤ 4294967296) : Calls Tryd.prog 104 #[.string s] w fun e w' => e = .returned (.bool (begB (bl s))) ∧ w' = w.alloc (.cells #[.string ⟨#[108, 116]⟩, .string ⟨#[103, 116]⟩, .string ⟨#[97, 109, 112]⟩, .string ⟨#[113, 117, 111, 116]⟩, .string ⟨#[115, 104, 121]⟩, .string ⟨#[110, 98, 115, 112]⟩] 9) := by
  go_enter Tryd.func104, Tryd.ntmps104
  go_wp2
  go_loopw [7] (fun i wr => ∃ k : Nat, k ≤ 6 ∧ i = .int .i64 k ∧ (∀ j, j < k → mtch j (bl s) = false) ∧ wr = w.alloc (.cells #[.string ⟨#[108, 116]⟩, .string ⟨#[103, 116]⟩, .string ⟨#[97, 109, 112]⟩, .string ⟨#[113, 117, 111, 116]⟩, .string ⟨#[115, 104, 121]⟩, .string ⟨#[110, 98, 115, 112]⟩] 9)) (fun i _ => 7 - (RowKit.intOf i).toNat)
  case atStart => exact ⟨0, by omega, rfl, fun j hj => absurd hj (Nat.not_lt_zero _), rfl⟩
  case round =>
    obtain ⟨k, hk, rfl, hall, rfl⟩ := hrel
    have HALL := hid hall
    clear hall
    rcases (by omega : k = 0 ∨ k = 1 ∨ k = 2 ∨ k = 3 ∨ k = 4 ∨ k = 5 ∨ k = 6) with rfl | rfl | rfl | rfl | rfl | rfl | rfl
    · by_cases hle : s.size ≤ 2
      · have hleI : (s.size : Int) ≤ 2 := by omega
        by_cases heq : (⟨#[108, 116]⟩ : ByteArray).extract 0 s.size = s
        · have HB := hid (beg_yes (k := 0) (by decide) (mtch_yes (k := 0) hle heq))
          clear hle
          go_wp2
          go_ret
          exact ⟨by rw [HB.out]; rfl, rfl⟩
        · have hm : Hid (mtch 0 (bl s) = false) := hid (mtch_no (k := 0) heq)
          have hne := toList_ne2 heq
          clear hle heq
          go_wp2
          go_roundw
          case rel =>
            refine ⟨0 + 1, by omega, by go_num, fun j hj => ?_, ?_⟩
            · by_cases hj2 : j = 0
              · subst hj2; exact hm.out
              · exact HALL.out j (by omega)
            · first | rfl | trivial
          case measure => simp [RowKit.intOf]
      · have hleI : ¬ (s.size : Int) ≤ 2 := by omega
        have hm : Hid (mtch 0 (bl s) = false) := hid (mtch_big (k := 0) hle)
        clear hle
        go_wp2
        go_roundw
        case rel =>
          refine ⟨0 + 1, by omega, by go_num, fun j hj => ?_, ?_⟩
          · by_cases hj2 : j = 0
            · subst hj2; exact hm.out
            · exact HALL.out j (by omega)
          · first | rfl | trivial
        case measure => simp [RowKit.intOf]
    · by_cases hle : s.size ≤ 2
      · have hleI : (s.size : Int) ≤ 2 := by omega
        by_cases heq : (⟨#[103, 116]⟩ : ByteArray).extract 0 s.size = s
        · have HB := hid (beg_yes (k := 1) (by decide) (mtch_yes (k := 1) hle heq))
          clear hle
          go_wp2
          go_ret
          exact ⟨by rw [HB.out]; rfl, rfl⟩
        · have hm : Hid (mtch 1 (bl s) = false) := hid (mtch_no (k := 1) heq)
          have hne := toList_ne2 heq
          clear hle heq
          go_wp2
          go_roundw
          case rel =>
            refine ⟨1 + 1, by omega, by go_num, fun j hj => ?_, ?_⟩
            · by_cases hj2 : j = 1
              · subst hj2; exact hm.out
              · exact HALL.out j (by omega)
            · first | rfl | trivial
          case measure => simp [RowKit.intOf]
      · have hleI : ¬ (s.size : Int) ≤ 2 := by omega
        have hm : Hid (mtch 1 (bl s) = false) := hid (mtch_big (k := 1) hle)
        clear hle
        go_wp2
        go_roundw
        case rel =>
          refine ⟨1 + 1, by omega, by go_num, fun j hj => ?_, ?_⟩
          · by_cases hj2 : j = 1
            · subst hj2; exact hm.out
            · exact HALL.out j (by omega)
          · first | rfl | trivial
        case measure => simp [RowKit.intOf]
    · by_cases hle : s.size ≤ 3
      · have hleI : (s.size : Int) ≤ 3 := by omega
        by_cases heq : (⟨#[97, 109, 112]⟩ : ByteArray).extract 0 s.size = s
        · have HB := hid (beg_yes (k := 2) (by decide) (mtch_yes (k := 2) hle heq))
          clear hle
          go_wp2
          go_ret
          exact ⟨by rw [HB.out]; rfl, rfl⟩
        · have hm : Hid (mtch 2 (bl s) = false) := hid (mtch_no (k := 2) heq)
          have hne := toList_ne2 heq
          clear hle heq
          go_wp2
          go_roundw
          case rel =>
            refine ⟨2 + 1, by omega, by go_num, fun j hj => ?_, ?_⟩
            · by_cases hj2 : j = 2
              · subst hj2; exact hm.out
              · exact HALL.out j (by omega)
            · first | rfl | trivial
          case measure => simp [RowKit.intOf]
      · have hleI : ¬ (s.size : Int) ≤ 3 := by omega
        have hm : Hid (mtch 2 (bl s) = false) := hid (mtch_big (k := 2) hle)
        clear hle
        go_wp2
        go_roundw
        case rel =>
          refine ⟨2 + 1, by omega, by go_num, fun j hj => ?_, ?_⟩
          · by_cases hj2 : j = 2
            · subst hj2; exact hm.out
            · exact HALL.out j (by omega)
          · first | rfl | trivial
        case measure => simp [RowKit.intOf]
    · by_cases hle : s.size ≤ 4
      · have hleI : (s.size : Int) ≤ 4 := by omega
        by_cases heq : (⟨#[113, 117, 111, 116]⟩ : ByteArray).extract 0 s.size = s
        · have HB := hid (beg_yes (k := 3) (by decide) (mtch_yes (k := 3) hle heq))
          clear hle
          go_wp2
          go_ret
          exact ⟨by rw [HB.out]; rfl, rfl⟩
        · have hm : Hid (mtch 3 (bl s) = false) := hid (mtch_no (k := 3) heq)
          have hne := toList_ne2 heq
          clear hle heq
          go_wp2
          go_roundw
          case rel =>
            refine ⟨3 + 1, by omega, by go_num, fun j hj => ?_, ?_⟩
            · by_cases hj2 : j = 3
              · subst hj2; exact hm.out
              · exact HALL.out j (by omega)
            · first | rfl | trivial
          case measure => simp [RowKit.intOf]
      · have hleI : ¬ (s.size : Int) ≤ 4 := by omega
        have hm : Hid (mtch 3 (bl s) = false) := hid (mtch_big (k := 3) hle)
        clear hle
        go_wp2
        go_roundw
        case rel =>
          refine ⟨3 + 1, by omega, by go_num, fun j hj => ?_, ?_⟩
          · by_cases hj2 : j = 3
            · subst hj2; exact hm.out
            · exact HALL.out j (by omega)
          · first | rfl | trivial
        case measure => simp [RowKit.intOf]
    · by_cases hle : s.size ≤ 3
      · have hleI : (s.size : Int) ≤ 3 := by omega
        by_cases heq : (⟨#[115, 104, 121]⟩ : ByteArray).extract 0 s.size = s
        · have HB := hid (beg_yes (k := 4) (by decide) (mtch_yes (k := 4) hle heq))
          clear hle
          go_wp2
          go_ret
          exact ⟨by rw [HB.out]; rfl, rfl⟩
        · have hm : Hid (mtch 4 (bl s) = false) := hid (mtch_no (k := 4) heq)
          have hne := toList_ne2 heq
          clear hle heq
          go_wp2
          go_roundw
          case rel =>
            refine ⟨4 + 1, by omega, by go_num, fun j hj => ?_, ?_⟩
            · by_cases hj2 : j = 4
              · subst hj2; exact hm.out
              · exact HALL.out j (by omega)
            · first | rfl | trivial
          case measure => simp [RowKit.intOf]
      · have hleI : ¬ (s.size : Int) ≤ 3 := by omega
        have hm : Hid (mtch 4 (bl s) = false) := hid (mtch_big (k := 4) hle)
        clear hle
        go_wp2
        go_roundw
        case rel =>
          refine ⟨4 + 1, by omega, by go_num, fun j hj => ?_, ?_⟩
          · by_cases hj2 : j = 4
            · subst hj2; exact hm.out
            · exact HALL.out j (by omega)
          · first | rfl | trivial
        case measure => simp [RowKit.intOf]
    · by_cases hle : s.size ≤ 4
      · have hleI : (s.size : Int) ≤ 4 := by omega
        by_cases heq : (⟨#[110, 98, 115, 112]⟩ : ByteArray).extract 0 s.size = s
        · have HB := hid (beg_yes (k := 5) (by decide) (mtch_yes (k := 5) hle heq))
          clear hle
          go_wp2
          go_ret
          exact ⟨by rw [HB.out]; rfl, rfl⟩
        · have hm : Hid (mtch 5 (bl s) = false) := hid (mtch_no (k := 5) heq)
          have hne := toList_ne2 heq
          clear hle heq
          go_wp2
          go_roundw
          case rel =>
            refine ⟨5 + 1, by omega, by go_num, fun j hj => ?_, ?_⟩
            · by_cases hj2 : j = 5
              · subst hj2; exact hm.out
              · exact HALL.out j (by omega)
            · first | rfl | trivial
          case measure => simp [RowKit.intOf]
      · have hleI : ¬ (s.size : Int) ≤ 4 := by omega
        have hm : Hid (mtch 5 (bl s) = false) := hid (mtch_big (k := 5) hle)
        clear hle
        go_wp2
        go_roundw
        case rel =>
          refine ⟨5 + 1, by omega, by go_num, fun j hj => ?_, ?_⟩
          · by_cases hj2 : j = 5
            · subst hj2; exact hm.out
            · exact HALL.out j (by omega)
          · first | rfl | trivial
        case measure => simp [RowKit.intOf]
    · have HB := hid (beg_no HALL.out)
      go_wp2
      go_ret
      exact ⟨by rw [HB.out]; rfl, rfl⟩
end Go.Proofs.YthlbbinlkmchjaaDoor
namespace Go.Proofs.YthlbbinlkmchjaaDoor
open Go.RowKit

/-- w with new blocks behind its own -/
def behind (w : World) (d : Nat) (os : Array Obj) : World := { w with heap := w.heap ++ os, drawn := d }
theorem heap_behind (w : World) (d : Nat) (os : Array Obj) : (behind w d os).heap = w.heap ++ os := rfl
theorem below_behind (w : World) (d : Nat) (os : Array Obj) : Below w.heap.size w (behind w d os) :=
  ⟨rfl, rfl, rfl, by rw [heap_behind, Array.size_append]; omega, fun k hk => by rw [heap_behind, Array.getElem?_append_left hk]⟩
theorem only_behind (w : World) (d : Nat) (os : Array Obj) : Only [] w (behind w d os) := Only.ofBelow (below_behind w d os)
theorem is_behind {w w' : World} (h : Below w.heap.size w w') : ∃ p : GrownBy, w' = behind w p.n p.os := by
  refine ⟨⟨w'.drawn, w'.heap.extract w.heap.size w'.heap.size⟩, ?_⟩
  have hh : w'.heap = w.heap ++ w'.heap.extract w.heap.size w'.heap.size := by
    apply Array.ext_getElem?
    intro i
    rcases Nat.lt_or_ge i w.heap.size with q | q
    · rw [Array.getElem?_append_left q, h.block i q]
    · rw [Array.getElem?_append_right q, Array.getElem?_extract]
      rcases Nat.lt_or_ge i w'.heap.size with z | z
      · rw [if_pos (by omega)]; congr 1; omega
      · rw [Array.getElem?_eq_none z, if_neg (by omega)]
  obtain ⟨o, t, p⟩ := (⟨h.os, h.tape, h.output⟩ : w'.os = w.os ∧ w'.tape = w.tape ∧ w'.output = w.output)
  cases w; cases w'
  simp only [behind] at *
  subst o; subst t; subst p
  rw [← hh]
theorem Calls.behind_of {P : Program} {f : FuncId} {args : Array Value} {w : World} {d : Nat} {os : Array Obj} {v : Value}
    (h : Calls P f args (behind w d os) fun e w' => e = .returned v ∧ Only [] (behind w d os) w') : Calls P f args (behind w d os) fun e w'' => e = .returned v ∧ ∃ p : GrownBy, w'' = behind w p.n p.os :=
  h.mono fun _ _ ⟨he, hb⟩ => ⟨he, is_behind ((below_behind w d os).trans (hb.below.mono (below_behind w d os).size))⟩
theorem wp_region_behind {P : Program} {id : Nat} {Q : Exit → Act → World → Prop} {a : Act} {w : World} {l : List Oper} (hm : P.follows .mixedOrders = true) (hB : Region.lexB .any l.toArray = true)
    (h : wpQuiet P l.toArray (fun w' => ∃ p : GrownBy, w' = behind w p.n p.os) (fun a' => ∀ w', (∃ p : GrownBy, w' = behind w p.n p.os) → Q .normal a' w') l a) : (Code.region id l.toArray true).wp P Q a w :=
  wp_region_quiet (C := fun w' => ∃ p : GrownBy, w' = behind w p.n p.os) hm hB (is_behind ((Below.refl _ w).drew)) (by simpa using h)
theorem cell_behind {w : World} {b o : Nat} (hb : b < w.heap.size) (d : Nat) (os : Array Obj) : (behind w d os).cell? ⟨b, o, none⟩ = w.cell? ⟨b, o, none⟩ := (below_behind w d os).cell (p := ⟨b, o, none⟩) hb

theorem then_assoc {α β γ : Type} {P : Pz α} {Q : α → Nat → Pz β} {G : Pz γ} (l : List Nat) : (andThen (andThen P Q) fun _ _ => G) l = (andThen P fun a n => andThen (Q a n) fun _ _ => G) l := by
  rcases hp : P l with ⟨e⟩ | ⟨a, n⟩
  · rw [then_bad (then_bad hp), then_bad hp]
  · rw [then_ok hp]
    rcases hq : Q a n (l.drop n) with ⟨k, j⟩ | ⟨b, j⟩
    · have h1 : andThen P Q l = .error (k, n + j) := by rw [then_ok hp, hq]; rfl
      rw [then_bad h1, then_bad hq]; rfl
    · have h1 : andThen P Q l = .ok (b, n + j) := by rw [then_ok hp, hq]; rfl
      rw [then_ok h1, then_ok hq, R.up_up, List.drop_drop]
theorem fo_word_yes {γ : Type} {s : ByteArray} {m : M} (hw : m.why = 0) {p k c : Nat} {cs : List Nat} {G : Pz γ} (hh : (rest s p).head? = some c) (hp : p < s.size) (hs : m.stepOk 1 = true) :
    fo s m p (andThen (word k (c :: cs)) fun _ _ => G) = fo s (m.step 1) (p + 1) (andThen (word k cs) fun _ _ => G) := by
  have e : (andThen (word k (c :: cs)) fun _ _ => G) (rest s p) = (andThen skip fun _ _ => andThen (word k cs) fun _ _ => G) (rest s p) := by
    rw [← then_assoc]
    unfold andThen
    rw [word_head hh]
    rfl
  rw [fo_congr e]
  exact fo_skip_yes hw hp hs _
theorem fo_word_no {γ : Type} {s : ByteArray} {m : M} (hw : m.why = 0) {p k c : Nat} {cs : List Nat} {G : Pz γ} (hh : (rest s p).head? = some c) (hp : p < s.size) (hs : m.stepOk 1 = false) :
    fo s m p (andThen (word k (c :: cs)) fun _ _ => G) = (m.step 1, .error (20, 0)) := by
  have e : (andThen (word k (c :: cs)) fun _ _ => G) (rest s p) = (andThen skip fun _ _ => andThen (word k cs) fun _ _ => G) (rest s p) := by
    rw [← then_assoc]
    unfold andThen
    rw [word_head hh]
    rfl
  rw [fo_congr e]
  exact fo_skip_no hw hp hs _
theorem fo_word_bad {γ : Type} {s : ByteArray} {m : M} {p k c : Nat} {cs : List Nat} {G : Pz γ} (hh : (rest s p).head? ≠ some c) :
    fo s m p (andThen (word k (c :: cs)) fun _ _ => G) = (erM s m p, .error (erF s m p k)) := by
  have e : (andThen (word k (c :: cs)) fun _ _ => G) (rest s p) = (fails k : Pz γ) (rest s p) := by
    unfold andThen
    rw [word_not hh]
    rfl
  rw [fo_congr e, fo_fails]
theorem fo_word_nil {γ : Type} {s : ByteArray} {m : M} {p k : Nat} {G : Pz γ} : fo s m p (andThen (word k []) fun _ _ => G) = fo s m p G := by
  refine fo_congr ?_
  show thenR (.ok ((), 0)) _ = _
  show (G ((rest s p).drop 0)).up 0 = _
  rw [R.up_zero, List.drop_zero]
def PRi (w' : World) (xb mb : Nat) (s : ByteArray) (v : Value) (o : O Nat) (e : Ending) : Prop := match o.2 with
  | .ok x => e = .returned (.int .i64 x.1) ∧ RU w' xb mb s x.2 v o.1
  | .error F => (∃ r : Int, e = .returned (.int .i64 r)) ∧ RX w' xb mb s o.1 F
/-- the names -/
theorem ent_names {e : Nat × List Nat} (he : e ∈ ents) : ∃ nm, e.2 = nm ++ [59] ∧ (e.1, nm) ∈ nms ∧ 1 ≤ nm.length ∧ nm.length ≤ 4 ∧ (∀ x ∈ nm, x < 256 ∧ x ≠ 59) := by
  simp only [ents, List.mem_cons, List.not_mem_nil, or_false] at he
  rcases he with rfl | rfl | rfl | rfl | rfl | rfl
  · exact ⟨[108, 116], rfl, by decide, by decide, by decide, by decide⟩
  · exact ⟨[103, 116], rfl, by decide, by decide, by decide, by decide⟩
  · exact ⟨[97, 109, 112], rfl, by decide, by decide, by decide, by decide⟩
  · exact ⟨[113, 117, 111, 116], rfl, by decide, by decide, by decide, by decide⟩
  · exact ⟨[115, 104, 121], rfl, by decide, by decide, by decide, by decide⟩
  · exact ⟨[110, 98, 115, 112], rfl, by decide, by decide, by decide, by decide⟩
theorem named_all : ∀ e ∈ nms, namedI e.2 = e.1 ∧ ∀ j, j < e.2.length → namedI (e.2.take j) = -1 := by decide
theorem beg_all : ∀ e ∈ nms, ∀ j, j < e.2.length + 1 → ∀ c, c < 256 → begB (e.2.take j ++ [c]) = true → (∃ e' ∈ nms, e'.2.take (j + 1) = e.2.take j ++ [c] ∧ j + 1 ≤ e'.2.length) := by
  intro e _ j _ c _ h
  unfold begB at h
  obtain ⟨e', he', h⟩ := List.any_eq_true.1 h
  simp only [Bool.and_eq_true, decide_eq_true_eq, beq_iff_eq] at h
  obtain ⟨h1, h2⟩ := h
  have hl : (e.2.take j ++ [c]).length = j + 1 ∨ j > e.2.length := by
    rcases Nat.lt_or_ge e.2.length j with q | q
    · exact .inr q
    · left; rw [List.length_append, List.length_take, Nat.min_eq_left q]; rfl
  rcases hl with hl | hl
  · rw [hl] at h1 h2
    exact ⟨e', he', h2, h1⟩
  · omega
theorem nms_first : ∀ e ∈ nms, ∀ e' ∈ nms, e.2.head? = e'.2.head? → e = e' := by decide
/-- what goes on with a name goes on with that name alone -/
theorem beg_next {e : Nat × List Nat} (he : e ∈ nms) {j c : Nat} (hj1 : 1 ≤ j ∨ e.2.head? = some c) (hj : j ≤ e.2.length) (hc : c < 256) : begB (e.2.take j ++ [c]) = decide (e.2[j]? = some c) := by
  by_cases h : e.2[j]? = some c
  · rw [decide_eq_true h]
    obtain ⟨hjl, hjc⟩ := List.getElem?_eq_some_iff.1 h
    unfold begB
    rw [List.any_eq_true]
    refine ⟨e, he, ?_⟩
    have e1 : e.2.take j ++ [c] = e.2.take (j + 1) := by rw [List.take_succ_eq_append_getElem hjl, hjc]
    rw [e1, List.length_take, Nat.min_eq_left (by omega)]
    simp only [Bool.and_eq_true, decide_eq_true_eq, beq_iff_eq]
    exact ⟨by omega, by first | rfl | trivial⟩
  · rw [decide_eq_false h]
    rcases hb : begB (e.2.take j ++ [c]) with _ | _
    · rfl
    · exfalso
      obtain ⟨e', he', h1, h2⟩ := beg_all e he j (by omega) c hc hb
      have hhd : e'.2.head? = e.2.head? := by
        rcases j with _ | j
        · rcases hj1 with q | q
          · omega
          · have := congrArg List.head? h1
            rw [List.head?_take, if_neg (by omega)] at this
            rw [this, q]; rfl
        · have := congrArg List.head? h1
          rw [List.head?_take, if_neg (by omega)] at this
          rw [this]
          rcases hq : e.2 with _ | ⟨x, l⟩
          · rw [hq] at hj; simp at hj
          · rfl
      have hee := nms_first e' he' e he hhd
      subst hee
      apply h
      have hjl : j < e'.2.length := by omega
      rw [List.take_succ_eq_append_getElem hjl] at h1
      have := List.append_cancel_left h1
      rw [List.getElem?_eq_getElem hjl]
      simpa using this
theorem entOf_nms {c : Nat} (h : entOf (some c) = none) : begB [c] = false := by
  unfold entOf at h
  rw [List.find?_eq_none] at h
  unfold begB
  rw [List.any_eq_false]
  intro e he
  obtain ⟨e2, he2, hx⟩ : ∃ e2 ∈ ents, e2.2.head? = e.2.head? ∧ e.2 ≠ [] := by
    simp only [nms, List.mem_cons, List.not_mem_nil, or_false] at he
    rcases he with rfl | rfl | rfl | rfl | rfl | rfl
    · exact ⟨(60, [108, 116, 59]), by decide, by decide⟩
    · exact ⟨(62, [103, 116, 59]), by decide, by decide⟩
    · exact ⟨(38, [97, 109, 112, 59]), by decide, by decide⟩
    · exact ⟨(34, [113, 117, 111, 116, 59]), by decide, by decide⟩
    · exact ⟨(173, [115, 104, 121, 59]), by decide, by decide⟩
    · exact ⟨(160, [110, 98, 115, 112, 59]), by decide, by decide⟩
  have h2 := h e2 he2
  rw [hx.1] at h2
  rcases hq : e.2 with _ | ⟨x, l⟩
  · exact absurd hq hx.2
  · rw [hq] at h2
    simp at h2 ⊢
    exact h2
end Go.Proofs.YthlbbinlkmchjaaDoor
namespace Go.Proofs.YthlbbinlkmchjaaDoor
open Go.RowKit

theorem alive_val {u k d : Nat} (hk : k ≤ 6) (hu : u < 16 ^ k) (hd : d < 16) :
    (decide (k + 1 ≤ 6 ∧ 16 * u + d ≤ 1114111) && (isRune (16 * u + d) || decide (k + 1 < 6))) = decide (k < 5 ∨ (k = 5 ∧ isRune (16 * u + d) = true)) := by
  rcases (by omega : k < 5 ∨ k = 5 ∨ k = 6) with h | h | h
  · have h1 : 16 ^ k ≤ 16 ^ 4 := Nat.pow_le_pow_right (by decide) (by omega)
    have h2 : (16 : Nat) ^ 4 = 65536 := by decide
    have h3 : k + 1 ≤ 6 ∧ 16 * u + d ≤ 1114111 := by omega
    rw [decide_eq_true h3, decide_eq_true (by omega : k + 1 < 6), decide_eq_true (Or.inl h)]
    simp
  · subst h
    by_cases hr : isRune (16 * u + d) = true
    · have h3 : 16 * u + d ≤ 1114111 := by unfold isRune at hr; exact (of_decide_eq_true hr).1
      rw [decide_eq_true (⟨by decide, h3⟩ : 5 + 1 ≤ 6 ∧ 16 * u + d ≤ 1114111), hr]
      simp
    · have hr' : isRune (16 * u + d) = false := by simpa using hr
      rw [hr']
      simp
  · subst h
    rw [decide_eq_false (by omega : ¬ (6 + 1 ≤ 6 ∧ 16 * u + d ≤ 1114111)), decide_eq_false (by omega)]
    rfl
set_option maxRecDepth 100000 in
set_option maxHeartbeats 16000000 in
theorem entityR_c {w : World} {xb mb : Nat} {s : ByteArray} {p : Nat} {v : Value} {m : M} (h : RU w xb mb s p v m) (hh : (rest s p).head? = some 38) :
    Calls Tryd.prog 93 #[.pointer (some ⟨xb, 0, none⟩)] w fun e w' => PRi w' xb mb s v (fo s m p entP) e ∧ Only [xb, mb] w w' := by
  obtain ⟨o, ho⟩ : ∃ o : O Nat, fo s m p entP = o := ⟨_, rfl⟩
  rw [ho]
  have hsz := h.rs.sz
  have hp : p < s.size := by
    rcases h.nil_or with ⟨q, -⟩ | ⟨-, q⟩
    · exact q
    · rw [q] at hh; cases hh
  have HU := hid h
  have HT := hid (take_c h hp)
  -- a reader that is wrong
  have HMx := hid (fun W2 q u F mF (h : RS W2 xb mb s q u F true mF) => more_c h)
  have HIx := hid (fun W2 q u F mF (h : RS W2 xb mb s q u F true mF) c hc => is_c h c hc)
  have HBx := hid (fun W2 q u F mF (h : RS W2 xb mb s q u F true mF) => bad_no h 71)
  have HTx := hid (fun W2 q u F mF (h : RS W2 xb mb s q u F true mF) => take_no h)
  simp only [Bool.not_true, Bool.false_and] at HMx HIx
  rcases hs : m.stepOk 1 with _ | _
  · have HOO : Hid (o = (m.step 1, .error (20, 0))) := hid (by rw [← ho]; exact fo_skip_no h.why hp hs _)
    rw [hs] at HT
    clear h hh ho hs
    go_enter Tryd.func93, Tryd.ntmps93
    go_wp2_with fail
    refine HT.out.mono ?_
    rintro e w1 ⟨rfl, -, h1, ho⟩
    obtain ⟨q, u, hx⟩ := h1 trivial
    have HX := hid hx
    have HO := hid ho
    have c2 : w1.cell? ⟨xb, 2, none⟩ = some (.int .i64 q) := hx.c.cell 2
    clear hx h1 ho HT
    go_wp2_with fail
    refine (HIx.out w1 q u _ _ HX.out 35 (by decide)).mono ?_
    rintro e w2 ⟨rfl, n2, rfl⟩
    go_wp2_with fail
    go_loopw [] (fun wr => RS wr xb mb s q u (20, 0) true (m.step 1) ∧ Only [xb, mb] w wr) (fun wr => 0)
    case atStart => exact ⟨HX.out.still (only_drewN w1 n2), HO.out.trans ((only_drewN w1 n2).mono (by simp))⟩
    case round =>
      obtain ⟨hr, ho⟩ := hrel
      have HR := hid hr
      have HOK := hid ho
      have d6 : wr.cell? ⟨xb, 6, none⟩ = some (.bool true) := hr.c.cell 6
      clear hr ho
      go_wp2
      go_quiet ((go_at_call 51; exact Calls.quiet_of (HMx.out _ _ _ _ _ (HR.out.still (only_drewN _ _)))))
      obtain ⟨W3, hW3⟩ : ∃ W3, wr.drewN nq = W3 := ⟨_, rfl⟩
      have HR3 := hid (show RS W3 xb mb s q u (20, 0) true (m.step 1) by rw [← hW3]; exact HR.out.still (only_drewN wr nq))
      have HO3 := hid (show Only [xb, mb] w W3 by rw [← hW3]; exact HOK.out.trans ((only_drewN wr nq).mono (by simp)))
      rw [hW3]
      have d6 : W3.cell? ⟨xb, 6, none⟩ = some (.bool true) := HR3.out.c.cell 6
      clear hW3
      go_wp2
      go_quiet (fail)
      go_wp2_with fail
      refine (HBx.out _ _ _ _ _ (HR3.out.still (only_drewN W3 nq))).mono ?_
      rintro e w4 ⟨rfl, rfl⟩
      go_wp2
      go_ret
      rw [HOO.out]
      exact ⟨⟨⟨_, rfl⟩, q, u, HR3.out.still (only_drewN W3 nq)⟩, HO3.out.trans ((only_drewN W3 nq).mono (by simp))⟩
  · have hoo := fo_skip_yes h.why hp hs (fun _ _ => look bodyP)
    have HOO : Hid (fo s (m.step 1) (p + 1) (look bodyP) = o) := hid (by rw [← ho]; exact hoo.symm)
    rw [hs] at HT
    obtain ⟨m1, hm1⟩ : ∃ m1, m.step 1 = m1 := ⟨_, rfl⟩
    obtain ⟨f, hf⟩ : ∃ f, p + 1 = f := ⟨_, rfl⟩
    rw [hm1, hf] at HT HOO
    have hfs : f ≤ s.size := by omega
    have hf4 : (f : Int) ≤ 4294967296 := by omega
    have hf0 : (0 : Int) ≤ (f : Int) := by omega
    clear h hh ho hs hoo hm1 hf
    go_enter Tryd.func93, Tryd.ntmps93
    go_wp2_with fail
    refine HT.out.mono ?_
    rintro e w1 ⟨rfl, h1, -, ho⟩
    have hu := h1 trivial
    have HU1 := hid hu
    have HO1 := hid ho
    have c2 : w1.cell? ⟨xb, 2, none⟩ = some (.int .i64 (f : Int)) := hu.rs.c.cell 2
    have HI1 := hid (fun W2 (h : RU W2 xb mb s f v m1) c hc => is_c h.rs c hc)
    simp only [Bool.not_false, Bool.true_and] at HI1
    clear hu h1 ho HT
    by_cases h35 : (rest s f).head? = some 35
    · have hoo : fo s m1 f (andThen (word 71 [35, 120]) fun _ _ => numK 6 0) = o := by
        rw [← HOO.out]
        show _ = fo s m1 f (bodyP (rest s f).head?)
        unfold bodyP
        rw [h35]
        rfl
      have hff : f < s.size := by
        rcases HU1.out.nil_or with ⟨q, -⟩ | ⟨-, q⟩
        · exact q
        · rw [q] at h35; cases h35
      have h35b := decide_eq_true h35
      have HH35 := hid h35
      have HO0 := hid hoo
      clear h35 hoo HOO
      go_wp2_with fail
      refine (HI1.out w1 HU1.out 35 (by decide)).mono ?_
      rintro e w2 ⟨rfl, n2, rfl⟩
      rw [h35b]
      clear h35b
      obtain ⟨W2, hWW2⟩ : ∃ W2, w1.drewN n2 = W2 := ⟨_, rfl⟩
      have HU2 := hid (show RU W2 xb mb s f v m1 by rw [← hWW2]; exact HU1.out.still (only_drewN w1 _))
      have HO2 := hid (show Only [xb, mb] w W2 by rw [← hWW2]; exact HO1.out.trans ((only_drewN w1 _).mono (by simp)))
      rw [hWW2]
      clear hWW2
      clear HU1 HO1 c2 HI1
      go_wp2_with fail
      refine (take_c HU2.out hff).mono ?_
      rintro e w3 ⟨rfl, h1, h2, ho3⟩
      have HO3 := hid (HO2.out.trans ho3)
      rcases hs1 : m1.stepOk 1 with _ | _
      · obtain ⟨q, x, hx⟩ := h2 hs1
        have HX := hid hx
        have HP : Hid (o = (m1.step 1, .error (20, 0))) := hid (by rw [← HO0.out]; exact fo_word_no HU2.out.why HH35.out hff hs1)
        clear h1 h2 ho3 hs1 hx
        go_wp2_with fail
        refine (HIx.out _ _ _ _ _ HX.out 120 (by decide)).mono ?_
        rintro e w4 ⟨rfl, n4, rfl⟩
        go_wp2_with fail
        refine (HBx.out _ _ _ _ _ (HX.out.still (only_drewN w3 n4))).mono ?_
        rintro e w5 ⟨rfl, rfl⟩
        go_wp2
        go_ret
        rw [HP.out]
        exact ⟨⟨⟨_, rfl⟩, q, x, HX.out.still (only_drewN w3 n4)⟩, HO3.out.trans ((only_drewN w3 n4).mono (by simp))⟩
      · have hu3 := h1 hs1
        obtain ⟨f1, hf1⟩ : ∃ f1, f + 1 = f1 := ⟨_, rfl⟩
        obtain ⟨m2, hm2⟩ : ∃ m2, m1.step 1 = m2 := ⟨_, rfl⟩
        have hoo : fo s m2 f1 (andThen (word 71 [120]) fun _ _ => numK 6 0) = o := by
          rw [← HO0.out, fo_word_yes HU2.out.why HH35.out hff hs1, hf1, hm2]
        rw [hf1, hm2] at hu3
        have HU3 := hid hu3
        have HO1' := hid hoo
        clear h1 h2 ho3 hs1 hu3 hoo HO0 hm2
        have HI3 := hid (is_c HU3.out.rs 120 (by decide))
        simp only [Bool.not_false, Bool.true_and] at HI3
        by_cases h120 : (rest s f1).head? = some 120
        · have hff1 : f1 < s.size := by
            rcases HU3.out.nil_or with ⟨q, -⟩ | ⟨-, q⟩
            · exact q
            · rw [q] at h120; cases h120
          rw [decide_eq_true h120] at HI3
          have HH := hid h120
          clear h120 hf1
          go_wp2_with fail
          refine HI3.out.mono ?_
          rintro e w4 ⟨rfl, n4, rfl⟩
          obtain ⟨W4, hWW4⟩ : ∃ W4, w3.drewN n4 = W4 := ⟨_, rfl⟩
          have HU4 := hid (show RU W4 xb mb s f1 v m2 by rw [← hWW4]; exact HU3.out.still (only_drewN w3 _))
          have HO4 := hid (show Only [xb, mb] w W4 by rw [← hWW4]; exact HO3.out.trans ((only_drewN w3 _).mono (by simp)))
          rw [hWW4]
          clear hWW4
          go_wp2_with fail
          refine (take_c HU4.out hff1).mono ?_
          rintro e w5 ⟨rfl, h1, h2, ho5⟩
          have HO5 := hid (HO4.out.trans ho5)
          have hstart : (∃ q m', 0 < 16 ^ 0 ∧ RU w5 xb mb s q v m' ∧ fo s m' q (numK (6 - 0) 0) = o ∧ Only [xb, mb] w w5) ∨ (∃ q x mF F, o = (mF, .error F) ∧ RS w5 xb mb s q x F true mF ∧ Only [xb, mb] w w5) := by
            rcases hs2 : m2.stepOk 1 with _ | _
            · obtain ⟨q, x, hx⟩ := h2 hs2
              exact .inr ⟨q, x, _, _, by rw [← HO1'.out]; exact fo_word_no HU4.out.why HH.out hff1 hs2, hx, HO5.out⟩
            · refine .inl ⟨f1 + 1, m2.step 1, by decide, h1 hs2, ?_, HO5.out⟩
              rw [← HO1'.out, fo_word_yes HU4.out.why HH.out hff1 hs2, fo_word_nil]
          have HST := hid hstart
          clear h1 h2 ho5 hstart
          go_wp2_with fail
          go_loopw [4, 5] (fun vu vm wr => ∃ (u k : Nat), vu = .int .i64 u ∧ vm = .int .i64 k ∧ k ≤ 6 ∧ ((∃ q m', u < 16 ^ k ∧ RU wr xb mb s q v m' ∧ fo s m' q (numK (6 - k) u) = o ∧ Only [xb, mb] w wr) ∨ (∃ q x mF F, o = (mF, .error F) ∧ RS wr xb mb s q x F true mF ∧ Only [xb, mb] w wr))) (fun _ _ wr => mR s xb wr)
          case atStart => exact ⟨0, 0, rfl, rfl, by omega, HST.out⟩
          case round =>
            obtain ⟨u, k, rfl, rfl, hk6, hrel⟩ := hrel
            rcases hrel with ⟨q, m', hu, hr, hoo, ho⟩ | ⟨q, x, mF, F, hoo, hr, ho⟩
            · have HUQ := hid hr
              have HOQ := hid ho
              have HOO := hid hoo
              have hu6 : u < 16777216 := Nat.lt_of_lt_of_le hu (show 16 ^ k ≤ 16 ^ 6 from Nat.pow_le_pow_right (by decide) hk6)
              have HK16 := hid hu
              have d1 : wr.cell? ⟨xb, 1, none⟩ = some (.string s) := hr.rs.c.cell 1
              have d2 : wr.cell? ⟨xb, 2, none⟩ = some (.int .i64 (q : Int)) := hr.rs.c.cell 2
              clear hr ho hoo hu
              try clear HST
              try clear HO1'
              try clear HO0
              try clear HO2
              try clear HU2
              try clear HU4
              try clear HO4
              try clear HU3
              try clear HO3
              try clear HO5
              try clear HH
              try clear HH35
              have HMQ := hid (fun n => more_c (HUQ.out.still (only_drewN wr n)).rs)
              have HIQ := hid (fun W (h : RU W xb mb s q v m') => is_c h.rs 59 (by decide))
              simp only [Bool.not_false, Bool.true_and] at HMQ HIQ
              have HWX := hid (fun W => refWidth_any (u : Int) W)
              obtain ⟨y, hy⟩ : ∃ y, widthI (u : Int) = y := ⟨_, rfl⟩
              have hwi := hid (widthI_isRune u)
              rw [hy] at HWX hwi
              clear hy
              have hu7 : (u : Int) ≤ 16777215 := by omega
              have hu0 : (0 : Int) ≤ (u : Int) := by omega
              have hk7 : (k : Int) ≤ 6 := by omega
              have hk00 : (0 : Int) ≤ (k : Int) := by omega
              rcases HUQ.out.nil_or with ⟨hqs, hh⟩ | ⟨hqs, hh⟩
              · have hqI : (q : Int) < (s.size : Int) := by omega
                obtain ⟨b, hb⟩ : ∃ b, s[q]'hqs = b := ⟨_, rfl⟩
                rw [hb] at hh
                have HHD := hid hh
                clear hh
                rw [decide_eq_true hqs] at HMQ
                have HDG := hid (fun W => digitR_c b.toNat b.toNat_lt W)
                have hdi : digI ((b.toNat : Nat) : Int) = match digO (some b.toNat) with | none => -1 | some d => (d : Int) := digI_ahead (some b.toNat)
                rcases hdo : digO (some b.toNat) with _ | d
                · rw [hdo] at hdi
                  simp only at hdi
                  rw [hdi] at HDG
                  have HDO := hid hdo
                  clear hdi hdo
                  by_cases hk0 : k = 0
                  · have HP : Hid (o = (erM s m' q, .error (erF s m' q 71))) := hid (by rw [← HOO.out, ← fo_fails]; exact fo_congr (numK_none (.inr (.inl (by omega))) (.inl (by rw [HHD.out]; exact HDO.out)) (by omega)))
                    have hkI : ¬ (0 : Int) < (k : Int) := by omega
                    clear hk0
                    go_wp2
                    go_quiet ((first | (go_at_call 51; exact Calls.quiet_of (HMQ.out _)) | (go_at_call 102; exact Calls.quiet_of_same (HDG.out _))))
                    obtain ⟨W3, hWW3⟩ : ∃ W3, wr.drewN nq = W3 := ⟨_, rfl⟩
                    have HU3 := hid (show RU W3 xb mb s q v m' by rw [← hWW3]; exact HUQ.out.still (only_drewN wr _))
                    have HO3 := hid (show Only [xb, mb] w W3 by rw [← hWW3]; exact HOQ.out.trans ((only_drewN wr _).mono (by simp)))
                    rw [hWW3]
                    clear hWW3
                    go_wp2_with fail
                    refine (bad_c (HU3.out) 71).mono ?_
                    rintro e w5 ⟨rfl, hx5, ho5⟩
                    have HX5 := hid hx5
                    have HO5 := hid ho5
                    clear hx5 ho5
                    go_wp2
                    go_ret
                    rw [HP.out]
                    exact ⟨⟨⟨_, rfl⟩, HX5.out⟩, HO3.out.trans (HO5.out)⟩
                  · have hkI : (0 : Int) < (k : Int) := by omega
                    have HKN := hid hk0
                    clear hk0
                    by_cases h59 : b.toNat = 59
                    · have H59 := hid (show (rest s q).head? = some 59 by rw [HHD.out, h59])
                      clear h59
                      rw [decide_eq_true H59.out] at HIQ
                      rcases hru : isRune u with _ | _
                      · have HP : Hid (o = (erM s m' q, .error (erF s m' q 71))) := hid (by rw [← HOO.out, ← fo_fails]; exact fo_congr (numK_none (.inr (.inr hru)) (.inl (by rw [HHD.out]; exact HDO.out)) (by omega)))
                        have hy0 := hwi.out.2 hru
                        subst hy0
                        clear hru
                        go_wp2
                        go_quiet ((first | (go_at_call 51; exact Calls.quiet_of (HMQ.out _)) | (go_at_call 102; exact Calls.quiet_of_same (HDG.out _))))
                        obtain ⟨W3, hWW3⟩ : ∃ W3, wr.drewN nq = W3 := ⟨_, rfl⟩
                        have HU3 := hid (show RU W3 xb mb s q v m' by rw [← hWW3]; exact HUQ.out.still (only_drewN wr _))
                        have HO3 := hid (show Only [xb, mb] w W3 by rw [← hWW3]; exact HOQ.out.trans ((only_drewN wr _).mono (by simp)))
                        rw [hWW3]
                        clear hWW3
                        go_wp2_with (first | (go_at_call 54; refine (HIQ.out _ (by first | exact HU3.out | exact HU3.out.still (only_drewN W3 _))).mono ?_; rintro e w4 ⟨rfl, n4, rfl⟩) | (go_at_call 46; refine (HWX.out _).mono ?_; rintro e w4x ⟨rfl, rfl⟩))
                        refine (bad_c (HU3.out.still (only_drewN W3 _)) 71).mono ?_
                        rintro e w5 ⟨rfl, hx5, ho5⟩
                        have HX5 := hid hx5
                        have HO5 := hid ho5
                        clear hx5 ho5
                        go_wp2
                        go_ret
                        rw [HP.out]
                        exact ⟨⟨⟨_, rfl⟩, HX5.out⟩, HO3.out.trans (Only.behind (only_drewN W3 _) HO5.out)⟩
                      · have HP : Hid (o = fo s m' q (andThen skip fun _ _ => done u)) := hid (by rw [← HOO.out]; exact fo_congr (numK_semi H59.out (by have := HKN.out; omega) hru))
                        have hy0 := (hwi.out.1 hru).1
                        clear hru
                        go_wp2
                        go_quiet ((first | (go_at_call 51; exact Calls.quiet_of (HMQ.out _)) | (go_at_call 102; exact Calls.quiet_of_same (HDG.out _))))
                        obtain ⟨W3, hWW3⟩ : ∃ W3, wr.drewN nq = W3 := ⟨_, rfl⟩
                        have HU3 := hid (show RU W3 xb mb s q v m' by rw [← hWW3]; exact HUQ.out.still (only_drewN wr _))
                        have HO3 := hid (show Only [xb, mb] w W3 by rw [← hWW3]; exact HOQ.out.trans ((only_drewN wr _).mono (by simp)))
                        rw [hWW3]
                        clear hWW3
                        go_wp2_with (first | (go_at_call 54; refine (HIQ.out _ (by first | exact HU3.out | exact HU3.out.still (only_drewN W3 _))).mono ?_; rintro e w4 ⟨rfl, n4, rfl⟩) | (go_at_call 46; refine (HWX.out _).mono ?_; rintro e w4x ⟨rfl, rfl⟩))
                        refine (take_c (HU3.out.still (only_drewN W3 _)) hqs).mono ?_
                        rintro e w5 ⟨rfl, h1, h2, ho5⟩
                        have HO5 := hid (HO3.out.trans (Only.behind (only_drewN W3 _) ho5))
                        have HRES : Hid (PRi w5 xb mb s v o (.returned (.int .i64 (u : Int)))) := hid (by
                          rcases hs2 : m'.stepOk 1 with _ | _
                          · obtain ⟨q2, x2, hx⟩ := h2 hs2
                            rw [HP.out, fo_skip_no HUQ.out.why hqs hs2]
                            exact ⟨⟨_, rfl⟩, q2, x2, hx⟩
                          · rw [HP.out, fo_skip_yes HUQ.out.why hqs hs2, fo_done (h1 hs2).rs.ok (h1 hs2).why]
                            exact ⟨rfl, h1 hs2⟩)
                        clear h1 h2 ho5
                        go_wp2
                        go_ret
                        exact ⟨HRES.out, HO5.out⟩
                    · have H59 := hid (show ¬ (rest s q).head? = some 59 by rw [HHD.out]; exact fun e => h59 (Option.some.inj e))
                      clear h59
                      rw [decide_eq_false H59.out] at HIQ
                      have HP : Hid (o = (erM s m' q, .error (erF s m' q 71))) := hid (by rw [← HOO.out, ← fo_fails]; exact fo_congr (numK_none (.inl H59.out) (.inl (by rw [HHD.out]; exact HDO.out)) (by omega)))
                      go_wp2
                      go_quiet ((first | (go_at_call 51; exact Calls.quiet_of (HMQ.out _)) | (go_at_call 102; exact Calls.quiet_of_same (HDG.out _))))
                      obtain ⟨W3, hWW3⟩ : ∃ W3, wr.drewN nq = W3 := ⟨_, rfl⟩
                      have HU3 := hid (show RU W3 xb mb s q v m' by rw [← hWW3]; exact HUQ.out.still (only_drewN wr _))
                      have HO3 := hid (show Only [xb, mb] w W3 by rw [← hWW3]; exact HOQ.out.trans ((only_drewN wr _).mono (by simp)))
                      rw [hWW3]
                      clear hWW3
                      go_wp2_with (first | (go_at_call 54; refine (HIQ.out _ (by first | exact HU3.out | exact HU3.out.still (only_drewN W3 _))).mono ?_; rintro e w4 ⟨rfl, n4, rfl⟩) | (go_at_call 46; refine (HWX.out _).mono ?_; rintro e w4x ⟨rfl, rfl⟩))
                      refine (bad_c (HU3.out.still (only_drewN W3 _)) 71).mono ?_
                      rintro e w5 ⟨rfl, hx5, ho5⟩
                      have HX5 := hid hx5
                      have HO5 := hid ho5
                      clear hx5 ho5
                      go_wp2
                      go_ret
                      rw [HP.out]
                      exact ⟨⟨⟨_, rfl⟩, HX5.out⟩, HO3.out.trans (Only.behind (only_drewN W3 _) HO5.out)⟩
                · rw [hdo] at hdi
                  simp only at hdi
                  rw [hdi] at HDG
                  have HDO := hid hdo
                  have hd16 := digO_lt hdo
                  have hd0 : (0 : Int) ≤ (d : Int) := by omega
                  have hd15 : (d : Int) ≤ 15 := by omega
                  have hav := alive_val hk6 HK16.out hd16
                  have hna : ∀ W, Calls Tryd.prog 103 #[.int .i64 (16 * (u : Int) + (d : Int)), .int .i64 ((k : Int) + 1)] W fun e w' => e = .returned (.bool (decide (k < 5 ∨ (k = 5 ∧ isRune (16 * u + d) = true)))) ∧ w' = W := by
                    intro W
                    have h1 := aliveR_c (16 * u + d) (k + 1) (by omega) (by omega) W
                    rw [hav, show ((16 * u + d : Nat) : Int) = 16 * (u : Int) + (d : Int) by omega, show ((k + 1 : Nat) : Int) = (k : Int) + 1 by omega] at h1
                    exact h1
                  have HAL := hid hna
                  have hno : ¬ b.toNat = 59 := by intro e; rw [e] at hdo; cases hdo
                  have H59 := hid (show ¬ (rest s q).head? = some 59 by rw [HHD.out]; exact fun e => hno (Option.some.inj e))
                  rw [decide_eq_false H59.out] at HIQ
                  have hm1 : 0 ≤ 16 * (u : Int) ∧ 16 * (u : Int) ≤ 268435440 := by omega
                  have hm2 : 0 ≤ 16 * (u : Int) + (d : Int) ∧ 16 * (u : Int) + (d : Int) ≤ 268435455 := by omega
                  clear hdi hdo hav hna hno hd16
                  by_cases hgo : k < 5 ∨ (k = 5 ∧ isRune (16 * u + d) = true)
                  · rw [decide_eq_true hgo] at HAL
                    have HP : Hid (o = fo s m' q (andThen skip fun _ _ => numK (6 - (k + 1)) (16 * u + d))) := hid (by
                      rw [← HOO.out, show 6 - k = (6 - (k + 1)) + 1 by omega]
                      exact fo_congr (numK_more (by rw [HHD.out]; exact HDO.out) (by intro h; rcases hgo with g | g; omega; exact g.2)))
                    have HK5 : Hid (k + 1 ≤ 6) := hid (by omega)
                    clear hgo
                    go_wp2
                    go_quiet ((first | (go_at_call 51; exact Calls.quiet_of (HMQ.out _)) | (go_at_call 102; exact Calls.quiet_of_same (HDG.out _)) | (go_at_call 103; exact Calls.quiet_of_same (HAL.out _))))
                    obtain ⟨W3, hWW3⟩ : ∃ W3, wr.drewN nq = W3 := ⟨_, rfl⟩
                    have HU3 := hid (show RU W3 xb mb s q v m' by rw [← hWW3]; exact HUQ.out.still (only_drewN wr _))
                    have HO3 := hid (show Only [xb, mb] w W3 by rw [← hWW3]; exact HOQ.out.trans ((only_drewN wr _).mono (by simp)))
                    rw [hWW3]
                    clear hWW3
                    have c1 : W3.cell? ⟨xb, 1, none⟩ = some (.string s) := HU3.out.rs.c.cell 1
                    have c2 : W3.cell? ⟨xb, 2, none⟩ = some (.int .i64 (q : Int)) := HU3.out.rs.c.cell 2
                    go_wp2
                    go_quiet ((go_at_call 102; exact Calls.quiet_of_same (HDG.out _)))
                    obtain ⟨W4, hWW4⟩ : ∃ W4, W3.drewN nq = W4 := ⟨_, rfl⟩
                    have HU4 := hid (show RU W4 xb mb s q v m' by rw [← hWW4]; exact HU3.out.still (only_drewN W3 _))
                    have HO4 := hid (show Only [xb, mb] w W4 by rw [← hWW4]; exact HO3.out.trans ((only_drewN W3 _).mono (by simp)))
                    rw [hWW4]
                    clear hWW4
                    go_wp2_with fail
                    refine (take_c HU4.out hqs).mono ?_
                    rintro e w5 ⟨rfl, h1, h2, ho5⟩
                    have H5 := hid h1
                    have H6 := hid h2
                    have HO5 := hid ho5
                    clear h1 h2 ho5
                    go_wp2
                    go_roundw
                    case rel =>
                      refine ⟨16 * u + d, k + 1, congrArg (Value.int .i64) (by omega), congrArg (Value.int .i64) (by omega), HK5.out, ?_⟩
                      rcases hs2 : m'.stepOk 1 with _ | _
                      · obtain ⟨q2, u2, hx2⟩ := H6.out hs2
                        exact .inr ⟨q2, u2, _, _, by rw [HP.out, fo_skip_no HUQ.out.why hqs hs2], hx2, HO4.out.trans HO5.out⟩
                      · exact .inl ⟨q + 1, m'.step 1, by rw [Nat.pow_succ]; have := HK16.out; omega, H5.out hs2, by rw [HP.out, fo_skip_yes HUQ.out.why hqs hs2], HO4.out.trans HO5.out⟩
                    case measure =>
                      rw [mR_fine HUQ.out]
                      rcases hs2 : m'.stepOk 1 with _ | _
                      · rw [mR_wrong (H6.out hs2)]; omega
                      · rw [mR_fine (H5.out hs2)]; omega
                  · rw [decide_eq_false hgo] at HAL
                    have HP : Hid (o = (erM s m' q, .error (erF s m' q 71))) := hid (by
                      rw [← HOO.out, ← fo_fails]
                      refine fo_congr ?_
                      rcases (by omega : k = 5 ∨ k = 6) with g | g
                      · subst g
                        exact numK_last (by rw [HHD.out]; exact HDO.out) (by rcases hz : isRune (16 * u + d) with _ | _; rfl; exact absurd (.inr ⟨rfl, hz⟩) hgo)
                      · exact numK_none (.inl H59.out) (.inr (by omega)) (by omega))
                    have hkI : (0 : Int) < (k : Int) := by omega
                    clear hgo
                    go_wp2
                    go_quiet ((first | (go_at_call 51; exact Calls.quiet_of (HMQ.out _)) | (go_at_call 102; exact Calls.quiet_of_same (HDG.out _)) | (go_at_call 103; exact Calls.quiet_of_same (HAL.out _))))
                    obtain ⟨W3, hWW3⟩ : ∃ W3, wr.drewN nq = W3 := ⟨_, rfl⟩
                    have HU3 := hid (show RU W3 xb mb s q v m' by rw [← hWW3]; exact HUQ.out.still (only_drewN wr _))
                    have HO3 := hid (show Only [xb, mb] w W3 by rw [← hWW3]; exact HOQ.out.trans ((only_drewN wr _).mono (by simp)))
                    rw [hWW3]
                    clear hWW3
                    go_wp2_with (first | (go_at_call 54; refine (HIQ.out _ (by first | exact HU3.out | exact HU3.out.still (only_drewN W3 _))).mono ?_; rintro e w4 ⟨rfl, n4, rfl⟩) | (go_at_call 46; refine (HWX.out _).mono ?_; rintro e w4x ⟨rfl, rfl⟩))
                    refine (bad_c (HU3.out.still (only_drewN W3 _)) 71).mono ?_
                    rintro e w5 ⟨rfl, hx5, ho5⟩
                    have HX5 := hid hx5
                    have HO5 := hid ho5
                    clear hx5 ho5
                    go_wp2
                    go_ret
                    rw [HP.out]
                    exact ⟨⟨⟨_, rfl⟩, HX5.out⟩, HO3.out.trans (Only.behind (only_drewN W3 _) HO5.out)⟩
              · have hqs' : ¬ q < s.size := by omega
                have HHD := hid hh
                clear hh hqs
                have hqs := hqs'
                clear hqs'
                have H59 := hid (show ¬ (rest s q).head? = some 59 by rw [HHD.out]; exact fun e => by cases e)
                rw [decide_eq_false H59.out] at HIQ
                rw [decide_eq_false hqs] at HMQ
                have HP : Hid (o = (erM s m' q, .error (erF s m' q 71))) := hid (by rw [← HOO.out, ← fo_fails]; exact fo_congr (numK_none (.inl H59.out) (.inl (by rw [HHD.out]; rfl)) (by omega)))
                by_cases hk0 : k = 0
                · have hkI : ¬ (0 : Int) < (k : Int) := by omega
                  clear hk0
                  go_wp2
                  go_quiet ((first | (go_at_call 51; exact Calls.quiet_of (HMQ.out _))))
                  obtain ⟨W3, hWW3⟩ : ∃ W3, wr.drewN nq = W3 := ⟨_, rfl⟩
                  have HU3 := hid (show RU W3 xb mb s q v m' by rw [← hWW3]; exact HUQ.out.still (only_drewN wr _))
                  have HO3 := hid (show Only [xb, mb] w W3 by rw [← hWW3]; exact HOQ.out.trans ((only_drewN wr _).mono (by simp)))
                  rw [hWW3]
                  clear hWW3
                  go_wp2_with fail
                  refine (bad_c (HU3.out) 71).mono ?_
                  rintro e w5 ⟨rfl, hx5, ho5⟩
                  have HX5 := hid hx5
                  have HO5 := hid ho5
                  clear hx5 ho5
                  go_wp2
                  go_ret
                  rw [HP.out]
                  exact ⟨⟨⟨_, rfl⟩, HX5.out⟩, HO3.out.trans (HO5.out)⟩
                · have hkI : (0 : Int) < (k : Int) := by omega
                  clear hk0
                  go_wp2
                  go_quiet ((first | (go_at_call 51; exact Calls.quiet_of (HMQ.out _))))
                  obtain ⟨W3, hWW3⟩ : ∃ W3, wr.drewN nq = W3 := ⟨_, rfl⟩
                  have HU3 := hid (show RU W3 xb mb s q v m' by rw [← hWW3]; exact HUQ.out.still (only_drewN wr _))
                  have HO3 := hid (show Only [xb, mb] w W3 by rw [← hWW3]; exact HOQ.out.trans ((only_drewN wr _).mono (by simp)))
                  rw [hWW3]
                  clear hWW3
                  go_wp2_with (first | (go_at_call 54; refine (HIQ.out _ (by first | exact HU3.out | exact HU3.out.still (only_drewN W3 _))).mono ?_; rintro e w4 ⟨rfl, n4, rfl⟩) | (go_at_call 46; refine (HWX.out _).mono ?_; rintro e w4x ⟨rfl, rfl⟩))
                  refine (bad_c (HU3.out.still (only_drewN W3 _)) 71).mono ?_
                  rintro e w5 ⟨rfl, hx5, ho5⟩
                  have HX5 := hid hx5
                  have HO5 := hid ho5
                  clear hx5 ho5
                  go_wp2
                  go_ret
                  rw [HP.out]
                  exact ⟨⟨⟨_, rfl⟩, HX5.out⟩, HO3.out.trans (Only.behind (only_drewN W3 _) HO5.out)⟩
            · have HOO := hid hoo
              clear hoo
              have HR := hid hr
              have HOK := hid ho
              have d6 : wr.cell? ⟨xb, 6, none⟩ = some (.bool true) := hr.c.cell 6
              clear hr ho
              have hcases : ((k : Int) = 0 ∧ ¬ (0 : Int) < (k : Int)) ∨ (0 : Int) < (k : Int) := by omega
              rcases hcases with ⟨-, hk0⟩ | hk0
              all_goals
                go_wp2
                go_quiet ((first | (go_at_call 51; exact Calls.quiet_of (HMx.out _ _ _ _ _ (HR.out.still (only_drewN _ _))))))
                obtain ⟨W3, hW3⟩ : ∃ W3, wr.drewN nq = W3 := ⟨_, rfl⟩
                have HR3 := hid (show RS W3 xb mb s q x F true mF by rw [← hW3]; exact HR.out.still (only_drewN wr nq))
                have HO3 := hid (show Only [xb, mb] w W3 by rw [← hW3]; exact HOK.out.trans ((only_drewN wr nq).mono (by simp)))
                rw [hW3]
                clear hW3
                go_wp2_with (first | (go_at_call 54; refine (HIx.out _ _ _ _ _ HR3.out 59 (by decide)).mono ?_; rintro e w4 ⟨rfl, n4, rfl⟩))
                refine (HBx.out _ _ _ _ _ (by first | exact HR3.out.still (only_drewN W3 _) | exact HR3.out)).mono ?_
                rintro e w5 ⟨rfl, rfl⟩
                go_wp2
                go_ret
                rw [HOO.out]
                first
                | exact ⟨⟨⟨_, rfl⟩, q, x, HR3.out.still (only_drewN W3 _)⟩, HO3.out.trans ((only_drewN W3 _).mono (by simp))⟩
                | exact ⟨⟨⟨_, rfl⟩, q, x, HR3.out⟩, HO3.out⟩
        · rw [decide_eq_false h120] at HI3
          have HP : Hid (o = (erM s m2 f1, .error (erF s m2 f1 71))) := hid (by rw [← HO1'.out]; exact fo_word_bad h120)
          clear h120 hf1
          go_wp2_with fail
          refine HI3.out.mono ?_
          rintro e w4 ⟨rfl, n4, rfl⟩
          go_wp2_with fail
          refine (bad_c (HU3.out.still (only_drewN w3 n4)) 71).mono ?_
          rintro e w5 ⟨rfl, hx5, ho5⟩
          have HX5 := hid hx5
          have HO5 := hid ho5
          clear hx5 ho5
          go_wp2
          go_ret
          rw [HP.out]
          exact ⟨⟨⟨_, rfl⟩, HX5.out⟩, HO3.out.trans (Only.behind (only_drewN w3 n4) HO5.out)⟩
    · have h35b := decide_eq_false h35
      have HH35 := hid h35
      clear h35
      go_wp2_with fail
      refine (HI1.out w1 HU1.out 35 (by decide)).mono ?_
      rintro e w2 ⟨rfl, n2, rfl⟩
      rw [h35b]
      clear h35b
      obtain ⟨W2, hW2⟩ : ∃ W2, w1.drewN n2 = W2 := ⟨_, rfl⟩
      have HU2 := hid (show RU W2 xb mb s f v m1 by rw [← hW2]; exact HU1.out.still (only_drewN w1 n2))
      have HO2 := hid (show Only [xb, mb] w W2 by rw [← hW2]; exact HO1.out.trans ((only_drewN w1 n2).mono (by simp)))
      rw [hW2]
      clear hW2 HU1 HO1 c2
      go_wp2_with fail
      rcases he : entOf (rest s f).head? with _ | e
      · have hoo : o = (erM s m1 f, .error (erF s m1 f 71)) := by
          rw [← HOO.out]
          show fo s m1 f (bodyP (rest s f).head?) = _
          unfold bodyP
          rw [he]
          exact fo_word_bad HH35.out
        have HP := hid hoo
        have HE := hid he
        clear hoo he HOO
        go_loopw [] (fun wr => RU wr xb mb s f v m1 ∧ Only [xb, mb] w wr) (fun wr => 0)
        case atStart => exact ⟨HU2.out, HO2.out⟩
        case round =>
          obtain ⟨hr, ho⟩ := hrel
          have HUQ := hid hr
          have HOQ := hid ho
          have d1 : wr.cell? ⟨xb, 1, none⟩ = some (.string s) := hr.rs.c.cell 1
          have d2 : wr.cell? ⟨xb, 2, none⟩ = some (.int .i64 (f : Int)) := hr.rs.c.cell 2
          clear hr ho
          rcases HUQ.out.nil_or with ⟨hqs, hh⟩ | ⟨hqs, hh⟩
          · have hqI : (f : Int) < (s.size : Int) := by omega
            obtain ⟨b, hb⟩ : ∃ b, s[f]'hqs = b := ⟨_, rfl⟩
            rw [hb] at hh
            by_cases h59 : b.toNat = 59
            · have HH : Hid ((rest s f).head? = some 59) := hid (by rw [hh, h59])
              have heI : (b.toNat : Int) = 59 := by omega
              have heB : ((b.toNat : Int) == 59) = true := by simpa using heI
              have heB2 : ((b.toNat : Int) != 59) = false := by simpa using heI
              clear hh h59 heI
              have mf : Tryd.prog.follows .mixedOrders = true := by kernel_rfl
              have x1 : ∀ d os, (behind wr d os).cell? ⟨xb, 1, none⟩ = some (.string s) := fun d os => (HUQ.out.still (only_behind wr d os)).rs.c.cell 1
              have x2 : ∀ d os, (behind wr d os).cell? ⟨xb, 2, none⟩ = some (.int .i64 (f : Int)) := fun d os => (HUQ.out.still (only_behind wr d os)).rs.c.cell 2
              have HMQ := hid (fun d os => more_c (HUQ.out.still (only_behind wr d os)).rs)
              simp only [Bool.not_false, Bool.true_and] at HMQ
              rw [decide_eq_true hqs] at HMQ
              go_wp2
              refine wp_region_behind (by assumption) (by kernel_rfl) ?_
              repeat (go_big_quiet_step ((first | (go_at_call 51; refine Calls.behind_of ((HMQ.out _ _).mono fun _ _ h => ⟨h.1, by obtain ⟨n, hn⟩ := h.2; rw [hn]; exact only_drewN _ n⟩)))))
              refine wpQuiet_nil ?_
              intro _ hw'
              obtain ⟨⟨dq, osq⟩, hw''⟩ := hw'
              subst hw''
              have HU3 := hid (HUQ.out.still (only_behind wr dq osq))
              have HO3 := hid (show Only [xb, mb] w (behind wr dq osq) from HOQ.out.trans ((only_behind wr dq osq).mono (by simp)))
              obtain ⟨W3, hW3⟩ : ∃ W3, behind wr dq osq = W3 := ⟨_, rfl⟩
              rw [hW3] at HU3 HO3
              simp only [hW3]
              clear hW3 x1 x2 HMQ
              have c1 : W3.cell? ⟨xb, 1, none⟩ = some (.string s) := HU3.out.rs.c.cell 1
              have c2 : W3.cell? ⟨xb, 2, none⟩ = some (.int .i64 (f : Int)) := HU3.out.rs.c.cell 2
              have c6 : W3.cell? ⟨xb, 6, none⟩ = some (.bool false) := HU3.out.rs.c.cell 6
              have HNM := hid (fun W => named_c ByteArray.empty W)
              rw [show bl ByteArray.empty = [] from rfl] at HNM
              have hz1 : (f : Int) ≤ (f : Int) := Int.le_refl _
              have hz2 : (f : Int) ≤ (s.size : Int) := by omega
              have hn1 : namedI [] = -1 := rfl
              rw [hn1] at HNM
              have HI3 := hid (fun n => is_c (HU3.out.still (only_drewN W3 n)).rs 59 (by decide))
              simp only [Bool.not_false, Bool.true_and] at HI3
              rw [decide_eq_true HH.out] at HI3
              go_wp2
              go_quiet ((first | (go_at_call 54; exact Calls.quiet_of (HI3.out _)) | (go_at_call 105; exact Calls.quiet_of_same (HNM.out _))))
              go_wp2_with fail
              refine (bad_c (HU3.out.still (only_drewN W3 nq)) 71).mono ?_
              rintro e w5 ⟨rfl, hx5, ho5⟩
              have HX5 := hid hx5
              have HO5 := hid ho5
              clear hx5 ho5
              go_wp2
              go_ret
              rw [HP.out]
              exact ⟨⟨⟨_, rfl⟩, HX5.out⟩, HO3.out.trans (Only.behind (only_drewN W3 nq) HO5.out)⟩
            · have hne : ¬ (b.toNat : Int) = 59 := by omega
              have hneB : ((b.toNat : Int) == 59) = false := by simpa using hne
              have hneB2 : ((b.toNat : Int) != 59) = true := by simpa using hne
              have HNE : Hid (¬ (rest s f).head? = some 59) := hid (by rw [hh]; exact fun e => h59 (Option.some.inj e))
              have hbl : bl (s.extract f (f + 1)) = [b.toNat] := by
                rw [bl_extract, Nat.add_sub_cancel_left]
                show (rest s f).take 1 = _
                rcases hq : rest s f with _ | ⟨x, l⟩
                · rw [hq] at hh; cases hh
                · rw [hq] at hh; simp at hh; rw [hh]; rfl
              have HBG := hid (fun W => begins_r (s.extract f (f + 1)) W (by rw [ByteArray.size_extract]; omega))
              have hbe := HE.out
              rw [hh] at hbe
              rw [hbl, entOf_nms hbe] at HBG
              have hz1 : (f : Int) ≤ (f : Int) + 1 := by omega
              have hz2 : (f : Int) + 1 ≤ (s.size : Int) := by omega
              clear hbl hbe h59 hh
              have mf : Tryd.prog.follows .mixedOrders = true := by kernel_rfl
              have x1 : ∀ d os, (behind wr d os).cell? ⟨xb, 1, none⟩ = some (.string s) := fun d os => (HUQ.out.still (only_behind wr d os)).rs.c.cell 1
              have x2 : ∀ d os, (behind wr d os).cell? ⟨xb, 2, none⟩ = some (.int .i64 (f : Int)) := fun d os => (HUQ.out.still (only_behind wr d os)).rs.c.cell 2
              have HMQ := hid (fun d os => more_c (HUQ.out.still (only_behind wr d os)).rs)
              simp only [Bool.not_false, Bool.true_and] at HMQ
              rw [decide_eq_true hqs] at HMQ
              go_wp2
              refine wp_region_behind (by assumption) (by kernel_rfl) ?_
              repeat (go_big_quiet_step ((first | (go_at_call 51; refine Calls.behind_of ((HMQ.out _ _).mono fun _ _ h => ⟨h.1, by obtain ⟨n, hn⟩ := h.2; rw [hn]; exact only_drewN _ n⟩)) | (go_at_call 104; refine Calls.behind_of ((HBG.out _).mono fun _ _ h => ⟨h.1, by rw [h.2]; exact (Only.refl _ _).alloc _⟩)))))
              refine wpQuiet_nil ?_
              intro _ hw'
              obtain ⟨⟨dq, osq⟩, hw''⟩ := hw'
              subst hw''
              have HU3 := hid (HUQ.out.still (only_behind wr dq osq))
              have HO3 := hid (show Only [xb, mb] w (behind wr dq osq) from HOQ.out.trans ((only_behind wr dq osq).mono (by simp)))
              obtain ⟨W3, hW3⟩ : ∃ W3, behind wr dq osq = W3 := ⟨_, rfl⟩
              rw [hW3] at HU3 HO3
              simp only [hW3]
              clear hW3 x1 x2 HMQ
              have c1 : W3.cell? ⟨xb, 1, none⟩ = some (.string s) := HU3.out.rs.c.cell 1
              have c2 : W3.cell? ⟨xb, 2, none⟩ = some (.int .i64 (f : Int)) := HU3.out.rs.c.cell 2
              have c6 : W3.cell? ⟨xb, 6, none⟩ = some (.bool false) := HU3.out.rs.c.cell 6
              have HI3 := hid (fun n => is_c (HU3.out.still (only_drewN W3 n)).rs 59 (by decide))
              simp only [Bool.not_false, Bool.true_and] at HI3
              rw [decide_eq_false HNE.out] at HI3
              have HNM := hid (fun W => named_c ⟨#[]⟩ W)
              go_wp2
              go_quiet ((first | (go_at_call 54; exact Calls.quiet_of (HI3.out _)) | (go_at_call 105; exact Calls.quiet_of_same (HNM.out _))))
              go_wp2_with fail
              refine (bad_c (HU3.out.still (only_drewN W3 nq)) 71).mono ?_
              rintro e w5 ⟨rfl, hx5, ho5⟩
              have HX5 := hid hx5
              have HO5 := hid ho5
              clear hx5 ho5
              go_wp2
              go_ret
              rw [HP.out]
              exact ⟨⟨⟨_, rfl⟩, HX5.out⟩, HO3.out.trans (Only.behind (only_drewN W3 nq) HO5.out)⟩
          · have hqs' : ¬ f < s.size := by omega
            have HNE : Hid (¬ (rest s f).head? = some 59) := hid (by rw [hh]; exact fun e => by cases e)
            clear hh hqs
            have hqs := hqs'
            have mf : Tryd.prog.follows .mixedOrders = true := by kernel_rfl
            have x1 : ∀ d os, (behind wr d os).cell? ⟨xb, 1, none⟩ = some (.string s) := fun d os => (HUQ.out.still (only_behind wr d os)).rs.c.cell 1
            have x2 : ∀ d os, (behind wr d os).cell? ⟨xb, 2, none⟩ = some (.int .i64 (f : Int)) := fun d os => (HUQ.out.still (only_behind wr d os)).rs.c.cell 2
            have HMQ := hid (fun d os => more_c (HUQ.out.still (only_behind wr d os)).rs)
            simp only [Bool.not_false, Bool.true_and] at HMQ
            rw [decide_eq_false hqs] at HMQ
            go_wp2
            refine wp_region_behind (by assumption) (by kernel_rfl) ?_
            repeat (go_big_quiet_step ((first | (go_at_call 51; refine Calls.behind_of ((HMQ.out _ _).mono fun _ _ h => ⟨h.1, by obtain ⟨n, hn⟩ := h.2; rw [hn]; exact only_drewN _ n⟩)))))
            refine wpQuiet_nil ?_
            intro _ hw'
            obtain ⟨⟨dq, osq⟩, hw''⟩ := hw'
            subst hw''
            have HU3 := hid (HUQ.out.still (only_behind wr dq osq))
            have HO3 := hid (show Only [xb, mb] w (behind wr dq osq) from HOQ.out.trans ((only_behind wr dq osq).mono (by simp)))
            obtain ⟨W3, hW3⟩ : ∃ W3, behind wr dq osq = W3 := ⟨_, rfl⟩
            rw [hW3] at HU3 HO3
            simp only [hW3]
            clear hW3 x1 x2 HMQ
            have c1 : W3.cell? ⟨xb, 1, none⟩ = some (.string s) := HU3.out.rs.c.cell 1
            have c2 : W3.cell? ⟨xb, 2, none⟩ = some (.int .i64 (f : Int)) := HU3.out.rs.c.cell 2
            have c6 : W3.cell? ⟨xb, 6, none⟩ = some (.bool false) := HU3.out.rs.c.cell 6
            have HI3 := hid (fun n => is_c (HU3.out.still (only_drewN W3 n)).rs 59 (by decide))
            simp only [Bool.not_false, Bool.true_and] at HI3
            rw [decide_eq_false HNE.out] at HI3
            have HNM := hid (fun W => named_c ⟨#[]⟩ W)
            go_wp2
            go_quiet ((first | (go_at_call 54; exact Calls.quiet_of (HI3.out _)) | (go_at_call 105; exact Calls.quiet_of_same (HNM.out _))))
            go_wp2_with fail
            refine (bad_c (HU3.out.still (only_drewN W3 nq)) 71).mono ?_
            rintro e w5 ⟨rfl, hx5, ho5⟩
            have HX5 := hid hx5
            have HO5 := hid ho5
            clear hx5 ho5
            go_wp2
            go_ret
            rw [HP.out]
            exact ⟨⟨⟨_, rfl⟩, HX5.out⟩, HO3.out.trans (Only.behind (only_drewN W3 nq) HO5.out)⟩
      · have hmem : e ∈ ents := List.mem_of_find?_eq_some he
        have hhead : e.2.head? = (rest s f).head? := by
          have := List.find?_some he
          simpa using this
        obtain ⟨nm, hnm, hnms, hl1, hl4, hlt⟩ := ent_names hmem
        obtain ⟨hnamed, hnamedj⟩ := named_all _ hnms
        simp only at hnamed hnamedj
        have hnh : nm.head? = (rest s f).head? := by
          rw [← hhead, hnm]
          rcases nm with _ | ⟨x, l⟩
          · simp at hl1
          · rfl
        have hbeg : ∀ (j c : Nat), (1 ≤ j ∨ nm.head? = some c) → j ≤ nm.length → c < 256 → begB (nm.take j ++ [c]) = decide (nm[j]? = some c) := fun j c h1 h2 h3 => beg_next (e := (e.1, nm)) hnms (j := j) (c := c) h1 h2 h3
        have hoo : fo s m1 f (andThen (word 71 ((nm ++ [59]).drop 0)) fun _ _ => done e.1) = o := by
          rw [← HOO.out]
          show _ = fo s m1 f (bodyP (rest s f).head?)
          unfold bodyP
          rw [he]
          simp only
          rw [hnm]
          rfl
        have HO0 := hid hoo
        have HBEG := hid hbeg
        have HNA := hid hnamed
        have HNJ := hid hnamedj
        have HNH := hid hnh
        have HLT := hid hlt
        have HL := hid (And.intro hl1 hl4)
        clear hoo he HOO hmem hhead hnm hnms hbeg hnamed hnamedj hnh hlt hl1 hl4
        obtain ⟨er, her⟩ : ∃ er, e.1 = er := ⟨_, rfl⟩
        rw [her] at HO0 HNA
        clear her
        go_loopw [] (fun wr => (∃ (j q : Nat) (m' : M), Hid (q = f + j) ∧ j ≤ nm.length ∧ (rest s f).take j = nm.take j ∧ RU wr xb mb s q v m' ∧ fo s m' q (andThen (word 71 ((nm ++ [59]).drop j)) fun _ _ => done er) = o ∧ Only [xb, mb] w wr) ∨ (∃ q u mF F, o = (mF, .error F) ∧ RS wr xb mb s q u F true mF ∧ Only [xb, mb] w wr)) (fun wr => mR s xb wr)
        case atStart => exact .inl ⟨0, f, m1, rfl, Nat.zero_le _, rfl, HU2.out, HO0.out, HO2.out⟩
        case round =>
          rcases hrel with ⟨j, q, m', HQ, hj, htk, hr, hoo, ho⟩ | ⟨q, u, mF, F, hoo, hr, ho⟩
          · have HUQ := hid hr
            have HOQ := hid ho
            have HOO := hid hoo
            have HJ := hid hj
            have HTK := hid htk
            have hfq : f ≤ q := by rw [HQ.out]; omega
            have hqle : q ≤ s.size := hr.rs.le
            have d1 : wr.cell? ⟨xb, 1, none⟩ = some (.string s) := hr.rs.c.cell 1
            have d2 : wr.cell? ⟨xb, 2, none⟩ = some (.int .i64 (q : Int)) := hr.rs.c.cell 2
            have hzf : (f : Int) ≤ (q : Int) := by omega
            have hzq : (q : Int) ≤ 4294967296 := by omega
            have hzs : (q : Int) ≤ (s.size : Int) := by omega
            -- what the parser wants here
            have hdrop : ∃ c cs, (nm ++ [59]).drop j = c :: cs ∧ ((j < nm.length ∧ nm[j]? = some c) ∨ (j = nm.length ∧ c = 59 ∧ cs = [])) := by
              rcases Nat.lt_or_ge j nm.length with g | g
              · refine ⟨nm[j], (nm ++ [59]).drop (j + 1), ?_, .inl ⟨g, List.getElem?_eq_getElem g⟩⟩
                rw [List.drop_eq_getElem_cons (by simp; omega), List.getElem_append_left g]
              · have : j = nm.length := by omega
                subst this
                exact ⟨59, [], by rw [List.drop_left], .inr ⟨rfl, rfl, rfl⟩⟩
            have HDR := hid hdrop
            have hbad : Hid (∀ b : Option Nat, (rest s q).head? = b → (∀ c, ((j < nm.length ∧ nm[j]? = some c) ∨ (j = nm.length ∧ c = 59)) → b ≠ some c) → o = (erM s m' q, .error (erF s m' q 71))) := hid (by
              intro b hb hn
              obtain ⟨c, cs, h1, h2⟩ := HDR.out
              rw [← HOO.out, h1]
              refine fo_word_bad ?_
              rw [hb]
              exact hn c (h2.imp id fun h => ⟨h.1, h.2.1⟩))
            clear hr ho hoo hj htk hdrop
            rcases HUQ.out.nil_or with ⟨hqs, hh⟩ | ⟨hqs, hh⟩
            · have hqI : (q : Int) < (s.size : Int) := by omega
              obtain ⟨b, hb⟩ : ∃ b, s[q]'hqs = b := ⟨_, rfl⟩
              rw [hb] at hh
              have hb256 := b.toNat_lt
              by_cases h59 : b.toNat = 59
              · have HH : Hid ((rest s q).head? = some 59) := hid (by rw [hh, h59])
                have heI : (b.toNat : Int) = 59 := by omega
                have heB : ((b.toNat : Int) == 59) = true := by simpa using heI
                have heB2 : ((b.toNat : Int) != 59) = false := by simpa using heI
                have hpre : bl (s.extract f q) = nm.take j := by
                  rw [bl_extract, HQ.out, Nat.add_sub_cancel_left]
                  exact HTK.out
                clear hh h59 heI
                by_cases hjl : j = nm.length
                · have hnn : namedI (bl (s.extract f q)) = er := by rw [hpre, hjl, List.take_length]; exact HNA.out
                  have HJL := hid hjl
                  have HNM := hid (fun W => named_c (s.extract f q) W)
                  rw [hnn] at HNM
                  have her0 : (0 : Int) ≤ (er : Int) := by omega
                  have hpar : Hid (fo s m' q (andThen (word 71 [59]) fun _ _ => done er) = o) := hid (by
                    have hdj : (nm ++ [59]).drop j = [59] := by rw [hjl]; exact List.drop_left
                    rw [← HOO.out, hdj])
                  clear hpre hjl hnn
                  have mf : Tryd.prog.follows .mixedOrders = true := by kernel_rfl
                  have x1 : ∀ d os, (behind wr d os).cell? ⟨xb, 1, none⟩ = some (.string s) := fun d os => (HUQ.out.still (only_behind wr d os)).rs.c.cell 1
                  have x2 : ∀ d os, (behind wr d os).cell? ⟨xb, 2, none⟩ = some (.int .i64 (q : Int)) := fun d os => (HUQ.out.still (only_behind wr d os)).rs.c.cell 2
                  have HMQ := hid (fun d os => more_c (HUQ.out.still (only_behind wr d os)).rs)
                  simp only [Bool.not_false, Bool.true_and] at HMQ
                  rw [decide_eq_true hqs] at HMQ
                  go_wp2
                  refine wp_region_behind (by assumption) (by kernel_rfl) ?_
                  repeat (go_big_quiet_step ((first | (go_at_call 51; refine Calls.behind_of ((HMQ.out _ _).mono fun _ _ h => ⟨h.1, by obtain ⟨n, hn⟩ := h.2; rw [hn]; exact only_drewN _ n⟩)))))
                  refine wpQuiet_nil ?_
                  intro _ hw'
                  obtain ⟨⟨dq, osq⟩, hw''⟩ := hw'
                  subst hw''
                  have HU3 := hid (HUQ.out.still (only_behind wr dq osq))
                  have HO3 := hid (show Only [xb, mb] w (behind wr dq osq) from HOQ.out.trans ((only_behind wr dq osq).mono (by simp)))
                  obtain ⟨W3, hW3⟩ : ∃ W3, behind wr dq osq = W3 := ⟨_, rfl⟩
                  rw [hW3] at HU3 HO3
                  simp only [hW3]
                  clear hW3 x1 x2 HMQ
                  have c1 : W3.cell? ⟨xb, 1, none⟩ = some (.string s) := HU3.out.rs.c.cell 1
                  have c2 : W3.cell? ⟨xb, 2, none⟩ = some (.int .i64 (q : Int)) := HU3.out.rs.c.cell 2
                  have c6 : W3.cell? ⟨xb, 6, none⟩ = some (.bool false) := HU3.out.rs.c.cell 6
                  have HI3 := hid (fun n => is_c (HU3.out.still (only_drewN W3 n)).rs 59 (by decide))
                  simp only [Bool.not_false, Bool.true_and] at HI3
                  rw [decide_eq_true HH.out] at HI3
                  go_wp2
                  go_quiet ((first | (go_at_call 54; exact Calls.quiet_of (HI3.out _)) | (go_at_call 105; exact Calls.quiet_of_same (HNM.out _))))
                  obtain ⟨W4, hW4⟩ : ∃ W4, W3.drewN nq = W4 := ⟨_, rfl⟩
                  have HU4 := hid (show RU W4 xb mb s q v m' by rw [← hW4]; exact HU3.out.still (only_drewN W3 nq))
                  have HO4 := hid (show Only [xb, mb] w W4 by rw [← hW4]; exact HO3.out.trans ((only_drewN W3 nq).mono (by simp)))
                  rw [hW4]
                  have k1 : W4.cell? ⟨xb, 1, none⟩ = some (.string s) := HU4.out.rs.c.cell 1
                  have k2 : W4.cell? ⟨xb, 2, none⟩ = some (.int .i64 (q : Int)) := HU4.out.rs.c.cell 2
                  clear hW4 c1 c2 c6
                  go_wp2
                  go_quiet ((go_at_call 105; exact Calls.quiet_of_same (HNM.out _)))
                  go_wp2_with fail
                  refine (take_c (HU4.out.still (only_drewN W4 _)) hqs).mono ?_
                  rintro e w5 ⟨rfl, h5, h6, ho5⟩
                  have H5 := hid h5
                  have H6 := hid h6
                  have HO5 := hid ho5
                  clear h5 h6 ho5
                  go_wp2
                  go_ret
                  refine ⟨?_, HO4.out.trans (Only.behind (only_drewN W4 _) HO5.out)⟩
                  rcases hs2 : m'.stepOk 1 with _ | _
                  · rw [← hpar.out, fo_word_no HU4.out.why HH.out hqs hs2]
                    exact ⟨⟨_, rfl⟩, H6.out hs2⟩
                  · have hok := M.step_ok HU4.out.rs.ok 1
                    have hwy : (m'.step 1).why = 0 := by rw [(M.step_good HU4.out.why (by decide) hs2).1]; exact HU4.out.why
                    rw [← hpar.out, fo_word_yes HU4.out.why HH.out hqs hs2, fo_word_nil, fo_done hok hwy]
                    exact ⟨rfl, H5.out hs2⟩
                · have hjlt : j < nm.length := by have := HJ.out; omega
                  have hnn : namedI (bl (s.extract f q)) = -1 := by rw [hpre]; exact HNJ.out j hjlt
                  have HNM := hid (fun W => named_c (s.extract f q) W)
                  rw [hnn] at HNM
                  have HP := hid (hbad.out _ HH.out (by
                    intro c hc e
                    rcases hc with ⟨_, h2⟩ | ⟨h2, _⟩
                    · have h3 := HLT.out c (List.mem_of_getElem? h2)
                      exact h3.2 (Option.some.inj e).symm
                    · exact hjl h2))
                  clear hpre hnn hjl hjlt
                  have mf : Tryd.prog.follows .mixedOrders = true := by kernel_rfl
                  have x1 : ∀ d os, (behind wr d os).cell? ⟨xb, 1, none⟩ = some (.string s) := fun d os => (HUQ.out.still (only_behind wr d os)).rs.c.cell 1
                  have x2 : ∀ d os, (behind wr d os).cell? ⟨xb, 2, none⟩ = some (.int .i64 (q : Int)) := fun d os => (HUQ.out.still (only_behind wr d os)).rs.c.cell 2
                  have HMQ := hid (fun d os => more_c (HUQ.out.still (only_behind wr d os)).rs)
                  simp only [Bool.not_false, Bool.true_and] at HMQ
                  rw [decide_eq_true hqs] at HMQ
                  go_wp2
                  refine wp_region_behind (by assumption) (by kernel_rfl) ?_
                  repeat (go_big_quiet_step ((first | (go_at_call 51; refine Calls.behind_of ((HMQ.out _ _).mono fun _ _ h => ⟨h.1, by obtain ⟨n, hn⟩ := h.2; rw [hn]; exact only_drewN _ n⟩)))))
                  refine wpQuiet_nil ?_
                  intro _ hw'
                  obtain ⟨⟨dq, osq⟩, hw''⟩ := hw'
                  subst hw''
                  have HU3 := hid (HUQ.out.still (only_behind wr dq osq))
                  have HO3 := hid (show Only [xb, mb] w (behind wr dq osq) from HOQ.out.trans ((only_behind wr dq osq).mono (by simp)))
                  obtain ⟨W3, hW3⟩ : ∃ W3, behind wr dq osq = W3 := ⟨_, rfl⟩
                  rw [hW3] at HU3 HO3
                  simp only [hW3]
                  clear hW3 x1 x2 HMQ
                  have c1 : W3.cell? ⟨xb, 1, none⟩ = some (.string s) := HU3.out.rs.c.cell 1
                  have c2 : W3.cell? ⟨xb, 2, none⟩ = some (.int .i64 (q : Int)) := HU3.out.rs.c.cell 2
                  have c6 : W3.cell? ⟨xb, 6, none⟩ = some (.bool false) := HU3.out.rs.c.cell 6
                  have hm1 : ¬ (0 : Int) ≤ -1 := by omega
                  have HI3 := hid (fun n => is_c (HU3.out.still (only_drewN W3 n)).rs 59 (by decide))
                  simp only [Bool.not_false, Bool.true_and] at HI3
                  rw [decide_eq_true HH.out] at HI3
                  go_wp2
                  go_quiet ((first | (go_at_call 54; exact Calls.quiet_of (HI3.out _)) | (go_at_call 105; exact Calls.quiet_of_same (HNM.out _))))
                  go_wp2_with fail
                  refine (bad_c (HU3.out.still (only_drewN W3 nq)) 71).mono ?_
                  rintro e w5 ⟨rfl, hx5, ho5⟩
                  have HX5 := hid hx5
                  have HO5 := hid ho5
                  clear hx5 ho5
                  go_wp2
                  go_ret
                  rw [HP.out]
                  exact ⟨⟨⟨_, rfl⟩, HX5.out⟩, HO3.out.trans (Only.behind (only_drewN W3 nq) HO5.out)⟩
              · have hne : ¬ (b.toNat : Int) = 59 := by omega
                have hneB : ((b.toNat : Int) == 59) = false := by simpa using hne
                have hneB2 : ((b.toNat : Int) != 59) = true := by simpa using hne
                have HNE : Hid (¬ (rest s q).head? = some 59) := hid (by rw [hh]; exact fun e => h59 (Option.some.inj e))
                have hbl : bl (s.extract f (q + 1)) = nm.take j ++ [b.toNat] := by
                  rw [bl_extract, HQ.out, show f + j + 1 - f = j + 1 by omega, List.take_add_one]
                  have h1 := HTK.out
                  have h2 : (rest s f)[j]? = some b.toNat := by
                    rw [← hh, rest_head, HQ.out]
                    show ((bl s).drop f)[j]? = _
                    rw [List.getElem?_drop]
                  show (rest s f).take j ++ (rest s f)[j]?.toList = _
                  rw [h1, h2]
                  rfl
                have HBG := hid (fun W => begins_r (s.extract f (q + 1)) W (by rw [ByteArray.size_extract]; omega))
                rw [hbl] at HBG
                have hbv := HBEG.out j b.toNat (by
                  rcases Nat.eq_zero_or_pos j with g | g
                  · right
                    rw [HNH.out, ← hh, HQ.out, g, Nat.add_zero]
                  · exact .inl g) HJ.out hb256
                rw [hbv] at HBG
                have HHD := hid hh
                have hz1 : (f : Int) ≤ (q : Int) + 1 := by omega
                have hz2 : (q : Int) + 1 ≤ (s.size : Int) := by omega
                have hz3 : (0 : Int) ≤ (q : Int) + 1 := by omega
                clear hbl hbv h59 hh
                by_cases hgo : nm[j]? = some b.toNat
                · rw [decide_eq_true hgo] at HBG
                  have HGO := hid hgo
                  clear hgo
                  have mf : Tryd.prog.follows .mixedOrders = true := by kernel_rfl
                  have x1 : ∀ d os, (behind wr d os).cell? ⟨xb, 1, none⟩ = some (.string s) := fun d os => (HUQ.out.still (only_behind wr d os)).rs.c.cell 1
                  have x2 : ∀ d os, (behind wr d os).cell? ⟨xb, 2, none⟩ = some (.int .i64 (q : Int)) := fun d os => (HUQ.out.still (only_behind wr d os)).rs.c.cell 2
                  have HMQ := hid (fun d os => more_c (HUQ.out.still (only_behind wr d os)).rs)
                  simp only [Bool.not_false, Bool.true_and] at HMQ
                  rw [decide_eq_true hqs] at HMQ
                  go_wp2
                  refine wp_region_behind (by assumption) (by kernel_rfl) ?_
                  repeat (go_big_quiet_step ((first | (go_at_call 51; refine Calls.behind_of ((HMQ.out _ _).mono fun _ _ h => ⟨h.1, by obtain ⟨n, hn⟩ := h.2; rw [hn]; exact only_drewN _ n⟩)) | (go_at_call 104; refine Calls.behind_of ((HBG.out _).mono fun _ _ h => ⟨h.1, by rw [h.2]; exact (Only.refl _ _).alloc _⟩)))))
                  refine wpQuiet_nil ?_
                  intro _ hw'
                  obtain ⟨⟨dq, osq⟩, hw''⟩ := hw'
                  subst hw''
                  have HU3 := hid (HUQ.out.still (only_behind wr dq osq))
                  have HO3 := hid (show Only [xb, mb] w (behind wr dq osq) from HOQ.out.trans ((only_behind wr dq osq).mono (by simp)))
                  obtain ⟨W3, hW3⟩ : ∃ W3, behind wr dq osq = W3 := ⟨_, rfl⟩
                  rw [hW3] at HU3 HO3
                  simp only [hW3]
                  clear hW3 x1 x2 HMQ
                  have c1 : W3.cell? ⟨xb, 1, none⟩ = some (.string s) := HU3.out.rs.c.cell 1
                  have c2 : W3.cell? ⟨xb, 2, none⟩ = some (.int .i64 (q : Int)) := HU3.out.rs.c.cell 2
                  have c6 : W3.cell? ⟨xb, 6, none⟩ = some (.bool false) := HU3.out.rs.c.cell 6
                  go_wp2_with fail
                  refine (take_c HU3.out hqs).mono ?_
                  rintro e w5 ⟨rfl, h5, h6, ho5⟩
                  have H5 := hid h5
                  have H6 := hid h6
                  have HO5 := hid ho5
                  clear h5 h6 ho5
                  go_wp2
                  go_roundw
                  case rel =>
                    obtain ⟨c, cs, g1, g2⟩ := HDR.out
                    have hjl : j < nm.length := (List.getElem?_eq_some_iff.1 HGO.out).1
                    have hcb : c = b.toNat := by
                      rcases g2 with ⟨_, g⟩ | ⟨g, _⟩
                      · rw [HGO.out] at g; exact (Option.some.inj g).symm
                      · omega
                    have hcs : (nm ++ [59]).drop (j + 1) = cs := by
                      rw [← List.drop_drop, g1]; rfl
                    have hoo2 := HOO.out
                    rw [g1, hcb] at hoo2
                    rcases hs2 : m'.stepOk 1 with _ | _
                    · obtain ⟨q2, u2, hx2⟩ := H6.out hs2
                      exact .inr ⟨q2, u2, _, _, by rw [← hoo2, fo_word_no HU3.out.why HHD.out hqs hs2], hx2, HO3.out.trans HO5.out⟩
                    · refine .inl ⟨j + 1, q + 1, m'.step 1, by show q + 1 = f + (j + 1); rw [HQ.out]; omega, hjl, ?_, H5.out hs2, ?_, HO3.out.trans HO5.out⟩
                      · rw [List.take_add_one, List.take_add_one, HTK.out, HGO.out]
                        congr 2
                        rw [← HHD.out, rest_head, HQ.out]
                        show ((bl s).drop f)[j]? = _
                        rw [List.getElem?_drop]
                      · rw [hcs, ← hoo2, fo_word_yes HU3.out.why HHD.out hqs hs2]
                  case measure =>
                    rw [mR_fine HUQ.out]
                    rcases hs2 : m'.stepOk 1 with _ | _
                    · rw [mR_wrong (H6.out hs2)]; omega
                    · rw [mR_fine (H5.out hs2)]; omega
                · rw [decide_eq_false hgo] at HBG
                  have HP := hid (hbad.out _ HHD.out (by
                    intro c hc e
                    rcases hc with ⟨_, h2⟩ | ⟨_, h2⟩
                    · exact hgo (by rw [h2, ← e])
                    · exact HNE.out (by rw [HHD.out, e, h2])))
                  clear hgo
                  have mf : Tryd.prog.follows .mixedOrders = true := by kernel_rfl
                  have x1 : ∀ d os, (behind wr d os).cell? ⟨xb, 1, none⟩ = some (.string s) := fun d os => (HUQ.out.still (only_behind wr d os)).rs.c.cell 1
                  have x2 : ∀ d os, (behind wr d os).cell? ⟨xb, 2, none⟩ = some (.int .i64 (q : Int)) := fun d os => (HUQ.out.still (only_behind wr d os)).rs.c.cell 2
                  have HMQ := hid (fun d os => more_c (HUQ.out.still (only_behind wr d os)).rs)
                  simp only [Bool.not_false, Bool.true_and] at HMQ
                  rw [decide_eq_true hqs] at HMQ
                  go_wp2
                  refine wp_region_behind (by assumption) (by kernel_rfl) ?_
                  repeat (go_big_quiet_step ((first | (go_at_call 51; refine Calls.behind_of ((HMQ.out _ _).mono fun _ _ h => ⟨h.1, by obtain ⟨n, hn⟩ := h.2; rw [hn]; exact only_drewN _ n⟩)) | (go_at_call 104; refine Calls.behind_of ((HBG.out _).mono fun _ _ h => ⟨h.1, by rw [h.2]; exact (Only.refl _ _).alloc _⟩)))))
                  refine wpQuiet_nil ?_
                  intro _ hw'
                  obtain ⟨⟨dq, osq⟩, hw''⟩ := hw'
                  subst hw''
                  have HU3 := hid (HUQ.out.still (only_behind wr dq osq))
                  have HO3 := hid (show Only [xb, mb] w (behind wr dq osq) from HOQ.out.trans ((only_behind wr dq osq).mono (by simp)))
                  obtain ⟨W3, hW3⟩ : ∃ W3, behind wr dq osq = W3 := ⟨_, rfl⟩
                  rw [hW3] at HU3 HO3
                  simp only [hW3]
                  clear hW3 x1 x2 HMQ
                  have c1 : W3.cell? ⟨xb, 1, none⟩ = some (.string s) := HU3.out.rs.c.cell 1
                  have c2 : W3.cell? ⟨xb, 2, none⟩ = some (.int .i64 (q : Int)) := HU3.out.rs.c.cell 2
                  have c6 : W3.cell? ⟨xb, 6, none⟩ = some (.bool false) := HU3.out.rs.c.cell 6
                  have HI3 := hid (fun n => is_c (HU3.out.still (only_drewN W3 n)).rs 59 (by decide))
                  simp only [Bool.not_false, Bool.true_and] at HI3
                  rw [decide_eq_false HNE.out] at HI3
                  have HNM := hid (fun W => named_c ⟨#[]⟩ W)
                  go_wp2
                  go_quiet ((first | (go_at_call 54; exact Calls.quiet_of (HI3.out _)) | (go_at_call 105; exact Calls.quiet_of_same (HNM.out _))))
                  go_wp2_with fail
                  refine (bad_c (HU3.out.still (only_drewN W3 nq)) 71).mono ?_
                  rintro e w5 ⟨rfl, hx5, ho5⟩
                  have HX5 := hid hx5
                  have HO5 := hid ho5
                  clear hx5 ho5
                  go_wp2
                  go_ret
                  rw [HP.out]
                  exact ⟨⟨⟨_, rfl⟩, HX5.out⟩, HO3.out.trans (Only.behind (only_drewN W3 nq) HO5.out)⟩
            · have hqs' : ¬ q < s.size := by omega
              have HNE : Hid (¬ (rest s q).head? = some 59) := hid (by rw [hh]; exact fun e => by cases e)
              have HP := hid (hbad.out _ hh (fun c _ e => by cases e))
              clear hh hqs
              have hqs := hqs'
              have mf : Tryd.prog.follows .mixedOrders = true := by kernel_rfl
              have x1 : ∀ d os, (behind wr d os).cell? ⟨xb, 1, none⟩ = some (.string s) := fun d os => (HUQ.out.still (only_behind wr d os)).rs.c.cell 1
              have x2 : ∀ d os, (behind wr d os).cell? ⟨xb, 2, none⟩ = some (.int .i64 (q : Int)) := fun d os => (HUQ.out.still (only_behind wr d os)).rs.c.cell 2
              have HMQ := hid (fun d os => more_c (HUQ.out.still (only_behind wr d os)).rs)
              simp only [Bool.not_false, Bool.true_and] at HMQ
              rw [decide_eq_false hqs] at HMQ
              go_wp2
              refine wp_region_behind (by assumption) (by kernel_rfl) ?_
              repeat (go_big_quiet_step ((first | (go_at_call 51; refine Calls.behind_of ((HMQ.out _ _).mono fun _ _ h => ⟨h.1, by obtain ⟨n, hn⟩ := h.2; rw [hn]; exact only_drewN _ n⟩)))))
              refine wpQuiet_nil ?_
              intro _ hw'
              obtain ⟨⟨dq, osq⟩, hw''⟩ := hw'
              subst hw''
              have HU3 := hid (HUQ.out.still (only_behind wr dq osq))
              have HO3 := hid (show Only [xb, mb] w (behind wr dq osq) from HOQ.out.trans ((only_behind wr dq osq).mono (by simp)))
              obtain ⟨W3, hW3⟩ : ∃ W3, behind wr dq osq = W3 := ⟨_, rfl⟩
              rw [hW3] at HU3 HO3
              simp only [hW3]
              clear hW3 x1 x2 HMQ
              have c1 : W3.cell? ⟨xb, 1, none⟩ = some (.string s) := HU3.out.rs.c.cell 1
              have c2 : W3.cell? ⟨xb, 2, none⟩ = some (.int .i64 (q : Int)) := HU3.out.rs.c.cell 2
              have c6 : W3.cell? ⟨xb, 6, none⟩ = some (.bool false) := HU3.out.rs.c.cell 6
              have HI3 := hid (fun n => is_c (HU3.out.still (only_drewN W3 n)).rs 59 (by decide))
              simp only [Bool.not_false, Bool.true_and] at HI3
              rw [decide_eq_false HNE.out] at HI3
              have HNM := hid (fun W => named_c ⟨#[]⟩ W)
              go_wp2
              go_quiet ((first | (go_at_call 54; exact Calls.quiet_of (HI3.out _)) | (go_at_call 105; exact Calls.quiet_of_same (HNM.out _))))
              go_wp2_with fail
              refine (bad_c (HU3.out.still (only_drewN W3 nq)) 71).mono ?_
              rintro e w5 ⟨rfl, hx5, ho5⟩
              have HX5 := hid hx5
              have HO5 := hid ho5
              clear hx5 ho5
              go_wp2
              go_ret
              rw [HP.out]
              exact ⟨⟨⟨_, rfl⟩, HX5.out⟩, HO3.out.trans (Only.behind (only_drewN W3 nq) HO5.out)⟩
          · have HOO := hid hoo
            have hrel : RS wr xb mb s q u F true mF ∧ Only [xb, mb] w wr := ⟨hr, ho⟩
            clear hoo hr ho
            obtain ⟨hr, ho⟩ := hrel
            have HR := hid hr
            have HOK := hid ho
            have d6 : wr.cell? ⟨xb, 6, none⟩ = some (.bool true) := hr.c.cell 6
            clear hr ho
            go_wp2
            go_quiet ((go_at_call 51; exact Calls.quiet_of (HMx.out _ _ _ _ _ (HR.out.still (only_drewN _ _)))))
            obtain ⟨W3, hW3⟩ : ∃ W3, wr.drewN nq = W3 := ⟨_, rfl⟩
            have HR3 := hid (show RS W3 xb mb s q u F true mF by rw [← hW3]; exact HR.out.still (only_drewN wr nq))
            have HO3 := hid (show Only [xb, mb] w W3 by rw [← hW3]; exact HOK.out.trans ((only_drewN wr nq).mono (by simp)))
            rw [hW3]
            have d6 : W3.cell? ⟨xb, 6, none⟩ = some (.bool true) := HR3.out.c.cell 6
            clear hW3
            go_wp2
            go_quiet (fail)
            go_wp2_with fail
            refine (HBx.out _ _ _ _ _ (HR3.out.still (only_drewN W3 nq))).mono ?_
            rintro e w4 ⟨rfl, rfl⟩
            go_wp2
            go_ret
            rw [HOO.out]
            exact ⟨⟨⟨_, rfl⟩, q, u, HR3.out.still (only_drewN W3 nq)⟩, HO3.out.trans ((only_drewN W3 nq).mono (by simp))⟩
end Go.Proofs.YthlbbinlkmchjaaDoor
