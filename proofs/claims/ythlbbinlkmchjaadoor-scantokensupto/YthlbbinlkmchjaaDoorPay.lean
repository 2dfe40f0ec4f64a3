/- What a part of a markup is charged: step by step; the first one that is refused. No program in it (but the meter as numbers). -/
import Derived.Test.YthlbbinlkmchjaaDoorPzAll
import Derived.Test.YthlbbinlkmchjaaDoorMeter
namespace Go.Proofs.YthlbbinlkmchjaaDoor
open Go

theorem M.step_good {m : M} (hw : m.why = 0) {n : Int} (h0 : 0 ≤ n) (h : m.stepOk n = true) : m.step n = { m with dn := m.dn + n } ∧ n ≤ m.sb - m.dn := by
  unfold M.stepOk chOk at h
  have h := of_decide_eq_true h
  unfold M.step
  rw [if_neg (by omega), if_neg (by omega)]
  exact ⟨rfl, h.2.2⟩
theorem M.step_bad {m : M} (hw : m.why = 0) {n : Int} (h0 : 0 ≤ n) (h : m.stepOk n = false) : m.step n = { m with dn := m.sb, why := 20 } ∧ m.sb - m.dn < n := by
  unfold M.stepOk chOk at h
  have h := of_decide_eq_false h
  unfold M.step
  rw [if_neg (by omega), if_pos (by omega)]
  exact ⟨rfl, by omega⟩
theorem M.step_zero {m : M} (hm : m.Ok) (hw : m.why = 0) : m.step 0 = m ∧ m.stepOk 0 = true := by
  have h : m.stepOk 0 = true := by unfold M.stepOk chOk; have := hm.d1; simp; omega
  refine ⟨?_, h⟩
  rw [(M.step_good hw (Int.le_refl 0) h).1, Int.add_zero]
theorem M.step_add {m : M} (hw : m.why = 0) {a b : Int} (ha : 0 ≤ a) (hb : 0 ≤ b) (h : m.stepOk a = true) :
    (m.step a).why = 0 ∧ m.step (a + b) = (m.step a).step b ∧ m.stepOk (a + b) = (m.step a).stepOk b := by
  obtain ⟨e, hle⟩ := M.step_good hw ha h
  rw [e]
  refine ⟨hw, ?_, ?_⟩
  · unfold M.step
    simp only
    rw [if_neg (show ¬ (a + b < 0 ∨ m.why ≠ 0) by omega), if_neg (show ¬ (b < 0 ∨ m.why ≠ 0) by omega)]
    by_cases hx : m.sb - m.dn < a + b
    · rw [if_pos hx, if_pos (show m.sb - (m.dn + a) < b by omega)]
    · rw [if_neg hx, if_neg (show ¬ m.sb - (m.dn + a) < b by omega), Int.add_assoc]
  · unfold M.stepOk chOk
    rw [Bool.eq_iff_iff]
    simp only [decide_eq_true_eq]
    omega
theorem M.step_over {m : M} (hw : m.why = 0) {a b : Int} (ha : 0 ≤ a) (hb : 0 ≤ b) (h : m.stepOk a = false) : m.step (a + b) = m.step a ∧ m.stepOk (a + b) = false := by
  obtain ⟨e, hle⟩ := M.step_bad hw ha h
  have h2 : m.stepOk (a + b) = false := by unfold M.stepOk chOk; simp; omega
  exact ⟨by rw [e, (M.step_bad hw (by omega) h2).1], h2⟩

/-- how many steps it takes, of so many bytes -/
def used {α : Type} (len : Nat) : R α → Nat
  | .ok x => x.2
  | .error x => if x.2 < len then x.2 + 1 else x.2
theorem used_up {α : Type} (len k : Nat) (r : R α) (hk : k ≤ len) : used len (r.up k) = k + used (len - k) r := by
  rcases r with ⟨a, n⟩ | ⟨a, n⟩
  · simp only [R.up, used]
    split <;> split <;> omega
  · rfl
abbrev O (α : Type) := M × Except (Int × Int) (α × Nat)
/-- what becomes of it under a meter: from place p on -/
def fin {α : Type} (m : M) (p len : Nat) (r : R α) : O α := match r with
  | .ok x => (m.step x.2, if m.stepOk x.2 then .ok (x.1, p + x.2) else .error (20, 0))
  | .error x => (m.step (used len r : Nat), .error (if m.stepOk (used len r : Nat) then (x.1, (p + x.2 : Nat)) else (20, 0)))
theorem fin_then {α β : Type} (m : M) (hw : m.why = 0) (p : Nat) (l : List Nat) (P : Pz α) (f : α → Nat → Pz β) (hP : Fair P) :
    fin m p l.length (andThen P f l) = match fin m p l.length (P l) with
      | (m1, .ok x) => fin m1 x.2 (l.length - (x.2 - p)) (f x.1 (x.2 - p) (l.drop (x.2 - p)))
      | (m1, .error F) => (m1, .error F) := by
  rcases hr : P l with ⟨k, n⟩ | ⟨a, n⟩
  · rw [then_bad hr]; rfl
  · rw [then_ok hr]
    have hn := ok_le hP hr
    rcases hs : m.stepOk (n : Nat) with _ | _
    · have e1 : fin m p l.length (.ok (a, n)) = (m.step n, .error (20, 0)) := by unfold fin; simp only; rw [hs]; rfl
      rw [e1]
      simp only
      rcases hf : f a n (l.drop n) with ⟨k2, n2⟩ | ⟨b, n2⟩
      · unfold fin
        rw [show (R.up n (Except.error (k2, n2) : R β)) = .error (k2, n + n2) from rfl]
        simp only
        have hu := used_up l.length n (Except.error (k2, n2) : R β) hn
        rw [show (R.up n (Except.error (k2, n2) : R β)) = .error (k2, n + n2) from rfl] at hu
        rw [hu]
        obtain ⟨h1, h2⟩ := M.step_over hw (a := n) (b := (used (l.length - n) (Except.error (k2, n2) : R β) : Nat)) (by omega) (by omega) hs
        rw [Int.natCast_add, h1, h2]
        rfl
      · unfold fin
        simp only [R.up]
        obtain ⟨h1, h2⟩ := M.step_over hw (a := n) (b := (n2 : Nat)) (by omega) (by omega) hs
        rw [Int.natCast_add, h1, h2]
        rfl
    · have e1 : fin m p l.length (.ok (a, n)) = (m.step n, .ok (a, p + n)) := by unfold fin; simp only; rw [hs]; rfl
      rw [e1]
      simp only
      rw [Nat.add_sub_cancel_left]
      rcases hf : f a n (l.drop n) with ⟨k2, n2⟩ | ⟨b, n2⟩
      · unfold fin
        rw [show (R.up n (Except.error (k2, n2) : R β)) = .error (k2, n + n2) from rfl]
        simp only
        have hu := used_up l.length n (Except.error (k2, n2) : R β) hn
        rw [show (R.up n (Except.error (k2, n2) : R β)) = .error (k2, n + n2) from rfl] at hu
        rw [hu]
        obtain ⟨_, h1, h2⟩ := M.step_add hw (a := n) (b := (used (l.length - n) (Except.error (k2, n2) : R β) : Nat)) (by omega) (by omega) hs
        rw [Int.natCast_add, h1, h2, Nat.add_assoc]
      · unfold fin
        simp only [R.up]
        obtain ⟨_, h1, h2⟩ := M.step_add hw (a := n) (b := (n2 : Nat)) (by omega) (by omega) hs
        rw [Int.natCast_add, h1, h2, Nat.add_assoc]
theorem fin_then_ok {α β : Type} {m : M} (hw : m.why = 0) {p : Nat} {l : List Nat} {P : Pz α} {f : α → Nat → Pz β} (hP : Fair P) {m1 : M} {a : α} {q : Nat} (h : fin m p l.length (P l) = (m1, .ok (a, q))) :
    fin m p l.length (andThen P f l) = fin m1 q (l.length - (q - p)) (f a (q - p) (l.drop (q - p))) := by rw [fin_then m hw p l P f hP, h]
theorem fin_then_bad {α β : Type} {m : M} (hw : m.why = 0) {p : Nat} {l : List Nat} {P : Pz α} {f : α → Nat → Pz β} (hP : Fair P) {m1 : M} {F : Int × Int} (h : fin m p l.length (P l) = (m1, .error F)) :
    fin m p l.length (andThen P f l) = (m1, .error F) := by rw [fin_then m hw p l P f hP, h]
theorem fin_ok {α : Type} {m : M} (hw : m.why = 0) {p len : Nat} {r : R α} {m1 : M} {a : α} {q : Nat} (h : fin m p len r = (m1, .ok (a, q))) : ∃ n, r = .ok (a, n) ∧ q = p + n ∧ m.stepOk n = true ∧ m1 = m.step n ∧ m1.why = 0 := by
  rcases r with ⟨k, n⟩ | ⟨b, n⟩
  · unfold fin at h
    cases (Prod.mk.inj h).2
  · unfold fin at h
    simp only at h
    rcases hs : m.stepOk (n : Nat) with _ | _
    · rw [hs] at h; cases (Prod.mk.inj h).2
    · rw [hs] at h
      obtain ⟨h1, h2⟩ := Prod.mk.inj h
      simp only [if_true] at h2
      cases h2
      exact ⟨n, rfl, rfl, hs, h1.symm, by rw [← h1]; exact (M.step_add hw (b := 0) (by omega) (by omega) hs).1⟩
theorem fin_done {α : Type} {m : M} (hm : m.Ok) (hw : m.why = 0) (p len : Nat) (a : α) : fin m p len (.ok (a, 0)) = (m, .ok (a, p)) := by
  obtain ⟨h1, h2⟩ := M.step_zero hm hw
  unfold fin
  simp only [Int.natCast_zero]
  rw [h1, h2]
  rfl
theorem fin_told {α : Type} {m : M} {p len k n u : Nat} (hu : used len (.error (k, n) : R α) = u) (hs : m.stepOk u = true) : fin m p len (.error (k, n) : R α) = (m.step u, .error (k, (p + n : Nat))) := by
  subst hu
  unfold fin
  simp only
  rw [if_pos hs]
theorem fin_ref {α : Type} {m : M} {p len k n u : Nat} (hu : used len (.error (k, n) : R α) = u) (hs : m.stepOk u = false) : fin m p len (.error (k, n) : R α) = (m.step u, .error (20, 0)) := by
  subst hu
  unfold fin
  simp only
  rw [if_neg (by rw [hs]; decide)]
theorem fin_yes {α : Type} {m : M} {p len n : Nat} {a : α} (hs : m.stepOk n = true) : fin m p len (.ok (a, n) : R α) = (m.step n, .ok (a, p + n)) := by
  unfold fin
  simp only
  rw [if_pos hs]
theorem fin_no {α : Type} {m : M} {p len n : Nat} {a : α} (hs : m.stepOk n = false) : fin m p len (.ok (a, n) : R α) = (m.step n, .error (20, 0)) := by
  unfold fin
  simp only
  rw [if_neg (by rw [hs]; decide)]
theorem fin_mok {α : Type} {m : M} (hm : m.Ok) (p len : Nat) (r : R α) : (fin m p len r).1.Ok := by
  rcases r with ⟨k, n⟩ | ⟨b, n⟩ <;> exact M.step_ok hm _
end Go.Proofs.YthlbbinlkmchjaaDoor
