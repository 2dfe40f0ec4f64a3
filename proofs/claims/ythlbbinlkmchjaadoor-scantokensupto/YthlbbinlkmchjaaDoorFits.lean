/- What a markup takes: as many steps as it has bytes, as many cells as tokens; enough is enough, less is refused. -/
import Derived.Test.YthlbbinlkmchjaaDoorAns
namespace Go.Proofs.YthlbbinlkmchjaaDoor
open Go

def Rise : Nat → List Tk → Nat → Prop
  | p, [], e => p ≤ e
  | p, t :: ts, e => p ≤ t.en ∧ Rise t.en ts e
theorem Rise.le : ∀ {p : Nat} {ts : List Tk} {e : Nat}, Rise p ts e → p ≤ e
  | _, [], _, h => h
  | _, _ :: _, _, h => Nat.le_trans h.1 h.2.le
theorem Rise.from {p q : Nat} {ts : List Tk} {e : Nat} (h : Rise p ts e) (hq : q ≤ p) : Rise q ts e := by
  cases ts with
  | nil => exact Nat.le_trans hq h
  | cons t ts => exact ⟨Nat.le_trans hq h.1, h.2⟩
/-- so many steps in all -/
def endS (len : Nat) : Option (Nat × Nat) → Nat
  | none => len
  | some x => if x.2 < len then x.2 + 1 else x.2
theorem G_rise : ∀ (f m p : Nat) (l : List Nat), Rise p (G f m p l).1 (endS (p + l.length) (G f m p l).2)
  | 0, m, p, l => by
    show p ≤ endS _ (some (99, p))
    unfold endS; simp only; split <;> omega
  | f + 1, m, p, [] => by
    rcases m with _ | m
    · exact Nat.le_refl p
    · show p ≤ endS _ (some (70, p))
      unfold endS; simp only; split <;> omega
  | f + 1, m, p, b :: l => by
    rw [G_cons]
    rcases hP : part m p b with _ | P
    · have ih := G_rise f 2 (p + 1) l
      simp only [List.length_cons]
      rw [show p + (l.length + 1) = p + 1 + l.length by omega]
      exact ih.from (by omega)
    · simp only
      have hF := part_fair hP
      rcases hr : P (b :: l) with ⟨k, n⟩ | ⟨t, n⟩
      · rw [tokR_bad]
        show p ≤ endS _ (some (k, p + n))
        unfold endS; simp only; split <;> omega
      · have hle := ok_le hF hr
        rw [tokR_ok]
        have ih := G_rise f (within t) (p + n) ((b :: l).drop n)
        rw [List.length_drop, show p + n + ((b :: l).length - n) = p + (b :: l).length by omega] at ih
        exact ⟨by simp only; omega, ih⟩
theorem GS_rise (s : ByteArray) : Rise 0 (GS s 0 0).1 (endS s.size (GS s 0 0).2) := by
  have := G_rise ((rest s 0).length + 1) 0 0 (rest s 0)
  rw [show 0 + (rest s 0).length = s.size by rw [rest_length]; omega] at this
  exact this
def flt (T : List Tk) : Option (Nat × Nat) → Except (Int × Int) (List Tk)
  | none => .ok T
  | some x => .error ((x.1 : Int), (x.2 : Int))
theorem M.stepOk_iff {m : M} (hw : m.why = 0) (k : Nat) : m.stepOk k = true ↔ (k : Int) ≤ m.sb - m.dn := by
  unfold M.stepOk chOk
  rw [decide_eq_true_eq]
  omega
theorem M.holdOk_iff {m : M} (hw : m.why = 0) : m.holdOk 1 = true ↔ 1 ≤ m.cb - m.nw := by
  unfold M.holdOk chOk
  rw [decide_eq_true_eq]
  omega
theorem ans_fits (len : Nat) (fl : Option (Nat × Nat)) : ∀ (ts : List Tk) (m : M) (T : List Tk) (p : Nat), m.Ok → m.why = 0 → Rise p ts (endS len fl) → ((endS len fl - p : Nat) : Int) ≤ m.sb - m.dn → (ts.length : Int) ≤ m.cb - m.nw →
    ans len m T p ts fl = ({ m with dn := m.dn + (endS len fl - p : Nat), nw := m.nw + ts.length, pk := max m.pk (m.nw + ts.length) }, flt (T ++ ts) fl)
  | [], m, T, p, hok, hw, hr, h1, h2 => by
    have hs := (M.stepOk_iff hw (endS len fl - p)).2 h1
    have he := (M.step_good hw (n := ((endS len fl - p : Nat) : Int)) (by omega) hs).1
    have hpk : max m.pk (m.nw + (([] : List Tk).length : Int)) = m.pk := by have := hok.n1; simp; omega
    rw [hpk]
    rcases fl with _ | ⟨k, n⟩
    · simp only [ans]
      simp only [endS] at hs he ⊢
      rw [hs, he, if_pos rfl]
      simp [flt]
    · simp only [ans]
      simp only [endS] at hs he ⊢
      rw [hs, he, if_pos rfl]
      simp [flt]
  | t :: ts, m, T, p, hok, hw, hr, h1, h2 => by
    have hle := hr.2.le
    have hp := hr.1
    have hs := (M.stepOk_iff hw (t.en - p)).2 (by omega)
    obtain ⟨he, -⟩ := M.step_good hw (n := ((t.en - p : Nat) : Int)) (by omega) hs
    have hok1 := M.step_ok hok ((t.en - p : Nat) : Int)
    simp only [ans]
    rw [hs, if_pos rfl]
    rw [he] at hok1 ⊢
    have hw1 : ({ m with dn := m.dn + ((t.en - p : Nat) : Int) } : M).why = 0 := hw
    have hh := (M.holdOk_iff hw1).2 (by simp only [List.length_cons] at h2; simp only; omega)
    obtain ⟨hg, -⟩ := M.hold_good hw1 hh
    have hok2 := M.hold_ok hok1 1
    rw [hh, if_pos rfl]
    rw [hg] at hok2 ⊢
    have hpos := hok.n0
    rw [ans_fits len fl ts _ (T ++ [t]) t.en hok2 hw hr.2 (by simp only; omega) (by simp only [List.length_cons] at h2; simp only; omega)]
    simp only [List.append_assoc, List.singleton_append, List.length_cons, Prod.mk.injEq, and_true]
    have e1 : m.dn + ((t.en - p : Nat) : Int) + ((endS len fl - t.en : Nat) : Int) = m.dn + ((endS len fl - p : Nat) : Int) := by omega
    have e2 : m.nw + 1 + (ts.length : Int) = m.nw + ((ts.length + 1 : Nat) : Int) := by omega
    have e3 : max (max m.pk (m.nw + 1)) (m.nw + 1 + (ts.length : Int)) = max m.pk (m.nw + ((ts.length + 1 : Nat) : Int)) := by omega
    rw [e1, e2, ← e3, e2]
/-- too few steps -/
theorem ans_steps (len : Nat) (fl : Option (Nat × Nat)) : ∀ (ts : List Tk) (m : M) (T : List Tk) (p : Nat), m.Ok → m.why = 0 → Rise p ts (endS len fl) → m.sb - m.dn < ((endS len fl - p : Nat) : Int) → (ts.length : Int) ≤ m.cb - m.nw →
    (ans len m T p ts fl).2 = .error (20, 0) ∧ (ans len m T p ts fl).1.dn = m.sb
  | [], m, T, p, hok, hw, hr, h1, h2 => by
    have hs : m.stepOk ((endS len fl - p : Nat) : Int) = false := by
      rcases h : m.stepOk ((endS len fl - p : Nat) : Int) with _ | _
      · rfl
      · have := (M.stepOk_iff hw _).1 h; omega
    have he := (M.step_bad hw (n := ((endS len fl - p : Nat) : Int)) (by omega) hs).1
    rcases fl with _ | ⟨k, n⟩
    · simp only [ans]
      simp only [endS] at hs he ⊢
      rw [hs, he, if_neg (by decide)]
      exact ⟨rfl, rfl⟩
    · simp only [ans]
      simp only [endS] at hs he ⊢
      rw [hs, he, if_neg (by decide)]
      exact ⟨rfl, rfl⟩
  | t :: ts, m, T, p, hok, hw, hr, h1, h2 => by
    have hle := hr.2.le
    have hp := hr.1
    simp only [ans]
    rcases hs : m.stepOk ((t.en - p : Nat) : Int) with _ | _
    · have he := (M.step_bad hw (n := ((t.en - p : Nat) : Int)) (by omega) hs).1
      rw [if_neg (by decide), he]
      exact ⟨rfl, rfl⟩
    · obtain ⟨he, -⟩ := M.step_good hw (n := ((t.en - p : Nat) : Int)) (by omega) hs
      have hok1 := M.step_ok hok ((t.en - p : Nat) : Int)
      rw [if_pos rfl]
      rw [he] at hok1 ⊢
      have hw1 : ({ m with dn := m.dn + ((t.en - p : Nat) : Int) } : M).why = 0 := hw
      have hh := (M.holdOk_iff hw1).2 (by simp only [List.length_cons] at h2; simp only; omega)
      obtain ⟨hg, -⟩ := M.hold_good hw1 hh
      have hok2 := M.hold_ok hok1 1
      rw [hh, if_pos rfl]
      rw [hg] at hok2 ⊢
      exact ans_steps len fl ts _ (T ++ [t]) t.en hok2 hw hr.2 (by simp only; omega) (by simp only [List.length_cons] at h2; simp only; omega)
/-- too few cells -/
theorem ans_cells (len : Nat) (fl : Option (Nat × Nat)) : ∀ (ts : List Tk) (m : M) (T : List Tk) (p : Nat), m.Ok → m.why = 0 → Rise p ts (endS len fl) → ((endS len fl - p : Nat) : Int) ≤ m.sb - m.dn → m.cb - m.nw < (ts.length : Int) →
    (ans len m T p ts fl).2 = .error (21, 0) ∧ (ans len m T p ts fl).1.pk = m.cb
  | [], m, T, p, hok, hw, hr, h1, h2 => by
    have := hok.n2
    have := hok.n1
    simp at h2
    omega
  | t :: ts, m, T, p, hok, hw, hr, h1, h2 => by
    have hle := hr.2.le
    have hp := hr.1
    have hs := (M.stepOk_iff hw (t.en - p)).2 (by omega)
    obtain ⟨he, -⟩ := M.step_good hw (n := ((t.en - p : Nat) : Int)) (by omega) hs
    have hok1 := M.step_ok hok ((t.en - p : Nat) : Int)
    simp only [ans]
    rw [hs, if_pos rfl]
    rw [he] at hok1 ⊢
    have hw1 : ({ m with dn := m.dn + ((t.en - p : Nat) : Int) } : M).why = 0 := hw
    rcases hh : ({ m with dn := m.dn + ((t.en - p : Nat) : Int) } : M).holdOk 1 with _ | _
    · have hg := (M.hold_bad hw1 hh).1
      rw [if_neg (by decide), hg]
      exact ⟨rfl, rfl⟩
    · obtain ⟨hg, -⟩ := M.hold_good hw1 hh
      have hok2 := M.hold_ok hok1 1
      rw [if_pos rfl]
      rw [hg] at hok2 ⊢
      exact ans_cells len fl ts _ (T ++ [t]) t.en hok2 hw hr.2 (by simp only; omega) (by simp only [List.length_cons] at h2; simp only; omega)
/-- there are no more tokens than bytes -/
theorem G_few : ∀ (f m p : Nat) (l : List Nat), (G f m p l).1.length ≤ l.length
  | 0, _, _, _ => Nat.zero_le _
  | f + 1, m, p, [] => by rcases m with _ | m <;> exact Nat.zero_le _
  | f + 1, m, p, b :: l => by
    rw [G_cons]
    rcases hP : part m p b with _ | P
    · exact Nat.le_succ_of_le (G_few f 2 (p + 1) l)
    · simp only
      rcases hr : P (b :: l) with ⟨k, n⟩ | ⟨t, n⟩
      · exact Nat.zero_le _
      · have h1 := part_goes hP hr
        have h2 := ok_le (part_fair hP) hr
        rw [tokR_ok]
        have ih := G_few f (within t) (p + n) ((b :: l).drop n)
        rw [List.length_drop] at ih
        simp only [List.length_cons] at ih h2 ⊢
        omega
theorem endS_le (s : ByteArray) : endS s.size (GS s 0 0).2 ≤ s.size := by
  have hg := (G_ge ((rest s 0).length + 1) 0 0 (rest s 0)).1
  unfold endS
  rcases h : (GS s 0 0).2 with _ | ⟨k, n⟩
  · exact Nat.le_refl _
  · have h1 := hg k n h
    rw [rest_length] at h1
    simp only
    split <;> omega
end Go.Proofs.YthlbbinlkmchjaaDoor
