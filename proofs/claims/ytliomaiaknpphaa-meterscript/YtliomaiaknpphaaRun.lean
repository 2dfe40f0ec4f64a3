import Derived.Test.YtliomaiaknpphaaShown
namespace Go.Proofs.Ytliomaiaknpphaa
open Go.RowKit

/-- what an act of a kind answers, and leaves -/
def actOk (m : M) (k q : Int) : Bool := if k = 0 then m.stepOk q else if k = 1 then m.holdOk q else (m.dropOk q || decide (m.why = 0))
def actM (m : M) (k q : Int) : M := if k = 0 then m.step q else if k = 1 then m.hold q else m.drop q
/-- acts till one is refused -/
def goes : Nat → M → List (Int × Int) → Nat × M
  | i, m, [] => (i, m)
  | i, m, a :: r => if actOk m a.1 a.2 = true then goes (i + 1) (actM m a.1 a.2) r else (i, actM m a.1 a.2)
theorem act_ok {m : M} (h : m.Ok) (k q : Int) : (actM m k q).Ok := by
  unfold actM
  split
  · exact M.step_ok h q
  · split
    · exact M.hold_ok h q
    · exact M.drop_ok h q
theorem goes_ok (L : List (Int × Int)) : ∀ (i : Nat) (m : M), m.Ok → (goes i m L).2.Ok := by
  induction L with
  | nil => intro i m h; exact h
  | cons a r ih =>
    intro i m h
    unfold goes
    split
    · exact ih _ _ (act_ok h _ _)
    · exact act_ok h _ _
theorem act_step_in (S C d n p q : Int) (h0 : 0 ≤ q) (h : d + q ≤ S) : actOk ⟨S, C, d, n, p, 0⟩ 0 q = true ∧ actM ⟨S, C, d, n, p, 0⟩ 0 q = ⟨S, C, d + q, n, p, 0⟩ := by
  constructor
  · simp only [actOk, M.stepOk, chOk, if_true]; simp; omega
  · simp only [actM, M.step, if_true]; rw [if_neg (by omega), if_neg (by omega)]
theorem act_step_out (S C d n p q : Int) (h0 : 0 ≤ q) (h : S < d + q) : actOk ⟨S, C, d, n, p, 0⟩ 0 q = false ∧ actM ⟨S, C, d, n, p, 0⟩ 0 q = ⟨S, C, S, n, p, 20⟩ := by
  constructor
  · simp only [actOk, M.stepOk, chOk, if_true]; simp; omega
  · simp only [actM, M.step, if_true]; rw [if_neg (by omega), if_pos (by omega)]
theorem act_hold_in (S C d n p q : Int) (h0 : 0 ≤ q) (h : n + q ≤ C) : actOk ⟨S, C, d, n, p, 0⟩ 1 q = true ∧ actM ⟨S, C, d, n, p, 0⟩ 1 q = ⟨S, C, d, n + q, max p (n + q), 0⟩ := by
  constructor
  · unfold actOk M.holdOk chOk; rw [if_neg (by decide), if_pos rfl]; simp; omega
  · unfold actM M.hold; rw [if_neg (by decide), if_pos rfl, if_neg (by simp; omega), if_neg (by simp; omega)]
theorem act_hold_out (S C d n p q : Int) (h0 : 0 ≤ q) (h : C < n + q) : actOk ⟨S, C, d, n, p, 0⟩ 1 q = false ∧ actM ⟨S, C, d, n, p, 0⟩ 1 q = ⟨S, C, d, C, C, 21⟩ := by
  constructor
  · unfold actOk M.holdOk chOk; rw [if_neg (by decide), if_pos rfl]; simp; omega
  · unfold actM M.hold; rw [if_neg (by decide), if_pos rfl, if_neg (by simp; omega), if_pos (by simp; omega)]
theorem act_drop (S C d n p k q : Int) (hk : k ≠ 0) (hk1 : k ≠ 1) : actOk ⟨S, C, d, n, p, 0⟩ k q = true ∧ actM ⟨S, C, d, n, p, 0⟩ k q = ⟨S, C, d, if 0 ≤ q ∧ q ≤ n then n - q else n, p, 0⟩ := by
  constructor
  · unfold actOk; rw [if_neg hk, if_neg hk1]; simp
  · unfold actM M.drop M.dropOk; rw [if_neg hk, if_neg hk1]
    simp only [decide_eq_true_eq]
    split <;> simp
theorem goes_cons_in {i : Nat} {m m' : M} {a : Int × Int} {r : List (Int × Int)} (h : actOk m a.1 a.2 = true) (h2 : actM m a.1 a.2 = m') : goes i m (a :: r) = goes (i + 1) m' r := by
  rw [goes, if_pos h, h2]
theorem goes_cons_out {i : Nat} {m m' : M} {a : Int × Int} {r : List (Int × Int)} (h : actOk m a.1 a.2 = false) (h2 : actM m a.1 a.2 = m') : goes i m (a :: r) = (i, m') := by
  rw [goes, if_neg (by simp [h]), h2]
theorem three_kinds (k : Int) : k = 0 ∨ k = 1 ∨ k ≠ 0 ∧ k ≠ 1 := by omega

/-- enough is enough -/
theorem goes_all (L : List (Int × Int)) (hq : ∀ a ∈ L, 0 ≤ a.2 ∧ a.2 < 1048576) : ∀ (i : Nat) (A B d n p : Int), 0 ≤ n → n ≤ p → d + L.length * 1048576 ≤ A → p + L.length * 1048576 ≤ B →
    ∃ d' n' p', goes i ⟨A, B, d, n, p, 0⟩ L = (i + L.length, ⟨A, B, d', n', p', 0⟩) := by
  induction L with
  | nil => intro i A B d n p _ _ _ _; exact ⟨d, n, p, rfl⟩
  | cons a r ih =>
    intro i A B d n p h0 h1 hA hB
    obtain ⟨q0, q1⟩ := hq a (by simp)
    have hr : ∀ b ∈ r, 0 ≤ b.2 ∧ b.2 < 1048576 := fun b hb => hq b (by simp [hb])
    simp only [List.length_cons, Int.natCast_succ] at hA hB
    have hl : i + (a :: r).length = i + 1 + r.length := by simp; omega
    rw [hl]
    obtain ⟨k, q⟩ := a
    simp only at q0 q1
    rcases three_kinds k with rfl | rfl | ⟨k0, k1⟩
    · obtain ⟨e1, e2⟩ := act_step_in A B d n p q q0 (by omega)
      rw [goes_cons_in e1 e2]
      exact ih hr _ _ _ _ _ _ h0 h1 (by omega) (by omega)
    · obtain ⟨e1, e2⟩ := act_hold_in A B d n p q q0 (by omega)
      rw [goes_cons_in e1 e2]
      exact ih hr _ _ _ _ _ _ (by omega) (by omega) (by omega) (by omega)
    · obtain ⟨e1, e2⟩ := act_drop A B d n p k q k0 k1
      rw [goes_cons_in e1 e2]
      refine ih hr _ _ _ _ _ _ ?_ ?_ (by omega) (by omega) <;> split <;> omega

/-- two budgets side by side -/
theorem lock (L : List (Int × Int)) (hq : ∀ a ∈ L, 0 ≤ a.2) : ∀ (i : Nat) (A B d n p d' n' p' : Int), 0 ≤ n → n ≤ p → goes i ⟨A, B, d, n, p, 0⟩ L = (i + L.length, ⟨A, B, d', n', p', 0⟩) →
    (d ≤ d' ∧ p ≤ p') ∧ ∀ S C, d ≤ S → p ≤ C →
      (d' ≤ S → p' ≤ C → goes i ⟨S, C, d, n, p, 0⟩ L = (i + L.length, ⟨S, C, d', n', p', 0⟩)) ∧
      (S < d' → p' ≤ C → ∃ j x, goes i ⟨S, C, d, n, p, 0⟩ L = (j, x) ∧ j < i + L.length ∧ x.why = 20 ∧ x.dn = S ∧ x.pk ≤ p') ∧
      (C < p' → d' ≤ S → ∃ j x, goes i ⟨S, C, d, n, p, 0⟩ L = (j, x) ∧ j < i + L.length ∧ x.why = 21 ∧ x.pk = C ∧ x.nw = C ∧ x.dn ≤ d') := by
  induction L with
  | nil =>
    intro i A B d n p d' n' p' h0 h1 h
    simp [goes] at h
    obtain ⟨rfl, rfl, rfl⟩ := h
    refine ⟨⟨Int.le_refl _, Int.le_refl _⟩, fun S C hS hC => ⟨fun _ _ => rfl, fun h => by omega, fun h => by omega⟩⟩
  | cons a r ih =>
    intro i A B d n p d' n' p' h0 h1 h
    have q0 := hq a (by simp)
    have hr : ∀ b ∈ r, 0 ≤ b.2 := fun b hb => hq b (by simp [hb])
    have hl : i + (a :: r).length = i + 1 + r.length := by simp; omega
    rw [hl] at h ⊢
    obtain ⟨k, q⟩ := a
    simp only at q0
    rcases three_kinds k with rfl | rfl | ⟨k0, k1⟩
    · by_cases hA : d + q ≤ A
      · obtain ⟨e1, e2⟩ := act_step_in A B d n p q q0 hA
        rw [goes_cons_in e1 e2] at h
        obtain ⟨⟨g1, g2⟩, g3⟩ := ih hr _ _ _ _ _ _ _ _ _ h0 h1 h
        refine ⟨⟨by omega, g2⟩, fun S C hS hC => ?_⟩
        by_cases hs : d + q ≤ S
        · obtain ⟨f1, f2⟩ := act_step_in S C d n p q q0 hs
          rw [goes_cons_in f1 f2]
          exact g3 S C hs hC
        · obtain ⟨f1, f2⟩ := act_step_out S C d n p q q0 (by omega)
          rw [goes_cons_out f1 f2]
          exact ⟨fun h => by omega, fun _ _ => ⟨i, _, rfl, by omega, rfl, rfl, g2⟩, fun _ h => by omega⟩
      · obtain ⟨e1, e2⟩ := act_step_out A B d n p q q0 (by omega)
        rw [goes_cons_out e1 e2] at h
        simp at h
    · by_cases hA : n + q ≤ B
      · obtain ⟨e1, e2⟩ := act_hold_in A B d n p q q0 hA
        rw [goes_cons_in e1 e2] at h
        obtain ⟨⟨g1, g2⟩, g3⟩ := ih hr _ _ _ _ _ _ _ _ _ (by omega) (by omega) h
        refine ⟨⟨g1, by omega⟩, fun S C hS hC => ?_⟩
        by_cases hs : n + q ≤ C
        · obtain ⟨f1, f2⟩ := act_hold_in S C d n p q q0 hs
          rw [goes_cons_in f1 f2]
          exact g3 S C hS (by omega)
        · obtain ⟨f1, f2⟩ := act_hold_out S C d n p q q0 (by omega)
          rw [goes_cons_out f1 f2]
          exact ⟨fun _ h => by omega, fun _ h => by omega, fun _ _ => ⟨i, _, rfl, by omega, rfl, rfl, rfl, g1⟩⟩
      · obtain ⟨e1, e2⟩ := act_hold_out A B d n p q q0 (by omega)
        rw [goes_cons_out e1 e2] at h
        simp at h
    · obtain ⟨e1, e2⟩ := act_drop A B d n p k q k0 k1
      rw [goes_cons_in e1 e2] at h
      obtain ⟨⟨g1, g2⟩, g3⟩ := ih hr _ _ _ _ _ _ _ _ _ (by split <;> omega) (by split <;> omega) h
      refine ⟨⟨g1, g2⟩, fun S C hS hC => ?_⟩
      obtain ⟨f1, f2⟩ := act_drop S C d n p k q k0 k1
      rw [goes_cons_in f1 f2]
      exact g3 S C hS hC
end Go.Proofs.Ytliomaiaknpphaa
