/- Where the tokens of a markup stand: they rise, between them are blanks within a tag alone, a text's characters part its bytes. No program in it. -/
import Derived.Test.YtmlhibcbgdhadaaDoorWhole
namespace Go.Proofs.YtmlhibcbgdhadaaDoor
open Go

theorem then_inv {α β : Type} {p : Pz α} {f : α → Nat → Pz β} {l : List Nat} {b : β} {n : Nat} (h : andThen p f l = .ok (b, n)) : ∃ a k j, p l = .ok (a, k) ∧ f a k (l.drop k) = .ok (b, j) ∧ n = k + j := by
  rcases hr : p l with ⟨e⟩ | ⟨a, k⟩
  · rw [then_bad hr] at h; cases h
  · rw [then_ok hr] at h
    rcases hf : f a k (l.drop k) with ⟨e⟩ | ⟨y, j⟩
    · rw [hf] at h; cases h
    · rw [hf] at h
      cases h
      exact ⟨a, k, j, rfl, hf, rfl⟩
/-- characters one behind the other -/
def Cs : Nat → List (Nat × Nat × Nat) → Nat → Prop
  | k, [], e => k = e
  | k, c :: cs, e => c.2.1 = k ∧ k < c.2.2 ∧ Cs c.2.2 cs e
theorem Cs.le : ∀ {k : Nat} {cs : List (Nat × Nat × Nat)} {e : Nat}, Cs k cs e → k ≤ e
  | _, [], _, h => Nat.le_of_eq h
  | _, _ :: _, _, h => Nat.le_trans (Nat.le_of_lt h.2.1) h.2.2.le
theorem Cs.len : ∀ {k : Nat} {cs : List (Nat × Nat × Nat)} {e : Nat}, Cs k cs e → k + cs.length ≤ e
  | _, [], _, h => Nat.le_of_eq h
  | k, c :: cs, e, h => by
    have h1 := h.2.1
    have h2 := h.2.2.len
    simp only [List.length_cons]
    omega
theorem chs_cs : ∀ (f p : Nat) (l : List Nat) (xs : List (Nat × Nat × Nat)) (n : Nat), chsK f p l = .ok (xs, n) → Cs p xs (p + n)
  | 0, _, _, _, _, h => by cases h
  | f + 1, p, l, xs, n, h => by
    unfold chsK look at h
    dsimp only at h
    split at h
    · cases h; exact rfl
    · obtain ⟨x, k, j, h1, h2, rfl⟩ := then_inv h
      obtain ⟨ys, k2, j2, h3, h4, rfl⟩ := then_inv h2
      cases h4
      have ih := chs_cs f (p + k) _ ys k2 h3
      have hg := goes_chr l x k h1
      refine ⟨rfl, ?_, ?_⟩
      · simp only; omega
      · simp only [Nat.add_zero]
        rwa [Nat.add_assoc] at ih
theorem txt_kind {p : Nat} {l : List Nat} {t : Tk} {n : Nat} (h : txtP p l = .ok (t, n)) : t.kd = 5 ∧ t.at_ = p ∧ Cs p t.ch (p + n) := by
  unfold txtP at h
  obtain ⟨xs, k, j, h1, h2, rfl⟩ := then_inv h
  cases h2
  exact ⟨rfl, rfl, chs_cs _ _ _ _ _ h1⟩
theorem tag_kind {p : Nat} {l : List Nat} {t : Tk} {n : Nat} (h : tagP p l = .ok (t, n)) : (t.kd = 1 ∨ t.kd = 4) ∧ t.at_ = p := by
  unfold tagP at h
  obtain ⟨_, k, j, h1, h2, rfl⟩ := then_inv h
  unfold look at h2
  dsimp only at h2
  split at h2
  · obtain ⟨_, k3, j3, _, h3, rfl⟩ := then_inv h2
    obtain ⟨_, k4, j4, _, h4, rfl⟩ := then_inv h3
    obtain ⟨_, k5, j5, _, h5, rfl⟩ := then_inv h4
    cases h5
    exact ⟨.inr rfl, rfl⟩
  · obtain ⟨_, k3, j3, _, h3, rfl⟩ := then_inv h2
    cases h3
    exact ⟨.inl rfl, rfl⟩
theorem att_kind {p : Nat} {l : List Nat} {t : Tk} {n : Nat} (h : attP p l = .ok (t, n)) : t.kd = 2 ∧ t.at_ = p := by
  unfold attP at h
  obtain ⟨_, k, j, _, h2, rfl⟩ := then_inv h
  obtain ⟨_, k3, j3, _, h3, rfl⟩ := then_inv h2
  obtain ⟨_, k4, j4, _, h4, rfl⟩ := then_inv h3
  obtain ⟨_, k5, j5, _, h5, rfl⟩ := then_inv h4
  cases h5
  exact ⟨rfl, rfl⟩
theorem end_kind {p : Nat} {l : List Nat} {t : Tk} {n : Nat} (h : endP p l = .ok (t, n)) : t.kd = 3 ∧ t.at_ = p := by
  unfold endP look at h
  dsimp only at h
  split at h
  all_goals
    obtain ⟨_, k, j, _, h2, rfl⟩ := then_inv h
    cases h2
    exact ⟨rfl, rfl⟩
/-- blanks alone -/
def Gap (L : List Nat) (a b : Nat) : Prop := ∀ i, a ≤ i → i < b → isB (L.getD i 0) = true
theorem gap_nil (L : List Nat) (a : Nat) : Gap L a a := fun i h1 h2 => by omega
/-- tokens from place a on; w: within a tag -/
def Pl (L : List Nat) : Nat → Nat → List Tk → Prop
  | _, a, [] => a = L.length
  | w, a, t :: ts => (a ≤ t.at_ ∧ t.at_ < t.en ∧ t.en ≤ L.length ∧ Gap L a t.at_) ∧ ((w = 0 ∧ t.at_ = a ∧ (t.kd = 1 ∨ t.kd = 4 ∨ t.kd = 5)) ∨ (w = 1 ∧ (t.kd = 3 ∨ t.kd = 2 ∧ a < t.at_))) ∧ (t.kd = 5 → Cs t.at_ t.ch t.en) ∧ Pl L (within t) t.en ts
def inw (m : Nat) : Nat := if m = 0 then 0 else 1
theorem inw_within (t : Tk) : inw (within t) = within t := by unfold within; split <;> rfl
theorem within_le (t : Tk) : within t ≤ 1 := by unfold within; split <;> omega
theorem G_pl (L : List Nat) : ∀ (f m p a : Nat) (l : List Nat), l = L.drop p → p ≤ L.length → (m ≤ 1 → a = p) → (m = 2 → a < p) → m ≤ 2 → Gap L a p → (G f m p l).2 = none → Pl L (inw m) a (G f m p l).1
  | 0, _, _, _, _, _, _, _, _, _, _, h => by cases h
  | f + 1, m, p, a, [], hl, hp, ha, _, hm, hg, h => by
    rcases m with _ | m
    · have := congrArg List.length hl
      simp at this
      show a = L.length
      have := ha (by omega)
      omega
    · cases h
  | f + 1, m, p, a, b :: l, hl, hp, ha, ha2, hm, hg, h => by
    have hlen := congrArg List.length hl
    simp only [List.length_cons, List.length_drop] at hlen
    have hb : L.getD p 0 = b := by
      have := congrArg List.head? hl
      rw [List.head?_drop] at this
      simp only [List.head?_cons] at this
      rw [List.getD_eq_getElem?_getD, ← this]; rfl
    rw [G_cons] at h ⊢
    rcases hP : part m p b with _ | P
    · rw [hP] at h
      simp only at h ⊢
      have hmb : m ≠ 0 ∧ isB b = true := by
        unfold part at hP
        split at hP
        · cases hP
        · split at hP
          · rename_i h1 h2; exact ⟨h1, h2⟩
          · split at hP
            · cases hP
            · split at hP <;> cases hP
      have hle : a ≤ p := by
        rcases Nat.lt_or_ge m 2 with q | q
        · have := ha (by omega); omega
        · have := ha2 (by omega); omega
      have ih := G_pl L f 2 (p + 1) a l (by
        have := congrArg List.tail hl
        simp only [List.tail_cons, List.tail_drop] at this
        exact this) (by omega) (by omega) (by intro _; omega) (by omega) (by
          intro i h1 h2
          rcases Nat.lt_or_ge i p with q | q
          · exact hg i h1 q
          · rw [show i = p by omega, hb]; exact hmb.2) h
      rw [show inw m = inw 2 by unfold inw; rw [if_neg hmb.1, if_neg (by decide)]]
      exact ih
    · rw [hP] at h
      simp only at h ⊢
      rcases hr : P (b :: l) with ⟨k, n⟩ | ⟨t, n⟩
      · rw [hr, tokR_bad] at h; cases h
      · rw [hr, tokR_ok] at h
        rw [tokR_ok]
        simp only at h ⊢
        have h1 := part_goes hP hr
        have h2 := ok_le (part_fair hP) hr
        simp only [List.length_cons] at h2
        have ih := G_pl L f (within t) (p + n) (p + n) ((b :: l).drop n) (by rw [hl, List.drop_drop]) (by omega) (fun _ => rfl) (fun h => by have := within_le t; omega) (by have := within_le t; omega) (gap_nil _ _) h
        rw [inw_within] at ih
        unfold part at hP
        split at hP
        · rename_i hm0
          subst hm0
          have hap := ha (by omega)
          subst hap
          cases hP
          split at hr
          · obtain ⟨h3, h4⟩ := tag_kind hr
            refine ⟨⟨?_, ?_, ?_, ?_⟩, .inl ⟨rfl, h4, ?_⟩, fun h5 => ?_, ih⟩
            · simp only; omega
            · simp only; omega
            · simp only; omega
            · simp only [h4]; exact gap_nil _ _
            · simp only; omega
            · simp only at h5; omega
          · obtain ⟨h3, h4, h5⟩ := txt_kind hr
            refine ⟨⟨?_, ?_, ?_, ?_⟩, .inl ⟨rfl, h4, ?_⟩, fun _ => ?_, ih⟩
            · simp only; omega
            · simp only; omega
            · simp only; omega
            · simp only [h4]; exact gap_nil _ _
            · simp only; omega
            · simp only [h4]; exact h5
        · rename_i hm0
          have hle : a ≤ p := by
            rcases Nat.lt_or_ge m 2 with q | q
            · have := ha (by omega); omega
            · have := ha2 (by omega); omega
          have hw : inw m = 1 := by unfold inw; rw [if_neg hm0]
          rw [hw]
          split at hP
          · cases hP
          · split at hP
            · cases hP
              obtain ⟨h3, h4⟩ := end_kind hr
              refine ⟨⟨?_, ?_, ?_, ?_⟩, .inr ⟨rfl, .inl h3⟩, fun h5 => ?_, ih⟩
              · simp only; omega
              · simp only; omega
              · simp only; omega
              · simp only [h4]; exact hg
              · simp only at h5; omega
            · split at hP
              · rename_i h5
                cases hP
                obtain ⟨h3, h4⟩ := att_kind hr
                have h6 := ha2 h5.1
                refine ⟨⟨?_, ?_, ?_, ?_⟩, .inr ⟨rfl, .inr ⟨h3, by simp only; omega⟩⟩, fun h5 => ?_, ih⟩
                · simp only; omega
                · simp only; omega
                · simp only; omega
                · simp only [h4]; exact hg
                · simp only at h5; omega
              · cases hP; cases hr
end Go.Proofs.YtmlhibcbgdhadaaDoor
