/- A whole markup as tokens: what it hangs on, where its fault stands. No program in it. -/
import Derived.Test.YtmlhibcbgdhadaaDoorGram
namespace Go.Proofs.YtmlhibcbgdhadaaDoor
open Go

theorem tokR_ok (p : Nat) (t : Tk) (n : Nat) (g : Nat → Nat → Nat → Out) : tokR p (.ok (t, n)) g = ({ t with en := p + n } :: (g (within t) (p + n) n).1, (g (within t) (p + n) n).2) := rfl
theorem tokR_bad (p k n : Nat) (g : Nat → Nat → Nat → Out) : tokR p (.error (k, n)) g = ([], some (k, p + n)) := rfl
/-- the ways on -/
theorem G_out_nil (f p : Nat) : G (f + 1) 0 p [] = ([], none) := rfl
theorem G_in_nil (f m p : Nat) : G (f + 1) (m + 1) p [] = ([], some (70, p)) := rfl
/-- which part is read there -/
def part (m p b : Nat) : Option (Pz Tk) := if m = 0 then some (if b = 60 then tagP p else txtP p) else if isB b then none else if b = 47 ∨ b = 62 then some (endP p) else if m = 2 ∧ isL b then some (attP p) else some (fails 70)
theorem G_cons (f m p b : Nat) (l : List Nat) : G (f + 1) m p (b :: l) = match part m p b with
    | some P => tokR p (P (b :: l)) fun m q n => G f m q ((b :: l).drop n)
    | none => G f 2 (p + 1) l := by
  rcases m with _ | m
  · rfl
  · unfold part
    rw [if_neg (by omega)]
    by_cases h1 : isB b = true
    · rw [if_pos h1, G]; simp only [List.head?_cons]; rw [if_pos h1]; rfl
    · rw [if_neg h1]
      by_cases h2 : b = 47 ∨ b = 62
      · rw [if_pos h2, G]; simp only [List.head?_cons]; rw [if_neg h1, if_pos h2]
      · rw [if_neg h2]
        by_cases h3 : m = 1 ∧ isL b = true
        · rw [if_pos ⟨by omega, h3.2⟩, G]; simp only [List.head?_cons]; rw [if_neg h1, if_neg h2, if_pos h3]
        · rw [if_neg (fun h => h3 ⟨by omega, h.2⟩), G]; simp only [List.head?_cons]; rw [if_neg h1, if_neg h2, if_neg h3]
          rfl
theorem part_fair {m p b : Nat} {P : Pz Tk} (h : part m p b = some P) : Fair P := by
  unfold part at h
  split at h
  · cases h; split
    · exact fair_tag p
    · exact fair_txt p
  · split at h
    · cases h
    · split at h
      · cases h; exact fair_end p
      · split at h
        · cases h; exact fair_att p
        · cases h; exact fair_fails _
theorem part_goes {m p b : Nat} {P : Pz Tk} (h : part m p b = some P) {l : List Nat} {t : Tk} {n : Nat} (hr : P (b :: l) = .ok (t, n)) : 1 ≤ n := by
  unfold part at h
  split at h
  · cases h
    split at hr
    · exact goes_tag p _ _ _ hr
    · rename_i hb; exact goes_txt (b := b) rfl hb hr
  · split at h
    · cases h
    · split at h
      · cases h; exact goes_end p _ _ _ hr
      · split at h
        · cases h; exact goes_att p _ _ _ hr
        · cases h; cases hr
theorem G_nil (f m q : Nat) : (G f m q []).2 = none ∨ ∃ k, (G f m q []).2 = some (k, q) := by
  rcases f with _ | f
  · exact .inr ⟨99, rfl⟩
  · rcases m with _ | m
    · exact .inl rfl
    · exact .inr ⟨70, rfl⟩
theorem G_fuel : ∀ (f g m p : Nat) (l : List Nat), l.length < f → l.length < g → G f m p l = G g m p l
  | 0, _, _, _, _, h, _ => absurd h (Nat.not_lt_zero _)
  | _ + 1, 0, _, _, _, _, h => absurd h (Nat.not_lt_zero _)
  | f + 1, g + 1, m, p, [], _, _ => by rcases m with _ | m <;> rfl
  | f + 1, g + 1, m, p, b :: l, hf, hg => by
    rw [G_cons, G_cons]
    rcases hP : part m p b with _ | P
    · exact G_fuel f g 2 (p + 1) l (by simpa using hf) (by simpa using hg)
    · simp only
      rcases hr : P (b :: l) with ⟨k, n⟩ | ⟨t, n⟩
      · rfl
      · have h1 := part_goes hP hr
        have hc : (b :: l).length = l.length + 1 := rfl
        rw [tokR_ok, tokR_ok, G_fuel f g _ _ ((b :: l).drop n) (by rw [List.length_drop]; omega) (by rw [List.length_drop]; omega)]
/-- places only rise -/
theorem G_ge : ∀ (f m p : Nat) (l : List Nat), (∀ k n, (G f m p l).2 = some (k, n) → p ≤ n ∧ n ≤ p + l.length) ∧ ∀ t ∈ (G f m p l).1, p < t.en ∧ t.en ≤ p + l.length
  | 0, m, p, l => ⟨fun k n h => by have h : some (99, p) = some (k, n) := h; simp at h; omega, fun t h => by cases h⟩
  | f + 1, m, p, [] => by
    rcases m with _ | m
    · exact ⟨fun k n h => (by cases h), fun t h => (by cases h)⟩
    · exact ⟨fun k n h => (by cases h; simp), fun t h => (by cases h)⟩
  | f + 1, m, p, b :: l => by
    rw [G_cons]
    rcases hP : part m p b with _ | P
    · have ih := G_ge f 2 (p + 1) l
      simp only [List.length_cons]
      exact ⟨fun k n h => (by have := ih.1 k n h; omega), fun t h => (by have := ih.2 t h; omega)⟩
    · simp only
      have hF := part_fair hP
      have hle := hF.le (b :: l)
      rcases hr : P (b :: l) with ⟨k, n⟩ | ⟨t, n⟩
      · rw [hr] at hle
        rw [tokR_bad]
        refine ⟨fun k' n' h => ?_, fun t h => (by cases h)⟩
        cases h
        simp only [R.n] at hle
        omega
      · have h1 := part_goes hP hr
        rw [hr] at hle
        simp only [R.n] at hle
        rw [tokR_ok]
        have ih := G_ge f (within t) (p + n) ((b :: l).drop n)
        rw [List.length_drop] at ih
        refine ⟨fun k' n' h => (by have := ih.1 k' n' h; omega), fun t' h => ?_⟩
        rcases List.mem_cons.1 h with rfl | h
        · simp only; omega
        · have := ih.2 t' h; omega
/-- THE FIRST: with that byte, whatever follows -/
theorem G_loc : ∀ (f m p : Nat) (l l' : List Nat) (k n : Nat), (G f m p l).2 = some (k, n) → l'.take (n - p + 1) = l.take (n - p + 1) → G f m p l' = G f m p l
  | 0, _, _, _, _, _, _, _, _ => rfl
  | f + 1, m, p, [], l', k, n, h, ht => by
    have : l' = [] := by
      have := congrArg List.length ht
      simp at this
      omega
    rw [this]
  | f + 1, m, p, b :: l, l', k, n, h, ht => by
    obtain ⟨l2, rfl⟩ : ∃ l2, l' = b :: l2 := by
      rcases l' with _ | ⟨c, l2⟩
      · simp at ht
      · simp at ht; exact ⟨l2, by rw [ht.1]⟩
    rw [G_cons] at h ⊢
    rw [G_cons]
    rcases hP : part m p b with _ | P
    · rw [hP] at h
      simp only at h ⊢
      have := (G_ge f 2 (p + 1) l).1 k n h
      refine G_loc f 2 (p + 1) l l2 k n h ?_
      rw [List.take_succ_cons, List.take_succ_cons] at ht
      have h2 := (List.cons.inj ht).2
      rwa [show n - p = n - (p + 1) + 1 by omega] at h2
    · rw [hP] at h
      simp only at h ⊢
      have hF := part_fair hP
      rcases hr : P (b :: l) with ⟨k1, n1⟩ | ⟨t, n1⟩
      · rw [hr, tokR_bad] at h
        cases h
        rw [hF.loc (b :: l) (b :: l2) (by rw [hr]; simp only [R.n]; rwa [Nat.add_sub_cancel_left] at ht), hr]
        rfl
      · rw [hr, tokR_ok] at h
        simp only at h
        have hge := (G_ge f (within t) (p + n1) ((b :: l).drop n1)).1 k n h
        rw [hF.loc (b :: l) (b :: l2) (by rw [hr]; simp only [R.n]; exact take_pre ht (by omega)), hr, tokR_ok, tokR_ok]
        rw [G_loc f (within t) (p + n1) ((b :: l).drop n1) ((b :: l2).drop n1) k n h (by
          have := congrArg (List.drop n1) ht
          rw [List.drop_take, List.drop_take, show n - p + 1 - n1 = n - (p + n1) + 1 by omega] at this
          exact this)]
/-- what stands ahead of it is wrong at its end, if at all -/
theorem G_cut : ∀ (f m p : Nat) (l : List Nat) (k n a : Nat), (G f m p l).2 = some (k, n) → a ≤ n - p → (G f m p (l.take a)).2 = none ∨ ∃ k', (G f m p (l.take a)).2 = some (k', p + a)
  | 0, m, p, l, k, n, a, h, ha => by
    have h : some (99, p) = some (k, n) := h
    simp at h
    exact .inr ⟨99, by rw [show a = 0 by omega]; rfl⟩
  | f + 1, m, p, [], k, n, a, h, ha => by
    have hn := (G_ge (f + 1) m p []).1 k n h
    simp at hn
    rw [List.take_nil, show a = 0 by omega]
    exact .inr ⟨k, by rw [h]; congr 2; omega⟩
  | f + 1, m, p, b :: l, k, n, 0, h, ha => by
    rw [List.take_zero]
    exact G_nil _ _ _
  | f + 1, m, p, b :: l, k, n, a + 1, h, ha => by
    rw [List.take_succ_cons]
    rw [G_cons] at h ⊢
    rcases hP : part m p b with _ | P
    · rw [hP] at h
      simp only at h ⊢
      rw [show p + (a + 1) = p + 1 + a by omega]
      exact G_cut f 2 (p + 1) l k n a h (by omega)
    · rw [hP] at h
      simp only at h ⊢
      have hF := part_fair hP
      rw [show b :: l.take a = (b :: l).take (a + 1) from rfl]
      have small : ∀ n1, (P (b :: l)).n = n1 → a + 1 ≤ n1 → (tokR p (P ((b :: l).take (a + 1))) fun m q n => G f m q (((b :: l).take (a + 1)).drop n)).2 = none ∨ ∃ k', (tokR p (P ((b :: l).take (a + 1))) fun m q n => G f m q (((b :: l).take (a + 1)).drop n)).2 = some (k', p + (a + 1)) := by
        intro n1 e1 hle
        have hc := hF.cut (b :: l) (a + 1) (by omega)
        rcases hr2 : P ((b :: l).take (a + 1)) with ⟨k2, n2⟩ | ⟨t2, n2⟩
        · rw [hr2] at hc
          simp only [R.n] at hc
          subst hc
          exact .inr ⟨k2, rfl⟩
        · rw [hr2] at hc
          simp only [R.n] at hc
          subst hc
          rw [tokR_ok]
          simp only
          rw [show ((b :: l).take (a + 1)).drop (a + 1) = [] from List.drop_eq_nil_of_le (by simp; omega)]
          exact G_nil _ _ _
      rcases hr : P (b :: l) with ⟨k1, n1⟩ | ⟨t, n1⟩
      · rw [hr, tokR_bad] at h
        cases h
        exact small n1 (by rw [hr]; rfl) (by omega)
      · by_cases hle : a + 1 ≤ n1
        · exact small n1 (by rw [hr]; rfl) hle
        · rw [hr, tokR_ok] at h
          simp only at h
          rw [hF.loc (b :: l) ((b :: l).take (a + 1)) (by rw [hr]; simp only [R.n]; rw [List.take_take, Nat.min_eq_left (by omega)]), hr, tokR_ok]
          simp only
          rw [List.drop_take]
          have := G_cut f (within t) (p + n1) ((b :: l).drop n1) k n (a + 1 - n1) h (by omega)
          rwa [show p + n1 + (a + 1 - n1) = p + (a + 1) by omega] at this
end Go.Proofs.YtmlhibcbgdhadaaDoor
