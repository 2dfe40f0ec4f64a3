/- A fault has a kind: none is 0. No program in it. -/
import Derived.Test.YtmlhibcbgdhadaaDoorEncs
namespace Go.Proofs.YtmlhibcbgdhadaaDoor
open Go

def Kd {α : Type} (p : Pz α) : Prop := ∀ l k n, p l = .error (k, n) → k ≠ 0
theorem kd_done {α : Type} (a : α) : Kd (done a) := fun _ _ _ h => by cases h
theorem kd_fails {α : Type} {k : Nat} (h : k ≠ 0) : Kd (fails (α := α) k) := fun _ _ _ e => by cases e; exact h
theorem kd_look {α : Type} {f : Option Nat → Pz α} (h : ∀ b, Kd (f b)) : Kd (look f) := fun l k n e => h _ l k n e
theorem kd_byte {q : Nat → Bool} {k : Nat} (h : k ≠ 0) : Kd (byteP q k) := fun l k' n e => by
  unfold byteP at e
  rcases l with _ | ⟨b, l⟩
  · cases e; exact h
  · simp only at e
    split at e
    · cases e
    · cases e; exact h
theorem kd_then {α β : Type} {p : Pz α} {f : α → Nat → Pz β} (hp : Kd p) (hf : ∀ a n, Kd (f a n)) : Kd (andThen p f) := fun l k n e => by
  rcases hr : p l with ⟨e'⟩ | ⟨a, j⟩
  · rw [then_bad hr] at e
    cases e
    exact hp l k n hr
  · rw [then_ok hr] at e
    rcases hf2 : f a j (l.drop j) with ⟨k2, n2⟩ | ⟨y, i⟩
    · rw [hf2] at e
      cases e
      exact hf a j _ _ _ hf2
    · rw [hf2] at e; cases e
theorem kd_text {α : Type} {p : Pz α} (h : Kd p) : Kd (textP p) := fun l k n e => by
  unfold textP at e
  rcases hr : p l with ⟨e'⟩ | ⟨a, j⟩
  · rw [hr] at e; cases e; exact h l k n hr
  · rw [hr] at e; cases e
theorem kd_skip : Kd skip := kd_byte (by decide)
theorem kd_word {k : Nat} (h : k ≠ 0) : ∀ ws, Kd (word k ws)
  | [] => kd_done _
  | _ :: cs => kd_then (kd_byte h) fun _ _ => kd_word h cs
theorem kd_namK : ∀ r, Kd (namK r)
  | 0 => kd_look fun b => by split; exact kd_fails (by decide); exact kd_done _
  | r + 1 => kd_look fun b => by split; exact kd_then kd_skip fun _ _ => kd_namK r; exact kd_done _
theorem kd_name : Kd name := kd_look fun b => by split; exact kd_text (kd_namK _); exact kd_fails (by decide)
theorem kd_numK : ∀ r n, Kd (numK r n)
  | 0, n => kd_look fun b => by split; exact kd_then kd_skip fun _ _ => kd_done _; exact kd_fails (by decide)
  | r + 1, n => kd_look fun b => by
    split
    · exact kd_then kd_skip fun _ _ => kd_done _
    · split
      · exact kd_fails (by decide)
      · split
        · exact kd_fails (by decide)
        · exact kd_then kd_skip fun _ _ => kd_numK r _
theorem kd_entP : Kd entP := kd_then kd_skip fun _ _ => kd_look fun b => by
  split
  · exact kd_then (kd_word (by decide) _) fun _ _ => kd_done _
  · exact kd_then (kd_word (by decide) _) fun _ _ => kd_numK _ _
theorem kd_plain : Kd plainP := fun l k n e => by
  unfold plainP at e
  split at e
  · cases e
  · cases e; decide
theorem kd_chr : Kd chrP := kd_look fun b => by split; exact kd_entP; exact kd_plain
theorem kd_val : ∀ r, Kd (valK r)
  | 0 => kd_look fun b => by
    split
    · exact kd_done _
    · split <;> exact kd_fails (by decide)
  | r + 1 => kd_look fun b => by
    split
    · exact kd_done _
    · split
      · exact kd_fails (by decide)
      · exact kd_then kd_chr fun _ _ => kd_then (kd_val r) fun _ _ => kd_done _
theorem kd_chs : ∀ f p, Kd (chsK f p)
  | 0, _ => kd_fails (by decide)
  | f + 1, p => kd_look fun b => by
    split
    · exact kd_done _
    · exact kd_then kd_chr fun _ _ => kd_then (kd_chs f _) fun _ _ => kd_done _
theorem kd_txt (p : Nat) : Kd (txtP p) := fun l k n e => (kd_then (kd_chs (l.length + 1) p) fun _ _ => kd_done _) l k n e
theorem kd_tag (p : Nat) : Kd (tagP p) := kd_then (kd_word (by decide) _) fun _ _ => kd_look fun b => by
  split
  · exact kd_then (kd_word (by decide) _) fun _ _ => kd_then kd_name fun _ _ => kd_then (kd_word (by decide) _) fun _ _ => kd_done _
  · exact kd_then kd_name fun _ _ => kd_done _
theorem kd_att (p : Nat) : Kd (attP p) := kd_then kd_name fun _ _ => kd_then (kd_word (by decide) _) fun _ _ => kd_then (kd_val _) fun _ _ => kd_then (kd_word (by decide) _) fun _ _ => kd_done _
theorem kd_end (p : Nat) : Kd (endP p) := kd_look fun b => by
  split
  · exact kd_then (kd_word (by decide) _) fun _ _ => kd_done _
  · exact kd_then (kd_word (by decide) _) fun _ _ => kd_done _
theorem part_kd {m p b : Nat} {P : Pz Tk} (h : part m p b = some P) : Kd P := by
  unfold part at h
  split at h
  · cases h; split
    · exact kd_tag p
    · exact kd_txt p
  · split at h
    · cases h
    · split at h
      · cases h; exact kd_end p
      · split at h
        · cases h; exact kd_att p
        · cases h; exact kd_fails (by decide)
theorem G_kd : ∀ (f m p : Nat) (l : List Nat) (k n : Nat), (G f m p l).2 = some (k, n) → k ≠ 0
  | 0, _, _, _, k, n, h => by
    have h : some (99, _) = some (k, n) := h
    cases h; decide
  | f + 1, m, p, [], k, n, h => by
    rcases m with _ | m
    · cases h
    · have h : some (70, _) = some (k, n) := h
      cases h; decide
  | f + 1, m, p, b :: l, k, n, h => by
    rw [G_cons] at h
    rcases hP : part m p b with _ | P
    · rw [hP] at h; exact G_kd f 2 (p + 1) l k n h
    · rw [hP] at h
      simp only at h
      rcases hr : P (b :: l) with ⟨k1, n1⟩ | ⟨t, n1⟩
      · rw [hr, tokR_bad] at h
        cases h
        exact part_kd hP _ _ _ hr
      · rw [hr, tokR_ok] at h
        exact G_kd f _ _ _ k n h
/-! ### a text, a value -/
theorem name_a (m : List Nat) : name (97 :: 32 :: m) = .ok ([97], 1) := rfl
theorem name_b (m : List Nat) : name (98 :: 61 :: m) = .ok ([98], 1) := rfl
end Go.Proofs.YtmlhibcbgdhadaaDoor
