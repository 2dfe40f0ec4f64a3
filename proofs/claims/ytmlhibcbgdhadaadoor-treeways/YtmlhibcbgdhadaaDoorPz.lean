/- A markup's parts as functions on bytes: what a part reads, how many bytes; or the kind of what can't stand, and where. What such a function may look at. No program in it. -/
import Derived.Test.YtmlhibcbgdhadaaDoorRuns
namespace Go.Proofs.YtmlhibcbgdhadaaDoor
open Go

/-- what is read, and how many bytes it has; or a kind, and how many bytes stand ahead of what can't -/
abbrev R (α : Type) := Except (Nat × Nat) (α × Nat)
abbrev Pz (α : Type) := List Nat → R α
def R.n {α : Type} : R α → Nat
  | .ok x => x.2
  | .error x => x.2
def R.up {α : Type} (k : Nat) : R α → R α
  | .ok x => .ok (x.1, k + x.2)
  | .error x => .error (x.1, k + x.2)
theorem R.up_n {α : Type} (k : Nat) (r : R α) : (r.up k).n = k + r.n := by cases r <;> rfl
theorem R.up_zero {α : Type} (r : R α) : r.up 0 = r := by rcases r with ⟨a, n⟩ | ⟨a, n⟩ <;> simp [R.up]
theorem R.up_up {α : Type} (k j : Nat) (r : R α) : (r.up k).up j = r.up (j + k) := by rcases r with ⟨a, n⟩ | ⟨a, n⟩ <;> simp [R.up, Nat.add_assoc]
def done {α : Type} (a : α) : Pz α := fun _ => .ok (a, 0)
def fails {α : Type} (k : Nat) : Pz α := fun _ => .error (k, 0)
def look {α : Type} (f : Option Nat → Pz α) : Pz α := fun l => f l.head? l
def byteP (q : Nat → Bool) (k : Nat) : Pz Unit := fun l => match l with
  | [] => .error (k, 0)
  | b :: _ => if q b then .ok ((), 1) else .error (k, 0)
def thenR {α β : Type} (r : R α) (f : α → Nat → R β) : R β := match r with
  | .ok x => (f x.1 x.2).up x.2
  | .error x => .error x
def andThen {α β : Type} (p : Pz α) (f : α → Nat → Pz β) : Pz β := fun l => thenR (p l) fun a n => f a n (l.drop n)

/-- it reads no byte but those ahead of what follows, and that one -/
structure Fair {α : Type} (p : Pz α) : Prop where
  le : ∀ l, (p l).n ≤ l.length
  loc : ∀ l m, m.take ((p l).n + 1) = l.take ((p l).n + 1) → p m = p l
  cut : ∀ l a, a ≤ (p l).n → (p (l.take a)).n = a

theorem Fair.nil {α : Type} {p : Pz α} (h : Fair p) : (p []).n = 0 := Nat.le_zero.1 (h.le [])
theorem take_pre {l m : List Nat} {a b : Nat} (h : m.take a = l.take a) (hb : b ≤ a) : m.take b = l.take b := by
  have := congrArg (List.take b) h
  rwa [List.take_take, List.take_take, Nat.min_eq_left hb] at this
theorem head_pre {l m : List Nat} {a : Nat} (h : m.take (a + 1) = l.take (a + 1)) : m.head? = l.head? := by
  rcases l with _ | ⟨b, l⟩ <;> rcases m with _ | ⟨c, m⟩ <;> simp at h ⊢
  exact h.1
theorem head_take (l : List Nat) (a : Nat) : (l.take (a + 1)).head? = l.head? := by cases l <;> simp

theorem fair_done {α : Type} (a : α) : Fair (done a) := ⟨fun _ => Nat.zero_le _, fun _ _ _ => rfl, fun _ _ h => (Nat.le_zero.1 h).symm⟩
theorem fair_fails {α : Type} (k : Nat) : Fair (fails (α := α) k) := ⟨fun _ => Nat.zero_le _, fun _ _ _ => rfl, fun _ _ h => (Nat.le_zero.1 h).symm⟩
theorem fair_look {α : Type} {f : Option Nat → Pz α} (h : ∀ b, Fair (f b)) : Fair (look f) := by
  refine ⟨fun l => (h _).le l, fun l m hm => ?_, fun l a ha => ?_⟩
  · unfold look
    rw [head_pre hm]
    exact (h _).loc l m hm
  · rcases a with _ | a
    · simp only [List.take_zero]
      exact Nat.le_zero.1 ((h _).le [])
    · unfold look at ha ⊢
      rw [head_take]
      exact (h _).cut l _ ha
theorem fair_byte (q : Nat → Bool) (k : Nat) : Fair (byteP q k) := by
  refine ⟨fun l => ?_, fun l m hm => ?_, fun l a ha => ?_⟩
  · unfold byteP
    split
    · exact Nat.le_refl _
    · split <;> simp [R.n]
  · have hh := head_pre hm
    unfold byteP
    rcases l with _ | ⟨b, l⟩ <;> rcases m with _ | ⟨c, m⟩
    · rfl
    · simp at hh
    · simp at hh
    · simp at hh; subst hh; rfl
  · unfold byteP at ha ⊢
    rcases l with _ | ⟨b, l⟩
    · simp [R.n] at ha ⊢; omega
    · rcases a with _ | a
      · simp [R.n]
      · simp only [List.take_succ_cons]
        simp only at ha
        split at ha
        · simp [R.n] at ha; subst ha; rename_i hq; rw [if_pos hq]; rfl
        · simp [R.n] at ha
theorem fair_then {α β : Type} {p : Pz α} {f : α → Nat → Pz β} (hp : Fair p) (hf : ∀ a n, Fair (f a n)) : Fair (andThen p f) := by
  refine ⟨fun l => ?_, fun l m hm => ?_, fun l a ha => ?_⟩
  · have h1 := hp.le l
    unfold andThen thenR
    rcases hr : p l with ⟨e⟩ | ⟨x, n⟩
    · rw [hr] at h1; exact h1
    · rw [hr] at h1
      simp only [R.n] at h1
      simp only [R.up_n]
      have := (hf x n).le (l.drop n)
      rw [List.length_drop] at this
      omega
  · have hpm : p m = p l := by
      refine hp.loc l m (take_pre hm ?_)
      unfold andThen thenR
      rcases hr : p l with ⟨e⟩ | ⟨x, n⟩
      · exact Nat.le_refl _
      · show n + 1 ≤ ((f x n (l.drop n)).up n).n + 1
        rw [R.up_n]; omega
    unfold andThen at hm ⊢
    rw [hpm]
    rcases hr : p l with ⟨e⟩ | ⟨x, n⟩
    · rfl
    · rw [hr] at hm
      simp only [thenR, R.up_n] at hm ⊢
      rw [(hf x n).loc (l.drop n) (m.drop n) ?_]
      have := congrArg (List.drop n) hm
      rw [List.drop_take, List.drop_take] at this
      refine take_pre this ?_
      omega
  · have h1 := hp.le l
    rcases hr : p l with ⟨e⟩ | ⟨x, n⟩
    · have e1 : (andThen p f l) = .error e := by unfold andThen; rw [hr]; rfl
      rw [e1] at ha
      have h2 := hp.cut l a (by rw [hr]; exact ha)
      unfold andThen thenR
      rcases hr2 : p (l.take a) with ⟨e⟩ | ⟨x, n⟩
      · rw [hr2] at h2; exact h2
      · rw [hr2] at h2
        simp only [R.n] at h2
        subst h2
        simp only [R.up_n]
        have := (hf x n).le ((l.take n).drop n)
        rw [List.length_drop, List.length_take] at this
        omega
    · rw [hr] at h1
      simp only [R.n] at h1
      by_cases han : a ≤ n
      · have h2 := hp.cut l a (by rw [hr]; exact han)
        unfold andThen thenR
        rcases hr2 : p (l.take a) with ⟨e⟩ | ⟨x, n⟩
        · rw [hr2] at h2; exact h2
        · rw [hr2] at h2
          simp only [R.n] at h2
          subst h2
          simp only [R.up_n]
          have := (hf x n).le ((l.take n).drop n)
          rw [List.length_drop, List.length_take] at this
          omega
      · have h2 : p (l.take a) = p l := by
          refine hp.loc l _ ?_
          rw [hr]
          simp only [R.n]
          rw [List.take_take, Nat.min_eq_left (by omega)]
        have e1 : (andThen p f l).n = n + (f x n (l.drop n)).n := by unfold andThen; rw [hr]; simp only [thenR, R.up_n]
        rw [e1] at ha
        unfold andThen
        rw [h2, hr]
        simp only [thenR, R.up_n]
        have h3 : (l.take a).drop n = (l.drop n).take (a - n) := List.drop_take ..
        rw [h3, (hf x n).cut (l.drop n) (a - n) (by omega)]
        omega
/-- the bytes that a part has -/
def textP {α : Type} (p : Pz α) : Pz (List Nat) := fun l => match p l with
  | .ok x => .ok (l.take x.2, x.2)
  | .error x => .error x
theorem textP_n {α : Type} (p : Pz α) (l : List Nat) : (textP p l).n = (p l).n := by unfold textP; rcases p l with ⟨e⟩ | ⟨x, n⟩ <;> rfl
theorem fair_text {α : Type} {p : Pz α} (h : Fair p) : Fair (textP p) := by
  refine ⟨fun l => by rw [textP_n]; exact h.le l, fun l m hm => ?_, fun l a ha => by rw [textP_n] at ha ⊢; exact h.cut l a ha⟩
  rw [textP_n] at hm
  unfold textP
  rw [h.loc l m hm]
  rcases hr : p l with ⟨e⟩ | ⟨x, n⟩
  · rfl
  · rw [hr] at hm
    simp only [R.n] at hm ⊢
    rw [take_pre hm (by omega)]
end Go.Proofs.YtmlhibcbgdhadaaDoor
