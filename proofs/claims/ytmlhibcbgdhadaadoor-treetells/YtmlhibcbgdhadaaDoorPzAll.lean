/- A markup's parts as functions on bytes: what a part reads, how many bytes; or the kind of what can't stand, and where. What such a function may look at. No program in it. -/
import Derived.Test.YtmlhibcbgdhadaaDoorUtfAll
namespace Go.Proofs.YtmlhibcbgdhadaaDoor
open Go

/-- what is read, and how many bytes it has; or a kind, and how many bytes stand ahead of what can't -/
abbrev R (α : Type) := Except (Nat × Nat) (α × Nat)
abbrev Pz (α : Type) := List Nat → R α
def R.n {α : Type} : R α → Nat
  | .ok x => x.2
  | .error x => x.2
def R.up {α : Type} (k : Nat) : R α → R α
  | .ok x => .ok (x.1, k + x.2)
  | .error x => .error (x.1, k + x.2)
theorem R.up_n {α : Type} (k : Nat) (r : R α) : (r.up k).n = k + r.n := by cases r <;> rfl
theorem R.up_zero {α : Type} (r : R α) : r.up 0 = r := by rcases r with ⟨a, n⟩ | ⟨a, n⟩ <;> simp [R.up]
theorem R.up_up {α : Type} (k j : Nat) (r : R α) : (r.up k).up j = r.up (j + k) := by rcases r with ⟨a, n⟩ | ⟨a, n⟩ <;> simp [R.up, Nat.add_assoc]
def done {α : Type} (a : α) : Pz α := fun _ => .ok (a, 0)
def fails {α : Type} (k : Nat) : Pz α := fun _ => .error (k, 0)
def look {α : Type} (f : Option Nat → Pz α) : Pz α := fun l => f l.head? l
def byteP (q : Nat → Bool) (k : Nat) : Pz Unit := fun l => match l with
  | [] => .error (k, 0)
  | b :: _ => if q b then .ok ((), 1) else .error (k, 0)
def thenR {α β : Type} (r : R α) (f : α → Nat → R β) : R β := match r with
  | .ok x => (f x.1 x.2).up x.2
  | .error x => .error x
def andThen {α β : Type} (p : Pz α) (f : α → Nat → Pz β) : Pz β := fun l => thenR (p l) fun a n => f a n (l.drop n)

/-- it reads no byte but those ahead of what follows, and that one -/
structure Fair {α : Type} (p : Pz α) : Prop where
  le : ∀ l, (p l).n ≤ l.length
  loc : ∀ l m, m.take ((p l).n + 1) = l.take ((p l).n + 1) → p m = p l
  cut : ∀ l a, a ≤ (p l).n → (p (l.take a)).n = a

theorem Fair.nil {α : Type} {p : Pz α} (h : Fair p) : (p []).n = 0 := Nat.le_zero.1 (h.le [])
theorem take_pre {l m : List Nat} {a b : Nat} (h : m.take a = l.take a) (hb : b ≤ a) : m.take b = l.take b := by
  have := congrArg (List.take b) h
  rwa [List.take_take, List.take_take, Nat.min_eq_left hb] at this
theorem head_pre {l m : List Nat} {a : Nat} (h : m.take (a + 1) = l.take (a + 1)) : m.head? = l.head? := by
  rcases l with _ | ⟨b, l⟩ <;> rcases m with _ | ⟨c, m⟩ <;> simp at h ⊢
  exact h.1
theorem head_take (l : List Nat) (a : Nat) : (l.take (a + 1)).head? = l.head? := by cases l <;> simp

theorem fair_done {α : Type} (a : α) : Fair (done a) := ⟨fun _ => Nat.zero_le _, fun _ _ _ => rfl, fun _ _ h => (Nat.le_zero.1 h).symm⟩
theorem fair_fails {α : Type} (k : Nat) : Fair (fails (α := α) k) := ⟨fun _ => Nat.zero_le _, fun _ _ _ => rfl, fun _ _ h => (Nat.le_zero.1 h).symm⟩
theorem fair_look {α : Type} {f : Option Nat → Pz α} (h : ∀ b, Fair (f b)) : Fair (look f) := by
  refine ⟨fun l => (h _).le l, fun l m hm => ?_, fun l a ha => ?_⟩
  · unfold look
    rw [head_pre hm]
    exact (h _).loc l m hm
  · rcases a with _ | a
    · simp only [List.take_zero]
      exact Nat.le_zero.1 ((h _).le [])
    · unfold look at ha ⊢
      rw [head_take]
      exact (h _).cut l _ ha
theorem fair_byte (q : Nat → Bool) (k : Nat) : Fair (byteP q k) := by
  refine ⟨fun l => ?_, fun l m hm => ?_, fun l a ha => ?_⟩
  · unfold byteP
    split
    · exact Nat.le_refl _
    · split <;> simp [R.n]
  · have hh := head_pre hm
    unfold byteP
    rcases l with _ | ⟨b, l⟩ <;> rcases m with _ | ⟨c, m⟩
    · rfl
    · simp at hh
    · simp at hh
    · simp at hh; subst hh; rfl
  · unfold byteP at ha ⊢
    rcases l with _ | ⟨b, l⟩
    · simp [R.n] at ha ⊢; omega
    · rcases a with _ | a
      · simp [R.n]
      · simp only [List.take_succ_cons]
        simp only at ha
        split at ha
        · simp [R.n] at ha; subst ha; rename_i hq; rw [if_pos hq]; rfl
        · simp [R.n] at ha
theorem fair_then {α β : Type} {p : Pz α} {f : α → Nat → Pz β} (hp : Fair p) (hf : ∀ a n, Fair (f a n)) : Fair (andThen p f) := by
  refine ⟨fun l => ?_, fun l m hm => ?_, fun l a ha => ?_⟩
  · have h1 := hp.le l
    unfold andThen thenR
    rcases hr : p l with ⟨e⟩ | ⟨x, n⟩
    · rw [hr] at h1; exact h1
    · rw [hr] at h1
      simp only [R.n] at h1
      simp only [R.up_n]
      have := (hf x n).le (l.drop n)
      rw [List.length_drop] at this
      omega
  · have hpm : p m = p l := by
      refine hp.loc l m (take_pre hm ?_)
      unfold andThen thenR
      rcases hr : p l with ⟨e⟩ | ⟨x, n⟩
      · exact Nat.le_refl _
      · show n + 1 ≤ ((f x n (l.drop n)).up n).n + 1
        rw [R.up_n]; omega
    unfold andThen at hm ⊢
    rw [hpm]
    rcases hr : p l with ⟨e⟩ | ⟨x, n⟩
    · rfl
    · rw [hr] at hm
      simp only [thenR, R.up_n] at hm ⊢
      rw [(hf x n).loc (l.drop n) (m.drop n) ?_]
      have := congrArg (List.drop n) hm
      rw [List.drop_take, List.drop_take] at this
      refine take_pre this ?_
      omega
  · have h1 := hp.le l
    rcases hr : p l with ⟨e⟩ | ⟨x, n⟩
    · have e1 : (andThen p f l) = .error e := by unfold andThen; rw [hr]; rfl
      rw [e1] at ha
      have h2 := hp.cut l a (by rw [hr]; exact ha)
      unfold andThen thenR
      rcases hr2 : p (l.take a) with ⟨e⟩ | ⟨x, n⟩
      · rw [hr2] at h2; exact h2
      · rw [hr2] at h2
        simp only [R.n] at h2
        subst h2
        simp only [R.up_n]
        have := (hf x n).le ((l.take n).drop n)
        rw [List.length_drop, List.length_take] at this
        omega
    · rw [hr] at h1
      simp only [R.n] at h1
      by_cases han : a ≤ n
      · have h2 := hp.cut l a (by rw [hr]; exact han)
        unfold andThen thenR
        rcases hr2 : p (l.take a) with ⟨e⟩ | ⟨x, n⟩
        · rw [hr2] at h2; exact h2
        · rw [hr2] at h2
          simp only [R.n] at h2
          subst h2
          simp only [R.up_n]
          have := (hf x n).le ((l.take n).drop n)
          rw [List.length_drop, List.length_take] at this
          omega
      · have h2 : p (l.take a) = p l := by
          refine hp.loc l _ ?_
          rw [hr]
          simp only [R.n]
          rw [List.take_take, Nat.min_eq_left (by omega)]
        have e1 : (andThen p f l).n = n + (f x n (l.drop n)).n := by unfold andThen; rw [hr]; simp only [thenR, R.up_n]
        rw [e1] at ha
        unfold andThen
        rw [h2, hr]
        simp only [thenR, R.up_n]
        have h3 : (l.take a).drop n = (l.drop n).take (a - n) := List.drop_take ..
        rw [h3, (hf x n).cut (l.drop n) (a - n) (by omega)]
        omega
/-- the bytes that a part has -/
def textP {α : Type} (p : Pz α) : Pz (List Nat) := fun l => match p l with
  | .ok x => .ok (l.take x.2, x.2)
  | .error x => .error x
theorem textP_n {α : Type} (p : Pz α) (l : List Nat) : (textP p l).n = (p l).n := by unfold textP; rcases p l with ⟨e⟩ | ⟨x, n⟩ <;> rfl
theorem fair_text {α : Type} {p : Pz α} (h : Fair p) : Fair (textP p) := by
  refine ⟨fun l => by rw [textP_n]; exact h.le l, fun l m hm => ?_, fun l a ha => by rw [textP_n] at ha ⊢; exact h.cut l a ha⟩
  rw [textP_n] at hm
  unfold textP
  rw [h.loc l m hm]
  rcases hr : p l with ⟨e⟩ | ⟨x, n⟩
  · rfl
  · rw [hr] at hm
    simp only [R.n] at hm ⊢
    rw [take_pre hm (by omega)]
end Go.Proofs.YtmlhibcbgdhadaaDoor
namespace Go.Proofs.YtmlhibcbgdhadaaDoor
open Go

def isL (b : Nat) : Bool := decide ((97 ≤ b ∧ b ≤ 122) ∨ (65 ≤ b ∧ b ≤ 90))
def isB (b : Nat) : Bool := decide (b = 32 ∨ b = 9 ∨ b = 10 ∨ b = 13)
def isLo : Option Nat → Bool
  | none => false
  | some b => isL b
def isRune (n : Nat) : Bool := decide (n ≤ 1114111 ∧ (n < 55296 ∨ 57343 < n))
def digO : Option Nat → Option Nat
  | none => none
  | some b => if 48 ≤ b ∧ b ≤ 57 then some (b - 48) else if 97 ≤ b ∧ b ≤ 102 then some (b - 87) else if 65 ≤ b ∧ b ≤ 70 then some (b - 55) else none
def skip : Pz Unit := byteP (fun _ => true) 70
def word (k : Nat) : List Nat → Pz Unit
  | [] => done ()
  | c :: cs => andThen (byteP (· == c) k) fun _ _ => word k cs
/-- letters, so many at most -/
def namK : Nat → Pz Unit
  | 0 => look fun b => if isLo b then fails 72 else done ()
  | r + 1 => look fun b => if isLo b then andThen skip (fun _ _ => namK r) else done ()
def name : Pz (List Nat) := look fun b => if isLo b then textP (namK 256) else fails 70
/-- the entities that have names, behind the & -/
def ents : List (Nat × List Nat) := [(60, [108, 116, 59]), (62, [103, 116, 59]), (38, [97, 109, 112, 59]), (34, [113, 117, 111, 116, 59]), (173, [115, 104, 121, 59]), (160, [110, 98, 115, 112, 59])]
def entOf (b : Option Nat) : Option (Nat × List Nat) := ents.find? fun e => e.2.head? == b
/-- the digits of a number, so many more at most; n: what those ahead count -/
def numK : Nat → Nat → Pz Nat
  | 0, n => look fun b => if b = some 59 ∧ isRune n then andThen skip (fun _ _ => done n) else fails 71
  | r + 1, n => look fun b => if b = some 59 ∧ r + 1 < 6 ∧ isRune n then andThen skip (fun _ _ => done n) else match digO b with
    | none => fails 71
    | some d => if r = 0 ∧ isRune (16 * n + d) = false then fails 71 else andThen skip (fun _ _ => numK r (16 * n + d))
def entP : Pz Nat := andThen skip fun _ _ => look fun b => match entOf b with
  | some e => andThen (word 71 e.2) (fun _ _ => done e.1)
  | none => andThen (word 71 [35, 120]) fun _ _ => numK 6 0
def plainP : Pz Nat := fun l => match bad l with
  | none => .ok (rune l, wd l)
  | some e => .error (40, e)
def chrP : Pz Nat := look fun b => if b = some 38 then entP else plainP
/-- the runes of a value, so many more at most -/
def valK : Nat → Pz (List Nat)
  | 0 => look fun b => if b = some 34 then done [] else if b = none then fails 70 else fails 72
  | r + 1 => look fun b => if b = some 34 then done [] else if b = none ∨ b = some 60 then fails 70 else andThen chrP fun x _ => andThen (valK r) fun xs _ => done (x :: xs)
/-- a rune's bytes -/
def enc (r : Nat) : List Nat := if r < 128 then [r] else if r < 2048 then [192 + r / 64, 128 + r % 64] else if r < 65536 then [224 + r / 4096, 128 + r / 64 % 64, 128 + r % 64] else [240 + r / 262144, 128 + r / 4096 % 64, 128 + r / 64 % 64, 128 + r % 64]
/-- a token -/
structure Tk where
  kd : Nat
  at_ : Nat
  en : Nat
  nm : List Nat
  vl : List Nat
  em : Bool
  ch : List (Nat × Nat × Nat)
/-- a text's characters -/
def chsK : Nat → Nat → Pz (List (Nat × Nat × Nat))
  | 0, _ => fails 99
  | f + 1, p => look fun b => if b = none ∨ b = some 60 then done [] else andThen chrP fun x n => andThen (chsK f (p + n)) fun xs _ => done ((x, p, p + n) :: xs)
def txtP (p : Nat) : Pz Tk := fun l => andThen (chsK (l.length + 1) p) (fun xs _ => done ⟨5, p, 0, [], [], false, xs⟩) l
def tagP (p : Nat) : Pz Tk := andThen (word 70 [60]) fun _ _ => look fun b => if b = some 47 then
    andThen (word 70 [47]) fun _ _ => andThen name fun nm _ => andThen (word 70 [62]) fun _ _ => done ⟨4, p, 0, nm, [], false, []⟩
  else andThen name fun nm _ => done ⟨1, p, 0, nm, [], false, []⟩
def attP (p : Nat) : Pz Tk := andThen name fun nm _ => andThen (word 70 [61, 34]) fun _ _ => andThen (valK 256) fun v _ => andThen (word 70 [34]) fun _ _ => done ⟨2, p, 0, nm, v.flatMap enc, false, []⟩
def endP (p : Nat) : Pz Tk := look fun b => if b = some 47 then andThen (word 70 [47, 62]) (fun _ _ => done ⟨3, p, 0, [], [], true, []⟩) else andThen (word 70 [62]) (fun _ _ => done ⟨3, p, 0, [], [], false, []⟩)
/-- where a token is followed by what stands within a tag -/
def within (t : Tk) : Nat := if t.kd = 1 ∨ t.kd = 2 then 1 else 0
abbrev Out := List Tk × Option (Nat × Nat)
/-- one token, and what is behind it -/
def tokR (p : Nat) (r : R Tk) (g : Nat → Nat → Nat → Out) : Out := match r with
  | .ok x => ({ x.1 with en := p + x.2 } :: (g (within x.1) (p + x.2) x.2).1, (g (within x.1) (p + x.2) x.2).2)
  | .error x => ([], some (x.1, p + x.2))
/-- what stands from place p on: m 0: outside of tags; 1: within one; 2: within one, behind a blank -/
def G : Nat → Nat → Nat → List Nat → Out
  | 0, _, p, _ => ([], some (99, p))
  | f + 1, 0, p, l => match l.head? with
    | none => ([], none)
    | some b => tokR p ((if b = 60 then tagP p else txtP p) l) fun m q n => G f m q (l.drop n)
  | f + 1, m + 1, p, l => match l.head? with
    | none => ([], some (70, p))
    | some b => if isB b then G f 2 (p + 1) (l.drop 1)
      else if b = 47 ∨ b = 62 then tokR p (endP p l) fun m q n => G f m q (l.drop n)
      else if m = 1 ∧ isL b then tokR p (attP p l) fun m q n => G f m q (l.drop n)
      else ([], some (70, p))
def GG (m p : Nat) (l : List Nat) : Out := G (l.length + 1) m p l

/-! ### what they look at -/
theorem fair_skip : Fair skip := fair_byte _ _
theorem fair_word (k : Nat) : ∀ ws, Fair (word k ws)
  | [] => fair_done _
  | _ :: cs => fair_then (fair_byte _ _) fun _ _ => fair_word k cs
theorem fair_namK : ∀ r, Fair (namK r)
  | 0 => fair_look fun b => by split; exact fair_fails _; exact fair_done _
  | r + 1 => fair_look fun b => by split; exact fair_then fair_skip fun _ _ => fair_namK r; exact fair_done _
theorem fair_name : Fair name := fair_look fun b => by split; exact fair_text (fair_namK _); exact fair_fails _
theorem fair_numK : ∀ r n, Fair (numK r n)
  | 0, n => fair_look fun b => by split; exact fair_then fair_skip fun _ _ => fair_done _; exact fair_fails _
  | r + 1, n => fair_look fun b => by
    split
    · exact fair_then fair_skip fun _ _ => fair_done _
    · split
      · exact fair_fails _
      · split
        · exact fair_fails _
        · exact fair_then fair_skip fun _ _ => fair_numK r _
theorem fair_entP : Fair entP := fair_then fair_skip fun _ _ => fair_look fun b => by
  split
  · exact fair_then (fair_word _ _) fun _ _ => fair_done _
  · exact fair_then (fair_word _ _) fun _ _ => fair_numK _ _
theorem bad_cut {l : List Nat} {e a : Nat} (h : bad l = some e) (ha : a ≤ e) : bad (l.take a) = some a := by
  have he := (bad_le h).2
  by_cases h2 : a = l.length
  · rw [List.take_of_length_le (by omega), h]; congr 1; omega
  by_cases h0 : a = 0
  · subst h0; rfl
  have g := bad_cases h (by omega)
  have gt : ∀ i, i < a → (l.take a).getD i 0 = l.getD i 0 := fun i hi => getD_take (by rw [List.take_take, Nat.min_self]) hi
  have hl : (l.take a).length = a := by simp; omega
  rcases hk : bad (l.take a) with _ | k
  · exfalso
    have g' := good_cases hk
    rw [hl, gt 0 (by omega)] at g'
    rcases g with g | g | ⟨_, _, _, g | g⟩ | ⟨_, _, _, g | g | g⟩
    all_goals rcases g' with g' | g' | g' | g' <;> omega
  · have g' := bad_cases hk (by omega)
    have hk2 := (bad_le hk).2
    rw [hl] at hk2
    rw [hl, gt 0 (by omega)] at g'
    congr 1
    by_cases h1 : a = 1
    · subst h1
      rcases g with g | g | ⟨_, _, _, g | g⟩ | ⟨_, _, _, g | g | g⟩
      all_goals first | omega | skip
      all_goals rcases g' with g' | g' | ⟨_, _, _, g' | g'⟩ | ⟨_, _, _, g' | g' | g'⟩ <;> omega
    rw [gt 1 (by omega)] at g'
    by_cases h2 : a = 2
    · subst h2
      rcases g with g | g | ⟨_, _, _, g | g⟩ | ⟨_, _, _, g | g | g⟩
      all_goals first | omega | skip
      all_goals rcases g' with g' | g' | ⟨_, _, _, g' | g'⟩ | ⟨_, _, _, g' | g' | g'⟩ <;> omega
    rw [gt 2 (by omega)] at g'
    rcases g with g | g | ⟨_, _, _, g | g⟩ | ⟨_, _, _, g | g | g⟩
    all_goals first | omega | skip
    all_goals rcases g' with g' | g' | ⟨_, _, _, g' | g'⟩ | ⟨_, _, _, g' | g' | g'⟩ <;> omega
theorem good_cut {l : List Nat} {a : Nat} (h : bad l = none) (ha : a < wd l) : bad (l.take a) = some a := by
  have he := (bad_none h).2
  have g := good_cases h
  have hw : wd l = wide (l.getD 0 0) := rfl
  rw [hw] at ha he
  by_cases h0 : a = 0
  · subst h0; rfl
  have gt : ∀ i, i < a → (l.take a).getD i 0 = l.getD i 0 := fun i hi => getD_take (by rw [List.take_take, Nat.min_self]) hi
  have hl : (l.take a).length = a := by simp; omega
  rcases hk : bad (l.take a) with _ | k
  · exfalso
    have g' := good_cases hk
    rw [hl, gt 0 (by omega)] at g'
    rcases g with g | g | g | g
    all_goals rcases g' with g' | g' | g' | g' <;> omega
  · have g' := bad_cases hk (by omega)
    have hk2 := (bad_le hk).2
    rw [hl] at hk2
    rw [hl, gt 0 (by omega)] at g'
    congr 1
    by_cases h1 : a = 1
    · subst h1
      rcases g with g | g | g | g
      all_goals first | omega | skip
      all_goals rcases g' with g' | g' | ⟨_, _, _, g' | g'⟩ | ⟨_, _, _, g' | g' | g'⟩ <;> omega
    rw [gt 1 (by omega)] at g'
    by_cases h2 : a = 2
    · subst h2
      rcases g with g | g | g | g
      all_goals first | omega | skip
      all_goals rcases g' with g' | g' | ⟨_, _, _, g' | g'⟩ | ⟨_, _, _, g' | g' | g'⟩ <;> omega
    rw [gt 2 (by omega)] at g'
    rcases g with g | g | g | g
    all_goals first | omega | skip
    all_goals rcases g' with g' | g' | ⟨_, _, _, g' | g'⟩ | ⟨_, _, _, g' | g' | g'⟩ <;> omega
theorem fair_plain : Fair plainP := by
  refine ⟨fun l => ?_, fun l m hm => ?_, fun l a ha => ?_⟩
  · unfold plainP
    rcases hb : bad l with _ | e
    · exact (bad_none hb).2
    · exact (bad_le hb).2
  · unfold plainP at hm ⊢
    rcases hb : bad l with _ | e
    · rw [hb] at hm
      obtain ⟨h1, h2, h3⟩ := good_pre hb (take_pre hm (Nat.le_succ _))
      rw [h1, h2, h3]
    · rw [hb] at hm
      simp only [R.n] at hm
      rcases Nat.eq_or_lt_of_le (bad_le hb).2 with h2 | h2
      · have : m = l := by
          rw [h2, List.take_of_length_le (l := l) (by omega)] at hm
          have h3 := congrArg List.length hm
          simp at h3
          rwa [List.take_of_length_le (by omega)] at hm
        rw [this, hb]
      · rw [bad_pre hb h2 hm]
  · unfold plainP at ha ⊢
    rcases hb : bad l with _ | e
    · rw [hb] at ha
      simp only [R.n] at ha
      rcases Nat.eq_or_lt_of_le ha with h2 | h2
      · obtain ⟨h1, h3, h4⟩ := good_pre hb (m := l.take a) (by rw [h2, List.take_take, Nat.min_self])
        rw [h1]
        simp only [R.n]
        omega
      · rw [good_cut hb h2]
        rfl
    · rw [hb] at ha
      rw [bad_cut hb ha]
      rfl
theorem fair_chr : Fair chrP := fair_look fun b => by split; exact fair_entP; exact fair_plain
theorem fair_val : ∀ r, Fair (valK r)
  | 0 => fair_look fun b => by
    split
    · exact fair_done _
    · split <;> exact fair_fails _
  | r + 1 => fair_look fun b => by
    split
    · exact fair_done _
    · split
      · exact fair_fails _
      · exact fair_then fair_chr fun _ _ => fair_then (fair_val r) fun _ _ => fair_done _
theorem fair_chs : ∀ f p, Fair (chsK f p)
  | 0, _ => fair_fails _
  | f + 1, p => fair_look fun b => by
    split
    · exact fair_done _
    · exact fair_then fair_chr fun _ _ => fair_then (fair_chs f _) fun _ _ => fair_done _
theorem fair_tag (p : Nat) : Fair (tagP p) := fair_then (fair_word _ _) fun _ _ => fair_look fun b => by
  split
  · exact fair_then (fair_word _ _) fun _ _ => fair_then fair_name fun _ _ => fair_then (fair_word _ _) fun _ _ => fair_done _
  · exact fair_then fair_name fun _ _ => fair_done _
theorem fair_att (p : Nat) : Fair (attP p) := fair_then fair_name fun _ _ => fair_then (fair_word _ _) fun _ _ => fair_then (fair_val _) fun _ _ => fair_then (fair_word _ _) fun _ _ => fair_done _
theorem fair_end (p : Nat) : Fair (endP p) := fair_look fun b => by
  split
  · exact fair_then (fair_word _ _) fun _ _ => fair_done _
  · exact fair_then (fair_word _ _) fun _ _ => fair_done _

/-! ### it goes on -/
theorem thenR_ok {α β : Type} {a : α} {n : Nat} (f : α → Nat → R β) : thenR (.ok (a, n)) f = (f a n).up n := rfl
theorem thenR_bad {α β : Type} {e : Nat × Nat} (f : α → Nat → R β) : thenR (.error e) f = .error e := rfl
theorem then_ok {α β : Type} {p : Pz α} {f : α → Nat → Pz β} {l : List Nat} {a : α} {n : Nat} (h : p l = .ok (a, n)) : andThen p f l = (f a n (l.drop n)).up n := by unfold andThen; rw [h]; rfl
theorem then_bad {α β : Type} {p : Pz α} {f : α → Nat → Pz β} {l : List Nat} {e : Nat × Nat} (h : p l = .error e) : andThen p f l = .error e := by unfold andThen; rw [h]; rfl
/-- what it reads has a byte at least -/
def Goes {α : Type} (p : Pz α) : Prop := ∀ l a n, p l = .ok (a, n) → 1 ≤ n
theorem goes_byte (q : Nat → Bool) (k : Nat) : Goes (byteP q k) := by
  intro l a n h
  unfold byteP at h
  rcases l with _ | ⟨b, l⟩
  · cases h
  · simp only at h
    split at h
    · cases h; exact Nat.le_refl _
    · cases h
theorem goes_then {α β : Type} {p : Pz α} {f : α → Nat → Pz β} (hp : Goes p) : Goes (andThen p f) := by
  intro l a n h
  rcases hr : p l with ⟨e⟩ | ⟨x, k⟩
  · rw [then_bad hr] at h; cases h
  · rw [then_ok hr] at h
    have := hp l x k hr
    rcases hf : f x k (l.drop k) with ⟨e⟩ | ⟨y, j⟩
    · rw [hf] at h; cases h
    · rw [hf] at h
      cases h
      show 1 ≤ k + j
      omega
theorem goes_skip : Goes skip := goes_byte _ _
theorem goes_chr : Goes chrP := by
  intro l a n h
  unfold chrP look at h
  dsimp only at h
  split at h
  · exact goes_then goes_skip _ _ _ h
  · unfold plainP at h
    rcases hb : bad l with _ | e
    · rw [hb] at h; cases h; exact (bad_none hb).1
    · rw [hb] at h; cases h
theorem goes_word (k c : Nat) (cs : List Nat) : Goes (word k (c :: cs)) := goes_then (goes_byte _ _)
theorem goes_tag (p : Nat) : Goes (tagP p) := goes_then (goes_word _ _ _)
theorem goes_namK (r : Nat) (l : List Nat) (h : isLo l.head? = true) (a : Unit) (n : Nat) (hk : namK r l = .ok (a, n)) : 1 ≤ n := by
  rcases r with _ | r
  · unfold namK look at hk; dsimp only at hk; rw [if_pos h] at hk; cases hk
  · unfold namK look at hk; dsimp only at hk; rw [if_pos h] at hk; exact goes_then goes_skip _ _ _ hk
theorem goes_name : Goes name := by
  intro l a n h
  unfold name look at h
  dsimp only at h
  split at h
  · rename_i hl
    unfold textP at h
    rcases hr : namK 256 l with ⟨e⟩ | ⟨x, k⟩
    · rw [hr] at h; cases h
    · rw [hr] at h; cases h; exact goes_namK 256 l hl x k hr
  · cases h
theorem goes_att (p : Nat) : Goes (attP p) := goes_then goes_name
theorem goes_end (p : Nat) : Goes (endP p) := by
  intro l a n h
  unfold endP look at h
  dsimp only at h
  split at h
  · exact goes_then (goes_word _ _ _) _ _ _ h
  · exact goes_then (goes_word _ _ _) _ _ _ h

theorem thenR_congr {α β : Type} (r : R α) {f g : α → Nat → R β} (h : ∀ a n, r = .ok (a, n) → f a n = g a n) : thenR r f = thenR r g := by
  rcases r with ⟨e⟩ | ⟨a, n⟩
  · rfl
  · unfold thenR; simp only; rw [h a n rfl]
theorem ok_le {α : Type} {p : Pz α} (hp : Fair p) {l : List Nat} {a : α} {n : Nat} (h : p l = .ok (a, n)) : n ≤ l.length := by
  have := hp.le l
  rw [h] at this
  exact this
theorem chs_fuel : ∀ (f g p : Nat) (l : List Nat), l.length < f → l.length < g → chsK f p l = chsK g p l
  | 0, _, _, l, h, _ => absurd h (Nat.not_lt_zero _)
  | _ + 1, 0, _, l, _, h => absurd h (Nat.not_lt_zero _)
  | f + 1, g + 1, p, l, hf, hg => by
    unfold chsK look
    dsimp only
    split
    · rfl
    · unfold andThen
      refine thenR_congr _ fun a n h => ?_
      have h1 := goes_chr l a n h
      have h2 := ok_le fair_chr h
      dsimp only
      rw [chs_fuel f g (p + n) (l.drop n) (by rw [List.length_drop]; omega) (by rw [List.length_drop]; omega)]
theorem goes_txt {p : Nat} {l : List Nat} {b : Nat} (hb : l.head? = some b) (hne : b ≠ 60) {t : Tk} {n : Nat} (h : txtP p l = .ok (t, n)) : 1 ≤ n := by
  unfold txtP at h
  rcases hr : chsK (l.length + 1) p l with ⟨e⟩ | ⟨xs, k⟩
  · rw [then_bad hr] at h; cases h
  · rw [then_ok hr] at h
    cases h
    unfold chsK look at hr
    dsimp only at hr
    rw [hb, if_neg (by simp [hne])] at hr
    exact goes_then goes_chr _ _ _ hr
theorem txt_fuel (p f : Nat) (l : List Nat) (hf : l.length < f) : txtP p l = andThen (chsK f p) (fun xs _ => done ⟨5, p, 0, [], [], false, xs⟩) l := by
  unfold txtP andThen
  rw [chs_fuel (l.length + 1) f p l (by omega) hf]
theorem fair_txt (p : Nat) : Fair (txtP p) := by
  have key : ∀ l, txtP p l = andThen (chsK (l.length + 1) p) (fun xs _ => done ⟨5, p, 0, [], [], false, xs⟩) l := fun _ => rfl
  have hF : ∀ f, Fair (andThen (chsK f p) (fun xs _ => done (⟨5, p, 0, [], [], false, xs⟩ : Tk))) := fun f => fair_then (fair_chs _ _) fun _ _ => fair_done _
  refine ⟨fun l => (hF _).le l, fun l m hm => ?_, fun l a ha => ?_⟩
  · rw [txt_fuel p (l.length + m.length + 1) l (by omega)] at hm ⊢
    rw [txt_fuel p (l.length + m.length + 1) m (by omega)]
    exact (hF _).loc l m hm
  · rw [txt_fuel p (l.length + 1) l (by omega)] at ha
    rw [txt_fuel p (l.length + 1) (l.take a) (by simp; omega)]
    exact (hF _).cut l a ha
end Go.Proofs.YtmlhibcbgdhadaaDoor
namespace Go.Proofs.YtmlhibcbgdhadaaDoor
open Go

theorem tokR_ok (p : Nat) (t : Tk) (n : Nat) (g : Nat → Nat → Nat → Out) : tokR p (.ok (t, n)) g = ({ t with en := p + n } :: (g (within t) (p + n) n).1, (g (within t) (p + n) n).2) := rfl
theorem tokR_bad (p k n : Nat) (g : Nat → Nat → Nat → Out) : tokR p (.error (k, n)) g = ([], some (k, p + n)) := rfl
/-- the ways on -/
theorem G_out_nil (f p : Nat) : G (f + 1) 0 p [] = ([], none) := rfl
theorem G_in_nil (f m p : Nat) : G (f + 1) (m + 1) p [] = ([], some (70, p)) := rfl
/-- which part is read there -/
def part (m p b : Nat) : Option (Pz Tk) := if m = 0 then some (if b = 60 then tagP p else txtP p) else if isB b then none else if b = 47 ∨ b = 62 then some (endP p) else if m = 2 ∧ isL b then some (attP p) else some (fails 70)
theorem G_cons (f m p b : Nat) (l : List Nat) : G (f + 1) m p (b :: l) = match part m p b with
    | some P => tokR p (P (b :: l)) fun m q n => G f m q ((b :: l).drop n)
    | none => G f 2 (p + 1) l := by
  rcases m with _ | m
  · rfl
  · unfold part
    rw [if_neg (by omega)]
    by_cases h1 : isB b = true
    · rw [if_pos h1, G]; simp only [List.head?_cons]; rw [if_pos h1]; rfl
    · rw [if_neg h1]
      by_cases h2 : b = 47 ∨ b = 62
      · rw [if_pos h2, G]; simp only [List.head?_cons]; rw [if_neg h1, if_pos h2]
      · rw [if_neg h2]
        by_cases h3 : m = 1 ∧ isL b = true
        · rw [if_pos ⟨by omega, h3.2⟩, G]; simp only [List.head?_cons]; rw [if_neg h1, if_neg h2, if_pos h3]
        · rw [if_neg (fun h => h3 ⟨by omega, h.2⟩), G]; simp only [List.head?_cons]; rw [if_neg h1, if_neg h2, if_neg h3]
          rfl
theorem part_fair {m p b : Nat} {P : Pz Tk} (h : part m p b = some P) : Fair P := by
  unfold part at h
  split at h
  · cases h; split
    · exact fair_tag p
    · exact fair_txt p
  · split at h
    · cases h
    · split at h
      · cases h; exact fair_end p
      · split at h
        · cases h; exact fair_att p
        · cases h; exact fair_fails _
theorem part_goes {m p b : Nat} {P : Pz Tk} (h : part m p b = some P) {l : List Nat} {t : Tk} {n : Nat} (hr : P (b :: l) = .ok (t, n)) : 1 ≤ n := by
  unfold part at h
  split at h
  · cases h
    split at hr
    · exact goes_tag p _ _ _ hr
    · rename_i hb; exact goes_txt (b := b) rfl hb hr
  · split at h
    · cases h
    · split at h
      · cases h; exact goes_end p _ _ _ hr
      · split at h
        · cases h; exact goes_att p _ _ _ hr
        · cases h; cases hr
theorem G_nil (f m q : Nat) : (G f m q []).2 = none ∨ ∃ k, (G f m q []).2 = some (k, q) := by
  rcases f with _ | f
  · exact .inr ⟨99, rfl⟩
  · rcases m with _ | m
    · exact .inl rfl
    · exact .inr ⟨70, rfl⟩
theorem G_fuel : ∀ (f g m p : Nat) (l : List Nat), l.length < f → l.length < g → G f m p l = G g m p l
  | 0, _, _, _, _, h, _ => absurd h (Nat.not_lt_zero _)
  | _ + 1, 0, _, _, _, _, h => absurd h (Nat.not_lt_zero _)
  | f + 1, g + 1, m, p, [], _, _ => by rcases m with _ | m <;> rfl
  | f + 1, g + 1, m, p, b :: l, hf, hg => by
    rw [G_cons, G_cons]
    rcases hP : part m p b with _ | P
    · exact G_fuel f g 2 (p + 1) l (by simpa using hf) (by simpa using hg)
    · simp only
      rcases hr : P (b :: l) with ⟨k, n⟩ | ⟨t, n⟩
      · rfl
      · have h1 := part_goes hP hr
        have hc : (b :: l).length = l.length + 1 := rfl
        rw [tokR_ok, tokR_ok, G_fuel f g _ _ ((b :: l).drop n) (by rw [List.length_drop]; omega) (by rw [List.length_drop]; omega)]
/-- places only rise -/
theorem G_ge : ∀ (f m p : Nat) (l : List Nat), (∀ k n, (G f m p l).2 = some (k, n) → p ≤ n ∧ n ≤ p + l.length) ∧ ∀ t ∈ (G f m p l).1, p < t.en ∧ t.en ≤ p + l.length
  | 0, m, p, l => ⟨fun k n h => by have h : some (99, p) = some (k, n) := h; simp at h; omega, fun t h => by cases h⟩
  | f + 1, m, p, [] => by
    rcases m with _ | m
    · exact ⟨fun k n h => (by cases h), fun t h => (by cases h)⟩
    · exact ⟨fun k n h => (by cases h; simp), fun t h => (by cases h)⟩
  | f + 1, m, p, b :: l => by
    rw [G_cons]
    rcases hP : part m p b with _ | P
    · have ih := G_ge f 2 (p + 1) l
      simp only [List.length_cons]
      exact ⟨fun k n h => (by have := ih.1 k n h; omega), fun t h => (by have := ih.2 t h; omega)⟩
    · simp only
      have hF := part_fair hP
      have hle := hF.le (b :: l)
      rcases hr : P (b :: l) with ⟨k, n⟩ | ⟨t, n⟩
      · rw [hr] at hle
        rw [tokR_bad]
        refine ⟨fun k' n' h => ?_, fun t h => (by cases h)⟩
        cases h
        simp only [R.n] at hle
        omega
      · have h1 := part_goes hP hr
        rw [hr] at hle
        simp only [R.n] at hle
        rw [tokR_ok]
        have ih := G_ge f (within t) (p + n) ((b :: l).drop n)
        rw [List.length_drop] at ih
        refine ⟨fun k' n' h => (by have := ih.1 k' n' h; omega), fun t' h => ?_⟩
        rcases List.mem_cons.1 h with rfl | h
        · simp only; omega
        · have := ih.2 t' h; omega
/-- THE FIRST: with that byte, whatever follows -/
theorem G_loc : ∀ (f m p : Nat) (l l' : List Nat) (k n : Nat), (G f m p l).2 = some (k, n) → l'.take (n - p + 1) = l.take (n - p + 1) → G f m p l' = G f m p l
  | 0, _, _, _, _, _, _, _, _ => rfl
  | f + 1, m, p, [], l', k, n, h, ht => by
    have : l' = [] := by
      have := congrArg List.length ht
      simp at this
      omega
    rw [this]
  | f + 1, m, p, b :: l, l', k, n, h, ht => by
    obtain ⟨l2, rfl⟩ : ∃ l2, l' = b :: l2 := by
      rcases l' with _ | ⟨c, l2⟩
      · simp at ht
      · simp at ht; exact ⟨l2, by rw [ht.1]⟩
    rw [G_cons] at h ⊢
    rw [G_cons]
    rcases hP : part m p b with _ | P
    · rw [hP] at h
      simp only at h ⊢
      have := (G_ge f 2 (p + 1) l).1 k n h
      refine G_loc f 2 (p + 1) l l2 k n h ?_
      rw [List.take_succ_cons, List.take_succ_cons] at ht
      have h2 := (List.cons.inj ht).2
      rwa [show n - p = n - (p + 1) + 1 by omega] at h2
    · rw [hP] at h
      simp only at h ⊢
      have hF := part_fair hP
      rcases hr : P (b :: l) with ⟨k1, n1⟩ | ⟨t, n1⟩
      · rw [hr, tokR_bad] at h
        cases h
        rw [hF.loc (b :: l) (b :: l2) (by rw [hr]; simp only [R.n]; rwa [Nat.add_sub_cancel_left] at ht), hr]
        rfl
      · rw [hr, tokR_ok] at h
        simp only at h
        have hge := (G_ge f (within t) (p + n1) ((b :: l).drop n1)).1 k n h
        rw [hF.loc (b :: l) (b :: l2) (by rw [hr]; simp only [R.n]; exact take_pre ht (by omega)), hr, tokR_ok, tokR_ok]
        rw [G_loc f (within t) (p + n1) ((b :: l).drop n1) ((b :: l2).drop n1) k n h (by
          have := congrArg (List.drop n1) ht
          rw [List.drop_take, List.drop_take, show n - p + 1 - n1 = n - (p + n1) + 1 by omega] at this
          exact this)]
/-- what stands ahead of it is wrong at its end, if at all -/
theorem G_cut : ∀ (f m p : Nat) (l : List Nat) (k n a : Nat), (G f m p l).2 = some (k, n) → a ≤ n - p → (G f m p (l.take a)).2 = none ∨ ∃ k', (G f m p (l.take a)).2 = some (k', p + a)
  | 0, m, p, l, k, n, a, h, ha => by
    have h : some (99, p) = some (k, n) := h
    simp at h
    exact .inr ⟨99, by rw [show a = 0 by omega]; rfl⟩
  | f + 1, m, p, [], k, n, a, h, ha => by
    have hn := (G_ge (f + 1) m p []).1 k n h
    simp at hn
    rw [List.take_nil, show a = 0 by omega]
    exact .inr ⟨k, by rw [h]; congr 2; omega⟩
  | f + 1, m, p, b :: l, k, n, 0, h, ha => by
    rw [List.take_zero]
    exact G_nil _ _ _
  | f + 1, m, p, b :: l, k, n, a + 1, h, ha => by
    rw [List.take_succ_cons]
    rw [G_cons] at h ⊢
    rcases hP : part m p b with _ | P
    · rw [hP] at h
      simp only at h ⊢
      rw [show p + (a + 1) = p + 1 + a by omega]
      exact G_cut f 2 (p + 1) l k n a h (by omega)
    · rw [hP] at h
      simp only at h ⊢
      have hF := part_fair hP
      rw [show b :: l.take a = (b :: l).take (a + 1) from rfl]
      have small : ∀ n1, (P (b :: l)).n = n1 → a + 1 ≤ n1 → (tokR p (P ((b :: l).take (a + 1))) fun m q n => G f m q (((b :: l).take (a + 1)).drop n)).2 = none ∨ ∃ k', (tokR p (P ((b :: l).take (a + 1))) fun m q n => G f m q (((b :: l).take (a + 1)).drop n)).2 = some (k', p + (a + 1)) := by
        intro n1 e1 hle
        have hc := hF.cut (b :: l) (a + 1) (by omega)
        rcases hr2 : P ((b :: l).take (a + 1)) with ⟨k2, n2⟩ | ⟨t2, n2⟩
        · rw [hr2] at hc
          simp only [R.n] at hc
          subst hc
          exact .inr ⟨k2, rfl⟩
        · rw [hr2] at hc
          simp only [R.n] at hc
          subst hc
          rw [tokR_ok]
          simp only
          rw [show ((b :: l).take (a + 1)).drop (a + 1) = [] from List.drop_eq_nil_of_le (by simp; omega)]
          exact G_nil _ _ _
      rcases hr : P (b :: l) with ⟨k1, n1⟩ | ⟨t, n1⟩
      · rw [hr, tokR_bad] at h
        cases h
        exact small n1 (by rw [hr]; rfl) (by omega)
      · by_cases hle : a + 1 ≤ n1
        · exact small n1 (by rw [hr]; rfl) hle
        · rw [hr, tokR_ok] at h
          simp only at h
          rw [hF.loc (b :: l) ((b :: l).take (a + 1)) (by rw [hr]; simp only [R.n]; rw [List.take_take, Nat.min_eq_left (by omega)]), hr, tokR_ok]
          simp only
          rw [List.drop_take]
          have := G_cut f (within t) (p + n1) ((b :: l).drop n1) k n (a + 1 - n1) h (by omega)
          rwa [show p + n1 + (a + 1 - n1) = p + (a + 1) by omega] at this
end Go.Proofs.YtmlhibcbgdhadaaDoor
namespace Go.Proofs.YtmlhibcbgdhadaaDoor
open Go

theorem then_inv {α β : Type} {p : Pz α} {f : α → Nat → Pz β} {l : List Nat} {b : β} {n : Nat} (h : andThen p f l = .ok (b, n)) : ∃ a k j, p l = .ok (a, k) ∧ f a k (l.drop k) = .ok (b, j) ∧ n = k + j := by
  rcases hr : p l with ⟨e⟩ | ⟨a, k⟩
  · rw [then_bad hr] at h; cases h
  · rw [then_ok hr] at h
    rcases hf : f a k (l.drop k) with ⟨e⟩ | ⟨y, j⟩
    · rw [hf] at h; cases h
    · rw [hf] at h
      cases h
      exact ⟨a, k, j, rfl, hf, rfl⟩
/-- characters one behind the other -/
def Cs : Nat → List (Nat × Nat × Nat) → Nat → Prop
  | k, [], e => k = e
  | k, c :: cs, e => c.2.1 = k ∧ k < c.2.2 ∧ Cs c.2.2 cs e
theorem Cs.le : ∀ {k : Nat} {cs : List (Nat × Nat × Nat)} {e : Nat}, Cs k cs e → k ≤ e
  | _, [], _, h => Nat.le_of_eq h
  | _, _ :: _, _, h => Nat.le_trans (Nat.le_of_lt h.2.1) h.2.2.le
theorem Cs.len : ∀ {k : Nat} {cs : List (Nat × Nat × Nat)} {e : Nat}, Cs k cs e → k + cs.length ≤ e
  | _, [], _, h => Nat.le_of_eq h
  | k, c :: cs, e, h => by
    have h1 := h.2.1
    have h2 := h.2.2.len
    simp only [List.length_cons]
    omega
theorem chs_cs : ∀ (f p : Nat) (l : List Nat) (xs : List (Nat × Nat × Nat)) (n : Nat), chsK f p l = .ok (xs, n) → Cs p xs (p + n)
  | 0, _, _, _, _, h => by cases h
  | f + 1, p, l, xs, n, h => by
    unfold chsK look at h
    dsimp only at h
    split at h
    · cases h; exact rfl
    · obtain ⟨x, k, j, h1, h2, rfl⟩ := then_inv h
      obtain ⟨ys, k2, j2, h3, h4, rfl⟩ := then_inv h2
      cases h4
      have ih := chs_cs f (p + k) _ ys k2 h3
      have hg := goes_chr l x k h1
      refine ⟨rfl, ?_, ?_⟩
      · simp only; omega
      · simp only [Nat.add_zero]
        rwa [Nat.add_assoc] at ih
theorem txt_kind {p : Nat} {l : List Nat} {t : Tk} {n : Nat} (h : txtP p l = .ok (t, n)) : t.kd = 5 ∧ t.at_ = p ∧ Cs p t.ch (p + n) := by
  unfold txtP at h
  obtain ⟨xs, k, j, h1, h2, rfl⟩ := then_inv h
  cases h2
  exact ⟨rfl, rfl, chs_cs _ _ _ _ _ h1⟩
theorem tag_kind {p : Nat} {l : List Nat} {t : Tk} {n : Nat} (h : tagP p l = .ok (t, n)) : (t.kd = 1 ∨ t.kd = 4) ∧ t.at_ = p := by
  unfold tagP at h
  obtain ⟨_, k, j, h1, h2, rfl⟩ := then_inv h
  unfold look at h2
  dsimp only at h2
  split at h2
  · obtain ⟨_, k3, j3, _, h3, rfl⟩ := then_inv h2
    obtain ⟨_, k4, j4, _, h4, rfl⟩ := then_inv h3
    obtain ⟨_, k5, j5, _, h5, rfl⟩ := then_inv h4
    cases h5
    exact ⟨.inr rfl, rfl⟩
  · obtain ⟨_, k3, j3, _, h3, rfl⟩ := then_inv h2
    cases h3
    exact ⟨.inl rfl, rfl⟩
theorem att_kind {p : Nat} {l : List Nat} {t : Tk} {n : Nat} (h : attP p l = .ok (t, n)) : t.kd = 2 ∧ t.at_ = p := by
  unfold attP at h
  obtain ⟨_, k, j, _, h2, rfl⟩ := then_inv h
  obtain ⟨_, k3, j3, _, h3, rfl⟩ := then_inv h2
  obtain ⟨_, k4, j4, _, h4, rfl⟩ := then_inv h3
  obtain ⟨_, k5, j5, _, h5, rfl⟩ := then_inv h4
  cases h5
  exact ⟨rfl, rfl⟩
theorem end_kind {p : Nat} {l : List Nat} {t : Tk} {n : Nat} (h : endP p l = .ok (t, n)) : t.kd = 3 ∧ t.at_ = p := by
  unfold endP look at h
  dsimp only at h
  split at h
  all_goals
    obtain ⟨_, k, j, _, h2, rfl⟩ := then_inv h
    cases h2
    exact ⟨rfl, rfl⟩
/-- blanks alone -/
def Gap (L : List Nat) (a b : Nat) : Prop := ∀ i, a ≤ i → i < b → isB (L.getD i 0) = true
theorem gap_nil (L : List Nat) (a : Nat) : Gap L a a := fun i h1 h2 => by omega
/-- tokens from place a on; w: within a tag -/
def Pl (L : List Nat) : Nat → Nat → List Tk → Prop
  | _, a, [] => a = L.length
  | w, a, t :: ts => (a ≤ t.at_ ∧ t.at_ < t.en ∧ t.en ≤ L.length ∧ Gap L a t.at_) ∧ ((w = 0 ∧ t.at_ = a ∧ (t.kd = 1 ∨ t.kd = 4 ∨ t.kd = 5)) ∨ (w = 1 ∧ (t.kd = 3 ∨ t.kd = 2 ∧ a < t.at_))) ∧ (t.kd = 5 → Cs t.at_ t.ch t.en) ∧ Pl L (within t) t.en ts
def inw (m : Nat) : Nat := if m = 0 then 0 else 1
theorem inw_within (t : Tk) : inw (within t) = within t := by unfold within; split <;> rfl
theorem within_le (t : Tk) : within t ≤ 1 := by unfold within; split <;> omega
theorem G_pl (L : List Nat) : ∀ (f m p a : Nat) (l : List Nat), l = L.drop p → p ≤ L.length → (m ≤ 1 → a = p) → (m = 2 → a < p) → m ≤ 2 → Gap L a p → (G f m p l).2 = none → Pl L (inw m) a (G f m p l).1
  | 0, _, _, _, _, _, _, _, _, _, _, h => by cases h
  | f + 1, m, p, a, [], hl, hp, ha, _, hm, hg, h => by
    rcases m with _ | m
    · have := congrArg List.length hl
      simp at this
      show a = L.length
      have := ha (by omega)
      omega
    · cases h
  | f + 1, m, p, a, b :: l, hl, hp, ha, ha2, hm, hg, h => by
    have hlen := congrArg List.length hl
    simp only [List.length_cons, List.length_drop] at hlen
    have hb : L.getD p 0 = b := by
      have := congrArg List.head? hl
      rw [List.head?_drop] at this
      simp only [List.head?_cons] at this
      rw [List.getD_eq_getElem?_getD, ← this]; rfl
    rw [G_cons] at h ⊢
    rcases hP : part m p b with _ | P
    · rw [hP] at h
      simp only at h ⊢
      have hmb : m ≠ 0 ∧ isB b = true := by
        unfold part at hP
        split at hP
        · cases hP
        · split at hP
          · rename_i h1 h2; exact ⟨h1, h2⟩
          · split at hP
            · cases hP
            · split at hP <;> cases hP
      have hle : a ≤ p := by
        rcases Nat.lt_or_ge m 2 with q | q
        · have := ha (by omega); omega
        · have := ha2 (by omega); omega
      have ih := G_pl L f 2 (p + 1) a l (by
        have := congrArg List.tail hl
        simp only [List.tail_cons, List.tail_drop] at this
        exact this) (by omega) (by omega) (by intro _; omega) (by omega) (by
          intro i h1 h2
          rcases Nat.lt_or_ge i p with q | q
          · exact hg i h1 q
          · rw [show i = p by omega, hb]; exact hmb.2) h
      rw [show inw m = inw 2 by unfold inw; rw [if_neg hmb.1, if_neg (by decide)]]
      exact ih
    · rw [hP] at h
      simp only at h ⊢
      rcases hr : P (b :: l) with ⟨k, n⟩ | ⟨t, n⟩
      · rw [hr, tokR_bad] at h; cases h
      · rw [hr, tokR_ok] at h
        rw [tokR_ok]
        simp only at h ⊢
        have h1 := part_goes hP hr
        have h2 := ok_le (part_fair hP) hr
        simp only [List.length_cons] at h2
        have ih := G_pl L f (within t) (p + n) (p + n) ((b :: l).drop n) (by rw [hl, List.drop_drop]) (by omega) (fun _ => rfl) (fun h => by have := within_le t; omega) (by have := within_le t; omega) (gap_nil _ _) h
        rw [inw_within] at ih
        unfold part at hP
        split at hP
        · rename_i hm0
          subst hm0
          have hap := ha (by omega)
          subst hap
          cases hP
          split at hr
          · obtain ⟨h3, h4⟩ := tag_kind hr
            refine ⟨⟨?_, ?_, ?_, ?_⟩, .inl ⟨rfl, h4, ?_⟩, fun h5 => ?_, ih⟩
            · simp only; omega
            · simp only; omega
            · simp only; omega
            · simp only [h4]; exact gap_nil _ _
            · simp only; omega
            · simp only at h5; omega
          · obtain ⟨h3, h4, h5⟩ := txt_kind hr
            refine ⟨⟨?_, ?_, ?_, ?_⟩, .inl ⟨rfl, h4, ?_⟩, fun _ => ?_, ih⟩
            · simp only; omega
            · simp only; omega
            · simp only; omega
            · simp only [h4]; exact gap_nil _ _
            · simp only; omega
            · simp only [h4]; exact h5
        · rename_i hm0
          have hle : a ≤ p := by
            rcases Nat.lt_or_ge m 2 with q | q
            · have := ha (by omega); omega
            · have := ha2 (by omega); omega
          have hw : inw m = 1 := by unfold inw; rw [if_neg hm0]
          rw [hw]
          split at hP
          · cases hP
          · split at hP
            · cases hP
              obtain ⟨h3, h4⟩ := end_kind hr
              refine ⟨⟨?_, ?_, ?_, ?_⟩, .inr ⟨rfl, .inl h3⟩, fun h5 => ?_, ih⟩
              · simp only; omega
              · simp only; omega
              · simp only; omega
              · simp only [h4]; exact hg
              · simp only at h5; omega
            · split at hP
              · rename_i h5
                cases hP
                obtain ⟨h3, h4⟩ := att_kind hr
                have h6 := ha2 h5.1
                refine ⟨⟨?_, ?_, ?_, ?_⟩, .inr ⟨rfl, .inr ⟨h3, by simp only; omega⟩⟩, fun h5 => ?_, ih⟩
                · simp only; omega
                · simp only; omega
                · simp only; omega
                · simp only [h4]; exact hg
                · simp only at h5; omega
              · cases hP; cases hr
end Go.Proofs.YtmlhibcbgdhadaaDoor
