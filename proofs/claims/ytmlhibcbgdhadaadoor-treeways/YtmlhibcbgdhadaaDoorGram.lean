/- Scan as a function on bytes: its parts, its tokens, the first byte that can't stand. No program in it. -/
import Derived.Test.YtmlhibcbgdhadaaDoorPz
namespace Go.Proofs.YtmlhibcbgdhadaaDoor
open Go

def isL (b : Nat) : Bool := decide ((97 ≤ b ∧ b ≤ 122) ∨ (65 ≤ b ∧ b ≤ 90))
def isB (b : Nat) : Bool := decide (b = 32 ∨ b = 9 ∨ b = 10 ∨ b = 13)
def isLo : Option Nat → Bool
  | none => false
  | some b => isL b
def isRune (n : Nat) : Bool := decide (n ≤ 1114111 ∧ (n < 55296 ∨ 57343 < n))
def digO : Option Nat → Option Nat
  | none => none
  | some b => if 48 ≤ b ∧ b ≤ 57 then some (b - 48) else if 97 ≤ b ∧ b ≤ 102 then some (b - 87) else if 65 ≤ b ∧ b ≤ 70 then some (b - 55) else none
def skip : Pz Unit := byteP (fun _ => true) 70
def word (k : Nat) : List Nat → Pz Unit
  | [] => done ()
  | c :: cs => andThen (byteP (· == c) k) fun _ _ => word k cs
/-- letters, so many at most -/
def namK : Nat → Pz Unit
  | 0 => look fun b => if isLo b then fails 72 else done ()
  | r + 1 => look fun b => if isLo b then andThen skip (fun _ _ => namK r) else done ()
def name : Pz (List Nat) := look fun b => if isLo b then textP (namK 256) else fails 70
/-- the entities that have names, behind the & -/
def ents : List (Nat × List Nat) := [(60, [108, 116, 59]), (62, [103, 116, 59]), (38, [97, 109, 112, 59]), (34, [113, 117, 111, 116, 59]), (173, [115, 104, 121, 59]), (160, [110, 98, 115, 112, 59])]
def entOf (b : Option Nat) : Option (Nat × List Nat) := ents.find? fun e => e.2.head? == b
/-- the digits of a number, so many more at most; n: what those ahead count -/
def numK : Nat → Nat → Pz Nat
  | 0, n => look fun b => if b = some 59 ∧ isRune n then andThen skip (fun _ _ => done n) else fails 71
  | r + 1, n => look fun b => if b = some 59 ∧ r + 1 < 6 ∧ isRune n then andThen skip (fun _ _ => done n) else match digO b with
    | none => fails 71
    | some d => if r = 0 ∧ isRune (16 * n + d) = false then fails 71 else andThen skip (fun _ _ => numK r (16 * n + d))
def entP : Pz Nat := andThen skip fun _ _ => look fun b => match entOf b with
  | some e => andThen (word 71 e.2) (fun _ _ => done e.1)
  | none => andThen (word 71 [35, 120]) fun _ _ => numK 6 0
def plainP : Pz Nat := fun l => match bad l with
  | none => .ok (rune l, wd l)
  | some e => .error (40, e)
def chrP : Pz Nat := look fun b => if b = some 38 then entP else plainP
/-- the runes of a value, so many more at most -/
def valK : Nat → Pz (List Nat)
  | 0 => look fun b => if b = some 34 then done [] else if b = none then fails 70 else fails 72
  | r + 1 => look fun b => if b = some 34 then done [] else if b = none ∨ b = some 60 then fails 70 else andThen chrP fun x _ => andThen (valK r) fun xs _ => done (x :: xs)
/-- a rune's bytes -/
def enc (r : Nat) : List Nat := if r < 128 then [r] else if r < 2048 then [192 + r / 64, 128 + r % 64] else if r < 65536 then [224 + r / 4096, 128 + r / 64 % 64, 128 + r % 64] else [240 + r / 262144, 128 + r / 4096 % 64, 128 + r / 64 % 64, 128 + r % 64]
/-- a token -/
structure Tk where
  kd : Nat
  at_ : Nat
  en : Nat
  nm : List Nat
  vl : List Nat
  em : Bool
  ch : List (Nat × Nat × Nat)
/-- a text's characters -/
def chsK : Nat → Nat → Pz (List (Nat × Nat × Nat))
  | 0, _ => fails 99
  | f + 1, p => look fun b => if b = none ∨ b = some 60 then done [] else andThen chrP fun x n => andThen (chsK f (p + n)) fun xs _ => done ((x, p, p + n) :: xs)
def txtP (p : Nat) : Pz Tk := fun l => andThen (chsK (l.length + 1) p) (fun xs _ => done ⟨5, p, 0, [], [], false, xs⟩) l
def tagP (p : Nat) : Pz Tk := andThen (word 70 [60]) fun _ _ => look fun b => if b = some 47 then
    andThen (word 70 [47]) fun _ _ => andThen name fun nm _ => andThen (word 70 [62]) fun _ _ => done ⟨4, p, 0, nm, [], false, []⟩
  else andThen name fun nm _ => done ⟨1, p, 0, nm, [], false, []⟩
def attP (p : Nat) : Pz Tk := andThen name fun nm _ => andThen (word 70 [61, 34]) fun _ _ => andThen (valK 256) fun v _ => andThen (word 70 [34]) fun _ _ => done ⟨2, p, 0, nm, v.flatMap enc, false, []⟩
def endP (p : Nat) : Pz Tk := look fun b => if b = some 47 then andThen (word 70 [47, 62]) (fun _ _ => done ⟨3, p, 0, [], [], true, []⟩) else andThen (word 70 [62]) (fun _ _ => done ⟨3, p, 0, [], [], false, []⟩)
/-- where a token is followed by what stands within a tag -/
def within (t : Tk) : Nat := if t.kd = 1 ∨ t.kd = 2 then 1 else 0
abbrev Out := List Tk × Option (Nat × Nat)
/-- one token, and what is behind it -/
def tokR (p : Nat) (r : R Tk) (g : Nat → Nat → Nat → Out) : Out := match r with
  | .ok x => ({ x.1 with en := p + x.2 } :: (g (within x.1) (p + x.2) x.2).1, (g (within x.1) (p + x.2) x.2).2)
  | .error x => ([], some (x.1, p + x.2))
/-- what stands from place p on: m 0: outside of tags; 1: within one; 2: within one, behind a blank -/
def G : Nat → Nat → Nat → List Nat → Out
  | 0, _, p, _ => ([], some (99, p))
  | f + 1, 0, p, l => match l.head? with
    | none => ([], none)
    | some b => tokR p ((if b = 60 then tagP p else txtP p) l) fun m q n => G f m q (l.drop n)
  | f + 1, m + 1, p, l => match l.head? with
    | none => ([], some (70, p))
    | some b => if isB b then G f 2 (p + 1) (l.drop 1)
      else if b = 47 ∨ b = 62 then tokR p (endP p l) fun m q n => G f m q (l.drop n)
      else if m = 1 ∧ isL b then tokR p (attP p l) fun m q n => G f m q (l.drop n)
      else ([], some (70, p))
def GG (m p : Nat) (l : List Nat) : Out := G (l.length + 1) m p l

/-! ### what they look at -/
theorem fair_skip : Fair skip := fair_byte _ _
theorem fair_word (k : Nat) : ∀ ws, Fair (word k ws)
  | [] => fair_done _
  | _ :: cs => fair_then (fair_byte _ _) fun _ _ => fair_word k cs
theorem fair_namK : ∀ r, Fair (namK r)
  | 0 => fair_look fun b => by split; exact fair_fails _; exact fair_done _
  | r + 1 => fair_look fun b => by split; exact fair_then fair_skip fun _ _ => fair_namK r; exact fair_done _
theorem fair_name : Fair name := fair_look fun b => by split; exact fair_text (fair_namK _); exact fair_fails _
theorem fair_numK : ∀ r n, Fair (numK r n)
  | 0, n => fair_look fun b => by split; exact fair_then fair_skip fun _ _ => fair_done _; exact fair_fails _
  | r + 1, n => fair_look fun b => by
    split
    · exact fair_then fair_skip fun _ _ => fair_done _
    · split
      · exact fair_fails _
      · split
        · exact fair_fails _
        · exact fair_then fair_skip fun _ _ => fair_numK r _
theorem fair_entP : Fair entP := fair_then fair_skip fun _ _ => fair_look fun b => by
  split
  · exact fair_then (fair_word _ _) fun _ _ => fair_done _
  · exact fair_then (fair_word _ _) fun _ _ => fair_numK _ _
theorem bad_cut {l : List Nat} {e a : Nat} (h : bad l = some e) (ha : a ≤ e) : bad (l.take a) = some a := by
  have he := (bad_le h).2
  by_cases h2 : a = l.length
  · rw [List.take_of_length_le (by omega), h]; congr 1; omega
  by_cases h0 : a = 0
  · subst h0; rfl
  have g := bad_cases h (by omega)
  have gt : ∀ i, i < a → (l.take a).getD i 0 = l.getD i 0 := fun i hi => getD_take (by rw [List.take_take, Nat.min_self]) hi
  have hl : (l.take a).length = a := by simp; omega
  rcases hk : bad (l.take a) with _ | k
  · exfalso
    have g' := good_cases hk
    rw [hl, gt 0 (by omega)] at g'
    rcases g with g | g | ⟨_, _, _, g | g⟩ | ⟨_, _, _, g | g | g⟩
    all_goals rcases g' with g' | g' | g' | g' <;> omega
  · have g' := bad_cases hk (by omega)
    have hk2 := (bad_le hk).2
    rw [hl] at hk2
    rw [hl, gt 0 (by omega)] at g'
    congr 1
    by_cases h1 : a = 1
    · subst h1
      rcases g with g | g | ⟨_, _, _, g | g⟩ | ⟨_, _, _, g | g | g⟩
      all_goals first | omega | skip
      all_goals rcases g' with g' | g' | ⟨_, _, _, g' | g'⟩ | ⟨_, _, _, g' | g' | g'⟩ <;> omega
    rw [gt 1 (by omega)] at g'
    by_cases h2 : a = 2
    · subst h2
      rcases g with g | g | ⟨_, _, _, g | g⟩ | ⟨_, _, _, g | g | g⟩
      all_goals first | omega | skip
      all_goals rcases g' with g' | g' | ⟨_, _, _, g' | g'⟩ | ⟨_, _, _, g' | g' | g'⟩ <;> omega
    rw [gt 2 (by omega)] at g'
    rcases g with g | g | ⟨_, _, _, g | g⟩ | ⟨_, _, _, g | g | g⟩
    all_goals first | omega | skip
    all_goals rcases g' with g' | g' | ⟨_, _, _, g' | g'⟩ | ⟨_, _, _, g' | g' | g'⟩ <;> omega
theorem good_cut {l : List Nat} {a : Nat} (h : bad l = none) (ha : a < wd l) : bad (l.take a) = some a := by
  have he := (bad_none h).2
  have g := good_cases h
  have hw : wd l = wide (l.getD 0 0) := rfl
  rw [hw] at ha he
  by_cases h0 : a = 0
  · subst h0; rfl
  have gt : ∀ i, i < a → (l.take a).getD i 0 = l.getD i 0 := fun i hi => getD_take (by rw [List.take_take, Nat.min_self]) hi
  have hl : (l.take a).length = a := by simp; omega
  rcases hk : bad (l.take a) with _ | k
  · exfalso
    have g' := good_cases hk
    rw [hl, gt 0 (by omega)] at g'
    rcases g with g | g | g | g
    all_goals rcases g' with g' | g' | g' | g' <;> omega
  · have g' := bad_cases hk (by omega)
    have hk2 := (bad_le hk).2
    rw [hl] at hk2
    rw [hl, gt 0 (by omega)] at g'
    congr 1
    by_cases h1 : a = 1
    · subst h1
      rcases g with g | g | g | g
      all_goals first | omega | skip
      all_goals rcases g' with g' | g' | ⟨_, _, _, g' | g'⟩ | ⟨_, _, _, g' | g' | g'⟩ <;> omega
    rw [gt 1 (by omega)] at g'
    by_cases h2 : a = 2
    · subst h2
      rcases g with g | g | g | g
      all_goals first | omega | skip
      all_goals rcases g' with g' | g' | ⟨_, _, _, g' | g'⟩ | ⟨_, _, _, g' | g' | g'⟩ <;> omega
    rw [gt 2 (by omega)] at g'
    rcases g with g | g | g | g
    all_goals first | omega | skip
    all_goals rcases g' with g' | g' | ⟨_, _, _, g' | g'⟩ | ⟨_, _, _, g' | g' | g'⟩ <;> omega
theorem fair_plain : Fair plainP := by
  refine ⟨fun l => ?_, fun l m hm => ?_, fun l a ha => ?_⟩
  · unfold plainP
    rcases hb : bad l with _ | e
    · exact (bad_none hb).2
    · exact (bad_le hb).2
  · unfold plainP at hm ⊢
    rcases hb : bad l with _ | e
    · rw [hb] at hm
      obtain ⟨h1, h2, h3⟩ := good_pre hb (take_pre hm (Nat.le_succ _))
      rw [h1, h2, h3]
    · rw [hb] at hm
      simp only [R.n] at hm
      rcases Nat.eq_or_lt_of_le (bad_le hb).2 with h2 | h2
      · have : m = l := by
          rw [h2, List.take_of_length_le (l := l) (by omega)] at hm
          have h3 := congrArg List.length hm
          simp at h3
          rwa [List.take_of_length_le (by omega)] at hm
        rw [this, hb]
      · rw [bad_pre hb h2 hm]
  · unfold plainP at ha ⊢
    rcases hb : bad l with _ | e
    · rw [hb] at ha
      simp only [R.n] at ha
      rcases Nat.eq_or_lt_of_le ha with h2 | h2
      · obtain ⟨h1, h3, h4⟩ := good_pre hb (m := l.take a) (by rw [h2, List.take_take, Nat.min_self])
        rw [h1]
        simp only [R.n]
        omega
      · rw [good_cut hb h2]
        rfl
    · rw [hb] at ha
      rw [bad_cut hb ha]
      rfl
theorem fair_chr : Fair chrP := fair_look fun b => by split; exact fair_entP; exact fair_plain
theorem fair_val : ∀ r, Fair (valK r)
  | 0 => fair_look fun b => by
    split
    · exact fair_done _
    · split <;> exact fair_fails _
  | r + 1 => fair_look fun b => by
    split
    · exact fair_done _
    · split
      · exact fair_fails _
      · exact fair_then fair_chr fun _ _ => fair_then (fair_val r) fun _ _ => fair_done _
theorem fair_chs : ∀ f p, Fair (chsK f p)
  | 0, _ => fair_fails _
  | f + 1, p => fair_look fun b => by
    split
    · exact fair_done _
    · exact fair_then fair_chr fun _ _ => fair_then (fair_chs f _) fun _ _ => fair_done _
theorem fair_tag (p : Nat) : Fair (tagP p) := fair_then (fair_word _ _) fun _ _ => fair_look fun b => by
  split
  · exact fair_then (fair_word _ _) fun _ _ => fair_then fair_name fun _ _ => fair_then (fair_word _ _) fun _ _ => fair_done _
  · exact fair_then fair_name fun _ _ => fair_done _
theorem fair_att (p : Nat) : Fair (attP p) := fair_then fair_name fun _ _ => fair_then (fair_word _ _) fun _ _ => fair_then (fair_val _) fun _ _ => fair_then (fair_word _ _) fun _ _ => fair_done _
theorem fair_end (p : Nat) : Fair (endP p) := fair_look fun b => by
  split
  · exact fair_then (fair_word _ _) fun _ _ => fair_done _
  · exact fair_then (fair_word _ _) fun _ _ => fair_done _

/-! ### it goes on -/
theorem thenR_ok {α β : Type} {a : α} {n : Nat} (f : α → Nat → R β) : thenR (.ok (a, n)) f = (f a n).up n := rfl
theorem thenR_bad {α β : Type} {e : Nat × Nat} (f : α → Nat → R β) : thenR (.error e) f = .error e := rfl
theorem then_ok {α β : Type} {p : Pz α} {f : α → Nat → Pz β} {l : List Nat} {a : α} {n : Nat} (h : p l = .ok (a, n)) : andThen p f l = (f a n (l.drop n)).up n := by unfold andThen; rw [h]; rfl
theorem then_bad {α β : Type} {p : Pz α} {f : α → Nat → Pz β} {l : List Nat} {e : Nat × Nat} (h : p l = .error e) : andThen p f l = .error e := by unfold andThen; rw [h]; rfl
/-- what it reads has a byte at least -/
def Goes {α : Type} (p : Pz α) : Prop := ∀ l a n, p l = .ok (a, n) → 1 ≤ n
theorem goes_byte (q : Nat → Bool) (k : Nat) : Goes (byteP q k) := by
  intro l a n h
  unfold byteP at h
  rcases l with _ | ⟨b, l⟩
  · cases h
  · simp only at h
    split at h
    · cases h; exact Nat.le_refl _
    · cases h
theorem goes_then {α β : Type} {p : Pz α} {f : α → Nat → Pz β} (hp : Goes p) : Goes (andThen p f) := by
  intro l a n h
  rcases hr : p l with ⟨e⟩ | ⟨x, k⟩
  · rw [then_bad hr] at h; cases h
  · rw [then_ok hr] at h
    have := hp l x k hr
    rcases hf : f x k (l.drop k) with ⟨e⟩ | ⟨y, j⟩
    · rw [hf] at h; cases h
    · rw [hf] at h
      cases h
      show 1 ≤ k + j
      omega
theorem goes_skip : Goes skip := goes_byte _ _
theorem goes_chr : Goes chrP := by
  intro l a n h
  unfold chrP look at h
  dsimp only at h
  split at h
  · exact goes_then goes_skip _ _ _ h
  · unfold plainP at h
    rcases hb : bad l with _ | e
    · rw [hb] at h; cases h; exact (bad_none hb).1
    · rw [hb] at h; cases h
theorem goes_word (k c : Nat) (cs : List Nat) : Goes (word k (c :: cs)) := goes_then (goes_byte _ _)
theorem goes_tag (p : Nat) : Goes (tagP p) := goes_then (goes_word _ _ _)
theorem goes_namK (r : Nat) (l : List Nat) (h : isLo l.head? = true) (a : Unit) (n : Nat) (hk : namK r l = .ok (a, n)) : 1 ≤ n := by
  rcases r with _ | r
  · unfold namK look at hk; dsimp only at hk; rw [if_pos h] at hk; cases hk
  · unfold namK look at hk; dsimp only at hk; rw [if_pos h] at hk; exact goes_then goes_skip _ _ _ hk
theorem goes_name : Goes name := by
  intro l a n h
  unfold name look at h
  dsimp only at h
  split at h
  · rename_i hl
    unfold textP at h
    rcases hr : namK 256 l with ⟨e⟩ | ⟨x, k⟩
    · rw [hr] at h; cases h
    · rw [hr] at h; cases h; exact goes_namK 256 l hl x k hr
  · cases h
theorem goes_att (p : Nat) : Goes (attP p) := goes_then goes_name
theorem goes_end (p : Nat) : Goes (endP p) := by
  intro l a n h
  unfold endP look at h
  dsimp only at h
  split at h
  · exact goes_then (goes_word _ _ _) _ _ _ h
  · exact goes_then (goes_word _ _ _) _ _ _ h

theorem thenR_congr {α β : Type} (r : R α) {f g : α → Nat → R β} (h : ∀ a n, r = .ok (a, n) → f a n = g a n) : thenR r f = thenR r g := by
  rcases r with ⟨e⟩ | ⟨a, n⟩
  · rfl
  · unfold thenR; simp only; rw [h a n rfl]
theorem ok_le {α : Type} {p : Pz α} (hp : Fair p) {l : List Nat} {a : α} {n : Nat} (h : p l = .ok (a, n)) : n ≤ l.length := by
  have := hp.le l
  rw [h] at this
  exact this
theorem chs_fuel : ∀ (f g p : Nat) (l : List Nat), l.length < f → l.length < g → chsK f p l = chsK g p l
  | 0, _, _, l, h, _ => absurd h (Nat.not_lt_zero _)
  | _ + 1, 0, _, l, _, h => absurd h (Nat.not_lt_zero _)
  | f + 1, g + 1, p, l, hf, hg => by
    unfold chsK look
    dsimp only
    split
    · rfl
    · unfold andThen
      refine thenR_congr _ fun a n h => ?_
      have h1 := goes_chr l a n h
      have h2 := ok_le fair_chr h
      dsimp only
      rw [chs_fuel f g (p + n) (l.drop n) (by rw [List.length_drop]; omega) (by rw [List.length_drop]; omega)]
theorem goes_txt {p : Nat} {l : List Nat} {b : Nat} (hb : l.head? = some b) (hne : b ≠ 60) {t : Tk} {n : Nat} (h : txtP p l = .ok (t, n)) : 1 ≤ n := by
  unfold txtP at h
  rcases hr : chsK (l.length + 1) p l with ⟨e⟩ | ⟨xs, k⟩
  · rw [then_bad hr] at h; cases h
  · rw [then_ok hr] at h
    cases h
    unfold chsK look at hr
    dsimp only at hr
    rw [hb, if_neg (by simp [hne])] at hr
    exact goes_then goes_chr _ _ _ hr
theorem txt_fuel (p f : Nat) (l : List Nat) (hf : l.length < f) : txtP p l = andThen (chsK f p) (fun xs _ => done ⟨5, p, 0, [], [], false, xs⟩) l := by
  unfold txtP andThen
  rw [chs_fuel (l.length + 1) f p l (by omega) hf]
theorem fair_txt (p : Nat) : Fair (txtP p) := by
  have key : ∀ l, txtP p l = andThen (chsK (l.length + 1) p) (fun xs _ => done ⟨5, p, 0, [], [], false, xs⟩) l := fun _ => rfl
  have hF : ∀ f, Fair (andThen (chsK f p) (fun xs _ => done (⟨5, p, 0, [], [], false, xs⟩ : Tk))) := fun f => fair_then (fair_chs _ _) fun _ _ => fair_done _
  refine ⟨fun l => (hF _).le l, fun l m hm => ?_, fun l a ha => ?_⟩
  · rw [txt_fuel p (l.length + m.length + 1) l (by omega)] at hm ⊢
    rw [txt_fuel p (l.length + m.length + 1) m (by omega)]
    exact (hF _).loc l m hm
  · rw [txt_fuel p (l.length + 1) l (by omega)] at ha
    rw [txt_fuel p (l.length + 1) (l.take a) (by simp; omega)]
    exact (hF _).cut l a ha
end Go.Proofs.YtmlhibcbgdhadaaDoor
