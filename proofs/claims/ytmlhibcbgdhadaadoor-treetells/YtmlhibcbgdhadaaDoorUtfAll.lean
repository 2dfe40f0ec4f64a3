/- The mathematics of texts as runes: what a first rune is, where it ceases to be one; that the model's own decoding tells the same. No program in it. -/
import Derived.Lib.DecodeN
namespace Go.Proofs.YtmlhibcbgdhadaaDoor
open Go

/-- a text's bytes as numbers -/
def bl (s : ByteArray) : List Nat := s.data.toList.map UInt8.toNat
theorem bl_length (s : ByteArray) : (bl s).length = s.size := by simp [bl]
theorem bl_lt (s : ByteArray) : ∀ b ∈ bl s, b < 256 := by
  intro b hb
  simp [bl] at hb
  obtain ⟨a, _, rfl⟩ := hb
  exact a.toNat_lt
theorem bl_get (s : ByteArray) (i : Nat) : (s.get! i).toNat = (bl s).getD i 0 := by
  show (s.data[i]!).toNat = _
  rw [bl, List.getD_eq_getElem?_getD, List.getElem?_map, Array.getElem?_toList, Array.getElem!_eq_getD, Array.getD_eq_getD_getElem?]
  rcases s.data[i]? with _ | b
  · rfl
  · rfl
theorem bl_at (s : ByteArray) (i : Nat) (h : i < s.size) : (s[i]'h).toNat = (bl s).getD i 0 := by
  rw [← bl_get]
  show _ = (s.data[i]!).toNat
  rw [getElem!_pos s.data i h]
  rfl
theorem getD_lt {l : List Nat} (hb : ∀ b ∈ l, b < 256) (i : Nat) : l.getD i 0 < 256 := by
  rw [List.getD_eq_getElem?_getD]
  rcases hh : l[i]? with _ | b
  · simp
  · simpa using hb b (List.mem_of_getElem? hh)

def wide (c : Nat) : Nat := if c < 128 then 1 else if c < 194 then 0 else if c < 224 then 2 else if c < 240 then 3 else if c < 245 then 4 else 0
def lo (b n : Nat) : Nat := if n = 1 ∧ b = 224 then 160 else if n = 1 ∧ b = 240 then 144 else 128
def hi (b n : Nat) : Nat := if n = 1 ∧ b = 237 then 159 else if n = 1 ∧ b = 244 then 143 else 191
/-- where n bytes, the first of them a, b, c, d, cease to begin with a rune; none: they begin with one -/
def badN (n a b c d : Nat) : Option Nat :=
  if n = 0 ∨ wide a = 0 then some 0
  else if wide a = 1 then none
  else if ¬ (1 < n ∧ lo a 1 ≤ b ∧ b ≤ hi a 1) then some 1
  else if wide a = 2 then none
  else if ¬ (2 < n ∧ lo a 2 ≤ c ∧ c ≤ hi a 2) then some 2
  else if wide a = 3 then none
  else if ¬ (3 < n ∧ lo a 3 ≤ d ∧ d ≤ hi a 3) then some 3
  else none
/-- the rune with which they begin -/
def runeN (a b c d : Nat) : Nat :=
  if wide a = 1 then a
  else if wide a = 2 then a % 32 * 64 + b % 64
  else if wide a = 3 then a % 16 * 4096 + b % 64 * 64 + c % 64
  else a % 8 * 262144 + b % 64 * 4096 + c % 64 * 64 + d % 64
def widthR (r : Nat) : Nat := if r < 128 then 1 else if r < 2048 then 2 else if r < 65536 then 3 else 4
def bad (l : List Nat) : Option Nat := badN l.length (l.getD 0 0) (l.getD 1 0) (l.getD 2 0) (l.getD 3 0)
def rune (l : List Nat) : Nat := runeN (l.getD 0 0) (l.getD 1 0) (l.getD 2 0) (l.getD 3 0)
def wd (l : List Nat) : Nat := wide (l.getD 0 0)

/-- the classes of first bytes -/
theorem cls (a : Nat) : (a < 128 ∧ wide a = 1) ∨ ((128 ≤ a ∧ a < 194 ∨ 244 < a) ∧ wide a = 0) ∨
    ((194 ≤ a ∧ a < 224) ∧ wide a = 2 ∧ lo a 1 = 128 ∧ hi a 1 = 191) ∨
    (∃ l h, wide a = 3 ∧ lo a 1 = l ∧ hi a 1 = h ∧ ((a = 224 ∧ l = 160 ∧ h = 191) ∨ (a = 237 ∧ l = 128 ∧ h = 159) ∨ (224 < a ∧ a < 240 ∧ a ≠ 237 ∧ l = 128 ∧ h = 191))) ∨
    (∃ l h, wide a = 4 ∧ lo a 1 = l ∧ hi a 1 = h ∧ ((a = 240 ∧ l = 144 ∧ h = 191) ∨ (a = 244 ∧ l = 128 ∧ h = 143) ∨ (240 < a ∧ a < 244 ∧ l = 128 ∧ h = 191))) := by
  rcases (by omega : a < 128 ∨ (128 ≤ a ∧ a < 194 ∨ 244 < a) ∨ (194 ≤ a ∧ a < 224) ∨ (224 ≤ a ∧ a < 240) ∨ (240 ≤ a ∧ a ≤ 244)) with g | g | g | g | g
  · refine .inl ⟨g, ?_⟩; unfold wide; rw [if_pos g]
  · refine .inr (.inl ⟨g, ?_⟩); unfold wide; repeat' split
    all_goals omega
  · refine .inr (.inr (.inl ⟨g, ?_, ?_, ?_⟩))
    · unfold wide; repeat' split
      all_goals omega
    · unfold lo; repeat' split
      all_goals omega
    · unfold hi; repeat' split
      all_goals omega
  · refine .inr (.inr (.inr (.inl ⟨_, _, ?_, rfl, rfl, ?_⟩)))
    · unfold wide; repeat' split
      all_goals omega
    · unfold lo hi; repeat' split
      all_goals omega
  · refine .inr (.inr (.inr (.inr ⟨_, _, ?_, rfl, rfl, ?_⟩)))
    · unfold wide; repeat' split
      all_goals omega
    · unfold lo hi; repeat' split
      all_goals omega
theorem lo2 (a : Nat) : lo a 2 = 128 := by simp [lo]
theorem lo3 (a : Nat) : lo a 3 = 128 := by simp [lo]
theorem hi2 (a : Nat) : hi a 2 = 191 := by simp [hi]
theorem hi3 (a : Nat) : hi a 3 = 191 := by simp [hi]
theorem wide_le (c : Nat) : wide c ≤ 4 := by
  unfold wide; repeat' split
  all_goals omega
theorem bad_nil : bad [] = some 0 := rfl
theorem badN_le {n a b c d k : Nat} (h : badN n a b c d = some k) : k ≤ 3 ∧ k ≤ n := by
  unfold badN at h
  repeat' split at h
  all_goals (simp at h; try subst h)
  all_goals (refine ⟨by omega, ?_⟩)
  all_goals omega
theorem bad_le {l : List Nat} {k : Nat} (h : bad l = some k) : k ≤ 3 ∧ k ≤ l.length := badN_le h
theorem badN_none {n a b c d : Nat} (h : badN n a b c d = none) : 1 ≤ wide a ∧ wide a ≤ n := by
  have := wide_le a
  unfold badN at h
  repeat' split at h
  all_goals first | (cases h; done) | (refine ⟨by omega, by omega⟩)
theorem bad_none {l : List Nat} (h : bad l = none) : 1 ≤ wd l ∧ wd l ≤ l.length := badN_none h
/-- what it means that there is a rune, class by class -/
theorem good_cases {n a b c d : Nat} (h : badN n a b c d = none) :
    (wide a = 1 ∧ a < 128 ∧ 0 < n) ∨
    (wide a = 2 ∧ (194 ≤ a ∧ a < 224) ∧ 1 < n ∧ 128 ≤ b ∧ b ≤ 191) ∨
    (wide a = 3 ∧ 2 < n ∧ 128 ≤ b ∧ b ≤ 191 ∧ 128 ≤ c ∧ c ≤ 191 ∧ 224 ≤ a ∧ a < 240 ∧ (a = 224 → 160 ≤ b) ∧ (a = 237 → b ≤ 159)) ∨
    (wide a = 4 ∧ 3 < n ∧ 128 ≤ b ∧ b ≤ 191 ∧ 128 ≤ c ∧ c ≤ 191 ∧ 128 ≤ d ∧ d ≤ 191 ∧ 240 ≤ a ∧ a ≤ 244 ∧ (a = 240 → 144 ≤ b) ∧ (a = 244 → b ≤ 143)) := by
  unfold badN at h
  simp only [lo2, lo3, hi2, hi3] at h
  rcases cls a with ⟨g, e⟩ | ⟨g, e⟩ | ⟨g, e, e1, e2⟩ | ⟨l, u, e, e1, e2, g⟩ | ⟨l, u, e, e1, e2, g⟩
  · exact .inl ⟨e, g, by by_cases hn : n = 0 <;> simp [hn] at h; omega⟩
  · rw [e] at h; simp at h
  · rw [e, e1, e2] at h
    simp only [show ¬ ((2 : Nat) = 0) by omega, or_false, show ¬ ((2 : Nat) = 1) by omega, if_false, if_true] at h
    repeat' split at h
    all_goals (simp only [reduceCtorEq] at h)
    exact .inr (.inl ⟨e, g, by omega, by omega, by omega⟩)
  · rw [e, e1, e2] at h
    simp only [show ¬ ((3 : Nat) = 0) by omega, or_false, show ¬ ((3 : Nat) = 1) by omega, show ¬ ((3 : Nat) = 2) by omega, if_false, if_true] at h
    repeat' split at h
    all_goals (simp only [reduceCtorEq] at h)
    exact .inr (.inr (.inl ⟨e, by omega, by omega, by omega, by omega, by omega, by omega, by omega, by omega, by omega⟩))
  · rw [e, e1, e2] at h
    simp only [show ¬ ((4 : Nat) = 0) by omega, or_false, show ¬ ((4 : Nat) = 1) by omega, show ¬ ((4 : Nat) = 2) by omega, show ¬ ((4 : Nat) = 3) by omega, if_false] at h
    repeat' split at h
    all_goals (simp only [reduceCtorEq] at h)
    exact .inr (.inr (.inr ⟨e, by omega, by omega, by omega, by omega, by omega, by omega, by omega, by omega, by omega, by omega, by omega⟩))
/-- and what it means that there is none -/
theorem bad_cases {n a b c d k : Nat} (h : badN n a b c d = some k) (hn : 0 < n) :
    (k = 0 ∧ wide a = 0 ∧ (128 ≤ a ∧ a < 194 ∨ 244 < a)) ∨
    (k = 1 ∧ wide a = 2 ∧ (194 ≤ a ∧ a < 224) ∧ ¬ (1 < n ∧ 128 ≤ b ∧ b ≤ 191)) ∨
    (wide a = 3 ∧ 224 ≤ a ∧ a < 240 ∧ ((k = 1 ∧ ¬ (1 < n ∧ 128 ≤ b ∧ b ≤ 191 ∧ (a = 224 → 160 ≤ b) ∧ (a = 237 → b ≤ 159))) ∨
      (k = 2 ∧ 1 < n ∧ 128 ≤ b ∧ b ≤ 191 ∧ (a = 224 → 160 ≤ b) ∧ (a = 237 → b ≤ 159) ∧ ¬ (2 < n ∧ 128 ≤ c ∧ c ≤ 191)))) ∨
    (wide a = 4 ∧ 240 ≤ a ∧ a ≤ 244 ∧ ((k = 1 ∧ ¬ (1 < n ∧ 128 ≤ b ∧ b ≤ 191 ∧ (a = 240 → 144 ≤ b) ∧ (a = 244 → b ≤ 143))) ∨
      (k = 2 ∧ 1 < n ∧ 128 ≤ b ∧ b ≤ 191 ∧ (a = 240 → 144 ≤ b) ∧ (a = 244 → b ≤ 143) ∧ ¬ (2 < n ∧ 128 ≤ c ∧ c ≤ 191)) ∨
      (k = 3 ∧ 2 < n ∧ 128 ≤ b ∧ b ≤ 191 ∧ (a = 240 → 144 ≤ b) ∧ (a = 244 → b ≤ 143) ∧ 128 ≤ c ∧ c ≤ 191 ∧ ¬ (3 < n ∧ 128 ≤ d ∧ d ≤ 191)))) := by
  unfold badN at h
  simp only [lo2, lo3, hi2, hi3] at h
  rcases cls a with ⟨g, e⟩ | ⟨g, e⟩ | ⟨g, e, e1, e2⟩ | ⟨l, u, e, e1, e2, g⟩ | ⟨l, u, e, e1, e2, g⟩
  · rw [e] at h
    simp [Nat.ne_of_gt hn] at h
  · rw [e] at h
    simp only [or_true, if_true, Option.some.injEq] at h
    exact .inl ⟨h.symm, e, g⟩
  · rw [e, e1, e2] at h
    simp only [show ¬ (n = 0 ∨ (2 : Nat) = 0) by omega, show ¬ ((2 : Nat) = 1) by omega, if_false, if_true] at h
    repeat' split at h
    all_goals (simp only [reduceCtorEq, Option.some.injEq] at h)
    exact .inr (.inl ⟨by omega, e, g, by omega⟩)
  · rw [e, e1, e2] at h
    simp only [show ¬ (n = 0 ∨ (3 : Nat) = 0) by omega, if_false, show ¬ ((3 : Nat) = 1) by omega, show ¬ ((3 : Nat) = 2) by omega, if_true] at h
    repeat' split at h
    all_goals (simp only [reduceCtorEq, Option.some.injEq] at h)
    · exact .inr (.inr (.inl ⟨e, by omega, by omega, .inl ⟨by omega, by omega⟩⟩))
    · exact .inr (.inr (.inl ⟨e, by omega, by omega, .inr ⟨by omega, by omega, by omega, by omega, by omega, by omega, by omega⟩⟩))
  · rw [e, e1, e2] at h
    simp only [show ¬ (n = 0 ∨ (4 : Nat) = 0) by omega, if_false, show ¬ ((4 : Nat) = 1) by omega, show ¬ ((4 : Nat) = 2) by omega, show ¬ ((4 : Nat) = 3) by omega] at h
    repeat' split at h
    all_goals (simp only [reduceCtorEq, Option.some.injEq] at h)
    · exact .inr (.inr (.inr ⟨e, by omega, by omega, .inl ⟨by omega, by omega⟩⟩))
    · exact .inr (.inr (.inr ⟨e, by omega, by omega, .inr (.inl ⟨by omega, by omega, by omega, by omega, by omega, by omega, by omega⟩)⟩))
    · exact .inr (.inr (.inr ⟨e, by omega, by omega, .inr (.inr ⟨by omega, by omega, by omega, by omega, by omega, by omega, by omega, by omega, by omega⟩)⟩))
/-- the rune's own width is what its first byte says; and it is a rune -/
theorem runeN_width {n a b c d : Nat} (h : badN n a b c d = none) :
    widthR (runeN a b c d) = wide a ∧ runeN a b c d ≤ 1114111 ∧ (runeN a b c d < 55296 ∨ 57343 < runeN a b c d) := by
  unfold runeN
  rcases good_cases h with ⟨e, g⟩ | ⟨e, g⟩ | ⟨e, g⟩ | ⟨e, g⟩
  all_goals
    rw [e]
    simp only [if_true, if_false, show ¬ ((2 : Nat) = 1) by omega, show ¬ ((3 : Nat) = 1) by omega, show ¬ ((4 : Nat) = 1) by omega, show ¬ ((3 : Nat) = 2) by omega, show ¬ ((4 : Nat) = 2) by omega, show ¬ ((4 : Nat) = 3) by omega]
  all_goals
    refine ⟨?_, by omega, by omega⟩
    unfold widthR
    repeat' split
  all_goals omega
theorem rune_width {l : List Nat} (h : bad l = none) : widthR (rune l) = wd l ∧ rune l ≤ 1114111 ∧ (rune l < 55296 ∨ 57343 < rune l) :=
  runeN_width h
/-- the model's decoding, where there is a rune -/
theorem decodeN_good {n a b c d : Nat} (h : badN n a b c d = none) : Lib.decodeN n a b c d = (runeN a b c d, wide a) := by
  unfold runeN Lib.decodeN
  rcases good_cases h with ⟨e, g⟩ | ⟨e, g⟩ | ⟨e, g⟩ | ⟨e, g⟩
  all_goals
    rw [e]
    simp only [if_true, if_false, show ¬ ((2 : Nat) = 1) by omega, show ¬ ((3 : Nat) = 1) by omega, show ¬ ((4 : Nat) = 1) by omega, show ¬ ((3 : Nat) = 2) by omega, show ¬ ((4 : Nat) = 2) by omega, show ¬ ((4 : Nat) = 3) by omega]
  all_goals
    repeat' split
  all_goals first | (exfalso; omega) | rfl
/-- and where there is none -/
theorem decodeN_bad {n a b c d k : Nat} (ha : a < 256) (hn : 0 < n) (h : badN n a b c d = some k) :
    Lib.decodeN n a b c d = (65533, 1) ∧ ¬ (2 < n ∧ a = 239 ∧ b = 191 ∧ c = 189) := by
  refine ⟨?_, by rcases bad_cases h hn with g | g | g | g <;> omega⟩
  unfold Lib.decodeN
  rcases bad_cases h hn with g | g | g | g
  all_goals
    repeat' split
  all_goals first | (exfalso; omega) | rfl
/-- FFFD among the runes is the text's own -/
theorem runeN_FFFD {n a b c d : Nat} (h : badN n a b c d = none) (e : runeN a b c d = 65533) : 2 < n ∧ a = 239 ∧ b = 191 ∧ c = 189 := by
  unfold runeN at e
  rcases good_cases h with ⟨f, g⟩ | ⟨f, g⟩ | ⟨f, g⟩ | ⟨f, g⟩
  all_goals
    rw [f] at e
    simp only [if_true, if_false, show ¬ ((2 : Nat) = 1) by omega, show ¬ ((3 : Nat) = 1) by omega, show ¬ ((4 : Nat) = 1) by omega, show ¬ ((3 : Nat) = 2) by omega, show ¬ ((4 : Nat) = 2) by omega, show ¬ ((4 : Nat) = 3) by omega] at e
  all_goals omega
end Go.Proofs.YtmlhibcbgdhadaaDoor
namespace Go.Proofs.YtmlhibcbgdhadaaDoor
open Go

/-- the first k runes of l, with their places, from i on -/
def rl : Nat → Nat → List Nat → List (Nat × Nat)
  | 0, _, _ => []
  | k + 1, i, l => if bad l = none then (i, rune l) :: rl k (i + wd l) (l.drop (wd l)) else []
/-- how many bytes these have -/
def pos : Nat → List Nat → Nat
  | 0, _ => 0
  | k + 1, l => if bad l = none then wd l + pos k (l.drop (wd l)) else 0
def rs (l : List Nat) : List (Nat × Nat) := rl l.length 0 l
def en (l : List Nat) : Nat := pos l.length l
/-- the first byte that can't stand -/
def chk (l : List Nat) : Option Nat := if en l = l.length then none else (bad (l.drop (en l))).map fun e => en l + e

theorem pos_le : ∀ (k : Nat) (l : List Nat), pos k l ≤ l.length
  | 0, l => Nat.zero_le _
  | k + 1, l => by
    unfold pos
    split
    · rename_i h
      have := bad_none h
      have := pos_le k (l.drop (wd l))
      simp at this
      omega
    · exact Nat.zero_le _
theorem rl_length_le : ∀ (k i : Nat) (l : List Nat), (rl k i l).length ≤ k
  | 0, _, _ => Nat.le_refl _
  | k + 1, i, l => by
    unfold rl
    split
    · have := rl_length_le k (i + wd l) (l.drop (wd l))
      simp; omega
    · simp
theorem rl_length_pos : ∀ (k i : Nat) (l : List Nat), (rl k i l).length ≤ pos k l
  | 0, _, _ => Nat.le_refl _
  | k + 1, i, l => by
    unfold rl pos
    split
    · rename_i h
      have := rl_length_pos k (i + wd l) (l.drop (wd l))
      have := bad_none h
      simp; omega
    · simp
theorem rl_good {l : List Nat} (h : bad l = none) (k i : Nat) : rl (k + 1) i l = (i, rune l) :: rl k (i + wd l) (l.drop (wd l)) := by rw [rl, if_pos h]
theorem pos_good {l : List Nat} (h : bad l = none) (k : Nat) : pos (k + 1) l = wd l + pos k (l.drop (wd l)) := by rw [pos, if_pos h]
theorem rl_none {l : List Nat} (h : bad l ≠ none) (k i : Nat) : rl k i l = [] := by
  rcases k with _ | k
  · rfl
  · rw [rl, if_neg h]
theorem pos_none {l : List Nat} (h : bad l ≠ none) (k : Nat) : pos k l = 0 := by
  rcases k with _ | k
  · rfl
  · rw [pos, if_neg h]
theorem rl_add : ∀ (k j i : Nat) (l : List Nat), (rl k i l).length = k → rl (k + j) i l = rl k i l ++ rl j (i + pos k l) (l.drop (pos k l)) ∧ pos (k + j) l = pos k l + pos j (l.drop (pos k l))
  | 0, j, i, l, _ => by simp [rl, pos]
  | k + 1, j, i, l, h => by
    rw [show k + 1 + j = (k + j) + 1 by omega]
    by_cases hb : bad l = none
    · rw [rl_good hb] at h
      have := rl_add k j (i + wd l) (l.drop (wd l)) (by simpa using h)
      rw [rl_good hb, rl_good hb, pos_good hb, pos_good hb, this.1, this.2]
      simp only [List.cons_append, List.drop_drop, Nat.add_assoc]
      exact ⟨trivial, trivial⟩
    · rw [rl_none hb] at h
      simp at h
theorem rl_shift : ∀ (k i j : Nat) (l : List Nat), rl k (i + j) l = (rl k i l).map fun x => (x.1 + j, x.2)
  | 0, _, _, _ => rfl
  | k + 1, i, j, l => by
    unfold rl
    split
    · rw [List.map_cons, ← rl_shift k]
      simp only [Nat.add_right_comm]
    · rfl
theorem rl_stop {k : Nat} {l : List Nat} (j i : Nat) (h : (rl k i l).length = k) (hb : bad (l.drop (pos k l)) ≠ none) : rl (k + j) i l = rl k i l ∧ pos (k + j) l = pos k l := by
  have := rl_add k j i l h
  rw [this.1, this.2]
  rcases j with _ | j
  · simp [rl, pos]
  · rw [rl_none hb, pos_none hb]; simp
theorem rl_snoc {k : Nat} {l : List Nat} (i : Nat) (h : (rl k i l).length = k) (hb : bad (l.drop (pos k l)) = none) :
    rl (k + 1) i l = rl k i l ++ [(i + pos k l, rune (l.drop (pos k l)))] ∧ pos (k + 1) l = pos k l + wd (l.drop (pos k l)) := by
  have := rl_add k 1 i l h
  rw [this.1, this.2]
  simp [rl, pos, hb]
theorem rl_take : ∀ (k m i : Nat) (l : List Nat), (rl k i l).take m = rl (min m k) i l
  | 0, m, i, l => by simp [rl]
  | k + 1, 0, i, l => by simp [rl]
  | k + 1, m + 1, i, l => by
    rw [Nat.add_min_add_right]
    unfold rl
    split
    · rw [List.take_succ_cons, rl_take k m]
    · rfl
/-- k runes, as many as there are: the rest -/
theorem rl_more : ∀ (k i : Nat) (l : List Nat), (rl k i l).length < k → bad (l.drop (pos k l)) ≠ none ∧ ∀ j, k ≤ j → rl j i l = rl k i l ∧ pos j l = pos k l
  | 0, _, _, h => by simp at h
  | k + 1, i, l, h => by
    by_cases hb : bad l = none
    · have h' : (rl k (i + wd l) (l.drop (wd l))).length < k := by
        rw [rl, if_pos hb] at h; simpa using h
      obtain ⟨h1, h2⟩ := rl_more k (i + wd l) (l.drop (wd l)) h'
      refine ⟨?_, fun j hj => ?_⟩
      · rw [pos, if_pos hb, ← List.drop_drop]; exact h1
      · obtain ⟨j, rfl⟩ : ∃ j', j = j' + 1 := ⟨j - 1, by omega⟩
        obtain ⟨h3, h4⟩ := h2 j (by omega)
        rw [rl, pos, if_pos hb, if_pos hb, h3, h4, rl, pos, if_pos hb, if_pos hb]
        exact ⟨rfl, rfl⟩
    · refine ⟨by rw [pos, if_neg hb]; exact hb, fun j hj => ?_⟩
      obtain ⟨j, rfl⟩ : ∃ j', j = j' + 1 := ⟨j - 1, by omega⟩
      rw [rl_none hb, rl_none hb, pos_none hb, pos_none hb]
      exact ⟨rfl, rfl⟩
theorem bad_end (l : List Nat) : bad (l.drop (en l)) ≠ none := by
  unfold en
  rcases Nat.lt_or_ge (rl l.length 0 l).length l.length with h | h
  · exact (rl_more _ 0 l h).1
  · have h1 := rl_length_pos l.length 0 l
    rw [List.drop_eq_nil_of_le (by omega)]
    simp [bad_nil]
/-- as many runes as bytes are all -/
theorem rl_all (l : List Nat) (k i : Nat) (hk : l.length ≤ k) : rl k i l = rl l.length i l ∧ pos k l = en l := by
  rcases Nat.lt_or_ge (rl l.length i l).length l.length with h | h
  · exact (rl_more _ i l h).2 k hk
  · have h1 := rl_length_le l.length i l
    have h2 : pos l.length l = l.length := by
      have := rl_length_pos l.length i l
      have := pos_le l.length l
      omega
    obtain ⟨j, rfl⟩ : ∃ j, k = l.length + j := ⟨k - l.length, by omega⟩
    have := rl_stop (k := l.length) (l := l) j i (by omega) (by rw [h2, List.drop_eq_nil_of_le (Nat.le_refl _)]; simp [bad_nil])
    exact ⟨this.1, this.2⟩
theorem rs_length (l : List Nat) : (rs l).length ≤ en l := rl_length_pos _ _ _
theorem en_le (l : List Nat) : en l ≤ l.length := pos_le _ _
/-- where it is all that there is -/
theorem all_of_bad {k : Nat} {l : List Nat} (h : (rl k 0 l).length = k) (hb : bad (l.drop (pos k l)) ≠ none) : rl k 0 l = rs l ∧ pos k l = en l := by
  have h1 := rl_length_pos k 0 l
  have h2 := pos_le k l
  have := rl_stop (l.length - k) 0 h hb
  rw [show k + (l.length - k) = l.length by omega] at this
  exact ⟨this.1.symm, this.2.symm⟩
/-- the number of runes of its own is enough -/
theorem rl_own (l : List Nat) : rl (rs l).length 0 l = rs l ∧ pos (rs l).length l = en l := by
  have h0 : rl (rs l).length 0 l = rs l := by
    have h := rl_take l.length (rs l).length 0 l
    rw [show rl l.length 0 l = rs l from rfl, List.take_length, Nat.min_eq_left (by have := rl_length_le l.length 0 l; exact this)] at h
    exact h.symm
  refine ⟨h0, ?_⟩
  rcases hb : bad (l.drop (pos (rs l).length l)) with _ | e
  · exfalso
    have h1 := (rl_snoc (k := (rs l).length) 0 (by rw [h0]) hb).1
    rw [h0] at h1
    have h2 := rl_take (l.length + 1) ((rs l).length + 1) 0 l
    rw [(rl_all l (l.length + 1) 0 (by omega)).1, Nat.min_eq_left (by have := rl_length_le l.length 0 l; have : (rs l).length ≤ l.length := this; omega), h1] at h2
    have h3 := congrArg List.length h2
    rw [show rl l.length 0 l = rs l from rfl] at h3
    simp at h3
  · exact (all_of_bad (by rw [h0]) (by rw [hb]; simp)).2
theorem mem_rl : ∀ (k i : Nat) (l : List Nat) (x : Nat × Nat), x ∈ rl k i l → x.1 + widthR x.2 ≤ i + pos k l ∧ x.2 ≤ 1114111 ∧ i ≤ x.1
  | 0, _, _, _, h => by simp [rl] at h
  | k + 1, i, l, x, h => by
    rw [rl] at h
    rw [pos]
    split at h
    · rename_i hb
      rw [if_pos hb]
      rcases List.mem_cons.1 h with rfl | h
      · have := rune_width hb
        exact ⟨by simp only; omega, this.2.1, Nat.le_refl _⟩
      · have := mem_rl k _ _ x h
        omega
    · simp at h
/-- where the runes told so far end -/
def ends (xs : List (Nat × Nat)) : Nat := match xs.getLast? with
  | none => 0
  | some x => x.1 + widthR x.2
theorem ends_snoc (xs : List (Nat × Nat)) (x : Nat × Nat) : ends (xs ++ [x]) = x.1 + widthR x.2 := by simp [ends]
theorem ends_cons (x y : Nat × Nat) (xs : List (Nat × Nat)) : ends (x :: y :: xs) = ends (y :: xs) := by simp [ends]
theorem ends_rl : ∀ (k i : Nat) (l : List Nat), rl k i l ≠ [] → ends (rl k i l) = i + pos k l
  | 0, _, _, h => by simp [rl] at h
  | k + 1, i, l, h => by
    rw [rl] at h ⊢
    rw [pos]
    by_cases hb : bad l = none
    · rw [if_pos hb, if_pos hb]
      by_cases e : rl k (i + wd l) (l.drop (wd l)) = []
      · rw [e]
        have : pos k (l.drop (wd l)) = 0 := by
          rcases k with _ | k
          · rfl
          · rw [rl] at e
            rw [pos]
            by_cases hb2 : bad (l.drop (wd l)) = none
            · rw [if_pos hb2] at e; simp at e
            · rw [if_neg hb2]
        simp [ends, (rune_width hb).1, this]
      · obtain ⟨y, ys, hy⟩ := List.exists_cons_of_ne_nil e
        rw [hy, ends_cons, ← hy, ends_rl k _ _ e]
        omega
    · rw [if_neg hb] at h; simp at h
theorem ends_rl0 (k : Nat) (l : List Nat) : ends (rl k 0 l) = pos k l := by
  by_cases h : rl k 0 l = []
  · rw [h]
    rcases k with _ | k
    · rfl
    · rw [rl] at h
      rw [pos]
      by_cases hb : bad l = none
      · rw [if_pos hb] at h; simp at h
      · rw [if_neg hb]; rfl
  · rw [ends_rl k 0 l h]; omega
/-! ### beginnings -/
theorem getD_take {l m : List Nat} {n i : Nat} (h : m.take n = l.take n) (hi : i < n) : m.getD i 0 = l.getD i 0 := by
  have := congrArg (·[i]?) h
  simp [hi] at this
  rw [List.getD_eq_getElem?_getD, List.getD_eq_getElem?_getD, this]
theorem length_take_le {l m : List Nat} {n : Nat} (h : m.take n = l.take n) (hn : n ≤ l.length) : n ≤ m.length := by
  have := congrArg List.length h
  simp at this
  omega
/-- the bytes of a rune make it -/
theorem good_pre {l m : List Nat} (hb : bad l = none) (h : m.take (wd l) = l.take (wd l)) : bad m = none ∧ rune m = rune l ∧ wd m = wd l := by
  have hn := bad_none hb
  have hm := length_take_le h hn.2
  have g := good_cases hb
  have e0 : m.getD 0 0 = l.getD 0 0 := getD_take h (by omega)
  have ew : wd m = wd l := by unfold wd; rw [e0]
  unfold wd at h hm
  rw [show bad m = badN m.length (m.getD 0 0) (m.getD 1 0) (m.getD 2 0) (m.getD 3 0) from rfl, show rune m = runeN (m.getD 0 0) (m.getD 1 0) (m.getD 2 0) (m.getD 3 0) from rfl,
    show rune l = runeN (l.getD 0 0) (l.getD 1 0) (l.getD 2 0) (l.getD 3 0) from rfl]
  refine ⟨?_, ?_, ew⟩
  · rcases hk : badN m.length (m.getD 0 0) (m.getD 1 0) (m.getD 2 0) (m.getD 3 0) with _ | k
    · rfl
    · exfalso
      have g' := bad_cases hk (by omega)
      rw [e0] at g'
      rcases g with ⟨ew, g⟩ | ⟨ew, g⟩ | ⟨ew, g⟩ | ⟨ew, g⟩
      · rcases g' with g' | g' | g' | g' <;> omega
      · rw [ew] at h
        have e1 := getD_take h (i := 1) (by omega)
        rw [e1] at g'
        rcases g' with g' | g' | g' | g' <;> omega
      · rw [ew] at h
        have e1 := getD_take h (i := 1) (by omega)
        have e2 := getD_take h (i := 2) (by omega)
        rw [e1, e2] at g'
        rcases g' with g' | g' | ⟨_, _, _, g' | g'⟩ | g' <;> omega
      · rw [ew] at h
        have e1 := getD_take h (i := 1) (by omega)
        have e2 := getD_take h (i := 2) (by omega)
        have e3 := getD_take h (i := 3) (by omega)
        rw [e1, e2, e3] at g'
        rcases g' with g' | g' | g' | ⟨_, _, _, g' | g' | g'⟩ <;> omega
  · unfold runeN
    rw [e0]
    rcases g with ⟨ew, g⟩ | ⟨ew, g⟩ | ⟨ew, g⟩ | ⟨ew, g⟩
    · rw [ew, if_pos rfl, if_pos rfl]
    · rw [ew] at h ⊢
      rw [getD_take h (i := 1) (by omega)]
      rfl
    · rw [ew] at h ⊢
      rw [getD_take h (i := 1) (by omega), getD_take h (i := 2) (by omega)]
      rfl
    · rw [ew] at h ⊢
      rw [getD_take h (i := 1) (by omega), getD_take h (i := 2) (by omega), getD_take h (i := 3) (by omega)]
/-- a byte that can't stand there can't, whatever follows -/
theorem bad_pre {l m : List Nat} {e : Nat} (hb : bad l = some e) (he : e < l.length) (h : m.take (e + 1) = l.take (e + 1)) : bad m = some e := by
  have hm := length_take_le h he
  have g := bad_cases hb (by omega)
  have e0 : m.getD 0 0 = l.getD 0 0 := getD_take h (by omega)
  have e1 : 1 ≤ e → m.getD 1 0 = l.getD 1 0 := fun he => getD_take h (by omega)
  have e2 : 2 ≤ e → m.getD 2 0 = l.getD 2 0 := fun he => getD_take h (by omega)
  have e3 : 3 ≤ e → m.getD 3 0 = l.getD 3 0 := fun he => getD_take h (by omega)
  rcases hk : bad m with _ | k
  · exfalso
    have g' := good_cases hk
    rw [e0] at g'
    rcases g with g | g | ⟨_, _, _, g | g⟩ | ⟨_, _, _, g | g | g⟩
    · rcases g' with g' | g' | g' | g' <;> omega
    · have := e1 (by omega); rcases g' with g' | g' | g' | g' <;> omega
    · have := e1 (by omega); rcases g' with g' | g' | g' | g' <;> omega
    · have := e1 (by omega); have := e2 (by omega); rcases g' with g' | g' | g' | g' <;> omega
    · have := e1 (by omega); rcases g' with g' | g' | g' | g' <;> omega
    · have := e1 (by omega); have := e2 (by omega); rcases g' with g' | g' | g' | g' <;> omega
    · have := e1 (by omega); have := e2 (by omega); have := e3 (by omega); rcases g' with g' | g' | g' | g' <;> omega
  · have g' := bad_cases hk (by omega)
    rw [e0] at g'
    congr 1
    rcases g with g | g | ⟨_, _, _, g | g⟩ | ⟨_, _, _, g | g | g⟩
    · rcases g' with g' | g' | g' | g' <;> omega
    · have := e1 (by omega); rcases g' with g' | g' | g' | g' <;> omega
    · have := e1 (by omega); rcases g' with g' | g' | ⟨_, _, _, g' | g'⟩ | g' <;> omega
    · have := e1 (by omega); have := e2 (by omega); rcases g' with g' | g' | ⟨_, _, _, g' | g'⟩ | g' <;> omega
    · have := e1 (by omega); rcases g' with g' | g' | g' | ⟨_, _, _, g' | g' | g'⟩ <;> omega
    · have := e1 (by omega); have := e2 (by omega); rcases g' with g' | g' | g' | ⟨_, _, _, g' | g' | g'⟩ <;> omega
    · have := e1 (by omega); have := e2 (by omega); have := e3 (by omega); rcases g' with g' | g' | g' | ⟨_, _, _, g' | g' | g'⟩ <;> omega
/-- texts that begin alike begin with the same runes -/
theorem rl_pre : ∀ (k i : Nat) (l m : List Nat), (rl k i l).length = k → m.take (pos k l) = l.take (pos k l) → rl k i m = rl k i l ∧ pos k m = pos k l
  | 0, _, _, _, _, _ => ⟨rfl, rfl⟩
  | k + 1, i, l, m, h, hm => by
    by_cases hb : bad l = none
    · rw [rl_good hb] at h
      rw [pos_good hb] at hm
      have hn := bad_none hb
      have h1 : m.take (wd l) = l.take (wd l) := by
        have := congrArg (List.take (wd l)) hm
        rwa [List.take_take, List.take_take, Nat.min_eq_left (by omega)] at this
      obtain ⟨b1, b2, b3⟩ := good_pre hb h1
      have h2 : (m.drop (wd l)).take (pos k (l.drop (wd l))) = (l.drop (wd l)).take (pos k (l.drop (wd l))) := by
        have := congrArg (List.drop (wd l)) hm
        rwa [List.drop_take, List.drop_take, show wd l + pos k (l.drop (wd l)) - wd l = pos k (l.drop (wd l)) by omega] at this
      have := rl_pre k (i + wd l) (l.drop (wd l)) (m.drop (wd l)) (by simpa using h) h2
      rw [rl_good b1, rl_good hb, pos_good b1, pos_good hb, b2, b3, this.1, this.2]
      exact ⟨rfl, rfl⟩
    · rw [rl_none hb] at h
      simp at h
theorem pre_runs {l m : List Nat} (h : m.take (en l) = l.take (en l)) : rl (rs l).length 0 m = rs l ∧ pos (rs l).length m = en l := by
  obtain ⟨h1, h2⟩ := rl_own l
  have := rl_pre (rs l).length 0 l m (by rw [h1]) (by rw [h2]; exact h)
  rw [this.1, this.2]
  exact ⟨h1, h2⟩
/-- THE FIRST: with that byte, whatever follows -/
theorem chk_pre {l m : List Nat} {A : Nat} (hc : chk l = some A) (hA : A < l.length) (h : m.take (A + 1) = l.take (A + 1)) : chk m = some A := by
  unfold chk at hc
  split at hc
  · cases hc
  · rename_i hne
    obtain ⟨e, he, hA'⟩ := Option.map_eq_some_iff.1 hc
    subst hA'
    have hm := length_take_le h hA
    have h1 : m.take (en l) = l.take (en l) := by
      have := congrArg (List.take (en l)) h
      rwa [List.take_take, List.take_take, Nat.min_eq_left (by omega)] at this
    obtain ⟨r1, r2⟩ := pre_runs h1
    have hb : bad (m.drop (en l)) = some e := by
      refine bad_pre he (by simp; omega) ?_
      have := congrArg (List.drop (en l)) h
      rwa [List.drop_take, List.drop_take, show en l + e + 1 - en l = e + 1 by omega] at this
    have h3 := all_of_bad (k := (rs l).length) (l := m) (by rw [r1]) (by rw [r2, hb]; simp)
    rw [r2] at h3
    unfold chk
    rw [← h3.2, if_neg (by omega), hb]
    rfl
theorem chk_none {l : List Nat} : chk l = none ↔ en l = l.length := by
  unfold chk
  constructor
  · intro h
    split at h
    · assumption
    · rw [Option.map_eq_none_iff] at h
      exact absurd h (bad_end l)
  · intro h; rw [if_pos h]
theorem chk_some {l : List Nat} (h : en l ≠ l.length) : ∃ e, bad (l.drop (en l)) = some e ∧ chk l = some (en l + e) ∧ en l + e ≤ l.length := by
  unfold chk
  rw [if_neg h]
  rcases hb : bad (l.drop (en l)) with _ | e
  · exact absurd hb (bad_end l)
  · have := bad_le hb
    have := en_le l
    simp at *
    omega
theorem chk_le {l : List Nat} {A : Nat} (h : chk l = some A) : A ≤ l.length := by
  have hne : en l ≠ l.length := fun e => by rw [chk_none.2 e] at h; cases h
  obtain ⟨e, _, h2, h3⟩ := chk_some hne
  rw [h2] at h
  cases h
  exact h3
/-- two texts, the first of them right -/
theorem two {a b : List Nat} (ha : en a = a.length) : rs (a ++ b) = rs a ++ (rs b).map (fun x => (x.1 + a.length, x.2)) ∧ en (a ++ b) = a.length + en b := by
  obtain ⟨r1, r2⟩ := pre_runs (l := a) (m := a ++ b) (by rw [ha]; simp)
  have hb := bad_end b
  have h3 : (rl ((rs a).length + (rs b).length) 0 (a ++ b)) = rs a ++ rl (rs b).length (0 + a.length) b ∧ pos ((rs a).length + (rs b).length) (a ++ b) = a.length + pos (rs b).length b := by
    have := rl_add (rs a).length (rs b).length 0 (a ++ b) (by rw [r1])
    rw [r1, r2, ha, List.drop_left] at this
    exact this
  rw [rl_shift, (rl_own b).1, (rl_own b).2] at h3
  have h4 := all_of_bad (k := (rs a).length + (rs b).length) (l := a ++ b) (by rw [h3.1]; simp) (by
    rw [h3.2, ← List.drop_drop, List.drop_left]; exact hb)
  rw [← h4.1, ← h4.2]
  exact h3
/-- what may follow what stands ahead of that byte -/
def tails : List (List Nat) := [[], [128], [191], [128, 128], [160, 128], [144, 128], [128, 128, 128], [144, 128, 128]]
theorem one_more {x : List Nat} (hb : bad x = none) (hw : wd x = x.length) : en x = x.length := by
  have hn := bad_none hb
  obtain ⟨n, hl⟩ : ∃ n, x.length = n + 1 := ⟨x.length - 1, by omega⟩
  unfold en
  rw [hl, pos_good hb, hw, List.drop_length, pos_none (by simp [bad_nil])]
  omega
theorem badN_ok1 {n a b c d : Nat} (ha : wide a = 2) (h : 1 < n ∧ 128 ≤ b ∧ b ≤ 191) : badN n a b c d = none := by
  rcases hk : badN n a b c d with _ | k
  · rfl
  · exfalso; rcases bad_cases hk (by omega) with g | g | g | g <;> omega
theorem badN_ok2 {n a b c d : Nat} (ha : wide a = 3) (h : 2 < n ∧ 128 ≤ b ∧ b ≤ 191 ∧ 128 ≤ c ∧ c ≤ 191 ∧ (a = 224 → 160 ≤ b) ∧ (a = 237 → b ≤ 159)) : badN n a b c d = none := by
  rcases hk : badN n a b c d with _ | k
  · rfl
  · exfalso; rcases bad_cases hk (by omega) with g | g | ⟨_, _, _, g | g⟩ | g <;> omega
theorem badN_ok3 {n a b c d : Nat} (ha : wide a = 4) (h : 3 < n ∧ 128 ≤ b ∧ b ≤ 191 ∧ 128 ≤ c ∧ c ≤ 191 ∧ 128 ≤ d ∧ d ≤ 191 ∧ (a = 240 → 144 ≤ b) ∧ (a = 244 → b ≤ 143)) : badN n a b c d = none := by
  rcases hk : badN n a b c d with _ | k
  · rfl
  · exfalso; rcases bad_cases hk (by omega) with g | g | g | ⟨_, _, _, g | g | g⟩ <;> omega
/-- one of the tails makes what can stand a rune -/
theorem alive1 {l : List Nat} {e : Nat} (hb : bad l = some e) (hl : 0 < l.length) : ∃ t ∈ tails, en (l.take e ++ t) = (l.take e ++ t).length := by
  have g := bad_cases hb hl
  have hle := (bad_le hb).2
  have get : ∀ i, i < e → ∀ t, (l.take e ++ t).getD i 0 = l.getD i 0 := fun i hi t => by
    rw [List.getD_eq_getElem?_getD, List.getD_eq_getElem?_getD, List.getElem?_append_left (by simp; omega), List.getElem?_take, if_pos hi]
  have got : ∀ i t, e ≤ i → (l.take e ++ t).getD i 0 = t.getD (i - e) 0 := fun i t hi => by
    rw [List.getD_eq_getElem?_getD, List.getD_eq_getElem?_getD, List.getElem?_append_right (by simp; omega)]
    simp [Nat.min_eq_left hle]
  have len : ∀ t, (l.take e ++ t).length = e + t.length := fun t => by simp [Nat.min_eq_left hle]
  have fin : ∀ t, t ∈ tails → bad (l.take e ++ t) = none → wd (l.take e ++ t) = e + t.length → ∃ t ∈ tails, en (l.take e ++ t) = (l.take e ++ t).length :=
    fun t ht h1 h2 => ⟨t, ht, one_more h1 (by rw [h2, len])⟩
  rcases g with ⟨rfl, g⟩ | ⟨rfl, ew, g⟩ | ⟨ew, g1, g2, ⟨rfl, g⟩ | ⟨rfl, g⟩⟩ | ⟨ew, g1, g2, ⟨rfl, g⟩ | ⟨rfl, g⟩ | ⟨rfl, g⟩⟩
  · exact ⟨[], by simp [tails], by simp [en, pos]⟩
  · refine fin [128] (by simp [tails]) ?_ ?_
    · unfold bad
      rw [get 0 (by omega), got 1 _ (by omega)]
      exact badN_ok1 ew (by rw [len]; simp)
    · unfold wd; rw [get 0 (by omega), ew]; rfl
  · by_cases h224 : l.getD 0 0 = 224
    · refine fin [160, 128] (by simp [tails]) ?_ ?_
      · unfold bad
        rw [get 0 (by omega), got 1 _ (by omega), got 2 _ (by omega)]
        exact badN_ok2 ew (by rw [len]; simp only [Nat.reduceSub, List.getD_cons_zero, List.getD_cons_succ, List.length_cons, List.length_nil]; omega)
      · unfold wd; rw [get 0 (by omega), ew]; rfl
    · refine fin [128, 128] (by simp [tails]) ?_ ?_
      · unfold bad
        rw [get 0 (by omega), got 1 _ (by omega), got 2 _ (by omega)]
        exact badN_ok2 ew (by rw [len]; simp only [Nat.reduceSub, List.getD_cons_zero, List.getD_cons_succ, List.length_cons, List.length_nil]; omega)
      · unfold wd; rw [get 0 (by omega), ew]; rfl
  · refine fin [128] (by simp [tails]) ?_ ?_
    · unfold bad
      rw [get 0 (by omega), get 1 (by omega), got 2 _ (by omega)]
      exact badN_ok2 ew (by rw [len]; simp only [Nat.reduceSub, List.getD_cons_zero, List.length_cons, List.length_nil]; omega)
    · unfold wd; rw [get 0 (by omega), ew]; rfl
  · by_cases h240 : l.getD 0 0 = 240
    · refine fin [144, 128, 128] (by simp [tails]) ?_ ?_
      · unfold bad
        rw [get 0 (by omega), got 1 _ (by omega), got 2 _ (by omega), got 3 _ (by omega)]
        exact badN_ok3 ew (by rw [len]; simp only [Nat.reduceSub, List.getD_cons_zero, List.getD_cons_succ, List.length_cons, List.length_nil]; omega)
      · unfold wd; rw [get 0 (by omega), ew]; rfl
    · refine fin [128, 128, 128] (by simp [tails]) ?_ ?_
      · unfold bad
        rw [get 0 (by omega), got 1 _ (by omega), got 2 _ (by omega), got 3 _ (by omega)]
        exact badN_ok3 ew (by rw [len]; simp only [Nat.reduceSub, List.getD_cons_zero, List.getD_cons_succ, List.length_cons, List.length_nil]; omega)
      · unfold wd; rw [get 0 (by omega), ew]; rfl
  · refine fin [128, 128] (by simp [tails]) ?_ ?_
    · unfold bad
      rw [get 0 (by omega), get 1 (by omega), got 2 _ (by omega), got 3 _ (by omega)]
      exact badN_ok3 ew (by rw [len]; simp only [Nat.reduceSub, List.getD_cons_zero, List.getD_cons_succ, List.length_cons, List.length_nil]; omega)
    · unfold wd; rw [get 0 (by omega), ew]; rfl
  · refine fin [128] (by simp [tails]) ?_ ?_
    · unfold bad
      rw [get 0 (by omega), get 1 (by omega), get 2 (by omega), got 3 _ (by omega)]
      exact badN_ok3 ew (by rw [len]; simp only [Nat.reduceSub, List.getD_cons_zero, List.length_cons, List.length_nil]; omega)
    · unfold wd; rw [get 0 (by omega), ew]; rfl
theorem alive {l : List Nat} {A : Nat} (hc : chk l = some A) : ∃ t ∈ tails, chk (l.take A ++ t) = none := by
  have hne : en l ≠ l.length := fun e => by rw [chk_none.2 e] at hc; cases hc
  obtain ⟨e, he, h2, h3⟩ := chk_some hne
  rw [h2] at hc
  obtain rfl := Option.some.inj hc
  have hle := en_le l
  obtain ⟨t, ht, h⟩ := alive1 he (by simp; omega)
  refine ⟨t, ht, chk_none.2 ?_⟩
  have hr : en (l.take (en l)) = (l.take (en l)).length := by
    obtain ⟨r1, r2⟩ := pre_runs (l := l) (m := l.take (en l)) (by rw [List.take_take, Nat.min_self])
    have := all_of_bad (k := (rs l).length) (l := l.take (en l)) (by rw [r1]) (by rw [r2, List.drop_eq_nil_of_le (by simp; omega)]; simp [bad_nil])
    rw [← this.2, r2]; simp; omega
  have e1 : l.take (en l + e) ++ t = l.take (en l) ++ ((l.drop (en l)).take e ++ t) := by
    rw [← List.append_assoc, List.take_add]
  rw [e1, (two hr).2, h]; simp only [List.length_append]
end Go.Proofs.YtmlhibcbgdhadaaDoor
