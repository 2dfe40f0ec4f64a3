/- The mathematics of texts as runes: what a first rune is, where it ceases to be one; that the model's own decoding tells the same. No program in it. -/
import Derived.Lib.DecodeN
namespace Go.Proofs.YtmlhibcbgdhadaaDoor
open Go

/-- a text's bytes as numbers -/
def bl (s : ByteArray) : List Nat := s.data.toList.map UInt8.toNat
theorem bl_length (s : ByteArray) : (bl s).length = s.size := by simp [bl]
theorem bl_lt (s : ByteArray) : ∀ b ∈ bl s, b < 256 := by
  intro b hb
  simp [bl] at hb
  obtain ⟨a, _, rfl⟩ := hb
  exact a.toNat_lt
theorem bl_get (s : ByteArray) (i : Nat) : (s.get! i).toNat = (bl s).getD i 0 := by
  show (s.data[i]!).toNat = _
  rw [bl, List.getD_eq_getElem?_getD, List.getElem?_map, Array.getElem?_toList, Array.getElem!_eq_getD, Array.getD_eq_getD_getElem?]
  rcases s.data[i]? with _ | b
  · rfl
  · rfl
theorem bl_at (s : ByteArray) (i : Nat) (h : i < s.size) : (s[i]'h).toNat = (bl s).getD i 0 := by
  rw [← bl_get]
  show _ = (s.data[i]!).toNat
  rw [getElem!_pos s.data i h]
  rfl
theorem getD_lt {l : List Nat} (hb : ∀ b ∈ l, b < 256) (i : Nat) : l.getD i 0 < 256 := by
  rw [List.getD_eq_getElem?_getD]
  rcases hh : l[i]? with _ | b
  · simp
  · simpa using hb b (List.mem_of_getElem? hh)

def wide (c : Nat) : Nat := if c < 128 then 1 else if c < 194 then 0 else if c < 224 then 2 else if c < 240 then 3 else if c < 245 then 4 else 0
def lo (b n : Nat) : Nat := if n = 1 ∧ b = 224 then 160 else if n = 1 ∧ b = 240 then 144 else 128
def hi (b n : Nat) : Nat := if n = 1 ∧ b = 237 then 159 else if n = 1 ∧ b = 244 then 143 else 191
/-- where n bytes, the first of them a, b, c, d, cease to begin with a rune; none: they begin with one -/
def badN (n a b c d : Nat) : Option Nat :=
  if n = 0 ∨ wide a = 0 then some 0
  else if wide a = 1 then none
  else if ¬ (1 < n ∧ lo a 1 ≤ b ∧ b ≤ hi a 1) then some 1
  else if wide a = 2 then none
  else if ¬ (2 < n ∧ lo a 2 ≤ c ∧ c ≤ hi a 2) then some 2
  else if wide a = 3 then none
  else if ¬ (3 < n ∧ lo a 3 ≤ d ∧ d ≤ hi a 3) then some 3
  else none
/-- the rune with which they begin -/
def runeN (a b c d : Nat) : Nat :=
  if wide a = 1 then a
  else if wide a = 2 then a % 32 * 64 + b % 64
  else if wide a = 3 then a % 16 * 4096 + b % 64 * 64 + c % 64
  else a % 8 * 262144 + b % 64 * 4096 + c % 64 * 64 + d % 64
def widthR (r : Nat) : Nat := if r < 128 then 1 else if r < 2048 then 2 else if r < 65536 then 3 else 4
def bad (l : List Nat) : Option Nat := badN l.length (l.getD 0 0) (l.getD 1 0) (l.getD 2 0) (l.getD 3 0)
def rune (l : List Nat) : Nat := runeN (l.getD 0 0) (l.getD 1 0) (l.getD 2 0) (l.getD 3 0)
def wd (l : List Nat) : Nat := wide (l.getD 0 0)

/-- the classes of first bytes -/
theorem cls (a : Nat) : (a < 128 ∧ wide a = 1) ∨ ((128 ≤ a ∧ a < 194 ∨ 244 < a) ∧ wide a = 0) ∨
    ((194 ≤ a ∧ a < 224) ∧ wide a = 2 ∧ lo a 1 = 128 ∧ hi a 1 = 191) ∨
    (∃ l h, wide a = 3 ∧ lo a 1 = l ∧ hi a 1 = h ∧ ((a = 224 ∧ l = 160 ∧ h = 191) ∨ (a = 237 ∧ l = 128 ∧ h = 159) ∨ (224 < a ∧ a < 240 ∧ a ≠ 237 ∧ l = 128 ∧ h = 191))) ∨
    (∃ l h, wide a = 4 ∧ lo a 1 = l ∧ hi a 1 = h ∧ ((a = 240 ∧ l = 144 ∧ h = 191) ∨ (a = 244 ∧ l = 128 ∧ h = 143) ∨ (240 < a ∧ a < 244 ∧ l = 128 ∧ h = 191))) := by
  rcases (by omega : a < 128 ∨ (128 ≤ a ∧ a < 194 ∨ 244 < a) ∨ (194 ≤ a ∧ a < 224) ∨ (224 ≤ a ∧ a < 240) ∨ (240 ≤ a ∧ a ≤ 244)) with g | g | g | g | g
  · refine .inl ⟨g, ?_⟩; unfold wide; rw [if_pos g]
  · refine .inr (.inl ⟨g, ?_⟩); unfold wide; repeat' split
    all_goals omega
  · refine .inr (.inr (.inl ⟨g, ?_, ?_, ?_⟩))
    · unfold wide; repeat' split
      all_goals omega
    · unfold lo; repeat' split
      all_goals omega
    · unfold hi; repeat' split
      all_goals omega
  · refine .inr (.inr (.inr (.inl ⟨_, _, ?_, rfl, rfl, ?_⟩)))
    · unfold wide; repeat' split
      all_goals omega
    · unfold lo hi; repeat' split
      all_goals omega
  · refine .inr (.inr (.inr (.inr ⟨_, _, ?_, rfl, rfl, ?_⟩)))
    · unfold wide; repeat' split
      all_goals omega
    · unfold lo hi; repeat' split
      all_goals omega
theorem lo2 (a : Nat) : lo a 2 = 128 := by simp [lo]
theorem lo3 (a : Nat) : lo a 3 = 128 := by simp [lo]
theorem hi2 (a : Nat) : hi a 2 = 191 := by simp [hi]
theorem hi3 (a : Nat) : hi a 3 = 191 := by simp [hi]
theorem wide_le (c : Nat) : wide c ≤ 4 := by
  unfold wide; repeat' split
  all_goals omega
theorem bad_nil : bad [] = some 0 := rfl
theorem badN_le {n a b c d k : Nat} (h : badN n a b c d = some k) : k ≤ 3 ∧ k ≤ n := by
  unfold badN at h
  repeat' split at h
  all_goals (simp at h; try subst h)
  all_goals (refine ⟨by omega, ?_⟩)
  all_goals omega
theorem bad_le {l : List Nat} {k : Nat} (h : bad l = some k) : k ≤ 3 ∧ k ≤ l.length := badN_le h
theorem badN_none {n a b c d : Nat} (h : badN n a b c d = none) : 1 ≤ wide a ∧ wide a ≤ n := by
  have := wide_le a
  unfold badN at h
  repeat' split at h
  all_goals first | (cases h; done) | (refine ⟨by omega, by omega⟩)
theorem bad_none {l : List Nat} (h : bad l = none) : 1 ≤ wd l ∧ wd l ≤ l.length := badN_none h
/-- what it means that there is a rune, class by class -/
theorem good_cases {n a b c d : Nat} (h : badN n a b c d = none) :
    (wide a = 1 ∧ a < 128 ∧ 0 < n) ∨
    (wide a = 2 ∧ (194 ≤ a ∧ a < 224) ∧ 1 < n ∧ 128 ≤ b ∧ b ≤ 191) ∨
    (wide a = 3 ∧ 2 < n ∧ 128 ≤ b ∧ b ≤ 191 ∧ 128 ≤ c ∧ c ≤ 191 ∧ 224 ≤ a ∧ a < 240 ∧ (a = 224 → 160 ≤ b) ∧ (a = 237 → b ≤ 159)) ∨
    (wide a = 4 ∧ 3 < n ∧ 128 ≤ b ∧ b ≤ 191 ∧ 128 ≤ c ∧ c ≤ 191 ∧ 128 ≤ d ∧ d ≤ 191 ∧ 240 ≤ a ∧ a ≤ 244 ∧ (a = 240 → 144 ≤ b) ∧ (a = 244 → b ≤ 143)) := by
  unfold badN at h
  simp only [lo2, lo3, hi2, hi3] at h
  rcases cls a with ⟨g, e⟩ | ⟨g, e⟩ | ⟨g, e, e1, e2⟩ | ⟨l, u, e, e1, e2, g⟩ | ⟨l, u, e, e1, e2, g⟩
  · exact .inl ⟨e, g, by by_cases hn : n = 0 <;> simp [hn] at h; omega⟩
  · rw [e] at h; simp at h
  · rw [e, e1, e2] at h
    simp only [show ¬ ((2 : Nat) = 0) by omega, or_false, show ¬ ((2 : Nat) = 1) by omega, if_false, if_true] at h
    repeat' split at h
    all_goals (simp only [reduceCtorEq] at h)
    exact .inr (.inl ⟨e, g, by omega, by omega, by omega⟩)
  · rw [e, e1, e2] at h
    simp only [show ¬ ((3 : Nat) = 0) by omega, or_false, show ¬ ((3 : Nat) = 1) by omega, show ¬ ((3 : Nat) = 2) by omega, if_false, if_true] at h
    repeat' split at h
    all_goals (simp only [reduceCtorEq] at h)
    exact .inr (.inr (.inl ⟨e, by omega, by omega, by omega, by omega, by omega, by omega, by omega, by omega, by omega⟩))
  · rw [e, e1, e2] at h
    simp only [show ¬ ((4 : Nat) = 0) by omega, or_false, show ¬ ((4 : Nat) = 1) by omega, show ¬ ((4 : Nat) = 2) by omega, show ¬ ((4 : Nat) = 3) by omega, if_false] at h
    repeat' split at h
    all_goals (simp only [reduceCtorEq] at h)
    exact .inr (.inr (.inr ⟨e, by omega, by omega, by omega, by omega, by omega, by omega, by omega, by omega, by omega, by omega, by omega⟩))
/-- and what it means that there is none -/
theorem bad_cases {n a b c d k : Nat} (h : badN n a b c d = some k) (hn : 0 < n) :
    (k = 0 ∧ wide a = 0 ∧ (128 ≤ a ∧ a < 194 ∨ 244 < a)) ∨
    (k = 1 ∧ wide a = 2 ∧ (194 ≤ a ∧ a < 224) ∧ ¬ (1 < n ∧ 128 ≤ b ∧ b ≤ 191)) ∨
    (wide a = 3 ∧ 224 ≤ a ∧ a < 240 ∧ ((k = 1 ∧ ¬ (1 < n ∧ 128 ≤ b ∧ b ≤ 191 ∧ (a = 224 → 160 ≤ b) ∧ (a = 237 → b ≤ 159))) ∨
      (k = 2 ∧ 1 < n ∧ 128 ≤ b ∧ b ≤ 191 ∧ (a = 224 → 160 ≤ b) ∧ (a = 237 → b ≤ 159) ∧ ¬ (2 < n ∧ 128 ≤ c ∧ c ≤ 191)))) ∨
    (wide a = 4 ∧ 240 ≤ a ∧ a ≤ 244 ∧ ((k = 1 ∧ ¬ (1 < n ∧ 128 ≤ b ∧ b ≤ 191 ∧ (a = 240 → 144 ≤ b) ∧ (a = 244 → b ≤ 143))) ∨
      (k = 2 ∧ 1 < n ∧ 128 ≤ b ∧ b ≤ 191 ∧ (a = 240 → 144 ≤ b) ∧ (a = 244 → b ≤ 143) ∧ ¬ (2 < n ∧ 128 ≤ c ∧ c ≤ 191)) ∨
      (k = 3 ∧ 2 < n ∧ 128 ≤ b ∧ b ≤ 191 ∧ (a = 240 → 144 ≤ b) ∧ (a = 244 → b ≤ 143) ∧ 128 ≤ c ∧ c ≤ 191 ∧ ¬ (3 < n ∧ 128 ≤ d ∧ d ≤ 191)))) := by
  unfold badN at h
  simp only [lo2, lo3, hi2, hi3] at h
  rcases cls a with ⟨g, e⟩ | ⟨g, e⟩ | ⟨g, e, e1, e2⟩ | ⟨l, u, e, e1, e2, g⟩ | ⟨l, u, e, e1, e2, g⟩
  · rw [e] at h
    simp [Nat.ne_of_gt hn] at h
  · rw [e] at h
    simp only [or_true, if_true, Option.some.injEq] at h
    exact .inl ⟨h.symm, e, g⟩
  · rw [e, e1, e2] at h
    simp only [show ¬ (n = 0 ∨ (2 : Nat) = 0) by omega, show ¬ ((2 : Nat) = 1) by omega, if_false, if_true] at h
    repeat' split at h
    all_goals (simp only [reduceCtorEq, Option.some.injEq] at h)
    exact .inr (.inl ⟨by omega, e, g, by omega⟩)
  · rw [e, e1, e2] at h
    simp only [show ¬ (n = 0 ∨ (3 : Nat) = 0) by omega, if_false, show ¬ ((3 : Nat) = 1) by omega, show ¬ ((3 : Nat) = 2) by omega, if_true] at h
    repeat' split at h
    all_goals (simp only [reduceCtorEq, Option.some.injEq] at h)
    · exact .inr (.inr (.inl ⟨e, by omega, by omega, .inl ⟨by omega, by omega⟩⟩))
    · exact .inr (.inr (.inl ⟨e, by omega, by omega, .inr ⟨by omega, by omega, by omega, by omega, by omega, by omega, by omega⟩⟩))
  · rw [e, e1, e2] at h
    simp only [show ¬ (n = 0 ∨ (4 : Nat) = 0) by omega, if_false, show ¬ ((4 : Nat) = 1) by omega, show ¬ ((4 : Nat) = 2) by omega, show ¬ ((4 : Nat) = 3) by omega] at h
    repeat' split at h
    all_goals (simp only [reduceCtorEq, Option.some.injEq] at h)
    · exact .inr (.inr (.inr ⟨e, by omega, by omega, .inl ⟨by omega, by omega⟩⟩))
    · exact .inr (.inr (.inr ⟨e, by omega, by omega, .inr (.inl ⟨by omega, by omega, by omega, by omega, by omega, by omega, by omega⟩)⟩))
    · exact .inr (.inr (.inr ⟨e, by omega, by omega, .inr (.inr ⟨by omega, by omega, by omega, by omega, by omega, by omega, by omega, by omega, by omega⟩)⟩))
/-- the rune's own width is what its first byte says; and it is a rune -/
theorem runeN_width {n a b c d : Nat} (h : badN n a b c d = none) :
    widthR (runeN a b c d) = wide a ∧ runeN a b c d ≤ 1114111 ∧ (runeN a b c d < 55296 ∨ 57343 < runeN a b c d) := by
  unfold runeN
  rcases good_cases h with ⟨e, g⟩ | ⟨e, g⟩ | ⟨e, g⟩ | ⟨e, g⟩
  all_goals
    rw [e]
    simp only [if_true, if_false, show ¬ ((2 : Nat) = 1) by omega, show ¬ ((3 : Nat) = 1) by omega, show ¬ ((4 : Nat) = 1) by omega, show ¬ ((3 : Nat) = 2) by omega, show ¬ ((4 : Nat) = 2) by omega, show ¬ ((4 : Nat) = 3) by omega]
  all_goals
    refine ⟨?_, by omega, by omega⟩
    unfold widthR
    repeat' split
  all_goals omega
theorem rune_width {l : List Nat} (h : bad l = none) : widthR (rune l) = wd l ∧ rune l ≤ 1114111 ∧ (rune l < 55296 ∨ 57343 < rune l) :=
  runeN_width h
/-- the model's decoding, where there is a rune -/
theorem decodeN_good {n a b c d : Nat} (h : badN n a b c d = none) : Lib.decodeN n a b c d = (runeN a b c d, wide a) := by
  unfold runeN Lib.decodeN
  rcases good_cases h with ⟨e, g⟩ | ⟨e, g⟩ | ⟨e, g⟩ | ⟨e, g⟩
  all_goals
    rw [e]
    simp only [if_true, if_false, show ¬ ((2 : Nat) = 1) by omega, show ¬ ((3 : Nat) = 1) by omega, show ¬ ((4 : Nat) = 1) by omega, show ¬ ((3 : Nat) = 2) by omega, show ¬ ((4 : Nat) = 2) by omega, show ¬ ((4 : Nat) = 3) by omega]
  all_goals
    repeat' split
  all_goals first | (exfalso; omega) | rfl
/-- and where there is none -/
theorem decodeN_bad {n a b c d k : Nat} (ha : a < 256) (hn : 0 < n) (h : badN n a b c d = some k) :
    Lib.decodeN n a b c d = (65533, 1) ∧ ¬ (2 < n ∧ a = 239 ∧ b = 191 ∧ c = 189) := by
  refine ⟨?_, by rcases bad_cases h hn with g | g | g | g <;> omega⟩
  unfold Lib.decodeN
  rcases bad_cases h hn with g | g | g | g
  all_goals
    repeat' split
  all_goals first | (exfalso; omega) | rfl
/-- FFFD among the runes is the text's own -/
theorem runeN_FFFD {n a b c d : Nat} (h : badN n a b c d = none) (e : runeN a b c d = 65533) : 2 < n ∧ a = 239 ∧ b = 191 ∧ c = 189 := by
  unfold runeN at e
  rcases good_cases h with ⟨f, g⟩ | ⟨f, g⟩ | ⟨f, g⟩ | ⟨f, g⟩
  all_goals
    rw [f] at e
    simp only [if_true, if_false, show ¬ ((2 : Nat) = 1) by omega, show ¬ ((3 : Nat) = 1) by omega, show ¬ ((4 : Nat) = 1) by omega, show ¬ ((3 : Nat) = 2) by omega, show ¬ ((4 : Nat) = 2) by omega, show ¬ ((4 : Nat) = 3) by omega] at e
  all_goals omega
end Go.Proofs.YtmlhibcbgdhadaaDoor
