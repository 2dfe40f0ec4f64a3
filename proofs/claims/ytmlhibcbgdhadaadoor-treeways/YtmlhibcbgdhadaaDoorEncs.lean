/- What was written is read back: a rune's bytes, a character, a text. No program in it. -/
import Derived.Test.YtmlhibcbgdhadaaDoorParts
namespace Go.Proofs.YtmlhibcbgdhadaaDoor
open Go

theorem bad_of {n a b c d : Nat} (hn : 0 < n) (h : (wide a = 1) ∨ (wide a = 2 ∧ 1 < n ∧ 128 ≤ b ∧ b ≤ 191) ∨ (wide a = 3 ∧ 2 < n ∧ 128 ≤ b ∧ b ≤ 191 ∧ 128 ≤ c ∧ c ≤ 191 ∧ (a = 224 → 160 ≤ b) ∧ (a = 237 → b ≤ 159)) ∨ (wide a = 4 ∧ 3 < n ∧ 128 ≤ b ∧ b ≤ 191 ∧ 128 ≤ c ∧ c ≤ 191 ∧ 128 ≤ d ∧ d ≤ 191 ∧ (a = 240 → 144 ≤ b) ∧ (a = 244 → b ≤ 143))) : badN n a b c d = none := by
  rcases hb : badN n a b c d with _ | k
  · rfl
  · exfalso
    rcases bad_cases hb hn with g | g | g | g <;> omega
theorem wide_1 {a : Nat} (h : a < 128) : wide a = 1 := by unfold wide; rw [if_pos h]
theorem wide_2 {a : Nat} (h : 194 ≤ a ∧ a < 224) : wide a = 2 := by
  unfold wide; repeat' split
  all_goals omega
theorem wide_3 {a : Nat} (h : 224 ≤ a ∧ a < 240) : wide a = 3 := by
  unfold wide; repeat' split
  all_goals omega
theorem wide_4 {a : Nat} (h : 240 ≤ a ∧ a ≤ 244) : wide a = 4 := by
  unfold wide; repeat' split
  all_goals omega
/-- a rune's own bytes, whatever follows -/
theorem bad_enc {r : Nat} (h : isRune r = true) (m : List Nat) : bad (enc r ++ m) = none ∧ rune (enc r ++ m) = r ∧ wd (enc r ++ m) = (enc r).length := by
  unfold isRune at h
  have h := of_decide_eq_true h
  unfold enc
  split
  · have hw := wide_1 (a := r) (by omega)
    refine ⟨bad_of (by simp) (.inl hw), ?_, hw⟩
    show runeN r _ _ _ = r
    unfold runeN; rw [if_pos hw]
  · split
    · have hw := wide_2 (a := 192 + r / 64) (by omega)
      refine ⟨bad_of (by simp) (.inr (.inl ⟨hw, by simp, by simp, by simp; omega⟩)), ?_, hw⟩
      show runeN (192 + r / 64) (128 + r % 64) _ _ = r
      unfold runeN; rw [hw, if_neg (by decide), if_pos rfl]; omega
    · split
      · have hw := wide_3 (a := 224 + r / 4096) (by omega)
        refine ⟨bad_of (by simp) (.inr (.inr (.inl ⟨hw, by simp, by simp, by simp; omega, by simp, by simp; omega, by simp; omega, by simp; omega⟩))), ?_, hw⟩
        show runeN (224 + r / 4096) (128 + r / 64 % 64) (128 + r % 64) _ = r
        unfold runeN; rw [hw, if_neg (by decide), if_neg (by decide), if_pos rfl]; omega
      · have hw := wide_4 (a := 240 + r / 262144) (by omega)
        refine ⟨bad_of (by simp) (.inr (.inr (.inr ⟨hw, by simp, by simp, by simp; omega, by simp, by simp; omega, by simp, by simp; omega, by simp; omega, by simp; omega⟩))), ?_, hw⟩
        show runeN (240 + r / 262144) (128 + r / 4096 % 64) (128 + r / 64 % 64) (128 + r % 64) = r
        unfold runeN; rw [hw, if_neg (by decide), if_neg (by decide), if_neg (by decide)]; omega
theorem enc_head {r : Nat} (h : isRune r = true) : ∃ b l, enc r = b :: l ∧ (b < 128 → b = r) := by
  unfold isRune at h
  have h := of_decide_eq_true h
  unfold enc
  split
  · exact ⟨_, _, rfl, fun _ => rfl⟩
  · split
    · exact ⟨_, _, rfl, fun _ => by omega⟩
    · split
      · exact ⟨_, _, rfl, fun _ => by omega⟩
      · exact ⟨_, _, rfl, fun _ => by omega⟩
/-- a rune's bytes are those that it was read from -/
theorem enc_rune {l : List Nat} (h : bad l = none) : enc (rune l) = l.take (wd l) ∧ isRune (rune l) = true := by
  have hr := rune_width h
  refine ⟨?_, by unfold isRune; rw [decide_eq_true_eq]; omega⟩
  have g := good_cases h
  have hw : wd l = wide (l.getD 0 0) := rfl
  have hrn : rune l = runeN (l.getD 0 0) (l.getD 1 0) (l.getD 2 0) (l.getD 3 0) := rfl
  rw [hw, hrn]
  rcases g with g | g | g | g
  · obtain ⟨a, t, rfl⟩ : ∃ a t, l = a :: t := by
      rcases l with _ | ⟨a, t⟩
      · simp at g
      · exact ⟨a, t, rfl⟩
    simp at g ⊢
    have hv : ∀ b c d, runeN a b c d = a := fun b c d => by unfold runeN; rw [g.1]; rfl
    rw [hv, g.1]
    unfold enc
    rw [if_pos g.2]
    rfl
  · obtain ⟨a, b, t, rfl⟩ : ∃ a b t, l = a :: b :: t := by
      rcases l with _ | ⟨a, _ | ⟨b, t⟩⟩
      · simp at g
      · simp at g
      · exact ⟨a, b, t, rfl⟩
    simp at g ⊢
    have hv : ∀ c d, runeN a b c d = a % 32 * 64 + b % 64 := fun c d => by unfold runeN; rw [g.1]; rfl
    rw [hv, g.1]
    unfold enc
    rw [if_neg (by omega), if_pos (by omega)]
    show [_, _] = [a, b]
    congr 1
    · omega
    · congr 1; omega
  · obtain ⟨a, b, c, t, rfl⟩ : ∃ a b c t, l = a :: b :: c :: t := by
      rcases l with _ | ⟨a, _ | ⟨b, _ | ⟨c, t⟩⟩⟩
      · simp at g
      · simp at g
      · simp at g
      · exact ⟨a, b, c, t, rfl⟩
    simp at g ⊢
    have hv : ∀ d, runeN a b c d = a % 16 * 4096 + b % 64 * 64 + c % 64 := fun d => by unfold runeN; rw [g.1]; rfl
    rw [hv, g.1]
    unfold enc
    rw [if_neg (by omega), if_neg (by omega), if_pos (by omega)]
    show [_, _, _] = [a, b, c]
    congr 1
    · omega
    · congr 1
      · omega
      · congr 1; omega
  · obtain ⟨a, b, c, d, t, rfl⟩ : ∃ a b c d t, l = a :: b :: c :: d :: t := by
      rcases l with _ | ⟨a, _ | ⟨b, _ | ⟨c, _ | ⟨d, t⟩⟩⟩⟩
      · simp at g
      · simp at g
      · simp at g
      · simp at g
      · exact ⟨a, b, c, d, t, rfl⟩
    simp at g ⊢
    have hv : runeN a b c d = a % 8 * 262144 + b % 64 * 4096 + c % 64 * 64 + d % 64 := by unfold runeN; rw [g.1]; rfl
    rw [hv, g.1]
    unfold enc
    rw [if_neg (by omega), if_neg (by omega), if_neg (by omega)]
    show [_, _, _, _] = [a, b, c, d]
    congr 1
    · omega
    · congr 1
      · omega
      · congr 1
        · omega
        · congr 1; omega
/-- a right text's runes are its bytes -/
theorem rl_encs : ∀ (k i : Nat) (l : List Nat), (rl k i l).flatMap (fun x => enc x.2) = l.take (pos k l) ∧ ∀ x ∈ rl k i l, isRune x.2 = true
  | 0, _, _ => ⟨by simp [rl, pos], fun x hx => by cases hx⟩
  | k + 1, i, l => by
    by_cases hb : bad l = none
    · rw [rl_good hb, pos_good hb]
      obtain ⟨h1, h2⟩ := rl_encs k (i + wd l) (l.drop (wd l))
      obtain ⟨h3, h4⟩ := enc_rune hb
      refine ⟨?_, fun x hx => ?_⟩
      · rw [List.flatMap_cons, h1]
        simp only
        rw [h3, List.take_add]
      · rcases List.mem_cons.1 hx with rfl | hx
        · exact h4
        · exact h2 x hx
    · rw [rl_none hb, pos_none hb]
      exact ⟨by simp, fun x hx => by cases hx⟩
theorem rs_encs {l : List Nat} (h : chk l = none) : ((rs l).map (·.2)).flatMap enc = l ∧ ∀ x ∈ (rs l).map (·.2), isRune x = true := by
  obtain ⟨h1, h2⟩ := rl_encs l.length 0 l
  have he := chk_none.1 h
  refine ⟨?_, fun x hx => ?_⟩
  · rw [List.flatMap_map]
    show (rl l.length 0 l).flatMap (fun x => enc x.2) = l
    rw [h1, show pos l.length l = l.length from he, List.take_length]
  · obtain ⟨y, hy, rfl⟩ := List.mem_map.1 hx
    exact h2 y hy
/-- a character that stands as its bytes -/
theorem chr_enc {r : Nat} (h : isRune r = true) (h38 : r ≠ 38) (m : List Nat) : chrP (enc r ++ m) = .ok (r, (enc r).length) := by
  obtain ⟨b, l, he, hb⟩ := enc_head h
  obtain ⟨h1, h2, h3⟩ := bad_enc h m
  have hh : (enc r ++ m).head? = some b := by rw [he]; rfl
  unfold chrP look
  dsimp only
  rw [hh, if_neg (fun e => h38 (by have e := Option.some.inj e; rw [← hb (by omega)]; exact e))]
  unfold plainP
  rw [h1]
  simp only
  rw [h2, h3]
theorem chr_ent {e : Nat × List Nat} (h : e ∈ ents) (m : List Nat) : chrP (38 :: e.2 ++ m) = .ok (e.1, 1 + e.2.length) := by
  simp only [ents, List.mem_cons, List.not_mem_nil, or_false] at h
  rcases h with rfl | rfl | rfl | rfl | rfl | rfl <;> rfl
end Go.Proofs.YtmlhibcbgdhadaaDoor
