/- What was written is read back: a rune's bytes, a character, a text. No program in it. -/
import Derived.Test.YtmlhibcbgdhadaaDoorPzAll
namespace Go.Proofs.YtmlhibcbgdhadaaDoor
open Go

theorem bad_of {n a b c d : Nat} (hn : 0 < n) (h : (wide a = 1) ∨ (wide a = 2 ∧ 1 < n ∧ 128 ≤ b ∧ b ≤ 191) ∨ (wide a = 3 ∧ 2 < n ∧ 128 ≤ b ∧ b ≤ 191 ∧ 128 ≤ c ∧ c ≤ 191 ∧ (a = 224 → 160 ≤ b) ∧ (a = 237 → b ≤ 159)) ∨ (wide a = 4 ∧ 3 < n ∧ 128 ≤ b ∧ b ≤ 191 ∧ 128 ≤ c ∧ c ≤ 191 ∧ 128 ≤ d ∧ d ≤ 191 ∧ (a = 240 → 144 ≤ b) ∧ (a = 244 → b ≤ 143))) : badN n a b c d = none := by
  rcases hb : badN n a b c d with _ | k
  · rfl
  · exfalso
    rcases bad_cases hb hn with g | g | g | g <;> omega
theorem wide_1 {a : Nat} (h : a < 128) : wide a = 1 := by unfold wide; rw [if_pos h]
theorem wide_2 {a : Nat} (h : 194 ≤ a ∧ a < 224) : wide a = 2 := by
  unfold wide; repeat' split
  all_goals omega
theorem wide_3 {a : Nat} (h : 224 ≤ a ∧ a < 240) : wide a = 3 := by
  unfold wide; repeat' split
  all_goals omega
theorem wide_4 {a : Nat} (h : 240 ≤ a ∧ a ≤ 244) : wide a = 4 := by
  unfold wide; repeat' split
  all_goals omega
/-- a rune's own bytes, whatever follows -/
theorem bad_enc {r : Nat} (h : isRune r = true) (m : List Nat) : bad (enc r ++ m) = none ∧ rune (enc r ++ m) = r ∧ wd (enc r ++ m) = (enc r).length := by
  unfold isRune at h
  have h := of_decide_eq_true h
  unfold enc
  split
  · have hw := wide_1 (a := r) (by omega)
    refine ⟨bad_of (by simp) (.inl hw), ?_, hw⟩
    show runeN r _ _ _ = r
    unfold runeN; rw [if_pos hw]
  · split
    · have hw := wide_2 (a := 192 + r / 64) (by omega)
      refine ⟨bad_of (by simp) (.inr (.inl ⟨hw, by simp, by simp, by simp; omega⟩)), ?_, hw⟩
      show runeN (192 + r / 64) (128 + r % 64) _ _ = r
      unfold runeN; rw [hw, if_neg (by decide), if_pos rfl]; omega
    · split
      · have hw := wide_3 (a := 224 + r / 4096) (by omega)
        refine ⟨bad_of (by simp) (.inr (.inr (.inl ⟨hw, by simp, by simp, by simp; omega, by simp, by simp; omega, by simp; omega, by simp; omega⟩))), ?_, hw⟩
        show runeN (224 + r / 4096) (128 + r / 64 % 64) (128 + r % 64) _ = r
        unfold runeN; rw [hw, if_neg (by decide), if_neg (by decide), if_pos rfl]; omega
      · have hw := wide_4 (a := 240 + r / 262144) (by omega)
        refine ⟨bad_of (by simp) (.inr (.inr (.inr ⟨hw, by simp, by simp, by simp; omega, by simp, by simp; omega, by simp, by simp; omega, by simp; omega, by simp; omega⟩))), ?_, hw⟩
        show runeN (240 + r / 262144) (128 + r / 4096 % 64) (128 + r / 64 % 64) (128 + r % 64) = r
        unfold runeN; rw [hw, if_neg (by decide), if_neg (by decide), if_neg (by decide)]; omega
theorem enc_head {r : Nat} (h : isRune r = true) : ∃ b l, enc r = b :: l ∧ (b < 128 → b = r) := by
  unfold isRune at h
  have h := of_decide_eq_true h
  unfold enc
  split
  · exact ⟨_, _, rfl, fun _ => rfl⟩
  · split
    · exact ⟨_, _, rfl, fun _ => by omega⟩
    · split
      · exact ⟨_, _, rfl, fun _ => by omega⟩
      · exact ⟨_, _, rfl, fun _ => by omega⟩
/-- a rune's bytes are those that it was read from -/
theorem enc_rune {l : List Nat} (h : bad l = none) : enc (rune l) = l.take (wd l) ∧ isRune (rune l) = true := by
  have hr := rune_width h
  refine ⟨?_, by unfold isRune; rw [decide_eq_true_eq]; omega⟩
  have g := good_cases h
  have hw : wd l = wide (l.getD 0 0) := rfl
  have hrn : rune l = runeN (l.getD 0 0) (l.getD 1 0) (l.getD 2 0) (l.getD 3 0) := rfl
  rw [hw, hrn]
  rcases g with g | g | g | g
  · obtain ⟨a, t, rfl⟩ : ∃ a t, l = a :: t := by
      rcases l with _ | ⟨a, t⟩
      · simp at g
      · exact ⟨a, t, rfl⟩
    simp at g ⊢
    have hv : ∀ b c d, runeN a b c d = a := fun b c d => by unfold runeN; rw [g.1]; rfl
    rw [hv, g.1]
    unfold enc
    rw [if_pos g.2]
    rfl
  · obtain ⟨a, b, t, rfl⟩ : ∃ a b t, l = a :: b :: t := by
      rcases l with _ | ⟨a, _ | ⟨b, t⟩⟩
      · simp at g
      · simp at g
      · exact ⟨a, b, t, rfl⟩
    simp at g ⊢
    have hv : ∀ c d, runeN a b c d = a % 32 * 64 + b % 64 := fun c d => by unfold runeN; rw [g.1]; rfl
    rw [hv, g.1]
    unfold enc
    rw [if_neg (by omega), if_pos (by omega)]
    show [_, _] = [a, b]
    congr 1
    · omega
    · congr 1; omega
  · obtain ⟨a, b, c, t, rfl⟩ : ∃ a b c t, l = a :: b :: c :: t := by
      rcases l with _ | ⟨a, _ | ⟨b, _ | ⟨c, t⟩⟩⟩
      · simp at g
      · simp at g
      · simp at g
      · exact ⟨a, b, c, t, rfl⟩
    simp at g ⊢
    have hv : ∀ d, runeN a b c d = a % 16 * 4096 + b % 64 * 64 + c % 64 := fun d => by unfold runeN; rw [g.1]; rfl
    rw [hv, g.1]
    unfold enc
    rw [if_neg (by omega), if_neg (by omega), if_pos (by omega)]
    show [_, _, _] = [a, b, c]
    congr 1
    · omega
    · congr 1
      · omega
      · congr 1; omega
  · obtain ⟨a, b, c, d, t, rfl⟩ : ∃ a b c d t, l = a :: b :: c :: d :: t := by
      rcases l with _ | ⟨a, _ | ⟨b, _ | ⟨c, _ | ⟨d, t⟩⟩⟩⟩
      · simp at g
      · simp at g
      · simp at g
      · simp at g
      · exact ⟨a, b, c, d, t, rfl⟩
    simp at g ⊢
    have hv : runeN a b c d = a % 8 * 262144 + b % 64 * 4096 + c % 64 * 64 + d % 64 := by unfold runeN; rw [g.1]; rfl
    rw [hv, g.1]
    unfold enc
    rw [if_neg (by omega), if_neg (by omega), if_neg (by omega)]
    show [_, _, _, _] = [a, b, c, d]
    congr 1
    · omega
    · congr 1
      · omega
      · congr 1
        · omega
        · congr 1; omega
/-- a right text's runes are its bytes -/
theorem rl_encs : ∀ (k i : Nat) (l : List Nat), (rl k i l).flatMap (fun x => enc x.2) = l.take (pos k l) ∧ ∀ x ∈ rl k i l, isRune x.2 = true
  | 0, _, _ => ⟨by simp [rl, pos], fun x hx => by cases hx⟩
  | k + 1, i, l => by
    by_cases hb : bad l = none
    · rw [rl_good hb, pos_good hb]
      obtain ⟨h1, h2⟩ := rl_encs k (i + wd l) (l.drop (wd l))
      obtain ⟨h3, h4⟩ := enc_rune hb
      refine ⟨?_, fun x hx => ?_⟩
      · rw [List.flatMap_cons, h1]
        simp only
        rw [h3, List.take_add]
      · rcases List.mem_cons.1 hx with rfl | hx
        · exact h4
        · exact h2 x hx
    · rw [rl_none hb, pos_none hb]
      exact ⟨by simp, fun x hx => by cases hx⟩
theorem rs_encs {l : List Nat} (h : chk l = none) : ((rs l).map (·.2)).flatMap enc = l ∧ ∀ x ∈ (rs l).map (·.2), isRune x = true := by
  obtain ⟨h1, h2⟩ := rl_encs l.length 0 l
  have he := chk_none.1 h
  refine ⟨?_, fun x hx => ?_⟩
  · rw [List.flatMap_map]
    show (rl l.length 0 l).flatMap (fun x => enc x.2) = l
    rw [h1, show pos l.length l = l.length from he, List.take_length]
  · obtain ⟨y, hy, rfl⟩ := List.mem_map.1 hx
    exact h2 y hy
/-- a character that stands as its bytes -/
theorem chr_enc {r : Nat} (h : isRune r = true) (h38 : r ≠ 38) (m : List Nat) : chrP (enc r ++ m) = .ok (r, (enc r).length) := by
  obtain ⟨b, l, he, hb⟩ := enc_head h
  obtain ⟨h1, h2, h3⟩ := bad_enc h m
  have hh : (enc r ++ m).head? = some b := by rw [he]; rfl
  unfold chrP look
  dsimp only
  rw [hh, if_neg (fun e => h38 (by have e := Option.some.inj e; rw [← hb (by omega)]; exact e))]
  unfold plainP
  rw [h1]
  simp only
  rw [h2, h3]
theorem chr_ent {e : Nat × List Nat} (h : e ∈ ents) (m : List Nat) : chrP (38 :: e.2 ++ m) = .ok (e.1, 1 + e.2.length) := by
  simp only [ents, List.mem_cons, List.not_mem_nil, or_false] at h
  rcases h with rfl | rfl | rfl | rfl | rfl | rfl <;> rfl
end Go.Proofs.YtmlhibcbgdhadaaDoor
namespace Go.Proofs.YtmlhibcbgdhadaaDoor
open Go

def Kd {α : Type} (p : Pz α) : Prop := ∀ l k n, p l = .error (k, n) → k ≠ 0
theorem kd_done {α : Type} (a : α) : Kd (done a) := fun _ _ _ h => by cases h
theorem kd_fails {α : Type} {k : Nat} (h : k ≠ 0) : Kd (fails (α := α) k) := fun _ _ _ e => by cases e; exact h
theorem kd_look {α : Type} {f : Option Nat → Pz α} (h : ∀ b, Kd (f b)) : Kd (look f) := fun l k n e => h _ l k n e
theorem kd_byte {q : Nat → Bool} {k : Nat} (h : k ≠ 0) : Kd (byteP q k) := fun l k' n e => by
  unfold byteP at e
  rcases l with _ | ⟨b, l⟩
  · cases e; exact h
  · simp only at e
    split at e
    · cases e
    · cases e; exact h
theorem kd_then {α β : Type} {p : Pz α} {f : α → Nat → Pz β} (hp : Kd p) (hf : ∀ a n, Kd (f a n)) : Kd (andThen p f) := fun l k n e => by
  rcases hr : p l with ⟨e'⟩ | ⟨a, j⟩
  · rw [then_bad hr] at e
    cases e
    exact hp l k n hr
  · rw [then_ok hr] at e
    rcases hf2 : f a j (l.drop j) with ⟨k2, n2⟩ | ⟨y, i⟩
    · rw [hf2] at e
      cases e
      exact hf a j _ _ _ hf2
    · rw [hf2] at e; cases e
theorem kd_text {α : Type} {p : Pz α} (h : Kd p) : Kd (textP p) := fun l k n e => by
  unfold textP at e
  rcases hr : p l with ⟨e'⟩ | ⟨a, j⟩
  · rw [hr] at e; cases e; exact h l k n hr
  · rw [hr] at e; cases e
theorem kd_skip : Kd skip := kd_byte (by decide)
theorem kd_word {k : Nat} (h : k ≠ 0) : ∀ ws, Kd (word k ws)
  | [] => kd_done _
  | _ :: cs => kd_then (kd_byte h) fun _ _ => kd_word h cs
theorem kd_namK : ∀ r, Kd (namK r)
  | 0 => kd_look fun b => by split; exact kd_fails (by decide); exact kd_done _
  | r + 1 => kd_look fun b => by split; exact kd_then kd_skip fun _ _ => kd_namK r; exact kd_done _
theorem kd_name : Kd name := kd_look fun b => by split; exact kd_text (kd_namK _); exact kd_fails (by decide)
theorem kd_numK : ∀ r n, Kd (numK r n)
  | 0, n => kd_look fun b => by split; exact kd_then kd_skip fun _ _ => kd_done _; exact kd_fails (by decide)
  | r + 1, n => kd_look fun b => by
    split
    · exact kd_then kd_skip fun _ _ => kd_done _
    · split
      · exact kd_fails (by decide)
      · split
        · exact kd_fails (by decide)
        · exact kd_then kd_skip fun _ _ => kd_numK r _
theorem kd_entP : Kd entP := kd_then kd_skip fun _ _ => kd_look fun b => by
  split
  · exact kd_then (kd_word (by decide) _) fun _ _ => kd_done _
  · exact kd_then (kd_word (by decide) _) fun _ _ => kd_numK _ _
theorem kd_plain : Kd plainP := fun l k n e => by
  unfold plainP at e
  split at e
  · cases e
  · cases e; decide
theorem kd_chr : Kd chrP := kd_look fun b => by split; exact kd_entP; exact kd_plain
theorem kd_val : ∀ r, Kd (valK r)
  | 0 => kd_look fun b => by
    split
    · exact kd_done _
    · split <;> exact kd_fails (by decide)
  | r + 1 => kd_look fun b => by
    split
    · exact kd_done _
    · split
      · exact kd_fails (by decide)
      · exact kd_then kd_chr fun _ _ => kd_then (kd_val r) fun _ _ => kd_done _
theorem kd_chs : ∀ f p, Kd (chsK f p)
  | 0, _ => kd_fails (by decide)
  | f + 1, p => kd_look fun b => by
    split
    · exact kd_done _
    · exact kd_then kd_chr fun _ _ => kd_then (kd_chs f _) fun _ _ => kd_done _
theorem kd_txt (p : Nat) : Kd (txtP p) := fun l k n e => (kd_then (kd_chs (l.length + 1) p) fun _ _ => kd_done _) l k n e
theorem kd_tag (p : Nat) : Kd (tagP p) := kd_then (kd_word (by decide) _) fun _ _ => kd_look fun b => by
  split
  · exact kd_then (kd_word (by decide) _) fun _ _ => kd_then kd_name fun _ _ => kd_then (kd_word (by decide) _) fun _ _ => kd_done _
  · exact kd_then kd_name fun _ _ => kd_done _
theorem kd_att (p : Nat) : Kd (attP p) := kd_then kd_name fun _ _ => kd_then (kd_word (by decide) _) fun _ _ => kd_then (kd_val _) fun _ _ => kd_then (kd_word (by decide) _) fun _ _ => kd_done _
theorem kd_end (p : Nat) : Kd (endP p) := kd_look fun b => by
  split
  · exact kd_then (kd_word (by decide) _) fun _ _ => kd_done _
  · exact kd_then (kd_word (by decide) _) fun _ _ => kd_done _
theorem part_kd {m p b : Nat} {P : Pz Tk} (h : part m p b = some P) : Kd P := by
  unfold part at h
  split at h
  · cases h; split
    · exact kd_tag p
    · exact kd_txt p
  · split at h
    · cases h
    · split at h
      · cases h; exact kd_end p
      · split at h
        · cases h; exact kd_att p
        · cases h; exact kd_fails (by decide)
theorem G_kd : ∀ (f m p : Nat) (l : List Nat) (k n : Nat), (G f m p l).2 = some (k, n) → k ≠ 0
  | 0, _, _, _, k, n, h => by
    have h : some (99, _) = some (k, n) := h
    cases h; decide
  | f + 1, m, p, [], k, n, h => by
    rcases m with _ | m
    · cases h
    · have h : some (70, _) = some (k, n) := h
      cases h; decide
  | f + 1, m, p, b :: l, k, n, h => by
    rw [G_cons] at h
    rcases hP : part m p b with _ | P
    · rw [hP] at h; exact G_kd f 2 (p + 1) l k n h
    · rw [hP] at h
      simp only at h
      rcases hr : P (b :: l) with ⟨k1, n1⟩ | ⟨t, n1⟩
      · rw [hr, tokR_bad] at h
        cases h
        exact part_kd hP _ _ _ hr
      · rw [hr, tokR_ok] at h
        exact G_kd f _ _ _ k n h
/-! ### a text, a value -/
theorem name_a (m : List Nat) : name (97 :: 32 :: m) = .ok ([97], 1) := rfl
theorem name_b (m : List Nat) : name (98 :: 61 :: m) = .ok ([98], 1) := rfl
end Go.Proofs.YtmlhibcbgdhadaaDoor
namespace Go.Proofs.YtmlhibcbgdhadaaDoor
open Go

theorem enc_lt {r : Nat} (h : r ≤ 1114111) : ∀ b ∈ enc r, b < 256 := by
  intro b hb
  unfold enc at hb
  repeat' split at hb
  all_goals
    simp only [List.mem_cons, List.not_mem_nil, or_false] at hb
    omega
theorem enc_len (r : Nat) : 1 ≤ (enc r).length ∧ (enc r).length ≤ 4 := by
  unfold enc
  repeat' split
  all_goals simp

/-- a rune as its entity, if it has one with a name; else its bytes -/
def wrt (r : Nat) : List Nat := match ents.find? (fun e => e.1 == r) with
  | some e => 38 :: e.2
  | none => enc r
theorem wrt_none {r : Nat} (h : ∀ e ∈ ents, e.1 ≠ r) : wrt r = enc r := by
  unfold wrt
  rw [List.find?_eq_none.2 (fun e he => by simpa using h e he)]
theorem wrt_len (r : Nat) : 1 ≤ (wrt r).length ∧ (wrt r).length ≤ 6 := by
  by_cases h : ∀ e ∈ ents, e.1 ≠ r
  · rw [wrt_none h]; have := enc_len r; omega
  · simp only [ents, List.mem_cons, List.not_mem_nil, or_false, forall_eq_or_imp, forall_eq, ne_eq] at h
    have : r = 60 ∨ r = 62 ∨ r = 38 ∨ r = 34 ∨ r = 173 ∨ r = 160 := by omega
    rcases this with rfl | rfl | rfl | rfl | rfl | rfl <;> decide
/-- a rune in a text -/
def tx (r : Nat) : List Nat := if r = 34 then [34] else wrt r
def isR (r : Int) : Bool := decide (0 ≤ r) && isRune r.toNat
def textM (l : List (Int × Int × Int)) : Option (List Nat) := if l.all (fun x => isR x.1) then some (l.flatMap fun x => tx x.1.toNat) else none
theorem enc_all_lt {r : Nat} (h : isRune r = true) : ∀ b ∈ enc r, b < 256 := by
  unfold isRune at h; simp at h; exact enc_lt h.1
theorem wrt_lt {r : Nat} (h : isRune r = true) : ∀ b ∈ wrt r, b < 256 := by
  by_cases h2 : ∀ e ∈ ents, e.1 ≠ r
  · rw [wrt_none h2]; exact enc_all_lt h
  · simp only [ents, List.mem_cons, List.not_mem_nil, or_false, forall_eq_or_imp, forall_eq, ne_eq] at h2
    have : r = 60 ∨ r = 62 ∨ r = 38 ∨ r = 34 ∨ r = 173 ∨ r = 160 := by omega
    rcases this with rfl | rfl | rfl | rfl | rfl | rfl <;> decide
theorem tx_lt {r : Nat} (h : isRune r = true) : ∀ b ∈ tx r, b < 256 := by
  unfold tx
  split
  · decide
  · exact wrt_lt h
theorem tx_len (r : Nat) : 1 ≤ (tx r).length ∧ (tx r).length ≤ 6 := by
  unfold tx
  split
  · decide
  · exact wrt_len r
theorem txs_len : ∀ l : List (Int × Int × Int), (l.flatMap fun x => tx x.1.toNat).length ≤ 6 * l.length
  | [] => by simp
  | x :: l => by
    have := txs_len l
    have := (tx_len x.1.toNat).2
    rw [List.flatMap_cons, List.length_append, List.length_cons]
    omega

theorem wrt_cases (r : Nat) : ((∀ e ∈ ents, e.1 ≠ r) ∧ wrt r = enc r) ∨ ∃ e ∈ ents, r = e.1 ∧ wrt r = 38 :: e.2 := by
  by_cases h : ∀ e ∈ ents, e.1 ≠ r
  · exact .inl ⟨h, wrt_none h⟩
  · refine .inr ?_
    simp only [ents, List.mem_cons, List.not_mem_nil, or_false, forall_eq_or_imp, forall_eq, ne_eq] at h
    have : r = 60 ∨ r = 62 ∨ r = 38 ∨ r = 34 ∨ r = 173 ∨ r = 160 := by omega
    rcases this with rfl | rfl | rfl | rfl | rfl | rfl
    · exact ⟨(60, [108, 116, 59]), by decide, rfl, rfl⟩
    · exact ⟨(62, [103, 116, 59]), by decide, rfl, rfl⟩
    · exact ⟨(38, [97, 109, 112, 59]), by decide, rfl, rfl⟩
    · exact ⟨(34, [113, 117, 111, 116, 59]), by decide, rfl, rfl⟩
    · exact ⟨(173, [115, 104, 121, 59]), by decide, rfl, rfl⟩
    · exact ⟨(160, [110, 98, 115, 112, 59]), by decide, rfl, rfl⟩
theorem chr_wrt {r : Nat} (h : isRune r = true) (m : List Nat) : chrP (wrt r ++ m) = .ok (r, (wrt r).length) := by
  rcases wrt_cases r with ⟨h1, h2⟩ | ⟨e, he, rfl, h2⟩
  · rw [h2]
    exact chr_enc h (fun e => h1 (38, [97, 109, 112, 59]) (by decide) e.symm) m
  · rw [h2, chr_ent he, List.length_cons, Nat.add_comm]
theorem wrt_head {r : Nat} (h : isRune r = true) : ∃ b l, wrt r = b :: l ∧ b ≠ 60 ∧ b ≠ 34 := by
  rcases wrt_cases r with ⟨h1, h2⟩ | ⟨e, he, rfl, h2⟩
  · obtain ⟨b, l, e, hb⟩ := enc_head h
    refine ⟨b, l, h2.trans e, fun q => ?_, fun q => ?_⟩
    · exact h1 (60, [108, 116, 59]) (by decide) (by have := hb (by omega); simp only; omega)
    · exact h1 (34, [113, 117, 111, 116, 59]) (by decide) (by have := hb (by omega); simp only; omega)
  · exact ⟨38, e.2, h2, by decide, by decide⟩
theorem chr_tx {r : Nat} (h : isRune r = true) (m : List Nat) : chrP (tx r ++ m) = .ok (r, (tx r).length) := by
  unfold tx
  split
  · rename_i e
    subst e
    exact chr_enc (r := 34) h (by decide) m
  · exact chr_wrt h m
theorem tx_head {r : Nat} (h : isRune r = true) : ∃ b l, tx r = b :: l ∧ b ≠ 60 := by
  unfold tx
  split
  · exact ⟨34, [], rfl, by decide⟩
  · obtain ⟨b, l, e, h1, -⟩ := wrt_head h
    exact ⟨b, l, e, h1⟩

/-- a rune as the reference writes it -/
def wrR (r : Nat) (b : Bool) : List Nat := if b then wrt r else tx r
theorem wrR_len (r : Nat) (b : Bool) : 1 ≤ (wrR r b).length ∧ (wrR r b).length ≤ 6 := by
  cases b
  · exact tx_len r
  · exact wrt_len r
theorem wrR_lt {r : Nat} (h : isRune r = true) (b : Bool) : ∀ x ∈ wrR r b, x < 256 := by
  cases b
  · exact tx_lt h
  · exact wrt_lt h
end Go.Proofs.YtmlhibcbgdhadaaDoor
