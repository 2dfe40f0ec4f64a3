/- Where the tokens of a markup stand: they rise, between them are blanks within a tag alone, a text's characters part its bytes. No program in it. -/
import Derived.Test.YthlbbinlkmchjaaDoorPzAll
namespace Go.Proofs.YthlbbinlkmchjaaDoor
open Go

theorem then_inv {α β : Type} {p : Pz α} {f : α → Nat → Pz β} {l : List Nat} {b : β} {n : Nat} (h : andThen p f l = .ok (b, n)) : ∃ a k j, p l = .ok (a, k) ∧ f a k (l.drop k) = .ok (b, j) ∧ n = k + j := by
  rcases hr : p l with ⟨e⟩ | ⟨a, k⟩
  · rw [then_bad hr] at h; cases h
  · rw [then_ok hr] at h
    rcases hf : f a k (l.drop k) with ⟨e⟩ | ⟨y, j⟩
    · rw [hf] at h; cases h
    · rw [hf] at h
      cases h
      exact ⟨a, k, j, rfl, hf, rfl⟩
/-- characters one behind the other -/
def Cs : Nat → List (Nat × Nat × Nat) → Nat → Prop
  | k, [], e => k = e
  | k, c :: cs, e => c.2.1 = k ∧ k < c.2.2 ∧ Cs c.2.2 cs e
theorem Cs.le : ∀ {k : Nat} {cs : List (Nat × Nat × Nat)} {e : Nat}, Cs k cs e → k ≤ e
  | _, [], _, h => Nat.le_of_eq h
  | _, _ :: _, _, h => Nat.le_trans (Nat.le_of_lt h.2.1) h.2.2.le
theorem Cs.len : ∀ {k : Nat} {cs : List (Nat × Nat × Nat)} {e : Nat}, Cs k cs e → k + cs.length ≤ e
  | _, [], _, h => Nat.le_of_eq h
  | k, c :: cs, e, h => by
    have h1 := h.2.1
    have h2 := h.2.2.len
    simp only [List.length_cons]
    omega
theorem chs_cs : ∀ (f p : Nat) (l : List Nat) (xs : List (Nat × Nat × Nat)) (n : Nat), chsK f p l = .ok (xs, n) → Cs p xs (p + n)
  | 0, _, _, _, _, h => by cases h
  | f + 1, p, l, xs, n, h => by
    unfold chsK look at h
    dsimp only at h
    split at h
    · cases h; exact rfl
    · obtain ⟨x, k, j, h1, h2, rfl⟩ := then_inv h
      obtain ⟨ys, k2, j2, h3, h4, rfl⟩ := then_inv h2
      cases h4
      have ih := chs_cs f (p + k) _ ys k2 h3
      have hg := goes_chr l x k h1
      refine ⟨rfl, ?_, ?_⟩
      · simp only; omega
      · simp only [Nat.add_zero]
        rwa [Nat.add_assoc] at ih
theorem txt_kind {p : Nat} {l : List Nat} {t : Tk} {n : Nat} (h : txtP p l = .ok (t, n)) : t.kd = 5 ∧ t.at_ = p ∧ Cs p t.ch (p + n) := by
  unfold txtP at h
  obtain ⟨xs, k, j, h1, h2, rfl⟩ := then_inv h
  cases h2
  exact ⟨rfl, rfl, chs_cs _ _ _ _ _ h1⟩
theorem tag_kind {p : Nat} {l : List Nat} {t : Tk} {n : Nat} (h : tagP p l = .ok (t, n)) : (t.kd = 1 ∨ t.kd = 4) ∧ t.at_ = p := by
  unfold tagP at h
  obtain ⟨_, k, j, h1, h2, rfl⟩ := then_inv h
  unfold look at h2
  dsimp only at h2
  split at h2
  · obtain ⟨_, k3, j3, _, h3, rfl⟩ := then_inv h2
    obtain ⟨_, k4, j4, _, h4, rfl⟩ := then_inv h3
    obtain ⟨_, k5, j5, _, h5, rfl⟩ := then_inv h4
    cases h5
    exact ⟨.inr rfl, rfl⟩
  · obtain ⟨_, k3, j3, _, h3, rfl⟩ := then_inv h2
    cases h3
    exact ⟨.inl rfl, rfl⟩
theorem att_kind {p : Nat} {l : List Nat} {t : Tk} {n : Nat} (h : attP p l = .ok (t, n)) : t.kd = 2 ∧ t.at_ = p := by
  unfold attP at h
  obtain ⟨_, k, j, _, h2, rfl⟩ := then_inv h
  obtain ⟨_, k3, j3, _, h3, rfl⟩ := then_inv h2
  obtain ⟨_, k4, j4, _, h4, rfl⟩ := then_inv h3
  obtain ⟨_, k5, j5, _, h5, rfl⟩ := then_inv h4
  cases h5
  exact ⟨rfl, rfl⟩
theorem end_kind {p : Nat} {l : List Nat} {t : Tk} {n : Nat} (h : endP p l = .ok (t, n)) : t.kd = 3 ∧ t.at_ = p := by
  unfold endP look at h
  dsimp only at h
  split at h
  all_goals
    obtain ⟨_, k, j, _, h2, rfl⟩ := then_inv h
    cases h2
    exact ⟨rfl, rfl⟩
/-- blanks alone -/
def Gap (L : List Nat) (a b : Nat) : Prop := ∀ i, a ≤ i → i < b → isB (L.getD i 0) = true
theorem gap_nil (L : List Nat) (a : Nat) : Gap L a a := fun i h1 h2 => by omega
/-- tokens from place a on; w: within a tag -/
def Pl (L : List Nat) : Nat → Nat → List Tk → Prop
  | _, a, [] => a = L.length
  | w, a, t :: ts => (a ≤ t.at_ ∧ t.at_ < t.en ∧ t.en ≤ L.length ∧ Gap L a t.at_) ∧ ((w = 0 ∧ t.at_ = a ∧ (t.kd = 1 ∨ t.kd = 4 ∨ t.kd = 5)) ∨ (w = 1 ∧ (t.kd = 3 ∨ t.kd = 2 ∧ a < t.at_))) ∧ (t.kd = 5 → Cs t.at_ t.ch t.en) ∧ Pl L (within t) t.en ts
def inw (m : Nat) : Nat := if m = 0 then 0 else 1
theorem inw_within (t : Tk) : inw (within t) = within t := by unfold within; split <;> rfl
theorem within_le (t : Tk) : within t ≤ 1 := by unfold within; split <;> omega
theorem G_pl (L : List Nat) : ∀ (f m p a : Nat) (l : List Nat), l = L.drop p → p ≤ L.length → (m ≤ 1 → a = p) → (m = 2 → a < p) → m ≤ 2 → Gap L a p → (G f m p l).2 = none → Pl L (inw m) a (G f m p l).1
  | 0, _, _, _, _, _, _, _, _, _, _, h => by cases h
  | f + 1, m, p, a, [], hl, hp, ha, _, hm, hg, h => by
    rcases m with _ | m
    · have := congrArg List.length hl
      simp at this
      show a = L.length
      have := ha (by omega)
      omega
    · cases h
  | f + 1, m, p, a, b :: l, hl, hp, ha, ha2, hm, hg, h => by
    have hlen := congrArg List.length hl
    simp only [List.length_cons, List.length_drop] at hlen
    have hb : L.getD p 0 = b := by
      have := congrArg List.head? hl
      rw [List.head?_drop] at this
      simp only [List.head?_cons] at this
      rw [List.getD_eq_getElem?_getD, ← this]; rfl
    rw [G_cons] at h ⊢
    rcases hP : part m p b with _ | P
    · rw [hP] at h
      simp only at h ⊢
      have hmb : m ≠ 0 ∧ isB b = true := by
        unfold part at hP
        split at hP
        · cases hP
        · split at hP
          · rename_i h1 h2; exact ⟨h1, h2⟩
          · split at hP
            · cases hP
            · split at hP <;> cases hP
      have hle : a ≤ p := by
        rcases Nat.lt_or_ge m 2 with q | q
        · have := ha (by omega); omega
        · have := ha2 (by omega); omega
      have ih := G_pl L f 2 (p + 1) a l (by
        have := congrArg List.tail hl
        simp only [List.tail_cons, List.tail_drop] at this
        exact this) (by omega) (by omega) (by intro _; omega) (by omega) (by
          intro i h1 h2
          rcases Nat.lt_or_ge i p with q | q
          · exact hg i h1 q
          · rw [show i = p by omega, hb]; exact hmb.2) h
      rw [show inw m = inw 2 by unfold inw; rw [if_neg hmb.1, if_neg (by decide)]]
      exact ih
    · rw [hP] at h
      simp only at h ⊢
      rcases hr : P (b :: l) with ⟨k, n⟩ | ⟨t, n⟩
      · rw [hr, tokR_bad] at h; cases h
      · rw [hr, tokR_ok] at h
        rw [tokR_ok]
        simp only at h ⊢
        have h1 := part_goes hP hr
        have h2 := ok_le (part_fair hP) hr
        simp only [List.length_cons] at h2
        have ih := G_pl L f (within t) (p + n) (p + n) ((b :: l).drop n) (by rw [hl, List.drop_drop]) (by omega) (fun _ => rfl) (fun h => by have := within_le t; omega) (by have := within_le t; omega) (gap_nil _ _) h
        rw [inw_within] at ih
        unfold part at hP
        split at hP
        · rename_i hm0
          subst hm0
          have hap := ha (by omega)
          subst hap
          cases hP
          split at hr
          · obtain ⟨h3, h4⟩ := tag_kind hr
            refine ⟨⟨?_, ?_, ?_, ?_⟩, .inl ⟨rfl, h4, ?_⟩, fun h5 => ?_, ih⟩
            · simp only; omega
            · simp only; omega
            · simp only; omega
            · simp only [h4]; exact gap_nil _ _
            · simp only; omega
            · simp only at h5; omega
          · obtain ⟨h3, h4, h5⟩ := txt_kind hr
            refine ⟨⟨?_, ?_, ?_, ?_⟩, .inl ⟨rfl, h4, ?_⟩, fun _ => ?_, ih⟩
            · simp only; omega
            · simp only; omega
            · simp only; omega
            · simp only [h4]; exact gap_nil _ _
            · simp only; omega
            · simp only [h4]; exact h5
        · rename_i hm0
          have hle : a ≤ p := by
            rcases Nat.lt_or_ge m 2 with q | q
            · have := ha (by omega); omega
            · have := ha2 (by omega); omega
          have hw : inw m = 1 := by unfold inw; rw [if_neg hm0]
          rw [hw]
          split at hP
          · cases hP
          · split at hP
            · cases hP
              obtain ⟨h3, h4⟩ := end_kind hr
              refine ⟨⟨?_, ?_, ?_, ?_⟩, .inr ⟨rfl, .inl h3⟩, fun h5 => ?_, ih⟩
              · simp only; omega
              · simp only; omega
              · simp only; omega
              · simp only [h4]; exact hg
              · simp only at h5; omega
            · split at hP
              · rename_i h5
                cases hP
                obtain ⟨h3, h4⟩ := att_kind hr
                have h6 := ha2 h5.1
                refine ⟨⟨?_, ?_, ?_, ?_⟩, .inr ⟨rfl, .inr ⟨h3, by simp only; omega⟩⟩, fun h5 => ?_, ih⟩
                · simp only; omega
                · simp only; omega
                · simp only; omega
                · simp only [h4]; exact hg
                · simp only at h5; omega
              · cases hP; cases hr
end Go.Proofs.YthlbbinlkmchjaaDoor
namespace Go.Proofs.YthlbbinlkmchjaaDoor
open Go

theorem bad_of {n a b c d : Nat} (hn : 0 < n) (h : (wide a = 1) ∨ (wide a = 2 ∧ 1 < n ∧ 128 ≤ b ∧ b ≤ 191) ∨ (wide a = 3 ∧ 2 < n ∧ 128 ≤ b ∧ b ≤ 191 ∧ 128 ≤ c ∧ c ≤ 191 ∧ (a = 224 → 160 ≤ b) ∧ (a = 237 → b ≤ 159)) ∨ (wide a = 4 ∧ 3 < n ∧ 128 ≤ b ∧ b ≤ 191 ∧ 128 ≤ c ∧ c ≤ 191 ∧ 128 ≤ d ∧ d ≤ 191 ∧ (a = 240 → 144 ≤ b) ∧ (a = 244 → b ≤ 143))) : badN n a b c d = none := by
  rcases hb : badN n a b c d with _ | k
  · rfl
  · exfalso
    rcases bad_cases hb hn with g | g | g | g <;> omega
theorem wide_1 {a : Nat} (h : a < 128) : wide a = 1 := by unfold wide; rw [if_pos h]
theorem wide_2 {a : Nat} (h : 194 ≤ a ∧ a < 224) : wide a = 2 := by
  unfold wide; repeat' split
  all_goals omega
theorem wide_3 {a : Nat} (h : 224 ≤ a ∧ a < 240) : wide a = 3 := by
  unfold wide; repeat' split
  all_goals omega
theorem wide_4 {a : Nat} (h : 240 ≤ a ∧ a ≤ 244) : wide a = 4 := by
  unfold wide; repeat' split
  all_goals omega
/-- a rune's own bytes, whatever follows -/
theorem bad_enc {r : Nat} (h : isRune r = true) (m : List Nat) : bad (enc r ++ m) = none ∧ rune (enc r ++ m) = r ∧ wd (enc r ++ m) = (enc r).length := by
  unfold isRune at h
  have h := of_decide_eq_true h
  unfold enc
  split
  · have hw := wide_1 (a := r) (by omega)
    refine ⟨bad_of (by simp) (.inl hw), ?_, hw⟩
    show runeN r _ _ _ = r
    unfold runeN; rw [if_pos hw]
  · split
    · have hw := wide_2 (a := 192 + r / 64) (by omega)
      refine ⟨bad_of (by simp) (.inr (.inl ⟨hw, by simp, by simp, by simp; omega⟩)), ?_, hw⟩
      show runeN (192 + r / 64) (128 + r % 64) _ _ = r
      unfold runeN; rw [hw, if_neg (by decide), if_pos rfl]; omega
    · split
      · have hw := wide_3 (a := 224 + r / 4096) (by omega)
        refine ⟨bad_of (by simp) (.inr (.inr (.inl ⟨hw, by simp, by simp, by simp; omega, by simp, by simp; omega, by simp; omega, by simp; omega⟩))), ?_, hw⟩
        show runeN (224 + r / 4096) (128 + r / 64 % 64) (128 + r % 64) _ = r
        unfold runeN; rw [hw, if_neg (by decide), if_neg (by decide), if_pos rfl]; omega
      · have hw := wide_4 (a := 240 + r / 262144) (by omega)
        refine ⟨bad_of (by simp) (.inr (.inr (.inr ⟨hw, by simp, by simp, by simp; omega, by simp, by simp; omega, by simp, by simp; omega, by simp; omega, by simp; omega⟩))), ?_, hw⟩
        show runeN (240 + r / 262144) (128 + r / 4096 % 64) (128 + r / 64 % 64) (128 + r % 64) = r
        unfold runeN; rw [hw, if_neg (by decide), if_neg (by decide), if_neg (by decide)]; omega
theorem enc_head {r : Nat} (h : isRune r = true) : ∃ b l, enc r = b :: l ∧ (b < 128 → b = r) := by
  unfold isRune at h
  have h := of_decide_eq_true h
  unfold enc
  split
  · exact ⟨_, _, rfl, fun _ => rfl⟩
  · split
    · exact ⟨_, _, rfl, fun _ => by omega⟩
    · split
      · exact ⟨_, _, rfl, fun _ => by omega⟩
      · exact ⟨_, _, rfl, fun _ => by omega⟩
/-- a rune's bytes are those that it was read from -/
theorem enc_rune {l : List Nat} (h : bad l = none) : enc (rune l) = l.take (wd l) ∧ isRune (rune l) = true := by
  have hr := rune_width h
  refine ⟨?_, by unfold isRune; rw [decide_eq_true_eq]; omega⟩
  have g := good_cases h
  have hw : wd l = wide (l.getD 0 0) := rfl
  have hrn : rune l = runeN (l.getD 0 0) (l.getD 1 0) (l.getD 2 0) (l.getD 3 0) := rfl
  rw [hw, hrn]
  rcases g with g | g | g | g
  · obtain ⟨a, t, rfl⟩ : ∃ a t, l = a :: t := by
      rcases l with _ | ⟨a, t⟩
      · simp at g
      · exact ⟨a, t, rfl⟩
    simp at g ⊢
    have hv : ∀ b c d, runeN a b c d = a := fun b c d => by unfold runeN; rw [g.1]; rfl
    rw [hv, g.1]
    unfold enc
    rw [if_pos g.2]
    rfl
  · obtain ⟨a, b, t, rfl⟩ : ∃ a b t, l = a :: b :: t := by
      rcases l with _ | ⟨a, _ | ⟨b, t⟩⟩
      · simp at g
      · simp at g
      · exact ⟨a, b, t, rfl⟩
    simp at g ⊢
    have hv : ∀ c d, runeN a b c d = a % 32 * 64 + b % 64 := fun c d => by unfold runeN; rw [g.1]; rfl
    rw [hv, g.1]
    unfold enc
    rw [if_neg (by omega), if_pos (by omega)]
    show [_, _] = [a, b]
    congr 1
    · omega
    · congr 1; omega
  · obtain ⟨a, b, c, t, rfl⟩ : ∃ a b c t, l = a :: b :: c :: t := by
      rcases l with _ | ⟨a, _ | ⟨b, _ | ⟨c, t⟩⟩⟩
      · simp at g
      · simp at g
      · simp at g
      · exact ⟨a, b, c, t, rfl⟩
    simp at g ⊢
    have hv : ∀ d, runeN a b c d = a % 16 * 4096 + b % 64 * 64 + c % 64 := fun d => by unfold runeN; rw [g.1]; rfl
    rw [hv, g.1]
    unfold enc
    rw [if_neg (by omega), if_neg (by omega), if_pos (by omega)]
    show [_, _, _] = [a, b, c]
    congr 1
    · omega
    · congr 1
      · omega
      · congr 1; omega
  · obtain ⟨a, b, c, d, t, rfl⟩ : ∃ a b c d t, l = a :: b :: c :: d :: t := by
      rcases l with _ | ⟨a, _ | ⟨b, _ | ⟨c, _ | ⟨d, t⟩⟩⟩⟩
      · simp at g
      · simp at g
      · simp at g
      · simp at g
      · exact ⟨a, b, c, d, t, rfl⟩
    simp at g ⊢
    have hv : runeN a b c d = a % 8 * 262144 + b % 64 * 4096 + c % 64 * 64 + d % 64 := by unfold runeN; rw [g.1]; rfl
    rw [hv, g.1]
    unfold enc
    rw [if_neg (by omega), if_neg (by omega), if_neg (by omega)]
    show [_, _, _, _] = [a, b, c, d]
    congr 1
    · omega
    · congr 1
      · omega
      · congr 1
        · omega
        · congr 1; omega
/-- a right text's runes are its bytes -/
theorem rl_encs : ∀ (k i : Nat) (l : List Nat), (rl k i l).flatMap (fun x => enc x.2) = l.take (pos k l) ∧ ∀ x ∈ rl k i l, isRune x.2 = true
  | 0, _, _ => ⟨by simp [rl, pos], fun x hx => by cases hx⟩
  | k + 1, i, l => by
    by_cases hb : bad l = none
    · rw [rl_good hb, pos_good hb]
      obtain ⟨h1, h2⟩ := rl_encs k (i + wd l) (l.drop (wd l))
      obtain ⟨h3, h4⟩ := enc_rune hb
      refine ⟨?_, fun x hx => ?_⟩
      · rw [List.flatMap_cons, h1]
        simp only
        rw [h3, List.take_add]
      · rcases List.mem_cons.1 hx with rfl | hx
        · exact h4
        · exact h2 x hx
    · rw [rl_none hb, pos_none hb]
      exact ⟨by simp, fun x hx => by cases hx⟩
theorem rs_encs {l : List Nat} (h : chk l = none) : ((rs l).map (·.2)).flatMap enc = l ∧ ∀ x ∈ (rs l).map (·.2), isRune x = true := by
  obtain ⟨h1, h2⟩ := rl_encs l.length 0 l
  have he := chk_none.1 h
  refine ⟨?_, fun x hx => ?_⟩
  · rw [List.flatMap_map]
    show (rl l.length 0 l).flatMap (fun x => enc x.2) = l
    rw [h1, show pos l.length l = l.length from he, List.take_length]
  · obtain ⟨y, hy, rfl⟩ := List.mem_map.1 hx
    exact h2 y hy
/-- a character that stands as its bytes -/
theorem chr_enc {r : Nat} (h : isRune r = true) (h38 : r ≠ 38) (m : List Nat) : chrP (enc r ++ m) = .ok (r, (enc r).length) := by
  obtain ⟨b, l, he, hb⟩ := enc_head h
  obtain ⟨h1, h2, h3⟩ := bad_enc h m
  have hh : (enc r ++ m).head? = some b := by rw [he]; rfl
  unfold chrP look
  dsimp only
  rw [hh, if_neg (fun e => h38 (by have e := Option.some.inj e; rw [← hb (by omega)]; exact e))]
  unfold plainP
  rw [h1]
  simp only
  rw [h2, h3]
theorem chr_ent {e : Nat × List Nat} (h : e ∈ ents) (m : List Nat) : chrP (38 :: e.2 ++ m) = .ok (e.1, 1 + e.2.length) := by
  simp only [ents, List.mem_cons, List.not_mem_nil, or_false] at h
  rcases h with rfl | rfl | rfl | rfl | rfl | rfl <;> rfl
end Go.Proofs.YthlbbinlkmchjaaDoor
namespace Go.Proofs.YthlbbinlkmchjaaDoor
open Go

def Kd {α : Type} (p : Pz α) : Prop := ∀ l k n, p l = .error (k, n) → k ≠ 0
theorem kd_done {α : Type} (a : α) : Kd (done a) := fun _ _ _ h => by cases h
theorem kd_fails {α : Type} {k : Nat} (h : k ≠ 0) : Kd (fails (α := α) k) := fun _ _ _ e => by cases e; exact h
theorem kd_look {α : Type} {f : Option Nat → Pz α} (h : ∀ b, Kd (f b)) : Kd (look f) := fun l k n e => h _ l k n e
theorem kd_byte {q : Nat → Bool} {k : Nat} (h : k ≠ 0) : Kd (byteP q k) := fun l k' n e => by
  unfold byteP at e
  rcases l with _ | ⟨b, l⟩
  · cases e; exact h
  · simp only at e
    split at e
    · cases e
    · cases e; exact h
theorem kd_then {α β : Type} {p : Pz α} {f : α → Nat → Pz β} (hp : Kd p) (hf : ∀ a n, Kd (f a n)) : Kd (andThen p f) := fun l k n e => by
  rcases hr : p l with ⟨e'⟩ | ⟨a, j⟩
  · rw [then_bad hr] at e
    cases e
    exact hp l k n hr
  · rw [then_ok hr] at e
    rcases hf2 : f a j (l.drop j) with ⟨k2, n2⟩ | ⟨y, i⟩
    · rw [hf2] at e
      cases e
      exact hf a j _ _ _ hf2
    · rw [hf2] at e; cases e
theorem kd_text {α : Type} {p : Pz α} (h : Kd p) : Kd (textP p) := fun l k n e => by
  unfold textP at e
  rcases hr : p l with ⟨e'⟩ | ⟨a, j⟩
  · rw [hr] at e; cases e; exact h l k n hr
  · rw [hr] at e; cases e
theorem kd_skip : Kd skip := kd_byte (by decide)
theorem kd_word {k : Nat} (h : k ≠ 0) : ∀ ws, Kd (word k ws)
  | [] => kd_done _
  | _ :: cs => kd_then (kd_byte h) fun _ _ => kd_word h cs
theorem kd_namK : ∀ r, Kd (namK r)
  | 0 => kd_look fun b => by split; exact kd_fails (by decide); exact kd_done _
  | r + 1 => kd_look fun b => by split; exact kd_then kd_skip fun _ _ => kd_namK r; exact kd_done _
theorem kd_name : Kd name := kd_look fun b => by split; exact kd_text (kd_namK _); exact kd_fails (by decide)
theorem kd_numK : ∀ r n, Kd (numK r n)
  | 0, n => kd_look fun b => by split; exact kd_then kd_skip fun _ _ => kd_done _; exact kd_fails (by decide)
  | r + 1, n => kd_look fun b => by
    split
    · exact kd_then kd_skip fun _ _ => kd_done _
    · split
      · exact kd_fails (by decide)
      · split
        · exact kd_fails (by decide)
        · exact kd_then kd_skip fun _ _ => kd_numK r _
theorem kd_entP : Kd entP := kd_then kd_skip fun _ _ => kd_look fun b => by
  split
  · exact kd_then (kd_word (by decide) _) fun _ _ => kd_done _
  · exact kd_then (kd_word (by decide) _) fun _ _ => kd_numK _ _
theorem kd_plain : Kd plainP := fun l k n e => by
  unfold plainP at e
  split at e
  · cases e
  · cases e; decide
theorem kd_chr : Kd chrP := kd_look fun b => by split; exact kd_entP; exact kd_plain
theorem kd_val : ∀ r, Kd (valK r)
  | 0 => kd_look fun b => by
    split
    · exact kd_done _
    · split <;> exact kd_fails (by decide)
  | r + 1 => kd_look fun b => by
    split
    · exact kd_done _
    · split
      · exact kd_fails (by decide)
      · exact kd_then kd_chr fun _ _ => kd_then (kd_val r) fun _ _ => kd_done _
theorem kd_chs : ∀ f p, Kd (chsK f p)
  | 0, _ => kd_fails (by decide)
  | f + 1, p => kd_look fun b => by
    split
    · exact kd_done _
    · exact kd_then kd_chr fun _ _ => kd_then (kd_chs f _) fun _ _ => kd_done _
theorem kd_txt (p : Nat) : Kd (txtP p) := fun l k n e => (kd_then (kd_chs (l.length + 1) p) fun _ _ => kd_done _) l k n e
theorem kd_tag (p : Nat) : Kd (tagP p) := kd_then (kd_word (by decide) _) fun _ _ => kd_look fun b => by
  split
  · exact kd_then (kd_word (by decide) _) fun _ _ => kd_then kd_name fun _ _ => kd_then (kd_word (by decide) _) fun _ _ => kd_done _
  · exact kd_then kd_name fun _ _ => kd_done _
theorem kd_att (p : Nat) : Kd (attP p) := kd_then kd_name fun _ _ => kd_then (kd_word (by decide) _) fun _ _ => kd_then (kd_val _) fun _ _ => kd_then (kd_word (by decide) _) fun _ _ => kd_done _
theorem kd_end (p : Nat) : Kd (endP p) := kd_look fun b => by
  split
  · exact kd_then (kd_word (by decide) _) fun _ _ => kd_done _
  · exact kd_then (kd_word (by decide) _) fun _ _ => kd_done _
theorem part_kd {m p b : Nat} {P : Pz Tk} (h : part m p b = some P) : Kd P := by
  unfold part at h
  split at h
  · cases h; split
    · exact kd_tag p
    · exact kd_txt p
  · split at h
    · cases h
    · split at h
      · cases h; exact kd_end p
      · split at h
        · cases h; exact kd_att p
        · cases h; exact kd_fails (by decide)
theorem G_kd : ∀ (f m p : Nat) (l : List Nat) (k n : Nat), (G f m p l).2 = some (k, n) → k ≠ 0
  | 0, _, _, _, k, n, h => by
    have h : some (99, _) = some (k, n) := h
    cases h; decide
  | f + 1, m, p, [], k, n, h => by
    rcases m with _ | m
    · cases h
    · have h : some (70, _) = some (k, n) := h
      cases h; decide
  | f + 1, m, p, b :: l, k, n, h => by
    rw [G_cons] at h
    rcases hP : part m p b with _ | P
    · rw [hP] at h; exact G_kd f 2 (p + 1) l k n h
    · rw [hP] at h
      simp only at h
      rcases hr : P (b :: l) with ⟨k1, n1⟩ | ⟨t, n1⟩
      · rw [hr, tokR_bad] at h
        cases h
        exact part_kd hP _ _ _ hr
      · rw [hr, tokR_ok] at h
        exact G_kd f _ _ _ k n h
/-! ### a text, a value -/
theorem name_a (m : List Nat) : name (97 :: 32 :: m) = .ok ([97], 1) := rfl
theorem name_b (m : List Nat) : name (98 :: 61 :: m) = .ok ([98], 1) := rfl
end Go.Proofs.YthlbbinlkmchjaaDoor
