/- A text as a markup has it: as mathematics. -/
import Derived.Test.YtmlhibcbgdhadaaDoorKinds
namespace Go.Proofs.YtmlhibcbgdhadaaDoor
open Go

theorem enc_lt {r : Nat} (h : r ≤ 1114111) : ∀ b ∈ enc r, b < 256 := by
  intro b hb
  unfold enc at hb
  repeat' split at hb
  all_goals
    simp only [List.mem_cons, List.not_mem_nil, or_false] at hb
    omega
theorem enc_len (r : Nat) : 1 ≤ (enc r).length ∧ (enc r).length ≤ 4 := by
  unfold enc
  repeat' split
  all_goals simp

/-- a rune as its entity, if it has one with a name; else its bytes -/
def wrt (r : Nat) : List Nat := match ents.find? (fun e => e.1 == r) with
  | some e => 38 :: e.2
  | none => enc r
theorem wrt_none {r : Nat} (h : ∀ e ∈ ents, e.1 ≠ r) : wrt r = enc r := by
  unfold wrt
  rw [List.find?_eq_none.2 (fun e he => by simpa using h e he)]
theorem wrt_len (r : Nat) : 1 ≤ (wrt r).length ∧ (wrt r).length ≤ 6 := by
  by_cases h : ∀ e ∈ ents, e.1 ≠ r
  · rw [wrt_none h]; have := enc_len r; omega
  · simp only [ents, List.mem_cons, List.not_mem_nil, or_false, forall_eq_or_imp, forall_eq, ne_eq] at h
    have : r = 60 ∨ r = 62 ∨ r = 38 ∨ r = 34 ∨ r = 173 ∨ r = 160 := by omega
    rcases this with rfl | rfl | rfl | rfl | rfl | rfl <;> decide
/-- a rune in a text -/
def tx (r : Nat) : List Nat := if r = 34 then [34] else wrt r
def isR (r : Int) : Bool := decide (0 ≤ r) && isRune r.toNat
def textM (l : List (Int × Int × Int)) : Option (List Nat) := if l.all (fun x => isR x.1) then some (l.flatMap fun x => tx x.1.toNat) else none
theorem enc_all_lt {r : Nat} (h : isRune r = true) : ∀ b ∈ enc r, b < 256 := by
  unfold isRune at h; simp at h; exact enc_lt h.1
theorem wrt_lt {r : Nat} (h : isRune r = true) : ∀ b ∈ wrt r, b < 256 := by
  by_cases h2 : ∀ e ∈ ents, e.1 ≠ r
  · rw [wrt_none h2]; exact enc_all_lt h
  · simp only [ents, List.mem_cons, List.not_mem_nil, or_false, forall_eq_or_imp, forall_eq, ne_eq] at h2
    have : r = 60 ∨ r = 62 ∨ r = 38 ∨ r = 34 ∨ r = 173 ∨ r = 160 := by omega
    rcases this with rfl | rfl | rfl | rfl | rfl | rfl <;> decide
theorem tx_lt {r : Nat} (h : isRune r = true) : ∀ b ∈ tx r, b < 256 := by
  unfold tx
  split
  · decide
  · exact wrt_lt h
theorem tx_len (r : Nat) : 1 ≤ (tx r).length ∧ (tx r).length ≤ 6 := by
  unfold tx
  split
  · decide
  · exact wrt_len r
theorem txs_len : ∀ l : List (Int × Int × Int), (l.flatMap fun x => tx x.1.toNat).length ≤ 6 * l.length
  | [] => by simp
  | x :: l => by
    have := txs_len l
    have := (tx_len x.1.toNat).2
    rw [List.flatMap_cons, List.length_append, List.length_cons]
    omega

theorem wrt_cases (r : Nat) : ((∀ e ∈ ents, e.1 ≠ r) ∧ wrt r = enc r) ∨ ∃ e ∈ ents, r = e.1 ∧ wrt r = 38 :: e.2 := by
  by_cases h : ∀ e ∈ ents, e.1 ≠ r
  · exact .inl ⟨h, wrt_none h⟩
  · refine .inr ?_
    simp only [ents, List.mem_cons, List.not_mem_nil, or_false, forall_eq_or_imp, forall_eq, ne_eq] at h
    have : r = 60 ∨ r = 62 ∨ r = 38 ∨ r = 34 ∨ r = 173 ∨ r = 160 := by omega
    rcases this with rfl | rfl | rfl | rfl | rfl | rfl
    · exact ⟨(60, [108, 116, 59]), by decide, rfl, rfl⟩
    · exact ⟨(62, [103, 116, 59]), by decide, rfl, rfl⟩
    · exact ⟨(38, [97, 109, 112, 59]), by decide, rfl, rfl⟩
    · exact ⟨(34, [113, 117, 111, 116, 59]), by decide, rfl, rfl⟩
    · exact ⟨(173, [115, 104, 121, 59]), by decide, rfl, rfl⟩
    · exact ⟨(160, [110, 98, 115, 112, 59]), by decide, rfl, rfl⟩
theorem chr_wrt {r : Nat} (h : isRune r = true) (m : List Nat) : chrP (wrt r ++ m) = .ok (r, (wrt r).length) := by
  rcases wrt_cases r with ⟨h1, h2⟩ | ⟨e, he, rfl, h2⟩
  · rw [h2]
    exact chr_enc h (fun e => h1 (38, [97, 109, 112, 59]) (by decide) e.symm) m
  · rw [h2, chr_ent he, List.length_cons, Nat.add_comm]
theorem wrt_head {r : Nat} (h : isRune r = true) : ∃ b l, wrt r = b :: l ∧ b ≠ 60 ∧ b ≠ 34 := by
  rcases wrt_cases r with ⟨h1, h2⟩ | ⟨e, he, rfl, h2⟩
  · obtain ⟨b, l, e, hb⟩ := enc_head h
    refine ⟨b, l, h2.trans e, fun q => ?_, fun q => ?_⟩
    · exact h1 (60, [108, 116, 59]) (by decide) (by have := hb (by omega); simp only; omega)
    · exact h1 (34, [113, 117, 111, 116, 59]) (by decide) (by have := hb (by omega); simp only; omega)
  · exact ⟨38, e.2, h2, by decide, by decide⟩
theorem chr_tx {r : Nat} (h : isRune r = true) (m : List Nat) : chrP (tx r ++ m) = .ok (r, (tx r).length) := by
  unfold tx
  split
  · rename_i e
    subst e
    exact chr_enc (r := 34) h (by decide) m
  · exact chr_wrt h m
theorem tx_head {r : Nat} (h : isRune r = true) : ∃ b l, tx r = b :: l ∧ b ≠ 60 := by
  unfold tx
  split
  · exact ⟨34, [], rfl, by decide⟩
  · obtain ⟨b, l, e, h1, -⟩ := wrt_head h
    exact ⟨b, l, e, h1⟩

/-- a rune as the reference writes it -/
def wrR (r : Nat) (b : Bool) : List Nat := if b then wrt r else tx r
theorem wrR_len (r : Nat) (b : Bool) : 1 ≤ (wrR r b).length ∧ (wrR r b).length ≤ 6 := by
  cases b
  · exact tx_len r
  · exact wrt_len r
theorem wrR_lt {r : Nat} (h : isRune r = true) (b : Bool) : ∀ x ∈ wrR r b, x < 256 := by
  cases b
  · exact tx_lt h
  · exact wrt_lt h
end Go.Proofs.YtmlhibcbgdhadaaDoor
