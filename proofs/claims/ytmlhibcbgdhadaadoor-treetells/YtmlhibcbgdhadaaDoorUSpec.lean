/- A length's text as mathematics. -/
import Derived.Test.YtmlhibcbgdhadaaDoorUtfAll
import Derived.Lib.DecodeN
import Derived.Lib.DecodeNEq
namespace Go.Proofs.YtmlhibcbgdhadaaDoor.U
open Go
theorem bl_gets (s : ByteArray) (i : Nat) (h : i < s.size) : (bl s)[i]? = some (s[i]).toNat := by
  simp only [bl, List.getElem?_map]
  rw [List.getElem?_eq_getElem (by simpa using h)]
  rfl

/-- how many digits stand ahead -/
def dg : List Nat → Nat
  | [] => 0
  | c :: t => if 48 ≤ c ∧ c ≤ 57 then dg t + 1 else 0
/-- the number of digits that stand behind those of n -/
def num (n : Nat) : List Nat → Nat
  | [] => n
  | c :: t => num (10 * n + (c - 48)) t
/-- digits alone -/
def Dgs (l : List Nat) : Prop := ∀ c ∈ l, 48 ≤ c ∧ c ≤ 57

theorem dg_le : ∀ l, dg l ≤ l.length
  | [] => Nat.le_refl _
  | c :: t => by
    have := dg_le t
    unfold dg
    split
    · simp; omega
    · omega
theorem dg_pre : ∀ l : List Nat, Dgs (l.take (dg l))
  | [] => by intro c hc; cases hc
  | c :: t => by
    unfold dg
    split
    · next h =>
      intro x hx
      rw [List.take_succ_cons, List.mem_cons] at hx
      rcases hx with rfl | hx
      · exact h
      · exact dg_pre t x hx
    · intro x hx; cases hx
theorem dg_at : ∀ (l : List Nat) (i : Nat), i < dg l → ∃ c, l[i]? = some c ∧ 48 ≤ c ∧ c ≤ 57
  | [], i, h => by cases h
  | c :: t, i, h => by
    unfold dg at h
    split at h
    · next hc =>
      rcases i with _ | i
      · exact ⟨c, rfl, hc⟩
      · obtain ⟨d, h1, h2⟩ := dg_at t i (by omega)
        exact ⟨d, by simpa using h1, h2⟩
    · cases h
theorem dg_end : ∀ (l : List Nat) (c : Nat), l[dg l]? = some c → ¬ (48 ≤ c ∧ c ≤ 57)
  | [], c, h => by cases h
  | d :: t, c, h => by
    unfold dg at h
    split at h
    · exact dg_end t c (by simpa using h)
    · next hd => simp at h; subst h; exact hd
theorem dg_unique {l : List Nat} {k : Nat} (h1 : ∀ i, i < k → ∃ c, l[i]? = some c ∧ 48 ≤ c ∧ c ≤ 57) (h2 : ∀ c, l[k]? = some c → ¬ (48 ≤ c ∧ c ≤ 57)) : dg l = k := by
  rcases Nat.lt_trichotomy (dg l) k with h | h | h
  · obtain ⟨c, h3, h4⟩ := h1 _ h
    exact absurd h4 (dg_end l c h3)
  · exact h
  · obtain ⟨c, h3, h4⟩ := dg_at l k h
    exact absurd h4 (h2 c h3)
theorem dg_all {l : List Nat} (h : Dgs l) : dg l = l.length :=
  dg_unique (fun i hi => ⟨l[i], List.getElem?_eq_getElem hi, h _ (List.getElem_mem hi)⟩) (fun c hc => by rw [List.getElem?_eq_none (Nat.le_refl _)] at hc; cases hc)
theorem dg_app {l t : List Nat} (h : Dgs l) (ht : ∀ c, t.head? = some c → ¬ (48 ≤ c ∧ c ≤ 57)) : dg (l ++ t) = l.length :=
  dg_unique (fun i hi => ⟨l[i], by rw [List.getElem?_append_left hi]; exact List.getElem?_eq_getElem hi, h _ (List.getElem_mem hi)⟩) (fun c hc => by
    rw [List.getElem?_append_right (Nat.le_refl _), Nat.sub_self] at hc
    exact ht c (by rw [List.head?_eq_getElem?]; exact hc))

theorem num_append (n : Nat) (l t : List Nat) : num n (l ++ t) = num (num n l) t := by
  induction l generalizing n with
  | nil => rfl
  | cons c l ih => exact ih _
theorem num_from (n : Nat) (l : List Nat) : num n l = n * 10 ^ l.length + num 0 l := by
  induction l generalizing n with
  | nil => show n = n * 10 ^ 0 + 0; rw [Nat.pow_zero, Nat.mul_one, Nat.add_zero]
  | cons c l ih =>
    show num (10 * n + (c - 48)) l = n * 10 ^ (l.length + 1) + num (10 * 0 + (c - 48)) l
    have h1 := ih (10 * n + (c - 48))
    have h2 := ih (10 * 0 + (c - 48))
    rw [h1, h2, Nat.add_mul, Nat.pow_succ, Nat.mul_zero, Nat.zero_add]
    have : 10 * n * 10 ^ l.length = n * (10 ^ l.length * 10) := by rw [Nat.mul_comm 10 n, Nat.mul_assoc, Nat.mul_comm 10]
    rw [this, Nat.add_assoc]
theorem num_lt {l : List Nat} (h : Dgs l) : num 0 l < 10 ^ l.length := by
  induction l with
  | nil => show 0 < 10 ^ 0; decide
  | cons c l ih =>
    show num (10 * 0 + (c - 48)) l < 10 ^ (l.length + 1)
    rw [num_from, Nat.pow_succ]
    have h1 := h c (by simp)
    have h2 := ih (fun x hx => h x (by simp [hx]))
    have h3 : 10 * 0 + (c - 48) ≤ 9 := by omega
    have h4 := Nat.mul_le_mul_right (10 ^ l.length) h3
    generalize (10 * 0 + (c - 48)) * 10 ^ l.length = A at *
    generalize 10 ^ l.length = B at *
    omega
theorem num_bound {l : List Nat} (h : Dgs l) (n : Nat) : num n l < (n + 1) * 10 ^ l.length := by
  rw [num_from, Nat.add_mul, Nat.one_mul]
  exact Nat.add_lt_add_left (num_lt h) _
theorem Dgs.take {l : List Nat} (h : Dgs l) (k : Nat) : Dgs (l.take k) := fun c hc => h c (List.mem_of_mem_take hc)
theorem Dgs.app {l t : List Nat} (h : Dgs l) (h' : Dgs t) : Dgs (l ++ t) := fun c hc => by
  rcases List.mem_append.1 hc with hc | hc
  · exact h c hc
  · exact h' c hc

/-- a unit as a fraction -/
def unitOf (l : List Nat) (size : Nat) : Option (Nat × Nat) :=
  if l = [] ∨ l = [112, 116] then some (65536, 1) else if l = [105, 110] then some (4718592, 1) else if l = [109, 109] then some (23592960, 127)
  else if l = [115, 112] then some (1, 1) else if l = [101, 109] then some (size, 1) else none
theorem unitOf_den {l : List Nat} {size n d : Nat} (h : unitOf l size = some (n, d)) : d = 1 ∨ d = 127 := by
  unfold unitOf at h
  repeat' split at h
  all_goals (simp at h; try omega)
/-- the whole number nearest to p / d, of two that are as near the greater one; unless p / d is above 2^46 -/
def near (p d : Nat) : Option Nat :=
  if 70368744177664 < p / d ∨ (p / d = 70368744177664 ∧ 0 < p % d) then none else some (if d ≤ 2 * (p % d) then p / d + 1 else p / d)
/-- the number at a text's front: its digits, how many stand behind the point, what stands behind it -/
def form (l : List Nat) : Option (Nat × Nat × List Nat) :=
  if dg l < 1 ∨ 15 < dg l then none
  else if (l.drop (dg l)).head? = some 46 then
    (if dg (l.drop (dg l + 1)) < 1 ∨ 4 < dg (l.drop (dg l + 1)) then none
     else some (num (num 0 (l.take (dg l))) ((l.drop (dg l + 1)).take (dg (l.drop (dg l + 1)))), dg (l.drop (dg l + 1)), (l.drop (dg l + 1)).drop (dg (l.drop (dg l + 1)))))
  else some (num 0 (l.take (dg l)), 0, l.drop (dg l))
/-- Read -/
def rd (l : List Nat) (size : Int) : Int × Int :=
  match form l with
  | none => (0, 80)
  | some (p, k, u) => match unitOf u size.toNat with
    | none => (0, 80)
    | some (n, d) => if u = [101, 109] ∧ (size < 0 ∨ 70368744177664 < size) then (0, 81) else match near (p * n) (d * 10 ^ k) with
      | none => (0, 81)
      | some q => ((q : Int), 0)
/-- Number -/
def nb (l : List Nat) : Int × Int := if dg l < 1 ∨ 9 < dg l ∨ dg l < l.length then (0, 80) else ((num 0 (l.take (dg l)) : Nat), 0)

/-! ### a rune of a text, as far as digits go -/
theorem dec_wd (n b0 b1 b2 b3 : Nat) : 1 ≤ (Lib.decodeN n b0 b1 b2 b3).2 ∧ (Lib.decodeN n b0 b1 b2 b3).2 ≤ 4 := by
  unfold Lib.decodeN
  repeat' split
  all_goals simp
theorem dec_low (n b0 b1 b2 b3 : Nat) (h : b0 < 128) : Lib.decodeN n b0 b1 b2 b3 = (b0, 1) := by
  unfold Lib.decodeN
  rw [if_pos h]
theorem dec_high (n b0 b1 b2 b3 : Nat) (h : 128 ≤ b0) : 128 ≤ (Lib.decodeN n b0 b1 b2 b3).1 ∧ (Lib.decodeN n b0 b1 b2 b3).1 ≤ 1114111 := by
  unfold Lib.decodeN
  rw [if_neg (by omega)]
  repeat' split
  all_goals (dsimp only; omega)
theorem get_nat (s : ByteArray) (i : Nat) (h : i < s.size) : (s.get! i).toNat = (s[i]).toNat := by
  have : s.get! i = s[i] := by
    simp [ByteArray.get!, getElem!_def]
    rw [Array.getElem?_eq_getElem h]; rfl
  rw [this]
theorem decode_pos (s : ByteArray) (p : Nat) : 1 ≤ (Utf8.decode s p).2 ∧ (Utf8.decode s p).2 ≤ 4 := by
  rw [Lib.decode_at]; exact dec_wd _ _ _ _ _
theorem decode_dig (s : ByteArray) (p c : Nat) (hc : (bl s)[p]? = some c) (h : c < 128) : Utf8.decode s p = (c, 1) := by
  have hp : p < s.size := by have := (List.getElem?_eq_some_iff.1 hc).1; rwa [bl_length] at this
  rw [bl_gets s p hp] at hc
  rw [Lib.decode_at, get_nat s p hp, Option.some.inj hc, dec_low _ _ _ _ _ h]
/-- what is no digit's byte begins no digit -/
theorem decode_not (s : ByteArray) (p c : Nat) (hc : (bl s)[p]? = some c) (h : ¬ (48 ≤ c ∧ c ≤ 57)) : ¬ (48 ≤ (Utf8.decode s p).1 ∧ (Utf8.decode s p).1 ≤ 57) ∧ (Utf8.decode s p).1 ≤ 1114111 := by
  have hp : p < s.size := by have := (List.getElem?_eq_some_iff.1 hc).1; rwa [bl_length] at this
  have hc' := hc
  rw [bl_gets s p hp] at hc
  by_cases h1 : c < 128
  · rw [decode_dig s p c hc' h1]; exact ⟨h, by simp only; omega⟩
  · have := dec_high (s.size - p) (s.get! p).toNat (s.get! (p + 1)).toNat (s.get! (p + 2)).toNat (s.get! (p + 3)).toNat (by rw [get_nat s p hp, Option.some.inj hc]; omega)
    rw [Lib.decode_at]; exact ⟨by omega, this.2⟩

end Go.Proofs.YtmlhibcbgdhadaaDoor.U
