/- UnitGrows: greater numbers are no less lengths; noughts change nothing; whole ems and inches are so many times one. -/
import Derived.Test.YtapnmopcmlcfbaaDoorDgl
import Derived.Deep.Cut
import Derived.Deep.CutRange
namespace Go.Proofs.YtapnmopcmlcfbaaDoor
open Go.RowKit

/-! ### The mathematics -/
theorem near_mono {V V' d y : Nat} (h : V ≤ V') (hy : near V' d = some y) : ∃ x, near V d = some x ∧ x ≤ y := by
  have hdiv := Nat.div_le_div_right (c := d) h
  have hdv := Nat.div_add_mod V d
  have hd' := Nat.div_add_mod V' d
  unfold near at hy ⊢
  split at hy
  · cases hy
  · next hn =>
    injection hy with hy
    have hno : ¬ (70368744177664 < V / d ∨ (V / d = 70368744177664 ∧ 0 < V % d)) := by
      rintro (g | ⟨g1, g2⟩)
      · omega
      · have e : V' / d = 70368744177664 := by omega
        have e2 : V' % d = 0 := by omega
        rw [g1] at hdv
        rw [e, e2] at hd'
        omega
    rw [if_neg hno]
    refine ⟨_, rfl, ?_⟩
    rw [← hy]
    by_cases hq : V / d = V' / d
    · rw [hq] at hdv ⊢
      have : V % d ≤ V' % d := by omega
      split <;> split <;> omega
    · split <;> split <;> omega
theorem near_times {V d : Nat} : near (V * 10) (d * 10) = near V d := by
  unfold near
  rw [Nat.mul_div_mul_right _ _ (by decide), Nat.mul_mod_mul_right]
  have h1 : (70368744177664 < V / d ∨ V / d = 70368744177664 ∧ 0 < V % d * 10) ↔ (70368744177664 < V / d ∨ V / d = 70368744177664 ∧ 0 < V % d) := by omega
  have h2 : (d * 10 ≤ 2 * (V % d * 10)) ↔ (d ≤ 2 * (V % d)) := by omega
  simp only [h1, h2]
/-- the units in the statement's order -/
def uU : Nat → ByteArray
  | 0 => uT0 | 1 => uT1 | 2 => uT3 | 3 => uT2 | 4 => uT5 | _ => uT4
theorem uU_facts (i : Nat) (size : Nat) (hs : size ≤ 70368744177664) : (∀ c, (bl (uU i)).head? = some c → ¬ (48 ≤ c ∧ c ≤ 57) ∧ c ≠ 46) ∧ (uU i).size ≤ 2 ∧ ∃ n d : Nat, unitOf (bl (uU i)) size = some (n, d) ∧ n ≤ 70368744177664 ∧ (d = 1 ∨ d = 127) := by
  have hd : ∀ {l : List Nat} {a : Nat}, (∀ c, l.head? = some c → c = a) → ¬ (48 ≤ a ∧ a ≤ 57) ∧ a ≠ 46 → ∀ c, l.head? = some c → ¬ (48 ≤ c ∧ c ≤ 57) ∧ c ≠ 46 := fun h1 h2 c hc => by rw [h1 c hc]; exact h2
  match i with
  | 0 => exact ⟨(fun c hc => by cases hc), by decide, 65536, 1, rfl, by decide, .inl rfl⟩
  | 1 => exact ⟨hd (a := 112) (fun c hc => (Option.some.inj hc).symm) (by decide), by decide, 65536, 1, rfl, by decide, .inl rfl⟩
  | 2 => exact ⟨hd (a := 109) (fun c hc => (Option.some.inj hc).symm) (by decide), by decide, 23592960, 127, rfl, by decide, .inr rfl⟩
  | 3 => exact ⟨hd (a := 105) (fun c hc => (Option.some.inj hc).symm) (by decide), by decide, 4718592, 1, rfl, by decide, .inl rfl⟩
  | 4 => exact ⟨hd (a := 101) (fun c hc => (Option.some.inj hc).symm) (by decide), by decide, size, 1, rfl, hs, .inl rfl⟩
  | i + 5 => exact ⟨hd (a := 115) (fun c hc => (Option.some.inj hc).symm) (by decide), (show uT4.size ≤ 2 by decide), 1, 1, rfl, by decide, .inl rfl⟩
/-- what is read of a number in two parts -/
theorem rd_two {a k fa : Nat} {u : List Nat} {size n d : Nat} (hs : size ≤ 70368744177664) (ha : a < 100000000000000) (hk : 0 < k ∧ k ≤ 15) (hf : fa < 10000) (hu : ∀ c, u.head? = some c → ¬ (48 ≤ c ∧ c ≤ 57) ∧ c ≠ 46) (hun : unitOf u size = some (n, d)) :
    rd (dgl a k ++ [46] ++ dgl fa 4 ++ u) (size : Int) = nearO (near ((a * 10000 + fa) * n) (d * 10000)) := by
  have l1 := dgl_le 15 a k (by omega) hk.2
  have l2 := dgl_ge k a
  have l3 := dgl_le 4 fa 4 (by omega) (Nat.le_refl _)
  have l4 := dgl_ge 4 fa
  have hl : (dgl fa 4).length = 4 := by omega
  have h := form_frac (dgl_dgs a k) (by omega) l1 (dgl_dgs fa 4) (by omega) l3 (fun c hc => (hu c hc).1)
  rw [num_append, dgl_num, num_from, dgl_num, hl] at h
  rw [rd_near h (n := n) (d := d) (by rw [Int.toNat_natCast]; exact hun) (by rintro ⟨_, e⟩; omega)]
theorem rd_one {a k : Nat} {u : List Nat} {size n d : Nat} (hs : size ≤ 70368744177664) (ha : a < 100000000000000) (hk : 0 < k ∧ k ≤ 15) (hu : ∀ c, u.head? = some c → ¬ (48 ≤ c ∧ c ≤ 57) ∧ c ≠ 46) (hun : unitOf u size = some (n, d)) :
    rd (dgl a k ++ u) (size : Int) = nearO (near (a * n) d) := by
  have l1 := dgl_le 15 a k (by omega) hk.2
  have l2 := dgl_ge k a
  have h := form_whole (dgl_dgs a k) (by omega) l1 hu
  rw [dgl_num] at h
  rw [rd_near h (n := n) (d := d) (by rw [Int.toNat_natCast]; exact hun) (by rintro ⟨_, e⟩; omega), Nat.pow_zero, Nat.mul_one]
theorem rd_nought {a k : Nat} {u : List Nat} {size n d : Nat} (hs : size ≤ 70368744177664) (ha : a < 100000000000000) (hk : 0 < k ∧ k ≤ 15) (hu : ∀ c, u.head? = some c → ¬ (48 ≤ c ∧ c ≤ 57) ∧ c ≠ 46) (hun : unitOf u size = some (n, d)) :
    rd (dgl a k ++ [46, 48] ++ u) (size : Int) = nearO (near (a * n) d) := by
  have l1 := dgl_le 15 a k (by omega) hk.2
  have l2 := dgl_ge k a
  have h := form_frac (F := [48]) (dgl_dgs a k) (by omega) l1 (fun c hc => by rw [List.mem_singleton] at hc; omega) (by decide) (by decide) (fun c hc => (hu c hc).1)
  rw [num_append, dgl_num] at h
  have e : dgl a k ++ [46] ++ [48] ++ u = dgl a k ++ [46, 48] ++ u := by simp
  rw [e] at h
  rw [rd_near h (n := n) (d := d) (by rw [Int.toNat_natCast]; exact hun) (by rintro ⟨_, e⟩; omega)]
  have e2 : num a [48] * n = a * n * 10 := by
    show (10 * a + (48 - 48)) * n = a * n * 10
    rw [Nat.sub_self, Nat.add_zero, Nat.mul_assoc, Nat.mul_comm]
  rw [e2, show d * 10 ^ [48].length = d * 10 from rfl, near_times]
/-- what nearO tells -/
theorem near_e {p d : Nat} {x e : Int} (hx : (nearO (near p d)).1 = x) (he : (nearO (near p d)).2 = e) : (e = 0 ∨ e = 81) ∧ 0 ≤ x ∧ x ≤ 70368744177664 := by
  rcases h : near p d with _ | q
  · rw [h] at hx he
    exact ⟨.inr he.symm, by rw [← hx]; decide, by rw [← hx]; decide⟩
  · rw [h] at hx he
    have := near_le h
    have hx2 : (q : Int) = x := hx
    exact ⟨.inl he.symm, by omega, by omega⟩
/-- P8.5: of two numbers in one unit -/
theorem near_less {p p' d : Nat} {x e x' e' : Int} (h : p ≤ p') (hx : (nearO (near p d)).1 = x) (he : (nearO (near p d)).2 = e) (hx' : (nearO (near p' d)).1 = x') (he' : (nearO (near p' d)).2 = e') (h0 : e' = 0) : e = 0 ∧ x ≤ x' := by
  rcases h2 : near p' d with _ | y
  · rw [h2] at he'
    rw [← he'] at h0
    cases h0
  · obtain ⟨x1, h3, h4⟩ := near_mono h h2
    rw [h2] at hx'
    rw [h3] at hx he
    have e1 : (x1 : Int) = x := hx
    have e2 : (y : Int) = x' := hx'
    exact ⟨he.symm, by omega⟩
theorem near_whole {V : Nat} : near V 1 = none ∨ near V 1 = some V := by
  by_cases h : V ≤ 70368744177664
  · exact .inr (near_one h)
  · exact .inl (near_none (.inl (by rw [Nat.div_one]; omega)))
end Go.Proofs.YtapnmopcmlcfbaaDoor
