import Derived.Test.YtolccoghlclidaaShown
namespace Go.Proofs.Ytolccoghlclidaa
open Go.RowKit

/-- a raw number, brought below n -/
theorem pick_any (c n : Int) (h0 : -9223372036854775808 ≤ c) (h1 : c ≤ 9223372036854775807) (hn : 0 < n) (hn1 : n ≤ 9223372036854775807) (w : World) :
    Calls Try.prog 10 #[.int .i64 c, .int .i64 n] w fun e w' => ∃ v : Int, e = .returned (.int .i64 v) ∧ 0 ≤ v ∧ v < n ∧ w' = w := by
  by_cases hc : c < 0
  · have h2 : 0 ≤ -(c + 1) := by omega
    have h3 := Int.emod_nonneg (-(c + 1)) (show n ≠ 0 by omega)
    have h4 := Int.emod_lt_of_pos (-(c + 1)) hn
    have e : Hid (-((c + 1).tmod n) = -(c + 1) % n) := by unfold Hid; rw [← Int.neg_tmod, Int.tmod_eq_emod_of_nonneg h2]
    go_enter Try.func10, Try.ntmps10
    go_wp2_with fail
    go_ret
    exact ⟨_, rfl, by rw [e.out]; exact h3, by rw [e.out]; exact h4, rfl⟩
  · have h3 := Int.emod_nonneg c (show n ≠ 0 by omega)
    have h4 := Int.emod_lt_of_pos c hn
    go_enter Try.func10, Try.ntmps10
    go_wp2_with fail
    go_ret
    exact ⟨_, rfl, h3, h4, rfl⟩

/-- the sum of a list -/
def sumL : List Int → Int
  | [] => 0
  | x :: r => x + sumL r
theorem sumL_append (a b : List Int) : sumL (a ++ b) = sumL a + sumL b := by
  induction a with
  | nil => simp [sumL]
  | cons x r ih => simp [sumL, ih]; omega
theorem sumL_nonneg (l : List Int) (h : ∀ x ∈ l, 0 ≤ x) : 0 ≤ sumL l := by
  induction l with
  | nil => simp [sumL]
  | cons x r ih =>
    have h1 := h x (by simp); have h2 := ih fun y hy => h y (by simp [hy])
    simp only [sumL]; omega
/-- what the first loop gathers -/
structure Fil (L : List Int) (A : Int) : Prop where
  eq : A = sumL L
  le : A ≤ 70368744177664
  each : ∀ x ∈ L, 0 ≤ x
theorem Fil.nn {L : List Int} {A : Int} (h : Fil L A) : 0 ≤ A := by rw [h.eq]; exact sumL_nonneg L h.each
theorem Fil.start : Fil [] 0 := ⟨rfl, by omega, by simp⟩
theorem Fil.more {L : List Int} {A v : Int} (h : Fil L A) (hv : 0 ≤ v) (hA : A + v ≤ 70368744177664) : Fil (L ++ [v]) (A + v) := by
  refine ⟨?_, hA, ?_⟩
  · rw [sumL_append, ← h.eq]; simp [sumL]
  · intro x hx
    rcases List.mem_append.1 hx with g | g
    · exact h.each x g
    · simp at g; omega
/-- what stands ahead of the i-th -/
theorem Fil.at {L : List Int} {A : Int} (h : Fil L A) {i : Nat} (hi : i < L.length) : 0 ≤ sumL (L.take i) ∧ 0 ≤ L[i] ∧ sumL (L.take (i + 1)) = sumL (L.take i) + L[i] ∧ sumL (L.take i) + L[i] ≤ A := by
  have e : sumL (L.take (i + 1)) = sumL (L.take i) + L[i] := by
    rw [List.take_succ_eq_append_getElem hi, sumL_append]; simp [sumL]
  have e2 : A = sumL (L.take (i + 1)) + sumL (L.drop (i + 1)) := by rw [← sumL_append, List.take_append_drop]; exact h.eq
  have n1 := sumL_nonneg (L.take i) fun x hx => h.each x (List.mem_of_mem_take hx)
  have n2 := sumL_nonneg (L.drop (i + 1)) fun x hx => h.each x (List.mem_of_mem_drop hx)
  have n3 := h.each L[i] (List.getElem_mem hi)
  exact ⟨n1, n3, e, by omega⟩

/-- one share more -/
theorem share_step {a T l all : Int} (ha : lenB a = true) (h0 : 0 ≤ T) (h1 : 0 ≤ l) (h2 : T + l ≤ all) (h3 : 1 ≤ all) (h4 : all ≤ 70368744177664) :
    (l = 0 → shareV a T (T + l) all = 0) ∧ (0 ≤ a → 0 ≤ shareV a T (T + l) all) ∧ (a ≤ 0 → shareV a T (T + l) all ≤ 0) ∧
    (shareV a T (T + l) all - 1) * all < a * l ∧ a * l < (shareV a T (T + l) all + 1) * all ∧ a * T / all + shareV a T (T + l) all = a * (T + l) / all := by
  rw [share_in ⟨ha, h0, by omega, h2, h3, h4⟩]
  have e1 := Int.emod_add_mul_ediv (a * T) all
  have e2 := Int.emod_add_mul_ediv (a * (T + l)) all
  have r0 := Int.emod_nonneg (a * T) (show all ≠ 0 by omega)
  have r1 := Int.emod_lt_of_pos (a * T) (show 0 < all by omega)
  have s0 := Int.emod_nonneg (a * (T + l)) (show all ≠ 0 by omega)
  have s1 := Int.emod_lt_of_pos (a * (T + l)) (show 0 < all by omega)
  have m : a * (T + l) = a * T + a * l := Int.mul_add _ _ _
  refine ⟨?_, ?_, ?_, ?_, ?_, by omega⟩
  · rintro rfl; rw [Int.add_zero]; omega
  · intro h
    have : 0 ≤ a * l := Int.mul_nonneg h h1
    have := Int.ediv_le_ediv (show 0 < all by omega) (show a * T ≤ a * (T + l) by omega)
    omega
  · intro h
    have : a * l ≤ 0 := Int.mul_nonpos_of_nonpos_of_nonneg h h1
    have := Int.ediv_le_ediv (show 0 < all by omega) (show a * (T + l) ≤ a * T by omega)
    omega
  · rw [Int.sub_mul, Int.sub_mul, Int.one_mul, Int.mul_comm _ all, Int.mul_comm _ all]; omega
  · rw [Int.add_mul, Int.sub_mul, Int.one_mul, Int.mul_comm _ all, Int.mul_comm _ all]; omega
/-- where all are small nothing wraps -/
theorem small_prod {a l : Int} (h1 : -65536 < a) (h2 : a < 65536) (h3 : 0 ≤ l) (h4 : l < 1099511627776) : -72057594037927936 ≤ a * l ∧ a * l ≤ 72057594037927936 := by
  have m := mag_mul a l
  have m1 : mag a ≤ 65536 := by unfold mag; split <;> omega
  have m2 : mag l ≤ 1099511627776 := by unfold mag; split <;> omega
  have m3 : mag a * mag l ≤ 65536 * 1099511627776 := Int.mul_le_mul m1 m2 (mag_nonneg _) (by omega)
  rw [m] at m3
  unfold mag at m3
  split at m3 <;> omega
end Go.Proofs.Ytolccoghlclidaa
