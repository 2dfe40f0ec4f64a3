/- The reference: a pair behind another. -/
import Derived.Test.YtdinlaoimpoolaaRefGlyph
namespace Go.Proofs.Ytdinlaoimpoolaa
open Go.RowKit

def bhd (a b : Pr) : Bool := decide (b.1 < a.1) || (decide (a.1 = b.1) && decide (b.2.1 < a.2.1))
theorem bhd_ord (a b : Pr) : bhd a b = decide (ordI b a < 0) := by
  have h := ord_lt b a
  unfold ltP at h
  unfold bhd
  by_cases hc : ordI b a < 0
  · rw [decide_eq_true hc]
    rcases h.1 hc with h1 | ⟨h1, h2⟩
    · rw [decide_eq_true h1]; rfl
    · rw [decide_eq_true h2, decide_eq_true h1.symm]; simp
  · rw [decide_eq_false hc]
    have n1 : ¬ b.1 < a.1 := fun e => hc (h.2 (.inl e))
    rw [decide_eq_false n1]
    by_cases h2 : a.1 = b.1
    · have n2 : ¬ b.2.1 < a.2.1 := fun e => hc (h.2 (.inr ⟨h2.symm, e⟩))
      rw [decide_eq_false n2]; simp
    · rw [decide_eq_false h2]; rfl
set_option maxRecDepth 100000 in
set_option maxHeartbeats 2000000 in
theorem behind_any (a b : Pr) (w : World) : Calls Try.prog 69 #[.agg (cp a).toArray, .agg (cp b).toArray] w fun e w' => e = .returned (.bool (bhd a b)) ∧ Below w.heap.size w w' := by
  obtain ⟨a0, a1, a2, a3, a4⟩ := a
  obtain ⟨b0, b1, b2, b3, b4⟩ := b
  have B0 : Below w.heap.size w ((w.alloc (.cells (cp (a0, a1, a2, a3, a4)).toArray 35)).alloc (.cells (cp (b0, b1, b2, b3, b4)).toArray 35)) := ((Below.refl _ w).alloc (Nat.le_refl _) _).alloc (by simp) _
  have HB := hid B0
  clear B0
  simp only [cp] at *
  by_cases h1 : b0 < a0
  · have e : bhd (a0, a1, a2, a3, a4) (b0, b1, b2, b3, b4) = true := by simp [bhd, h1]
    rw [e]
    go_enter Try.func69, Try.ntmps69
    go_wp2_with fail
    go_ret
    exact ⟨rfl, HB.out⟩
  · by_cases h2 : a0 = b0
    · subst h2
      by_cases h3 : b1 < a1
      · have e : bhd (a0, a1, a2, a3, a4) (a0, b1, b2, b3, b4) = true := by simp [bhd, h3]
        rw [e]
        go_enter Try.func69, Try.ntmps69
        go_wp2_with fail
        go_ret
        exact ⟨by simp, HB.out⟩
      · have e : bhd (a0, a1, a2, a3, a4) (a0, b1, b2, b3, b4) = false := by simp [bhd, h3]
        rw [e]
        go_enter Try.func69, Try.ntmps69
        go_wp2_with fail
        go_ret
        exact ⟨by simp, HB.out⟩
    · have e : bhd (a0, a1, a2, a3, a4) (b0, b1, b2, b3, b4) = false := by simp [bhd, h1, h2]
      rw [e]
      go_enter Try.func69, Try.ntmps69
      go_wp2_with fail
      go_ret
      exact ⟨by simp, HB.out⟩
end Go.Proofs.Ytdinlaoimpoolaa
