import Derived.Test.YtolccoghlclidaaWholeMath
namespace Go.Proofs.Ytolccoghlclidaa
open Go.RowKit

theorem len_ways {a : Int} (h : ¬ lenB a = true) : a < -70368744177664 ∨ (-70368744177664 ≤ a ∧ 70368744177664 < a) := by
  simp only [lenB, decide_eq_true_eq] at h; omega
set_option maxHeartbeats 1000000 in
/-- a slice of length 0, a nil one too -/
theorem whole_none (a : Int) (p : Option Addr) (cap : Nat) (w : World) :
    Calls Try.prog 5 #[.int .i64 a, .slice p 0 cap] w fun e w' => e = .returned (.bool true) ∧ Below w.heap.size w w' := by
  by_cases ha : lenB a = true
  · obtain ⟨a1, a2⟩ := lenB_yes ha
    clear ha
    go_enter Try.func5, Try.ntmps5
    go_wp2_with fail
    refine (shown_any _).mono ?_
    rintro e w1 ⟨rfl, hb⟩
    go_wp2_with fail
    refine wp_loop_rounds 1 ?_
    rw [rounds_succ]
    go_wp2_with fail
    go_ret
    exact ⟨rfl, hb.alloc hb.size _⟩
  · rcases len_ways ha with g | ⟨g, g1⟩
    all_goals
      clear ha
      go_enter Try.func5, Try.ntmps5
      go_wp2_with fail
      refine (shown_any _).mono ?_
      rintro e w1 ⟨rfl, hb⟩
      go_wp2_with fail
      go_ret
      exact ⟨rfl, hb⟩
end Go.Proofs.Ytolccoghlclidaa
