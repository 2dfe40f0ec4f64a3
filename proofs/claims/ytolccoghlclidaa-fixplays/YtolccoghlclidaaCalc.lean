import Derived.Test.YtolccoghlclidaaTell2
namespace Go.Proofs.Ytolccoghlclidaa
open Go.RowKit

/-- the one or two numbers in a new block -/
theorem cells_one (w : World) (a : Int) (t : TypeId) : ∀ j, j < [a].length → (w.alloc (.cells #[.int .i64 a] t)).cell? ⟨w.heap.size, j, none⟩ = some (.int .i64 ([a].getD j 0)) := by
  intro j hj
  have : j = 0 := by simpa using hj
  subst this
  simp [go_sem]
theorem cells_two (w : World) (a b : Int) (t : TypeId) : ∀ j, j < [a, b].length → (w.alloc (.cells #[.int .i64 a, .int .i64 b] t)).cell? ⟨w.heap.size, j, none⟩ = some (.int .i64 ([a, b].getD j 0)) := by
  intro j hj
  have : j = 0 ∨ j = 1 := by simp at hj; omega
  rcases this with rfl | rfl <;> simp [go_sem]

set_option maxHeartbeats 400000 in
theorem add_any (c : Addr) (bad : Bool) (a b : Int) (w : World) (hc : w.cell? c = some (.bool bad)) (hf : w.frozen? c = false) (hcs : c.block < w.heap.size) :
    Calls Try.prog 19 #[.pointer (some c), .int .i64 a, .int .i64 b] w fun e w' => e = .returned (.int .i64 (toldV bad (allLen [a, b]) (lenB (a + b)) (cut (a + b)))) ∧ Upd c (toldB bad (allLen [a, b]) (lenB (a + b))) w w' := by
  go_enter Try.func19, Try.ntmps19
  go_wp2_with fail
  refine (tell_any 32 (by simp) c bad w.heap.size [a, b] (.agg #[.int .i64 a, .int .i64 b]) (cut (a + b)) (lenB (a + b)) _ (by simp) ?_ ?_ ?_ ?_ ?_ (cells_two w a b 3) ?_).mono ?_
  rotate_right
  · rintro e w' ⟨rfl, hu⟩
    go_wp2
    go_ret
    exact ⟨rfl, hu.from_alloc⟩
  · exact ((Upd.refl hc hf).alloc hcs _).cell
  · exact ((Upd.refl hc hf).alloc hcs _).froz
  · simp; omega
  · simp
  · omega
  · intro _ h W
    simp [allLen] at h
    have h1 := lenB_yes h.1; have h2 := lenB_yes h.2
    exact sum_any a b (by omega) (by omega) W

theorem wrap_neg64 {b : Int} (h1 : -70368744177664 ≤ b) (h2 : b ≤ 70368744177664) : wrap64 (-b) = -b := by unfold wrap64; omega

set_option maxHeartbeats 400000 in
theorem sub_any (c : Addr) (bad : Bool) (a b : Int) (w : World) (hc : w.cell? c = some (.bool bad)) (hf : w.frozen? c = false) (hcs : c.block < w.heap.size) :
    Calls Try.prog 17 #[.pointer (some c), .int .i64 a, .int .i64 b] w fun e w' => e = .returned (.int .i64 (toldV bad (allLen [a, b]) (lenB (a - b)) (cut (a - b)))) ∧ Upd c (toldB bad (allLen [a, b]) (lenB (a - b))) w w' := by
  go_enter Try.func17, Try.ntmps17
  go_wp2_with fail
  refine (tell_any 32 (by simp) c bad w.heap.size [a, b] (.agg #[.int .i64 a, .int .i64 (wrap64 (-b))]) (cut (a - b)) (lenB (a - b)) _ (by simp) ?_ ?_ ?_ ?_ ?_ (cells_two w a b 3) ?_).mono ?_
  rotate_right
  · rintro e w' ⟨rfl, hu⟩
    go_wp2
    go_ret
    exact ⟨rfl, hu.from_alloc⟩
  · exact ((Upd.refl hc hf).alloc hcs _).cell
  · exact ((Upd.refl hc hf).alloc hcs _).froz
  · simp; omega
  · simp
  · omega
  · intro _ h W
    simp [allLen] at h
    have h1 := lenB_yes h.1; have h2 := lenB_yes h.2
    rw [wrap_neg64 h2.1 h2.2, Int.sub_eq_add_neg]
    exact sum_any a (-b) (by omega) (by omega) W

set_option maxHeartbeats 400000 in
theorem neg_any (c : Addr) (bad : Bool) (a : Int) (w : World) (hc : w.cell? c = some (.bool bad)) (hf : w.frozen? c = false) (hcs : c.block < w.heap.size) :
    Calls Try.prog 22 #[.pointer (some c), .int .i64 a] w fun e w' => e = .returned (.int .i64 (toldV bad (allLen [a]) (lenB (-a)) (cut (-a)))) ∧ Upd c (toldB bad (allLen [a]) (lenB (-a))) w w' := by
  go_enter Try.func22, Try.ntmps22
  go_wp2_with fail
  refine (tell_any 32 (by simp) c bad w.heap.size [a] (.agg #[.int .i64 0, .int .i64 (wrap64 (-a))]) (cut (-a)) (lenB (-a)) _ (by simp) ?_ ?_ ?_ ?_ ?_ (cells_one w a 3) ?_).mono ?_
  rotate_right
  · rintro e w' ⟨rfl, hu⟩
    go_wp2
    go_ret
    exact ⟨rfl, hu.from_alloc⟩
  · exact ((Upd.refl hc hf).alloc hcs _).cell
  · exact ((Upd.refl hc hf).alloc hcs _).froz
  · simp; omega
  · simp
  · omega
  · intro _ h W
    simp [allLen] at h
    have h1 := lenB_yes h
    rw [wrap_neg64 h1.1 h1.2]
    have := sum_any 0 (-a) (by omega) (by omega) W
    rwa [Int.zero_add] at this

set_option maxHeartbeats 400000 in
theorem times_any (c : Addr) (bad : Bool) (a n : Int) (hn : -9223372036854775808 ≤ n) (hn' : n ≤ 9223372036854775807) (w : World) (hc : w.cell? c = some (.bool bad)) (hf : w.frozen? c = false) (hcs : c.block < w.heap.size) :
    Calls Try.prog 18 #[.pointer (some c), .int .i64 a, .int .i64 n] w fun e w' => e = .returned (.int .i64 (toldV bad (allLen [a]) (lenB (a * n)) (cut (a * n)))) ∧ Upd c (toldB bad (allLen [a]) (lenB (a * n))) w w' := by
  go_enter Try.func18, Try.ntmps18
  go_wp2_with fail
  refine (tell_any 33 (by simp) c bad w.heap.size [a] (.agg #[.int .i64 a, .int .i64 n]) (cut (a * n)) (lenB (a * n)) _ (by simp) ?_ ?_ ?_ ?_ ?_ (cells_one w a 3) ?_).mono ?_
  rotate_right
  · rintro e w' ⟨rfl, hu⟩
    go_wp2
    go_ret
    exact ⟨rfl, hu.from_alloc⟩
  · exact ((Upd.refl hc hf).alloc hcs _).cell
  · exact ((Upd.refl hc hf).alloc hcs _).froz
  · simp; omega
  · simp
  · omega
  · intro _ h W
    simp [allLen] at h
    have h1 := lenB_yes h
    exact product_any a n (by omega) (by omega) hn hn' W
end Go.Proofs.Ytolccoghlclidaa
