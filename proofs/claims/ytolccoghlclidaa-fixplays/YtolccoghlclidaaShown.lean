import Derived.Test.YtolccoghlclidaaScale
import Derived.Test.YtolccoghlclidaaShare2
namespace Go.Proofs.Ytolccoghlclidaa
open Go.RowKit

set_option maxHeartbeats 400000 in
theorem wrong_any (c : Addr) (bad : Bool) (w : World) (hc : w.cell? c = some (.bool bad)) :
    Calls Try.prog 13 #[.pointer (some c)] w fun e w' => e = .returned (.bool bad) ∧ w' = w := by
  go_enter Try.func13, Try.ntmps13
  go_wp2_with fail
  go_ret
  exact ⟨rfl, rfl⟩
set_option maxHeartbeats 400000 in
theorem new_any (w : World) :
    Calls Try.prog 9 #[] w fun e w' => e = .returned (.pointer (some ⟨w.heap.size, 0, none⟩)) ∧ w' = w.alloc (.cells #[.bool false] 44) := by
  go_enter Try.func9, Try.ntmps9
  go_wp2_with fail
  go_ret
  exact ⟨rfl, rfl⟩
set_option maxHeartbeats 400000 in
theorem clone_any (c : Addr) (bad : Bool) (w : World) (hc : w.cell? c = some (.bool bad)) :
    Calls Try.prog 11 #[.pointer (some c)] w fun e w' => e = .returned (.pointer (some ⟨w.heap.size, 0, none⟩)) ∧ w' = w.alloc (.cells #[.bool bad] 44) := by
  go_enter Try.func11, Try.ntmps11
  go_wp2_with fail
  go_ret
  exact ⟨rfl, rfl⟩

theorem new_cell (w : World) (b : Bool) (t : TypeId) : (w.alloc (.cells #[.bool b] t)).cell? ⟨w.heap.size, 0, none⟩ = some (.bool b) ∧ (w.alloc (.cells #[.bool b] t)).frozen? ⟨w.heap.size, 0, none⟩ = false ∧ w.heap.size < (w.alloc (.cells #[.bool b] t)).heap.size := by
  refine ⟨by simp [go_sem], by simp [go_sem], by simp⟩

set_option maxHeartbeats 1000000 in
theorem shown_any (w : World) :
    Calls Try.prog 8 #[] w fun e w' => e = .returned (.bool true) ∧ Below w.heap.size w w' := by
  obtain ⟨c, hc⟩ : ∃ c : Addr, c = ⟨w.heap.size, 0, none⟩ := ⟨_, rfl⟩
  have hcb : c.block = w.heap.size := by rw [hc]
  obtain ⟨n1, n2, n3⟩ := new_cell w false 44
  rw [← hc] at n1 n2
  have hb0 : Below w.heap.size w (w.alloc (.cells #[.bool false] 44)) := (Below.refl _ _).alloc (Nat.le_refl _) _
  have hnew : Hid (∀ W : World, W = w → Calls Try.prog 9 #[] W fun e w' => e = .returned (.pointer (some c)) ∧ w' = w.alloc (.cells #[.bool false] 44)) := by
    intro W hW; subst hW; rw [hc]; exact new_any W
  rw [← hcb] at n3
  obtain ⟨W0, hW0⟩ : ∃ W0, w.alloc (.cells #[.bool false] 44) = W0 := ⟨_, rfl⟩
  rw [hW0] at n1 n2 n3 hb0 hnew
  have HC : Hid (c.block = w.heap.size) := hcb
  clear hW0 hc hcb
  go_enter Try.func8, Try.ntmps8
  go_wp2_with fail
  refine (hnew.out _ rfl).mono ?_
  rintro e w1 ⟨rfl, rfl⟩
  go_wp2_with fail
  refine (scale_any c false 5 1 2 _ n1 n2 n3).mono ?_
  rintro e w2 ⟨rfl, u1⟩
  rw [show toldB false (allLen [5]) (ratB 5 1 2) = false by decide +kernel] at u1
  rw [show toldV false (allLen [5]) (ratB 5 1 2) (ratN 5 1 2) = 3 by decide +kernel]
  go_wp2_with fail
  have u2 := u1.cell; have u3 := u1.froz; have u4 := Nat.lt_of_lt_of_le n3 u1.size
  refine (scale_any c false (-5) 1 2 _ u2 u3 u4).mono ?_
  rintro e w3 ⟨rfl, v1⟩
  rw [show toldB false (allLen [-5]) (ratB (-5) 1 2) = false by decide +kernel] at v1
  rw [show toldV false (allLen [-5]) (ratB (-5) 1 2) (ratN (-5) 1 2) = -3 by decide +kernel]
  clear n1 n2 u2 u3
  have u5 := u1.trans v1
  clear v1 u1 u4
  go_wp2_with fail
  have u2 := u5.cell; have u3 := u5.froz; have u4 := Nat.lt_of_lt_of_le n3 u5.size
  refine (sub_any c false _ _ _ u2 u3 u4).mono ?_
  rintro e w4 ⟨rfl, v1⟩
  rw [show toldB false (allLen [-70368744177664, -70368744177664]) (lenB (-70368744177664 - -70368744177664)) = false by decide +kernel] at v1
  rw [show toldV false (allLen [-70368744177664, -70368744177664]) (lenB (-70368744177664 - -70368744177664)) (cut (-70368744177664 - -70368744177664)) = 0 by decide +kernel]
  clear u2 u3
  have u6 := u5.trans v1
  clear v1 u5 u4
  go_wp2_with fail
  have u2 := u6.cell; have u3 := u6.froz; have u4 := Nat.lt_of_lt_of_le n3 u6.size
  refine (times_any c false _ _ (by omega) (by omega) _ u2 u3 u4).mono ?_
  rintro e w5 ⟨rfl, v1⟩
  rw [show toldB false (allLen [35184372088832]) (lenB (35184372088832 * -2)) = false by decide +kernel] at v1
  rw [show toldV false (allLen [35184372088832]) (lenB (35184372088832 * -2)) (cut (35184372088832 * -2)) = -70368744177664 by decide +kernel]
  clear u2 u3
  have u7 := u6.trans v1
  clear v1 u6 u4
  go_wp2_with fail
  have u2 := u7.cell; have u3 := u7.froz; have u4 := Nat.lt_of_lt_of_le n3 u7.size
  refine (wrong_any c false _ u2).mono ?_
  rintro e w6 ⟨rfl, rfl⟩
  go_wp2_with fail
  refine (add_any c false _ _ _ u2 u3 u4).mono ?_
  rintro e w7 ⟨rfl, v1⟩
  rw [show toldB false (allLen [70368744177664, 1]) (lenB (70368744177664 + 1)) = true by decide +kernel] at v1
  rw [show toldV false (allLen [70368744177664, 1]) (lenB (70368744177664 + 1)) (cut (70368744177664 + 1)) = 0 by decide +kernel]
  clear u2 u3
  have u8 := u7.trans v1
  clear v1 u7 u4
  go_wp2_with fail
  have u2 := u8.cell; have u3 := u8.froz; have u4 := Nat.lt_of_lt_of_le n3 u8.size
  refine (add_any c true _ _ _ u2 u3 u4).mono ?_
  rintro e w8 ⟨rfl, v1⟩
  rw [show toldB true (allLen [1, 1]) (lenB (1 + 1)) = true by decide +kernel] at v1
  rw [show toldV true (allLen [1, 1]) (lenB (1 + 1)) (cut (1 + 1)) = 0 by decide +kernel]
  clear u2 u3
  have u9 := u8.trans v1
  clear v1 u8 u4
  go_wp2_with fail
  have u2 := u9.cell
  refine (wrong_any c true _ u2).mono ?_
  rintro e w9 ⟨rfl, rfl⟩
  go_wp2_with fail
  refine (share_any _ _ _ _ _).mono ?_
  rintro e w10 ⟨rfl, k1, rfl⟩
  rw [show shareV 10 2 3 3 = 4 by decide +kernel]
  go_wp2_with fail
  refine (share_any _ _ _ _ _).mono ?_
  rintro e w11 ⟨rfl, k2, rfl⟩
  rw [show shareV (-10) 0 1 3 = -4 by decide +kernel]
  go_wp2_with fail
  go_ret
  exact ⟨rfl, below_drewN (hb0.trans (u9.toBelow (Nat.le_of_eq HC.out.symm) (by have := HC.out; omega))) _⟩
end Go.Proofs.Ytolccoghlclidaa
