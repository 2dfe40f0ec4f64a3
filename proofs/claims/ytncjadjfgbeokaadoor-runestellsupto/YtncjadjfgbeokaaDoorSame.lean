/- same, the law's own: two lists that are alike. -/
import Derived.Test.YtncjadjfgbeokaaDoorRange
import Derived.Deep.QuietTactic
import Derived.BigQuiet
namespace Go.Proofs.YtncjadjfgbeokaaDoor
open Go.RowKit

/-- ints alone -/
def Ints (xs : List Value) : Prop := ∀ u ∈ xs, ∃ z, u = .int .i64 z
theorem flat_ints (xs : List (Nat × Nat)) : Ints (flat xs) := by
  intro u hu
  simp only [flat, List.mem_flatMap] at hu
  obtain ⟨x, _, hu⟩ := hu
  rcases List.mem_cons.1 hu with rfl | hu
  · exact ⟨_, rfl⟩
  · rw [List.mem_singleton] at hu; exact ⟨_, hu⟩
theorem Rd.drew {W : World} {b : Nat} {base : Option Addr} {xs : List Value} (h : Rd W b base xs) (n : Nat) : Rd (W.drewN n) b base xs := h.of (below_drewN (Below.refl _ _) n)

set_option maxRecDepth 100000 in
set_option maxHeartbeats 4000000 in
theorem same_true (w : World) (xs : List Value) (ba bb : Option Addr) (na nb ca cb : Nat) (hx : Ints xs) (ha : Rd w na ba xs) (hb : Rd w nb bb xs) (hn : xs.length ≤ 4194304) :
    Calls Tryd.prog 12 #[.slice ba xs.length ca, .slice bb xs.length cb] w fun e w' => e = .returned (.bool true) ∧ Below w.heap.size w w' := by
  have HA : Hid (Rd w na ba xs) := ha
  have HB : Hid (Rd w nb bb xs) := hb
  clear ha hb
  obtain ⟨n, hne⟩ : ∃ n, xs.length = n := ⟨_, rfl⟩
  have HN : Hid (xs.length = n) := hne
  rw [hne] at hn ⊢
  clear hne
  have hn1 : (n : Int) ≤ 4194304 := by omega
  go_enter Tryd.func12, Tryd.ntmps12
  go_wp2
  go_loopw [5] (fun i wr => ∃ k : Nat, k ≤ n ∧ i = .int .i64 k ∧ Below w.heap.size w wr) (fun i _ => n - (RowKit.intOf i).toNat)
  case atStart => exact ⟨0, by omega, rfl, Below.refl _ _⟩
  case round =>
    obtain ⟨k, hk, rfl, hbl⟩ := hrel
    have HBL : Hid (Below w.heap.size w wr) := hbl
    clear hbl
    by_cases hlt : k < n
    · obtain ⟨u, hu⟩ : ∃ u, xs[k]? = some u := ⟨xs[k]'(by rw [HN.out]; exact hlt), List.getElem?_eq_getElem _⟩
      obtain ⟨z, rfl⟩ := hx u (List.mem_of_getElem? hu)
      obtain ⟨ga, e1, _, _, h1⟩ := (HA.out.of HBL.out) k _ hu
      obtain ⟨gb, e2, _, _, h2⟩ := (HB.out.of HBL.out) k _ hu
      subst e1
      subst e2
      have hlt2 : (k : Int) < (n : Int) := by omega
      have hk0 : (0 : Int) ≤ (k : Int) := by omega
      go_wp2
      go_quiet (fail)
      go_wp2
      go_roundw
      case rel => exact ⟨k + 1, by omega, by go_num, below_drewN HBL.out _⟩
      case measure => simp [RowKit.intOf]; omega
    · have hlt2 : ¬ (k : Int) < (n : Int) := by omega
      go_wp2
      go_ret
      exact ⟨rfl, HBL.out⟩
end Go.Proofs.YtncjadjfgbeokaaDoor
