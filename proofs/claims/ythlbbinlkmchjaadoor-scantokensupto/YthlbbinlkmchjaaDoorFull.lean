/- The library's FullRuneInString, and standing over it: how many bytes can stand. -/
import Derived.Test.YthlbbinlkmchjaaDoorSmall
import Derived.Lib.Walk
import Derived.Lib.Strings
import Derived.Lib.IndexBytes
import Derived.Laws.Strings3
import Derived.Laws.BitsLemmas
import Derived.Lib.DecodeNEq
namespace Go.Proofs.YthlbbinlkmchjaaDoor
open Go.RowKit Go.Lib

/-- the library's two tables as start-up code lays them -/
structure Tb (w : World) : Prop where
  first : ∀ c, c < 256 → w.cell? ⟨1, c, none⟩ = some (.int .u8 (firstT c))
  range : ∀ i, i < 16 → w.cell? ⟨2, 2 * i, none⟩ = some (.int .u8 (accLo i)) ∧ w.cell? ⟨2, 2 * i + 1, none⟩ = some (.int .u8 (accHi i))
  size : 3 ≤ w.heap.size
theorem Tb.of {B : Nat} {w w' : World} (h : Tb w) (hb : Below B w w') (hB : 3 ≤ B) : Tb w' :=
  ⟨fun c hc => (World.cell?_of_block (hb.block 1 (by omega))).trans (h.first c hc),
   fun i hi => ⟨(World.cell?_of_block (hb.block 2 (by omega))).trans (h.range i hi).1, (World.cell?_of_block (hb.block 2 (by omega))).trans (h.range i hi).2⟩,
   Nat.le_trans h.size hb.size⟩

theorem below_drewN {B : Nat} {a w : World} (h : Below B a w) (n : Nat) : Below B a (w.drewN n) := by
  induction n with
  | zero => exact h
  | succ n ih => exact ih.drew
theorem first_ways (b : Nat) : firstT b = 240 ∨ firstT b = 241 ∨ firstT b = 2 ∨ firstT b = 19 ∨ firstT b = 3 ∨ firstT b = 35 ∨ firstT b = 52 ∨ firstT b = 4 ∨ firstT b = 68 := by
  unfold firstT
  repeat' split
  all_goals simp
/-- FullRuneInString, as a function -/
def full (n a b c : Nat) : Bool :=
  decide (0 < n ∧ (firstT a % 8 ≤ n ∨ (1 < n ∧ (b < accLo (firstT a / 16) ∨ accHi (firstT a / 16) < b)) ∨ (2 < n ∧ (c < 128 ∨ 191 < c))))
theorem full_yes {n a b c : Nat} (h : 0 < n ∧ (firstT a % 8 ≤ n ∨ (1 < n ∧ (b < accLo (firstT a / 16) ∨ accHi (firstT a / 16) < b)) ∨ (2 < n ∧ (c < 128 ∨ 191 < c)))) : full n a b c = true := decide_eq_true h
theorem full_no {n a b c : Nat} (h : ¬ (0 < n ∧ (firstT a % 8 ≤ n ∨ (1 < n ∧ (b < accLo (firstT a / 16) ∨ accHi (firstT a / 16) < b)) ∨ (2 < n ∧ (c < 128 ∨ 191 < c))))) : full n a b c = false := decide_eq_false h

set_option maxRecDepth 100000 in
set_option maxHeartbeats 4000000 in
theorem full_any (s : ByteArray) (w : World) (hT : Tb w) :
    Calls Tryd.prog 91 #[.string s] w fun e w' => e = .returned (.bool (full s.size (s.get! 0).toNat (s.get! 1).toNat (s.get! 2).toNat)) ∧ Below w.heap.size w w' := by
  by_cases h0 : s.size = 0
  · have hz : (s.size : Int) = 0 := by omega
    have HF : Hid (full s.size (s.get! 0).toNat (s.get! 1).toNat (s.get! 2).toNat = false) := full_no (by omega)
    go_enter Tryd.func91, Tryd.ntmps91
    go_wp2
    go_ret
    exact ⟨ret_bool HF.out.symm, Below.refl _ _⟩
  have hz : ¬ (s.size : Int) = 0 := by omega
  have hz0 : (0 : Int) < (s.size : Int) := by omega
  obtain ⟨x0, hx0⟩ : ∃ x0, s.get! 0 = x0 := ⟨_, rfl⟩
  obtain ⟨x1, hx1⟩ : ∃ x1, s.get! 1 = x1 := ⟨_, rfl⟩
  obtain ⟨x2, hx2⟩ : ∃ x2, s.get! 2 = x2 := ⟨_, rfl⟩
  have get : ∀ i (h : i < s.size), s[i]'h = s.get! i := fun i h => by
    cases s with
    | mk d => exact (getElem!_pos d i h).symm
  have hs0 : s[0]'(by omega) = x0 := by rw [← hx0]; exact get 0 (by omega)
  have l0 := x0.toNat_lt; have l1 := x1.toNat_lt; have l2 := x2.toNat_lt
  rw [hx0, hx1, hx2]
  have hc0 := hT.first x0.toNat (by omega)
  have HY : Hid (∀ n, 0 < n ∧ (firstT x0.toNat % 8 ≤ n ∨ (1 < n ∧ (x1.toNat < accLo (firstT x0.toNat / 16) ∨ accHi (firstT x0.toNat / 16) < x1.toNat)) ∨ (2 < n ∧ (x2.toNat < 128 ∨ 191 < x2.toNat))) → full n x0.toNat x1.toNat x2.toNat = true) := fun n h => full_yes h
  have HN : Hid (∀ n, ¬ (0 < n ∧ (firstT x0.toNat % 8 ≤ n ∨ (1 < n ∧ (x1.toNat < accLo (firstT x0.toNat / 16) ∨ accHi (firstT x0.toNat / 16) < x1.toNat)) ∨ (2 < n ∧ (x2.toNat < 128 ∨ 191 < x2.toNat)))) → full n x0.toNat x1.toNat x2.toNat = false) := fun n h => full_no h
  rcases first_ways x0.toNat with hX | hX | hX | hX | hX | hX | hX | hX | hX
  · rw [hX] at hc0 HY
    clear hT hX HN
    go_enter Tryd.func91, Tryd.ntmps91
    go_wp2
    go_ret
    exact ⟨ret_bool (HY.out _ (by omega)).symm, Below.refl _ _⟩
  · rw [hX] at hc0 HY
    clear hT hX HN
    have hg : (1 : Int) ≤ (s.size : Int) := by omega
    go_enter Tryd.func91, Tryd.ntmps91
    go_wp2
    all_goals first | (exfalso; omega) | skip
    go_ret
    exact ⟨ret_bool (HY.out _ (by omega)).symm, Below.refl _ _⟩
  · have ha0 := (hT.range 0 (by omega)).1
    have ha1 := (hT.range 0 (by omega)).2
    rw [hX] at hc0 HY HN
    simp only [accLo, accHi, Nat.reduceMul, Nat.reduceAdd, Nat.reduceEqDiff, if_true, if_false, Nat.reduceMod, Nat.reduceDiv] at ha0 ha1 HY HN
    clear hT hX
    by_cases hn : 2 ≤ s.size
    · have hz1 : (2 : Int) ≤ (s.size : Int) := by omega
      go_enter Tryd.func91, Tryd.ntmps91
      go_wp2
      all_goals first | (exfalso; omega) | skip
      all_goals
        go_ret
        exact ⟨ret_bool (HY.out _ (by omega)).symm, Below.refl _ _⟩
    have hz1 : ¬ (2 : Int) ≤ (s.size : Int) := by omega
    by_cases hn1 : s.size = 1
    · have hz2 : ¬ (1 : Int) < (s.size : Int) := by omega
      have hz3 : ¬ (2 : Int) < (s.size : Int) := by omega
      go_enter Tryd.func91, Tryd.ntmps91
      go_wp2
      go_quiet (fail)
      go_wp2
      all_goals first | (exfalso; omega) | skip
      all_goals
        go_ret
        exact ⟨ret_bool (HN.out _ (by omega)).symm, below_drewN ((Below.refl _ _).alloc (Nat.le_refl _) _) _⟩
    exfalso; omega
  · have ha0 := (hT.range 1 (by omega)).1
    have ha1 := (hT.range 1 (by omega)).2
    rw [hX] at hc0 HY HN
    simp only [accLo, accHi, Nat.reduceMul, Nat.reduceAdd, Nat.reduceEqDiff, if_true, if_false, Nat.reduceMod, Nat.reduceDiv] at ha0 ha1 HY HN
    clear hT hX
    by_cases hn : 3 ≤ s.size
    · have hz1 : (3 : Int) ≤ (s.size : Int) := by omega
      go_enter Tryd.func91, Tryd.ntmps91
      go_wp2
      all_goals first | (exfalso; omega) | skip
      all_goals
        go_ret
        exact ⟨ret_bool (HY.out _ (by omega)).symm, Below.refl _ _⟩
    have hz1 : ¬ (3 : Int) ≤ (s.size : Int) := by omega
    by_cases hn1 : s.size = 1
    · have hz2 : ¬ (1 : Int) < (s.size : Int) := by omega
      have hz3 : ¬ (2 : Int) < (s.size : Int) := by omega
      go_enter Tryd.func91, Tryd.ntmps91
      go_wp2
      go_quiet (fail)
      go_wp2
      all_goals first | (exfalso; omega) | skip
      all_goals
        go_ret
        exact ⟨ret_bool (HN.out _ (by omega)).symm, below_drewN ((Below.refl _ _).alloc (Nat.le_refl _) _) _⟩
    have hn2 : s.size = 2 := by omega
    have hz2 : (1 : Int) < (s.size : Int) := by omega
    have hz3 : ¬ (2 : Int) < (s.size : Int) := by omega
    have hs1 : s[1]'(by omega) = x1 := by rw [← hx1]; exact get 1 (by omega)
    by_cases c1 : x1.toNat < 160
    · have d1 : (x1.toNat : Int) < 160 := by omega
      go_enter Tryd.func91, Tryd.ntmps91
      go_wp2
      go_quiet (fail)
      go_wp2
      all_goals first | (exfalso; omega) | skip
      all_goals
        go_ret
        exact ⟨ret_bool (HY.out _ (by omega)).symm, below_drewN ((Below.refl _ _).alloc (Nat.le_refl _) _) _⟩
    by_cases c2 : 191 < x1.toNat
    · have d1 : ¬ (x1.toNat : Int) < 160 := by omega
      have d2 : (191 : Int) < (x1.toNat : Int) := by omega
      go_enter Tryd.func91, Tryd.ntmps91
      go_wp2
      go_quiet (fail)
      go_wp2
      all_goals first | (exfalso; omega) | skip
      all_goals
        go_ret
        exact ⟨ret_bool (HY.out _ (by omega)).symm, below_drewN ((Below.refl _ _).alloc (Nat.le_refl _) _) _⟩
    have d1 : ¬ (x1.toNat : Int) < 160 := by omega
    have d2 : ¬ (191 : Int) < (x1.toNat : Int) := by omega
    go_enter Tryd.func91, Tryd.ntmps91
    go_wp2
    go_quiet (fail)
    go_wp2
    all_goals first | (exfalso; omega) | skip
    all_goals
      go_ret
      exact ⟨ret_bool (HN.out _ (by omega)).symm, below_drewN ((Below.refl _ _).alloc (Nat.le_refl _) _) _⟩
  · have ha0 := (hT.range 0 (by omega)).1
    have ha1 := (hT.range 0 (by omega)).2
    rw [hX] at hc0 HY HN
    simp only [accLo, accHi, Nat.reduceMul, Nat.reduceAdd, Nat.reduceEqDiff, if_true, if_false, Nat.reduceMod, Nat.reduceDiv] at ha0 ha1 HY HN
    clear hT hX
    by_cases hn : 3 ≤ s.size
    · have hz1 : (3 : Int) ≤ (s.size : Int) := by omega
      go_enter Tryd.func91, Tryd.ntmps91
      go_wp2
      all_goals first | (exfalso; omega) | skip
      all_goals
        go_ret
        exact ⟨ret_bool (HY.out _ (by omega)).symm, Below.refl _ _⟩
    have hz1 : ¬ (3 : Int) ≤ (s.size : Int) := by omega
    by_cases hn1 : s.size = 1
    · have hz2 : ¬ (1 : Int) < (s.size : Int) := by omega
      have hz3 : ¬ (2 : Int) < (s.size : Int) := by omega
      go_enter Tryd.func91, Tryd.ntmps91
      go_wp2
      go_quiet (fail)
      go_wp2
      all_goals first | (exfalso; omega) | skip
      all_goals
        go_ret
        exact ⟨ret_bool (HN.out _ (by omega)).symm, below_drewN ((Below.refl _ _).alloc (Nat.le_refl _) _) _⟩
    have hn2 : s.size = 2 := by omega
    have hz2 : (1 : Int) < (s.size : Int) := by omega
    have hz3 : ¬ (2 : Int) < (s.size : Int) := by omega
    have hs1 : s[1]'(by omega) = x1 := by rw [← hx1]; exact get 1 (by omega)
    by_cases c1 : x1.toNat < 128
    · have d1 : (x1.toNat : Int) < 128 := by omega
      go_enter Tryd.func91, Tryd.ntmps91
      go_wp2
      go_quiet (fail)
      go_wp2
      all_goals first | (exfalso; omega) | skip
      all_goals
        go_ret
        exact ⟨ret_bool (HY.out _ (by omega)).symm, below_drewN ((Below.refl _ _).alloc (Nat.le_refl _) _) _⟩
    by_cases c2 : 191 < x1.toNat
    · have d1 : ¬ (x1.toNat : Int) < 128 := by omega
      have d2 : (191 : Int) < (x1.toNat : Int) := by omega
      go_enter Tryd.func91, Tryd.ntmps91
      go_wp2
      go_quiet (fail)
      go_wp2
      all_goals first | (exfalso; omega) | skip
      all_goals
        go_ret
        exact ⟨ret_bool (HY.out _ (by omega)).symm, below_drewN ((Below.refl _ _).alloc (Nat.le_refl _) _) _⟩
    have d1 : ¬ (x1.toNat : Int) < 128 := by omega
    have d2 : ¬ (191 : Int) < (x1.toNat : Int) := by omega
    go_enter Tryd.func91, Tryd.ntmps91
    go_wp2
    go_quiet (fail)
    go_wp2
    all_goals first | (exfalso; omega) | skip
    all_goals
      go_ret
      exact ⟨ret_bool (HN.out _ (by omega)).symm, below_drewN ((Below.refl _ _).alloc (Nat.le_refl _) _) _⟩
  · have ha0 := (hT.range 2 (by omega)).1
    have ha1 := (hT.range 2 (by omega)).2
    rw [hX] at hc0 HY HN
    simp only [accLo, accHi, Nat.reduceMul, Nat.reduceAdd, Nat.reduceEqDiff, if_true, if_false, Nat.reduceMod, Nat.reduceDiv] at ha0 ha1 HY HN
    clear hT hX
    by_cases hn : 3 ≤ s.size
    · have hz1 : (3 : Int) ≤ (s.size : Int) := by omega
      go_enter Tryd.func91, Tryd.ntmps91
      go_wp2
      all_goals first | (exfalso; omega) | skip
      all_goals
        go_ret
        exact ⟨ret_bool (HY.out _ (by omega)).symm, Below.refl _ _⟩
    have hz1 : ¬ (3 : Int) ≤ (s.size : Int) := by omega
    by_cases hn1 : s.size = 1
    · have hz2 : ¬ (1 : Int) < (s.size : Int) := by omega
      have hz3 : ¬ (2 : Int) < (s.size : Int) := by omega
      go_enter Tryd.func91, Tryd.ntmps91
      go_wp2
      go_quiet (fail)
      go_wp2
      all_goals first | (exfalso; omega) | skip
      all_goals
        go_ret
        exact ⟨ret_bool (HN.out _ (by omega)).symm, below_drewN ((Below.refl _ _).alloc (Nat.le_refl _) _) _⟩
    have hn2 : s.size = 2 := by omega
    have hz2 : (1 : Int) < (s.size : Int) := by omega
    have hz3 : ¬ (2 : Int) < (s.size : Int) := by omega
    have hs1 : s[1]'(by omega) = x1 := by rw [← hx1]; exact get 1 (by omega)
    by_cases c1 : x1.toNat < 128
    · have d1 : (x1.toNat : Int) < 128 := by omega
      go_enter Tryd.func91, Tryd.ntmps91
      go_wp2
      go_quiet (fail)
      go_wp2
      all_goals first | (exfalso; omega) | skip
      all_goals
        go_ret
        exact ⟨ret_bool (HY.out _ (by omega)).symm, below_drewN ((Below.refl _ _).alloc (Nat.le_refl _) _) _⟩
    by_cases c2 : 159 < x1.toNat
    · have d1 : ¬ (x1.toNat : Int) < 128 := by omega
      have d2 : (159 : Int) < (x1.toNat : Int) := by omega
      go_enter Tryd.func91, Tryd.ntmps91
      go_wp2
      go_quiet (fail)
      go_wp2
      all_goals first | (exfalso; omega) | skip
      all_goals
        go_ret
        exact ⟨ret_bool (HY.out _ (by omega)).symm, below_drewN ((Below.refl _ _).alloc (Nat.le_refl _) _) _⟩
    have d1 : ¬ (x1.toNat : Int) < 128 := by omega
    have d2 : ¬ (159 : Int) < (x1.toNat : Int) := by omega
    go_enter Tryd.func91, Tryd.ntmps91
    go_wp2
    go_quiet (fail)
    go_wp2
    all_goals first | (exfalso; omega) | skip
    all_goals
      go_ret
      exact ⟨ret_bool (HN.out _ (by omega)).symm, below_drewN ((Below.refl _ _).alloc (Nat.le_refl _) _) _⟩
  · have ha0 := (hT.range 3 (by omega)).1
    have ha1 := (hT.range 3 (by omega)).2
    rw [hX] at hc0 HY HN
    simp only [accLo, accHi, Nat.reduceMul, Nat.reduceAdd, Nat.reduceEqDiff, if_true, if_false, Nat.reduceMod, Nat.reduceDiv] at ha0 ha1 HY HN
    clear hT hX
    by_cases hn : 4 ≤ s.size
    · have hz1 : (4 : Int) ≤ (s.size : Int) := by omega
      go_enter Tryd.func91, Tryd.ntmps91
      go_wp2
      all_goals first | (exfalso; omega) | skip
      all_goals
        go_ret
        exact ⟨ret_bool (HY.out _ (by omega)).symm, Below.refl _ _⟩
    have hz1 : ¬ (4 : Int) ≤ (s.size : Int) := by omega
    by_cases hn1 : s.size = 1
    · have hz2 : ¬ (1 : Int) < (s.size : Int) := by omega
      have hz3 : ¬ (2 : Int) < (s.size : Int) := by omega
      go_enter Tryd.func91, Tryd.ntmps91
      go_wp2
      go_quiet (fail)
      go_wp2
      all_goals first | (exfalso; omega) | skip
      all_goals
        go_ret
        exact ⟨ret_bool (HN.out _ (by omega)).symm, below_drewN ((Below.refl _ _).alloc (Nat.le_refl _) _) _⟩
    by_cases hn2 : s.size = 2
    · have hz2 : (1 : Int) < (s.size : Int) := by omega
      have hz3 : ¬ (2 : Int) < (s.size : Int) := by omega
      have hs1 : s[1]'(by omega) = x1 := by rw [← hx1]; exact get 1 (by omega)
      by_cases c1 : x1.toNat < 144
      · have d1 : (x1.toNat : Int) < 144 := by omega
        go_enter Tryd.func91, Tryd.ntmps91
        go_wp2
        go_quiet (fail)
        go_wp2
        all_goals first | (exfalso; omega) | skip
        all_goals
          go_ret
          exact ⟨ret_bool (HY.out _ (by omega)).symm, below_drewN ((Below.refl _ _).alloc (Nat.le_refl _) _) _⟩
      by_cases c2 : 191 < x1.toNat
      · have d1 : ¬ (x1.toNat : Int) < 144 := by omega
        have d2 : (191 : Int) < (x1.toNat : Int) := by omega
        go_enter Tryd.func91, Tryd.ntmps91
        go_wp2
        go_quiet (fail)
        go_wp2
        all_goals first | (exfalso; omega) | skip
        all_goals
          go_ret
          exact ⟨ret_bool (HY.out _ (by omega)).symm, below_drewN ((Below.refl _ _).alloc (Nat.le_refl _) _) _⟩
      have d1 : ¬ (x1.toNat : Int) < 144 := by omega
      have d2 : ¬ (191 : Int) < (x1.toNat : Int) := by omega
      go_enter Tryd.func91, Tryd.ntmps91
      go_wp2
      go_quiet (fail)
      go_wp2
      all_goals first | (exfalso; omega) | skip
      all_goals
        go_ret
        exact ⟨ret_bool (HN.out _ (by omega)).symm, below_drewN ((Below.refl _ _).alloc (Nat.le_refl _) _) _⟩
    have hz2 : (1 : Int) < (s.size : Int) := by omega
    have hz3 : (2 : Int) < (s.size : Int) := by omega
    have hs1 : s[1]'(by omega) = x1 := by rw [← hx1]; exact get 1 (by omega)
    have hs2 : s[2]'(by omega) = x2 := by rw [← hx2]; exact get 2 (by omega)
    by_cases c1 : x1.toNat < 144
    · have d1 : (x1.toNat : Int) < 144 := by omega
      go_enter Tryd.func91, Tryd.ntmps91
      go_wp2
      go_quiet (fail)
      go_wp2
      all_goals first | (exfalso; omega) | skip
      all_goals
        go_ret
        exact ⟨ret_bool (HY.out _ (by omega)).symm, below_drewN ((Below.refl _ _).alloc (Nat.le_refl _) _) _⟩
    by_cases c2 : 191 < x1.toNat
    · have d1 : ¬ (x1.toNat : Int) < 144 := by omega
      have d2 : (191 : Int) < (x1.toNat : Int) := by omega
      go_enter Tryd.func91, Tryd.ntmps91
      go_wp2
      go_quiet (fail)
      go_wp2
      all_goals first | (exfalso; omega) | skip
      all_goals
        go_ret
        exact ⟨ret_bool (HY.out _ (by omega)).symm, below_drewN ((Below.refl _ _).alloc (Nat.le_refl _) _) _⟩
    have d1 : ¬ (x1.toNat : Int) < 144 := by omega
    have d2 : ¬ (191 : Int) < (x1.toNat : Int) := by omega
    by_cases c3 : x2.toNat < 128
    · have d3 : (x2.toNat : Int) < 128 := by omega
      go_enter Tryd.func91, Tryd.ntmps91
      go_wp2
      go_quiet (fail)
      go_wp2
      all_goals first | (exfalso; omega) | skip
      all_goals
        go_ret
        exact ⟨ret_bool (HY.out _ (by omega)).symm, below_drewN ((Below.refl _ _).alloc (Nat.le_refl _) _) _⟩
    by_cases c4 : 191 < x2.toNat
    · have d3 : ¬ (x2.toNat : Int) < 128 := by omega
      have d4 : (191 : Int) < (x2.toNat : Int) := by omega
      go_enter Tryd.func91, Tryd.ntmps91
      go_wp2
      go_quiet (fail)
      go_wp2
      all_goals first | (exfalso; omega) | skip
      all_goals
        go_ret
        exact ⟨ret_bool (HY.out _ (by omega)).symm, below_drewN ((Below.refl _ _).alloc (Nat.le_refl _) _) _⟩
    have d3 : ¬ (x2.toNat : Int) < 128 := by omega
    have d4 : ¬ (191 : Int) < (x2.toNat : Int) := by omega
    go_enter Tryd.func91, Tryd.ntmps91
    go_wp2
    go_quiet (fail)
    go_wp2
    all_goals first | (exfalso; omega) | skip
    all_goals
      go_ret
      exact ⟨ret_bool (HN.out _ (by omega)).symm, below_drewN ((Below.refl _ _).alloc (Nat.le_refl _) _) _⟩
  · have ha0 := (hT.range 0 (by omega)).1
    have ha1 := (hT.range 0 (by omega)).2
    rw [hX] at hc0 HY HN
    simp only [accLo, accHi, Nat.reduceMul, Nat.reduceAdd, Nat.reduceEqDiff, if_true, if_false, Nat.reduceMod, Nat.reduceDiv] at ha0 ha1 HY HN
    clear hT hX
    by_cases hn : 4 ≤ s.size
    · have hz1 : (4 : Int) ≤ (s.size : Int) := by omega
      go_enter Tryd.func91, Tryd.ntmps91
      go_wp2
      all_goals first | (exfalso; omega) | skip
      all_goals
        go_ret
        exact ⟨ret_bool (HY.out _ (by omega)).symm, Below.refl _ _⟩
    have hz1 : ¬ (4 : Int) ≤ (s.size : Int) := by omega
    by_cases hn1 : s.size = 1
    · have hz2 : ¬ (1 : Int) < (s.size : Int) := by omega
      have hz3 : ¬ (2 : Int) < (s.size : Int) := by omega
      go_enter Tryd.func91, Tryd.ntmps91
      go_wp2
      go_quiet (fail)
      go_wp2
      all_goals first | (exfalso; omega) | skip
      all_goals
        go_ret
        exact ⟨ret_bool (HN.out _ (by omega)).symm, below_drewN ((Below.refl _ _).alloc (Nat.le_refl _) _) _⟩
    by_cases hn2 : s.size = 2
    · have hz2 : (1 : Int) < (s.size : Int) := by omega
      have hz3 : ¬ (2 : Int) < (s.size : Int) := by omega
      have hs1 : s[1]'(by omega) = x1 := by rw [← hx1]; exact get 1 (by omega)
      by_cases c1 : x1.toNat < 128
      · have d1 : (x1.toNat : Int) < 128 := by omega
        go_enter Tryd.func91, Tryd.ntmps91
        go_wp2
        go_quiet (fail)
        go_wp2
        all_goals first | (exfalso; omega) | skip
        all_goals
          go_ret
          exact ⟨ret_bool (HY.out _ (by omega)).symm, below_drewN ((Below.refl _ _).alloc (Nat.le_refl _) _) _⟩
      by_cases c2 : 191 < x1.toNat
      · have d1 : ¬ (x1.toNat : Int) < 128 := by omega
        have d2 : (191 : Int) < (x1.toNat : Int) := by omega
        go_enter Tryd.func91, Tryd.ntmps91
        go_wp2
        go_quiet (fail)
        go_wp2
        all_goals first | (exfalso; omega) | skip
        all_goals
          go_ret
          exact ⟨ret_bool (HY.out _ (by omega)).symm, below_drewN ((Below.refl _ _).alloc (Nat.le_refl _) _) _⟩
      have d1 : ¬ (x1.toNat : Int) < 128 := by omega
      have d2 : ¬ (191 : Int) < (x1.toNat : Int) := by omega
      go_enter Tryd.func91, Tryd.ntmps91
      go_wp2
      go_quiet (fail)
      go_wp2
      all_goals first | (exfalso; omega) | skip
      all_goals
        go_ret
        exact ⟨ret_bool (HN.out _ (by omega)).symm, below_drewN ((Below.refl _ _).alloc (Nat.le_refl _) _) _⟩
    have hz2 : (1 : Int) < (s.size : Int) := by omega
    have hz3 : (2 : Int) < (s.size : Int) := by omega
    have hs1 : s[1]'(by omega) = x1 := by rw [← hx1]; exact get 1 (by omega)
    have hs2 : s[2]'(by omega) = x2 := by rw [← hx2]; exact get 2 (by omega)
    by_cases c1 : x1.toNat < 128
    · have d1 : (x1.toNat : Int) < 128 := by omega
      go_enter Tryd.func91, Tryd.ntmps91
      go_wp2
      go_quiet (fail)
      go_wp2
      all_goals first | (exfalso; omega) | skip
      all_goals
        go_ret
        exact ⟨ret_bool (HY.out _ (by omega)).symm, below_drewN ((Below.refl _ _).alloc (Nat.le_refl _) _) _⟩
    by_cases c2 : 191 < x1.toNat
    · have d1 : ¬ (x1.toNat : Int) < 128 := by omega
      have d2 : (191 : Int) < (x1.toNat : Int) := by omega
      go_enter Tryd.func91, Tryd.ntmps91
      go_wp2
      go_quiet (fail)
      go_wp2
      all_goals first | (exfalso; omega) | skip
      all_goals
        go_ret
        exact ⟨ret_bool (HY.out _ (by omega)).symm, below_drewN ((Below.refl _ _).alloc (Nat.le_refl _) _) _⟩
    have d1 : ¬ (x1.toNat : Int) < 128 := by omega
    have d2 : ¬ (191 : Int) < (x1.toNat : Int) := by omega
    by_cases c3 : x2.toNat < 128
    · have d3 : (x2.toNat : Int) < 128 := by omega
      go_enter Tryd.func91, Tryd.ntmps91
      go_wp2
      go_quiet (fail)
      go_wp2
      all_goals first | (exfalso; omega) | skip
      all_goals
        go_ret
        exact ⟨ret_bool (HY.out _ (by omega)).symm, below_drewN ((Below.refl _ _).alloc (Nat.le_refl _) _) _⟩
    by_cases c4 : 191 < x2.toNat
    · have d3 : ¬ (x2.toNat : Int) < 128 := by omega
      have d4 : (191 : Int) < (x2.toNat : Int) := by omega
      go_enter Tryd.func91, Tryd.ntmps91
      go_wp2
      go_quiet (fail)
      go_wp2
      all_goals first | (exfalso; omega) | skip
      all_goals
        go_ret
        exact ⟨ret_bool (HY.out _ (by omega)).symm, below_drewN ((Below.refl _ _).alloc (Nat.le_refl _) _) _⟩
    have d3 : ¬ (x2.toNat : Int) < 128 := by omega
    have d4 : ¬ (191 : Int) < (x2.toNat : Int) := by omega
    go_enter Tryd.func91, Tryd.ntmps91
    go_wp2
    go_quiet (fail)
    go_wp2
    all_goals first | (exfalso; omega) | skip
    all_goals
      go_ret
      exact ⟨ret_bool (HN.out _ (by omega)).symm, below_drewN ((Below.refl _ _).alloc (Nat.le_refl _) _) _⟩
  · have ha0 := (hT.range 4 (by omega)).1
    have ha1 := (hT.range 4 (by omega)).2
    rw [hX] at hc0 HY HN
    simp only [accLo, accHi, Nat.reduceMul, Nat.reduceAdd, Nat.reduceEqDiff, if_true, if_false, Nat.reduceMod, Nat.reduceDiv] at ha0 ha1 HY HN
    clear hT hX
    by_cases hn : 4 ≤ s.size
    · have hz1 : (4 : Int) ≤ (s.size : Int) := by omega
      go_enter Tryd.func91, Tryd.ntmps91
      go_wp2
      all_goals first | (exfalso; omega) | skip
      all_goals
        go_ret
        exact ⟨ret_bool (HY.out _ (by omega)).symm, Below.refl _ _⟩
    have hz1 : ¬ (4 : Int) ≤ (s.size : Int) := by omega
    by_cases hn1 : s.size = 1
    · have hz2 : ¬ (1 : Int) < (s.size : Int) := by omega
      have hz3 : ¬ (2 : Int) < (s.size : Int) := by omega
      go_enter Tryd.func91, Tryd.ntmps91
      go_wp2
      go_quiet (fail)
      go_wp2
      all_goals first | (exfalso; omega) | skip
      all_goals
        go_ret
        exact ⟨ret_bool (HN.out _ (by omega)).symm, below_drewN ((Below.refl _ _).alloc (Nat.le_refl _) _) _⟩
    by_cases hn2 : s.size = 2
    · have hz2 : (1 : Int) < (s.size : Int) := by omega
      have hz3 : ¬ (2 : Int) < (s.size : Int) := by omega
      have hs1 : s[1]'(by omega) = x1 := by rw [← hx1]; exact get 1 (by omega)
      by_cases c1 : x1.toNat < 128
      · have d1 : (x1.toNat : Int) < 128 := by omega
        go_enter Tryd.func91, Tryd.ntmps91
        go_wp2
        go_quiet (fail)
        go_wp2
        all_goals first | (exfalso; omega) | skip
        all_goals
          go_ret
          exact ⟨ret_bool (HY.out _ (by omega)).symm, below_drewN ((Below.refl _ _).alloc (Nat.le_refl _) _) _⟩
      by_cases c2 : 143 < x1.toNat
      · have d1 : ¬ (x1.toNat : Int) < 128 := by omega
        have d2 : (143 : Int) < (x1.toNat : Int) := by omega
        go_enter Tryd.func91, Tryd.ntmps91
        go_wp2
        go_quiet (fail)
        go_wp2
        all_goals first | (exfalso; omega) | skip
        all_goals
          go_ret
          exact ⟨ret_bool (HY.out _ (by omega)).symm, below_drewN ((Below.refl _ _).alloc (Nat.le_refl _) _) _⟩
      have d1 : ¬ (x1.toNat : Int) < 128 := by omega
      have d2 : ¬ (143 : Int) < (x1.toNat : Int) := by omega
      go_enter Tryd.func91, Tryd.ntmps91
      go_wp2
      go_quiet (fail)
      go_wp2
      all_goals first | (exfalso; omega) | skip
      all_goals
        go_ret
        exact ⟨ret_bool (HN.out _ (by omega)).symm, below_drewN ((Below.refl _ _).alloc (Nat.le_refl _) _) _⟩
    have hz2 : (1 : Int) < (s.size : Int) := by omega
    have hz3 : (2 : Int) < (s.size : Int) := by omega
    have hs1 : s[1]'(by omega) = x1 := by rw [← hx1]; exact get 1 (by omega)
    have hs2 : s[2]'(by omega) = x2 := by rw [← hx2]; exact get 2 (by omega)
    by_cases c1 : x1.toNat < 128
    · have d1 : (x1.toNat : Int) < 128 := by omega
      go_enter Tryd.func91, Tryd.ntmps91
      go_wp2
      go_quiet (fail)
      go_wp2
      all_goals first | (exfalso; omega) | skip
      all_goals
        go_ret
        exact ⟨ret_bool (HY.out _ (by omega)).symm, below_drewN ((Below.refl _ _).alloc (Nat.le_refl _) _) _⟩
    by_cases c2 : 143 < x1.toNat
    · have d1 : ¬ (x1.toNat : Int) < 128 := by omega
      have d2 : (143 : Int) < (x1.toNat : Int) := by omega
      go_enter Tryd.func91, Tryd.ntmps91
      go_wp2
      go_quiet (fail)
      go_wp2
      all_goals first | (exfalso; omega) | skip
      all_goals
        go_ret
        exact ⟨ret_bool (HY.out _ (by omega)).symm, below_drewN ((Below.refl _ _).alloc (Nat.le_refl _) _) _⟩
    have d1 : ¬ (x1.toNat : Int) < 128 := by omega
    have d2 : ¬ (143 : Int) < (x1.toNat : Int) := by omega
    by_cases c3 : x2.toNat < 128
    · have d3 : (x2.toNat : Int) < 128 := by omega
      go_enter Tryd.func91, Tryd.ntmps91
      go_wp2
      go_quiet (fail)
      go_wp2
      all_goals first | (exfalso; omega) | skip
      all_goals
        go_ret
        exact ⟨ret_bool (HY.out _ (by omega)).symm, below_drewN ((Below.refl _ _).alloc (Nat.le_refl _) _) _⟩
    by_cases c4 : 191 < x2.toNat
    · have d3 : ¬ (x2.toNat : Int) < 128 := by omega
      have d4 : (191 : Int) < (x2.toNat : Int) := by omega
      go_enter Tryd.func91, Tryd.ntmps91
      go_wp2
      go_quiet (fail)
      go_wp2
      all_goals first | (exfalso; omega) | skip
      all_goals
        go_ret
        exact ⟨ret_bool (HY.out _ (by omega)).symm, below_drewN ((Below.refl _ _).alloc (Nat.le_refl _) _) _⟩
    have d3 : ¬ (x2.toNat : Int) < 128 := by omega
    have d4 : ¬ (191 : Int) < (x2.toNat : Int) := by omega
    go_enter Tryd.func91, Tryd.ntmps91
    go_wp2
    go_quiet (fail)
    go_wp2
    all_goals first | (exfalso; omega) | skip
    all_goals
      go_ret
      exact ⟨ret_bool (HN.out _ (by omega)).symm, below_drewN ((Below.refl _ _).alloc (Nat.le_refl _) _) _⟩
end Go.Proofs.YthlbbinlkmchjaaDoor
