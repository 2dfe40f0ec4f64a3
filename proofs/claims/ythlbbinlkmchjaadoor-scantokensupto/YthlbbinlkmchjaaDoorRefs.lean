/- The reference's wide and stands; where a rune ceases, byte by byte. -/
import Derived.Test.YthlbbinlkmchjaaDoorSmall
namespace Go.Proofs.YthlbbinlkmchjaaDoor
open Go.RowKit

theorem wide_of (c : Nat) : (c < 128 → wide c = 1) ∧ ((128 ≤ c ∧ c < 194 ∨ 244 < c) → wide c = 0) ∧ (194 ≤ c ∧ c ≤ 223 → wide c = 2) ∧ (224 ≤ c ∧ c ≤ 239 → wide c = 3) ∧ (240 ≤ c ∧ c ≤ 244 → wide c = 4) := by
  refine ⟨?_, ?_, ?_, ?_, ?_⟩ <;> intro h <;> unfold wide <;> repeat' split
  all_goals omega
set_option maxRecDepth 100000 in
set_option maxHeartbeats 4000000 in
theorem wide_any (c : Nat) (w : World) (hc : c < 256) : Calls Tryd.prog 69 #[.int .i64 c] w fun e w' => e = .returned (.int .i64 (wide c)) ∧ w' = w := by
  obtain ⟨h1, h0, h2, h3, h4⟩ := wide_of c
  have HW : Hid ((c < 128 → wide c = 1) ∧ ((128 ≤ c ∧ c < 194 ∨ 244 < c) → wide c = 0) ∧ (194 ≤ c ∧ c ≤ 223 → wide c = 2) ∧ (224 ≤ c ∧ c ≤ 239 → wide c = 3) ∧ (240 ≤ c ∧ c ≤ 244 → wide c = 4)) := ⟨h1, h0, h2, h3, h4⟩
  clear h0 h1 h2 h3 h4
  rcases (by omega : (c : Int) < 128 ∨ (128 ≤ (c : Int) ∧ (c : Int) < 194) ∨ (194 ≤ (c : Int) ∧ (c : Int) ≤ 223) ∨ (224 ≤ (c : Int) ∧ (c : Int) ≤ 239) ∨ (240 ≤ (c : Int) ∧ (c : Int) ≤ 244) ∨ 244 < (c : Int)) with h | ⟨h, h'⟩ | ⟨h, h'⟩ | ⟨h, h'⟩ | ⟨h, h'⟩ | h
  · have e : wide c = 1 := HW.out.1 (by omega)
    rw [e]
    go_enter Tryd.func69, Tryd.ntmps69
    go_wp2
    all_goals first | (exfalso; omega) | (go_ret; exact ⟨rfl, rfl⟩)
  · have e : wide c = 0 := HW.out.2.1 (by omega)
    rw [e]
    go_enter Tryd.func69, Tryd.ntmps69
    go_wp2
    all_goals first | (exfalso; omega) | (go_ret; exact ⟨rfl, rfl⟩)
  · have e : wide c = 2 := HW.out.2.2.1 (by omega)
    rw [e]
    go_enter Tryd.func69, Tryd.ntmps69
    go_wp2
    all_goals first | (exfalso; omega) | (go_ret; exact ⟨rfl, rfl⟩)
  · have e : wide c = 3 := HW.out.2.2.2.1 (by omega)
    rw [e]
    go_enter Tryd.func69, Tryd.ntmps69
    go_wp2
    all_goals first | (exfalso; omega) | (go_ret; exact ⟨rfl, rfl⟩)
  · have e : wide c = 4 := HW.out.2.2.2.2 (by omega)
    rw [e]
    go_enter Tryd.func69, Tryd.ntmps69
    go_wp2
    all_goals first | (exfalso; omega) | (go_ret; exact ⟨rfl, rfl⟩)
  · have e : wide c = 0 := HW.out.2.1 (by omega)
    rw [e]
    go_enter Tryd.func69, Tryd.ntmps69
    go_wp2
    all_goals first | (exfalso; omega) | (go_ret; exact ⟨rfl, rfl⟩)
def stB (f n c : Nat) : Bool := decide (lo f n ≤ c ∧ c ≤ hi f n)
theorem lohi (f n : Nat) : (n = 1 ∧ f = 224 → lo f n = 160 ∧ hi f n = 191) ∧ (n = 1 ∧ f = 237 → lo f n = 128 ∧ hi f n = 159) ∧ (n = 1 ∧ f = 240 → lo f n = 144 ∧ hi f n = 191) ∧ (n = 1 ∧ f = 244 → lo f n = 128 ∧ hi f n = 143) ∧
    (¬ (n = 1 ∧ (f = 224 ∨ f = 237 ∨ f = 240 ∨ f = 244)) → lo f n = 128 ∧ hi f n = 191) := by
  refine ⟨?_, ?_, ?_, ?_, ?_⟩ <;> intro h <;> unfold lo hi <;> repeat' split
  all_goals omega
set_option maxRecDepth 100000 in
set_option maxHeartbeats 4000000 in
theorem stands_any (f n c : Nat) (w : World) : Calls Tryd.prog 70 #[.int .i64 f, .int .i64 n, .int .i64 c] w fun e w' => e = .returned (.bool (stB f n c)) ∧ w' = w := by
  obtain ⟨l, hl⟩ : ∃ l, lo f n = l := ⟨_, rfl⟩
  obtain ⟨u, hu⟩ : ∃ u, hi f n = u := ⟨_, rfl⟩
  have hb : stB f n c = decide (l ≤ c ∧ c ≤ u) := by unfold stB; rw [hl, hu]
  have key : (n = 1 ∧ f = 224 ∧ l = 160 ∧ u = 191) ∨ (n = 1 ∧ f = 237 ∧ l = 128 ∧ u = 159) ∨ (n = 1 ∧ f = 240 ∧ l = 144 ∧ u = 191) ∨ (n = 1 ∧ f = 244 ∧ l = 128 ∧ u = 143) ∨
      (l = 128 ∧ u = 191 ∧ n = 1 ∧ f ≠ 224 ∧ f ≠ 237 ∧ f ≠ 240 ∧ f ≠ 244) ∨ (l = 128 ∧ u = 191 ∧ n ≠ 1) := by
    obtain ⟨g1, g2, g3, g4, g5⟩ := lohi f n
    rw [hl, hu] at g1 g2 g3 g4 g5
    by_cases hn : n = 1
    · by_cases h1 : f = 224
      · exact .inl ⟨hn, h1, g1 ⟨hn, h1⟩⟩
      by_cases h2 : f = 237
      · exact .inr (.inl ⟨hn, h2, g2 ⟨hn, h2⟩⟩)
      by_cases h3 : f = 240
      · exact .inr (.inr (.inl ⟨hn, h3, g3 ⟨hn, h3⟩⟩))
      by_cases h4 : f = 244
      · exact .inr (.inr (.inr (.inl ⟨hn, h4, g4 ⟨hn, h4⟩⟩)))
      · have := g5 (by rintro ⟨_, h | h | h | h⟩ <;> contradiction)
        exact .inr (.inr (.inr (.inr (.inl ⟨this.1, this.2, hn, h1, h2, h3, h4⟩))))
    · have := g5 (fun h => hn h.1)
      exact .inr (.inr (.inr (.inr (.inr ⟨this.1, this.2, hn⟩))))
  have HB : Hid (stB f n c = decide (l ≤ c ∧ c ≤ u)) := hb
  clear hb hl hu
  rcases key with ⟨rfl, rfl, rfl, rfl⟩ | ⟨rfl, rfl, rfl, rfl⟩ | ⟨rfl, rfl, rfl, rfl⟩ | ⟨rfl, rfl, rfl, rfl⟩ | ⟨rfl, rfl, rfl, h1, h2, h3, h4⟩ | ⟨rfl, rfl, hn⟩
  · rcases (by omega : (c : Int) < 160 ∨ (160 ≤ (c : Int) ∧ (c : Int) ≤ 191) ∨ 191 < (c : Int)) with h | ⟨h, h'⟩ | h
    all_goals
      go_enter Tryd.func70, Tryd.ntmps70
      go_wp2
      go_ret
      exact ⟨ret_bool (by rw [HB.out]; first | (simp; omega) | (rw [Bool.eq_iff_iff]; simp; omega)), rfl⟩
  · rcases (by omega : (c : Int) < 128 ∨ (128 ≤ (c : Int) ∧ (c : Int) ≤ 159) ∨ 159 < (c : Int)) with h | ⟨h, h'⟩ | h
    all_goals
      go_enter Tryd.func70, Tryd.ntmps70
      go_wp2
      go_ret
      exact ⟨ret_bool (by rw [HB.out]; first | (simp; omega) | (rw [Bool.eq_iff_iff]; simp; omega)), rfl⟩
  · rcases (by omega : (c : Int) < 144 ∨ (144 ≤ (c : Int) ∧ (c : Int) ≤ 191) ∨ 191 < (c : Int)) with h | ⟨h, h'⟩ | h
    all_goals
      go_enter Tryd.func70, Tryd.ntmps70
      go_wp2
      go_ret
      exact ⟨ret_bool (by rw [HB.out]; first | (simp; omega) | (rw [Bool.eq_iff_iff]; simp; omega)), rfl⟩
  · rcases (by omega : (c : Int) < 128 ∨ (128 ≤ (c : Int) ∧ (c : Int) ≤ 143) ∨ 143 < (c : Int)) with h | ⟨h, h'⟩ | h
    all_goals
      go_enter Tryd.func70, Tryd.ntmps70
      go_wp2
      go_ret
      exact ⟨ret_bool (by rw [HB.out]; first | (simp; omega) | (rw [Bool.eq_iff_iff]; simp; omega)), rfl⟩
  · have e1 : ¬ (f : Int) = 224 := by omega
    have e2 : ¬ (f : Int) = 237 := by omega
    have e3 : ¬ (f : Int) = 240 := by omega
    have e4 : ¬ (f : Int) = 244 := by omega
    rcases (by omega : (c : Int) < 128 ∨ (128 ≤ (c : Int) ∧ (c : Int) ≤ 191) ∨ 191 < (c : Int)) with h | ⟨h, h'⟩ | h
    all_goals
      go_enter Tryd.func70, Tryd.ntmps70
      go_wp2
      go_ret
      exact ⟨ret_bool (by rw [HB.out]; first | (simp; omega) | (rw [Bool.eq_iff_iff]; simp; omega)), rfl⟩
  · have e1 : ¬ (n : Int) = 1 := by omega
    rcases (by omega : (c : Int) < 128 ∨ (128 ≤ (c : Int) ∧ (c : Int) ≤ 191) ∨ 191 < (c : Int)) with h | ⟨h, h'⟩ | h
    all_goals
      go_enter Tryd.func70, Tryd.ntmps70
      go_wp2
      go_ret
      exact ⟨ret_bool (by rw [HB.out]; first | (simp; omega) | (rw [Bool.eq_iff_iff]; simp; omega)), rfl⟩

/-! ### a rune, byte by byte -/
def St (l : List Nat) (j : Nat) : Prop := j < l.length ∧ lo (l.getD 0 0) j ≤ l.getD j 0 ∧ l.getD j 0 ≤ hi (l.getD 0 0) j
theorem bad_st {l : List Nat} {j : Nat} (hl : l ≠ []) (hj : 1 ≤ j) (hjw : j < wd l) (hall : ∀ i, 1 ≤ i → i < j → St l i) (hno : ¬ St l j) : bad l = some j := by
  have hw := wide_le (l.getD 0 0)
  have hp : l.length ≠ 0 := fun h => hl (List.eq_nil_of_length_eq_zero h)
  unfold bad badN
  unfold wd at hjw
  unfold St at hno
  rw [if_neg (by omega), if_neg (by omega)]
  rcases (by omega : j = 1 ∨ j = 2 ∨ j = 3) with rfl | rfl | rfl
  · rw [if_pos hno]
  · rw [if_neg (fun h => h (hall 1 (by omega) (by omega))), if_neg (by omega), if_pos hno]
  · rw [if_neg (fun h => h (hall 1 (by omega) (by omega))), if_neg (by omega), if_neg (fun h => h (hall 2 (by omega) (by omega))), if_neg (by omega), if_pos hno]
theorem good_st {l : List Nat} (hl : l ≠ []) (h1 : 1 ≤ wd l) (hall : ∀ i, 1 ≤ i → i < wd l → St l i) : bad l = none := by
  have hw := wide_le (l.getD 0 0)
  have hp : l.length ≠ 0 := fun h => hl (List.eq_nil_of_length_eq_zero h)
  unfold bad badN
  unfold wd at h1 hall
  rw [if_neg (by omega)]
  by_cases e1 : wide (l.getD 0 0) = 1
  · rw [if_pos e1]
  rw [if_neg e1, if_neg (fun h => h (hall 1 (by omega) (by omega)))]
  by_cases e2 : wide (l.getD 0 0) = 2
  · rw [if_pos e2]
  rw [if_neg e2, if_neg (fun h => h (hall 2 (by omega) (by omega)))]
  by_cases e3 : wide (l.getD 0 0) = 3
  · rw [if_pos e3]
  rw [if_neg e3, if_neg (fun h => h (hall 3 (by omega) (by omega)))]
/-- the number that the first j bytes make -/
def acc (l : List Nat) : Nat → Nat
  | 0 => 0
  | 1 => if wd l = 2 then l.getD 0 0 % 32 else if wd l = 3 then l.getD 0 0 % 16 else l.getD 0 0 % 8
  | j + 2 => acc l (j + 1) * 64 + l.getD (j + 1) 0 % 64
theorem acc_rune {l : List Nat} (h : 2 ≤ wd l) : acc l (wd l) = rune l := by
  have hw := wide_le (l.getD 0 0)
  have hw' : wd l = wide (l.getD 0 0) := rfl
  unfold rune runeN
  rcases (by omega : wd l = 2 ∨ wd l = 3 ∨ wd l = 4) with e | e | e
  · rw [e]
    rw [hw'] at e
    simp only [acc, hw', e, if_true]
    rfl
  · rw [e]
    rw [hw'] at e
    simp only [acc, hw', e, if_true]
    simp
    omega
  · rw [e]
    rw [hw'] at e
    simp only [acc, hw', e]
    simp
    omega
theorem acc_le {l : List Nat} (j : Nat) (hj : j ≤ 4) : acc l j ≤ 16777216 := by
  rcases (by omega : j = 0 ∨ j = 1 ∨ j = 2 ∨ j = 3 ∨ j = 4) with rfl | rfl | rfl | rfl | rfl
  all_goals
    simp only [acc]
  · omega
  all_goals
    repeat' split
  all_goals omega
end Go.Proofs.YthlbbinlkmchjaaDoor
