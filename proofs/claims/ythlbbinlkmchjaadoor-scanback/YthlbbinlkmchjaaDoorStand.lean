/- standing: how many bytes can stand at the front of a text that begins with no whole rune. -/
import Derived.Test.YthlbbinlkmchjaaDoorFull
namespace Go.Proofs.YthlbbinlkmchjaaDoor
open Go.RowKit Go.Lib

theorem firstT_of (a : Nat) : (a < 128 → firstT a = 240) ∧ ((128 ≤ a ∧ a < 194 ∨ 244 < a) → firstT a = 241) ∧ (194 ≤ a ∧ a < 224 → firstT a = 2) ∧
    (a = 224 → firstT a = 19) ∧ (224 < a ∧ a < 240 ∧ a ≠ 237 → firstT a = 3) ∧ (a = 237 → firstT a = 35) ∧ (a = 240 → firstT a = 52) ∧ (240 < a ∧ a < 244 → firstT a = 4) ∧ (a = 244 → firstT a = 68) := by
  refine ⟨?_, ?_, ?_, ?_, ?_, ?_, ?_, ?_, ?_⟩
  all_goals
    intro h
    unfold firstT
    repeat first | rw [if_neg (by omega)] | rw [if_pos (by omega)]
  · rcases h with h | h
    · rw [if_pos (by omega)]
    · repeat first | rw [if_neg (by omega)] | rw [if_pos (by omega)]
  · by_cases h2 : a < 237
    · rw [if_pos h2]
    · repeat first | rw [if_neg (by omega)] | rw [if_pos (by omega)]
theorem acc0 : accLo 0 = 128 ∧ accHi 0 = 191 := ⟨rfl, rfl⟩
theorem acc1 : accLo 1 = 160 ∧ accHi 1 = 191 := ⟨rfl, rfl⟩
theorem acc2 : accLo 2 = 128 ∧ accHi 2 = 159 := ⟨rfl, rfl⟩
theorem acc3 : accLo 3 = 144 ∧ accHi 3 = 191 := ⟨rfl, rfl⟩
theorem acc4 : accLo 4 = 128 ∧ accHi 4 = 143 := ⟨rfl, rfl⟩
/-- where it ceases is where FullRuneInString says so first -/
theorem full_at {n a b c d e k b' c' : Nat} (h : badN n a b c d = some e) (hk : k ≤ e) (hn : k < n) (hb : 1 ≤ k → b' = b) (hc : 2 ≤ k → c' = c) : full (k + 1) a b' c' = decide (k = e) := by
  obtain ⟨f0, f1, f2, f3, f4, f5, f6, f7, f8⟩ := firstT_of a
  have g := bad_cases h (by omega)
  have key : (0 < k + 1 ∧ (firstT a % 8 ≤ k + 1 ∨ (1 < k + 1 ∧ (b' < accLo (firstT a / 16) ∨ accHi (firstT a / 16) < b')) ∨ (2 < k + 1 ∧ (c' < 128 ∨ 191 < c')))) ↔ k = e := by
    clear h
    rcases g with g | g | g | g
    · have := f1 g.2.2; clear f0 f1 f2 f3 f4 f5 f6 f7 f8
      rw [this]; simp only [Nat.reduceMod, Nat.reduceDiv]; omega
    · have := f2 g.2.2.1; clear f0 f1 f2 f3 f4 f5 f6 f7 f8
      rw [this]; simp only [Nat.reduceMod, Nat.reduceDiv, acc0.1, acc0.2]; omega
    · rcases (by omega : a = 224 ∨ (224 < a ∧ a < 240 ∧ a ≠ 237) ∨ a = 237) with h | h | h
      · have := f3 h; clear f0 f1 f2 f3 f4 f5 f6 f7 f8
        rw [this]; simp only [Nat.reduceMod, Nat.reduceDiv, acc1.1, acc1.2]; rcases g with ⟨_, _, _, g | g⟩ <;> omega
      · have := f4 h; clear f0 f1 f2 f3 f4 f5 f6 f7 f8
        rw [this]; simp only [Nat.reduceMod, Nat.reduceDiv, acc0.1, acc0.2]; rcases g with ⟨_, _, _, g | g⟩ <;> omega
      · have := f5 h; clear f0 f1 f2 f3 f4 f5 f6 f7 f8
        rw [this]; simp only [Nat.reduceMod, Nat.reduceDiv, acc2.1, acc2.2]; rcases g with ⟨_, _, _, g | g⟩ <;> omega
    · rcases (by omega : a = 240 ∨ (240 < a ∧ a < 244) ∨ a = 244) with h | h | h
      · have := f6 h; clear f0 f1 f2 f3 f4 f5 f6 f7 f8
        rw [this]; simp only [Nat.reduceMod, Nat.reduceDiv, acc3.1, acc3.2]; rcases g with ⟨_, _, _, g | g | g⟩ <;> omega
      · have := f7 h; clear f0 f1 f2 f3 f4 f5 f6 f7 f8
        rw [this]; simp only [Nat.reduceMod, Nat.reduceDiv, acc0.1, acc0.2]; rcases g with ⟨_, _, _, g | g | g⟩ <;> omega
      · have := f8 h; clear f0 f1 f2 f3 f4 f5 f6 f7 f8
        rw [this]; simp only [Nat.reduceMod, Nat.reduceDiv, acc4.1, acc4.2]; rcases g with ⟨_, _, _, g | g | g⟩ <;> omega
  unfold full
  by_cases hke : k = e
  · rw [decide_eq_true hke, decide_eq_true (key.2 hke)]
  · rw [decide_eq_false hke, decide_eq_false (fun h => hke (key.1 h))]
theorem bl_extract (s : ByteArray) (i j : Nat) : bl (s.extract i j) = ((bl s).drop i).take (j - i) := by
  unfold bl
  rw [ByteArray.data_extract, Array.toList_extract, List.extract_eq_take_drop, List.map_take, List.map_drop]
theorem bl_head (s : ByteArray) (m i : Nat) (h : i < m) : ((s.extract 0 m).get! i).toNat = (s.get! i).toNat := by
  rw [bl_get, bl_get, bl_extract, List.drop_zero, List.getD_eq_getElem?_getD, List.getD_eq_getElem?_getD, List.getElem?_take, if_pos (by omega)]
theorem full_head (s : ByteArray) {e k : Nat} (h : bad (bl s) = some e) (hk : k ≤ e) (hn : k < s.size) :
    full (s.extract 0 (k + 1)).size ((s.extract 0 (k + 1)).get! 0).toNat ((s.extract 0 (k + 1)).get! 1).toNat ((s.extract 0 (k + 1)).get! 2).toNat = decide (k = e) := by
  have hz : (s.extract 0 (k + 1)).size = k + 1 := by rw [← bl_length, bl_extract]; simp [bl_length]; omega
  rw [hz, bl_head s _ 0 (by omega)]
  unfold bad at h
  rw [bl_get s 0]
  refine full_at h hk (by rw [bl_length]; exact hn) (fun h1 => ?_) (fun h2 => ?_)
  · rw [bl_head s _ 1 (by omega), bl_get]
  · rw [bl_head s _ 2 (by omega), bl_get]

set_option maxHeartbeats 2000000 in
theorem standing_any (s : ByteArray) (w : World) (e : Nat) (hs : s.size ≤ maxLen) (hb : bad (bl s) = some e) (hT : Tb w) :
    Calls Tryd.prog 65 #[.string s] w fun r w' => r = .returned (.int .i64 e) ∧ Below w.heap.size w w' := by
  unfold maxLen at hs
  have he := bad_le hb
  rw [bl_length] at he
  have HT : Hid (Tb w) := hT
  clear hT
  have HB : Hid (bad (bl s) = some e) := hb
  clear hb
  go_enter Tryd.func65, Tryd.ntmps65
  go_wp2
  go_loopw [3] (fun n wr => ∃ k : Nat, k ≤ e ∧ n = .int .i64 k ∧ Below w.heap.size w wr) (fun n _ => s.size - (RowKit.intOf n).toNat)
  case atStart => exact ⟨0, by omega, rfl, Below.refl _ _⟩
  case round =>
    obtain ⟨k, hk, rfl, hbl⟩ := hrel
    have HBL : Hid (Below w.heap.size w wr) := hbl
    clear hbl
    by_cases hlt : k < s.size
    · have hF := full_head s HB.out hk hlt
      by_cases hke : k = e
      · rw [decide_eq_true hke] at hF
        have HF : Hid (full (s.extract 0 (k + 1)).size ((s.extract 0 (k + 1)).get! 0).toNat ((s.extract 0 (k + 1)).get! 1).toNat ((s.extract 0 (k + 1)).get! 2).toNat = true) := hF
        clear hF
        subst hke
        go_wp2_with (go_at_call 91; refine (full_any _ _ (HT.out.of HBL.out HT.out.size)).mono ?_; rintro r w1 ⟨hr, hb1⟩; rw [HF.out] at hr; subst hr)
        go_ret
        exact ⟨rfl, HBL.out.trans (hb1.mono HBL.out.size)⟩
      · rw [decide_eq_false hke] at hF
        have HF : Hid (full (s.extract 0 (k + 1)).size ((s.extract 0 (k + 1)).get! 0).toNat ((s.extract 0 (k + 1)).get! 1).toNat ((s.extract 0 (k + 1)).get! 2).toNat = false) := hF
        clear hF
        go_wp2_with (go_at_call 91; refine (full_any _ _ (HT.out.of HBL.out HT.out.size)).mono ?_; rintro r w1 ⟨hr, hb1⟩; rw [HF.out] at hr; subst hr)
        go_roundw
        case rel => exact ⟨k + 1, by omega, by go_num, HBL.out.trans (hb1.mono HBL.out.size)⟩
        case measure => simp [RowKit.intOf]; omega
    · obtain rfl : k = e := by omega
      go_wp2
      go_ret
      exact ⟨rfl, HBL.out⟩
end Go.Proofs.YthlbbinlkmchjaaDoor
