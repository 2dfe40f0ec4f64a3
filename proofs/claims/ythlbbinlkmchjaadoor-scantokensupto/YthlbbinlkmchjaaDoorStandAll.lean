/- standing: how many bytes can stand at the front of a text that begins with no whole rune. -/
import Derived.Test.YthlbbinlkmchjaaDoorFull
namespace Go.Proofs.YthlbbinlkmchjaaDoor
open Go.RowKit Go.Lib

theorem firstT_of (a : Nat) : (a < 128 → firstT a = 240) ∧ ((128 ≤ a ∧ a < 194 ∨ 244 < a) → firstT a = 241) ∧ (194 ≤ a ∧ a < 224 → firstT a = 2) ∧
    (a = 224 → firstT a = 19) ∧ (224 < a ∧ a < 240 ∧ a ≠ 237 → firstT a = 3) ∧ (a = 237 → firstT a = 35) ∧ (a = 240 → firstT a = 52) ∧ (240 < a ∧ a < 244 → firstT a = 4) ∧ (a = 244 → firstT a = 68) := by
  refine ⟨?_, ?_, ?_, ?_, ?_, ?_, ?_, ?_, ?_⟩
  all_goals
    intro h
    unfold firstT
    repeat first | rw [if_neg (by omega)] | rw [if_pos (by omega)]
  · rcases h with h | h
    · rw [if_pos (by omega)]
    · repeat first | rw [if_neg (by omega)] | rw [if_pos (by omega)]
  · by_cases h2 : a < 237
    · rw [if_pos h2]
    · repeat first | rw [if_neg (by omega)] | rw [if_pos (by omega)]
theorem acc0 : accLo 0 = 128 ∧ accHi 0 = 191 := ⟨rfl, rfl⟩
theorem acc1 : accLo 1 = 160 ∧ accHi 1 = 191 := ⟨rfl, rfl⟩
theorem acc2 : accLo 2 = 128 ∧ accHi 2 = 159 := ⟨rfl, rfl⟩
theorem acc3 : accLo 3 = 144 ∧ accHi 3 = 191 := ⟨rfl, rfl⟩
theorem acc4 : accLo 4 = 128 ∧ accHi 4 = 143 := ⟨rfl, rfl⟩
/-- where it ceases is where FullRuneInString says so first -/
theorem full_at {n a b c d e k b' c' : Nat} (h : badN n a b c d = some e) (hk : k ≤ e) (hn : k < n) (hb : 1 ≤ k → b' = b) (hc : 2 ≤ k → c' = c) : full (k + 1) a b' c' = decide (k = e) := by
  obtain ⟨f0, f1, f2, f3, f4, f5, f6, f7, f8⟩ := firstT_of a
  have g := bad_cases h (by omega)
  have key : (0 < k + 1 ∧ (firstT a % 8 ≤ k + 1 ∨ (1 < k + 1 ∧ (b' < accLo (firstT a / 16) ∨ accHi (firstT a / 16) < b')) ∨ (2 < k + 1 ∧ (c' < 128 ∨ 191 < c')))) ↔ k = e := by
    clear h
    rcases g with g | g | g | g
    · have := f1 g.2.2; clear f0 f1 f2 f3 f4 f5 f6 f7 f8
      rw [this]; simp only [Nat.reduceMod, Nat.reduceDiv]; omega
    · have := f2 g.2.2.1; clear f0 f1 f2 f3 f4 f5 f6 f7 f8
      rw [this]; simp only [Nat.reduceMod, Nat.reduceDiv, acc0.1, acc0.2]; omega
    · rcases (by omega : a = 224 ∨ (224 < a ∧ a < 240 ∧ a ≠ 237) ∨ a = 237) with h | h | h
      · have := f3 h; clear f0 f1 f2 f3 f4 f5 f6 f7 f8
        rw [this]; simp only [Nat.reduceMod, Nat.reduceDiv, acc1.1, acc1.2]; rcases g with ⟨_, _, _, g | g⟩ <;> omega
      · have := f4 h; clear f0 f1 f2 f3 f4 f5 f6 f7 f8
        rw [this]; simp only [Nat.reduceMod, Nat.reduceDiv, acc0.1, acc0.2]; rcases g with ⟨_, _, _, g | g⟩ <;> omega
      · have := f5 h; clear f0 f1 f2 f3 f4 f5 f6 f7 f8
        rw [this]; simp only [Nat.reduceMod, Nat.reduceDiv, acc2.1, acc2.2]; rcases g with ⟨_, _, _, g | g⟩ <;> omega
    · rcases (by omega : a = 240 ∨ (240 < a ∧ a < 244) ∨ a = 244) with h | h | h
      · have := f6 h; clear f0 f1 f2 f3 f4 f5 f6 f7 f8
        rw [this]; simp only [Nat.reduceMod, Nat.reduceDiv, acc3.1, acc3.2]; rcases g with ⟨_, _, _, g | g | g⟩ <;> omega
      · have := f7 h; clear f0 f1 f2 f3 f4 f5 f6 f7 f8
        rw [this]; simp only [Nat.reduceMod, Nat.reduceDiv, acc0.1, acc0.2]; rcases g with ⟨_, _, _, g | g | g⟩ <;> omega
      · have := f8 h; clear f0 f1 f2 f3 f4 f5 f6 f7 f8
        rw [this]; simp only [Nat.reduceMod, Nat.reduceDiv, acc4.1, acc4.2]; rcases g with ⟨_, _, _, g | g | g⟩ <;> omega
  unfold full
  by_cases hke : k = e
  · rw [decide_eq_true hke, decide_eq_true (key.2 hke)]
  · rw [decide_eq_false hke, decide_eq_false (fun h => hke (key.1 h))]
theorem bl_extract (s : ByteArray) (i j : Nat) : bl (s.extract i j) = ((bl s).drop i).take (j - i) := by
  unfold bl
  rw [ByteArray.data_extract, Array.toList_extract, List.extract_eq_take_drop, List.map_take, List.map_drop]
theorem bl_head (s : ByteArray) (m i : Nat) (h : i < m) : ((s.extract 0 m).get! i).toNat = (s.get! i).toNat := by
  rw [bl_get, bl_get, bl_extract, List.drop_zero, List.getD_eq_getElem?_getD, List.getD_eq_getElem?_getD, List.getElem?_take, if_pos (by omega)]
theorem full_head (s : ByteArray) {e k : Nat} (h : bad (bl s) = some e) (hk : k ≤ e) (hn : k < s.size) :
    full (s.extract 0 (k + 1)).size ((s.extract 0 (k + 1)).get! 0).toNat ((s.extract 0 (k + 1)).get! 1).toNat ((s.extract 0 (k + 1)).get! 2).toNat = decide (k = e) := by
  have hz : (s.extract 0 (k + 1)).size = k + 1 := by rw [← bl_length, bl_extract]; simp [bl_length]; omega
  rw [hz, bl_head s _ 0 (by omega)]
  unfold bad at h
  rw [bl_get s 0]
  refine full_at h hk (by rw [bl_length]; exact hn) (fun h1 => ?_) (fun h2 => ?_)
  · rw [bl_head s _ 1 (by omega), bl_get]
  · rw [bl_head s _ 2 (by omega), bl_get]

set_option maxHeartbeats 2000000 in
theorem standing_any (s : ByteArray) (w : World) (e : Nat) (hs : s.size ≤ maxLen) (hb : bad (bl s) = some e) (hT : Tb w) :
    Calls Tryd.prog 65 #[.string s] w fun r w' => r = .returned (.int .i64 e) ∧ Below w.heap.size w w' := by
  unfold maxLen at hs
  have he := bad_le hb
  rw [bl_length] at he
  have HT : Hid (Tb w) := hT
  clear hT
  have HB : Hid (bad (bl s) = some e) := hb
  clear hb
  go_enter Tryd.func65, Tryd.ntmps65
  go_wp2
  go_loopw [3] (fun n wr => ∃ k : Nat, k ≤ e ∧ n = .int .i64 k ∧ Below w.heap.size w wr) (fun n _ => s.size - (RowKit.intOf n).toNat)
  case atStart => exact ⟨0, by omega, rfl, Below.refl _ _⟩
  case round =>
    obtain ⟨k, hk, rfl, hbl⟩ := hrel
    have HBL : Hid (Below w.heap.size w wr) := hbl
    clear hbl
    by_cases hlt : k < s.size
    · have hF := full_head s HB.out hk hlt
      by_cases hke : k = e
      · rw [decide_eq_true hke] at hF
        have HF : Hid (full (s.extract 0 (k + 1)).size ((s.extract 0 (k + 1)).get! 0).toNat ((s.extract 0 (k + 1)).get! 1).toNat ((s.extract 0 (k + 1)).get! 2).toNat = true) := hF
        clear hF
        subst hke
        go_wp2_with (go_at_call 91; refine (full_any _ _ (HT.out.of HBL.out HT.out.size)).mono ?_; rintro r w1 ⟨hr, hb1⟩; rw [HF.out] at hr; subst hr)
        go_ret
        exact ⟨rfl, HBL.out.trans (hb1.mono HBL.out.size)⟩
      · rw [decide_eq_false hke] at hF
        have HF : Hid (full (s.extract 0 (k + 1)).size ((s.extract 0 (k + 1)).get! 0).toNat ((s.extract 0 (k + 1)).get! 1).toNat ((s.extract 0 (k + 1)).get! 2).toNat = false) := hF
        clear hF
        go_wp2_with (go_at_call 91; refine (full_any _ _ (HT.out.of HBL.out HT.out.size)).mono ?_; rintro r w1 ⟨hr, hb1⟩; rw [HF.out] at hr; subst hr)
        go_roundw
        case rel => exact ⟨k + 1, by omega, by go_num, HBL.out.trans (hb1.mono HBL.out.size)⟩
        case measure => simp [RowKit.intOf]; omega
    · obtain rfl : k = e := by omega
      go_wp2
      go_ret
      exact ⟨rfl, HBL.out⟩
end Go.Proofs.YthlbbinlkmchjaaDoor
namespace Go.Proofs.YthlbbinlkmchjaaDoor
open Go.RowKit Go.Lib

def fffd : ByteArray := { data := #[239, 191, 189] }
/-- begins with FFFD's bytes -/
def pf (s : ByteArray) : Bool := decide (3 ≤ s.size) && ((s.extract 0 3).toList == [239, 191, 189])
theorem pf_no {s : ByteArray} (h : s.size < 3) : pf s = false := by simp [pf]; omega
theorem pf_big {s : ByteArray} (h : 3 ≤ s.size) : pf s = ((s.extract 0 3).toList == [239, 191, 189]) := by simp [pf, h]
set_option maxHeartbeats 1000000 in
theorem hasPrefix1_any (s : ByteArray) (w : World) (hs : s.size ≤ maxLen) : Calls Tryd.prog 101 #[.string s, .string fffd] w fun e w' => e = .returned (.bool (pf s)) ∧ w' = w := by
  unfold maxLen at hs
  by_cases h : s.size < 3
  · have HP : Hid (pf s = false) := pf_no h
    have hz : (s.size : Int) < 3 := by omega
    unfold fffd
    go_enter Tryd.func101, Tryd.ntmps101
    go_wp2
    go_ret
    exact ⟨ret_bool HP.out.symm, rfl⟩
  · have HP : Hid (pf s = ((s.extract 0 3).toList == [239, 191, 189])) := pf_big (by omega)
    have hz : ¬ (s.size : Int) < 3 := by omega
    unfold fffd
    go_enter Tryd.func101, Tryd.ntmps101
    go_wp2
    go_ret
    exact ⟨ret_bool HP.out.symm, rfl⟩
set_option maxHeartbeats 1000000 in
theorem hasPrefix_any (s : ByteArray) (w : World) (hs : s.size ≤ maxLen) : Calls Tryd.prog 92 #[.string s, .string fffd] w fun e w' => e = .returned (.bool (pf s)) ∧ w' = w := by
  have HP := hasPrefix1_any s w hs
  go_enter Tryd.func92, Tryd.ntmps92
  go_wp2_with (go_at_call 101; refine (HP).mono ?_; rintro e w' ⟨rfl, rfl⟩)
  go_ret
  exact ⟨rfl, rfl⟩
theorem u8_eq (a : UInt8) (n : UInt8) : a = n ↔ a.toNat = n.toNat := UInt8.toNat_inj.symm
theorem pf_iff (s : ByteArray) : pf s = true ↔ 2 < (bl s).length ∧ (bl s).getD 0 0 = 239 ∧ (bl s).getD 1 0 = 191 ∧ (bl s).getD 2 0 = 189 := by
  have hz : s.size = (bl s).length := (bl_length s).symm
  unfold pf
  rw [ByteArray.toList_eq, ByteArray.data_extract, Array.toList_extract, List.extract_eq_take_drop, hz]
  unfold bl
  rcases s.data.toList with _ | ⟨a, _ | ⟨b, _ | ⟨c, t⟩⟩⟩
  · simp
  · simp
  · simp
  · simp [u8_eq]
set_option maxHeartbeats 1000000 in
/-- a rune that a range tells of a text that begins with one -/
theorem begins_good (s : ByteArray) (w : World) (hs : s.size ≤ maxLen) (hb : bad (bl s) = none) : Calls Tryd.prog 67 #[.string s, .int .i32 (rune (bl s))] w fun e w' => e = .returned (.bool true) ∧ w' = w := by
  have hr := rune_width hb
  by_cases he : rune (bl s) = 65533
  · have hp : pf s = true := (pf_iff s).2 (runeN_FFFD hb he)
    have HP := hasPrefix_any s w hs
    rw [hp, fffd] at HP
    rw [he]
    clear hr hb he hp
    go_enter Tryd.func67, Tryd.ntmps67
    go_wp2_with (go_at_call 92; refine (HP).mono ?_; rintro e w' ⟨rfl, rfl⟩)
    go_ret
    exact ⟨rfl, rfl⟩
  · have he' : ¬ ((rune (bl s) : Nat) : Int) = 65533 := by omega
    have h2 := hr.2.1
    clear hr hb he
    generalize rune (bl s) = r at *
    have h0 : (0 : Int) ≤ (r : Int) := by omega
    have h1 : (r : Int) ≤ 1114111 := by omega
    go_enter Tryd.func67, Tryd.ntmps67
    go_wp2
    go_ret
    exact ⟨rfl, rfl⟩
set_option maxHeartbeats 1000000 in
/-- FFFD that a range tells of what begins with none -/
theorem begins_bad (s : ByteArray) (w : World) (hs : s.size ≤ maxLen) {k : Nat} (hn : 0 < s.size) (hb : bad (bl s) = some k) : Calls Tryd.prog 67 #[.string s, .int .i32 65533] w fun e w' => e = .returned (.bool false) ∧ w' = w := by
  have hp : pf s = false := by
    rw [Bool.eq_false_iff]
    intro h
    exact (decodeN_bad (getD_lt (bl_lt s) 0) (by rw [bl_length]; exact hn) hb).2 ((pf_iff s).1 h)
  have HP := hasPrefix_any s w hs
  rw [hp, fffd] at HP
  clear hb hp
  go_enter Tryd.func67, Tryd.ntmps67
  go_wp2_with (go_at_call 92; refine (HP).mono ?_; rintro e w' ⟨rfl, rfl⟩)
  go_ret
  exact ⟨rfl, rfl⟩
end Go.Proofs.YthlbbinlkmchjaaDoor
