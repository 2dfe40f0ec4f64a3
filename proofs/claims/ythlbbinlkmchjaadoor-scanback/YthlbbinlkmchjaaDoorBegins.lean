/- begins: whether a text begins with the rune that a range tells of it. -/
import Derived.Test.YthlbbinlkmchjaaDoorStand
namespace Go.Proofs.YthlbbinlkmchjaaDoor
open Go.RowKit Go.Lib

def fffd : ByteArray := { data := #[239, 191, 189] }
/-- begins with FFFD's bytes -/
def pf (s : ByteArray) : Bool := decide (3 ≤ s.size) && ((s.extract 0 3).toList == [239, 191, 189])
theorem pf_no {s : ByteArray} (h : s.size < 3) : pf s = false := by simp [pf]; omega
theorem pf_big {s : ByteArray} (h : 3 ≤ s.size) : pf s = ((s.extract 0 3).toList == [239, 191, 189]) := by simp [pf, h]
set_option maxHeartbeats 1000000 in
theorem hasPrefix1_any (s : ByteArray) (w : World) (hs : s.size ≤ maxLen) : Calls Tryd.prog 101 #[.string s, .string fffd] w fun e w' => e = .returned (.bool (pf s)) ∧ w' = w := by
  unfold maxLen at hs
  by_cases h : s.size < 3
  · have HP : Hid (pf s = false) := pf_no h
    have hz : (s.size : Int) < 3 := by omega
    unfold fffd
    go_enter Tryd.func101, Tryd.ntmps101
    go_wp2
    go_ret
    exact ⟨ret_bool HP.out.symm, rfl⟩
  · have HP : Hid (pf s = ((s.extract 0 3).toList == [239, 191, 189])) := pf_big (by omega)
    have hz : ¬ (s.size : Int) < 3 := by omega
    unfold fffd
    go_enter Tryd.func101, Tryd.ntmps101
    go_wp2
    go_ret
    exact ⟨ret_bool HP.out.symm, rfl⟩
set_option maxHeartbeats 1000000 in
theorem hasPrefix_any (s : ByteArray) (w : World) (hs : s.size ≤ maxLen) : Calls Tryd.prog 92 #[.string s, .string fffd] w fun e w' => e = .returned (.bool (pf s)) ∧ w' = w := by
  have HP := hasPrefix1_any s w hs
  go_enter Tryd.func92, Tryd.ntmps92
  go_wp2_with (go_at_call 101; refine (HP).mono ?_; rintro e w' ⟨rfl, rfl⟩)
  go_ret
  exact ⟨rfl, rfl⟩
theorem u8_eq (a : UInt8) (n : UInt8) : a = n ↔ a.toNat = n.toNat := UInt8.toNat_inj.symm
theorem pf_iff (s : ByteArray) : pf s = true ↔ 2 < (bl s).length ∧ (bl s).getD 0 0 = 239 ∧ (bl s).getD 1 0 = 191 ∧ (bl s).getD 2 0 = 189 := by
  have hz : s.size = (bl s).length := (bl_length s).symm
  unfold pf
  rw [ByteArray.toList_eq, ByteArray.data_extract, Array.toList_extract, List.extract_eq_take_drop, hz]
  unfold bl
  rcases s.data.toList with _ | ⟨a, _ | ⟨b, _ | ⟨c, t⟩⟩⟩
  · simp
  · simp
  · simp
  · simp [u8_eq]
set_option maxHeartbeats 1000000 in
/-- a rune that a range tells of a text that begins with one -/
theorem begins_good (s : ByteArray) (w : World) (hs : s.size ≤ maxLen) (hb : bad (bl s) = none) : Calls Tryd.prog 67 #[.string s, .int .i32 (rune (bl s))] w fun e w' => e = .returned (.bool true) ∧ w' = w := by
  have hr := rune_width hb
  by_cases he : rune (bl s) = 65533
  · have hp : pf s = true := (pf_iff s).2 (runeN_FFFD hb he)
    have HP := hasPrefix_any s w hs
    rw [hp, fffd] at HP
    rw [he]
    clear hr hb he hp
    go_enter Tryd.func67, Tryd.ntmps67
    go_wp2_with (go_at_call 92; refine (HP).mono ?_; rintro e w' ⟨rfl, rfl⟩)
    go_ret
    exact ⟨rfl, rfl⟩
  · have he' : ¬ ((rune (bl s) : Nat) : Int) = 65533 := by omega
    have h2 := hr.2.1
    clear hr hb he
    generalize rune (bl s) = r at *
    have h0 : (0 : Int) ≤ (r : Int) := by omega
    have h1 : (r : Int) ≤ 1114111 := by omega
    go_enter Tryd.func67, Tryd.ntmps67
    go_wp2
    go_ret
    exact ⟨rfl, rfl⟩
set_option maxHeartbeats 1000000 in
/-- FFFD that a range tells of what begins with none -/
theorem begins_bad (s : ByteArray) (w : World) (hs : s.size ≤ maxLen) {k : Nat} (hn : 0 < s.size) (hb : bad (bl s) = some k) : Calls Tryd.prog 67 #[.string s, .int .i32 65533] w fun e w' => e = .returned (.bool false) ∧ w' = w := by
  have hp : pf s = false := by
    rw [Bool.eq_false_iff]
    intro h
    exact (decodeN_bad (getD_lt (bl_lt s) 0) (by rw [bl_length]; exact hn) hb).2 ((pf_iff s).1 h)
  have HP := hasPrefix_any s w hs
  rw [hp, fffd] at HP
  clear hb hp
  go_enter Tryd.func67, Tryd.ntmps67
  go_wp2_with (go_at_call 92; refine (HP).mono ?_; rintro e w' ⟨rfl, rfl⟩)
  go_ret
  exact ⟨rfl, rfl⟩
end Go.Proofs.YthlbbinlkmchjaaDoor
