/- blanks: of a text of blanks alone. -/
import Derived.Test.YthlbbinlkmchjaaDoorGr
namespace Go.Proofs.YthlbbinlkmchjaaDoor
open Go.RowKit

theorem blank_byte {s : ByteArray} {k : Nat} (h : k < s.size) (hb : isB ((bl s).getD k 0) = true) : s[k]'h = 32 ∨ s[k]'h = 9 ∨ s[k]'h = 10 ∨ s[k]'h = 13 := by
  rw [← bl_at s k h] at hb
  unfold isB at hb
  have hb := of_decide_eq_true hb
  rcases hb with h | h | h | h
  · exact .inl (UInt8.toNat_inj.1 h)
  · exact .inr (.inl (UInt8.toNat_inj.1 h))
  · exact .inr (.inr (.inl (UInt8.toNat_inj.1 h)))
  · exact .inr (.inr (.inr (UInt8.toNat_inj.1 h)))
set_option maxHeartbeats 4000000 in
theorem blanks_true (s : ByteArray) (w : World) (hs : s.size ≤ 4294967296) (hb : ∀ i, i < s.size → isB ((bl s).getD i 0) = true) :
    Calls Tryd.prog 20 #[.string s] w fun e w' => e = .returned (.bool true) ∧ w' = w := by
  have HB := hid hb
  obtain ⟨n, hn⟩ : ∃ n, s.size = n := ⟨_, rfl⟩
  have HN := hid hn
  clear hb
  go_enter Tryd.func20, Tryd.ntmps20
  go_wp2_with fail
  go_loopw [3] (fun vi wr => ∃ k : Nat, vi = .int .i64 k ∧ k ≤ n ∧ wr = w) (fun vi _ => n - (RowKit.intOf vi).toNat)
  case atStart => exact ⟨0, rfl, by omega, rfl⟩
  case round =>
    obtain ⟨k, rfl, hk, rfl⟩ := hrel
    by_cases hlt : k < n
    · have hlt' : k < s.size := by omega
      have hkl : (k : Int) < (s.size : Int) := by omega
      have hk0 : (0 : Int) ≤ (k : Int) := by omega
      have hx := blank_byte hlt' (HB.out k hlt')
      have HLT := hid hlt
      clear hlt
      rcases hx with hx | hx | hx | hx
      all_goals
        go_wp2_with fail
        go_roundw
        case rel => exact ⟨k + 1, by go_num, HLT.out, trivial⟩
        case measure => have := HLT.out; simp [RowKit.intOf]; omega
    · have hkl : ¬ (k : Int) < (s.size : Int) := by omega
      clear hlt
      go_wp2_with fail
      go_ret
      exact ⟨rfl, rfl⟩
end Go.Proofs.YthlbbinlkmchjaaDoor
