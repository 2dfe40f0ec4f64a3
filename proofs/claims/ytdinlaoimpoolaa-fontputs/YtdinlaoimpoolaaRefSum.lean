/- The reference's sum. -/
import Derived.Test.YtdinlaoimpoolaaRefLaid
namespace Go.Proofs.Ytdinlaoimpoolaa
open Go.RowKit

theorem u8s_at {bs : List Nat} {i x : Nat} (h : bs[i]? = some x) : (u8s bs)[i]? = some (.int .u8 (x : Int)) := by simp [u8s, h]
set_option maxRecDepth 100000 in
set_option maxHeartbeats 4000000 in
theorem sum_any (bs : List Nat) (ad : Option Addr) (c : Nat) (w : World) (hl : bs.length ≤ 9223372036854775807) (h256 : ∀ b ∈ bs, b < 256) (hs : Sl w ad bs.length (u8s bs)) :
    Calls Try.prog 28 #[.slice ad bs.length c] w fun e w' => e = .returned (.int .i64 (sumB bs)) ∧ w' = w := by
  have HS := hid hs
  have H256 := hid h256
  obtain ⟨n, hn⟩ : ∃ n, bs.length = n := ⟨_, rfl⟩
  have HN := hid hn
  rw [hn] at hl HS ⊢
  have hl' : (n : Int) ≤ 9223372036854775807 := by omega
  have HLT := hid (sumB_lt bs)
  clear hs h256 hn
  go_enter Try.func28, Try.ntmps28
  go_wp2_with fail
  go_loopw [3, 4] (fun vs vi wr => ∃ (i s : Nat), vi = .int .i64 i ∧ i ≤ n ∧ vs = .int .u32 s ∧ s = sumF 2166136261 (bs.take i) ∧ wr = w) (fun _ vi _ => n - (RowKit.intOf vi).toNat)
  case atStart => exact ⟨0, 2166136261, rfl, Nat.zero_le _, rfl, rfl, rfl⟩
  case round =>
    obtain ⟨i, s, rfl, hin, rfl, hsv, rfl⟩ := hrel
    have HV := hid hsv
    clear hsv
    by_cases hlt : i < n
    · have hlt' : (i : Int) < (n : Int) := by omega
      obtain ⟨x, hx⟩ := some_at (xs := bs) (i := i) (by rw [HN.out]; exact hlt)
      obtain ⟨b, off, rfl, hb, hat⟩ := HS.out (by omega)
      have hcell := hat i _ (u8s_at hx)
      have HX := hid hx
      have hx256 : x < 256 := H256.out x (List.mem_of_getElem? hx)
      have hs32 : s < 4294967296 := by rw [HV.out]; exact sumF_lt (by omega) _
      have HE : Hid (((wit s x : Nat) : Int) = bits .xor .u32 (s : Int) (x : Int) * 16777619 % 4294967296) := by
        show _ = _
        rw [xor_u32 s x hs32 (by omega)]
        unfold wit
        omega
      have hi0 : (0 : Int) ≤ (i : Int) := by omega
      clear hat hb hx
      go_wp2_with fail
      go_roundw
      case rel =>
        refine ⟨i + 1, wit s x, by go_num, by omega, by rw [HE.out], ?_, by first | rfl | trivial⟩
        rw [List.take_add_one, HX.out, HV.out]
        exact (sumF_snoc _ _ _).symm
      case measure => simp [RowKit.intOf]; omega
    · obtain rfl : i = n := by omega
      have hlt' : ¬ (i : Int) < (i : Int) := by omega
      clear hlt
      go_wp2_with fail
      have hv := HV.out
      rw [List.take_of_length_le (by rw [HN.out]; exact Nat.le_refl _)] at hv
      go_ret
      refine ⟨?_, rfl⟩
      have hs32 : s < 4294967296 := by rw [hv]; exact sumF_lt (by omega) _
      show Ending.returned (Value.int .i64 (wrap64 (s : Int))) = _
      have hw : wrap64 (s : Int) = (s : Int) := by unfold wrap64; omega
      rw [hw, hv]; rfl
end Go.Proofs.Ytdinlaoimpoolaa
