/- among and digits of the statement. -/
import Derived.Test.YtapnmopcmlcfbaaDoorBack
import Derived.Laws.IdiomStrings
namespace Go.Proofs.YtapnmopcmlcfbaaDoor
open Go.RowKit

set_option maxRecDepth 100000 in
set_option maxHeartbeats 1000000 in
theorem among_any (i n : Int) (w : World) (hn : 0 < n) (hn1 : n ≤ 140737488355328) (hi0 : -9223372036854775808 ≤ i) (hi1 : i ≤ 9223372036854775807) :
    Calls Tryd.prog 14 #[.int .i64 i, .int .i64 n] w fun e w' => e = .returned (.int .i64 (i % n)) ∧ w' = w := by
  have hb := Int.emod_nonneg i (show n ≠ 0 by omega)
  have hb2 := Int.emod_lt_of_pos i hn
  by_cases h : 0 ≤ i
  · have h3 : ¬ i % n < 0 := by omega
    clear hi0
    go_enter Tryd.func14, Tryd.ntmps14
    go_wp2
    go_ret
    exact ⟨rfl, rfl⟩
  · have ht : i.tmod n = (if i % n = 0 then 0 else i % n - n) := by
      rw [Int.tmod_eq_emod]
      have hs : n.natAbs = n := by omega
      by_cases g : i % n = 0
      · rw [if_pos g]
        have : n ∣ i := Int.dvd_of_emod_eq_zero g
        rw [if_pos (.inr this), g]; rfl
      · rw [if_neg g]
        have : ¬ n ∣ i := fun e => g (Int.emod_eq_zero_of_dvd e)
        rw [if_neg (by omega)]
        omega
    by_cases g : i % n = 0
    · rw [if_pos g] at ht
      have HG := hid g
      clear g hb hb2
      go_enter Tryd.func14, Tryd.ntmps14
      go_wp2
      go_ret
      exact ⟨ret_int (by rw [HG.out]), rfl⟩
    · rw [if_neg g] at ht
      obtain ⟨t, hte⟩ : ∃ t, i % n - n = t := ⟨_, rfl⟩
      rw [hte] at ht
      have ht0 : t < 0 := by omega
      have ht1 : -140737488355328 ≤ t := by omega
      have HT := hid hte
      have hq : 0 ≤ t + n := by omega
      clear hte g hb hb2
      go_enter Tryd.func14, Tryd.ntmps14
      go_wp2
      go_ret
      exact ⟨ret_int (by have := HT.out; omega), rfl⟩

/-- a number in so many digits at least -/
def dgl (n k : Nat) : List Nat := if n = 0 ∧ k = 0 then [] else dgl (n / 10) (k - 1) ++ [48 + n % 10]
termination_by n + k
decreasing_by omega
theorem dgl_nil : dgl 0 0 = [] := by rw [dgl, if_pos ⟨rfl, rfl⟩]
theorem dgl_more {n k : Nat} (h : ¬ (n = 0 ∧ k = 0)) : dgl n k = dgl (n / 10) (k - 1) ++ [48 + n % 10] := by rw [dgl, if_neg h]
theorem dgl_dgs (n k : Nat) : Dgs (dgl n k) := by
  induction hs : n + k using Nat.strongRecOn generalizing n k with
  | _ s ih =>
    by_cases h : n = 0 ∧ k = 0
    · rw [h.1, h.2, dgl_nil]; intro c hc; cases hc
    · rw [dgl_more h]
      exact (ih _ (by omega) (n / 10) (k - 1) rfl).app (fun c hc => by rw [List.mem_singleton] at hc; omega)
theorem dgl_num (n k : Nat) : num 0 (dgl n k) = n := by
  induction hs : n + k using Nat.strongRecOn generalizing n k with
  | _ s ih =>
    by_cases h : n = 0 ∧ k = 0
    · rw [h.1, h.2, dgl_nil]; rfl
    · rw [dgl_more h, num_append, ih _ (by omega) (n / 10) (k - 1) rfl]
      show 10 * (n / 10) + (48 + n % 10 - 48) = n
      omega
theorem dgl_le : ∀ (L n k : Nat), n < 10 ^ L → k ≤ L → (dgl n k).length ≤ L
  | 0, n, k, h, hk => by
    have h0 : n = 0 := by simpa using h
    have h1 : k = 0 := by omega
    rw [h0, h1, dgl_nil]; exact Nat.le_refl _
  | L + 1, n, k, h, hk => by
    by_cases g : n = 0 ∧ k = 0
    · rw [g.1, g.2, dgl_nil]; exact Nat.zero_le _
    · rw [dgl_more g, List.length_append]
      have := dgl_le L (n / 10) (k - 1) (by rw [Nat.pow_succ] at h; omega) (by omega)
      simp only [List.length_singleton]
      omega
theorem dgl_ge : ∀ (k n : Nat), k ≤ (dgl n k).length
  | 0, n => Nat.zero_le _
  | k + 1, n => by
    rw [dgl_more (by omega), List.length_append, Nat.add_sub_cancel]
    have := dgl_ge k (n / 10)
    simp only [List.length_singleton]
    omega

def oneB (c : Nat) : ByteArray := ⟨#[UInt8.ofNat (48 + c)]⟩
theorem conv_one (w : World) (c : Nat) (hc : c ≤ 9) : (convert 55 9 (.slice (some ⟨w.heap.size, 0, none⟩) 1 1)).run Tryd.prog (w.alloc (.cells #[.int .u8 (48 + (c : Int))] 5)) = .ok (.string (oneB c)) (w.alloc (.cells #[.int .u8 (48 + (c : Int))] 5)) :=
  run_convert_bytes_back (P := Tryd.prog) _ 55 9 5 ⟨w.heap.size, 0, none⟩ 1 [UInt8.ofNat (48 + c)] Tryd.underlying55 Tryd.underlying5 Tryd.underlying9 (fun j hj => by
    have : j = 0 := by simp at hj; omega
    subst this
    refine ((Blk.new w #[.int .u8 (48 + (c : Int))] 5 rfl).cell 0).trans ?_
    simp
    omega)
theorem conv_nought (w : World) : (convert 55 9 (.slice (some ⟨w.heap.size, 0, none⟩) 1 1)).run Tryd.prog (w.alloc (.cells #[.int .u8 48] 5)) = .ok (.string (oneB 0)) (w.alloc (.cells #[.int .u8 48] 5)) := conv_one w 0 (by omega)
theorem bl_one (c : Nat) (h : c ≤ 9) : bl (oneB c) = [48 + c] := by
  unfold oneB bl
  simp
  omega
theorem one_size (c : Nat) : (oneB c).size = 1 := rfl
theorem dgl_round {n' : Nat} {l : Int} {s : ByteArray} {n k : Nat} (h : dgl n' l.toNat ++ bl s = dgl n k) (hg : ¬ (n' = 0 ∧ l.toNat = 0)) : dgl (n' / 10) (l - 1).toNat ++ bl (oneB (n' % 10) ++ s) = dgl n k := by
  rw [bl_append, bl_one _ (by omega), ← h, dgl_more hg, List.append_assoc, show (l - 1).toNat = l.toNat - 1 by omega]

set_option maxRecDepth 100000 in
set_option maxHeartbeats 4000000 in
theorem digits_any (n k : Nat) (w : World) (hn : n < 1000000000000000) (hk : k ≤ 15) :
    Calls Tryd.prog 15 #[.int .i64 n, .int .i64 k] w fun e w' => ∃ s, e = .returned (.string s) ∧ bl s = dgl n k ∧ Only [] w w' := by
  have hL := dgl_le 15 n k (by omega) hk
  go_enter Tryd.func15, Tryd.ntmps15
  go_wp2
  go_loopw [0, 1, 5] (fun a b c wr => ∃ (n' : Nat) (l : Int) (s : ByteArray), a = .int .i64 n' ∧ b = .int .i64 l ∧ c = .string s ∧ n' ≤ n ∧ l + (s.size : Int) = k ∧ dgl n' l.toNat ++ bl s = dgl n k ∧ Only [] w wr) (fun a b _ _ => (intOf a).toNat + (intOf b).toNat)
  case atStart => exact ⟨n, k, _, rfl, rfl, rfl, Nat.le_refl _, by show (k : Int) + ((0 : Nat) : Int) = k; omega, by rw [Int.toNat_natCast]; exact List.append_nil _, Only.refl _ _⟩
  case round =>
    obtain ⟨n', l, s, rfl, rfl, rfl, hn', hl, heq, ho⟩ := hrel
    have hsl : s.size ≤ 15 := by
      have := congrArg List.length heq
      rw [List.length_append, bl_length] at this
      omega
    have HO := hid ho
    have HL := hid hl
    have HEQ := hid heq
    by_cases hgo : n' = 0 ∧ l ≤ 0
    · obtain ⟨rfl, hl0⟩ := hgo
      have hl1 : ¬ 0 < l := by omega
      clear ho hl heq hn' hL hn hk
      go_wp2
      go_ret
      refine ⟨s, rfl, ?_, HO.out⟩
      have := HEQ.out
      rw [show l.toNat = 0 by omega, dgl_nil, List.nil_append] at this
      exact this
    · have hor : (0 : Int) < (n' : Int) ∨ (¬ (0 : Int) < (n' : Int) ∧ 0 < l) := by omega
      have HGO := hid (show ¬ (n' = 0 ∧ l.toNat = 0) by omega)
      have b1 : (n' : Int) ≤ 999999999999999 := by omega
      have b2 : l ≤ 15 := by omega
      have b3 : -15 ≤ l := by omega
      have b4 : (0 : Int) ≤ (n' : Int) := by omega
      obtain ⟨c, hc⟩ : ∃ c, n' % 10 = c := ⟨_, rfl⟩
      obtain ⟨q, hq⟩ : ∃ q, n' / 10 = q := ⟨_, rfl⟩
      have hc2 : (n' : Int) % 10 = (c : Int) := by omega
      have hq2 : (n' : Int) / 10 = (q : Int) := by omega
      have b5 : (c : Int) ≤ 9 := by omega
      have b6 : 0 ≤ (c : Int) := by omega
      have HC := hid hc
      have HQ := hid hq
      have HN := hid hn'
      have hl2 : True := trivial
      clear ho hl heq hgo hL hn hk hc hq hn'
      have hcv := conv_one wr c (by omega)
      have hsz : ¬ 9223372036854775807 < 1 + s.size := by omega
      rcases hor with h1 | ⟨h1, h2⟩
      · clear hl2
        go_wp2
        go_round
        case rel =>
          refine ⟨q, l - 1, oneB c ++ s, rfl, rfl, rfl, ?_, ?_, ?_, HO.out.alloc _⟩
          · have := HQ.out; have := HN.out; omega
          · rw [ByteArray.size_append, one_size]; have := HL.out; omega
          · have := dgl_round HEQ.out HGO.out
            rw [HQ.out, HC.out] at this
            exact this
        case measure =>
          have := HQ.out
          simp [intOf]; omega
      · have hn0 : n' = 0 := by omega
        subst hn0
        have hcv0 := conv_nought wr
        have hq0 : q = 0 := by have := HQ.out; omega
        have hc0 : c = 0 := by have := HC.out; omega
        subst hq0
        subst hc0
        clear hcv hc2 hq2 b5 b6
        go_wp2
        go_round
        case rel =>
          refine ⟨0, l - 1, oneB 0 ++ s, rfl, rfl, rfl, Nat.zero_le _, ?_, ?_, HO.out.alloc _⟩
          · rw [ByteArray.size_append, one_size]; have := HL.out; omega
          · exact dgl_round HEQ.out HGO.out
        case measure =>
          simp [intOf]; omega
end Go.Proofs.YtapnmopcmlcfbaaDoor
