/- The reference lays a number behind a constant's bytes. -/
import Derived.Test.YtdinlaoimpoolaaRefLaidAll
import Derived.Lib.SmallJoins
namespace Go.Proofs.Ytdinlaoimpoolaa
open Go.RowKit

set_option maxRecDepth 100000 in
set_option maxHeartbeats 4000000 in
theorem laid_first (g m n k : Nat) (bs : List Nat) (w : World) (hm : bs.length = m) (hmx : m ≤ 1000000) (hn : n ≤ 4294967295) (hk : k ≤ 4) (hk0 : 0 < k) (hown : g < w.heap.size ∧ ∀ j u, (u8s bs)[j]? = some u → w.cell? ⟨g, j, none⟩ = some u) :
    Calls Try.prog 27 #[.slice (some ⟨g, 0, none⟩) m m, .int .i64 n, .int .i64 k] w fun e w' => ∃ v', e = .returned v' ∧ w'.ownsRow w.heap.size 5 1 v' (m + k) (u8s (bs ++ be k n)) ∧ Below w.heap.size w w' := by
  obtain ⟨i0, hi, hz0, hz1, hz2⟩ := info_parts info5z
  have HOWN := hid hown
  have HM := hid (And.intro hm hmx)
  have hn1 : (n : Int) ≤ 4294967295 := by omega
  clear hown hm hmx
  go_enter Try.func27, Try.ntmps27
  go_wp2_with fail
  go_loopw [1, 7, 8] (fun vn vo vi wr => ∃ (i q : Nat) (ad : Option Addr) (c : Nat), vi = .int .i64 i ∧ i ≤ k ∧ vn = .int .i64 q ∧ q = n / 256 ^ i ∧ vo = .slice ad i c ∧ Sl wr ad i (u8s (be i n)) ∧ Below w.heap.size w wr) (fun _ _ vi _ => k - (RowKit.intOf vi).toNat)
  case atStart => exact ⟨0, n, some ⟨w.heap.size, 0, none⟩, 0, rfl, Nat.zero_le _, rfl, by simp, rfl, fun h => absurd rfl h, (Below.refl _ w).alloc (Nat.le_refl _) _⟩
  case round =>
    obtain ⟨i, q, ad, c, rfl, hik, rfl, hq, rfl, hsl, hbel⟩ := hrel
    have HSL := hid hsl
    have HB := hid hbel
    have HQ := hid hq
    have hq9 : (q : Int) ≤ 4294967295 := by
      have : n / 256 ^ i ≤ n := Nat.div_le_self _ _
      omega
    clear hsl hbel hq
    by_cases hlt : i < k
    · have hlt' : (i : Int) < (k : Int) := by omega
      have HV : Hid ((q : Int) % 256 = ((q % 256 : Nat) : Int)) := hid (by omega)
      have HX : Hid ((wr.alloc (.cells #[.int .u8 ((q : Int) % 256)] 5)).ownsRow wr.heap.size 5 1 (.slice (some ⟨wr.heap.size, 0, none⟩) 1 1) 1 [.int .u8 ((q : Int) % 256)]) := hid (World.ownsRow_lit wr #[.int .u8 ((q : Int) % 256)] 1 (Nat.le_refl _) (by unfold maxLen; omega) (by simp))
      have HS2 : Hid (Sl (wr.alloc (.cells #[.int .u8 ((q : Int) % 256)] 5)) ad i (u8s (be i n))) := hid (HSL.out.below ((Below.refl _ wr).alloc (Nat.le_refl _) _))
      go_wp2_with (at_builtin; refine wpList_append_sl _ rfl _ _ 56 rfl wr.heap.size 5 i0 _ 1 1 Try.underlying56 hi hz0 hz1 hz2 rfl (by decide) _ _ _ rfl HX.out ad i c (u8s (be i n)) rfl ?qc1 HS2.out (u8s_one _) ?qc4 ?qc5 ?qc6 ?_)
      case qc1 => rw [u8s_len, be_len, Nat.mul_one]
      case qc4 => unfold maxLen; omega
      case qc5 => omega
      case qc6 => simp
      intro v' w1 hown hgrow
      obtain ⟨ad', cap', rfl, hsl, how⟩ := row_reads hown
      have HB1 : Hid (Below w.heap.size w w1) := hid ((HB.out.alloc HB.out.size _).grown hgrow.grown (by simp; exact Nat.le_succ_of_le HB.out.size) (by intro k hk; simp [Value.ownBlock] at hk; have := HB.out.size; omega))
      have HS1 := hid hsl
      clear hown hgrow hsl how HX HS2
      go_wp2_with fail
      go_roundw
      case rel =>
        refine ⟨i + 1, q / 256, ad', cap', by go_num, by omega, rfl, ?_, by rw [Nat.add_comm], ?_, HB1.out⟩
        · rw [HQ.out, Nat.div_div_eq_div_mul, Nat.pow_succ]
        · have := HS1.out
          rw [HV.out, HQ.out, Nat.add_comm] at this
          exact this
      case measure => simp [RowKit.intOf]; omega
    · obtain rfl : i = k := by omega
      have hlt' : ¬ (i : Int) < (i : Int) := by omega
      obtain ⟨b2, off2, rfl, hb2, hat2⟩ := HSL.out (by omega)
      have HO2 : Hid (∀ c', (some ⟨g, 0, none⟩ : Option Addr) = some c' → ∀ j u, (u8s bs)[j]? = some u → wr.cell? (c'.add j) = some u) := hid (fun c' e j u hj => by
        cases e
        rw [Addr.add_lit, Nat.zero_add]
        exact (HB.out.cell (p := ⟨g, j, none⟩) HOWN.out.1).trans (HOWN.out.2 j u hj))
      have HO4 : Hid (∀ j u, (u8s (be i n))[j]? = some u → wr.cell? ((⟨b2, off2, none⟩ : Addr).add j) = some u) := hid (fun j u hj => by
        rw [Addr.add_lit]
        exact hat2 j u hj)
      clear hlt hb2 hat2
      go_wp2_with (at_builtin; refine wpList_append_grows _ rfl _ _ 56 rfl 5 i0 _ 1 1 Try.underlying56 hi hz0 hz1 hz2 rfl (by decide) (some ⟨g, 0, none⟩) m m (u8s bs) rfl (fun e => by cases e) ?qc0 HO2.out ⟨b2, off2, none⟩ i c (u8s (be i n)) rfl ?qc1 HO4.out (u8s_one _) ?qc3 ?qc4 ?qc5 ?_)
      case qc0 => rw [u8s_len]; have := HM.out; omega
      case qc1 => rw [u8s_len, be_len]
      case qc4 => have := HM.out; unfold maxLen; omega
      case qc5 => have := HM.out; omega
      intro v' w1 hown hgrow
      have HO3 := hid hown
      have HG := hid hgrow
      clear hown hgrow
      go_wp2_with fail
      go_ret
      refine ⟨v', rfl, ?_, ?_⟩
      · rw [u8s_app]; exact own_le HO3.out HB.out.size
      · exact HB.out.trans (Below.mono ⟨HG.out.os, HG.out.tape, HG.out.output, HG.out.size, fun q hq => HG.out.block q hq (by simp)⟩ HB.out.size)
end Go.Proofs.Ytdinlaoimpoolaa
