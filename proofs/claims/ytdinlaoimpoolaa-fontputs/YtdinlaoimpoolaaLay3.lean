/- The writer: a number of 3 bytes. -/
import Derived.Test.YtdinlaoimpoolaaLay
namespace Go.Proofs.Ytdinlaoimpoolaa
open Go.RowKit

set_option maxRecDepth 100000 in
set_option maxHeartbeats 8000000 in
theorem layK3 (p n a b room : Nat) (bs : List Nat) (w : World) (hp : p ≤ 15) (hk : sz p = 3) (hn : n < 4294967296) (hW : Wr w a b room bs) (hroom : bs.length + 3 ≤ room) (hr : room ≤ 1000000) :
    Calls Try.prog 51 #[.pointer (some ⟨a, 0, none⟩), .int .i64 p, .int .i64 n] w fun e w' => e = .returned (.tuple #[]) ∧ Wr w' a b room (bs ++ be 3 n) ∧ Only [a, b] w w' := by
  have hsz := hid (size_any p (by omega))
  rw [hk] at hsz
  clear hk hp
  have hn1 : (n : Int) ≤ 4294967295 := by omega
  obtain ⟨rest, hrow, hlen⟩ := hW.row
  have HROW := hid hrow
  have HLEN := hid hlen
  have HBLK := hid hW.blk
  have HNE := hid hW.ne
  have HN := hid hn
  have HA0 : Hid (a < w.heap.size ∧ b < w.heap.size) := hid ⟨hW.blk.lt, hrow.lt⟩
  have HL4 : Hid (Blk (w.alloc (.cells #[.int .u8 ((n : Int) / 16777216), .int .u8 ((n : Int) / 65536 % 256), .int .u8 ((n : Int) / 256 % 256), .int .u8 ((n : Int) % 256)] 118)) w.heap.size (u8s (be 4 n)) 118) := hid (by
    rw [be4]
    have e : (n : Int) / 16777216 = ((n / 16777216 % 256 : Nat) : Int) := by omega
    rw [e]
    exact Blk.new w _ 118 rfl)
  have HB1 : Hid (Below w.heap.size w (w.alloc (.cells #[.int .u8 ((n : Int) / 16777216), .int .u8 ((n : Int) / 65536 % 256), .int .u8 ((n : Int) / 256 % 256), .int .u8 ((n : Int) % 256)] 118))) := hid ((Below.refl _ w).alloc (Nat.le_refl _) _)
  have HRM := hid (And.intro hroom hr)
  obtain ⟨h, hh⟩ : ∃ h, w.heap.size = h := ⟨_, rfl⟩
  rw [hh] at HL4
  clear hrow hlen hW hroom hr hn
  go_enter Try.func51, Try.ntmps51
  go_wp2_with (go_at_call 56; refine (hsz.out _).mono ?_; rintro e w' ⟨rfl, rfl⟩)
  obtain ⟨W1, hW1⟩ : ∃ W1, w.alloc (.cells #[.int .u8 ((n : Int) / 16777216), .int .u8 ((n : Int) / 65536 % 256), .int .u8 ((n : Int) / 256 % 256), .int .u8 ((n : Int) % 256)] 118) = W1 := ⟨_, rfl⟩
  rw [hW1] at HL4 HB1 ⊢
  clear hW1
  have HBK1 := hid (HBLK.out.below HB1.out)
  have HRW1 := hid (HROW.out.below HB1.out)
  have c0 : W1.cell? ⟨a, 0, none⟩ = some (.slice (some ⟨b, 0, none⟩) room room) := HBK1.out.cell 0
  have c1 : W1.cell? ⟨a, 1, none⟩ = some (.int .i64 bs.length) := HBK1.out.cell 1
  have f1 := HBK1.out.froz 1
  have l0 : (bs.length : Int) ≤ (room : Int) := by have := HRM.out; omega
  have l1 : (room : Int) ≤ 1000000 := by have := HRM.out; omega
  have HSRC : Hid (∀ j v, (u8s (be 3 n))[j]? = some v → W1.cell? ((⟨h, 1, none⟩ : Addr).add j) = some v) := hid fun j v hj => by
    rw [Addr.add_lit]
    refine (HL4.out.cell (1 + j)).trans ?_
    rw [← hj, show be 3 n = (be 4 n).drop 1 from (be_drop (k := 3) (by decide) n).symm]
    unfold u8s
    rw [List.getElem?_map, List.getElem?_map, List.getElem?_drop]
  have HFIT : Hid ((u8s bs).length + (u8s (be 3 n)).length ≤ (u8s bs ++ rest).length) := hid (by
    have := HRM.out.1
    have := HLEN.out
    rw [List.length_append, u8s_len, u8s_len, be_len]; omega)
  have HMIN : Hid ((u8s (be 3 n)).length = Nat.min 3 (room - bs.length)) := hid (by
    have := HRM.out.1
    rw [u8s_len, be_len]; exact (Nat.min_eq_left (by omega)).symm)
  have H1C : Hid (∀ v ∈ u8s (be 3 n), v.oneCell' = true) := hid (by
    intro v hv
    simp only [u8s, List.mem_map] at hv
    obtain ⟨x, _, rfl⟩ := hv
    rfl)
  have HWR : Hid (IntKind.i64.wrap ((bs.length : Int) + ((u8s (be 3 n)).length : Int)) = (bs.length : Int) + 3) := hid (by
    rw [u8s_len, be_len]
    exact wrap_i64 (by omega) (by omega))
  have mf : Try.prog.follows .mixedOrders = true := by kernel_rfl
  have hre : ¬ room = bs.length := by have := HRM.out; omega
  have HHN : Hid (h ≠ a ∧ h ≠ b ∧ w.heap.size = h) := hid (by have := HA0.out; omega)
  go_cut [] from 26 to 43 (fun wx => Blk wx a [.slice (some ⟨b, 0, none⟩) room room, .int .i64 ((bs.length : Int) + 3), .int .u32 (sumB bs)] 100 ∧ Blk wx b (splice (u8s bs ++ rest) bs.length (u8s (be 3 n))) 5 ∧ Only [a, b] W1 wx)
  case first =>
    go_region_law ((refine step_copy_only rfl _ _ 56 56 rfl 5 Try.underlying56 info5 b bs.length (room - bs.length) (room - bs.length) ⟨h, 1, none⟩ 3 3 (by rfl) (by rfl) (u8s bs ++ rest) 5 HRW1.out (u8s (be 3 n)) HMIN.out HSRC.out (by rw [← u8s_len bs]; exact HFIT.out) H1C.out ?_; intro w3 hrow3 ho3; have HRW3 := hid hrow3; have HO3 : Hid (Only [b] W1 w3) := hid ⟨ho3.os, ho3.tape, ho3.output, ho3.size, ho3.block⟩; have HBK3 := hid (HO3.out.blk HBK1.out (by have := HNE.out; simp; omega)); have d1 : w3.cell? ⟨a, 1, none⟩ = some (.int .i64 bs.length) := HBK3.out.cell 1; have d0 : w3.cell? ⟨a, 0, none⟩ = some (.slice (some ⟨b, 0, none⟩) room room) := HBK3.out.cell 0; have g1 := HBK3.out.froz 1; clear hrow3 ho3))
    all_goals
      (try go_wp2_with fail)
      go_meet
      rw [HWR.out]
      exact ⟨HBK3.out.set 1 _, HRW3.out.other _ _ (by have := HNE.out; simp; omega), (HO3.out.mono (by intro k _ h; simp at h ⊢; exact .inr h)).set (p := ⟨a, 1, none⟩) (.inl (by simp)) _⟩
  case rest =>
    obtain ⟨hk1, hk2, hk3⟩ := hcut
    obtain ⟨W4, hW4⟩ : ∃ W4, wc = W4 := ⟨_, rfl⟩
    rw [hW4] at hk1 hk2 hk3 ⊢
    clear hW4 c0 c1 f1 hre l0 l1
    have HK1 := hid hk1
    have HK2 := hid hk2
    have HK3 := hid hk3
    have HS4 := hid (hk3.blk HL4.out (by have := HHN.out; simp; omega))
    clear hk1 hk2 hk3
    have HLT := hid (sumF_lt (sumB_lt bs))
    go_wp2_with fail
    go_loopw [46] (fun vi wr => ∃ j : Nat, vi = .int .i64 j ∧ j ≤ 3 ∧ Blk wr a [.slice (some ⟨b, 0, none⟩) room room, .int .i64 ((bs.length : Int) + 3), .int .u32 (sumF (sumB bs) ((be 3 n).take j))] 100 ∧ Only [a] W4 wr) (fun vi _ => 3 - (RowKit.intOf vi).toNat)
    case atStart => exact ⟨0, rfl, Nat.zero_le _, HK1.out, Only.refl _ _⟩
    case round =>
      obtain ⟨j, rfl, hj, hb, ho⟩ := hrel
      have HB := hid hb
      have HO := hid ho
      clear hb ho
      by_cases hlt : j < 3
      · obtain ⟨x, hx⟩ := some_at (xs := be 3 n) (i := j) (by rw [be_len]; exact hlt)
        have HX := hid hx
        have hx256 : x < 256 := be_lt 3 n x (List.mem_of_getElem? hx)
        have hcell : wr.cell? ⟨h, 1 + j, none⟩ = some (.int .u8 x) := by
          refine ((HO.out.blk HS4.out (by have := HHN.out; simp; omega)).cell (1 + j)).trans ?_
          have : (be 4 n)[1 + j]? = some x := by
            rw [← List.getElem?_drop, be_drop (k := 3) (by decide) n]; exact hx
          unfold u8s
          rw [List.getElem?_map, this]
          rfl
        have c2 : wr.cell? ⟨a, 2, none⟩ = some (.int .u32 (sumF (sumB bs) ((be 3 n).take j))) := HB.out.cell 2
        have f2 := HB.out.froz 2
        have hji : (j : Int) < 3 := by omega
        have hj0 : (0 : Int) ≤ (j : Int) := by omega
        have HW := hid (with_any (sumF (sumB bs) ((be 3 n).take j)) x (HLT.out _) hx256)
        have HJ := hid hlt
        clear hx hx256 hlt
        go_wp2_with (go_at_call 55; refine (HW.out _).mono ?_; rintro e w' ⟨rfl, rfl⟩)
        refine ⟨⟨j + 1, by go_num, by have := HJ.out; omega, ?_, HO.out.set (p := ⟨a, 2, none⟩) (.inl (by simp)) _⟩, ?_⟩
        · have e : sumF (sumB bs) ((be 3 n).take (j + 1)) = wit (sumF (sumB bs) ((be 3 n).take j)) x := by
            rw [List.take_add_one, HX.out]
            exact sumF_snoc _ _ _
          rw [e]
          exact HB.out.set 2 _
        · have := HJ.out
          simp [RowKit.intOf]; omega
      · have hji : ¬ (j : Int) < 3 := by omega
        have hjk : j = 3 := by omega
        subst hjk
        clear hlt
        go_wp2_with fail
        go_end0
        have hbk := HB.out
        rw [List.take_of_length_le (Nat.le_of_eq (be_len _ _)), ← sumB_app] at hbk
        refine ⟨rfl, ⟨?_, rest.drop (u8s (be 3 n)).length, ?_, ?_⟩, ?_⟩
        · rw [List.length_append, be_len]
          exact hbk
        · rw [u8s_app, ← splice_end, u8s_len bs]
          exact HO.out.blk HK2.out (by have := HNE.out; simp; omega)
        · have := HLEN.out
          have := HRM.out
          rw [List.length_append, List.length_drop, u8s_len, be_len]; omega
        · exact ((Only.ofBelow HB1.out).behind (HK3.out.fresh HO.out (by simp)))
end Go.Proofs.Ytdinlaoimpoolaa
