/- measured: the unit of a name, out of the program's own table. -/
import Derived.Test.YtapnmopcmlcfbaaDoorUn
namespace Go.Proofs.YtapnmopcmlcfbaaDoor
open Go.RowKit

def uT : Nat → ByteArray
  | 0 => uT0 | 1 => uT1 | 2 => uT2 | 3 => uT3 | 4 => uT4 | _ => uT5
theorem toList_ne {s u : ByteArray} (h : s ≠ u) : (u.toList == s.toList) = false := by
  refine beq_eq_false_iff_ne.2 (fun e => h ?_)
  rw [ByteArray.toList_eq, ByteArray.toList_eq] at e
  cases s; cases u; congr 1; exact (Array.ext' e).symm
theorem ne_more {s : ByteArray} {k : Nat} (h : ∀ j, j < k → s ≠ uT j) (h2 : s ≠ uT k) : ∀ j, j < k + 1 → s ≠ uT j := fun j hj => by
  rcases Nat.lt_or_ge j k with g | g
  · exact h j g
  · rw [show j = k by omega]; exact h2
theorem mea_none {s : ByteArray} (h : ∀ j, j < 6 → s ≠ uT j) : mea (bl s) = none := by
  rcases name_ways s with e | e | e | e | e | e | e
  · exact absurd e (h 0 (by decide))
  · exact absurd e (h 1 (by decide))
  · exact absurd e (h 2 (by decide))
  · exact absurd e (h 3 (by decide))
  · exact absurd e (h 4 (by decide))
  · exact absurd e (h 5 (by decide))
  · exact e.1
set_option maxRecDepth 100000 in
set_option maxHeartbeats 4000000 in
theorem measured_any (s : ByteArray) (w : World) (hU : Un w) :
    Calls Tryd.prog 17 #[.string s] w fun e w' => e = .returned (meaV s (mea (bl s))) ∧ Only [] w w' := by
  have hsz := hU.size
  obtain ⟨c0, c1, c2, c3, c4, c5, c6, c7, c8, c9, c10, c11, c12, c13, c14, c15, c16, c17⟩ := hU
  go_enter Tryd.func17, Tryd.ntmps17
  go_wp2_with fail
  clear c0 c1 c2 c3 c4 c5 c6 c7 c8 c9 c10 c11 c12 c13 c14 c15 c16 c17
  obtain ⟨W0, hW0⟩ : ∃ W0, w.alloc (.cells #[.string { data := #[] }, .int .u64 0, .int .u64 0] 41) = W0 := ⟨_, rfl⟩
  have HB : Hid (Blk W0 w.heap.size [.string { data := #[] }, .int .u64 0, .int .u64 0] 41) := by rw [← hW0]; exact Blk.new _ _ _ rfl
  have HO : Hid (Only [] w W0) := by rw [← hW0]; exact (Only.refl _ _).alloc _
  rw [hW0]
  clear hW0
  obtain ⟨b, hb⟩ : ∃ b, w.heap.size = b := ⟨_, rfl⟩
  have HBW := hid hb
  rw [hb] at HB
  rw [hb]
  rw [hb] at hsz
  clear hb
  go_loopw [7] (fun i wr => ∃ k : Nat, k ≤ 6 ∧ i = .int .i64 k ∧ (∀ j, j < k → s ≠ uT j) ∧ Blk wr b [.string { data := #[] }, .int .u64 0, .int .u64 0] 41 ∧ Only [] w wr) (fun i _ => 6 - (intOf i).toNat)
  case atStart => exact ⟨0, by omega, rfl, fun j hj => absurd hj (by omega), HB.out, HO.out⟩
  case round =>
    obtain ⟨k, hk, rfl, hne, hbk, ho⟩ := hrel
    have HNE := hid hne
    have HBK := hid hbk
    have HOK := hid ho
    have hbl := hbk.lt
    have q0 : wr.cell? ⟨b, 0, none⟩ = some (.string { data := #[] }) := hbk.cell 0
    have f0 := fun i => hbk.froz i
    have hx0 := uIdx0
    have hx1 := uIdx1
    have hx2 := uIdx2
    have hx3 := uIdx3
    have hx4 := uIdx4
    have hx5 := uIdx5
    have q1 : wr.cell? ⟨b, 1, none⟩ = some (.int .u64 0) := hbk.cell 1
    have q2 : wr.cell? ⟨b, 2, none⟩ = some (.int .u64 0) := hbk.cell 2
    clear hne hbk ho
    obtain rfl | rfl | rfl | rfl | rfl | rfl | rfl : k = 0 ∨ k = 1 ∨ k = 2 ∨ k = 3 ∨ k = 4 ∨ k = 5 ∨ k = 6 := by omega
    · clear hx1 hx2 hx3 hx4 hx5
      by_cases hs : s = uT0
      · have he : (uT0.toList == s.toList) = true := by rw [hs]; exact beq_self_eq_true _
        have HS := hid hs
        clear hs
        go_wp2_with fail
        have k := ((HBK.out.set 0 (.string uT0)).set 1 (.int .u64 65536)).set 2 (.int .u64 1)
        replace k := k.alloc (.cells #[.string uT0, .int .u64 65536, .int .u64 1] 41)
        have k0 := k.cell 0
        have k1 := k.cell 1
        have k2 := k.cell 2
        simp only [List.set_cons_zero, List.set_cons_succ, List.getElem?_cons_zero, List.getElem?_cons_succ] at k0 k1 k2
        refine bodyPost_ret (v := .tuple #[.agg #[.string uT0, .int .u64 65536, .int .u64 1], .bool true]) (by simp [results, Tryd.results17, go_sem, k0, k1, k2]) rfl ⟨?_, ?_⟩
        · rw [HS.out]; rfl
        · exact (((HOK.out.set (.inr (Nat.le_of_eq HBW.out)) _).set (.inr (Nat.le_of_eq HBW.out)) _).set (.inr (Nat.le_of_eq HBW.out)) _).alloc _
      · have he := toList_ne hs
        have HS := hid hs
        clear hs
        go_wp2_with fail
        go_roundw
        case rel => exact ⟨1, by omega, rfl, ne_more HNE.out HS.out, HBK.out.alloc _, HOK.out.alloc _⟩
        case measure => simp [intOf]
    · clear hx0 hx2 hx3 hx4 hx5
      by_cases hs : s = uT1
      · have he : (uT1.toList == s.toList) = true := by rw [hs]; exact beq_self_eq_true _
        have HS := hid hs
        clear hs
        go_wp2_with fail
        have k := ((HBK.out.set 0 (.string uT1)).set 1 (.int .u64 65536)).set 2 (.int .u64 1)
        replace k := k.alloc (.cells #[.string uT1, .int .u64 65536, .int .u64 1] 41)
        have k0 := k.cell 0
        have k1 := k.cell 1
        have k2 := k.cell 2
        simp only [List.set_cons_zero, List.set_cons_succ, List.getElem?_cons_zero, List.getElem?_cons_succ] at k0 k1 k2
        refine bodyPost_ret (v := .tuple #[.agg #[.string uT1, .int .u64 65536, .int .u64 1], .bool true]) (by simp [results, Tryd.results17, go_sem, k0, k1, k2]) rfl ⟨?_, ?_⟩
        · rw [HS.out]; rfl
        · exact (((HOK.out.set (.inr (Nat.le_of_eq HBW.out)) _).set (.inr (Nat.le_of_eq HBW.out)) _).set (.inr (Nat.le_of_eq HBW.out)) _).alloc _
      · have he := toList_ne hs
        have HS := hid hs
        clear hs
        go_wp2_with fail
        go_roundw
        case rel => exact ⟨2, by omega, rfl, ne_more HNE.out HS.out, HBK.out.alloc _, HOK.out.alloc _⟩
        case measure => simp [intOf]
    · clear hx0 hx1 hx3 hx4 hx5
      by_cases hs : s = uT2
      · have he : (uT2.toList == s.toList) = true := by rw [hs]; exact beq_self_eq_true _
        have HS := hid hs
        clear hs
        go_wp2_with fail
        have k := ((HBK.out.set 0 (.string uT2)).set 1 (.int .u64 4718592)).set 2 (.int .u64 1)
        replace k := k.alloc (.cells #[.string uT2, .int .u64 4718592, .int .u64 1] 41)
        have k0 := k.cell 0
        have k1 := k.cell 1
        have k2 := k.cell 2
        simp only [List.set_cons_zero, List.set_cons_succ, List.getElem?_cons_zero, List.getElem?_cons_succ] at k0 k1 k2
        refine bodyPost_ret (v := .tuple #[.agg #[.string uT2, .int .u64 4718592, .int .u64 1], .bool true]) (by simp [results, Tryd.results17, go_sem, k0, k1, k2]) rfl ⟨?_, ?_⟩
        · rw [HS.out]; rfl
        · exact (((HOK.out.set (.inr (Nat.le_of_eq HBW.out)) _).set (.inr (Nat.le_of_eq HBW.out)) _).set (.inr (Nat.le_of_eq HBW.out)) _).alloc _
      · have he := toList_ne hs
        have HS := hid hs
        clear hs
        go_wp2_with fail
        go_roundw
        case rel => exact ⟨3, by omega, rfl, ne_more HNE.out HS.out, HBK.out.alloc _, HOK.out.alloc _⟩
        case measure => simp [intOf]
    · clear hx0 hx1 hx2 hx4 hx5
      by_cases hs : s = uT3
      · have he : (uT3.toList == s.toList) = true := by rw [hs]; exact beq_self_eq_true _
        have HS := hid hs
        clear hs
        go_wp2_with fail
        have k := ((HBK.out.set 0 (.string uT3)).set 1 (.int .u64 23592960)).set 2 (.int .u64 127)
        replace k := k.alloc (.cells #[.string uT3, .int .u64 23592960, .int .u64 127] 41)
        have k0 := k.cell 0
        have k1 := k.cell 1
        have k2 := k.cell 2
        simp only [List.set_cons_zero, List.set_cons_succ, List.getElem?_cons_zero, List.getElem?_cons_succ] at k0 k1 k2
        refine bodyPost_ret (v := .tuple #[.agg #[.string uT3, .int .u64 23592960, .int .u64 127], .bool true]) (by simp [results, Tryd.results17, go_sem, k0, k1, k2]) rfl ⟨?_, ?_⟩
        · rw [HS.out]; rfl
        · exact (((HOK.out.set (.inr (Nat.le_of_eq HBW.out)) _).set (.inr (Nat.le_of_eq HBW.out)) _).set (.inr (Nat.le_of_eq HBW.out)) _).alloc _
      · have he := toList_ne hs
        have HS := hid hs
        clear hs
        go_wp2_with fail
        go_roundw
        case rel => exact ⟨4, by omega, rfl, ne_more HNE.out HS.out, HBK.out.alloc _, HOK.out.alloc _⟩
        case measure => simp [intOf]
    · clear hx0 hx1 hx2 hx3 hx5
      by_cases hs : s = uT4
      · have he : (uT4.toList == s.toList) = true := by rw [hs]; exact beq_self_eq_true _
        have HS := hid hs
        clear hs
        go_wp2_with fail
        have k := ((HBK.out.set 0 (.string uT4)).set 1 (.int .u64 1)).set 2 (.int .u64 1)
        replace k := k.alloc (.cells #[.string uT4, .int .u64 1, .int .u64 1] 41)
        have k0 := k.cell 0
        have k1 := k.cell 1
        have k2 := k.cell 2
        simp only [List.set_cons_zero, List.set_cons_succ, List.getElem?_cons_zero, List.getElem?_cons_succ] at k0 k1 k2
        refine bodyPost_ret (v := .tuple #[.agg #[.string uT4, .int .u64 1, .int .u64 1], .bool true]) (by simp [results, Tryd.results17, go_sem, k0, k1, k2]) rfl ⟨?_, ?_⟩
        · rw [HS.out]; rfl
        · exact (((HOK.out.set (.inr (Nat.le_of_eq HBW.out)) _).set (.inr (Nat.le_of_eq HBW.out)) _).set (.inr (Nat.le_of_eq HBW.out)) _).alloc _
      · have he := toList_ne hs
        have HS := hid hs
        clear hs
        go_wp2_with fail
        go_roundw
        case rel => exact ⟨5, by omega, rfl, ne_more HNE.out HS.out, HBK.out.alloc _, HOK.out.alloc _⟩
        case measure => simp [intOf]
    · clear hx0 hx1 hx2 hx3 hx4
      by_cases hs : s = uT5
      · have he : (uT5.toList == s.toList) = true := by rw [hs]; exact beq_self_eq_true _
        have HS := hid hs
        clear hs
        go_wp2_with fail
        have k := ((HBK.out.set 0 (.string uT5)).set 1 (.int .u64 0)).set 2 (.int .u64 1)
        replace k := k.alloc (.cells #[.string uT5, .int .u64 0, .int .u64 1] 41)
        have k0 := k.cell 0
        have k1 := k.cell 1
        have k2 := k.cell 2
        simp only [List.set_cons_zero, List.set_cons_succ, List.getElem?_cons_zero, List.getElem?_cons_succ] at k0 k1 k2
        refine bodyPost_ret (v := .tuple #[.agg #[.string uT5, .int .u64 0, .int .u64 1], .bool true]) (by simp [results, Tryd.results17, go_sem, k0, k1, k2]) rfl ⟨?_, ?_⟩
        · rw [HS.out]; rfl
        · exact (((HOK.out.set (.inr (Nat.le_of_eq HBW.out)) _).set (.inr (Nat.le_of_eq HBW.out)) _).set (.inr (Nat.le_of_eq HBW.out)) _).alloc _
      · have he := toList_ne hs
        have HS := hid hs
        clear hs
        go_wp2_with fail
        go_roundw
        case rel => exact ⟨6, by omega, rfl, ne_more HNE.out HS.out, HBK.out.alloc _, HOK.out.alloc _⟩
        case measure => simp [intOf]
    · clear hx0 hx1 hx2 hx3 hx4 hx5
      go_wp2_with fail
      have k := ((HBK.out.set 0 (.string { data := #[] })).set 1 (.int .u64 0)).set 2 (.int .u64 0)
      have k0 := k.cell 0
      have k1 := k.cell 1
      have k2 := k.cell 2
      simp only [List.set_cons_zero, List.set_cons_succ, List.getElem?_cons_zero, List.getElem?_cons_succ] at k0 k1 k2
      refine bodyPost_ret (v := .tuple #[.agg #[.string { data := #[] }, .int .u64 0, .int .u64 0], .bool false]) (by simp [results, Tryd.results17, go_sem, k0, k1, k2]) rfl ⟨?_, ?_⟩
      · rw [mea_none HNE.out]; rfl
      · exact (((HOK.out.set (.inr (Nat.le_of_eq HBW.out)) _).set (.inr (Nat.le_of_eq HBW.out)) _).set (.inr (Nat.le_of_eq HBW.out)) _)
end Go.Proofs.YtapnmopcmlcfbaaDoor
