/- Check. -/
import Derived.Test.YthlbbinlkmchjaaDoorCut
namespace Go.Proofs.YthlbbinlkmchjaaDoor
open Go.RowKit

/-- what Check tells -/
def told : Option Nat → Value
  | none => .agg #[.int .i64 0, .int .i64 0]
  | some A => .agg #[.int .i64 40, .int .i64 A]

set_option maxHeartbeats 4000000 in
theorem check_any (s : ByteArray) (w : World) (hs : s.size ≤ 1152921504606846976) (hT : Tb w) :
    Calls Tryd.prog 43 #[.string s] w fun e w' => e = .returned (told (chk (bl s))) ∧ Below w.heap.size w w' := by
  have HT : Hid (Tb w) := hT
  clear hT
  have HC := cut_any s s.size (w.alloc (.cells #[.int .i64 0, .int .i64 0] 35)) hs (by omega) (by omega)
  have hpe : pos (s.size : Int).toNat (bl s) = en (bl s) := by
    rw [Int.toNat_natCast]; exact (rl_all (bl s) s.size 0 (by rw [bl_length]; exact Nat.le_refl _)).2
  rw [hpe] at HC
  have hle := en_le (bl s)
  rw [bl_length] at hle
  by_cases hr : en (bl s) = (bl s).length
  · have hc : chk (bl s) = none := chk_none.2 hr
    rw [bl_length] at hr
    rw [hr, show s.extract s.size s.size = ⟨#[]⟩ from by simp; rfl] at HC
    rw [hc]
    clear hr hc hpe hle
    go_enter Tryd.func43, Tryd.ntmps43
    go_wp2_with fail
    refine (HC).mono ?_
    rintro e w1 ⟨rfl, hb1⟩
    rw [World.size_alloc] at hb1
    have HB1 : Hid (Below (w.heap.size + 1) (w.alloc (.cells #[.int .i64 0, .int .i64 0] 35)) w1) := hb1
    have hbk : Blk w1 w.heap.size [.int .i64 0, .int .i64 0] 35 := (hb1.block _ (by omega)).trans (Blk.new w #[.int .i64 0, .int .i64 0] 35 rfl)
    have HK : Hid (Blk w1 w.heap.size [.int .i64 0, .int .i64 0] 35) := hbk
    have hc0 : w1.cell? ⟨w.heap.size, 0, none⟩ = some (.int .i64 0) := hbk.cell 0
    have hc1 : w1.cell? ⟨w.heap.size, 1, none⟩ = some (.int .i64 0) := hbk.cell 1
    have hf0 := hbk.froz 0
    have hf1 := hbk.froz 1
    clear hb1 hbk HC
    go_wp2_with fail
    have hbk2 := (HK.out.set 0 (.int .i64 0)).set 1 (.int .i64 0)
    have hd0 := hbk2.cell 0
    have hd1 := hbk2.cell 1
    simp only [List.set_cons_zero, List.set_cons_succ, List.getElem?_cons_zero, List.getElem?_cons_succ] at hd0 hd1
    refine bodyPost_ret (v := .agg #[.int .i64 0, .int .i64 0]) ?_ rfl ⟨rfl, ?_⟩
    · simp [results, Tryd.f43, go_sem, hd0, hd1]
    · exact ((((Below.refl _ w).alloc (Nat.le_refl _) _).trans (HB1.out.mono (by omega))).setCell (p := ⟨w.heap.size, 0, none⟩) (Nat.le_refl _) _).setCell (p := ⟨w.heap.size, 1, none⟩) (Nat.le_refl _) _
  · obtain ⟨e, he, hc, hle2⟩ := chk_some hr
    have hbe : bl (s.extract (en (bl s)) s.size) = (bl s).drop (en (bl s)) := bl_drop s _
    have hz1 : (s.extract 0 (en (bl s))).size = en (bl s) := by rw [← bl_length, bl_extract]; simp [bl_length]; omega
    have hz2 : (s.extract (en (bl s)) s.size).size = s.size - en (bl s) := by rw [← bl_length, hbe, List.length_drop, bl_length]
    rw [bl_length] at hle2 hr
    have HE : Hid (bad (bl (s.extract (en (bl s)) s.size)) = some e) := by rw [hbe]; exact he
    rw [hc]
    clear hc he hbe hpe
    have hne : ¬ (s.extract (en (bl s)) s.size).toList = [] := by
      rw [ByteArray.toList_eq]
      intro h
      have := congrArg List.length h
      simp at this
      omega
    have HN : Hid (((s.extract (en (bl s)) s.size).toList == []) = false) := by
      exact beq_eq_false_iff_ne.2 hne
    clear hne
    generalize en (bl s) = c at *
    generalize hra : s.extract 0 c = ra at *
    generalize hrb : s.extract c s.size = rb at *
    clear hra hrb
    go_enter Tryd.func43, Tryd.ntmps43
    go_wp2_with fail
    refine (HC).mono ?_
    rintro e1 w1 ⟨rfl, hb1⟩
    rw [World.size_alloc] at hb1
    have HB1 : Hid (Below (w.heap.size + 1) (w.alloc (.cells #[.int .i64 0, .int .i64 0] 35)) w1) := hb1
    have hbk : Blk w1 w.heap.size [.int .i64 0, .int .i64 0] 35 := (hb1.block _ (by omega)).trans (Blk.new w #[.int .i64 0, .int .i64 0] 35 rfl)
    have HK1 : Hid (Blk w1 w.heap.size [.int .i64 0, .int .i64 0] 35) := hbk
    clear hb1 hbk HC
    have hne := HN.out
    go_wp2_with fail
    refine (standing_any rb w1 e (by unfold maxLen; omega) HE.out ((HT.out.of ((Below.refl _ w).alloc (Nat.le_refl _) _) HT.out.size).of HB1.out (by have := HT.out.size; omega))).mono ?_
    rintro e2 w2 ⟨rfl, hb2⟩
    have HB2 : Hid (Below w.heap.size w w2) := ((Below.refl _ w).alloc (Nat.le_refl _) _).trans ((HB1.out.mono (by omega)).trans (hb2.mono (by have := HB1.out.size; simp at this; omega)))
    have hbk : Blk w2 w.heap.size [.int .i64 0, .int .i64 0] 35 := (hb2.block _ HK1.out.lt).trans HK1.out
    have HK : Hid (Blk w2 w.heap.size [.int .i64 0, .int .i64 0] 35) := hbk
    have hc0 : w2.cell? ⟨w.heap.size, 0, none⟩ = some (.int .i64 0) := hbk.cell 0
    have hc1 : w2.cell? ⟨w.heap.size, 1, none⟩ = some (.int .i64 0) := hbk.cell 1
    have hf0 := hbk.froz 0
    have hf1 := hbk.froz 1
    have hsum : (c : Int) + (e : Int) ≤ (s.size : Int) := by omega
    have hs' : (s.size : Int) ≤ 1152921504606846976 := by omega
    clear hb2 hbk hne
    go_wp2_with fail
    have hbk2 := (HK.out.set 0 (.int .i64 40)).set 1 (.int .i64 ((c : Int) + (e : Int)))
    have hd0 := hbk2.cell 0
    have hd1 := hbk2.cell 1
    simp only [List.set_cons_zero, List.set_cons_succ, List.getElem?_cons_zero, List.getElem?_cons_succ] at hd0 hd1
    refine bodyPost_ret (v := .agg #[.int .i64 40, .int .i64 ((c : Int) + (e : Int))]) ?_ rfl ⟨rfl, ?_⟩
    · simp [results, Tryd.f43, go_sem, hd0, hd1]
    · exact (HB2.out.setCell (p := ⟨w.heap.size, 0, none⟩) (Nat.le_refl _) _).setCell (p := ⟨w.heap.size, 1, none⟩) (Nat.le_refl _) _
end Go.Proofs.YthlbbinlkmchjaaDoor
