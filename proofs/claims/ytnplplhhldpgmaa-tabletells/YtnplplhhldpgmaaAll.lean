/- All and the function that it hands back, as an iterator's contract: for every body of a loop over it. -/
import Derived.RangeFuncNested
import Derived.RangeFuncBox
import Derived.RangeFuncBound
import Derived.RangeFuncCalls
import Derived.RangeFuncLeaves
import Derived.Shelf.Abstract
import Derived.Shelf.RegionOpen
import Derived.WalkKit
import Derived.OwnWalkIn
import Derived.TacticsInMore
import Derived.LoopNIn
import Derived.LoopIn
import Derived.Lib.OthersKept
import Derived.Laws.RangeAny
import Derived.Test.YtnplplhhldpgmaaNew
namespace Go.Proofs.Ytnplplhhldpgmaa
open Go.RowKit Go.Shelf
attribute [local go_sem] Oper.semAt_some

abbrev encs (g : Gl) : Array Value := #[.agg (cg g).toArray]
set_option maxHeartbeats 400000 in
theorem all_any (a : Nat) (w : World) : Calls Try.prog 14 #[.pointer (some ⟨a, 0, none⟩)] w fun e w' => e = .returned (.func (.func 29) #[] #[.pointer (some ⟨w.heap.size, 0, none⟩)]) ∧ w' = w.alloc (.cells #[.pointer (some ⟨a, 0, none⟩)] 30) := by
  go_enter Try.func14, Try.ntmps14
  go_wp2
  go_ret
  exact ⟨rfl, rfl⟩
set_option maxRecDepth 100000 in
set_option maxHeartbeats 4000000 in
theorem all1_in (n : Nat) (hn : 1 ≤ n) (l Bs a n₀ : Nat) (em mv : Value) (gs : List Gl) (ag : Option Addr) (ca : Nat) (hgs : gs.length ≤ 1024) (J Jx : List Gl → World → Prop)
    (hY : ∀ pre x W, J pre W → pre.length < gs.length → YieldAt Fence.wide (n - 1) Try.prog l (encs x) W fun e W' =>
      (e = .returned (.bool true) ∧ J (pre ++ [x]) W' ∧ Below n₀ W W') ∨ (e = .returned (.bool false) ∧ Jx (pre ++ [x]) W'))
    (W : World) (hJ : AbidesFrom W.heap.size J) (hBs : Boxed W Bs 30 (.pointer (some ⟨a, 0, none⟩))) (hB : Blk W a [em, .slice ag gs.length ca, mv] 63) (hs : Sl W ag gs.length (gs.flatMap cg)) (hb0 : ∀ b off, ag = some ⟨b, off, none⟩ → b < n₀) (hn0 : n₀ ≤ W.heap.size) (h0 : J [] W) :
    CallsIn Fence.wide n Try.prog 29 #[.func (.yield l) #[] #[], .pointer (some ⟨Bs, 0, none⟩)] W fun e W' => (∃ v, e = .returned v) ∧
      ((∃ ys, ys = gs ∧ J ys W') ∨ (∃ pre, pre <+: gs ∧ Jx pre W')) := by
  have hc := hBs.cell
  have hc1 : W.cell? ⟨a, 1, none⟩ = some (.slice ag gs.length ca) := hB.cell 1
  have HS : Hid (Sl W ag gs.length (gs.flatMap cg)) := hs
  obtain ⟨N, hne⟩ : ∃ N, gs.length = N := ⟨_, rfl⟩
  have HN : Hid (gs.length = N) := hne
  rw [hne] at hgs hc1 hY
  have HY : Hid _ := hY
  clear hne hB hs hY
  refine callsIn_of_wp Try.func29 rfl trivial ?_ rfl
  simp only [Try.ntmps29, List.size_toArray, List.length_cons, List.length_nil, Nat.reduceAdd, Nat.reduceSub, Array.replicate_succ, Array.replicate_zero, List.push_toArray, List.append_toArray, List.nil_append, List.cons_append]
  gi_wp2
  gi_loopw [10] (fun vi wr => ∃ k : Nat, vi = .int .i64 k ∧ k ≤ N ∧ J (gs.take k) wr ∧ Below n₀ W wr) (fun vi _ => N - (RowKit.intOf vi).toNat)
  case atStart => exact ⟨0, rfl, by omega, h0, Below.refl _ _⟩
  case round =>
    obtain ⟨k, rfl, hk, hJk, hbl⟩ := hrel
    have HJK : Hid (J (gs.take k) wr) := hJk
    have HBL : Hid (Below n₀ W wr) := hbl
    clear hJk hbl
    by_cases hlt : k < N
    · obtain ⟨g, hg⟩ := some_at (xs := gs) (i := k) (by rw [HN.out]; exact hlt)
      obtain ⟨b, off, rfl, hblt, hga⟩ := HS.out.glyph hg
      have hbn := hb0 b off rfl
      have hga2 : GAt wr b (off + k * 4) g := by
        have f := fun o => HBL.out.cell (p := ⟨b, o, none⟩) hbn
        exact ⟨(f _).trans hga.c0, (f _).trans hga.c1, (f _).trans hga.c2, (f _).trans hga.c3⟩
      obtain ⟨c0, c1, c2, c3⟩ := hga2
      have HG : Hid (gs[k]? = some g) := hg
      have hsz := HBL.out.size
      have HJ2 : Hid (J (gs.take k) (wr.alloc (.cells (cg g).toArray 45))) := hJ _ _ _ none HJK.out (World.grownBy_alloc wr _ none) (fun r e => by cases e)
      obtain ⟨fn, tmps, assign, body, hy, hR⟩ := HY.out (gs.take k) g _ HJ2.out (by rw [List.length_take, HN.out]; omega)
      have HT : Hid (gs.take (k + 1) = gs.take k ++ [g]) := take_at hg
      obtain ⟨g0, g1, g2, g3⟩ := g
      simp only [cg, encs] at hy hR c0 c1 c2 c3 HJ2
      clear hg hga hc hc1
      gi_wp2
      refine hR.mono ?_
      rintro e W3 (⟨rfl, hJ3, hk3⟩ | ⟨rfl, hJx3⟩)
      · gi_wp2
        refine ⟨⟨k + 1, by go_num, by omega, by rw [HT.out]; exact hJ3, (HBL.out.alloc (by omega) _).trans hk3⟩, ?_⟩
        simp [RowKit.intOf]; omega
      · gi_wp2
        refine bodyPost_ret (results_none rfl _ _ _) rfl ?_
        refine ⟨⟨_, rfl⟩, .inr ⟨gs.take k ++ [(g0, g1, g2, g3)], ?_, hJx3⟩⟩
        rw [← HT.out]
        exact List.take_prefix _ _
    · have HE : Hid (gs.take k = gs) := List.take_of_length_le (by rw [HN.out]; omega)
      clear hc hc1
      gi_wp2
      go_end0
      exact ⟨⟨_, rfl⟩, .inl ⟨gs, rfl, by have := HJK.out; rwa [HE.out] at this⟩⟩

/-- THE ITERATOR's CONTRACT -/
theorem all_stops (n : Nat) (hn : 1 ≤ n) (Bs a n₀ : Nat) (em mv : Value) (gs : List Gl) (ag : Option Addr) (ca : Nat) (hgs : gs.length ≤ 1024) (w : World) (hBs : Boxed w Bs 30 (.pointer (some ⟨a, 0, none⟩))) (hB : Blk w a [em, .slice ag gs.length ca, mv] 63) (hs : Sl w ag gs.length (gs.flatMap cg)) (hb0 : ∀ b off, ag = some ⟨b, off, none⟩ → b < n₀) (hn0 : n₀ ≤ w.heap.size) :
    SeqStopsK Fence.wide n Try.prog 29 #[.pointer (some ⟨Bs, 0, none⟩)] encs (Below n₀) (fun xs => xs = gs) (fun pre => pre <+: gs) gs.length w :=
  fun l J Jx W hW hJ _ hY h0 => all1_in n hn l Bs a n₀ em mv gs ag ca hgs J Jx hY W hJ ((hW.block Bs hBs.lt).trans hBs) (hB.below hW) (hs.below hW) hb0 (Nat.le_trans hn0 hW.size) h0
end Go.Proofs.Ytnplplhhldpgmaa
