/- All and the function that it hands back, as an iterator's contract: for every body of a loop over it. -/
import Derived.RangeFuncNested
import Derived.RangeFuncBox
import Derived.RangeFuncBound
import Derived.RangeFuncCalls
import Derived.RangeFuncLeaves
import Derived.Shelf.Abstract
import Derived.Shelf.RegionOpen
import Derived.WalkKit
import Derived.OwnWalkIn
import Derived.TacticsInMore
import Derived.LoopNIn
import Derived.LoopIn
import Derived.Lib.OthersKept
import Derived.Laws.RangeAny
import Derived.Test.YthlbbinlkmchjaaDoorStandAll
namespace Go.Proofs.YthlbbinlkmchjaaDoor
open Go.RowKit Go.Shelf
attribute [local go_sem] Oper.semAt_some

/-- a place and a rune -/
abbrev RN := { x : Nat × Nat // x.1 ≤ 1152921504606846976 ∧ x.2 ≤ 1114111 ∧ (x.2 < 55296 ∨ 57343 < x.2) }
abbrev encs (x : RN) : Array Value := #[.int .i64 x.1.1, .int .i32 x.1.2]
/-- plainly -/
def pl (xs : List RN) : List (Nat × Nat) := xs.map (·.1)
theorem pl_snoc (xs : List RN) (x : RN) : pl (xs ++ [x]) = pl xs ++ [x.1] := by simp [pl]
theorem pl_length (xs : List RN) : (pl xs).length = xs.length := by simp [pl]
/-- what a round that goes on keeps: the walks, and the box of the text -/
def Kp (Bs : Nat) (W W' : World) : Prop := KeepsWalks W W' ∧ (Bs < W.heap.size → W'.heap[Bs]? = W.heap[Bs]?)
theorem Kp.t {Bs : Nat} {A B C : World} (h : Kp Bs A B) (k : Kp Bs B C) : Kp Bs A C :=
  ⟨h.1.trans k.1, fun hb => (k.2 (Nat.lt_of_lt_of_le hb h.1.size)).trans (h.2 hb)⟩
theorem Kp.b {Bs : Nat} {w : World} (hB : Bs < w.heap.size) (W : World) (l : Nat) (o o' : Obj) (hl : w.heap.size ≤ l) (h : W.heap[l]? = some o) (_ : o.isCells = false) (hw : o.isWalk = false) : Kp Bs W (W.putObj l o') :=
  ⟨KeepsWalks.putObj _ h hw, fun _ => World.putObj_heap_other (by omega)⟩
theorem decode_of (s : ByteArray) (p : Nat) : Utf8.decode s p = Lib.decodeN ((bl s).drop p).length (((bl s).drop p).getD 0 0) (((bl s).drop p).getD 1 0) (((bl s).drop p).getD 2 0) (((bl s).drop p).getD 3 0) := by
  rw [Lib.decode_at]
  simp only [bl_get, List.length_drop, bl_length, List.getD_eq_getElem?_getD, List.getElem?_drop, Nat.add_zero]
theorem decode_good {s : ByteArray} {p : Nat} (h : bad ((bl s).drop p) = none) : Utf8.decode s p = (rune ((bl s).drop p), wd ((bl s).drop p)) := by
  rw [decode_of]; exact decodeN_good h
theorem decode_bad {s : ByteArray} {p k : Nat} (hp : p < s.size) (h : bad ((bl s).drop p) = some k) : Utf8.decode s p = (65533, 1) := by
  rw [decode_of]
  exact (decodeN_bad (getD_lt (fun b hb => bl_lt s b (List.mem_of_mem_drop hb)) 0) (by rw [List.length_drop, bl_length]; omega) h).1
theorem bl_drop (s : ByteArray) (p : Nat) : bl (s.extract p s.size) = (bl s).drop p := by
  rw [bl_extract, List.take_of_length_le (by simp [bl_length])]
theorem grown_iterAt (W : World) (k : Nat) (s : ByteArray) (p : Nat) : W.grownBy (W.iterAt k s p) (some k) :=
  ⟨rfl, rfl, rfl, by rw [Lib.iterAt_size]; exact Nat.le_refl _, fun j _ hj => Lib.iterAt_other W k j s p (fun e => hj (by rw [e]))⟩

set_option maxRecDepth 100000 in
set_option maxHeartbeats 4000000 in
theorem all1_in (n : Nat) (hn : 1 ≤ n) (l Bs : Nat) (s : ByteArray) (hs : s.size ≤ 1152921504606846976) (J Jx : List RN → World → Prop)
    (hY : ∀ pre x W, J pre W → pre.length < s.size → YieldAt Fence.wide (n - 1) Tryd.prog l (encs x) W fun e W' =>
      (e = .returned (.bool true) ∧ J (pre ++ [x]) W' ∧ Kp Bs W W') ∨ (e = .returned (.bool false) ∧ Jx (pre ++ [x]) W'))
    (W : World) (hJ : AbidesFrom W.heap.size J) (hBs : Boxed W Bs 9 (.string s)) (h0 : J [] W) :
    CallsIn Fence.wide n Tryd.prog 66 #[.func (.yield l) #[] #[], .pointer (some ⟨Bs, 0, none⟩)] W fun e W' => (∃ v, e = .returned v) ∧
      ((∃ ys, pl ys = rs (bl s) ∧ J ys W') ∨ (∃ pre, pl pre <+: rs (bl s) ∧ Jx pre W')) := by
  have hc := hBs.cell
  refine callsIn_of_wp Tryd.func66 rfl trivial ?_ rfl
  simp only [Tryd.ntmps66, List.size_toArray, List.length_cons, List.length_nil, Nat.reduceAdd, Nat.reduceSub, Array.replicate_succ, Array.replicate_zero, List.push_toArray, List.append_toArray, List.nil_append, List.cons_append]
  gi_wp2
  gi_loopw [] (fun wr => ∃ pre : List RN, pl pre = rl pre.length 0 (bl s) ∧ wr.heap[W.heap.size]? = some (.stringIter s (pos pre.length (bl s))) ∧ Boxed wr Bs 9 (.string s) ∧ J pre wr)
    (fun wr => s.size - wr.iterPos W.heap.size)
  case atStart =>
    refine ⟨[], rfl, World.iter_heap W s 0, hBs.alloc _, ?_⟩
    exact hJ _ _ _ none h0 (World.grownBy_alloc W _ none) (fun r e => by cases e)
  case round =>
    obtain ⟨pre, hpre, hit, hbx, hJs⟩ := hrel
    obtain ⟨p, hp⟩ : ∃ p, pos pre.length (bl s) = p := ⟨_, rfl⟩
    have hple := pos_le pre.length (bl s)
    rw [bl_length, hp] at hple
    rw [hp] at hit
    have hlen : (rl pre.length 0 (bl s)).length = pre.length := by rw [← hpre, pl_length]
    by_cases hlt : p < s.size
    · have hnx : ∀ ty, (Instr.next (.pointer (some ⟨W.heap.size, 0, none⟩)) true ty).run Tryd.prog wr = _ := fun ty => Lib.run_next_any_at wr W.heap.size s p ty hit hlt
      have hbx2 : Boxed (wr.iterAt W.heap.size s (p + (Utf8.decode s p).2)) Bs 9 (.string s) := hbx.kept (grown_iterAt wr _ s _) (fun e => by
        cases e
        have : wr.heap[W.heap.size]? = _ := hbx
        rw [hit] at this; cases this)
      have hit2 := Lib.iterAt_heap wr W.heap.size s p (p + (Utf8.decode s p).2) hit
      have hJ2 : J pre (wr.iterAt W.heap.size s (p + (Utf8.decode s p).2)) := hJ _ _ _ (some W.heap.size) hJs (grown_iterAt wr _ s _) (fun r e => by cases e; exact ⟨Nat.le_refl _, _, hit, rfl⟩)
      have hbe : bl (s.extract p s.size) = (bl s).drop p := bl_drop s p
      rcases hb : bad ((bl s).drop p) with _ | e
      · -- a rune
        have hd := decode_good hb
        have hw := bad_none hb
        have hr := rune_width hb
        have hsn := rl_snoc (k := pre.length) 0 hlen (by rw [hp]; exact hb)
        rw [hp, Nat.zero_add, ← hpre] at hsn
        have HG := begins_good (s.extract p s.size) (wr.iterAt W.heap.size s (p + (Utf8.decode s p).2)) (by rw [← bl_length, hbe, List.length_drop, bl_length]; unfold maxLen; omega) (by rw [hbe]; exact hb)
        rw [hbe] at HG
        rw [hd] at hnx hbx2 hit2 hJ2 HG
        simp only at hnx hbx2 hit2 hJ2 HG
        have hlk : pre.length < s.size := by
          have h1 := rl_length_pos (pre.length + 1) 0 (bl s)
          have h2 := pos_le (pre.length + 1) (bl s)
          rw [hsn.1, List.length_append, pl_length] at h1
          simp only [List.length_cons, List.length_nil] at h1
          rw [bl_length] at h2
          omega
        have HS : Hid (rl (pre.length + 1) 0 (bl s) = pl pre ++ [(p, rune ((bl s).drop p))] ∧ pos (pre.length + 1) (bl s) = p + wd ((bl s).drop p)) := hsn
        clear hsn
        generalize rune ((bl s).drop p) = r at *
        generalize wd ((bl s).drop p) = wi at *
        obtain ⟨fn, tmps, assign, body, hy, hR⟩ := hY pre ⟨(p, r), by simp only; omega, hr.2⟩ _ hJ2 hlk
        have hc2 := hbx2.cell
        have hpz : (p : Int) ≤ (s.size : Int) := by omega
        generalize wr.iterAt W.heap.size s (p + wi) = W2 at *
        clear hc
        gi_wp2_with (refine ⟨trivial, ?_⟩; gi_at_call 67; refine (callsIn_wide.2 HG).mono ?_; rintro e w' ⟨rfl, rfl⟩)
        refine hR.mono ?_
        rintro e W3 (⟨rfl, hJ3, hk3⟩ | ⟨rfl, hJx3⟩)
        · have hit3 := hk3.1.same _ _ hit2 rfl
          gi_wp2
          go_roundw
          case rel =>
            refine ⟨pre ++ [⟨(p, r), by simp only; omega, hr.2⟩], ?_, ?_, (hk3.2 hbx2.lt).trans hbx2, hJ3⟩
            · rw [pl_snoc, List.length_append]; exact HS.out.1.symm
            · rw [List.length_append]
              show W3.heap[W.heap.size]? = some (.stringIter s (pos (pre.length + 1) (bl s)))
              rw [HS.out.2]; exact hit3
          case measure =>
            simp only [World.iterPos, hit3, hit]
            omega
        · gi_wp2
          refine bodyPost_ret (results_none rfl _ _ _) rfl ?_
          refine ⟨⟨_, rfl⟩, .inr ⟨pre ++ [⟨(p, r), by simp only; omega, hr.2⟩], ?_, hJx3⟩⟩
          rw [pl_snoc, ← HS.out.1]
          have h1 := rl_take s.size (pre.length + 1) 0 (bl s)
          rw [Nat.min_eq_left (by omega), ← bl_length] at h1
          rw [← h1]
          exact List.take_prefix _ _
      · -- no rune
        have hd := decode_bad hlt hb
        have hall := all_of_bad (k := pre.length) (l := bl s) hlen (by rw [hp, hb]; simp)
        have HG := begins_bad (s.extract p s.size) (wr.iterAt W.heap.size s (p + (Utf8.decode s p).2)) (by rw [← bl_length, hbe, List.length_drop, bl_length]; unfold maxLen; omega) (by rw [← bl_length, hbe, List.length_drop, bl_length]; omega) (by rw [hbe]; exact hb)
        rw [hd] at hnx hbx2 hit2 hJ2 HG
        simp only at hnx hbx2 hit2 hJ2 HG
        have hc2 := hbx2.cell
        have hpz : (p : Int) ≤ (s.size : Int) := by omega
        have HA : Hid (rl pre.length 0 (bl s) = rs (bl s)) := hall.1
        generalize wr.iterAt W.heap.size s (p + 1) = W2 at *
        clear hc hall hY
        gi_wp2_with (refine ⟨trivial, ?_⟩; gi_at_call 67; refine (callsIn_wide.2 HG).mono ?_; rintro e w' ⟨rfl, rfl⟩)
        refine ⟨fun _ h => (by cases h), ?_⟩
        gi_wp2
        refine bodyPost_ret (results_none rfl _ _ _) rfl ?_
        exact ⟨⟨_, rfl⟩, .inl ⟨pre, hpre.trans HA.out, hJ2⟩⟩
    · have hpe : p = s.size := by omega
      have hnx : ∀ ty, (Instr.next (.pointer (some ⟨W.heap.size, 0, none⟩)) true ty).run Tryd.prog wr = _ := fun ty => Lib.run_next_end_at wr W.heap.size s p ty hit hlt
      have hall := all_of_bad (k := pre.length) (l := bl s) hlen (by rw [hp, List.drop_eq_nil_of_le (by rw [bl_length]; omega)]; simp [bad_nil])
      have HA : Hid (rl pre.length 0 (bl s) = rs (bl s)) := hall.1
      clear hc hall hY
      gi_wp2
      go_end0
      exact ⟨⟨_, rfl⟩, .inl ⟨pre, hpre.trans HA.out, hJs⟩⟩

/-- THE ITERATOR's CONTRACT -/
theorem all_stops (n : Nat) (hn : 1 ≤ n) (Bs : Nat) (s : ByteArray) (hs : s.size ≤ 1152921504606846976) (w : World) (hBs : Boxed w Bs 9 (.string s)) :
    SeqStopsK Fence.wide n Tryd.prog 66 #[.pointer (some ⟨Bs, 0, none⟩)] encs (Kp Bs) (fun xs => pl xs = rs (bl s)) (fun pre => pl pre <+: rs (bl s)) s.size w :=
  fun l J Jx W hW hJ _ hY h0 => all1_in n hn l Bs s hs J Jx hY W hJ ((hW.block Bs hBs.lt).trans hBs) h0

set_option maxHeartbeats 400000 in
theorem all_any (s : ByteArray) (w : World) : Calls Tryd.prog 45 #[.string s] w fun e w' => e = .returned (.func (.func 66) #[] #[.pointer (some ⟨w.heap.size, 0, none⟩)]) ∧ w' = w.alloc (.cells #[.string s] 9) := by
  go_enter Tryd.func45, Tryd.ntmps45
  go_wp2
  go_ret
  exact ⟨rfl, rfl⟩
end Go.Proofs.YthlbbinlkmchjaaDoor
