/-
  For every script FixPlays answers true, and the script reads as it did; no condition.
  The frame is the kit's shell for a slice, turned by hand for a slice of structs.
-/
import Derived.Test.YtolccoghlclidaaRows
import Derived.WalkKit
import Derived.Test.YtolccoghlclidaaPlays
import Derived.ProofKit
import Derived.OpenShut
import Derived.ChangeOld
import Derived.Below
import Derived.Deep.Slices
namespace Go.Proofs.Ytolccoghlclidaa.fixPlays
open Go.ChangeShapes Go.WideShapes Go.ChangeAt Go.RowKit Go.Deep
set_option linter.unusedVariables false

theorem own : ownKnob Try.prog.godebug = none := by kernel_rfl
theorem laidOut : laidOutB Try.prog = true := by kernel_rfl
theorem cells33 : Try.prog.cellsOf 33 = 5 := by kernel_rfl
theorem cells3 : Try.prog.cellsOf 3 = 1 := by kernel_rfl

theorem one_int {H : Type} {enc : TypeId × Value → H} {W : World} {n o : Nat} {cs : List Value} {y : Option (DataW H × List MemPlace)} (hl : cs.length = 5) (ho : o < 5) (hy : y.isSome = true)
    (h : DataW.trod enc Try.prog W 0 (fun _ => true) true n 3 ((cs.drop o).take 1) = y) : ∃ z : Int, cs[o]? = some (.int .i64 z) ∧ -9223372036854775808 ≤ z ∧ z ≤ 9223372036854775807 := by
  obtain ⟨y, rfl⟩ := Option.isSome_iff_exists.1 hy
  obtain ⟨z, e0, _, wz⟩ := DataW.trod_int Try.underlying3 h
  have b := bounds_i64 wz
  refine ⟨z, ?_, b.1, b.2⟩
  have : ((cs.drop o).take 1)[0]? = some (.int .i64 z) := by rw [e0]; rfl
  simpa [List.getElem?_take, List.getElem?_drop] using this

theorem steps_of {H : Type} {enc : TypeId × Value → H} {W : World} {fuel : Nat} {a0 : Option Addr} {len cap : Nat} {x : DataW H × List MemPlace} (hf : DataW.trod enc Try.prog W 0 (fun _ => true) true fuel 22 [.slice a0 len cap] = some x) :
    len = 0 ∨ ∃ b off, a0 = some ⟨b, off, none⟩ ∧ b < W.heap.size ∧ len ≤ 9223372036854775807 ∧ Steps W b off len := by
  rcases open_slice Try.underlying22 hf with ⟨hcs, _⟩ | ⟨a, len', cap', m, n, D, Pl, hcs, _, hl, hm, hmm, _, hi⟩
  · simp at hcs; exact Or.inl hcs.2.1
  · simp at hcs
    obtain ⟨rfl, rfl, rfl⟩ := hcs
    simp only [if_true] at hmm
    subst hmm
    rw [cells33] at hi
    by_cases h0 : len = 0
    · exact Or.inl h0
    · refine Or.inr ?_
      obtain ⟨b, off, spot⟩ := a
      obtain ⟨cs0, g1, g2⟩ := hi 0 (by omega)
      obtain ⟨_, glen, gc⟩ := World.cells?_some g1
      obtain ⟨v0, hv0⟩ : ∃ v, cs0[0]? = some v := ⟨_, List.getElem?_eq_getElem (by omega)⟩
      have gc0 := (gc 0 (by omega)).trans hv0
      have hspot : spot = none := by simpa [Addr.add] using World.cell?_spot gc0
      subst hspot
      have hb : b < W.heap.size := by have := World.block_lt_of_cell? W _ gc0; simpa [Addr.add] using this
      refine ⟨b, off, rfl, hb, by unfold maxLen at hm; omega, ?_⟩
      intro i hilt
      obtain ⟨cs', h1, h2⟩ := hi i (by omega)
      obtain ⟨_, hlen, hc⟩ := World.cells?_some h1
      obtain ⟨xs, n', _, _, _, hxl, hfs⟩ := DataW.trod_struct Try.underlying33 h2
      have hx5 : xs.length = 5 := hxl
      have get : ∀ o, o < 5 → (xs[o]?).isSome = true := fun o ho => by simp; omega
      have f0 : DataW.trod enc Try.prog W 0 (fun _ => true) true n' 3 ((cs'.drop 0).take (Try.prog.cellsOf 3)) = xs[0]? := hfs 0 _ rfl
      have f1 : DataW.trod enc Try.prog W 0 (fun _ => true) true n' 3 ((cs'.drop 1).take (Try.prog.cellsOf 3)) = xs[1]? := hfs 1 _ rfl
      have f2 : DataW.trod enc Try.prog W 0 (fun _ => true) true n' 3 ((cs'.drop 2).take (Try.prog.cellsOf 3)) = xs[2]? := hfs 2 _ rfl
      have f3 : DataW.trod enc Try.prog W 0 (fun _ => true) true n' 3 ((cs'.drop 3).take (Try.prog.cellsOf 3)) = xs[3]? := hfs 3 _ rfl
      have f4 : DataW.trod enc Try.prog W 0 (fun _ => true) true n' 3 ((cs'.drop 4).take (Try.prog.cellsOf 3)) = xs[4]? := hfs 4 _ rfl
      rw [cells3] at f0 f1 f2 f3 f4
      obtain ⟨k, c0, _⟩ := one_int hlen (by omega) (get 0 (by omega)) f0
      obtain ⟨on, c1, b1⟩ := one_int hlen (by omega) (get 1 (by omega)) f1
      obtain ⟨x, c2, b2⟩ := one_int hlen (by omega) (get 2 (by omega)) f2
      obtain ⟨y, c3, b3⟩ := one_int hlen (by omega) (get 3 (by omega)) f3
      obtain ⟨z, c4, _⟩ := one_int hlen (by omega) (get 4 (by omega)) f4
      have at_ : ∀ o, o < 5 → W.cell? ⟨b, off + i * 5 + o, none⟩ = cs'[o]? := fun o ho => by
        have := hc o ho
        simpa only [add_plain] using this
      exact ⟨k, on, x, y, z, ⟨(at_ 0 (by omega)).trans c0, (at_ 1 (by omega)).trans c1, (at_ 2 (by omega)).trans c2, (at_ 3 (by omega)).trans c3, (at_ 4 (by omega)).trans c4⟩, b1, b2, b3⟩

/-! ### STEP 1: THE WALK -/
set_option maxHeartbeats 2000000 in
set_option maxRecDepth 100000 in
/-- a script of no step, nil or not -/
theorem walk0 (a0 : Option Addr) (cap : Nat) (w : World) :
    Calls Try.prog 3 #[.slice a0 0 cap] w fun e w' => e = .returned (.bool true) ∧ Below w.heap.size w w' := by
  obtain ⟨i0, hi, hz0, hz1, hz2⟩ := info_parts info31
  go_enter Try.func3, Try.ntmps3
  go_wp2_with fail
  refine (shown_any _).mono ?_
  rintro e w1 ⟨rfl, hb⟩
  go_wp2_with fail
  have hB0 : Below w.heap.size w (w1.alloc (.cells #[] 31)) := hb.alloc hb.size _
  have hrow := empty_pairs w1 w.heap.size hb.size
  have hP0 : Hid (Plays w.heap.size w (w1.alloc (.cells #[] 31)) w1.heap.size 0 []) := ⟨hrow, by intro i x hx; simp at hx, by intro i j x y hx; simp at hx, hB0, Nat.le_refl _⟩
  clear hB0 hrow
  obtain ⟨W1, hW1⟩ : ∃ W, w1.alloc (.cells #[] 31) = W := ⟨_, rfl⟩
  obtain ⟨g0, hg0⟩ : ∃ g, w1.heap.size = g := ⟨_, rfl⟩
  rw [hW1, hg0] at hP0
  rw [hW1, hg0]
  clear hW1 hg0 hb
  go_loopw [4, 5] (fun vl vi wr => ∃ (P : List Pr) (g cap : Nat), vl = .slice (some ⟨g, 0, none⟩) P.length cap ∧ vi = .int .i64 P.length ∧ P.length ≤ 2 ∧ Plays w.heap.size w wr g cap P) (fun _ vi _ => 2 - (intOf vi).toNat)
  case atStart => exact ⟨[], g0, 0, rfl, rfl, by simp, hP0⟩
  case round =>
    obtain ⟨P, g, cap1, rfl, rfl, hP2, hPl⟩ := hrel
    clear hP0
    by_cases hlt : P.length < 2
    · have hsz := hPl.below.size
      have hfr := fresh_pair wr false g hPl.gB.2 (.cells #[.pointer (some ⟨wr.heap.size, 0, none⟩), .pointer (some ⟨wr.heap.size + 1, 0, none⟩)] 31)
      go_wp2_with fail
      refine (new_any _).mono ?_
      rintro e w2 ⟨rfl, rfl⟩
      go_wp2_with (at_builtin; refine wpList_append_own _ rfl _ _ 24 rfl w.heap.size 31 i0 (.agg #[.pointer none, .pointer none]) 2 16 Try.underlying24 hi hz0 hz1 hz2 rfl (by decide) _ _ _ rfl (((hPl.row.alloc _).alloc _).alloc _) ⟨wr.heap.size + 1 + 1, 0, none⟩ 1 1 [.pointer (some ⟨wr.heap.size, 0, none⟩), .pointer (some ⟨wr.heap.size + 1, 0, none⟩)] rfl rfl ?c1 ?c2 ?c3 ?c4 ?c5 ?_)
      case c1 => exact news_pair _ _ _ _ _ _
      case c2 => intro u hu; simp at hu; rcases hu with rfl | rfl <;> rfl
      case c3 => unfold maxLen; omega
      case c4 => omega
      case c5 => simp; omega
      intro v' w3 hown' hgrow _
      obtain ⟨g2, cap2, hv⟩ := Go.Joins.ownsRow_form hown' (by omega)
      rw [hv]
      rw [hv] at hown'
      have hPl2 := hPl.more (three_below wr _ _ _) hfr hown' hgrow
      clear hown' hgrow hPl hfr hv
      go_wp2_with fail
      go_roundw
      case rel => exact ⟨P ++ [⟨wr.heap.size, wr.heap.size + 1, false⟩], g2, cap2, by simp, by simp, by simp; omega, hPl2⟩
      case measure => simp [intOf]; omega
    · go_wp2_with fail
      refine wp_loop_rounds 1 ?_
      rw [rounds_succ]
      go_wp2_with fail
      go_ret
      exact ⟨rfl, hPl.below⟩

set_option maxRecDepth 100000 in
theorem lifted (os : Os) (started : os.Started) (H : Type) (enc : TypeId × Value → H) :
    ReturnsInHanded {} Try.checked os 3 .any (Rows.fixPlaysSpec.pre6 enc Try.prog Try.f3 Rows.fixPlaysRow.domain false) (Rows.fixPlaysSpec.post enc Try.prog Try.f3 false true false false) := by
  refine returnsInHanded_of_change (C := Try.checked) own started (by kernel_rfl) Try.func3
    (ChangeSpec.witness6 (enc := enc) (C := Try.checked) false ⟨#[], #[.slice none 0 0], []⟩ 8 (by kernel_rfl) (by kernel_rfl) (by kernel_rfl) (by kernel_rfl)) ?_
  intro W base args ds gs before hval0 hW hcnd _
  have hval : ∀ (j : Nat) t v, Try.f3.params[j]? = some t → args[j]? = some v → Value.okWide Try.prog W .any base t v := hval0
  have hW' := hW
  obtain ⟨p, q, hA0, hV, rfl, hfz, hnd⟩ := hW
  have hA : DataW.TrodAll enc Try.prog W 0 (fun _ => true) true Try.f3.params.toList args.toList ds p := hA0
  rw [Try.params3] at hA hval
  obtain ⟨v1, vs1, d1, ds1, p1, q1, hargs, rfl, rfl, h1, r1⟩ := trodAll_cons hA
  obtain ⟨rfl, rfl, rfl⟩ := trodAll_nil r1
  obtain rfl : args = #[v1] := by cases args; simp_all
  obtain ⟨rfl, rfl⟩ := trodVars_none hV
  obtain ⟨a1, len1, cap1, rfl⟩ := okWide_slice Try.underlying22 (hval 0 22 v1 rfl rfl)
  have k1 := h1
  have lt1 : ∀ x ∈ p1, x.block < W.heap.size := by obtain ⟨m, hm⟩ := k1; exact DataW.trod_lt m _ _ _ hm
  have hwalk : Calls Try.prog 3 #[.slice a1 len1 cap1] W fun e w' => e = .returned (.bool true) ∧ Below W.heap.size W w' := by
    obtain ⟨fuel, hf⟩ := h1
    rcases steps_of (by simpa [Value.cells] using hf) with rfl | ⟨b, off, rfl, hb, hm, hs⟩
    · exact walk0 a1 cap1 W
    · exact plays_walk b off len1 cap1 W hb hm hs
  clear hA0 hval0
  refine hwalk.mono fun e W' ⟨he, bel⟩ => ?_
  subst he
  exact ⟨_, rfl, _, _, _, [], _, [], hW', trodAll_mk1 (shut_bool Try.underlying4 _), (trodAll_cons_mk (Below.trod laidOut (by kernel_rfl) (of_decide_eq_true (by kernel_rfl)) k1 bel lt1) trodAll_mk0), rfl, bel.frame _, fun h => by cases h⟩

theorem over : Rows.fixPlaysRow.holds Try.pinned (OpenSpec.ofChange Rows.fixPlaysSpec) :=
  OpenClaim.holds_of_wide 3 Try.f3 rfl rfl rfl rfl rfl rfl rfl ⟨rfl, rfl, rfl, rfl, rfl⟩ rfl rfl rfl rfl rfl (by kernel_rfl) Try.func3 (by kernel_rfl)
    (of_decide_eq_true (by kernel_rfl)) (by unfold Func.isWrapper; first | (rw [if_pos (by decide +kernel)]; kernel_rfl) | (rw [if_neg (by decide +kernel)]; exact ⟨rfl, rfl⟩))
    (fun os started H enc _ => lifted os started H enc)

theorem proved : Rows.FixPlaysSaid := over
#print axioms proved
end Go.Proofs.Ytolccoghlclidaa.fixPlays
