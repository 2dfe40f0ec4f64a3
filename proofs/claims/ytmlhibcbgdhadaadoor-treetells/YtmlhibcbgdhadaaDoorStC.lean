/- The laws' comparison of nodes, where they are equal. -/
import Derived.Test.YtmlhibcbgdhadaaDoorSame1
import Derived.Test.YtmlhibcbgdhadaaDoorQuiet
import Derived.Laws.StructEq
namespace Go.Proofs.YtmlhibcbgdhadaaDoor
open Go.RowKit

set_option maxRecDepth 100000 in
set_option maxHeartbeats 4000000 in
theorem sameChars_eq {l : List (Int × Int × Int)} {ad bd : Option Addr} {ac bc B : Nat} (w : World) (ha : SlB w B ad l.length (l.flatMap chI)) (hb : SlB w B bd l.length (l.flatMap chI)) (hl : l.length ≤ 4294967296) :
    Calls Tryd.prog 39 #[.slice ad l.length ac, .slice bd l.length bc] w fun e w' => e = .returned (.bool true) ∧ Only [] w w' := by
  have HA := hid ha
  have HB := hid hb
  obtain ⟨n, hn⟩ : ∃ n, l.length = n := ⟨_, rfl⟩
  have HN := hid hn
  rw [hn] at hl ⊢
  clear ha hb hn
  go_enter Tryd.func39, Tryd.ntmps39
  go_wp2_with fail
  go_loopw [5] (fun i wr => ∃ k : Nat, i = .int .i64 k ∧ k ≤ n ∧ Only [] w wr) (fun i _ => n - (RowKit.intOf i).toNat)
  case atStart => exact ⟨0, rfl, by omega, Only.refl _ _⟩
  case round =>
    obtain ⟨k, rfl, hk, ho⟩ := hrel
    by_cases hlt : k < n
    · obtain ⟨x, hx⟩ := some_at (xs := l) (i := k) (by rw [HN.out]; exact hlt)
      obtain ⟨ab, ao, rfl, -, abw, a0, a1, a2⟩ := (HA.out.keep ho (by simp)).char hx
      obtain ⟨bb, bo, rfl, -, bbw, b0, b1, b2⟩ := (HB.out.keep ho (by simp)).char hx
      have g0 : ∀ d os, (behind wr d os).cell? ⟨ab, ao + k * 3, none⟩ = some (.int .i64 x.1) := fun d os => (cell_behind abw d os).trans a0
      have g1 : ∀ d os, (behind wr d os).cell? ⟨ab, ao + k * 3 + 1, none⟩ = some (.int .i64 x.2.1) := fun d os => (cell_behind abw d os).trans a1
      have g2 : ∀ d os, (behind wr d os).cell? ⟨ab, ao + k * 3 + 2, none⟩ = some (.int .i64 x.2.2) := fun d os => (cell_behind abw d os).trans a2
      have h0 : ∀ d os, (behind wr d os).cell? ⟨bb, bo + k * 3, none⟩ = some (.int .i64 x.1) := fun d os => (cell_behind bbw d os).trans b0
      have h1 : ∀ d os, (behind wr d os).cell? ⟨bb, bo + k * 3 + 1, none⟩ = some (.int .i64 x.2.1) := fun d os => (cell_behind bbw d os).trans b1
      have h2 : ∀ d os, (behind wr d os).cell? ⟨bb, bo + k * 3 + 2, none⟩ = some (.int .i64 x.2.2) := fun d os => (cell_behind bbw d os).trans b2
      have hkl : (k : Int) < (n : Int) := by omega
      have hk0 : (0 : Int) ≤ (k : Int) := by omega
      have HO := hid ho
      have HLT := hid hlt
      clear hx ho hlt a0 a1 a2 b0 b1 b2
      go_wp2_with fail
      refine wp_region_behind (by kernel_rfl) (by kernel_rfl) ?_
      repeat (go_big_quiet_step (fail))
      refine wpQuiet_nil ?_
      intro _ hw'
      obtain ⟨⟨dq, osq⟩, hw''⟩ := hw'
      subst hw''
      go_wp2_with fail
      go_roundw
      case rel => exact ⟨k + 1, by go_num, HLT.out, HO.out.trans (only_behind _ _ _)⟩
      case measure => have := HLT.out; simp [RowKit.intOf]; omega
    · obtain rfl : k = n := by omega
      have HO := hid ho
      clear ho hlt hk
      go_wp2_with fail
      go_ret
      exact ⟨rfl, HO.out⟩
set_option maxRecDepth 100000 in
set_option maxHeartbeats 8000000 in
theorem sameNode_eq {xa ya : Option Addr} {xc yc B : Nat} (x : Nd) (w : World) (hx : SlB w B xa x.chs.length (x.chs.flatMap chI)) (hy : SlB w B ya x.chs.length (x.chs.flatMap chI)) (hlx : x.chs.length ≤ 4294967296) :
    Calls Tryd.prog 38 #[.agg (ndc (x, .slice xa x.chs.length xc)).toArray, .agg (ndc (x, .slice ya x.chs.length yc)).toArray] w fun e w' => e = .returned (.bool true) ∧ Only [] w w' := by
  have HE := hid (fun W (o : Only [] w W) => sameChars_eq (ac := xc) (bc := yc) W (hx.keep o (by simp)) (hy.keep o (by simp)) hlx)
  clear hx hy hlx
  unfold ndc
  dsimp only
  obtain ⟨n, hn⟩ : ∃ n, x.chs.length = n := ⟨_, rfl⟩
  rw [hn] at HE
  rw [hn]
  clear hn
  go_enter Tryd.func38, Tryd.ntmps38
  go_wp2_with fail
  refine (HE.out _ (((Only.refl _ _).alloc _).alloc _)).mono ?_
  rintro e w1 ⟨rfl, o1⟩
  have HO1 := hid o1
  clear o1
  go_wp2_with fail
  go_ret
  exact ⟨rfl, ((Only.refl _ _).alloc _ |>.alloc _).trans HO1.out⟩
end Go.Proofs.YtmlhibcbgdhadaaDoor
