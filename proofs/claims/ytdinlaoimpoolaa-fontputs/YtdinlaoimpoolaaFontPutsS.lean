/-
  For every memory and schedule FontPuts answers true; no condition but the form's own reach.
  The frame follows the kit's shell.
-/
import Derived.Test.YtdinlaoimpoolaaRows
import Derived.WalkKit
import Derived.Test.YtdinlaoimpoolaaOpen
import Derived.Test.YtdinlaoimpoolaaPutsWalk
import Derived.ProofKit
import Derived.OpenShut
import Derived.SizedLaws
import Derived.Deep.Slices
import Derived.ChangeMaps5
import Derived.ChangeOld
import Derived.Below
namespace Go.Proofs.Ytdinlaoimpoolaa.fontPuts
open Go.ChangeShapes Go.WideShapes Go.ChangeAt Go.RowKit Go.Deep
set_option linter.unusedVariables false

theorem bytes33 : Try.prog.bytesOf 33 = 32 := by kernel_rfl
theorem bytes35 : Try.prog.bytesOf 35 = 40 := by kernel_rfl
theorem list_reach {t e : TypeId} (ht : Try.prog.underlying t = some (.slice e)) {H : Type} {enc : TypeId × Value → H} {W : World} {fuel : Nat} {ad : Option Addr} {len cap : Nat} {x : DataW H × List MemPlace} (h : DataW.trod enc Try.prog W 0 (fun _ => true) true fuel t [.slice ad len cap] = some x)
    (hw : ∀ k ∈ x.1.weights Try.prog t, k ≤ reachBytes) : len * Try.prog.bytesOf e ≤ reachBytes := by
  rcases open_slice ht h with ⟨hcs, _⟩ | ⟨a, len', cap', m, n, D, Pl, hcs, _, hl, hm, hmm, hx, hi⟩
  · simp at hcs
    rw [hcs.2.1, Nat.zero_mul]; exact Nat.zero_le _
  · simp at hcs
    obtain ⟨rfl, rfl, rfl⟩ := hcs
    rw [hx] at hw
    have := hw _ (by simp only [DataW.weights, ht]; exact List.mem_cons_self)
    refine Nat.le_trans (Nat.mul_le_mul_right _ ?_) this
    simp
theorem font_reach {H : Type} {enc : TypeId × Value → H} {W : World} {fuel : Nat} {em : Int} {ag ap : Option Addr} {n ca m cb : Nat} {x : DataW H × List MemPlace} (h : DataW.trod enc Try.prog W 0 (fun _ => true) true fuel 25 [.int .i64 em, .slice ag n ca, .slice ap m cb] = some x)
    (hw : ∀ k ∈ x.1.weights Try.prog 25, k ≤ reachBytes) : n ≤ 4398046511104 ∧ m ≤ 4398046511104 := by
  obtain ⟨xs, n', _, hx, hcl, hxl, hfs⟩ := DataW.trod_struct Try.underlying25 h
  have hx3 : xs.length = 3 := hxl
  have f1 : DataW.trod enc Try.prog W 0 (fun _ => true) true n' 22 (([.int .i64 em, .slice ag n ca, .slice ap m cb].drop 1).take (Try.prog.cellsOf 22)) = xs[1]? := hfs 1 _ rfl
  have f2 : DataW.trod enc Try.prog W 0 (fun _ => true) true n' 23 (([.int .i64 em, .slice ag n ca, .slice ap m cb].drop 2).take (Try.prog.cellsOf 23)) = xs[2]? := hfs 2 _ rfl
  rw [cells22] at f1
  rw [cells23] at f2
  obtain ⟨y1, hy1⟩ : ∃ y, xs[1]? = some y := ⟨_, List.getElem?_eq_getElem (by omega)⟩
  obtain ⟨y2, hy2⟩ : ∃ y, xs[2]? = some y := ⟨_, List.getElem?_eq_getElem (by omega)⟩
  rw [hx] at hw
  have hw' : ∀ (j : Nat) (t : TypeId) (d : DataW H), ([3, 22, 23] : List TypeId)[j]? = some t → (xs.map (·.1))[j]? = some d → ∀ k ∈ d.weights Try.prog t, k ≤ reachBytes := fun j t d h1 h2 k hk => hw k (by
    simp only [DataW.weights, Try.underlying25]
    exact DataW.weights_mem_each h1 h2 k hk)
  have b1 := list_reach Try.underlying22 (f1.trans hy1) (hw' 1 22 y1.1 rfl (by simp [hy1]))
  have b2 := list_reach Try.underlying23 (f2.trans hy2) (hw' 2 23 y2.1 rfl (by simp [hy2]))
  rw [bytes33] at b1
  rw [bytes35] at b2
  unfold reachBytes at b1 b2
  omega

theorem own : ownKnob Try.prog.godebug = none := by kernel_rfl

set_option maxRecDepth 100000 in
theorem lifted (os : Os) (started : os.Started) (H : Type) (enc : TypeId × Value → H) :
    ReturnsInHanded {} Try.checked os 3 .any (Rows.fontPutsSpec.pre6 enc Try.prog Try.f3 Rows.fontPutsRow.domain false) (Rows.fontPutsSpec.post enc Try.prog Try.f3 false true false false) := by
  refine returnsInHanded_of_change_sized (C := Try.checked) own started (by kernel_rfl) Try.func3
    (ChangeSpec.witness6 (enc := enc) (C := Try.checked) false ⟨#[], #[.agg #[.int .i64 0, .slice none 0 0, .slice none 0 0]], []⟩ 8 (by kernel_rfl) (by kernel_rfl) (by kernel_rfl) (by kernel_rfl)) ?_
  intro W base args ds gs before hval0 hW hcnd hsz0 _
  have hval : ∀ (j : Nat) t v, Try.f3.params[j]? = some t → args[j]? = some v → Value.okWide Try.prog W .any base t v := hval0
  have hsz : (DataW.weightsEach Try.prog (Try.f3.params.toList ++ []) (ds ++ gs)).all (· ≤ reachBytes) = true := hsz0
  have hW' := hW
  obtain ⟨p, q, hA0, hV, rfl, hfz, hnd⟩ := hW
  have hA : DataW.TrodAll enc Try.prog W 0 (fun _ => true) true Try.f3.params.toList args.toList ds p := hA0
  rw [Try.params3] at hA hval hsz
  obtain ⟨v0, vs0, d0, ds0, p0, q0, hargs, rfl, rfl, h0, r0⟩ := trodAll_cons hA
  obtain ⟨rfl, rfl, rfl⟩ := trodAll_nil r0
  obtain rfl : args = #[v0] := by cases args; simp_all
  obtain ⟨rfl, rfl⟩ := trodVars_none hV
  obtain ⟨cs, rfl, _⟩ := okWide_struct Try.underlying25 (hval 0 25 v0 rfl rfl)
  have k0 := h0
  have lt0 : ∀ x ∈ p0, x.block < W.heap.size := by obtain ⟨m, hm⟩ := k0; exact DataW.trod_lt m _ _ _ hm
  have hwalk : Calls Try.prog 3 #[.agg cs] W fun e w' => e = .returned (.bool true) ∧ Below W.heap.size W w' := by
    obtain ⟨fuel, hf⟩ := h0
    obtain ⟨em, ag, ap, fg, fp, ca, cb, hc, lg, lp, sg, sp⟩ := font_of hf
    have e : cs = #[.int .i64 em, .slice ag fg.length ca, .slice ap fp.length cb] := by
      cases cs; simpa [Value.cells] using hc
    rw [e]
    rw [hc] at hf
    obtain ⟨b1, b2⟩ := font_reach hf (fun k hk => of_decide_eq_true (List.all_eq_true.1 hsz k (DataW.weights_mem_each (j := 0) rfl rfl k hk)))
    exact puts_walk em fg fp ag ap ca cb W b1 b2 sg sp
  clear hA0 hval0
  simp only [List.append_nil] at hW'
  refine hwalk.mono fun e W' ⟨he, bel⟩ => ?_
  subst he
  exact ⟨_, rfl, _, _, _, [], _, [], hW', trodAll_cons_mk (shut_bool Try.underlying4 _) trodAll_mk0, trodAll_cons_mk (Below.trod laidOut (by kernel_rfl) (of_decide_eq_true (by kernel_rfl)) k0 bel lt0) trodAll_mk0, rfl, bel.frame _, fun h => by cases h⟩

theorem over : Rows.fontPutsRow.holds Try.pinned (OpenSpec.ofChange Rows.fontPutsSpec) :=
  OpenClaim.holds_of_wide 3 Try.f3 rfl rfl rfl rfl rfl rfl rfl ⟨rfl, rfl, rfl, rfl, rfl⟩ rfl rfl rfl rfl rfl (by kernel_rfl) Try.func3 (by kernel_rfl)
    (of_decide_eq_true (by kernel_rfl)) (by unfold Func.isWrapper; first | (rw [if_pos (by decide +kernel)]; kernel_rfl) | (rw [if_neg (by decide +kernel)]; exact ⟨rfl, rfl⟩))
    (fun os started H enc _ => lifted os started H enc)

/-- ████ THE STATEMENT ████ -/
theorem proved : Rows.FontPutsSaid :=
  over
#print axioms proved
end Go.Proofs.Ytdinlaoimpoolaa.fontPuts
