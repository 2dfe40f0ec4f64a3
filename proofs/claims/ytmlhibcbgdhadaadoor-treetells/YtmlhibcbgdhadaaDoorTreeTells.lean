/-
  of any nodes Check and Print answer what the document says, also of others that the same list has since; what is handed in stays.  Condition: the library's table of tens and the program's two tables read as start-up code lays them.
-/
import Derived.Test.YtmlhibcbgdhadaaDoorRows
import Derived.Test.YtmlhibcbgdhadaaDoorCards
import Derived.Test.YtmlhibcbgdhadaaDoorTie
import Derived.Test.YtmlhibcbgdhadaaDoorLaid
import Derived.Test.YtmlhibcbgdhadaaDoorOpenN
import Derived.Test.YtmlhibcbgdhadaaDoorTelL
import Derived.SevenTiedAt
import Derived.ChangeMaps5
import Derived.SizedLaws
set_option linter.unusedVariables false
namespace Go.Proofs.YtmlhibcbgdhadaaDoor.treeTells
open Go.ChangeShapes Go.WideShapes Go.ChangeAt Go.RowKit Go.Deep
open Go.ChangeMaps (open_string shut_string)

open Go.Proofs.YtmlhibcbgdhadaaDoor
theorem walk (W : World) (hT : Tt W) (a b : List (Nd × Value)) (ad : Option Addr) (ca : Nat) (hA : NL W W.heap.size ad a) (hla : a.length ≤ 9223372036854775807) (_ : a.length ≤ ca) (hia : ∀ x ∈ a, In W x)
    (bd : Option Addr) (cb : Nat) (hB : NL W W.heap.size bd b) (hlb : b.length ≤ 9223372036854775807) (_ : b.length ≤ cb) (hib : ∀ x ∈ b, In W x) :
    Calls Tryd.prog 3 #[.slice ad a.length ca, .slice bd b.length cb] W fun e w' => e = .returned (.bool true) ∧ Below W.heap.size W w' :=
  (tells_law W hA hla hia hB hlb hib hT).mono fun _ _ ⟨h1, h2⟩ => ⟨h1, h2.below⟩


set_option maxRecDepth 100000 in
theorem lifted (os : Os) (started : os.Started) (H : Type) (enc : TypeId × Value → H) :
    ReturnsInHanded {} Tryd.checked os 3 .any (fun w args => (Rows.treeTellsSpec.pre enc Tryd.prog Tryd.f3 [] false w args ∧ laidMetH Tryd.prog Rows.treeNumbersRow.laid w) ∧ sizedMet enc Tryd.prog Tryd.f3 (OpenSpec.ofChange Rows.treeTellsSpec) false w args)
      (Rows.treeTellsSpec.post enc Tryd.prog Tryd.f3 false true false false) := by
  refine returnsInHanded_of_change_and (C := Tryd.checked) (X := fun w _ => laidMetH Tryd.prog Rows.treeNumbersRow.laid w) (fun _ _ _ hh h => h.of_heap hh) own started (by kernel_rfl) Tryd.func3
    (ChangeSpec.witness_shaped (enc := enc) (C := Tryd.checked) (os := os) (X := fun w _ => laidMetH Tryd.prog Rows.treeNumbersRow.laid w) false (World.laidAll Tryd.prog os Rows.treeNumbersRow.laid) #[.slice none 0 0, .slice none 0 0] 8 (World.laidAll_os _ _ _) (laid_shaped os) (by kernel_rfl) (by kernel_rfl) (by kernel_rfl) (laid_met os _)) ?_
  intro W base args ds gs before hval0 hW _ hsz hL _
  have hval : ∀ (j : Nat) t v, Tryd.f3.params[j]? = some t → args[j]? = some v → Value.okWide Tryd.prog W .any base t v := hval0
  have hW' := hW
  obtain ⟨p, q, hA0, hV, rfl, hfz, hnd⟩ := hW
  have hA : DataW.TrodAll enc Tryd.prog W 0 (fun _ => true) true Tryd.f3.params.toList args.toList ds p := hA0
  rw [Tryd.params3] at hA hval
  obtain ⟨v0, vs0, d0, ds0, p0, q0, ha0, rfl, rfl, h0, r0⟩ := trodAll_cons hA
  obtain ⟨v1, vs1, d1, ds1, p1, q1, ha1, rfl, rfl, h1, r1⟩ := trodAll_cons r0
  obtain ⟨rfl, rfl, rfl⟩ := trodAll_nil r1
  obtain rfl : args = #[v0, v1] := by cases args; simp_all
  obtain ⟨rfl, rfl⟩ := trodVars_none hV
  obtain ⟨a0, len0, cap0, rfl⟩ := okWide_slice Tryd.underlying22 (hval 0 22 v0 rfl rfl)
  have k0 := h0
  have lt0 : ∀ x ∈ p0, x.block < W.heap.size := by obtain ⟨m, hm⟩ := k0; exact DataW.trod_lt m _ _ _ hm
  obtain ⟨fu0, hf0⟩ := h0
  obtain ⟨a00, c00, x0, hq0, hcap0, hlen0, hs0, hin0⟩ := nodes_of hf0
  replace hq0 : [Value.slice a0 len0 cap0] = [.slice a00 x0.length c00] := hq0
  simp only [List.cons.injEq, Value.slice.injEq, and_true] at hq0
  obtain ⟨e10, e20, e30⟩ := hq0
  subst e10 e30
  subst e20
  obtain ⟨a1, len1, cap1, rfl⟩ := okWide_slice Tryd.underlying22 (hval 1 22 v1 rfl rfl)
  have k1 := h1
  have lt1 : ∀ x ∈ p1, x.block < W.heap.size := by obtain ⟨m, hm⟩ := k1; exact DataW.trod_lt m _ _ _ hm
  obtain ⟨fu1, hf1⟩ := h1
  obtain ⟨a01, c01, x1, hq1, hcap1, hlen1, hs1, hin1⟩ := nodes_of hf1
  replace hq1 : [Value.slice a1 len1 cap1] = [.slice a01 x1.length c01] := hq1
  simp only [List.cons.injEq, Value.slice.injEq, and_true] at hq1
  obtain ⟨e11, e21, e31⟩ := hq1
  subst e11 e31
  subst e21
  clear hA0 hval0
  try simp only [List.append_nil] at hW'
  refine (walk W (tt_of_laid hL) x0 x1 a0 cap0 hs0 hlen0 hcap0 hin0 a1 cap1 hs1 hlen1 hcap1 hin1).mono fun e W' ⟨he, hg⟩ => ?_
  subst he
  exact ⟨_, rfl, _, _, _, [], _, [], hW', trodAll_cons_mk (shut_bool Tryd.underlying4 _) trodAll_mk0, (trodAll_cons_mk (Below.trod laidOut (by kernel_rfl) (of_decide_eq_true (by kernel_rfl)) k0 hg lt0) (trodAll_cons_mk (Below.trod laidOut (by kernel_rfl) (of_decide_eq_true (by kernel_rfl)) k1 hg lt1) trodAll_mk0)), rfl, hg.frame _, fun h => by cases h⟩

theorem over : Rows.TreeTellsSaid :=
  OpenClaim.holds_of_wide 3 Tryd.f3 rfl rfl rfl rfl rfl rfl rfl ⟨rfl, rfl, rfl, rfl, rfl⟩ rfl rfl rfl rfl rfl (by kernel_rfl) Tryd.func3 (by kernel_rfl)
    (of_decide_eq_true (by kernel_rfl)) (by unfold Func.isWrapper; first | (rw [if_pos (by decide +kernel)]; kernel_rfl) | (rw [if_neg (by decide +kernel)]; exact ⟨rfl, rfl⟩))
    (fun os started H enc _ => lifted os started H enc)

/-- ████ THE STATEMENT ████ -/
theorem proved : Rows.TreeTellsCardSaid :=
  Claim7.holds_tied_plain_at .later [] _ _ _ _
    over (fun _ h => by cases h) (by kernel_rfl) (fun _ h => by cases h) treeTells_row_tie rfl ⟨rfl, rfl⟩ (by kernel_rfl) rfl
    (fun f fn hf hfn => by
      obtain rfl : f = 3 := Option.some.inj ((show Tryd.prog.funcNamed "platen/platenlaw09.TreeTells" = some 3 by kernel_rfl).symm.trans hf) |>.symm
      obtain rfl : fn = Tryd.f3 := (Option.some.inj (Tryd.func3.symm.trans hfn)).symm
      exact ⟨by kernel_rfl, fun j t ht => by
        rw [Tryd.params3] at ht
        have hm : t ∈ [22, 22] := by simpa using Array.mem_of_getElem? ht
        have hall : ([22, 22].all fun u => !Tryd.prog.wantsStandIn u) = true := by kernel_rfl
        exact (show Tryd.prog.wantsStandIn t = false by simpa using List.all_eq_true.1 hall t hm)⟩)
    (by kernel_rfl)
#print axioms proved
end Go.Proofs.YtmlhibcbgdhadaaDoor.treeTells
