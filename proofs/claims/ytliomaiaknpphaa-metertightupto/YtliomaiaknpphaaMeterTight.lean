/-
  For every script, more, less of bulk at most what the given bound says MeterTight answers true, and the script reads as it did.
  The frame is the kit's shell for the second form, turned by hand for a slice of structs.
-/
import Derived.Test.YtliomaiaknpphaaRows
import Derived.WalkKit
import Derived.Test.YtliomaiaknpphaaOpen
import Derived.Test.YtliomaiaknpphaaTight
import Derived.ProofKit
import Derived.OpenShut
import Derived.ChangeOld
import Derived.Below
import Derived.JoinedCond
import Derived.Deep.Slices
namespace Go.Proofs.Ytliomaiaknpphaa.meterTight
open Go.ChangeShapes Go.WideShapes Go.ChangeAt Go.RowKit Go.Deep
set_option linter.unusedVariables false

theorem own : ownKnob Try.prog.godebug = none := by kernel_rfl

set_option maxHeartbeats 1000000 in
/-- a script of no act, nil or not -/
theorem under0 (S C : Int) (s0 : 0 ≤ S) (c0 : 0 ≤ C) (a0 : Option Addr) (cap : Nat) (w : World) :
    Calls Try.prog 24 #[.int .i64 S, .int .i64 C, .slice a0 0 cap] w fun e w' => e = .returned (.tuple #[.int .i64 0, .pointer (some ⟨w.heap.size, 0, none⟩)]) ∧ w' = w.alloc (.cells (M.cells ⟨S, C, 0, 0, 0, 0⟩).toArray 52) := by
  go_enter Try.func24, Try.ntmps24
  go_wp2_with (go_at_call 8; refine (new_yes S C _ s0 c0).mono ?_; rintro e w1 ⟨rfl, rfl⟩)
  refine wp_loop_rounds 1 ?_
  rw [rounds_succ]
  go_wp2_with fail
  go_ret2
  exact ⟨rfl, rfl⟩

/-- under, on any script that came in -/
theorem unders_of {H : Type} {enc : TypeId × Value → H} {W : World} {fuel : Nat} {a0 : Option Addr} {len cap : Nat} {x : DataW H × List MemPlace} (hf : DataW.trod enc Try.prog W 0 (fun _ => true) true fuel 22 [.slice a0 len cap] = some x) :
    ∃ L : List (Int × Int), L.length = len ∧ (∀ a ∈ L, 0 ≤ a.2 ∧ a.2 < 1048576) ∧ Unders (.slice a0 len cap) L W := by
  rcases (acts_of hf).2 with rfl | ⟨b, off, f, rfl, hb, hl, hA⟩
  · refine ⟨[], rfl, by simp, ?_⟩
    intro S C s0 c0 s1 c1 V hV
    refine (under0 S C s0 c0 a0 cap V).mono ?_
    rintro e w' ⟨rfl, rfl⟩
    exact ⟨rfl, Blk.new V _ 52 rfl, (Only.refl _ _).alloc _⟩
  · refine ⟨rowOf f len, rowOf_len f len, rowOf_bd f len, ?_⟩
    intro S C s0 c0 s1 c1 V hV
    exact under_any S C s0 c0 s1 c1 b off len cap f V hl (Nat.lt_of_lt_of_le hb hV.size) (hA.keep hV (by simp))

theorem contract (H : Type) (enc : TypeId × Value → H) (W : World) (base : Nat) (args : Array Value) (ds gs : List (DataW H)) (before : List MemPlace)
    (hval : ∀ (j : Nat) t v, Try.f5.params[j]? = some t → args[j]? = some v → Value.okWide Try.prog W .any base t v)
    (hW : DataW.Whole enc Try.prog Try.f5.params.toList Rows.meterTightSpec.vars false W args.toList ds gs before) (hk : Rows.uptoSmall H (ds ++ gs) = true) :
    Calls Try.prog 5 args W fun e W' => ∃ v, e = .returned v ∧ Rows.meterTightSpec.post enc Try.prog Try.f5 false true false false W args v W' := by
  have hW' := hW
  obtain ⟨p, q, hA0, hV, rfl, hfz, hnd⟩ := hW
  have hA : DataW.TrodAll enc Try.prog W 0 (fun _ => true) true Try.f5.params.toList args.toList ds p := hA0
  rw [Try.params5] at hA hval
  obtain ⟨v0, vs0, d0, ds0, p0, q0, hargs, rfl, rfl, h0, r0⟩ := trodAll_cons hA
  obtain ⟨v1, vs1, d1, ds1, p1, q1, rfl, rfl, rfl, h1, r1⟩ := trodAll_cons r0
  obtain ⟨v2, vs2, d2, ds2, p2, q2, rfl, rfl, rfl, h2, r2⟩ := trodAll_cons r1
  obtain ⟨rfl, rfl, rfl⟩ := trodAll_nil r2
  obtain rfl : args = #[v0, v1, v2] := by cases args; simp_all
  obtain ⟨rfl, rfl⟩ := trodVars_none hV
  obtain ⟨a0, len0, cap0, rfl⟩ := okWide_slice Try.underlying22 (hval 0 22 v0 rfl rfl)
  obtain ⟨a1, rfl, rfl, rfl, w1⟩ := open_int Try.underlying3 (hval 1 3 v1 rfl rfl) h1
  obtain ⟨a2, rfl, rfl, rfl, w2⟩ := open_int Try.underlying3 (hval 2 3 v2 rfl rfl) h2
  have k0 := h0
  have lt0 : ∀ x ∈ p0, x.block < W.heap.size := by obtain ⟨m, hm⟩ := k0; exact DataW.trod_lt m _ _ _ hm
  have hwalk : Calls Try.prog 5 #[.slice a0 len0 cap0, .int .i64 a1, .int .i64 a2] W fun e w' => e = .returned (.bool true) ∧ Below W.heap.size W w' := by
    obtain ⟨fuel, hf⟩ := h0
    have hf : DataW.trod enc Try.prog W 0 (fun _ => true) true fuel 22 [.slice a0 len0 cap0] = some (d0, p0) := by simpa [Value.cells] using hf
    have hb := (acts_of hf).1
    obtain ⟨L, hL, hq, hU⟩ := unders_of hf
    have hs : Rows.uptoBulkAll ([d0, .lit (.int .i64 a1), .lit (.int .i64 a2)] ++ ([] : List (DataW H))) ≤ 1048576 := of_decide_eq_true hk
    simp only [List.append_nil, Rows.uptoBulkAll] at hs
    obtain ⟨d, n, p, hF⟩ := facts_of hU hq (by simp only at hb; omega)
    rw [hL] at hF
    exact tight_walk a0 len0 cap0 a1 a2 d n p W hF
  clear hA0
  simp only [List.append_nil] at hW' hk
  refine hwalk.mono fun e W' ⟨he, bel⟩ => ?_
  subst he
  exact ⟨_, rfl, _, _, _, [], _, [], hW', trodAll_mk1 (shut_bool Try.underlying4 _), (trodAll_cons_mk (Below.trod laidOut (by kernel_rfl) (of_decide_eq_true (by kernel_rfl)) k0 bel lt0) (trodAll_cons_mk (shut_int Try.underlying3 w1) (trodAll_cons_mk (shut_int Try.underlying3 w2) trodAll_mk0))), rfl, bel.frame _, fun h => by cases h⟩

set_option maxRecDepth 100000 in
theorem lifted (os : Os) (started : os.Started) (H : Type) (enc : TypeId × Value → H) (F : Stop.Interp) :
    ReturnsInHanded {} Try.checked os 5 .any ((Rows.OpenSpec.upto Rows.meterTightSpec).pre6 enc Try.prog Try.f5 Rows.meterTightUptoRow.domain false) (((Rows.OpenSpec.upto Rows.meterTightSpec).at F).post enc Try.prog Try.f5 false true false false) := by
  refine returnsInHanded_of_cond (C := Try.checked) (s := Rows.OpenSpec.upto Rows.meterTightSpec) (k := Rows.uptoSmall) rfl own started (by kernel_rfl) Try.func5
    (OpenSpec.witness (enc := enc) (C := Try.checked) (s := Rows.OpenSpec.upto Rows.meterTightSpec) (k := Rows.uptoSmall) rfl false ⟨#[], #[.slice none 0 0, .int .i64 0, .int .i64 0], []⟩ 8 (by kernel_rfl) (by kernel_rfl) (by kernel_rfl)
      (x := ([.nil, .lit (.int .i64 0), .lit (.int .i64 0)], [], [])) (by kernel_rfl) rfl (by kernel_rfl)) ?_
  intro W base args ds gs before hval hW _ hk _
  exact contract H enc W base args ds gs before hval hW hk

theorem over : Rows.meterTightUptoRow.holds Try.pinned (Rows.OpenSpec.upto Rows.meterTightSpec) :=
  OpenClaim.holds_of_cond 5 Try.f5 rfl rfl rfl rfl rfl rfl rfl ⟨rfl, rfl, rfl, rfl, rfl⟩ rfl rfl rfl rfl rfl (by kernel_rfl) Try.func5 (by kernel_rfl)
    (of_decide_eq_true (by kernel_rfl)) (by unfold Func.isWrapper; first | (rw [if_pos (by decide +kernel)]; kernel_rfl) | (rw [if_neg (by decide +kernel)]; exact ⟨rfl, rfl⟩))
    (fun os started H enc _ F => lifted os started H enc F)

theorem proved : Rows.MeterTightUptoSaid := over
#print axioms proved
end Go.Proofs.Ytliomaiaknpphaa.meterTight
