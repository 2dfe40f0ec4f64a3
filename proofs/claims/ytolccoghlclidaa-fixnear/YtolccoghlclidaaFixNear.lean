/-
  For every a, num, den FixNear answers true; no condition.
  The frame is the kit's shell, written by its program.
-/
import Derived.Test.YtolccoghlclidaaRows
import Derived.WalkKit
import Derived.Test.YtolccoghlclidaaNear
import Derived.ProofKit
import Derived.OpenShut
namespace Go.Proofs.Ytolccoghlclidaa.fixNear
open Go.ChangeShapes Go.WideShapes Go.ChangeAt Go.RowKit
set_option linter.unusedVariables false      -- a walk need not use every 'w<i>' (that an integer argument fits its kind)

theorem own : ownKnob Try.prog.godebug = none := by kernel_rfl

/-! ### STEP 1: THE WALK -/
set_option maxHeartbeats 1000000 in
theorem walk (a0 : Int) (a1 : Int) (a2 : Int) (w0 : (Lit.int .i64 a0).wf = true) (w1 : (Lit.int .i64 a1).wf = true) (w2 : (Lit.int .i64 a2).wf = true) (w : World) :
    Calls Try.prog 6 #[.int .i64 a0, .int .i64 a1, .int .i64 a2] w fun e w' => e = .returned (.bool true) ∧ Below w.heap.size w w' := by
  clear w0 w1 w2
  by_cases hg : lenB a0 = true ∧ scOk a1 a2 = true
  · obtain ⟨g1, g2⟩ := hg
    obtain ⟨b1, b2⟩ := lenB_yes g1
    obtain ⟨b3, b4, b5, b6⟩ := scOk_yes g2
    obtain ⟨V, hV⟩ : ∃ V, cut (scN a0 a1 a2) = V := ⟨_, rfl⟩
    obtain ⟨F, hF⟩ : ∃ F, (!lenB (scN a0 a1 a2)) = F := ⟨_, rfl⟩
    have hVb := cut_bound (scN a0 a1 a2)
    rw [hV] at hVb
    obtain ⟨v1, v2⟩ := hVb
    have S1 : Hid (∀ (c : Addr) (w : World), w.cell? c = some (.bool false) → w.frozen? c = false → c.block < w.heap.size → Calls Try.prog 16 #[.pointer (some c), .int .i64 a0, .int .i64 a1, .int .i64 a2] w fun e w' => e = .returned (.int .i64 V) ∧ Upd c F w w') :=
      fun c w h1 h2 h3 => scale_fit c a0 a1 a2 V F w g1 g2 hV hF h1 h2 h3
    have S2 : Hid (∀ (c : Addr) (w : World), w.cell? c = some (.bool false) → w.frozen? c = false → c.block < w.heap.size → Calls Try.prog 16 #[.pointer (some c), .int .i64 (-a0), .int .i64 a1, .int .i64 a2] w fun e w' => e = .returned (.int .i64 (-V)) ∧ Upd c F w w') :=
      fun c w h1 h2 h3 => scale_fit c (-a0) a1 a2 (-V) F w (by rw [lenB_neg]; exact g1) g2 (by rw [scN_neg_a b5, cut_neg, hV]) (by rw [scN_neg_a b5, lenB_neg, hF]) h1 h2 h3
    have S3 : Hid (∀ (c : Addr) (w : World), w.cell? c = some (.bool false) → w.frozen? c = false → c.block < w.heap.size → Calls Try.prog 16 #[.pointer (some c), .int .i64 a0, .int .i64 (-a1), .int .i64 a2] w fun e w' => e = .returned (.int .i64 (-V)) ∧ Upd c F w w') :=
      fun c w h1 h2 h3 => scale_fit c a0 (-a1) a2 (-V) F w g1 (scOk_neg g2) (by rw [scN_neg_num b5, cut_neg, hV]) (by rw [scN_neg_num b5, lenB_neg, hF]) h1 h2 h3
    have S4 : Hid (∀ (c : Addr) (w : World), w.cell? c = some (.bool false) → w.frozen? c = false → c.block < w.heap.size → Calls Try.prog 16 #[.pointer (some c), .int .i64 a0, .int .i64 a2, .int .i64 a2] w fun e w' => e = .returned (.int .i64 a0) ∧ Upd c false w w') :=
      fun c w h1 h2 h3 => scale_fit c a0 a2 a2 a0 false w g1 (scOk_same g2) (by rw [scN_same b5, cut_yes g1]) (by rw [scN_same b5, g1]; rfl) h1 h2 h3
    have near := scN_near (a := a0) (num := a1) (den := a2) b5
    have HN : Hid (F = false → 2 * (V * a2 - a0 * a1) ≤ a2 ∧ 2 * (a0 * a1 - V * a2) ≤ a2) := by
      intro hf
      have : lenB (scN a0 a1 a2) = true := by rw [hf] at hF; simpa using hF
      rw [cut_yes this] at hV
      rw [← hV]; exact near
    clear hV hF near g1 g2
    go_enter Try.func6, Try.ntmps6
    go_wp2_with fail
    refine (shown_any _).mono ?_
    rintro e w1 ⟨rfl, hb⟩
    go_wp2_with fail
    refine (new_ex _).mono ?_
    rintro e w2 ⟨c, rfl, k0, k1, k2, k3, hb2⟩
    have HB := hb.trans (hb2.mono hb.size)
    have KB : Hid (c.block = w1.heap.size) := k0
    clear k0 hb2
    go_wp2_with fail
    refine (S1.out _ _ k1 k2 k3).mono ?_
    rintro e w3 ⟨rfl, u⟩
    have k1' := u.cell
    have k3' := Nat.lt_of_lt_of_le k3 u.size
    have HB2 := HB.trans (u.toBelow (B := w.heap.size) (by have := KB.out; have := hb.size; omega) HB.size)
    clear u k1 k2 k3 HB
    go_wp2_with fail
    refine (new_ex _).mono ?_
    rintro e w4 ⟨d, rfl, k0, k1, k2, k3, hb2⟩
    have c1 := below_keep hb2 k1' k3'
    have c2 := Nat.lt_of_lt_of_le k3' hb2.size
    have cd : Hid (c.block < d.block) := by rw [k0]; exact k3'
    have HB := HB2.trans (hb2.mono HB2.size)
    have KD : Hid (w.heap.size ≤ d.block) := by rw [k0]; exact HB2.size
    clear k0 hb2 k1' k3' HB2
    go_wp2_with fail
    refine (S2.out _ _ k1 k2 k3).mono ?_
    rintro e w5 ⟨rfl, u⟩
    have c1' := upd_keep u c1 c2 (Nat.ne_of_lt cd.out)
    have c2' := Nat.lt_of_lt_of_le c2 u.size
    have d1 := u.cell
    have d2 := Nat.lt_of_lt_of_le k3 u.size
    have HB2 := HB.trans (u.toBelow KD.out HB.size)
    clear u k1 k2 k3 HB c1 c2
    go_wp2_with fail
    refine (new_ex _).mono ?_
    rintro e w6 ⟨g, rfl, k0, k1, k2, k3, hb2⟩
    have c1 := below_keep hb2 c1' c2'
    have c2 := Nat.lt_of_lt_of_le c2' hb2.size
    have d1' := below_keep hb2 d1 d2
    have d2' := Nat.lt_of_lt_of_le d2 hb2.size
    have cg : Hid (c.block < g.block) := by rw [k0]; exact c2'
    have dg : Hid (d.block < g.block) := by rw [k0]; exact d2
    have HB := HB2.trans (hb2.mono HB2.size)
    have KG : Hid (w.heap.size ≤ g.block) := by rw [k0]; exact HB2.size
    clear k0 hb2 c1' c2' d1 d2 HB2
    go_wp2_with fail
    refine (S3.out _ _ k1 k2 k3).mono ?_
    rintro e w7 ⟨rfl, u⟩
    have c1' := upd_keep u c1 c2 (Nat.ne_of_lt cg.out)
    have c2' := Nat.lt_of_lt_of_le c2 u.size
    have d1 := upd_keep u d1' d2' (Nat.ne_of_lt dg.out)
    have d2 := Nat.lt_of_lt_of_le d2' u.size
    have g1 := u.cell
    have g2 := Nat.lt_of_lt_of_le k3 u.size
    have HB2 := HB.trans (u.toBelow KG.out HB.size)
    clear u k1 k2 k3 HB c1 c2 d1' d2'
    go_wp2_with fail
    refine (new_ex _).mono ?_
    rintro e w8 ⟨h, rfl, k0, k1, k2, k3, hb2⟩
    have c1 := below_keep hb2 c1' c2'
    have c2 := Nat.lt_of_lt_of_le c2' hb2.size
    have d1' := below_keep hb2 d1 d2
    have g1' := below_keep hb2 g1 g2
    have ch : Hid (c.block < h.block) := by rw [k0]; exact c2'
    have HB := HB2.trans (hb2.mono HB2.size)
    have KH : Hid (w.heap.size ≤ h.block) := by rw [k0]; exact HB2.size
    clear k0 hb2 c1' c2' d1 d2 g1 g2 HB2
    go_wp2_with fail
    refine (wrong_any _ F _ c1).mono ?_
    rintro e w9 ⟨rfl, rfl⟩
    go_wp2_with fail
    refine (wrong_any _ F _ d1').mono ?_
    rintro e w10 ⟨rfl, rfl⟩
    go_wp2_with fail
    refine (wrong_any _ F _ c1).mono ?_
    rintro e w11 ⟨rfl, rfl⟩
    go_wp2_with fail
    refine (wrong_any _ F _ g1').mono ?_
    rintro e w12 ⟨rfl, rfl⟩
    go_wp2_with fail
    refine (S4.out _ _ k1 k2 k3).mono ?_
    rintro e w13 ⟨rfl, u⟩
    have c1' := upd_keep u c1 c2 (Nat.ne_of_lt ch.out)
    have h1 := u.cell
    have HB2 := HB.trans (u.toBelow KH.out HB.size)
    clear u k1 k2 k3 HB c1 c2 d1' g1'
    go_wp2_with fail
    refine (wrong_any _ false _ h1).mono ?_
    rintro e w14 ⟨rfl, rfl⟩
    go_wp2_with fail
    refine (wrong_any _ F _ c1').mono ?_
    rintro e w15 ⟨rfl, rfl⟩
    clear h1 c1' S1 S2 S3 S4 KB KD KG KH cd cg dg ch
    cases F
    · have N := HN.out rfl
      clear HN
      by_cases hr : -1099511627776 ≤ a0
      · by_cases hr2 : a0 ≤ 1099511627776
        · obtain ⟨q1, hq1⟩ : ∃ q, V * a2 = q := ⟨_, rfl⟩
          have hab := mul_bound hr hr2 b3 b4
          obtain ⟨q2, hq2⟩ : ∃ q, a0 * a1 = q := ⟨_, rfl⟩
          rw [hq1, hq2] at N
          rw [hq2] at hab
          obtain ⟨n1, n2⟩ := N
          obtain ⟨n3, n4⟩ := hab
          by_cases hx : q1 - q2 < 0
          · go_wp2_with fail
            go_ret
            exact ⟨ret_bool (by simp; omega), HB2⟩
          · go_wp2_with fail
            go_ret
            exact ⟨ret_bool (by simp), HB2⟩
        · go_wp2_with fail
          go_ret
          exact ⟨rfl, HB2⟩
      · go_wp2_with fail
        go_ret
        exact ⟨rfl, HB2⟩
    · clear HN
      go_wp2_with fail
      go_ret
      exact ⟨rfl, HB2⟩
  · rcases near_ways hg with g | ⟨g, g1⟩ | ⟨g, g1, g2⟩ | ⟨g, g1, g2, g3⟩ | ⟨g, g1, g2, g3, g4⟩ | ⟨g, g1, g2, g3, g4, g5⟩
    all_goals
      clear hg
      go_enter Try.func6, Try.ntmps6
      go_wp2_with fail
      refine (shown_any _).mono ?_
      rintro e w1 ⟨rfl, hb⟩
      go_wp2_with fail
      refine (new_ex _).mono ?_
      rintro e w2 ⟨c, rfl, k0, k1, k2, k3, hb2⟩
      have HB := hb.trans (hb2.mono hb.size)
      clear k0 k1 k2 k3 hb2
      go_wp2_with fail
      go_ret
      exact ⟨rfl, HB⟩

/-! ### THE ROW's STEP: WRITTEN OUT: LEAVE IT -/
set_option maxRecDepth 100000 in
theorem lifted (os : Os) (started : os.Started) (H : Type) (enc : TypeId × Value → H) :
    ReturnsInHanded {} Try.checked os 6 .any (Rows.fixNearSpec.pre6 enc Try.prog Try.f6 Rows.fixNearRow.domain false) (Rows.fixNearSpec.post enc Try.prog Try.f6 false true false false) := by
  refine returnsInHanded_of_change (C := Try.checked) own started (by kernel_rfl) Try.func6
    (ChangeSpec.witness6 (enc := enc) (C := Try.checked) false ⟨#[], #[.int .i64 0, .int .i64 0, .int .i64 0], []⟩ 8 (by kernel_rfl) (by kernel_rfl) (by kernel_rfl) (by kernel_rfl)) ?_
  intro W base args ds gs before hval0 hW hcnd _
  have hval : ∀ (j : Nat) t v, Try.f6.params[j]? = some t → args[j]? = some v → Value.okWide Try.prog W .any base t v := hval0
  have hW' := hW
  obtain ⟨p, q, hA0, hV, rfl, hfz, hnd⟩ := hW
  have hA : DataW.TrodAll enc Try.prog W 0 (fun _ => true) true Try.f6.params.toList args.toList ds p := hA0
  rw [Try.params6] at hA hval
  obtain ⟨v0, vs0, d0, ds0, p0, q0, hargs, rfl, rfl, h0, r0⟩ := trodAll_cons hA
  obtain ⟨v1, vs1, d1, ds1, p1, q1, rfl, rfl, rfl, h1, r1⟩ := trodAll_cons r0
  obtain ⟨v2, vs2, d2, ds2, p2, q2, rfl, rfl, rfl, h2, r2⟩ := trodAll_cons r1
  obtain ⟨rfl, rfl, rfl⟩ := trodAll_nil r2
  obtain rfl : args = #[v0, v1, v2] := by cases args; simp_all
  obtain ⟨rfl, rfl⟩ := trodVars_none hV
  obtain ⟨a0, rfl, rfl, rfl, w0⟩ := open_int Try.underlying3 (hval 0 3 v0 rfl rfl) h0
  obtain ⟨a1, rfl, rfl, rfl, w1⟩ := open_int Try.underlying3 (hval 1 3 v1 rfl rfl) h1
  obtain ⟨a2, rfl, rfl, rfl, w2⟩ := open_int Try.underlying3 (hval 2 3 v2 rfl rfl) h2
  clear hA0 hval0
  simp only [List.append_nil] at hW'
  refine (walk a0 a1 a2 w0 w1 w2 W).mono fun e W' ⟨he, hg⟩ => ?_
  subst he
  exact ⟨_, rfl, _, _, _, [], [], [], hW', trodAll_cons_mk (shut_bool Try.underlying4 _) trodAll_mk0, (trodAll_cons_mk (shut_int Try.underlying3 w0) (trodAll_cons_mk (shut_int Try.underlying3 w1) (trodAll_cons_mk (shut_int Try.underlying3 w2) trodAll_mk0))), rfl, hg.frame _, fun h => by cases h⟩

theorem over : Rows.fixNearRow.holds Try.pinned (OpenSpec.ofChange Rows.fixNearSpec) :=
  OpenClaim.holds_of_wide 6 Try.f6 rfl rfl rfl rfl rfl rfl rfl ⟨rfl, rfl, rfl, rfl, rfl⟩ rfl rfl rfl rfl rfl (by kernel_rfl) Try.func6 (by kernel_rfl)
    (of_decide_eq_true (by kernel_rfl)) (by unfold Func.isWrapper; first | (rw [if_pos (by decide +kernel)]; kernel_rfl) | (rw [if_neg (by decide +kernel)]; exact ⟨rfl, rfl⟩))
    (fun os started H enc _ => lifted os started H enc)

/-- ████ THE STATEMENT ████ -/
theorem proved : Rows.FixNearSaid :=
  over
#print axioms proved
end Go.Proofs.Ytolccoghlclidaa.fixNear
