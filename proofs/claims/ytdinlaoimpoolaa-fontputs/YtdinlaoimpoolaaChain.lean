/- A drawn region of calls in a row, each on what the one ahead answered, beside loads of what none of them writes. -/
import Derived.Test.YtdinlaoimpoolaaPureRuns
namespace Go.Proofs.Ytdinlaoimpoolaa
open Go.RowKit

/-- the calls' numbers, the last one's answer is laid by number iz -/
structure Chn where
  ops : Array Oper
  base : Array Value
  m : Nat
  ci : Nat → Nat
  iz : Nat
  val : Nat → Option Value
structure ChnI (C : Chn) (oz : Oper) (dz : Tmp) (Kp : World → Prop) (St : Nat → World → Value → Prop) (v0 : Value) (L : Array Bool) (a : Act) (w : World) : Prop where
  rest : Rest C.ops C.base a
  kp : Kp w
  vals : ∀ j v, C.val j = some v → L.getD j false = true → Has C.ops a j v
  row : ∃ j v, j ≤ C.m ∧ (∀ i, i < C.m → (L.getD (C.ci i) false = true ↔ i < j)) ∧ St j w v ∧ (j = 0 → v = v0) ∧ (∀ i, j = i + 1 → Has C.ops a (C.ci i) v) ∧ (L.getD C.iz false = true → j = C.m ∧ Has C.ops a C.iz v)
  zw : L.getD C.iz false = true → ∀ j, waits oz j = true → L.getD j false = true
  pre : L.getD C.iz false = false → a.tmps[dz]? = C.base[dz]?

theorem vals_put {ops : Array Oper} {val : Nat → Option Value} {L : Array Bool} {a : Act} {i : Nat} {o : Oper} {v : Value} (h : ∀ j v, val j = some v → L.getD j false = true → Has ops a j v) (ap : apartB ops = true) (ho : ops[i]? = some o) (hl : ∀ d, o.dst = some d → d < a.tmps.size) (hv : ∀ u, val i = some u → u = v) :
    ∀ j u, val j = some u → (L.setIfInBounds i true).getD j false = true → Has ops (a.put o.dst v) j u := by
  intro j u hj hL
  by_cases e : i = j
  · subst e; rw [hv u hj]; exact Has.put ho hl
  · exact (h j u hj ((on_set hL).resolve_left (Ne.symm e))).ne ap ho e
theorem set_on {L : Array Bool} {i : Nat} (h : i < L.size) : (L.setIfInBounds i true).getD i false = true := by
  rw [Array.getD_eq_getD_getElem?, Array.getElem?_setIfInBounds_self, if_pos h]; rfl
theorem off_of {L : Array Bool} {i : Nat} (h : L.getD i true = false) : L.getD i false = false := by
  rcases hz : L.getD i false with _ | _
  · rfl
  · rw [on_true hz] at h; cases h
theorem run_assign {a : Act} {w : World} {o : Oper} {x : Operand} {v : Value} (hop : o.op = .assign x) (hx : a.eval x = v) : (execOp a.eval o).run Try.prog w = .ok (.value v) w := by
  simp only [execOp, hop, hx]
  rfl

/-- unlike numbers -/
def injB (m : Nat) (ci : Nat → Nat) : Bool := (List.range m).all fun i => (List.range m).all fun j => i == j || ci i != ci j
theorem injB_spec {m : Nat} {ci : Nat → Nat} (h : injB m ci = true) : ∀ i j, i < m → j < m → ci i = ci j → i = j := by
  intro i j hi hj e
  have h1 := List.all_eq_true.1 (List.all_eq_true.1 h i (List.mem_range.2 hi)) j (List.mem_range.2 hj)
  rw [e] at h1
  simpa using h1

theorem call_chain {C : Chn} {id : Nat} {Q : Exit → Act → World → Prop} {W : World} (Kp : World → Prop) (St : Nat → World → Value → Prop) (v0 : Value)
    (he : elder C.ops = true) (ap : apartB C.ops = true) (hr : inside C.ops C.base.size = true) (hm : 0 < C.m)
    (hK0 : Kp W.drew) (hS0 : St 0 W.drew v0)
    (hinjB : injB C.m C.ci = true) (hizB : ((List.range C.m).all fun i => C.ci i != C.iz) = true)
    (hvcB : ((List.range C.m).all fun i => (C.val (C.ci i)).isNone) = true) (hvz : C.val C.iz = none)
    (hcall : ∀ (j : Nat), j < C.m → ∃ o, C.ops[C.ci j]? = some o ∧ o.guard = none ∧ (0 < j → waits o (C.ci (j - 1)) = true) ∧
      ∀ a w v, Kp w → St j w v → Rest C.ops C.base a → (∀ i u, waits o i = true → C.val i = some u → Has C.ops a i u) → (j = 0 → v = v0) → (∀ i, j = i + 1 → Has C.ops a (C.ci i) v) →
        ∃ f args, (execOp a.eval o).run Try.prog w = .ok (.enter f args) w ∧ Calls Try.prog f args w fun e w' => ∃ v', e = .returned v' ∧ Kp w' ∧ St (j + 1) w' v')
    (oz : Oper) (dl dz : Tmp) (hz : C.ops[C.iz]? = some oz) (kz : oz.guard = none ∧ oz.op = .assign (.tmp dl) ∧ oz.dst = some dz) (hzl : (C.ops[C.ci (C.m - 1)]?).bind (·.dst) = some dl) (hzw0 : waits oz (C.ci (C.m - 1)) = true)
    (hpure : ∀ (i : Nat) (o : Oper), C.ops[i]? = some o → (∃ j, j < C.m ∧ i = C.ci j) ∨ i = C.iz ∨
      (o.guard = none ∧ ∃ v, C.val i = some v ∧ ∀ a w, Kp w → Rest C.ops C.base a → (∀ j u, waits o j = true → C.val j = some u → Has C.ops a j u) → (waits oz i = true → a.tmps[dz]? = C.base[dz]?) → (execOp a.eval o).run Try.prog w = .ok (.value v) w))
    (ds : List Nat) (hds : into C.ops ds = true)
    (hend : ∀ (us : Nat → Value) w v, Kp w → St C.m w v → us dz = v → Q .normal ⟨ds.foldl (fun b d => b.setIfInBounds d (us d)) C.base, []⟩ w) :
    (Code.region id C.ops true).wp Try.prog Q ⟨C.base, []⟩ W := by
  have hinj := injB_spec hinjB
  have hiz : ∀ i, i < C.m → C.ci i ≠ C.iz := fun i hi => by
    have := List.all_eq_true.1 hizB i (List.mem_range.2 hi)
    simpa using this
  have hvc : ∀ i, i < C.m → C.val (C.ci i) = none := fun i hi => by
    have := List.all_eq_true.1 hvcB i (List.mem_range.2 hi)
    simpa using this
  refine wp_region_inv (ChnI C oz dz Kp St v0) (by kernel_rfl) he ?_ ?_ ?_
  · have hno : ∀ j, (Array.replicate C.ops.size false).getD j false = true → False := by
      intro j hj
      rw [Array.getD_eq_getD_getElem?, Array.getElem?_replicate] at hj
      split at hj <;> cases hj
    exact ⟨⟨rfl, rfl, fun _ _ => rfl⟩, hK0, fun j _ _ hj => (hno j hj).elim, ⟨0, v0, Nat.zero_le _, fun i _ => ⟨fun h => (hno _ h).elim, fun h => absurd h (Nat.not_lt_zero _)⟩, hS0, fun _ => rfl, fun i h => by omega, fun h => (hno _ h).elim⟩, fun h => (hno _ h).elim, fun _ => rfl⟩
  · intro i o ho L a w hs h hL hd
    have hl : ∀ d, o.dst = some d → d < a.tmps.size := fun d hd' => by rw [h.rest.2.1]; exact inside_lt hr ho hd'
    have hne : ∀ j, waits o j = true → L.getD j false = true := fun j hj => waits_in hj hd
    have hLi : i < L.size := by rw [hs]; exact (Array.getElem?_eq_some_iff.1 ho).1
    have hpre : ∀ (u : Value), i ≠ C.iz → (L.setIfInBounds i true).getD C.iz false = false → (a.put o.dst u).tmps[dz]? = C.base[dz]? := fun u hi hz' => by
      have hd : o.dst ≠ some dz := fun e => apartB_ne ap hi (by rw [ho]; exact e) (by rw [hz]; exact kz.2.2)
      have h1 := h.pre (off_set hz')
      rcases hod : o.dst with _ | d
      · exact h1
      · have hne' : d ≠ dz := fun e => hd (by rw [hod, e])
        show (a.tmps.setIfInBounds d u)[dz]? = _
        rw [Array.getElem?_setIfInBounds_ne hne']
        exact h1
    have hzw : i ≠ C.iz → (L.setIfInBounds i true).getD C.iz false = true → ∀ j, waits oz j = true → (L.setIfInBounds i true).getD j false = true := fun hi hz' j hj => getD_set_true (h.zw ((on_set hz').resolve_left (Ne.symm hi)) j hj)
    obtain ⟨j, v, hjm, hiff, hst, hv0, hlast, hziff⟩ := h.row
    rcases hpure i o ho with ⟨jj, hjj, rfl⟩ | rfl | ⟨kg, u, hu, hrun⟩
    · obtain ⟨o', ho', kg, hwt, hc⟩ := hcall jj hjj
      rw [ho] at ho'; cases ho'
      have h1 : ¬ jj < j := fun hlt => by
        have := (hiff jj hjj).2 hlt
        rw [off_of hL] at this; cases this
      have h2 : jj ≤ j := by
        rcases Nat.eq_zero_or_pos jj with e | e
        · omega
        · have := (hiff (jj - 1) (by omega)).1 (hne _ (hwt e))
          omega
      obtain rfl : j = jj := by omega
      obtain ⟨f, args, hrun, hcl⟩ := hc a w v h.kp hst h.rest (fun k x hk hx => h.vals k x hx (hne k hk)) hv0 hlast
      refine wpOp_one ho kg (wp_enter hrun (hcl.mono ?_))
      rintro e w' ⟨v', rfl, hkp, hst'⟩
      refine ⟨v', rfl, ⟨h.rest.put ho _, hkp, vals_put h.vals ap ho hl (by intro x hx; rw [hvc j hjj] at hx; cases hx), ⟨j + 1, v', hjj, fun k hk => ?_, hst', fun h0 => absurd h0 (by omega), fun k hk => ?_, fun hz' => ?_⟩, hzw (hiz j hjj), hpre v' (hiz j hjj)⟩⟩
      · by_cases e : k = j
        · subst e
          exact ⟨fun _ => Nat.lt_succ_self _, fun _ => set_on hLi⟩
        · have hci : C.ci j ≠ C.ci k := fun q => e (hinj k j hk hjj q.symm)
          rw [getD_set_ne false hci, hiff k hk]
          omega
      · obtain rfl : k = j := by omega
        exact Has.put ho hl
      · have := hziff ((on_set hz').resolve_left (Ne.symm (hiz j hjj)))
        omega
    · rw [hz] at ho; cases ho
      have h1 := (hiff (C.m - 1) (by omega)).1 (hne _ hzw0)
      obtain rfl : j = C.m := by omega
      have hv : a.eval (.tmp dl) = v := eval_tmp (hlast (C.m - 1) (by omega) dl hzl)
      refine wpOp_one hz kz.1 (wp_val (run_assign kz.2.1 hv) ⟨h.rest.put hz _, h.kp, vals_put h.vals ap hz hl (by intro x hx; rw [hvz] at hx; cases hx), ⟨C.m, v, Nat.le_refl _, fun k hk => ?_, hst, hv0, fun k hk => ?_, fun _ => ⟨rfl, Has.put hz hl⟩⟩, fun _ j hj => getD_set_true (hne j hj), fun hz' => by rw [set_on hLi] at hz'; cases hz'⟩)
      · rw [getD_set_ne false (Ne.symm (hiz k hk)), hiff k hk]
      · exact (hlast k hk).ne ap hz (Ne.symm (hiz k (by omega)))
    · have n1 : ∀ k, k < C.m → i ≠ C.ci k := fun k hk e => by
        subst e; rw [hvc k hk] at hu; cases hu
      have n2 : i ≠ C.iz := fun e => by subst e; rw [hvz] at hu; cases hu
      refine wpOp_one ho kg (wp_val (hrun a w h.kp h.rest (fun k x hk hx => h.vals k x hx (hne k hk)) (fun hw => h.pre (by
        rcases hb : L.getD C.iz false with _ | _
        · rfl
        · rw [on_true (h.zw hb i hw)] at hL; cases hL))) ⟨h.rest.put ho _, h.kp, vals_put h.vals ap ho hl (by intro x hx; rw [hu] at hx; cases hx; rfl), ⟨j, v, hjm, fun k hk => ?_, hst, hv0, fun k hk => ?_, fun hz' => ?_⟩, hzw n2, hpre u n2⟩)
      · rw [getD_set_ne false (n1 k hk), hiff k hk]
      · exact (hlast k hk).ne ap ho (n1 k (by omega))
      · obtain ⟨z1, z2⟩ := hziff ((on_set hz').resolve_left (Ne.symm n2))
        exact ⟨z1, z2.ne ap ho n2⟩
  · intro L a w h hall
    obtain ⟨j, v, hjm, hiff, hst, hv0, hlast, hziff⟩ := h.row
    obtain ⟨rfl, hh⟩ := hziff (hall _ (Array.getElem?_eq_some_iff.1 hz).1)
    rw [h.rest.lit hds]
    exact hend (fun d => a.tmps.getD d undef) w v h.kp hst (eval_tmp (hh dz (by rw [hz]; exact kz.2.2)))
end Go.Proofs.Ytdinlaoimpoolaa
