/- A drawn region of effects in a row beside operations whose values are known, some under a guard. -/
import Derived.Test.YtdinlaoimpoolaaChainAll
namespace Go.Proofs.Ytdinlaoimpoolaa
open Go.RowKit

structure EffI (ops : Array Oper) (base : Array Value) (m : Nat) (ci : Nat → Nat) (val : Nat → Option Value) (St : Nat → World → Value → Prop) (v0 : Value) (L : Array Bool) (a : Act) (w : World) : Prop where
  rest : Rest ops base a
  vals : ∀ j v, val j = some v → L.getD j false = true → Has ops a j v
  row : ∃ j v, j ≤ m ∧ (∀ i, i < m → (L.getD (ci i) false = true ↔ i < j)) ∧ St j w v ∧ (j = 0 → v = v0) ∧ (∀ i, j = i + 1 → Has ops a (ci i) v)

/-- what operation i does: it yields v, and the world stays -/
def Does (ops : Array Oper) (Q : Exit → Act → World → Prop) (i : Nat) (o : Oper) (a : Act) (w : World) (v : Value) : Prop := ∀ K : Act → World → Prop, K (a.put o.dst v) w → wpOp Try.prog ops Q i K a w
theorem does_run {ops : Array Oper} {Q : Exit → Act → World → Prop} {i : Nat} {o : Oper} {a : Act} {w : World} {v : Value} (ho : ops[i]? = some o) (hg : o.guard = none) (hr : (execOp a.eval o).run Try.prog w = .ok (.value v) w) : Does ops Q i o a w v :=
  fun _ hk => wpOp_one ho hg (wp_val hr hk)
theorem yielded_has {ops : Array Oper} {a : Act} {g : Nat} {c : Bool} {d : Tmp} (hd : (ops[g]?).bind (·.dst) = some d) (h : Has ops a g (.bool c)) : yielded ops a.tmps g = some c := by
  unfold yielded
  rw [hd, Option.bind_some, h d hd]
theorem does_on {ops : Array Oper} {Q : Exit → Act → World → Prop} {i g : Nat} {c : Bool} {o : Oper} {a : Act} {w : World} {v : Value} {d : Tmp} (ho : ops[i]? = some o) (hg : o.guard = some (g, c)) (hd : (ops[g]?).bind (·.dst) = some d) (h : Has ops a g (.bool c)) (hr : (execOp a.eval o).run Try.prog w = .ok (.value v) w) : Does ops Q i o a w v := fun K hk => by
  unfold wpOp
  simp only [ho]
  have hw : Region.wanted o (yielded ops a.tmps) = true := by
    unfold Region.wanted
    rw [hg]
    simp only []
    rw [yielded_has hd h]
    simp
  rw [if_pos hw]
  exact .inl (wp_val hr hk)
theorem does_off {ops : Array Oper} {Q : Exit → Act → World → Prop} {i g : Nat} {c c' : Bool} {o : Oper} {a : Act} {w : World} {d : Tmp} (ho : ops[i]? = some o) (hg : o.guard = some (g, c)) (hd : (ops[g]?).bind (·.dst) = some d) (h : Has ops a g (.bool c')) (hn : (c' == c) = false) : Does ops Q i o a w undef := fun K hk => by
  unfold wpOp
  simp only [ho]
  have hw : Region.wanted o (yielded ops a.tmps) = false := by
    unfold Region.wanted
    rw [hg]
    simp only []
    rw [yielded_has hd h]
    simpa using hn
  rw [hw]
  exact hk
/-- a guarded operation whose guard was not carried out -/
theorem does_undef {ops : Array Oper} {Q : Exit → Act → World → Prop} {i g : Nat} {c : Bool} {o : Oper} {a : Act} {w : World} {d : Tmp} (ho : ops[i]? = some o) (hg : o.guard = some (g, c)) (hd : (ops[g]?).bind (·.dst) = some d) (h : Has ops a g undef) : Does ops Q i o a w undef := fun K hk => by
  unfold wpOp
  simp only [ho]
  have hw : Region.wanted o (yielded ops a.tmps) = false := by
    unfold Region.wanted
    rw [hg]
    simp only []
    have : yielded ops a.tmps g = none := by
      unfold yielded
      rw [hd, Option.bind_some, h d hd]
      rfl
    rw [this]
    rfl
  rw [hw]
  exact hk
theorem does_call {ops : Array Oper} {Q : Exit → Act → World → Prop} {i : Nat} {o : Oper} {a : Act} {w : World} {v : Value} {f : FuncId} {args : Array Value} (ho : ops[i]? = some o) (hg : o.guard = none) (hr : (execOp a.eval o).run Try.prog w = .ok (.enter f args) w) (hc : Calls Try.prog f args w fun e w' => e = .returned v ∧ w' = w) : Does ops Q i o a w v :=
  fun K hk => wpOp_one ho hg (wp_enter hr (hc.mono fun e w' ⟨h1, h2⟩ => ⟨v, h1, by rw [h2]; exact hk⟩))

theorem effects {ops : Array Oper} {base : Array Value} {m : Nat} {ci : Nat → Nat} {val : Nat → Option Value} {id : Nat} {Q : Exit → Act → World → Prop} {W : World} (St : Nat → World → Value → Prop) (v0 : Value)
    (he : elder ops = true) (ap : apartB ops = true) (hr : inside ops base.size = true) (hm : 0 < m) (hS0 : St 0 W.drew v0)
    (hinjB : injB m ci = true) (hvcB : ((List.range m).all fun i => (val (ci i)).isNone) = true)
    (hcall : ∀ (j : Nat), j < m → ∃ o, ops[ci j]? = some o ∧ (0 < j → waits o (ci (j - 1)) = true) ∧
      ∀ a w v, St j w v → Rest ops base a → (∀ i u, waits o i = true → val i = some u → Has ops a i u) → (j = 0 → v = v0) → (∀ i, j = i + 1 → Has ops a (ci i) v) →
        ∀ K : Act → World → Prop, (∀ v' w', St (j + 1) w' v' → K (a.put o.dst v') w') → wpOp Try.prog ops Q (ci j) K a w)
    (hpure : ∀ (i : Nat) (o : Oper), ops[i]? = some o → (∃ j, j < m ∧ i = ci j) ∨
      (∃ v, val i = some v ∧ ∀ j v' a w, j ≤ m → St j w v' → Rest ops base a → (∀ j u, waits o j = true → val j = some u → Has ops a j u) → Does ops Q i o a w v))
    (hlast : ∃ o d, ops[ci (m - 1)]? = some o ∧ d = o)
    (ds : List Nat) (hds : into ops ds = true)
    (hend : ∀ (us : Nat → Value) w v, St m w v → Q .normal ⟨ds.foldl (fun b d => b.setIfInBounds d (us d)) base, []⟩ w) :
    (Code.region id ops true).wp Try.prog Q ⟨base, []⟩ W := by
  have hinj := injB_spec hinjB
  have hvc : ∀ i, i < m → val (ci i) = none := fun i hi => by
    have := List.all_eq_true.1 hvcB i (List.mem_range.2 hi)
    simpa using this
  refine wp_region_inv (EffI ops base m ci val St v0) (by kernel_rfl) he ?_ ?_ ?_
  · have hno : ∀ j, (Array.replicate ops.size false).getD j false = true → False := by
      intro j hj
      rw [Array.getD_eq_getD_getElem?, Array.getElem?_replicate] at hj
      split at hj <;> cases hj
    exact ⟨⟨rfl, rfl, fun _ _ => rfl⟩, fun j _ _ hj => (hno j hj).elim, 0, v0, Nat.zero_le _, fun i _ => ⟨fun h => (hno _ h).elim, fun h => absurd h (Nat.not_lt_zero _)⟩, hS0, fun _ => rfl, fun i h => by omega⟩
  · intro i o ho L a w hs h hL hd
    have hl : ∀ d, o.dst = some d → d < a.tmps.size := fun d hd' => by rw [h.rest.2.1]; exact inside_lt hr ho hd'
    have hne : ∀ j, waits o j = true → L.getD j false = true := fun j hj => waits_in hj hd
    have hLi : i < L.size := by rw [hs]; exact (Array.getElem?_eq_some_iff.1 ho).1
    obtain ⟨j, v, hjm, hiff, hst, hv0, hlst⟩ := h.row
    rcases hpure i o ho with ⟨jj, hjj, rfl⟩ | ⟨u, hu, hrun⟩
    · obtain ⟨o', ho', hwt, hc⟩ := hcall jj hjj
      rw [ho] at ho'; cases ho'
      have h1 : ¬ jj < j := fun hlt => by
        have := (hiff jj hjj).2 hlt
        rw [off_of hL] at this; cases this
      have h2 : jj ≤ j := by
        rcases Nat.eq_zero_or_pos jj with e | e
        · omega
        · have := (hiff (jj - 1) (by omega)).1 (hne _ (hwt e))
          omega
      obtain rfl : j = jj := by omega
      refine hc a w v hst h.rest (fun k x hk hx => h.vals k x hx (hne k hk)) hv0 hlst _ fun v' w' hst' => ?_
      refine ⟨h.rest.put ho _, vals_put h.vals ap ho hl (by intro x hx; rw [hvc j hjj] at hx; cases hx), j + 1, v', hjj, fun k hk => ?_, hst', fun h0 => absurd h0 (by omega), fun k hk => ?_⟩
      · by_cases e : k = j
        · subst e
          exact ⟨fun _ => Nat.lt_succ_self _, fun _ => set_on hLi⟩
        · have hci : ci j ≠ ci k := fun q => e (hinj k j hk hjj q.symm)
          rw [getD_set_ne false hci, hiff k hk]
          omega
      · obtain rfl : k = j := by omega
        exact Has.put ho hl
    · have n1 : ∀ k, k < m → i ≠ ci k := fun k hk e => by
        subst e; rw [hvc k hk] at hu; cases hu
      refine hrun j v a w hjm hst h.rest (fun k x hk hx => h.vals k x hx (hne k hk)) _ ?_
      refine ⟨h.rest.put ho _, vals_put h.vals ap ho hl (by intro x hx; rw [hu] at hx; cases hx; rfl), j, v, hjm, fun k hk => ?_, hst, hv0, fun k hk => ?_⟩
      · rw [getD_set_ne false (n1 k hk), hiff k hk]
      · exact (hlst k hk).ne ap ho (n1 k (by omega))
  · intro L a w h hall
    obtain ⟨j, v, hjm, hiff, hst, hv0, hlst⟩ := h.row
    have hjm' : j = m := by
      obtain ⟨o, _, ho, _⟩ := hlast
      have := (hiff (m - 1) (by omega)).1 (hall _ (Array.getElem?_eq_some_iff.1 ho).1)
      omega
    subst hjm'
    rw [h.rest.lit hds]
    exact hend (fun d => a.tmps.getD d undef) w v hst
end Go.Proofs.Ytdinlaoimpoolaa
