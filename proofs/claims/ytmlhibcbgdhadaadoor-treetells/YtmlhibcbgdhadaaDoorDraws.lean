/- Drawn regions by an invariant of what has come up; a region all of whose values are known. -/
import Derived.Test.YtmlhibcbgdhadaaDoorMem
import Derived.Test.YtmlhibcbgdhadaaDoorProg
namespace Go.Proofs.YtmlhibcbgdhadaaDoor
open Go.RowKit

/-- each waits for elder ones alone -/
def elder (ops : Array Oper) : Bool := (List.range ops.size).all fun i => match ops[i]? with
  | some o => o.after.all fun e => !Region.binds .any e || decide (e.on < i)
  | none => true

theorem ready_nil {ops : Array Oper} (he : elder ops = true) {L : Array Bool} (hs : L.size = ops.size) (h : Region.ready .any ops L = []) : ∀ i, i < ops.size → L.getD i false = true := by
  intro i
  induction i using Nat.strongRecOn with
  | _ i ih =>
    intro hi
    rcases hb : L.getD i false with _ | _
    · exfalso
      have hin : i ∈ Region.ready .any ops L := by
        rw [mem_ready]
        have hL : L.getD i true = false := by
          have : i < L.size := by omega
          simp [this] at hb ⊢
          exact hb
        obtain ⟨o, ho⟩ : ∃ o, ops[i]? = some o := ⟨_, Array.getElem?_eq_getElem hi⟩
        refine ⟨hL, o, ho, fun e hm hbd => ?_⟩
        have h1 := List.all_eq_true.1 he i (List.mem_range.2 hi)
        rw [ho] at h1
        have h2 := Array.all_eq_true_iff_forall_mem.1 h1 e hm
        rw [hbd] at h2
        have h3 : e.on < i := by simpa using h2
        exact ih e.on h3 (by omega)
      rw [h] at hin
      exact absurd hin (by simp)
    · rfl

/-- how many are open -/
def openN (L : Array Bool) : Nat := L.toList.count false
theorem openN_set {L : Array Bool} {i : Nat} (h : L.getD i true = false) : openN (L.setIfInBounds i true) + 1 = openN L := by
  unfold openN
  rcases L with ⟨l⟩
  simp only [List.setIfInBounds_toArray]
  have hi : i < l.length := by
    rcases Nat.lt_or_ge i l.length with q | q
    · exact q
    · simp [q] at h
  have hv : l[i] = false := by simpa [hi] using h
  clear h
  induction l generalizing i with
  | nil => simp at hi
  | cons b t ih =>
    cases i with
    | zero =>
      simp at hv
      subst hv
      simp
    | succ k =>
      simp at hi hv
      have := ih hi hv
      simp only [List.set_cons_succ, List.count_cons]
      omega

theorem wpAny_inv {P : Program} {ops : Array Oper} {Q : Exit → Act → World → Prop} (I : Array Bool → Act → World → Prop) (he : elder ops = true)
    (hstep : ∀ (i : Nat) (o : Oper), ops[i]? = some o → ∀ L a w, L.size = ops.size → I L a w → L.getD i true = false → (∀ e ∈ o.after, Region.binds .any e = true → L.getD e.on false = true) →
      wpOp P ops Q i (I (L.setIfInBounds i true)) a w)
    (hend : ∀ L a w, I L a w → (∀ i, i < ops.size → L.getD i false = true) → Q .normal a w) :
    ∀ (fuel : Nat) (L : Array Bool) (a : Act) (w : World), L.size = ops.size → openN L ≤ fuel → I L a w → wpAny P .any ops Q fuel L a w := by
  intro fuel
  induction fuel with
  | zero =>
    intro L a w hs hn h
    have hz : ∀ i, i < ops.size → L.getD i false = true := by
      intro i hi
      rcases hb : L.getD i false with _ | _
      · have hL : L.getD i true = false := by
          have : i < L.size := by omega
          simp [this] at hb ⊢
          exact hb
        have := openN_set hL
        omega
      · rfl
    refine ⟨?_, hend L a w h hz⟩
    rcases hr : Region.ready .any ops L with _ | ⟨x, xs⟩
    · rfl
    · have hx : x ∈ Region.ready .any ops L := by rw [hr]; simp
      obtain ⟨h0, o, ho, _⟩ := mem_ready.1 hx
      have hi := (Array.getElem?_eq_some_iff.1 ho).1
      have := hz x hi
      have hL : x < L.size := by omega
      simp [hL] at h0 this
      rw [this] at h0; cases h0
  | succ fuel ih =>
    intro L a w hs hn h
    refine ⟨fun hr => hend L a w h (ready_nil he hs hr), fun i hi => ?_⟩
    obtain ⟨h0, o, ho, hall⟩ := mem_ready.1 hi
    refine wpOp_mono (fun a' w' h' => ih _ a' w' (by rw [Array.size_setIfInBounds]; exact hs) ?_ h') (hstep i o ho L a w hs h h0 hall)
    have := openN_set h0
    omega

/-- a region that draws its order: what I says holds of every set that has come up -/
theorem wp_region_inv {P : Program} {id : Nat} {ops : Array Oper} {Q : Exit → Act → World → Prop} {a : Act} {w : World} (I : Array Bool → Act → World → Prop) (hm : P.follows .mixedOrders = true) (he : elder ops = true)
    (h0 : I (Array.replicate ops.size false) a w.drew)
    (hstep : ∀ (i : Nat) (o : Oper), ops[i]? = some o → ∀ L a w, L.size = ops.size → I L a w → L.getD i true = false → (∀ e ∈ o.after, Region.binds .any e = true → L.getD e.on false = true) →
      wpOp P ops Q i (I (L.setIfInBounds i true)) a w)
    (hend : ∀ L a w, I L a w → (∀ i, i < ops.size → L.getD i false = true) → Q .normal a w) : (Code.region id ops true).wp P Q a w :=
  wp_region_any hm (wpAny_inv I he hstep hend ops.size _ a _ (Array.size_replicate) (by unfold openN; rw [Array.toList_replicate, List.count_replicate]; split <;> omega) h0)

/-- the place of operation j holds v -/
def Has (ops : Array Oper) (a : Act) (j : Nat) (v : Value) : Prop := ∀ d, (ops[j]?).bind (·.dst) = some d → a.tmps[d]? = some v
/-- no two operations write one place -/
def apartB (ops : Array Oper) : Bool := (List.range ops.size).all fun i => (List.range ops.size).all fun j => i == j || ((ops[i]?).bind (·.dst)).isNone || (ops[i]?).bind (·.dst) != (ops[j]?).bind (·.dst)
theorem apartB_ne {ops : Array Oper} (h : apartB ops = true) {i j : Nat} {d : Tmp} (hij : i ≠ j) (hi : (ops[i]?).bind (·.dst) = some d) : (ops[j]?).bind (·.dst) ≠ some d := by
  intro hj
  have li : i < ops.size := by
    rcases Nat.lt_or_ge i ops.size with q | q
    · exact q
    · rw [Array.getElem?_eq_none q] at hi; cases hi
  have lj : j < ops.size := by
    rcases Nat.lt_or_ge j ops.size with q | q
    · exact q
    · rw [Array.getElem?_eq_none q] at hj; cases hj
  have h1 := List.all_eq_true.1 (List.all_eq_true.1 h i (List.mem_range.2 li)) j (List.mem_range.2 lj)
  rw [hi, hj] at h1
  simp [hij] at h1
theorem Has.ne {ops : Array Oper} (h : apartB ops = true) {i j : Nat} {o : Oper} {a : Act} {u v : Value} (ho : ops[i]? = some o) (hij : i ≠ j) (hh : Has ops a j u) : Has ops (a.put o.dst v) j u := by
  intro d hd
  rcases hod : o.dst with _ | e
  · exact hh d hd
  · have hne : e ≠ d := by
      rintro rfl
      exact apartB_ne h hij (by rw [ho]; exact hod) hd
    show (a.tmps.setIfInBounds e v)[d]? = some u
    rw [Array.getElem?_setIfInBounds_ne hne]
    exact hh d hd
theorem Has.put {ops : Array Oper} {i : Nat} {o : Oper} {a : Act} {v : Value} (ho : ops[i]? = some o) (hl : ∀ d, o.dst = some d → d < a.tmps.size) : Has ops (a.put o.dst v) i v := by
  intro d hd
  rw [ho] at hd
  have hd' : o.dst = some d := hd
  rw [hd']
  show (a.tmps.setIfInBounds d v)[d]? = some v
  rw [Array.getElem?_setIfInBounds_self]
  simp [hl d hd']
/-- what no operation writes is as it was -/
def Rest (ops : Array Oper) (base : Array Value) (a : Act) : Prop := a.defers = [] ∧ a.tmps.size = base.size ∧ ∀ k, (ops.all fun o => o.dst != some k) = true → a.tmps[k]? = base[k]?
theorem Rest.put {ops : Array Oper} {base : Array Value} {a : Act} {i : Nat} {o : Oper} (ho : ops[i]? = some o) (h : Rest ops base a) (v : Value) : Rest ops base (a.put o.dst v) := by
  rcases hod : o.dst with _ | e
  · exact h
  · refine ⟨h.1, ?_, fun k hk => ?_⟩
    · show (a.tmps.setIfInBounds e v).size = _
      rw [Array.size_setIfInBounds]; exact h.2.1
    · have hne : e ≠ k := by
        rintro rfl
        have := Array.all_eq_true_iff_forall_mem.1 hk o (Array.mem_of_getElem? ho)
        rw [hod] at this
        simp at this
      show (a.tmps.setIfInBounds e v)[k]? = _
      rw [Array.getElem?_setIfInBounds_ne hne]
      exact h.2.2 k hk


theorem wpOp_one {P : Program} {ops : Array Oper} {Q : Exit → Act → World → Prop} {i : Nat} {o : Oper} {K : Act → World → Prop} {a : Act} {w : World} (ho : ops[i]? = some o) (hg : o.guard = none) (h : o.wp P a w K Q) : wpOp P ops Q i K a w := by
  unfold wpOp
  simp only [ho]
  have hw : Region.wanted o (yielded ops a.tmps) = true := by simp [Region.wanted, hg]
  rw [if_pos hw]
  exact .inl h
theorem wp_val {P : Program} {Q : Exit → Act → World → Prop} {o : Oper} {K : Act → World → Prop} {a : Act} {w w' : World} {v : Value} (hr : (execOp a.eval o).run P w = .ok (.value v) w') (h : K (a.put o.dst v) w') : o.wp P a w K Q := by
  unfold Oper.wp
  rw [hr]
  exact h
theorem wp_skip {P : Program} {Q : Exit → Act → World → Prop} {o : Oper} {K : Act → World → Prop} {a : Act} {w w' : World} (hr : (execOp a.eval o).run P w = .ok .skip w') (h : K (a.put o.dst undef) w') : o.wp P a w K Q := by
  unfold Oper.wp
  rw [hr]
  exact h
theorem wp_enter {P : Program} {Q : Exit → Act → World → Prop} {o : Oper} {K : Act → World → Prop} {a : Act} {w w' : World} {f : FuncId} {args : Array Value} (hr : (execOp a.eval o).run P w = .ok (.enter f args) w') (h : Calls P f args w' fun e w2 => ∃ v, e = .returned v ∧ K (a.put o.dst v) w2) : o.wp P a w K Q := by
  unfold Oper.wp
  rw [hr, Oper.upon_enter]
  refine h.mono ?_
  rintro e w2 ⟨v, rfl, hk⟩
  exact hk
theorem eval_tmp {a : Act} {d : Tmp} {v : Value} (h : a.tmps[d]? = some v) : a.eval (.tmp d) = v := by
  show a.tmps.getD d undef = v
  rw [Array.getD_eq_getD_getElem?, h]; rfl
/-- all places are in the frame -/
def inside (ops : Array Oper) (n : Nat) : Bool := ops.all fun o => match o.dst with
  | some d => decide (d < n)
  | none => true
theorem inside_lt {ops : Array Oper} {n i : Nat} {o : Oper} {d : Tmp} (h : inside ops n = true) (ho : ops[i]? = some o) (hd : o.dst = some d) : d < n := by
  have h1 := Array.all_eq_true_iff_forall_mem.1 h o (Array.mem_of_getElem? ho)
  rw [hd] at h1
  simpa using h1

/-- o waits for number k -/
def waits (o : Oper) (k : Nat) : Bool := o.after.any fun e => Region.binds .any e && e.on == k
theorem waits_in {o : Oper} {k : Nat} {L : Array Bool} (h : waits o k = true) (hd : ∀ e ∈ o.after, Region.binds .any e = true → L.getD e.on false = true) : L.getD k false = true := by
  obtain ⟨e, he, hb⟩ := Array.any_eq_true'.1 h
  simp only [Bool.and_eq_true, beq_iff_eq] at hb
  rw [← hb.2]
  exact hd e he hb.1
theorem on_set {L : Array Bool} {i j : Nat} (h : (L.setIfInBounds i true).getD j false = true) : j = i ∨ L.getD j false = true := by
  by_cases e : i = j
  · exact .inl e.symm
  · rw [getD_set_ne false e] at h; exact .inr h
theorem on_true {L : Array Bool} {i : Nat} (h : L.getD i false = true) : L.getD i true = true := by
  rw [Array.getD_eq_getD_getElem?] at h ⊢
  cases hq : L[i]? with
  | none => rfl
  | some x => rw [hq] at h; simpa using h
/-- the operations write these places alone -/
def into (ops : Array Oper) (ds : List Nat) : Bool := ops.all fun o => match o.dst with
  | some d => ds.contains d
  | none => true
theorem vals_put {ops : Array Oper} {val : Nat → Option Value} {L : Array Bool} {a : Act} {i : Nat} {o : Oper} {v : Value} (h : ∀ j v, val j = some v → L.getD j false = true → Has ops a j v) (ap : apartB ops = true) (ho : ops[i]? = some o) (hl : ∀ d, o.dst = some d → d < a.tmps.size) (hv : ∀ u, val i = some u → u = v) :
    ∀ j u, val j = some u → (L.setIfInBounds i true).getD j false = true → Has ops (a.put o.dst v) j u := by
  intro j u hj hL
  by_cases e : i = j
  · subst e; rw [hv u hj]; exact Has.put ho hl
  · exact (h j u hj ((on_set hL).resolve_left (Ne.symm e))).ne ap ho e
theorem set_on {L : Array Bool} {i : Nat} (h : i < L.size) : (L.setIfInBounds i true).getD i false = true := by
  rw [Array.getD_eq_getD_getElem?, Array.getElem?_setIfInBounds_self, if_pos h]; rfl
theorem off_of {L : Array Bool} {i : Nat} (h : L.getD i true = false) : L.getD i false = false := by
  rcases hz : L.getD i false with _ | _
  · rfl
  · rw [on_true hz] at h; cases h
theorem Has.only {ops : Array Oper} {a : Act} {j : Nat} {o : Oper} {d : Tmp} {v : Value} (ho : ops[j]? = some o) (hd : o.dst = some d) (h : Has ops a j v) : a.eval (.tmp d) = v := eval_tmp (h d (by rw [ho]; exact hd))

theorem run_move {a : Act} {w : World} {o : Oper} {x : Operand} {v : Value} (hop : o.op = .move x) (hx : a.eval x = v) : (execOp a.eval o).run Tryd.prog w = .ok (.value v) w := by
  simp only [execOp, hop, hx]
  rfl
theorem run_extract {a : Act} {w : World} {o : Oper} {x : Operand} {i : Nat} {vs : Array Value} {v : Value} (hop : o.op = .extract x i) (hx : a.eval x = .tuple vs) (hv : vs[i]? = some v) : (execOp a.eval o).run Tryd.prog w = .ok (.value v) w := by
  simp only [execOp, hop, hx]
  simp only [Instr.extract, hv]
  rfl

/-- the frame written out: base, and behind it what was written -/
theorem frame_of {T : Array Value} : ∀ (ds : List Nat) (base : Array Value), T.size = base.size → (∀ k, k ∉ ds → T[k]? = base[k]?) → T = ds.foldl (fun b d => b.setIfInBounds d (T.getD d undef)) base := by
  intro ds
  induction ds with
  | nil => intro base _ h; exact Array.ext_getElem? fun k => h k (by simp)
  | cons d ds ih =>
    intro base hs h
    rw [List.foldl_cons]
    refine ih _ (by rw [Array.size_setIfInBounds]; exact hs) (fun k hk => ?_)
    by_cases e : d = k
    · subst e
      rw [Array.getElem?_setIfInBounds_self]
      rcases Nat.lt_or_ge d T.size with q | q
      · rw [if_pos (by omega), Array.getD_eq_getD_getElem?, Array.getElem?_eq_getElem q]; rfl
      · rw [if_neg (by omega), Array.getElem?_eq_none q]
    · rw [Array.getElem?_setIfInBounds_ne e]
      exact h k (by simp [hk, Ne.symm e])
theorem into_not {ops : Array Oper} {ds : List Nat} (h : into ops ds = true) {k : Nat} (hk : k ∉ ds) : (ops.all fun o => o.dst != some k) = true := by
  rw [Array.all_eq_true_iff_forall_mem]
  intro o ho
  have h1 := Array.all_eq_true_iff_forall_mem.1 h o ho
  rcases hd : o.dst with _ | d
  · rfl
  · rw [hd] at h1
    have h2 : d ∈ ds := by simpa using h1
    have : d ≠ k := by rintro rfl; exact hk h2
    simpa using this
theorem Rest.lit {ops : Array Oper} {base : Array Value} {a : Act} (h : Rest ops base a) {ds : List Nat} (hi : into ops ds = true) : a = ⟨ds.foldl (fun b d => b.setIfInBounds d (a.tmps.getD d undef)) base, []⟩ := by
  have h1 := frame_of ds base h.2.1 (fun k hk => h.2.2 k (into_not hi hk))
  rcases a with ⟨T, D⟩
  have h2 : D = [] := h.1
  subst h2
  rw [← h1]

theorem set_other {L : Array Bool} {i j : Nat} (h : i ≠ j) (b : Bool) : (L.setIfInBounds i b).getD j false = L.getD j false := by
  rw [Array.getD_eq_getD_getElem?, Array.getD_eq_getD_getElem?, Array.getElem?_setIfInBounds_ne h]
/-- a region that draws its order, each of whose values is known; one operation turns the memory that is told of -/
theorem region_vals {ops : Array Oper} {base : Array Value} {val : Nat → Value} {id : Nat} {Q : Exit → Act → World → Prop} {W : World} (R : Bool → World → Prop) (last : Nat)
    (he : elder ops = true) (ap : apartB ops = true) (hr : inside ops base.size = true) (h0 : R false W.drew) (hlastB : decide (last < ops.size) = true)
    (hop : ∀ (i : Nat) (o : Oper), ops[i]? = some o → ∀ b a w, R b w → Rest ops base a → (∀ j, waits o j = true → Has ops a j (val j)) → (i = last → b = false) →
      ∀ K : Act → World → Prop, (∀ w', R (b || i == last) w' → K (a.put o.dst (val i)) w') → wpOp Tryd.prog ops Q i K a w)
    (ds : List Nat) (hds : into ops ds = true)
    (hend : ∀ (us : Nat → Value) w, R true w → Q .normal ⟨ds.foldl (fun b d => b.setIfInBounds d (us d)) base, []⟩ w) :
    (Code.region id ops true).wp Tryd.prog Q ⟨base, []⟩ W := by
  have hlast := of_decide_eq_true hlastB
  refine wp_region_inv (fun L a w => Rest ops base a ∧ (∀ j, L.getD j false = true → Has ops a j (val j)) ∧ R (L.getD last false) w) (by kernel_rfl) he ?_ ?_ ?_
  · have hno : ∀ j, (Array.replicate ops.size false).getD j false = false := by
      intro j
      rw [Array.getD_eq_getD_getElem?, Array.getElem?_replicate]
      split <;> rfl
    refine ⟨⟨rfl, rfl, fun _ _ => rfl⟩, ?_, ?_⟩
    · intro j hj; rw [hno j] at hj; cases hj
    · rw [hno last]; exact h0
  · intro i o ho L a w hs ⟨h1, h2, h3⟩ hL hd
    have hl : ∀ d, o.dst = some d → d < a.tmps.size := fun d hd' => by rw [h1.2.1]; exact inside_lt hr ho hd'
    have hLi : i < L.size := by rw [hs]; exact (Array.getElem?_eq_some_iff.1 ho).1
    refine hop i o ho _ a w h3 h1 (fun j hj => h2 j (waits_in hj hd)) (fun e => by subst e; exact off_of hL) _ fun w' hw' => ⟨h1.put ho _, fun j hj => ?_, ?_⟩
    · by_cases e : i = j
      · subst e; exact Has.put ho hl
      · rw [set_other e] at hj; exact (h2 j hj).ne ap ho e
    · by_cases e : i = last
      · subst e
        rw [set_on hLi]
        have := off_of hL
        rw [this] at hw'
        simpa using hw'
      · rw [set_other e]
        have : (i == last) = false := by simpa using e
        rw [this, Bool.or_false] at hw'
        exact hw'
  · intro L a w ⟨h1, h2, h3⟩ hall
    rw [hall last hlast] at h3
    rw [h1.lit hds]
    exact hend (fun d => a.tmps.getD d undef) w h3
theorem yielded_has {ops : Array Oper} {a : Act} {g : Nat} {c : Bool} {d : Tmp} (hd : (ops[g]?).bind (·.dst) = some d) (h : Has ops a g (.bool c)) : yielded ops a.tmps g = some c := by
  unfold yielded
  rw [hd, Option.bind_some, h d hd]
theorem wpOp_on {ops : Array Oper} {Q : Exit → Act → World → Prop} {i g : Nat} {c : Bool} {o : Oper} {a : Act} {w : World} {d : Tmp} {K : Act → World → Prop} (ho : ops[i]? = some o) (hg : o.guard = some (g, c)) (hd : (ops[g]?).bind (·.dst) = some d) (h : Has ops a g (.bool c)) (hw : o.wp Tryd.prog a w K Q) : wpOp Tryd.prog ops Q i K a w := by
  unfold wpOp
  simp only [ho]
  have hwd : Region.wanted o (yielded ops a.tmps) = true := by
    unfold Region.wanted
    rw [hg]
    simp only []
    rw [yielded_has hd h]
    simp
  rw [if_pos hwd]
  exact .inl hw
theorem wpOp_off {ops : Array Oper} {Q : Exit → Act → World → Prop} {i g : Nat} {c c' : Bool} {o : Oper} {a : Act} {w : World} {d : Tmp} {K : Act → World → Prop} (ho : ops[i]? = some o) (hg : o.guard = some (g, c)) (hd : (ops[g]?).bind (·.dst) = some d) (h : Has ops a g (.bool c')) (hn : (c' == c) = false) (hk : K (a.put o.dst undef) w) : wpOp Tryd.prog ops Q i K a w := by
  unfold wpOp
  simp only [ho]
  have hwd : Region.wanted o (yielded ops a.tmps) = false := by
    unfold Region.wanted
    rw [hg]
    simp only []
    rw [yielded_has hd h]
    simpa using hn
  rw [hwd]
  exact hk
end Go.Proofs.YtmlhibcbgdhadaaDoor
