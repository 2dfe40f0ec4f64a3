/- A drawn region by an invariant of what has come up. -/
import Derived.Test.YtdinlaoimpoolaaMemAll
namespace Go.Proofs.Ytdinlaoimpoolaa
open Go.RowKit

/-- each waits for elder ones alone -/
def elder (ops : Array Oper) : Bool := (List.range ops.size).all fun i => match ops[i]? with
  | some o => o.after.all fun e => !Region.binds .any e || decide (e.on < i)
  | none => true

theorem ready_nil {ops : Array Oper} (he : elder ops = true) {L : Array Bool} (hs : L.size = ops.size) (h : Region.ready .any ops L = []) : ∀ i, i < ops.size → L.getD i false = true := by
  intro i
  induction i using Nat.strongRecOn with
  | _ i ih =>
    intro hi
    rcases hb : L.getD i false with _ | _
    · exfalso
      have hin : i ∈ Region.ready .any ops L := by
        rw [mem_ready]
        have hL : L.getD i true = false := by
          have : i < L.size := by omega
          simp [this] at hb ⊢
          exact hb
        obtain ⟨o, ho⟩ : ∃ o, ops[i]? = some o := ⟨_, Array.getElem?_eq_getElem hi⟩
        refine ⟨hL, o, ho, fun e hm hbd => ?_⟩
        have h1 := List.all_eq_true.1 he i (List.mem_range.2 hi)
        rw [ho] at h1
        have h2 := Array.all_eq_true_iff_forall_mem.1 h1 e hm
        rw [hbd] at h2
        have h3 : e.on < i := by simpa using h2
        exact ih e.on h3 (by omega)
      rw [h] at hin
      exact absurd hin (by simp)
    · rfl

/-- how many are open -/
def openN (L : Array Bool) : Nat := L.toList.count false
theorem openN_set {L : Array Bool} {i : Nat} (h : L.getD i true = false) : openN (L.setIfInBounds i true) + 1 = openN L := by
  unfold openN
  rcases L with ⟨l⟩
  simp only [List.setIfInBounds_toArray]
  have hi : i < l.length := by
    rcases Nat.lt_or_ge i l.length with q | q
    · exact q
    · simp [q] at h
  have hv : l[i] = false := by simpa [hi] using h
  clear h
  induction l generalizing i with
  | nil => simp at hi
  | cons b t ih =>
    cases i with
    | zero =>
      simp at hv
      subst hv
      simp
    | succ k =>
      simp at hi hv
      have := ih hi hv
      simp only [List.set_cons_succ, List.count_cons]
      omega

theorem wpAny_inv {P : Program} {ops : Array Oper} {Q : Exit → Act → World → Prop} (I : Array Bool → Act → World → Prop) (he : elder ops = true)
    (hstep : ∀ (i : Nat) (o : Oper), ops[i]? = some o → ∀ L a w, L.size = ops.size → I L a w → L.getD i true = false → (∀ e ∈ o.after, Region.binds .any e = true → L.getD e.on false = true) →
      wpOp P ops Q i (I (L.setIfInBounds i true)) a w)
    (hend : ∀ L a w, I L a w → (∀ i, i < ops.size → L.getD i false = true) → Q .normal a w) :
    ∀ (fuel : Nat) (L : Array Bool) (a : Act) (w : World), L.size = ops.size → openN L ≤ fuel → I L a w → wpAny P .any ops Q fuel L a w := by
  intro fuel
  induction fuel with
  | zero =>
    intro L a w hs hn h
    have hz : ∀ i, i < ops.size → L.getD i false = true := by
      intro i hi
      rcases hb : L.getD i false with _ | _
      · have hL : L.getD i true = false := by
          have : i < L.size := by omega
          simp [this] at hb ⊢
          exact hb
        have := openN_set hL
        omega
      · rfl
    refine ⟨?_, hend L a w h hz⟩
    rcases hr : Region.ready .any ops L with _ | ⟨x, xs⟩
    · rfl
    · have hx : x ∈ Region.ready .any ops L := by rw [hr]; simp
      obtain ⟨h0, o, ho, _⟩ := mem_ready.1 hx
      have hi := (Array.getElem?_eq_some_iff.1 ho).1
      have := hz x hi
      have hL : x < L.size := by omega
      simp [hL] at h0 this
      rw [this] at h0; cases h0
  | succ fuel ih =>
    intro L a w hs hn h
    refine ⟨fun hr => hend L a w h (ready_nil he hs hr), fun i hi => ?_⟩
    obtain ⟨h0, o, ho, hall⟩ := mem_ready.1 hi
    refine wpOp_mono (fun a' w' h' => ih _ a' w' (by rw [Array.size_setIfInBounds]; exact hs) ?_ h') (hstep i o ho L a w hs h h0 hall)
    have := openN_set h0
    omega

/-- a region that draws its order: what I says holds of every set that has come up -/
theorem wp_region_inv {P : Program} {id : Nat} {ops : Array Oper} {Q : Exit → Act → World → Prop} {a : Act} {w : World} (I : Array Bool → Act → World → Prop) (hm : P.follows .mixedOrders = true) (he : elder ops = true)
    (h0 : I (Array.replicate ops.size false) a w.drew)
    (hstep : ∀ (i : Nat) (o : Oper), ops[i]? = some o → ∀ L a w, L.size = ops.size → I L a w → L.getD i true = false → (∀ e ∈ o.after, Region.binds .any e = true → L.getD e.on false = true) →
      wpOp P ops Q i (I (L.setIfInBounds i true)) a w)
    (hend : ∀ L a w, I L a w → (∀ i, i < ops.size → L.getD i false = true) → Q .normal a w) : (Code.region id ops true).wp P Q a w :=
  wp_region_any hm (wpAny_inv I he hstep hend ops.size _ a _ (Array.size_replicate) (by unfold openN; rw [Array.toList_replicate, List.count_replicate]; split <;> omega) h0)

/-- the place of operation j holds v -/
def Has (ops : Array Oper) (a : Act) (j : Nat) (v : Value) : Prop := ∀ d, (ops[j]?).bind (·.dst) = some d → a.tmps[d]? = some v
/-- no two operations write one place -/
def apartB (ops : Array Oper) : Bool := (List.range ops.size).all fun i => (List.range ops.size).all fun j => i == j || ((ops[i]?).bind (·.dst)).isNone || (ops[i]?).bind (·.dst) != (ops[j]?).bind (·.dst)
theorem apartB_ne {ops : Array Oper} (h : apartB ops = true) {i j : Nat} {d : Tmp} (hij : i ≠ j) (hi : (ops[i]?).bind (·.dst) = some d) : (ops[j]?).bind (·.dst) ≠ some d := by
  intro hj
  have li : i < ops.size := by
    rcases Nat.lt_or_ge i ops.size with q | q
    · exact q
    · rw [Array.getElem?_eq_none q] at hi; cases hi
  have lj : j < ops.size := by
    rcases Nat.lt_or_ge j ops.size with q | q
    · exact q
    · rw [Array.getElem?_eq_none q] at hj; cases hj
  have h1 := List.all_eq_true.1 (List.all_eq_true.1 h i (List.mem_range.2 li)) j (List.mem_range.2 lj)
  rw [hi, hj] at h1
  simp [hij] at h1
theorem Has.ne {ops : Array Oper} (h : apartB ops = true) {i j : Nat} {o : Oper} {a : Act} {u v : Value} (ho : ops[i]? = some o) (hij : i ≠ j) (hh : Has ops a j u) : Has ops (a.put o.dst v) j u := by
  intro d hd
  rcases hod : o.dst with _ | e
  · exact hh d hd
  · have hne : e ≠ d := by
      rintro rfl
      exact apartB_ne h hij (by rw [ho]; exact hod) hd
    show (a.tmps.setIfInBounds e v)[d]? = some u
    rw [Array.getElem?_setIfInBounds_ne hne]
    exact hh d hd
theorem Has.put {ops : Array Oper} {i : Nat} {o : Oper} {a : Act} {v : Value} (ho : ops[i]? = some o) (hl : ∀ d, o.dst = some d → d < a.tmps.size) : Has ops (a.put o.dst v) i v := by
  intro d hd
  rw [ho] at hd
  have hd' : o.dst = some d := hd
  rw [hd']
  show (a.tmps.setIfInBounds d v)[d]? = some v
  rw [Array.getElem?_setIfInBounds_self]
  simp [hl d hd']
/-- what no operation writes is as it was -/
def Rest (ops : Array Oper) (base : Array Value) (a : Act) : Prop := a.defers = [] ∧ a.tmps.size = base.size ∧ ∀ k, (ops.all fun o => o.dst != some k) = true → a.tmps[k]? = base[k]?
theorem Rest.put {ops : Array Oper} {base : Array Value} {a : Act} {i : Nat} {o : Oper} (ho : ops[i]? = some o) (h : Rest ops base a) (v : Value) : Rest ops base (a.put o.dst v) := by
  rcases hod : o.dst with _ | e
  · exact h
  · refine ⟨h.1, ?_, fun k hk => ?_⟩
    · show (a.tmps.setIfInBounds e v).size = _
      rw [Array.size_setIfInBounds]; exact h.2.1
    · have hne : e ≠ k := by
        rintro rfl
        have := Array.all_eq_true_iff_forall_mem.1 hk o (Array.mem_of_getElem? ho)
        rw [hod] at this
        simp at this
      show (a.tmps.setIfInBounds e v)[k]? = _
      rw [Array.getElem?_setIfInBounds_ne hne]
      exact h.2.2 k hk
end Go.Proofs.Ytdinlaoimpoolaa
