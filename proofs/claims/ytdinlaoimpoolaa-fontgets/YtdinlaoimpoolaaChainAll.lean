/- Two new rows for what Get told of a text, by a great meter, in whatever order. -/
import Derived.Test.YtdinlaoimpoolaaDraws
import Derived.Test.YtdinlaoimpoolaaTurnFacts
namespace Go.Proofs.Ytdinlaoimpoolaa
open Go.RowKit

theorem wpOp_one {P : Program} {ops : Array Oper} {Q : Exit → Act → World → Prop} {i : Nat} {o : Oper} {K : Act → World → Prop} {a : Act} {w : World} (ho : ops[i]? = some o) (hg : o.guard = none) (h : o.wp P a w K Q) : wpOp P ops Q i K a w := by
  unfold wpOp
  simp only [ho]
  have hw : Region.wanted o (yielded ops a.tmps) = true := by simp [Region.wanted, hg]
  rw [if_pos hw]
  exact .inl h
theorem wp_val {P : Program} {Q : Exit → Act → World → Prop} {o : Oper} {K : Act → World → Prop} {a : Act} {w w' : World} {v : Value} (hr : (execOp a.eval o).run P w = .ok (.value v) w') (h : K (a.put o.dst v) w') : o.wp P a w K Q := by
  unfold Oper.wp
  rw [hr]
  exact h
theorem wp_skip {P : Program} {Q : Exit → Act → World → Prop} {o : Oper} {K : Act → World → Prop} {a : Act} {w w' : World} (hr : (execOp a.eval o).run P w = .ok .skip w') (h : K (a.put o.dst undef) w') : o.wp P a w K Q := by
  unfold Oper.wp
  rw [hr]
  exact h
theorem wp_enter {P : Program} {Q : Exit → Act → World → Prop} {o : Oper} {K : Act → World → Prop} {a : Act} {w w' : World} {f : FuncId} {args : Array Value} (hr : (execOp a.eval o).run P w = .ok (.enter f args) w') (h : Calls P f args w' fun e w2 => ∃ v, e = .returned v ∧ K (a.put o.dst v) w2) : o.wp P a w K Q := by
  unfold Oper.wp
  rw [hr, Oper.upon_enter]
  refine h.mono ?_
  rintro e w2 ⟨v, rfl, hk⟩
  exact hk
theorem run_call19 {a : Act} {w : World} {o : Oper} (hop : o.op = .call { callee := .value (.func 19), args := #[], argTypes := #[] }) : (execOp a.eval o).run Try.prog w = .ok (.enter 19 #[]) w := by
  simp only [execOp, hop]
  go_simp
theorem run_call15 {a : Act} {w : World} {o : Oper} {x y : Operand} (hop : o.op = .call { callee := .value (.func 15), args := #[x, y], argTypes := #[37, 9] }) : (execOp a.eval o).run Try.prog w = .ok (.enter 15 #[a.eval x, a.eval y]) w := by
  simp only [execOp, hop]
  go_simp
theorem eval_tmp {a : Act} {d : Tmp} {v : Value} (h : a.tmps[d]? = some v) : a.eval (.tmp d) = v := by
  show a.tmps.getD d undef = v
  rw [Array.getD_eq_getD_getElem?, h]; rfl
theorem run_alloc25 {a : Act} {w : World} {o : Oper} (hop : o.op = .alloc 25) : (execOp a.eval o).run Try.prog w = .ok (.value (.pointer (some ⟨w.heap.size, 0, none⟩))) (w.alloc (.cells #[.int .i64 0, .slice none 0 0, .slice none 0 0] 25)) := by
  simp only [execOp, hop]
  go_simp
theorem run_alloc44 {a : Act} {w : World} {o : Oper} (hop : o.op = .alloc 44) : (execOp a.eval o).run Try.prog w = .ok (.value (.pointer (some ⟨w.heap.size, 0, none⟩))) (w.alloc (.cells #[.int .i64 0, .int .i64 0] 44)) := by
  simp only [execOp, hop]
  go_simp
theorem run_store25 {a : Act} {w : World} {o : Oper} {p x : Operand} {b : Nat} {c0 c1 c2 : Value} (hop : o.op = .store 25 p x) (hp : a.eval p = .pointer (some ⟨b, 0, none⟩)) (hx : a.eval x = .agg #[.int .i64 0, .slice none 0 0, .slice none 0 0]) (hb : Blk w b [c0, c1, c2] 25) :
    (execOp a.eval o).run Try.prog w = .ok .skip (((w.setCell ⟨b, 0, none⟩ (.int .i64 0)).setCell ⟨b, 1, none⟩ (.slice none 0 0)).setCell ⟨b, 2, none⟩ (.slice none 0 0)) := by
  have k0 : w.cell? ⟨b, 0, none⟩ = some c0 := hb.cell 0
  have k1 : w.cell? ⟨b, 1, none⟩ = some c1 := hb.cell 1
  have k2 : w.cell? ⟨b, 2, none⟩ = some c2 := hb.cell 2
  have f0 : w.frozen? ⟨b, 0, none⟩ = false := hb.froz 0
  have f1 : w.frozen? ⟨b, 1, none⟩ = false := hb.froz 1
  have f2 : w.frozen? ⟨b, 2, none⟩ = false := hb.froz 2
  simp only [execOp, hop, hp, hx]
  go_simp
theorem run_store44 {a : Act} {w : World} {o : Oper} {p x : Operand} {b : Nat} {c0 c1 : Value} {k n : Int} (hop : o.op = .store 44 p x) (hp : a.eval p = .pointer (some ⟨b, 0, none⟩)) (hx : a.eval x = .agg #[.int .i64 k, .int .i64 n]) (hb : Blk w b [c0, c1] 44) :
    (execOp a.eval o).run Try.prog w = .ok .skip ((w.setCell ⟨b, 0, none⟩ (.int .i64 k)).setCell ⟨b, 1, none⟩ (.int .i64 n)) := by
  have k0 : w.cell? ⟨b, 0, none⟩ = some c0 := hb.cell 0
  have k1 : w.cell? ⟨b, 1, none⟩ = some c1 := hb.cell 1
  have f0 : w.frozen? ⟨b, 0, none⟩ = false := hb.froz 0
  have f1 : w.frozen? ⟨b, 1, none⟩ = false := hb.froz 1
  simp only [execOp, hop, hp, hx]
  go_simp

/-- o waits for number k -/
def waits (o : Oper) (k : Nat) : Bool := o.after.any fun e => Region.binds .any e && e.on == k
theorem waits_in {o : Oper} {k : Nat} {L : Array Bool} (h : waits o k = true) (hd : ∀ e ∈ o.after, Region.binds .any e = true → L.getD e.on false = true) : L.getD k false = true := by
  obtain ⟨e, he, hb⟩ := Array.any_eq_true'.1 h
  simp only [Bool.and_eq_true, beq_iff_eq] at hb
  rw [← hb.2]
  exact hd e he hb.1
theorem on_set {L : Array Bool} {i j : Nat} (h : (L.setIfInBounds i true).getD j false = true) : j = i ∨ L.getD j false = true := by
  by_cases e : i = j
  · exact .inl e.symm
  · rw [getD_set_ne false e] at h; exact .inr h
theorem on_true {L : Array Bool} {i : Nat} (h : L.getD i false = true) : L.getD i true = true := by
  rw [Array.getD_eq_getD_getElem?] at h ⊢
  cases hq : L[i]? with
  | none => rfl
  | some x => rw [hq] at h; simpa using h
theorem off_set {L : Array Bool} {i j : Nat} (h : (L.setIfInBounds i true).getD j false = false) : L.getD j false = false := by
  rcases hb : L.getD j false with _ | _
  · rfl
  · rw [getD_set_true hb] at h; cases h

/-- who does what -/
structure Roles where
  ops : Array Oper
  base : Array Value
  g : Nat
  t : Nat
  ia : Nat
  ib : Nat
  sa : Nat
  sb : Nat
  val : Nat → Option Value
  W : World
  x : Int × Nat

/-- what holds of every set that has come up -/
structure Two (R : Roles) (L : Array Bool) (a : Act) (w : World) : Prop where
  bel : Below R.W.heap.size R.W w
  rest : Rest R.ops R.base a
  vals : ∀ j v, R.val j = some v → L.getD j false = true → Has R.ops a j v
  gr : L.getD R.g false = true → ∃ m, Has R.ops a R.g (.pointer (some ⟨m, 0, none⟩)) ∧ R.W.heap.size ≤ m ∧ (L.getD R.t false = false → Blk w m MG.cells 72)
  ra : L.getD R.ia false = true → ∃ b c0 c1 c2, Has R.ops a R.ia (.pointer (some ⟨b, 0, none⟩)) ∧ R.W.heap.size ≤ b ∧ Blk w b [c0, c1, c2] 25
  rb : L.getD R.ib false = true → ∃ b c0 c1, Has R.ops a R.ib (.pointer (some ⟨b, 0, none⟩)) ∧ R.W.heap.size ≤ b ∧ Blk w b [c0, c1] 44 ∧ (L.getD R.sb false = true → c0 = .int .i64 R.x.1 ∧ c1 = .int .i64 (R.x.2 : Int))
  ord : L.getD R.sb false = true → L.getD R.ib false = true

theorem blk_ne {w : World} {b c : Nat} {xs ys : List Value} {t s : TypeId} (h : Blk w b xs t) (k : Blk w c ys s) (hts : t ≠ s) : b ≠ c := by
  rintro rfl
  exact hts (h.same k).2
theorem Has.only {ops : Array Oper} {a : Act} {j : Nat} {o : Oper} {d : Tmp} {v : Value} (ho : ops[j]? = some o) (hd : o.dst = some d) (h : Has ops a j v) : a.eval (.tmp d) = v := eval_tmp (h d (by rw [ho]; exact hd))
theorem Two.vals' {R : Roles} {L : Array Bool} {a : Act} {w : World} {i : Nat} {o : Oper} {v : Value} (h : Two R L a w) (ap : apartB R.ops = true) (ho : R.ops[i]? = some o) (hl : ∀ d, o.dst = some d → d < a.tmps.size) (hv : ∀ u, R.val i = some u → u = v) :
    ∀ j u, R.val j = some u → (L.setIfInBounds i true).getD j false = true → Has R.ops (a.put o.dst v) j u := by
  intro j u hj hL
  by_cases e : i = j
  · subst e; rw [hv u hj]; exact Has.put ho hl
  · exact (h.vals j u hj ((on_set hL).resolve_left (Ne.symm e))).ne ap ho e
theorem Two.gr' {R : Roles} {L : Array Bool} {a : Act} {w w' : World} {i : Nat} {o : Oper} {v : Value} (h : Two R L a w) (ap : apartB R.ops = true) (ho : R.ops[i]? = some o) (hi : i ≠ R.g)
    (hk : ∀ m, R.W.heap.size ≤ m → (L.setIfInBounds i true).getD R.t false = false → Blk w m MG.cells 72 → Blk w' m MG.cells 72) :
    (L.setIfInBounds i true).getD R.g false = true → ∃ m, Has R.ops (a.put o.dst v) R.g (.pointer (some ⟨m, 0, none⟩)) ∧ R.W.heap.size ≤ m ∧ ((L.setIfInBounds i true).getD R.t false = false → Blk w' m MG.cells 72) := by
  intro hL
  obtain ⟨m, h1, h2, h3⟩ := h.gr ((on_set hL).resolve_left (Ne.symm hi))
  exact ⟨m, h1.ne ap ho hi, h2, fun ht => hk m h2 ht (h3 (off_set ht))⟩
theorem Two.ra' {R : Roles} {L : Array Bool} {a : Act} {w w' : World} {i : Nat} {o : Oper} {v : Value} (h : Two R L a w) (ap : apartB R.ops = true) (ho : R.ops[i]? = some o) (hi : i ≠ R.ia)
    (hk : ∀ b c0 c1 c2, R.W.heap.size ≤ b → Blk w b [c0, c1, c2] 25 → Blk w' b [c0, c1, c2] 25) :
    (L.setIfInBounds i true).getD R.ia false = true → ∃ b c0 c1 c2, Has R.ops (a.put o.dst v) R.ia (.pointer (some ⟨b, 0, none⟩)) ∧ R.W.heap.size ≤ b ∧ Blk w' b [c0, c1, c2] 25 := by
  intro hL
  obtain ⟨b, c0, c1, c2, h1, h2, h3⟩ := h.ra ((on_set hL).resolve_left (Ne.symm hi))
  exact ⟨b, c0, c1, c2, h1.ne ap ho hi, h2, hk b c0 c1 c2 h2 h3⟩
theorem Two.rb' {R : Roles} {L : Array Bool} {a : Act} {w w' : World} {i : Nat} {o : Oper} {v : Value} (h : Two R L a w) (ap : apartB R.ops = true) (ho : R.ops[i]? = some o) (hi : i ≠ R.ib) (hs : i ≠ R.sb)
    (hk : ∀ b c0 c1, R.W.heap.size ≤ b → Blk w b [c0, c1] 44 → Blk w' b [c0, c1] 44) :
    (L.setIfInBounds i true).getD R.ib false = true → ∃ b c0 c1, Has R.ops (a.put o.dst v) R.ib (.pointer (some ⟨b, 0, none⟩)) ∧ R.W.heap.size ≤ b ∧ Blk w' b [c0, c1] 44 ∧ ((L.setIfInBounds i true).getD R.sb false = true → c0 = .int .i64 R.x.1 ∧ c1 = .int .i64 (R.x.2 : Int)) := by
  intro hL
  obtain ⟨b, c0, c1, h1, h2, h3, h4⟩ := h.rb ((on_set hL).resolve_left (Ne.symm hi))
  exact ⟨b, c0, c1, h1.ne ap ho hi, h2, hk b c0 c1 h2 h3, fun hz => h4 ((on_set hz).resolve_left (Ne.symm hs))⟩
theorem Two.ord' {R : Roles} {L : Array Bool} {a : Act} {w : World} {i : Nat} (h : Two R L a w) (hi : i = R.sb → L.getD R.ib false = true) : (L.setIfInBounds i true).getD R.sb false = true → (L.setIfInBounds i true).getD R.ib false = true := by
  intro hz
  rcases on_set hz with e | e
  · exact getD_set_true (hi e.symm)
  · exact getD_set_true (h.ord e)
/-- the roles are apart -/
def Roles.ok (R : Roles) : Prop := R.g ≠ R.t ∧ R.g ≠ R.ia ∧ R.g ≠ R.ib ∧ R.g ≠ R.sa ∧ R.g ≠ R.sb ∧ R.t ≠ R.ia ∧ R.t ≠ R.ib ∧ R.t ≠ R.sa ∧ R.t ≠ R.sb ∧ R.ia ≠ R.ib ∧ R.ia ≠ R.sa ∧ R.ia ≠ R.sb ∧ R.ib ≠ R.sa ∧ R.ib ≠ R.sb ∧ R.sa ≠ R.sb

/-- the frame written out: base, and behind it what was written -/
theorem frame_of {T : Array Value} : ∀ (ds : List Nat) (base : Array Value), T.size = base.size → (∀ k, k ∉ ds → T[k]? = base[k]?) → T = ds.foldl (fun b d => b.setIfInBounds d (T.getD d undef)) base := by
  intro ds
  induction ds with
  | nil => intro base _ h; exact Array.ext_getElem? fun k => h k (by simp)
  | cons d ds ih =>
    intro base hs h
    rw [List.foldl_cons]
    refine ih _ (by rw [Array.size_setIfInBounds]; exact hs) (fun k hk => ?_)
    by_cases e : d = k
    · subst e
      rw [Array.getElem?_setIfInBounds_self]
      rcases Nat.lt_or_ge d T.size with q | q
      · rw [if_pos (by omega), Array.getD_eq_getD_getElem?, Array.getElem?_eq_getElem q]; rfl
      · rw [if_neg (by omega), Array.getElem?_eq_none q]
    · rw [Array.getElem?_setIfInBounds_ne e]
      exact h k (by simp [hk, Ne.symm e])
/-- the operations write these places alone -/
def into (ops : Array Oper) (ds : List Nat) : Bool := ops.all fun o => match o.dst with
  | some d => ds.contains d
  | none => true
theorem into_not {ops : Array Oper} {ds : List Nat} (h : into ops ds = true) {k : Nat} (hk : k ∉ ds) : (ops.all fun o => o.dst != some k) = true := by
  rw [Array.all_eq_true_iff_forall_mem]
  intro o ho
  have h1 := Array.all_eq_true_iff_forall_mem.1 h o ho
  rcases hd : o.dst with _ | d
  · rfl
  · rw [hd] at h1
    have h2 : d ∈ ds := by simpa using h1
    have : d ≠ k := by rintro rfl; exact hk h2
    simpa using this
theorem Rest.lit {ops : Array Oper} {base : Array Value} {a : Act} (h : Rest ops base a) {ds : List Nat} (hi : into ops ds = true) : a = ⟨ds.foldl (fun b d => b.setIfInBounds d (a.tmps.getD d undef)) base, []⟩ := by
  have h1 := frame_of ds base h.2.1 (fun k hk => h.2.2 k (into_not hi hk))
  rcases a with ⟨T, D⟩
  have h2 : D = [] := h.1
  subst h2
  rw [← h1]

/-- all places are in the frame -/
def inside (ops : Array Oper) (n : Nat) : Bool := ops.all fun o => match o.dst with
  | some d => decide (d < n)
  | none => true
theorem inside_lt {ops : Array Oper} {n i : Nat} {o : Oper} {d : Tmp} (h : inside ops n = true) (ho : ops[i]? = some o) (hd : o.dst = some d) : d < n := by
  have h1 := Array.all_eq_true_iff_forall_mem.1 h o (Array.mem_of_getElem? ho)
  rw [hd] at h1
  simpa using h1

theorem two_rows {R : Roles} {id : Nat} {Q : Exit → Act → World → Prop} (s : ByteArray) (hok : R.ok) (he : elder R.ops = true) (ap : apartB R.ops = true) (hr : inside R.ops R.base.size = true)
    (hfin : fin (bl s) = .inl R.x) (hsz : s.size ≤ 9223372036854775807)
    (oG oT oA oB oS oZ oJ oE oF : Oper) (js je jf : Nat) (dg dt dj da db de df : Tmp)
    (hG : R.ops[R.g]? = some oG) (hT : R.ops[R.t]? = some oT) (hA : R.ops[R.ia]? = some oA) (hB : R.ops[R.ib]? = some oB) (hS : R.ops[R.sa]? = some oS) (hZ : R.ops[R.sb]? = some oZ)
    (hJ : R.ops[js]? = some oJ) (hE : R.ops[je]? = some oE) (hF : R.ops[jf]? = some oF)
    (kG : oG.guard = none ∧ oG.op = .call { callee := .value (.func 19), args := #[], argTypes := #[] } ∧ oG.dst = some dg)
    (kT : oT.guard = none ∧ oT.op = .call { callee := .value (.func 15), args := #[.tmp dg, .tmp dj], argTypes := #[37, 9] } ∧ oT.dst = some dt)
    (kA : oA.guard = none ∧ oA.op = .alloc 25 ∧ oA.dst = some da) (kB : oB.guard = none ∧ oB.op = .alloc 44 ∧ oB.dst = some db)
    (kS : oS.guard = none ∧ oS.op = .store 25 (.tmp da) (.tmp de) ∧ oS.dst = none) (kZ : oZ.guard = none ∧ oZ.op = .store 44 (.tmp db) (.tmp df) ∧ oZ.dst = none)
    (kJ : oJ.dst = some dj) (kE : oE.dst = some de) (kF : oF.dst = some df)
    (vG : R.val R.g = none) (vA : R.val R.ia = none) (vB : R.val R.ib = none) (vS : R.val R.sa = none) (vZ : R.val R.sb = none)
    (vT : R.val R.t = some (.tuple #[.agg #[.int .i64 0, .slice none 0 0, .slice none 0 0], .agg #[.int .i64 R.x.1, .int .i64 R.x.2]]))
    (vJ : R.val js = some (.string s)) (vE : R.val je = some (.agg #[.int .i64 0, .slice none 0 0, .slice none 0 0])) (vF : R.val jf = some (.agg #[.int .i64 R.x.1, .int .i64 R.x.2]))
    (dT : waits oT R.g = true ∧ waits oT js = true) (dS : waits oS R.ia = true ∧ waits oS je = true ∧ waits oS R.t = true) (dZ : waits oZ R.ib = true ∧ waits oZ jf = true ∧ waits oZ R.t = true)
    (hpure : ∀ (i : Nat) (o : Oper), R.ops[i]? = some o → i = R.g ∨ i = R.t ∨ i = R.ia ∨ i = R.ib ∨ i = R.sa ∨ i = R.sb ∨
      (o.guard = none ∧ ∃ v, R.val i = some v ∧ ∀ a w, Below R.W.heap.size R.W w → Rest R.ops R.base a → (∀ j u, waits o j = true → R.val j = some u → Has R.ops a j u) → (execOp a.eval o).run Try.prog w = .ok (.value v) w))
    (ds : List Nat) (hds : into R.ops ds = true)
    (hend : ∀ (us : Nat → Value) w b, Below R.W.heap.size R.W w → us db = .pointer (some ⟨b, 0, none⟩) → Blk w b [.int .i64 R.x.1, .int .i64 (R.x.2 : Int)] 44 → Q .normal ⟨ds.foldl (fun b d => b.setIfInBounds d (us d)) R.base, []⟩ w) :
    (Code.region id R.ops true).wp Try.prog Q ⟨R.base, []⟩ R.W := by
  obtain ⟨g_t, g_a, g_b, g_s, g_z, t_a, t_b, t_s, t_z, a_b, a_s, a_z, b_s, b_z, s_z⟩ := hok
  refine wp_region_inv (Two R) (by kernel_rfl) he ?_ ?_ ?_
  · have hno : ∀ j, (Array.replicate R.ops.size false).getD j false = true → False := by
      intro j hj
      rw [Array.getD_eq_getD_getElem?, Array.getElem?_replicate] at hj
      split at hj <;> cases hj
    exact ⟨(Below.refl _ _).drew, ⟨rfl, rfl, fun _ _ => rfl⟩, fun j _ _ hj => (hno j hj).elim, fun hj => (hno _ hj).elim, fun hj => (hno _ hj).elim, fun hj => (hno _ hj).elim, fun hj => (hno _ hj).elim⟩
  · intro i o ho L a w hs h hL hd
    have hl : ∀ d, o.dst = some d → d < a.tmps.size := fun d hd' => by rw [h.rest.2.1]; exact inside_lt hr ho hd'
    have hne : ∀ j, waits o j = true → L.getD j false = true := fun j hj => waits_in hj hd
    rcases hpure i o ho with rfl | rfl | rfl | rfl | rfl | rfl | ⟨kg, v, hv, hrun⟩
    · -- great
      rw [hG] at ho; cases ho
      refine wpOp_one hG kG.1 (wp_enter (run_call19 kG.2.1) ((great_new w).mono ?_))
      rintro e w' ⟨m, rfl, hm, hle, hb⟩
      have hbw := bel_then h.bel hb
      refine ⟨_, rfl, ⟨hbw, h.rest.put hG _, h.vals' ap hG hl (by intro u hu; rw [vG] at hu; cases hu), fun _ => ⟨m, Has.put hG hl, Nat.le_trans h.bel.size hle, fun _ => hm⟩,
        h.ra' ap hG g_a (fun b c0 c1 c2 _ hk => hk.below hb), h.rb' ap hG g_b g_z (fun b c0 c1 _ hk => hk.below hb), h.ord' (fun e => (g_z e).elim)⟩⟩
    · -- Get
      rw [hT] at ho; cases ho
      obtain ⟨m, m1, m2, m3⟩ := h.gr (hne _ dT.1)
      have hoff : L.getD R.t false = false := by
        rcases hz : L.getD R.t false with _ | _
        · rfl
        · rw [on_true hz] at hL
          cases hL
      have hMB := m3 hoff
      have e1 := m1.only hG kG.2.2
      have e2 := (h.vals js _ vJ (hne _ dT.2)).only hJ kJ
      have hc := run_call15 (w := w) (a := a) kT.2.1
      rw [e1, e2] at hc
      refine wpOp_one hT kT.1 (wp_enter hc ((get_fault s m w R.x hMB hsz hfin).mono ?_))
      rintro e w' ⟨rfl, ho⟩
      refine ⟨_, rfl, ⟨bel_get h.bel m2 ho, h.rest.put hT _, h.vals' ap hT hl (by intro u hu; rw [vT] at hu; cases hu; rfl), ?_, ?_, ?_, h.ord' (fun e => (t_z e).elim)⟩⟩
      · refine h.gr' ap hT g_t.symm (fun k _ ht _ => ?_)
        rw [Array.getD_eq_getD_getElem?, Array.getElem?_setIfInBounds_self] at ht
        have : R.t < L.size := by rw [hs]; exact (Array.getElem?_eq_some_iff.1 hT).1
        simp [this] at ht
      · exact h.ra' ap hT t_a (fun b c0 c1 c2 _ hk => blk_get hk ho (blk_ne hk hMB (by decide)))
      · exact h.rb' ap hT t_b t_z (fun b c0 c1 _ hk => blk_get hk ho (blk_ne hk hMB (by decide)))
    · -- a new row
      rw [hA] at ho; cases ho
      refine wpOp_one hA kA.1 (wp_val (run_alloc25 kA.2.1) ⟨Below.al h.bel _, h.rest.put hA _, h.vals' ap hA hl (by intro u hu; rw [vA] at hu; cases hu), h.gr' ap hA g_a.symm (fun k _ _ hk => hk.alloc _),
        fun _ => ⟨w.heap.size, _, _, _, Has.put hA hl, h.bel.size, Blk.new w _ 25 rfl⟩, h.rb' ap hA a_b a_z (fun b c0 c1 _ hk => hk.alloc _), h.ord' (fun e => (a_z e).elim)⟩)
    · rw [hB] at ho; cases ho
      refine wpOp_one hB kB.1 (wp_val (run_alloc44 kB.2.1) ⟨Below.al h.bel _, h.rest.put hB _, h.vals' ap hB hl (by intro u hu; rw [vB] at hu; cases hu), h.gr' ap hB g_b.symm (fun k _ _ hk => hk.alloc _),
        h.ra' ap hB a_b.symm (fun b c0 c1 c2 _ hk => hk.alloc _), fun _ => ⟨w.heap.size, _, _, Has.put hB hl, h.bel.size, Blk.new w _ 44 rfl, fun hz => ?_⟩, h.ord' (fun e => (b_z e).elim)⟩)
      exfalso
      have hz' := h.ord ((on_set hz).resolve_left b_z.symm)
      rw [on_true hz'] at hL
      cases hL
    · rw [hS] at ho; cases ho
      obtain ⟨b, c0, c1, c2, b1, b2, b3⟩ := h.ra (hne _ dS.1)
      have e1 := b1.only hA kA.2.2
      have e2 := (h.vals je _ vE (hne _ dS.2.1)).only hE kE
      refine wpOp_one hS kS.1 (wp_skip (run_store25 kS.2.1 e1 e2 b3) ⟨Below.st (Below.st (Below.st h.bel b2) b2) b2, h.rest.put hS _, h.vals' ap hS hl (by intro u hu; rw [vS] at hu; cases hu), ?_, ?_, ?_, h.ord' (fun e => (s_z e).elim)⟩)
      · exact h.gr' ap hS g_s.symm (fun k _ _ hk => oth (oth (oth hk (blk_ne hk b3 (by decide))) (blk_ne hk b3 (by decide))) (blk_ne hk b3 (by decide)))
      · exact fun _ => ⟨b, _, _, _, b1.ne ap hS a_s.symm, b2, ((b3.set 0 _).set 1 _).set 2 _⟩
      · exact h.rb' ap hS b_s.symm s_z (fun k d0 d1 _ hk => oth (oth (oth hk (blk_ne hk b3 (by decide))) (blk_ne hk b3 (by decide))) (blk_ne hk b3 (by decide)))
    · rw [hZ] at ho; cases ho
      obtain ⟨b, c0, c1, b1, b2, b3, _⟩ := h.rb (hne _ dZ.1)
      have e1 := b1.only hB kB.2.2
      have e2 := (h.vals jf _ vF (hne _ dZ.2.1)).only hF kF
      refine wpOp_one hZ kZ.1 (wp_skip (run_store44 kZ.2.1 e1 e2 b3) ⟨Below.st (Below.st h.bel b2) b2, h.rest.put hZ _, h.vals' ap hZ hl (by intro u hu; rw [vZ] at hu; cases hu), ?_, ?_, ?_, h.ord' (fun _ => hne _ dZ.1)⟩)
      · exact h.gr' ap hZ g_z.symm (fun k _ _ hk => oth (oth hk (blk_ne hk b3 (by decide))) (blk_ne hk b3 (by decide)))
      · exact h.ra' ap hZ a_z.symm (fun k d0 d1 d2 _ hk => oth (oth hk (blk_ne hk b3 (by decide))) (blk_ne hk b3 (by decide)))
      · exact fun _ => ⟨b, _, _, b1.ne ap hZ b_z.symm, b2, put2 b3, fun _ => ⟨rfl, rfl⟩⟩
    · by_cases c1 : i = R.g
      · subst c1; rw [vG] at hv; cases hv
      by_cases c2 : i = R.ia
      · subst c2; rw [vA] at hv; cases hv
      by_cases c3 : i = R.ib
      · subst c3; rw [vB] at hv; cases hv
      by_cases c4 : i = R.sb
      · subst c4; rw [vZ] at hv; cases hv
      refine wpOp_one ho kg (wp_val (hrun a w h.bel h.rest (fun j u hj hu => h.vals j u hu (hne j hj))) ⟨h.bel, h.rest.put ho _, h.vals' ap ho hl (by intro u hu; rw [hv] at hu; cases hu; rfl), h.gr' ap ho c1 (fun _ _ _ hk => hk), h.ra' ap ho c2 (fun _ _ _ _ _ hk => hk), h.rb' ap ho c3 c4 (fun _ _ _ _ hk => hk), h.ord' (fun e => (c4 e).elim)⟩)
  · intro L a w h hall
    obtain ⟨b, c0, c1, b1, b2, b3, b4⟩ := h.rb (hall _ (Array.getElem?_eq_some_iff.1 hB).1)
    obtain ⟨rfl, rfl⟩ := b4 (hall _ (Array.getElem?_eq_some_iff.1 hZ).1)
    rw [h.rest.lit hds]
    exact hend (fun d => a.tmps.getD d undef) w b h.bel (eval_tmp (b1 db (by rw [hB]; exact kB.2.2))) b3
end Go.Proofs.Ytdinlaoimpoolaa
namespace Go.Proofs.Ytdinlaoimpoolaa
open Go.RowKit

theorem run_move {a : Act} {w : World} {o : Oper} {x : Operand} {v : Value} (hop : o.op = .move x) (hx : a.eval x = v) : (execOp a.eval o).run Try.prog w = .ok (.value v) w := by
  simp only [execOp, hop, hx]
  rfl
theorem run_extract {a : Act} {w : World} {o : Oper} {x : Operand} {i : Nat} {vs : Array Value} {v : Value} (hop : o.op = .extract x i) (hx : a.eval x = .tuple vs) (hv : vs[i]? = some v) : (execOp a.eval o).run Try.prog w = .ok (.value v) w := by
  simp only [execOp, hop, hx]
  simp only [Instr.extract, hv]
  rfl
theorem run_conv {a : Act} {w : World} {o : Oper} {x : Operand} {v u : Value} (hop : o.op = .convert 56 9 x) (hx : a.eval x = v) (hr : (convert 56 9 v).run Try.prog w = .ok u w) : (execOp a.eval o).run Try.prog w = .ok (.value u) w := by
  simp only [execOp, hop, hx]
  go_simp
theorem run_cut {a : Act} {w : World} {o : Oper} {x y : Operand} {S : ByteArray} {A : Nat} (hop : o.op = .slice 9 x none (some y) none) (hx : a.eval x = .string S) (hy : a.eval y = .int .i64 (A : Int)) (hA : A ≤ S.size) : (execOp a.eval o).run Try.prog w = .ok (.value (.string (S.extract 0 A))) w := by
  have h1 : (0 : Int) ≤ (A : Int) := by omega
  have h2 : (A : Int) ≤ (S.size : Int) := by omega
  simp only [execOp, hop, Option.map_some, Option.map_none, hx, hy]
  go_simp
theorem run_byte {a : Act} {w : World} {o : Oper} {x y z : Operand} {c n cap A : Nat} (hop : o.op = .slice 56 x (some y) (some z) none) (hx : a.eval x = .slice (some ⟨c, 0, none⟩) n cap) (hy : a.eval y = .int .i64 (A : Int)) (hz : a.eval z = .int .i64 ((A : Int) + 1)) (hA : A < n) (hn : n ≤ cap) :
    (execOp a.eval o).run Try.prog w = .ok (.value (.slice (some ⟨c, A, none⟩) 1 (cap - A))) w := by
  have h1 : (0 : Int) ≤ (A : Int) := by omega
  have h2 : (A : Int) ≤ (A : Int) + 1 := by omega
  have h3 : (A : Int) + 1 ≤ (cap : Int) := by omega
  have h4 : ¬ cap = A := by omega
  simp only [execOp, hop, Option.map_some, Option.map_none, hx, hy, hz]
  go_simp
theorem run_join {a : Act} {w : World} {o : Oper} {x y : Operand} {S T : ByteArray} (hop : o.op = .binOp .add 9 x y 9) (hx : a.eval x = .string S) (hy : a.eval y = .string T) (hs : S.size + T.size ≤ 9223372036854775807) : (execOp a.eval o).run Try.prog w = .ok (.value (.string (S ++ T))) w := by
  simp only [execOp, hop, hx, hy]
  go_simp
theorem run_inc {a : Act} {w : World} {o : Oper} {x : Operand} {A : Nat} (hop : o.op = .binOp .add 3 x (.const (.int .i64 1)) 3) (hx : a.eval x = .int .i64 (A : Int)) (hA : (A : Int) + 1 ≤ 9223372036854775807) : (execOp a.eval o).run Try.prog w = .ok (.value (.int .i64 ((A : Int) + 1))) w := by
  have h1 : a.eval (.const (.int .i64 1)) = .int .i64 1 := rfl
  have h2 : IntKind.i64.wrap ((A : Int) + 1) = (A : Int) + 1 := by
    simp only [IntKind.wrap, IntKind.bits, IntKind.signed]
    simp
    omega
  simp only [execOp, hop, hx, h1]
  go_simp
end Go.Proofs.Ytdinlaoimpoolaa
namespace Go.Proofs.Ytdinlaoimpoolaa
open Go.RowKit

/-- the calls' numbers, the last one's answer is laid by number iz -/
structure Chn where
  ops : Array Oper
  base : Array Value
  m : Nat
  ci : Nat → Nat
  iz : Nat
  val : Nat → Option Value
structure ChnI (C : Chn) (oz : Oper) (dz : Tmp) (Kp : World → Prop) (St : Nat → World → Value → Prop) (v0 : Value) (L : Array Bool) (a : Act) (w : World) : Prop where
  rest : Rest C.ops C.base a
  kp : Kp w
  vals : ∀ j v, C.val j = some v → L.getD j false = true → Has C.ops a j v
  row : ∃ j v, j ≤ C.m ∧ (∀ i, i < C.m → (L.getD (C.ci i) false = true ↔ i < j)) ∧ St j w v ∧ (j = 0 → v = v0) ∧ (∀ i, j = i + 1 → Has C.ops a (C.ci i) v) ∧ (L.getD C.iz false = true → j = C.m ∧ Has C.ops a C.iz v)
  zw : L.getD C.iz false = true → ∀ j, waits oz j = true → L.getD j false = true
  pre : L.getD C.iz false = false → a.tmps[dz]? = C.base[dz]?

theorem vals_put {ops : Array Oper} {val : Nat → Option Value} {L : Array Bool} {a : Act} {i : Nat} {o : Oper} {v : Value} (h : ∀ j v, val j = some v → L.getD j false = true → Has ops a j v) (ap : apartB ops = true) (ho : ops[i]? = some o) (hl : ∀ d, o.dst = some d → d < a.tmps.size) (hv : ∀ u, val i = some u → u = v) :
    ∀ j u, val j = some u → (L.setIfInBounds i true).getD j false = true → Has ops (a.put o.dst v) j u := by
  intro j u hj hL
  by_cases e : i = j
  · subst e; rw [hv u hj]; exact Has.put ho hl
  · exact (h j u hj ((on_set hL).resolve_left (Ne.symm e))).ne ap ho e
theorem set_on {L : Array Bool} {i : Nat} (h : i < L.size) : (L.setIfInBounds i true).getD i false = true := by
  rw [Array.getD_eq_getD_getElem?, Array.getElem?_setIfInBounds_self, if_pos h]; rfl
theorem off_of {L : Array Bool} {i : Nat} (h : L.getD i true = false) : L.getD i false = false := by
  rcases hz : L.getD i false with _ | _
  · rfl
  · rw [on_true hz] at h; cases h
theorem run_assign {a : Act} {w : World} {o : Oper} {x : Operand} {v : Value} (hop : o.op = .assign x) (hx : a.eval x = v) : (execOp a.eval o).run Try.prog w = .ok (.value v) w := by
  simp only [execOp, hop, hx]
  rfl

/-- unlike numbers -/
def injB (m : Nat) (ci : Nat → Nat) : Bool := (List.range m).all fun i => (List.range m).all fun j => i == j || ci i != ci j
theorem injB_spec {m : Nat} {ci : Nat → Nat} (h : injB m ci = true) : ∀ i j, i < m → j < m → ci i = ci j → i = j := by
  intro i j hi hj e
  have h1 := List.all_eq_true.1 (List.all_eq_true.1 h i (List.mem_range.2 hi)) j (List.mem_range.2 hj)
  rw [e] at h1
  simpa using h1

theorem call_chain {C : Chn} {id : Nat} {Q : Exit → Act → World → Prop} {W : World} (Kp : World → Prop) (St : Nat → World → Value → Prop) (v0 : Value)
    (he : elder C.ops = true) (ap : apartB C.ops = true) (hr : inside C.ops C.base.size = true) (hm : 0 < C.m)
    (hK0 : Kp W.drew) (hS0 : St 0 W.drew v0)
    (hinjB : injB C.m C.ci = true) (hizB : ((List.range C.m).all fun i => C.ci i != C.iz) = true)
    (hvcB : ((List.range C.m).all fun i => (C.val (C.ci i)).isNone) = true) (hvz : C.val C.iz = none)
    (hcall : ∀ (j : Nat), j < C.m → ∃ o, C.ops[C.ci j]? = some o ∧ o.guard = none ∧ (0 < j → waits o (C.ci (j - 1)) = true) ∧
      ∀ a w v, Kp w → St j w v → Rest C.ops C.base a → (∀ i u, waits o i = true → C.val i = some u → Has C.ops a i u) → (j = 0 → v = v0) → (∀ i, j = i + 1 → Has C.ops a (C.ci i) v) →
        ∃ f args, (execOp a.eval o).run Try.prog w = .ok (.enter f args) w ∧ Calls Try.prog f args w fun e w' => ∃ v', e = .returned v' ∧ Kp w' ∧ St (j + 1) w' v')
    (oz : Oper) (dl dz : Tmp) (hz : C.ops[C.iz]? = some oz) (kz : oz.guard = none ∧ oz.op = .assign (.tmp dl) ∧ oz.dst = some dz) (hzl : (C.ops[C.ci (C.m - 1)]?).bind (·.dst) = some dl) (hzw0 : waits oz (C.ci (C.m - 1)) = true)
    (hpure : ∀ (i : Nat) (o : Oper), C.ops[i]? = some o → (∃ j, j < C.m ∧ i = C.ci j) ∨ i = C.iz ∨
      (o.guard = none ∧ ∃ v, C.val i = some v ∧ ∀ a w, Kp w → Rest C.ops C.base a → (∀ j u, waits o j = true → C.val j = some u → Has C.ops a j u) → (waits oz i = true → a.tmps[dz]? = C.base[dz]?) → (execOp a.eval o).run Try.prog w = .ok (.value v) w))
    (ds : List Nat) (hds : into C.ops ds = true)
    (hend : ∀ (us : Nat → Value) w v, Kp w → St C.m w v → us dz = v → Q .normal ⟨ds.foldl (fun b d => b.setIfInBounds d (us d)) C.base, []⟩ w) :
    (Code.region id C.ops true).wp Try.prog Q ⟨C.base, []⟩ W := by
  have hinj := injB_spec hinjB
  have hiz : ∀ i, i < C.m → C.ci i ≠ C.iz := fun i hi => by
    have := List.all_eq_true.1 hizB i (List.mem_range.2 hi)
    simpa using this
  have hvc : ∀ i, i < C.m → C.val (C.ci i) = none := fun i hi => by
    have := List.all_eq_true.1 hvcB i (List.mem_range.2 hi)
    simpa using this
  refine wp_region_inv (ChnI C oz dz Kp St v0) (by kernel_rfl) he ?_ ?_ ?_
  · have hno : ∀ j, (Array.replicate C.ops.size false).getD j false = true → False := by
      intro j hj
      rw [Array.getD_eq_getD_getElem?, Array.getElem?_replicate] at hj
      split at hj <;> cases hj
    exact ⟨⟨rfl, rfl, fun _ _ => rfl⟩, hK0, fun j _ _ hj => (hno j hj).elim, ⟨0, v0, Nat.zero_le _, fun i _ => ⟨fun h => (hno _ h).elim, fun h => absurd h (Nat.not_lt_zero _)⟩, hS0, fun _ => rfl, fun i h => by omega, fun h => (hno _ h).elim⟩, fun h => (hno _ h).elim, fun _ => rfl⟩
  · intro i o ho L a w hs h hL hd
    have hl : ∀ d, o.dst = some d → d < a.tmps.size := fun d hd' => by rw [h.rest.2.1]; exact inside_lt hr ho hd'
    have hne : ∀ j, waits o j = true → L.getD j false = true := fun j hj => waits_in hj hd
    have hLi : i < L.size := by rw [hs]; exact (Array.getElem?_eq_some_iff.1 ho).1
    have hpre : ∀ (u : Value), i ≠ C.iz → (L.setIfInBounds i true).getD C.iz false = false → (a.put o.dst u).tmps[dz]? = C.base[dz]? := fun u hi hz' => by
      have hd : o.dst ≠ some dz := fun e => apartB_ne ap hi (by rw [ho]; exact e) (by rw [hz]; exact kz.2.2)
      have h1 := h.pre (off_set hz')
      rcases hod : o.dst with _ | d
      · exact h1
      · have hne' : d ≠ dz := fun e => hd (by rw [hod, e])
        show (a.tmps.setIfInBounds d u)[dz]? = _
        rw [Array.getElem?_setIfInBounds_ne hne']
        exact h1
    have hzw : i ≠ C.iz → (L.setIfInBounds i true).getD C.iz false = true → ∀ j, waits oz j = true → (L.setIfInBounds i true).getD j false = true := fun hi hz' j hj => getD_set_true (h.zw ((on_set hz').resolve_left (Ne.symm hi)) j hj)
    obtain ⟨j, v, hjm, hiff, hst, hv0, hlast, hziff⟩ := h.row
    rcases hpure i o ho with ⟨jj, hjj, rfl⟩ | rfl | ⟨kg, u, hu, hrun⟩
    · obtain ⟨o', ho', kg, hwt, hc⟩ := hcall jj hjj
      rw [ho] at ho'; cases ho'
      have h1 : ¬ jj < j := fun hlt => by
        have := (hiff jj hjj).2 hlt
        rw [off_of hL] at this; cases this
      have h2 : jj ≤ j := by
        rcases Nat.eq_zero_or_pos jj with e | e
        · omega
        · have := (hiff (jj - 1) (by omega)).1 (hne _ (hwt e))
          omega
      obtain rfl : j = jj := by omega
      obtain ⟨f, args, hrun, hcl⟩ := hc a w v h.kp hst h.rest (fun k x hk hx => h.vals k x hx (hne k hk)) hv0 hlast
      refine wpOp_one ho kg (wp_enter hrun (hcl.mono ?_))
      rintro e w' ⟨v', rfl, hkp, hst'⟩
      refine ⟨v', rfl, ⟨h.rest.put ho _, hkp, vals_put h.vals ap ho hl (by intro x hx; rw [hvc j hjj] at hx; cases hx), ⟨j + 1, v', hjj, fun k hk => ?_, hst', fun h0 => absurd h0 (by omega), fun k hk => ?_, fun hz' => ?_⟩, hzw (hiz j hjj), hpre v' (hiz j hjj)⟩⟩
      · by_cases e : k = j
        · subst e
          exact ⟨fun _ => Nat.lt_succ_self _, fun _ => set_on hLi⟩
        · have hci : C.ci j ≠ C.ci k := fun q => e (hinj k j hk hjj q.symm)
          rw [getD_set_ne false hci, hiff k hk]
          omega
      · obtain rfl : k = j := by omega
        exact Has.put ho hl
      · have := hziff ((on_set hz').resolve_left (Ne.symm (hiz j hjj)))
        omega
    · rw [hz] at ho; cases ho
      have h1 := (hiff (C.m - 1) (by omega)).1 (hne _ hzw0)
      obtain rfl : j = C.m := by omega
      have hv : a.eval (.tmp dl) = v := eval_tmp (hlast (C.m - 1) (by omega) dl hzl)
      refine wpOp_one hz kz.1 (wp_val (run_assign kz.2.1 hv) ⟨h.rest.put hz _, h.kp, vals_put h.vals ap hz hl (by intro x hx; rw [hvz] at hx; cases hx), ⟨C.m, v, Nat.le_refl _, fun k hk => ?_, hst, hv0, fun k hk => ?_, fun _ => ⟨rfl, Has.put hz hl⟩⟩, fun _ j hj => getD_set_true (hne j hj), fun hz' => by rw [set_on hLi] at hz'; cases hz'⟩)
      · rw [getD_set_ne false (Ne.symm (hiz k hk)), hiff k hk]
      · exact (hlast k hk).ne ap hz (Ne.symm (hiz k (by omega)))
    · have n1 : ∀ k, k < C.m → i ≠ C.ci k := fun k hk e => by
        subst e; rw [hvc k hk] at hu; cases hu
      have n2 : i ≠ C.iz := fun e => by subst e; rw [hvz] at hu; cases hu
      refine wpOp_one ho kg (wp_val (hrun a w h.kp h.rest (fun k x hk hx => h.vals k x hx (hne k hk)) (fun hw => h.pre (by
        rcases hb : L.getD C.iz false with _ | _
        · rfl
        · rw [on_true (h.zw hb i hw)] at hL; cases hL))) ⟨h.rest.put ho _, h.kp, vals_put h.vals ap ho hl (by intro x hx; rw [hu] at hx; cases hx; rfl), ⟨j, v, hjm, fun k hk => ?_, hst, hv0, fun k hk => ?_, fun hz' => ?_⟩, hzw n2, hpre u n2⟩)
      · rw [getD_set_ne false (n1 k hk), hiff k hk]
      · exact (hlast k hk).ne ap ho (n1 k (by omega))
      · obtain ⟨z1, z2⟩ := hziff ((on_set hz').resolve_left (Ne.symm n2))
        exact ⟨z1, z2.ne ap ho n2⟩
  · intro L a w h hall
    obtain ⟨j, v, hjm, hiff, hst, hv0, hlast, hziff⟩ := h.row
    obtain ⟨rfl, hh⟩ := hziff (hall _ (Array.getElem?_eq_some_iff.1 hz).1)
    rw [h.rest.lit hds]
    exact hend (fun d => a.tmps.getD d undef) w v h.kp hst (eval_tmp (hh dz (by rw [hz]; exact kz.2.2)))
end Go.Proofs.Ytdinlaoimpoolaa
