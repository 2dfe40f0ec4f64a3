/- The reference's Get: what it leans on. -/
import Derived.Test.YtdinlaoimpoolaaRefPair1
namespace Go.Proofs.Ytdinlaoimpoolaa
open Go.RowKit

structure EffJ (ol : Oper) (ops : Array Oper) (base : Array Value) (m : Nat) (ci : Nat → Nat) (val : Nat → Option Value) (St : Nat → World → Value → Prop) (v0 : Value) (L : Array Bool) (a : Act) (w : World) : Prop where
  rest : Rest ops base a
  vals : ∀ j v, val j = some v → L.getD j false = true → Has ops a j v
  row : ∃ j v, j ≤ m ∧ (∀ i, i < m → (L.getD (ci i) false = true ↔ i < j)) ∧ St j w v ∧ (j = 0 → v = v0) ∧ (∀ i, j = i + 1 → Has ops a (ci i) v)
  zw : L.getD (ci (m - 1)) false = true → ∀ j, waits ol j = true → L.getD j false = true
theorem effects2 {ops : Array Oper} {base : Array Value} {m : Nat} {ci : Nat → Nat} {val : Nat → Option Value} {id : Nat} {Q : Exit → Act → World → Prop} {W : World} (St : Nat → World → Value → Prop) (v0 : Value) (ol : Oper) (hol : ops[ci (m - 1)]? = some ol)
    (he : elder ops = true) (ap : apartB ops = true) (hr : inside ops base.size = true) (hm : 0 < m) (hS0 : St 0 W.drew v0)
    (hinjB : injB m ci = true) (hvcB : ((List.range m).all fun i => (val (ci i)).isNone) = true)
    (hcall : ∀ (j : Nat), j < m → ∃ o, ops[ci j]? = some o ∧ (0 < j → waits o (ci (j - 1)) = true) ∧
      ∀ a w v, St j w v → Rest ops base a → (∀ i u, waits o i = true → val i = some u → Has ops a i u) → (j = 0 → v = v0) → (∀ i, j = i + 1 → Has ops a (ci i) v) →
        ∀ K : Act → World → Prop, (∀ v' w', St (j + 1) w' v' → K (a.put o.dst v') w') → wpOp Try.prog ops Q (ci j) K a w)
    (hpure : ∀ (i : Nat) (o : Oper), ops[i]? = some o → (∃ j, j < m ∧ i = ci j) ∨
      (∃ v, val i = some v ∧ ∀ j v' a w, j ≤ m → St j w v' → Rest ops base a → (∀ j u, waits o j = true → val j = some u → Has ops a j u) → (waits ol i = true → j < m) → Does ops Q i o a w v))
    (ds : List Nat) (hds : into ops ds = true)
    (hend : ∀ (us : Nat → Value) w v, St m w v → Q .normal ⟨ds.foldl (fun b d => b.setIfInBounds d (us d)) base, []⟩ w) :
    (Code.region id ops true).wp Try.prog Q ⟨base, []⟩ W := by
  have hinj := injB_spec hinjB
  have hvc : ∀ i, i < m → val (ci i) = none := fun i hi => by
    have := List.all_eq_true.1 hvcB i (List.mem_range.2 hi)
    simpa using this
  refine wp_region_inv (EffJ ol ops base m ci val St v0) (by kernel_rfl) he ?_ ?_ ?_
  · have hno : ∀ j, (Array.replicate ops.size false).getD j false = true → False := by
      intro j hj
      rw [Array.getD_eq_getD_getElem?, Array.getElem?_replicate] at hj
      split at hj <;> cases hj
    exact ⟨⟨rfl, rfl, fun _ _ => rfl⟩, fun j _ _ hj => (hno j hj).elim, ⟨0, v0, Nat.zero_le _, fun i _ => ⟨fun h => (hno _ h).elim, fun h => absurd h (Nat.not_lt_zero _)⟩, hS0, fun _ => rfl, fun i h => by omega⟩, fun hj => (hno _ hj).elim⟩
  · intro i o ho L a w hs h hL hd
    have hl : ∀ d, o.dst = some d → d < a.tmps.size := fun d hd' => by rw [h.rest.2.1]; exact inside_lt hr ho hd'
    have hne : ∀ j, waits o j = true → L.getD j false = true := fun j hj => waits_in hj hd
    have hLi : i < L.size := by rw [hs]; exact (Array.getElem?_eq_some_iff.1 ho).1
    obtain ⟨j, v, hjm, hiff, hst, hv0, hlst⟩ := h.row
    rcases hpure i o ho with ⟨jj, hjj, rfl⟩ | ⟨u, hu, hrun⟩
    · obtain ⟨o', ho', hwt, hc⟩ := hcall jj hjj
      rw [ho] at ho'; cases ho'
      have h1 : ¬ jj < j := fun hlt => by
        have := (hiff jj hjj).2 hlt
        rw [off_of hL] at this; cases this
      have h2 : jj ≤ j := by
        rcases Nat.eq_zero_or_pos jj with e | e
        · omega
        · have := (hiff (jj - 1) (by omega)).1 (hne _ (hwt e))
          omega
      obtain rfl : j = jj := by omega
      refine hc a w v hst h.rest (fun k x hk hx => h.vals k x hx (hne k hk)) hv0 hlst _ fun v' w' hst' => ?_
      refine ⟨h.rest.put ho _, vals_put h.vals ap ho hl (by intro x hx; rw [hvc j hjj] at hx; cases hx), ⟨j + 1, v', hjj, fun k hk => ?_, hst', fun h0 => absurd h0 (by omega), fun k hk => ?_⟩, ?_⟩
      · by_cases e : k = j
        · subst e
          exact ⟨fun _ => Nat.lt_succ_self _, fun _ => set_on hLi⟩
        · have hci : ci j ≠ ci k := fun q => e (hinj k j hk hjj q.symm)
          rw [getD_set_ne false hci, hiff k hk]
          omega
      · obtain rfl : k = j := by omega
        exact Has.put ho hl
      · intro hz q hq
        by_cases e : ci (m - 1) = ci j
        · have e2 : m - 1 = j := hinj _ _ (by omega) hjj e
          rw [e, ho] at hol
          cases hol
          exact getD_set_true (hne q hq)
        · exact getD_set_true (h.zw ((on_set hz).resolve_left e) q hq)
    · have n1 : ∀ k, k < m → i ≠ ci k := fun k hk e => by
        subst e; rw [hvc k hk] at hu; cases hu
      refine hrun j v a w hjm hst h.rest (fun k x hk hx => h.vals k x hx (hne k hk)) (fun hw => by
        rcases Nat.lt_or_ge j m with q | q
        · exact q
        · exfalso
          have h1 := (hiff (m - 1) (by omega)).2 (by omega)
          have h2 := h.zw h1 i hw
          rw [on_true h2] at hL
          cases hL) _ ?_
      refine ⟨h.rest.put ho _, vals_put h.vals ap ho hl (by intro x hx; rw [hu] at hx; cases hx; rfl), ⟨j, v, hjm, fun k hk => ?_, hst, hv0, fun k hk => ?_⟩, fun hz q hq => getD_set_true (h.zw ((on_set hz).resolve_left (Ne.symm (n1 (m - 1) (by omega)))) q hq)⟩
      · rw [getD_set_ne false (n1 k hk), hiff k hk]
      · exact (hlst k hk).ne ap ho (n1 k (by omega))
  · intro L a w h hall
    obtain ⟨j, v, hjm, hiff, hst, hv0, hlst⟩ := h.row
    have hjm' : j = m := by
      have := (hiff (m - 1) (by omega)).1 (hall _ (Array.getElem?_eq_some_iff.1 hol).1)
      omega
    subst hjm'
    rw [h.rest.lit hds]
    exact hend (fun d => a.tmps.getD d undef) w v hst

/-- the head's numbers -/
theorem fits012 {s : St} (x : Nat) : (s.nx = 0 → fits (read s (sz s.nx) x) x = decide (x = 80)) ∧ (s.nx = 1 → fits (read s (sz s.nx) x) x = decide (x = 70)) ∧ (s.nx = 2 → fits (read s (sz s.nx) x) x = decide (x = 49)) := by
  have h2 : (read s (sz s.nx) x).nx = s.nx := rfl
  unfold fits
  rw [h2]
  refine ⟨?_, ?_, ?_⟩
  all_goals
    intro h
    simp only [h]
theorem fits3 {s : St} (hx : s.nx = 3) (n : Nat) : fits (read s (sz s.nx) n) n = (decide (1 ≤ n) && decide (n ≤ 16384)) := by
  have : (read s (sz s.nx) n).nx = 3 := hx
  unfold fits
  rw [this]
  rfl
theorem fits4 {s : St} (hx : s.nx = 4) (n : Nat) : fits (read s (sz s.nx) n) n = decide (n ≤ 1024) := by
  have : (read s (sz s.nx) n).nx = 4 := hx
  unfold fits
  rw [this]
  rfl
theorem fits9 {s : St} (hx : s.nx = 9) (n : Nat) : fits (read s (sz s.nx) n) n = decide (n ≤ 4096) := by
  have : (read s (sz s.nx) n).nx = 9 := hx
  unfold fits
  rw [this]
  rfl
theorem fits15 {s : St} (hx : s.nx = 15) (n : Nat) : fits (read s (sz s.nx) n) n = decide (n = s.sm) := by
  have h1 : (read s (sz s.nx) n).nx = 15 := hx
  have h2 : (read s (sz s.nx) n).sm = s.sm := by unfold read; simp only []; rw [if_pos hx]
  unfold fits
  rw [h1]
  simp only []
  rw [h2]
theorem fits16 {s : St} (hx : s.nx = 16) (n : Nat) : fits (read s (sz s.nx) n) n = false := by
  have h1 : (read s (sz s.nx) n).nx = 16 := hx
  unfold fits
  rw [h1]
  rfl
theorem g1_hd {s : St} (hx : s.nx ≤ 2) (x : Nat) : (g1 s x).nx = s.nx + 1 ∧ (g1 s x).gs = s.gs ∧ (g1 s x).ps = s.ps := by
  obtain ⟨nx, nu, bs, sm, em, gs, ps, ng, np, g, p⟩ := s
  have h : nx = 0 ∨ nx = 1 ∨ nx = 2 := by simp only at hx; omega
  rcases h with rfl | rfl | rfl <;> exact ⟨rfl, rfl, rfl⟩
theorem g1_3 {s : St} (hx : s.nx = 3) (hnu : s.nu = 0) (x : Nat) : (g1 s x).nx = 4 ∧ (g1 s x).gs = s.gs ∧ (g1 s x).ps = s.ps ∧ (g1 s x).em = x := by
  obtain ⟨nx, nu, bs, sm, em, gs, ps, ng, np, g, p⟩ := s
  simp only at hx hnu
  subst hx; subst hnu
  refine ⟨rfl, rfl, rfl, ?_⟩
  simp [g1, nxt, read, put, sz]
theorem g1_4 {s : St} (hx : s.nx = 4) (hnu : s.nu = 0) (x : Nat) : (g1 s x).nx = (if s.gs.length < x then 5 else 9) ∧ (g1 s x).gs = s.gs ∧ (g1 s x).ps = s.ps ∧ (g1 s x).em = s.em ∧ (g1 s x).ng = x := by
  obtain ⟨nx, nu, bs, sm, em, gs, ps, ng, np, g, p⟩ := s
  simp only at hx hnu
  subst hx; subst hnu
  refine ⟨?_, rfl, rfl, rfl, ?_⟩
  all_goals simp [g1, nxt, read, put, sz, after]
theorem g1_9 {s : St} (hx : s.nx = 9) (hnu : s.nu = 0) (x : Nat) : (g1 s x).nx = (if s.ps.length < x then 10 else 15) ∧ (g1 s x).gs = s.gs ∧ (g1 s x).ps = s.ps ∧ (g1 s x).em = s.em ∧ (g1 s x).np = x := by
  obtain ⟨nx, nu, bs, sm, em, gs, ps, ng, np, g, p⟩ := s
  simp only at hx hnu
  subst hx; subst hnu
  refine ⟨?_, rfl, rfl, rfl, ?_⟩
  all_goals simp [g1, nxt, read, put, sz, after]
theorem g1_15 {s : St} (hx : s.nx = 15) (x : Nat) : (g1 s x).nx = 16 ∧ (g1 s x).gs = s.gs ∧ (g1 s x).ps = s.ps ∧ (g1 s x).em = s.em := by
  obtain ⟨nx, nu, bs, sm, em, gs, ps, ng, np, g, p⟩ := s
  simp only at hx
  subst hx
  exact ⟨rfl, rfl, rfl, rfl⟩
/-- the row of a list, read -/
theorem row_sl {X : World} {base size n c : Nat} {e : TypeId} {ad : Option Addr} {xs : List Value} (h : X.ownsRow base e size (.slice ad n c) n xs) : Sl X ad n xs := by
  obtain ⟨ad', c', e1, hs, _⟩ := row_reads h
  cases e1
  exact hs
/-- a row under a reader's work -/
theorem row_read {X X' : World} {r mb base size n : Nat} {e : TypeId} {v : Value} {xs : List Value} (h : X.ownsRow base e size v n xs) (hb : (∃ xs, Blk X r xs 87) ∧ ∃ ys, Blk X mb ys 74) (h1 : e ≠ 87) (h2 : e ≠ 74) (k : Only [r, mb] X X') : X'.ownsRow base e size v n xs := by
  obtain ⟨⟨xs1, b1⟩, ys1, b2⟩ := hb
  have n1 := own_ne h b1 h1
  have n2 := own_ne h b2 h2
  refine ⟨h.1, ?_⟩
  rcases h.2 with q | ⟨g, cap, cur, rfl, hg, hh, q1, q2, q3, q4⟩
  · exact .inl q
  · have hlt : g < X.heap.size := (Array.getElem?_eq_some_iff.1 hh).1
    refine .inr ⟨g, cap, cur, rfl, hg, (k.block g hlt ?_).trans hh, q1, q2, q3, q4⟩
    intro hm
    simp only [Value.ownBlock, ne_eq, Option.some.injEq] at n1 n2
    rcases List.mem_cons.1 hm with e1 | hm
    · exact n1 e1
    · exact n2 (by simpa using hm)

/-- while the reference reads: the font, the results' places -/
structure GB (w : World) (r mb h fo z4 z5 : Nat) (em : Int) (gv pv : Value) (X : World) : Prop where
  on : Only [mb] w X
  fb : Blk X fo [.int .i64 em, gv, pv] 25
  b4 : Blk X z4 [.int .i64 0, .slice none 0 0, .slice none 0 0] 25
  b5 : Blk X z5 [.int .i64 0, .int .i64 0] 44
  hr : w.heap.size ≤ r ∧ w.heap.size ≤ h ∧ fo ≠ z4 ∧ w.heap.size ≤ fo
/-- rows of two types are two rows -/
theorem rows_ne {w : World} {base base' size size' n m : Nat} {e e' : TypeId} {u v : Value} {xs ys : List Value} (h : w.ownsRow base e size u n xs) (k : w.ownsRow base' e' size' v m ys) (hne : e ≠ e') : v.ownBlock = none ∨ v.ownBlock ≠ u.ownBlock := by
  rcases k.2 with ⟨rfl, _⟩ | ⟨g, cap, cur, rfl, _, hg, _⟩
  · exact .inl rfl
  · refine .inr (fun e1 => ?_)
    have hb : Blk w g cur.toList e' := by simpa [Blk] using hg
    exact own_ne h hb hne (by rw [← e1]; rfl)
section
variable {w : World} {r mb h fo z4 z5 : Nat} {em : Int} {gv pv : Value} {X X' : World}
theorem GB.read (g : GB w r mb h fo z4 z5 em gv pv X) (hb : (∃ xs, Blk X r xs 87) ∧ ∃ ys, Blk X mb ys 74) (k : Only [r, mb] X X') : GB w r mb h fo z4 z5 em gv pv X' := by
  have kp := kp_of hb k (by intro q hq; simpa using hq)
  refine ⟨?_, kp _ _ _ (by decide) (by decide) g.fb, kp _ _ _ (by decide) (by decide) g.b4, kp _ _ _ (by decide) (by decide) g.b5, g.hr⟩
  exact ⟨k.os.trans g.on.os, k.tape.trans g.on.tape, k.output.trans g.on.output, Nat.le_trans g.on.size k.size, fun j hj hn => (k.block j (Nat.lt_of_lt_of_le hj g.on.size) (by
    have := g.hr.1
    simp only [List.mem_cons, List.not_mem_nil, or_false] at hn ⊢
    omega)).trans (g.on.block j hj hn)⟩
theorem GB.below (g : GB w r mb h fo z4 z5 em gv pv X) (k : Below X.heap.size X X') : GB w r mb h fo z4 z5 em gv pv X' :=
  ⟨g.on.trans ((Only.ofBelow k).mono (by simp)), g.fb.below k, g.b4.below k, g.b5.below k, g.hr⟩
theorem GB.grown (g : GB w r mb h fo z4 z5 em gv pv X) {e : TypeId} {size n : Nat} {v : Value} {xs : List Value} (hw : X.ownsRow h e size v n xs) (h1 : e ≠ 25) (h2 : e ≠ 44) (k : X.grownBy X' v.ownBlock) : GB w r mb h fo z4 z5 em gv pv X' :=
  ⟨⟨k.os.trans g.on.os, k.tape.trans g.on.tape, k.output.trans g.on.output, Nat.le_trans g.on.size k.size, fun j hj hn => (k.block j (Nat.lt_of_lt_of_le hj g.on.size) (fun e1 => by
    have := (hw.lt j e1.symm).1
    have := g.hr.2.1
    omega)).trans (g.on.block j hj hn)⟩, blk_grown g.fb k (own_ne hw g.fb h1), blk_grown g.b4 k (own_ne hw g.b4 h1), blk_grown g.b5 k (own_ne hw g.b5 h2), g.hr⟩
theorem GB.setf {x : Int} (g : GB w r mb h fo z4 z5 x gv pv X) (v : Value) {em' : Int} (hv : v = .int .i64 em' := by rfl) (h5 : z5 < fo) : GB w r mb h fo z4 z5 em' gv pv (X.setCell ⟨fo, 0, none⟩ v) := by
  subst hv
  exact ⟨g.on.set (p := ⟨fo, 0, none⟩) (.inr g.hr.2.2.2) _, g.fb.set 0 _, oth g.b4 (Ne.symm g.hr.2.2.1), oth g.b5 (Nat.ne_of_lt h5), g.hr⟩
theorem TA.grown {b : ByteArray} {RES : M × ((Int × Nat) ⊕ St)} {s : St} (t : TA r mb b RES s X) {e : TypeId} {size n : Nat} {v : Value} {xs : List Value} (hw : X.ownsRow h e size v n xs) (h1 : e ≠ 87) (h2 : e ≠ 74) (k : X.grownBy X' v.ownBlock) : TA r mb b RES s X' := by
  have rs : ∀ {i ke fa : Int} {m : M}, RS X r mb b i ke fa m → RS X' r mb b i ke fa m := fun q => ⟨blk_grown q.blk k (own_ne hw q.blk h1), blk_grown q.mt k (own_ne hw q.mt h2)⟩
  rcases t with ⟨i, m, q⟩ | ⟨i, a, e, m, q, q2⟩
  · exact .inl ⟨i, m, rs q.rs, q.ok, q.le, q.at_, q.sm, q.nu, q.bs⟩
  · exact .inr ⟨i, a, e, m, rs q, q2⟩
end
theorem info33p : (Try.prog.info? 33).map (fun i => (i.zero, i.size, i.bytes)) = some (some (.agg #[.int .i64 0, .int .i64 0, .int .i64 0, .int .i64 0]), 4, 32) := info45
theorem run_build22 {a : Act} {w : World} {o : Oper} {x : Operand} {v0 v1 v2 v3 : Int} (hop : o.op = .buildSlice 22 1 #[(0, x)]) (hx : a.eval x = .agg #[.int .i64 v0, .int .i64 v1, .int .i64 v2, .int .i64 v3]) : (execOp a.eval o).run Try.prog w = .ok (.value (.slice (some ⟨w.heap.size, 0, none⟩) 1 1)) (w.alloc (.cells #[.int .i64 v0, .int .i64 v1, .int .i64 v2, .int .i64 v3] 33)) := by
  simp only [execOp, hop]
  simp only [List.map_toArray, List.map_cons, List.map_nil, hx]
  go_simp
theorem run_build23 {a : Act} {w : World} {o : Oper} {x : Operand} {v0 v1 v3 v4 : Int} {v2 : Bool} (hop : o.op = .buildSlice 23 1 #[(0, x)]) (hx : a.eval x = .agg #[.int .i64 v0, .int .i64 v1, .bool v2, .int .i64 v3, .int .i64 v4]) : (execOp a.eval o).run Try.prog w = .ok (.value (.slice (some ⟨w.heap.size, 0, none⟩) 1 1)) (w.alloc (.cells #[.int .i64 v0, .int .i64 v1, .bool v2, .int .i64 v3, .int .i64 v4] 35)) := by
  simp only [execOp, hop]
  simp only [List.map_toArray, List.map_cons, List.map_nil, hx]
  go_simp
theorem run_call39 {a : Act} {w : World} {o : Oper} {x y : Operand} {u v : Value} (hop : o.op = .call { callee := .value (.func 39), args := #[x, y], argTypes := #[85, 25] }) (hx : a.eval x = u) (hy : a.eval y = v) : (execOp a.eval o).run Try.prog w = .ok (.enter 39 #[u, v]) w := by
  simp only [execOp, hop]
  rw [← hx, ← hy]
  go_simp
theorem run_call40 {a : Act} {w : World} {o : Oper} {x y : Operand} {u v : Value} (hop : o.op = .call { callee := .value (.func 40), args := #[x, y], argTypes := #[85, 25] }) (hx : a.eval x = u) (hy : a.eval y = v) : (execOp a.eval o).run Try.prog w = .ok (.enter 40 #[u, v]) w := by
  simp only [execOp, hop]
  rw [← hx, ← hy]
  go_simp
theorem run_store22 {a : Act} {w : World} {o : Oper} {p x : Operand} {d i : Nat} {v c : Value} {n cap : Nat} {ad : Option Addr} (hop : o.op = .store 22 p x) (hp : a.eval p = .pointer (some ⟨d, i, none⟩)) (hx : a.eval x = v) (hv : v = .slice ad n cap) (hc : w.cell? ⟨d, i, none⟩ = some c) (hf : w.frozen? ⟨d, i, none⟩ = false) : (execOp a.eval o).run Try.prog w = .ok .skip (w.setCell ⟨d, i, none⟩ v) := by
  subst hv
  simp only [execOp, hop, hp, hx]; go_simp
theorem run_store23 {a : Act} {w : World} {o : Oper} {p x : Operand} {d i : Nat} {v c : Value} {n cap : Nat} {ad : Option Addr} (hop : o.op = .store 23 p x) (hp : a.eval p = .pointer (some ⟨d, i, none⟩)) (hx : a.eval x = v) (hv : v = .slice ad n cap) (hc : w.cell? ⟨d, i, none⟩ = some c) (hf : w.frozen? ⟨d, i, none⟩ = false) : (execOp a.eval o).run Try.prog w = .ok .skip (w.setCell ⟨d, i, none⟩ v) := by
  subst hv
  simp only [execOp, hop, hp, hx]; go_simp
theorem TA.tf {F : Prop} {r mb : Nat} {b : ByteArray} {RES : M × ((Int × Nat) ⊕ St)} {s : St} {W : World} (h : TA r mb b RES s W) (hF : F) : TAF F r mb b RES s W := Or.elim h (fun q => .inl ⟨hF, q⟩) .inr
theorem bl_cut (s : ByteArray) (j : Nat) : bl (s.extract 0 j) = (bl s).take j := by
  unfold bl
  rw [ByteArray.data_extract, Array.toList_extract, List.extract_eq_take_drop, List.map_take, List.map_drop, Nat.sub_zero, List.drop_zero]
/-- the bytes of a string, laid anew -/
theorem sl_bytes (w : World) (s : ByteArray) (cap : Nat) (e : TypeId) (mk : Nat × Nat) : Sl (w.drew.alloc (.cells (bytesRow s cap) e mk)) (some ⟨w.heap.size, 0, none⟩) s.size (u8s (bl s)) := fun _ => ⟨w.heap.size, 0, rfl, by simp, fun j u hj => by
  have hl : j < s.size := by
    have := (List.getElem?_eq_some_iff.1 hj).1
    rw [u8s_len, bl_length] at this
    exact this
  rw [u8s_at (bl_at s j hl)] at hj
  cases hj
  rw [Nat.zero_add]
  have h2 := World.cell?_alloc_mark w.drew (bytesRow s cap) e mk j
  exact h2.trans (bytesRow_at s cap j hl)⟩
theorem results16 {W : World} {h z : Nat} {a b c x y : Value} (hA : Blk W h [a, b, c] 25) (hB : Blk W z [x, y] 44) {tmps : Array Value} (h4 : tmps[4]? = some (.pointer (some ⟨h, 0, none⟩))) (h5 : tmps[5]? = some (.pointer (some ⟨z, 0, none⟩))) :
    (results Try.f16 tmps).run Try.prog W = .ok (.tuple #[.agg #[a, b, c], .agg #[x, y]]) W := by
  have m0 : W.cell? ⟨h, 0, none⟩ = some a := hA.cell 0
  have m1 : W.cell? ⟨h, 1, none⟩ = some b := hA.cell 1
  have m2 : W.cell? ⟨h, 2, none⟩ = some c := hA.cell 2
  have n0 : W.cell? ⟨z, 0, none⟩ = some x := hB.cell 0
  have n1 : W.cell? ⟨z, 1, none⟩ = some y := hB.cell 1
  simp [results, Try.results16, go_sem, h4, h5, m0, m1, m2, n0, n1]
/-- the answer laid -/
abbrev putR2 (W : World) (h z : Nat) (a b c x y : Value) : World := ((((W.setCell ⟨h, 0, none⟩ a).setCell ⟨h, 1, none⟩ b).setCell ⟨h, 2, none⟩ c).setCell ⟨z, 0, none⟩ x).setCell ⟨z, 1, none⟩ y
theorem putR2_all {w W : World} {h z mb : Nat} {p q u v t : Value} (hh : w.heap.size = h) (hz : h < z) (hA : Blk W h [p, q, u] 25) (hB : Blk W z [v, t] 44) (hO : Only [mb] w W) {xs : List Value} (hM : Blk W mb xs 74) (hmb : mb < h) (a b c x y : Value) :
    Blk (putR2 W h z a b c x y) h [a, b, c] 25 ∧ Blk (putR2 W h z a b c x y) z [x, y] 44 ∧ Only [mb] w (putR2 W h z a b c x y) ∧ Blk (putR2 W h z a b c x y) mb xs 74 ∧ Only [h, z] W (putR2 W h z a b c x y) :=
  ⟨((((hA.set 0 a).set 1 b).set 2 c).other _ x (by simp; omega)).other _ y (by simp; omega), ((((hB.other _ a (by simp; omega)).other _ b (by simp; omega)).other _ c (by simp; omega)).set 0 x).set 1 y,
   ((((hO.set (p := ⟨h, 0, none⟩) (.inr (by simp; omega)) a).set (p := ⟨h, 1, none⟩) (.inr (by simp; omega)) b).set (p := ⟨h, 2, none⟩) (.inr (by simp; omega)) c).set (p := ⟨z, 0, none⟩) (.inr (by simp; omega)) x).set (p := ⟨z, 1, none⟩) (.inr (by simp; omega)) y,
   ((((hM.other _ a (by simp; omega)).other _ b (by simp; omega)).other _ c (by simp; omega)).other _ x (by simp; omega)).other _ y (by simp; omega),
   (((((Only.refl _ W).set (p := ⟨h, 0, none⟩) (.inl (by simp)) a).set (p := ⟨h, 1, none⟩) (.inl (by simp)) b).set (p := ⟨h, 2, none⟩) (.inl (by simp)) c).set (p := ⟨z, 0, none⟩) (.inl (by simp)) x).set (p := ⟨z, 1, none⟩) (.inl (by simp)) y⟩
/-- a round in which a row grows by what a call answers: what holds behind its effects -/
def RSt (h : Nat) (e : TypeId) (size : Nat) (B : World → Prop) (B' : Value → World → Prop) (row : Value) (n : Nat) (cells : List Value) (T0 : World → Prop) (T1 : List Value → World → Prop) (j : Nat) (X : World) (v : Value) : Prop :=
  (j < 4 → B X) ∧
  (if j = 0 then X.ownsRow h e size row n cells ∧ T0 X
   else if j = 1 then ∃ nc, v = .agg nc.toArray ∧ X.ownsRow h e size row n cells ∧ T1 nc X
   else if j = 2 then ∃ nc q, v = .slice (some ⟨q, 0, none⟩) 1 1 ∧ Blk X q nc e ∧ X.ownsRow h e size row n cells ∧ T1 nc X
   else if j = 3 then ∃ nc, X.ownsRow h e size v (n + 1) (cells ++ nc) ∧ T1 nc X
   else ∃ nc row', X.ownsRow h e size row' (n + 1) (cells ++ nc) ∧ B' row' X ∧ T1 nc X)
theorem GB.setg {w : World} {r mb h fo z4 z5 : Nat} {em : Int} {gv pv : Value} {X : World} (g : GB w r mb h fo z4 z5 em gv pv X) (v : Value) (h5 : z5 < fo) : GB w r mb h fo z4 z5 em v pv (X.setCell ⟨fo, 1, none⟩ v) :=
  ⟨g.on.set (p := ⟨fo, 1, none⟩) (.inr g.hr.2.2.2) _, g.fb.set 1 _, oth g.b4 (Ne.symm g.hr.2.2.1), oth g.b5 (Nat.ne_of_lt h5), g.hr⟩
theorem GB.setp {w : World} {r mb h fo z4 z5 : Nat} {em : Int} {gv pv : Value} {X : World} (g : GB w r mb h fo z4 z5 em gv pv X) (v : Value) (h5 : z5 < fo) : GB w r mb h fo z4 z5 em gv v (X.setCell ⟨fo, 2, none⟩ v) :=
  ⟨g.on.set (p := ⟨fo, 2, none⟩) (.inr g.hr.2.2.2) _, g.fb.set 2 _, oth g.b4 (Ne.symm g.hr.2.2.1), oth g.b5 (Nat.ne_of_lt h5), g.hr⟩
/-- a row of one, read -/
theorem sl_one {X : World} {q : Nat} {nc : List Value} {t : TypeId} (h : Blk X q nc t) : Sl X (some ⟨q, 0, none⟩) 1 nc := fun _ => ⟨q, 0, rfl, h.lt, fun j u hj => by rw [Nat.zero_add]; exact (h.cell j).trans hj⟩
theorem row_set {X : World} {base size n b o : Nat} {e t : TypeId} {v u : Value} {xs ys : List Value} (h : X.ownsRow base e size v n xs) (k : Blk X b ys t) (het : e ≠ t) : (X.setCell ⟨b, o, none⟩ u).ownsRow base e size v n xs := ownsRow_setCell_other h (own_ne h k het) u
end Go.Proofs.Ytdinlaoimpoolaa
