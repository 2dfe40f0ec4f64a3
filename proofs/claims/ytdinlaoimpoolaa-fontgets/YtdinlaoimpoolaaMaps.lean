/- Glyphs and pairs held against one another; the table's map: laid into, looked up. -/
import Derived.Test.YtdinlaoimpoolaaAreAll
import Derived.Laws.StructEq
import Derived.MapKept
import Derived.Maps.RangeRun
namespace Go.Proofs.Ytdinlaoimpoolaa
open Go.RowKit Go.MapKept
open Go.ChangeMaps (setBlock)

theorem under45 : Try.prog.underlying 33 = some (.struct (Try.prog.fieldsOf 33)) := by kernel_rfl
theorem under52 : Try.prog.underlying 35 = some (.struct (Try.prog.fieldsOf 35)) := by kernel_rfl
theorem under74 : Try.prog.underlying 117 = some (.struct (Try.prog.fieldsOf 117)) := by kernel_rfl
theorem held45 : Try.prog.stoodInHeld 33 = false := by kernel_rfl
theorem held52 : Try.prog.stoodInHeld 35 = false := by kernel_rfl
theorem held74 : Try.prog.stoodInHeld 117 = false := by kernel_rfl
theorem fields45 : (Try.prog.fieldsOf 33).toList = [{ name := "Rune", type := 3, offset := 0, embedded := false, tag := "", pkgPath := "", byteOffset := 0 }, { name := "Width", type := 3, offset := 1, embedded := false, tag := "", pkgPath := "", byteOffset := 8 }, { name := "Height", type := 3, offset := 2, embedded := false, tag := "", pkgPath := "", byteOffset := 16 }, { name := "Depth", type := 3, offset := 3, embedded := false, tag := "", pkgPath := "", byteOffset := 24 }] := by kernel_rfl
theorem fields52 : (Try.prog.fieldsOf 35).toList = [{ name := "Left", type := 3, offset := 0, embedded := false, tag := "", pkgPath := "", byteOffset := 0 }, { name := "Right", type := 3, offset := 1, embedded := false, tag := "", pkgPath := "", byteOffset := 8 }, { name := "Is", type := 4, offset := 2, embedded := false, tag := "", pkgPath := "", byteOffset := 16 }, { name := "Lig", type := 3, offset := 3, embedded := false, tag := "", pkgPath := "", byteOffset := 24 }, { name := "Kern", type := 3, offset := 4, embedded := false, tag := "", pkgPath := "", byteOffset := 32 }] := by kernel_rfl
theorem fields74 : (Try.prog.fieldsOf 117).toList.map (fun f => (f.name, f.type, f.offset)) = [("left", 3, 0), ("right", 3, 1)] := by kernel_rfl
/-- a part of one cell -/
theorem part_at (t : TypeId) (ht : t = 3 ∨ t = 4) (cs : Array Value) (k : Nat) (x : Value) (hx : cs[k]? = some x) (w : World) : Sem.run Try.prog (part t cs k) w = .ok x w := by
  rcases ht with rfl | rfl
  · simp [part, Try.isAgg3, hx, Result.andThen]
  · simp [part, Try.isAgg4, hx, Result.andThen]
theorem eqInt (d : Nat) (a b : Int) (w : World) : Sem.run Try.prog (Op.equalIn (d + 1) 3 (.int .i64 a) (.int .i64 b)) w = .ok (a == b) w := run_equalIn_int w d 3 .i64 .i64 a b Try.underlying3
theorem eqBool (d : Nat) (a b : Bool) (w : World) : Sem.run Try.prog (Op.equalIn (d + 1) 4 (.bool a) (.bool b)) w = .ok (a == b) w := run_equalIn_bool' w d 4 a b Try.underlying4
theorem equalG (g h : Gl) (w : World) : Sem.run Try.prog (Op.equalIn 10000 33 (.agg (cg g).toArray) (.agg (cg h).toArray)) w = .ok (decide (g = h)) w := by
  obtain ⟨a0, a1, a2, a3⟩ := g
  obtain ⟨b0, b1, b2, b3⟩ := h
  rw [run_equalIn_agg w 9999 33 _ _ under45 held45, fields45]
  have p := fun (c : List Value) k x hx => part_at 3 (.inl rfl) c.toArray k x hx
  have p0 := p (cg (a0, a1, a2, a3)) 0 (.int .i64 a0) rfl
  have p1 := p (cg (a0, a1, a2, a3)) 1 (.int .i64 a1) rfl
  have p2 := p (cg (a0, a1, a2, a3)) 2 (.int .i64 a2) rfl
  have p3 := p (cg (a0, a1, a2, a3)) 3 (.int .i64 a3) rfl
  have q0 := p (cg (b0, b1, b2, b3)) 0 (.int .i64 b0) rfl
  have q1 := p (cg (b0, b1, b2, b3)) 1 (.int .i64 b1) rfl
  have q2 := p (cg (b0, b1, b2, b3)) 2 (.int .i64 b2) rfl
  have q3 := p (cg (b0, b1, b2, b3)) 3 (.int .i64 b3) rfl
  have e0 := eqInt 9998 a0 b0
  have e1 := eqInt 9998 a1 b1
  have e2 := eqInt 9998 a2 b2
  have e3 := eqInt 9998 a3 b3
  have hd : decide ((a0, a1, a2, a3) = (b0, b1, b2, b3)) = ((a0 == b0) && ((a1 == b1) && ((a2 == b2) && (a3 == b3)))) := by
    rw [Bool.eq_iff_iff]; simp
  rw [hd]
  simp only [Nat.reduceAdd] at e0 e1 e2 e3
  generalize (a0 == b0) = c0 at *
  generalize (a1 == b1) = c1 at *
  generalize (a2 == b2) = c2 at *
  generalize (a3 == b3) = c3 at *
  clear hd
  cases c0 <;> cases c1 <;> cases c2 <;> cases c3 <;> simp [Op.eqFields, p0, p1, p2, p3, q0, q1, q2, q3, e0, e1, e2, e3, Result.andThen]
theorem equalP (p q : Pr) (w : World) : Sem.run Try.prog (Op.equalIn 10000 35 (.agg (cp p).toArray) (.agg (cp q).toArray)) w = .ok (decide (p = q)) w := by
  obtain ⟨a0, a1, a2, a3, a4⟩ := p
  obtain ⟨b0, b1, b2, b3, b4⟩ := q
  rw [run_equalIn_agg w 9999 35 _ _ under52 held52, fields52]
  have p := fun (c : List Value) k x hx => part_at 3 (.inl rfl) c.toArray k x hx
  have b := fun (c : List Value) k x hx => part_at 4 (.inr rfl) c.toArray k x hx
  have p0 := p (cp (a0, a1, a2, a3, a4)) 0 (.int .i64 a0) rfl
  have p1 := p (cp (a0, a1, a2, a3, a4)) 1 (.int .i64 a1) rfl
  have p2 := b (cp (a0, a1, a2, a3, a4)) 2 (.bool a2) rfl
  have p3 := p (cp (a0, a1, a2, a3, a4)) 3 (.int .i64 a3) rfl
  have p4 := p (cp (a0, a1, a2, a3, a4)) 4 (.int .i64 a4) rfl
  have q0 := p (cp (b0, b1, b2, b3, b4)) 0 (.int .i64 b0) rfl
  have q1 := p (cp (b0, b1, b2, b3, b4)) 1 (.int .i64 b1) rfl
  have q2 := b (cp (b0, b1, b2, b3, b4)) 2 (.bool b2) rfl
  have q3 := p (cp (b0, b1, b2, b3, b4)) 3 (.int .i64 b3) rfl
  have q4 := p (cp (b0, b1, b2, b3, b4)) 4 (.int .i64 b4) rfl
  have e0 := eqInt 9998 a0 b0
  have e1 := eqInt 9998 a1 b1
  have e2 := eqBool 9998 a2 b2
  have e3 := eqInt 9998 a3 b3
  have e4 := eqInt 9998 a4 b4
  have hd : decide ((a0, a1, a2, a3, a4) = (b0, b1, b2, b3, b4)) = ((a0 == b0) && ((a1 == b1) && ((a2 == b2) && ((a3 == b3) && (a4 == b4))))) := by
    rw [Bool.eq_iff_iff]; simp
  rw [hd]
  simp only [Nat.reduceAdd] at e0 e1 e2 e3 e4
  generalize (a0 == b0) = c0 at *
  generalize (a1 == b1) = c1 at *
  generalize (a2 == b2) = c2 at *
  generalize (a3 == b3) = c3 at *
  generalize (a4 == b4) = c4 at *
  clear hd
  cases c0 <;> cases c1 <;> cases c2 <;> cases c3 <;> cases c4 <;> simp [Op.eqFields, p0, p1, p2, p3, p4, q0, q1, q2, q3, q4, e0, e1, e2, e3, e4, Result.andThen]
theorem neqG (g h : Gl) (w : World) : Sem.run Try.prog (binOp .neq 33 (.agg (cg g).toArray) (.agg (cg h).toArray)) w = .ok (.bool (!decide (g = h))) w := by
  rw [run_neq_struct, equalG]; rfl
theorem neqP (p q : Pr) (w : World) : Sem.run Try.prog (binOp .neq 35 (.agg (cp p).toArray) (.agg (cp q).toArray)) w = .ok (.bool (!decide (p = q))) w := by
  rw [run_neq_struct, equalP]; rfl

/-- a key of the table's map -/
def key (l r : Int) : Value := .agg #[.int .i64 l, .int .i64 r]
theorem checked (b : Bool) (l r : Int) (w : World) : Sem.run Try.prog (Instr.checkKey b 10000 117 (key l r)) w = .ok () w := by
  cases b <;> kernel_rfl
theorem two_fields {L : List Field} (h : L.map (fun f => (f.name, f.type, f.offset)) = [("left", 3, 0), ("right", 3, 1)]) :
    ∃ f1 f2 : Field, L = [f1, f2] ∧ (f1.name ≠ "_" ∧ f1.type = 3 ∧ f1.offset = 0) ∧ (f2.name ≠ "_" ∧ f2.type = 3 ∧ f2.offset = 1) := by
  cases L with
  | nil => cases h
  | cons f1 L =>
    cases L with
    | nil => simp at h
    | cons f2 L =>
      cases L with
      | cons f3 L => simp at h
      | nil =>
        simp only [List.map_cons, List.map_nil, List.cons.injEq, Prod.mk.injEq, and_true] at h
        obtain ⟨⟨n1, t1, o1⟩, n2, t2, o2⟩ := h
        exact ⟨f1, f2, rfl, ⟨by rw [n1]; decide, t1, o1⟩, by rw [n2]; decide, t2, o2⟩
theorem equalK (l r l2 r2 : Int) (w : World) : Sem.run Try.prog (Op.equal 117 (key l r) (key l2 r2)) w = .ok (decide (l = l2) && decide (r = r2)) w := by
  have hf : ∃ f1 f2 : Field, (Try.prog.fieldsOf 117).toList = [f1, f2] ∧ (f1.name ≠ "_" ∧ f1.type = 3 ∧ f1.offset = 0) ∧ (f2.name ≠ "_" ∧ f2.type = 3 ∧ f2.offset = 1) :=
    two_fields fields74
  obtain ⟨f1, f2, hl, ⟨n1, t1, o1⟩, ⟨n2, t2, o2⟩⟩ := hf
  unfold Op.equal Op.maxDepth key
  rw [run_equalIn_agg w 9999 117 _ _ under74 held74, hl]
  have p := fun (c : List Value) k x hx => part_at 3 (.inl rfl) c.toArray k x hx
  have p0 := p [.int .i64 l, .int .i64 r] 0 (.int .i64 l) rfl
  have p1 := p [.int .i64 l, .int .i64 r] 1 (.int .i64 r) rfl
  have q0 := p [.int .i64 l2, .int .i64 r2] 0 (.int .i64 l2) rfl
  have q1 := p [.int .i64 l2, .int .i64 r2] 1 (.int .i64 r2) rfl
  have e0 := eqInt 9998 l l2
  have e1 := eqInt 9998 r r2
  have hd : (decide (l = l2) && decide (r = r2)) = ((l == l2) && (r == r2)) := by
    rw [Bool.eq_iff_iff]; simp
  rw [hd]
  simp only [Nat.reduceAdd] at e0 e1
  generalize (l == l2) = c0 at *
  generalize (r == r2) = c1 at *
  clear hd
  cases c0 <;> cases c1 <;> simp [Op.eqFields, n1, t1, o1, n2, t2, o2, p0, p1, q0, q1, e0, e1, Result.andThen]

/-- the entries that the pairs make, from number i on -/
def ents : Nat → List Pr → List MapEntry
  | _, [] => []
  | i, p :: ps => { key := key p.1 p.2.1, val := .agg (cp p).toArray, born := i } :: ents (i + 1) ps
theorem ents_snoc (i : Nat) (ps : List Pr) (p : Pr) : ents i (ps ++ [p]) = ents i ps ++ [{ key := key p.1 p.2.1, val := .agg (cp p).toArray, born := i + ps.length }] := by
  induction ps generalizing i with
  | nil => rfl
  | cons q ps ih => simp only [List.cons_append, ents, ih, List.length_cons]; rw [show i + 1 + ps.length = i + (ps.length + 1) by omega]
theorem ents_len (i : Nat) (ps : List Pr) : (ents i ps).length = ps.length := by
  induction ps generalizing i with
  | nil => rfl
  | cons q ps ih => simp [ents, ih]
theorem ents_get (i : Nat) (ps : List Pr) (k : Nat) : (ents i ps)[k]? = (ps[k]?).map fun p => { key := key p.1 p.2.1, val := .agg (cp p).toArray, born := i + k } := by
  induction ps generalizing i k with
  | nil => rfl
  | cons q ps ih =>
    cases k with
    | zero => rfl
    | succ k => simp only [ents, List.getElem?_cons_succ, ih]; rw [show i + 1 + k = i + (k + 1) by omega]
/-- the pair of both -/
def lookP (ps : List Pr) (l r : Int) : Option Pr := ps.find? fun p => decide (l = p.1) && decide (r = p.2.1)
def gotP (ps : List Pr) (l r : Int) : Pr := (lookP ps l r).getD (0, 0, false, 0, 0)
def hasP (ps : List Pr) (l r : Int) : Bool := (lookP ps l r).isSome
theorem asking (l r : Int) (w : World) : ∀ (ps : List Pr) (n i : Nat), ∃ j, Sem.run Try.prog (Instr.findAsking 117 (key l r) (ents n ps) i) w = .ok ((lookP ps l r).map fun p => (j, .agg (cp p).toArray)) w
  | [], _, _ => ⟨0, rfl⟩
  | p :: ps, n, i => by
    obtain ⟨j, hj⟩ := asking l r w ps (n + 1) (i + 1)
    have hk := equalK l r p.1 p.2.1 w
    unfold lookP at hj ⊢
    simp only [ents, Instr.findAsking, Sem.run_bind, hk, Result.andThen_ok, List.find?_cons]
    cases hc : (decide (l = p.1) && decide (r = p.2.1)) with
    | true => exact ⟨i, by simp⟩
    | false => exact ⟨j, by simpa using hj⟩
theorem finding (l r : Int) (w : World) (ps : List Pr) (n : Nat) : ∃ j, Sem.run Try.prog (Instr.findKey 117 (key l r) (ents n ps)) w = .ok ((lookP ps l r).map fun p => (j, .agg (cp p).toArray)) w := by
  cases ps with
  | nil => exact ⟨0, by simp [Instr.findKey, run_underlying under74, Instr.findNow, ents, lookP, Result.andThen]⟩
  | cons p ps =>
    obtain ⟨j, hj⟩ := asking l r w (p :: ps) n 0
    refine ⟨j, ?_⟩
    rw [← hj]
    simp only [Instr.findKey, Sem.run_bind, run_underlying under74, Result.andThen_ok, ents, Instr.findNow, Instr.sameNow, key]

/-- the map in block m holds these pairs, in this order -/
def MapAt (W : World) (m : Nat) (ps : List Pr) : Prop := W.heap[m]? = some (.map (ents 0 ps).toArray ps.length)
theorem MapAt.lt {W : World} {m : Nat} {ps : List Pr} (h : MapAt W m ps) : m < W.heap.size := by
  unfold MapAt at h
  rcases Nat.lt_or_ge m W.heap.size with g | g
  · exact g
  · rw [Array.getElem?_eq_none g] at h; cases h
theorem MapAt.only {L : List Nat} {W W' : World} {m : Nat} {ps : List Pr} (h : MapAt W m ps) (k : Only L W W') (hn : m ∉ L) : MapAt W' m ps := (k.block m h.lt hn).trans h
theorem MapAt.below {W W' : World} {m : Nat} {ps : List Pr} (h : MapAt W m ps) (k : Below W.heap.size W W') : MapAt W' m ps := (k.block m h.lt).trans h
theorem lookup_run {W : World} {m : Nat} {ps : List Pr} (h : MapAt W m ps) (l r : Int) : Sem.run Try.prog (Instr.lookup 95 (.map (some m)) (key l r) true) W = .ok (.tuple #[.agg (cp (gotP ps l r)).toArray, .bool (hasP ps l r)]) W := by
  obtain ⟨j, hj⟩ := finding l r W ps 0
  unfold gotP hasP
  cases hl : lookP ps l r with
  | none =>
    rw [hl] at hj
    simp [Instr.lookup, run_underlying Try.underlying95, MapKept.run_getObj_map h, checked, hj, Result.andThen]
    rfl
  | some p =>
    rw [hl] at hj
    simp [Instr.lookup, run_underlying Try.underlying95, MapKept.run_getObj_map h, checked, hj, Result.andThen]
theorem update_run {W : World} {m : Nat} {ps : List Pr} (h : MapAt W m ps) (p : Pr) (hn : lookP ps p.1 p.2.1 = none) :
    Sem.run Try.prog (Instr.mapUpdate 95 (.map (some m)) (key p.1 p.2.1) (.agg (cp p).toArray)) W = .ok () (setBlock W m (.map (ents 0 (ps ++ [p])).toArray (ps ++ [p]).length)) := by
  obtain ⟨j, hj⟩ := finding p.1 p.2.1 W ps 0
  rw [hn] at hj
  have e : (ents 0 (ps ++ [p])).toArray = (ents 0 ps).toArray.push { key := key p.1 p.2.1, val := .agg (cp p).toArray, born := ps.length } := by
    rw [ents_snoc, Nat.zero_add]; simp
  rw [e, List.length_append, List.length_singleton]
  simp [Instr.mapUpdate, run_underlying Try.underlying95, MapKept.run_getObj_map h, checked, hj, MapKept.run_setObj_map _ h, Result.andThen, setBlock]
theorem set_heap (W : World) (m : Nat) (o : Obj) (hm : m < W.heap.size) : (setBlock W m o).heap[m]? = some o ∧ (∀ k, k ≠ m → (setBlock W m o).heap[k]? = W.heap[k]?) ∧ (setBlock W m o).heap.size = W.heap.size := by
  refine ⟨by simp [setBlock, hm], fun k hk => by simp [setBlock, Ne.symm hk], by simp [setBlock]⟩
theorem only_set {L : List Nat} {A W : World} (h : Only L A W) (m : Nat) (o : Obj) (hm : m < W.heap.size) (hl : m ∈ L ∨ A.heap.size ≤ m) : Only L A (setBlock W m o) :=
  ⟨h.os, h.tape, h.output, by rw [(set_heap W m o hm).2.2]; exact h.size, fun k hk hn => by
    rw [(set_heap W m o hm).2.1 k (fun e => by subst e; rcases hl with hl | hl; exact hn hl; omega)]
    exact h.block k hk hn⟩
end Go.Proofs.Ytdinlaoimpoolaa
