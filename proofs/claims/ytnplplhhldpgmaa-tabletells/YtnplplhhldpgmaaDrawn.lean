/- A map's pairs as they are drawn: what has come, and that it all has come at the end. -/
import Derived.Test.YtnplplhhldpgmaaField
import Derived.Maps.Range
namespace Go.Proofs.Ytnplplhhldpgmaa
open Go.RowKit

/-- the pairs of these numbers, in this order -/
def come (ps : List Pr) (seen : List Nat) : List Pr := seen.filterMap fun i => ps[i]?
theorem come_snoc {ps : List Pr} {seen : List Nat} {i : Nat} {p : Pr} (h : ps[i]? = some p) : come ps (seen ++ [i]) = come ps seen ++ [p] := by
  unfold come
  rw [List.filterMap_append]
  simp [h]
theorem come_range (ps : List Pr) : come ps (List.range ps.length) = ps := by
  unfold come
  have h : (List.range ps.length).map (fun i => ps[i]?) = ps.map some := by
    apply List.ext_getElem?
    intro k
    simp only [List.getElem?_map]
    rcases Nat.lt_or_ge k ps.length with q | q
    · rw [List.getElem?_range q, List.getElem?_eq_getElem q]; simp [q]
    · rw [List.getElem?_eq_none (by simpa using q), List.getElem?_eq_none q]; rfl
  have e : (fun i : Nat => ps[i]?) = id ∘ fun i : Nat => ps[i]? := rfl
  rw [e, ← List.filterMap_map, h, List.filterMap_map]
  simp
theorem come_all {ps : List Pr} {seen : List Nat} (hd : seen.Nodup) (hl : ∀ i ∈ seen, i < ps.length) (ha : ∀ i, i < ps.length → i ∈ seen) : (come ps seen).Perm ps := by
  have hp : seen.Perm (List.range ps.length) := (List.perm_ext_iff_of_nodup hd List.nodup_range).2 fun i => by
    rw [List.mem_range]
    exact ⟨hl i, ha i⟩
  have := hp.filterMap fun i : Nat => ps[i]?
  unfold come
  have e := come_range ps
  unfold come at e
  rwa [e] at this
theorem ents_mem {ps : List Pr} {x : MapEntry} (h : x ∈ ents 0 ps) : ∃ i p, ps[i]? = some p ∧ x = { key := key p.1 p.2.1, val := .agg (cp p).toArray, born := i } := by
  obtain ⟨k, hk⟩ := List.getElem?_of_mem h
  rw [ents_get] at hk
  cases hp : ps[k]? with
  | none => rw [hp] at hk; cases hk
  | some p =>
    rw [hp] at hk
    simp only [Option.map_some, Option.some.injEq, Nat.zero_add] at hk
    exact ⟨k, p, hp, hk.symm⟩
theorem ents_born (ps : List Pr) : ((ents 0 ps).map (·.born)) = List.range ps.length := by
  apply List.ext_getElem?
  intro k
  rw [List.getElem?_map, ents_get]
  rcases Nat.lt_or_ge k ps.length with q | q
  · rw [List.getElem?_eq_getElem q, List.getElem?_range q]; simp
  · rw [List.getElem?_eq_none q, List.getElem?_eq_none (by simpa using q)]; rfl
open Go.ChangeMaps (setBlock)
/-- a walk over the map, these having come -/
def Going (W : World) (it m : Nat) (ps qs : List Pr) : Prop := ∃ (seen : Array Nat) (c0 : Nat), W.heap[it]? = some (.mapIter (some m) ps.length seen c0) ∧ ps.length ≤ c0 ∧ seen.toList.Nodup ∧ (∀ i ∈ seen.toList, i < ps.length) ∧ qs = come ps seen.toList ∧ MapAt W m ps
theorem going_start {W : World} {m : Nat} {ps : List Pr} (hm : MapAt W m ps) : Going (W.alloc (.mapIter (some m) ps.length #[] ps.length)) W.heap.size m ps [] :=
  ⟨#[], ps.length, heap_alloc_new W _, Nat.le_refl _, by simp, by simp, rfl, hm.below ((Below.refl _ W).alloc (Nat.le_refl _) _)⟩
/-- it goes by two blocks that are no cells -/
theorem Going.of {W W' : World} {it m : Nat} {ps qs : List Pr} (h : Going W it m ps qs) (h1 : ∀ o, W.heap[it]? = some o → o.isCells = false → W'.heap[it]? = some o) (h2 : ∀ o, W.heap[m]? = some o → o.isCells = false → W'.heap[m]? = some o) : Going W' it m ps qs := by
  obtain ⟨seen, c0, a1, a2, a3, a4, a5, a6⟩ := h
  exact ⟨seen, c0, h1 _ a1 rfl, a2, a3, a4, a5, h2 _ a6 rfl⟩
theorem going_keeps {W W' : World} {it m : Nat} {ps qs : List Pr} (h : Going W it m ps qs) (hk : ∀ (k : Nat) (o : Obj), W.heap[k]? = some o → o.isCells = false → W'.heap[k]? = some o) : Going W' it m ps qs ∧ W'.rangeLeft m it = W.rangeLeft m it := by
  refine ⟨h.of (fun o => hk it o) (fun o => hk m o), ?_⟩
  obtain ⟨seen, c0, a1, _, _, _, _, a6⟩ := h
  unfold MapAt at a6
  simp only [World.rangeLeft, a1, a6, hk it _ a1 rfl, hk m _ a6 rfl]
theorem Going.len {W : World} {it m : Nat} {ps qs : List Pr} (h : Going W it m ps qs) : qs.length ≤ ps.length := by
  obtain ⟨seen, c0, _, _, a3, a4, rfl, _⟩ := h
  unfold come
  exact Nat.le_trans (List.length_filterMap_le _ _) (Go.nodup_lt_length _ _ a3 a4)
/-- THE STEP -/
theorem Going.step {W : World} {it m : Nat} {ps qs : List Pr} (h : Going W it m ps qs) (ty : TypeId) :
    (qs.Perm ps ∧ Sem.run Try.prog (Instr.next (.pointer (some ⟨it, 0, none⟩)) false ty) W = .ok (.tuple #[.bool false]) W) ∨
    ∃ p W', Sem.run Try.prog (Instr.next (.pointer (some ⟨it, 0, none⟩)) false ty) W = .ok (.tuple #[.bool true, key p.1 p.2.1, .agg (cp p).toArray]) W' ∧ Sem.run Try.prog (Instr.entry (.pointer (some ⟨it, 0, none⟩))) W' = .ok (.tuple #[key p.1 p.2.1, .agg (cp p).toArray]) W' ∧
      Going W' it m ps (qs ++ [p]) ∧ Only [it] W W' ∧ W'.heap.size = W.heap.size ∧ W'.rangeLeft m it < W.rangeLeft m it := by
  obtain ⟨seen, c0, a1, a2, a3, a4, rfl, a6⟩ := h
  have hold : ∀ x ∈ (ents 0 ps).toArray.toList, x.born < ps.length := by
    intro x hx
    obtain ⟨i, p, hp, rfl⟩ := ents_mem (by simpa using hx)
    exact (List.getElem?_eq_some_iff.1 hp).1
  have hne : it ≠ m := by
    intro e; subst e
    unfold MapAt at a6
    rw [a1] at a6; cases a6
  rcases run_next_at (P := Try.prog) W ty it m ps.length c0 seen _ _ a1 a6 hold a2 with ⟨h0, hrun⟩ | ⟨e, he, w1, hal, hrun⟩
  · refine .inl ⟨come_all a3 a4 fun i hi => ?_, hrun⟩
    obtain ⟨p, hp⟩ := some_at hi
    have hx : ({ key := key p.1 p.2.1, val := .agg (cp p).toArray, born := i } : MapEntry) ∈ (ents 0 ps).toArray.toList := by
      have := ents_get 0 ps i
      rw [hp] at this
      simp only [Option.map_some, Nat.zero_add] at this
      simpa using List.mem_of_getElem? this
    have := all_seen _ seen h0 _ hx
    simpa using this
  · obtain ⟨hem, hes⟩ := mem_left he
    obtain ⟨i, p, hp, rfl⟩ := ents_mem (by simpa using hem)
    have hi := (List.getElem?_eq_some_iff.1 hp).1
    have hr1 : w1.heap[it]? = some (.mapIter (some m) ps.length seen c0) := by rcases hal with rfl | rfl <;> exact a1
    have hm1 : MapAt w1 m ps := by rcases hal with rfl | rfl <;> exact a6
    have hlt : it < w1.heap.size := (Array.getElem?_eq_some_iff.1 hr1).1
    have hset := set_heap w1 it (.mapIter (some m) ps.length (seen.push i) ps.length) hlt
    have hm2 : MapAt (setBlock w1 it (.mapIter (some m) ps.length (seen.push i) ps.length)) m ps := (hset.2.1 m (Ne.symm hne)).trans hm1
    have ho : Only [it] W w1 := by rcases hal with rfl | rfl; exact Only.refl _ _; exact (Only.refl _ _).drew
    have hsz : w1.heap.size = W.heap.size := by rcases hal with rfl | rfl <;> rfl
    refine .inr ⟨p, _, hrun, run_entry_at _ it m ps.length seen _ _ _ hset.1 hm2 hem ?_, ⟨seen.push i, ps.length, hset.1, Nat.le_refl _, ?_, ?_, ?_, hm2⟩, only_set ho it _ hlt (.inl (by simp)), by rw [hset.2.2, hsz], ?_⟩
    · show ((ents 0 ps).toArray.toList.map (·.born)).Nodup
      have : (ents 0 ps).toArray.toList = ents 0 ps := by simp
      rw [this, ents_born]
      exact List.nodup_range
    · rw [Array.toList_push]
      refine List.nodup_append.2 ⟨a3, by simp, ?_⟩
      intro x hx y hy exy
      rw [List.mem_singleton.1 hy] at exy
      subst exy
      have : seen.contains x = true := by simpa using hx
      simp only at hes
      rw [this] at hes; cases hes
    · intro j hj
      rw [Array.toList_push] at hj
      rcases List.mem_append.1 hj with hj | hj
      · exact a4 j hj
      · rw [List.mem_singleton.1 hj]; exact hi
    · rw [Array.toList_push, come_snoc hp]
    · unfold MapAt at a6 hm2
      simp only [World.rangeLeft, a1, a6, hset.1, hm2]
      exact left_shrinks _ seen _ he
end Go.Proofs.Ytnplplhhldpgmaa
