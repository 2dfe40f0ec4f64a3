/- A map from runes to widths, the law's own: laid into, looked up. -/
import Derived.Test.YtnplplhhldpgmaaTake
namespace Go.Proofs.Ytnplplhhldpgmaa
open Go.RowKit Go.MapKept
open Go.ChangeMaps (setBlock)

def entw : Nat → List Gl → List MapEntry
  | _, [] => []
  | i, g :: gs => { key := .int .i64 g.1, val := .int .i64 g.2.1, born := i } :: entw (i + 1) gs
theorem entw_snoc (i : Nat) (gs : List Gl) (g : Gl) : entw i (gs ++ [g]) = entw i gs ++ [{ key := .int .i64 g.1, val := .int .i64 g.2.1, born := i + gs.length }] := by
  induction gs generalizing i with
  | nil => rfl
  | cons q gs ih => simp only [List.cons_append, entw, ih, List.length_cons]; rw [show i + 1 + gs.length = i + (gs.length + 1) by omega]
theorem nowing (r : Int) : ∀ (gs : List Gl) (n i : Nat), ∃ j, Instr.findNow (.int .i64) (.int .i64 r) (entw n gs) i = some ((lookG gs r).map fun g => (j, .int .i64 g.2.1))
  | [], _, _ => ⟨0, rfl⟩
  | g :: gs, n, i => by
    obtain ⟨j, hj⟩ := nowing r gs (n + 1) (i + 1)
    unfold lookG at hj ⊢
    by_cases h : g.1 = r
    · refine ⟨i, ?_⟩
      simp [entw, Instr.findNow, Instr.sameNow, h]
    · refine ⟨j, ?_⟩
      have h2 : ¬ r = g.1 := fun e => h e.symm
      have h3 : (r == g.1) = false := by simpa using h2
      simp only [entw, Instr.findNow, Instr.sameNow, if_true, h3, List.find?_cons, decide_eq_false h]
      exact hj
theorem findW (r : Int) (gs : List Gl) (w : World) : ∃ j, Sem.run Try.prog (Instr.findKey 3 (.int .i64 r) (entw 0 gs)) w = .ok ((lookG gs r).map fun g => (j, .int .i64 g.2.1)) w := by
  obtain ⟨j, hj⟩ := nowing r gs 0 0
  refine ⟨j, ?_⟩
  simp [Instr.findKey, run_underlying Try.underlying3, hj, Result.andThen]
def WideAt (W : World) (m : Nat) (gs : List Gl) : Prop := W.heap[m]? = some (.map (entw 0 gs).toArray gs.length)
theorem WideAt.lt {W : World} {m : Nat} {gs : List Gl} (h : WideAt W m gs) : m < W.heap.size := by
  unfold WideAt at h
  exact (Array.getElem?_eq_some_iff.1 h).1
theorem WideAt.below {W W' : World} {m : Nat} {gs : List Gl} (h : WideAt W m gs) (k : Below W.heap.size W W') : WideAt W' m gs := (k.block m h.lt).trans h
theorem checkedW (b : Bool) (r : Int) (w : World) : Sem.run Try.prog (Instr.checkKey b 10000 3 (.int .i64 r)) w = .ok () w := by
  cases b <;> kernel_rfl
theorem lookupW_run {W : World} {m : Nat} {gs : List Gl} (h : WideAt W m gs) (r : Int) : Sem.run Try.prog (Instr.lookup 47 (.map (some m)) (.int .i64 r) true) W = .ok (.tuple #[.int .i64 (gotG gs r).2.1, .bool (hasG gs r)]) W := by
  obtain ⟨j, hj⟩ := findW r gs W
  unfold gotG hasG
  cases hl : lookG gs r with
  | none =>
    rw [hl] at hj
    simp [Instr.lookup, run_underlying Try.underlying47, MapKept.run_getObj_map h, checkedW, hj, Result.andThen]
  | some g =>
    rw [hl] at hj
    simp [Instr.lookup, run_underlying Try.underlying47, MapKept.run_getObj_map h, checkedW, hj, Result.andThen]
theorem updateW_run {W : World} {m : Nat} {gs : List Gl} (h : WideAt W m gs) (g : Gl) (hn : lookG gs g.1 = none) :
    Sem.run Try.prog (Instr.mapUpdate 47 (.map (some m)) (.int .i64 g.1) (.int .i64 g.2.1)) W = .ok () (setBlock W m (.map (entw 0 (gs ++ [g])).toArray (gs ++ [g]).length)) := by
  obtain ⟨j, hj⟩ := findW g.1 gs W
  rw [hn] at hj
  have e : (entw 0 (gs ++ [g])).toArray = (entw 0 gs).toArray.push { key := .int .i64 g.1, val := .int .i64 g.2.1, born := gs.length } := by
    rw [entw_snoc, Nat.zero_add]; simp
  rw [e, List.length_append, List.length_singleton]
  simp [Instr.mapUpdate, run_underlying Try.underlying47, MapKept.run_getObj_map h, checkedW, hj, MapKept.run_setObj_map _ h, Result.andThen, setBlock]
theorem lookG_none {gs : List Gl} {k : Nat} {g : Gl} (hr : Rise gs) (h : gs[k]? = some g) : lookG (gs.take k) g.1 = none := by
  unfold lookG
  rw [List.find?_eq_none]
  intro x hx hc
  obtain ⟨i, hi⟩ := List.getElem?_of_mem hx
  rw [List.getElem?_take] at hi
  split at hi
  · rename_i hik
    have := hr i k x g hi h hik
    simp only [decide_eq_true_eq] at hc
    omega
  · cases hi
theorem lookG_at {gs : List Gl} {k : Nat} {g : Gl} (hr : Rise gs) (h : gs[k]? = some g) : gotG gs g.1 = g ∧ hasG gs g.1 = true := by
  have : lookG gs g.1 = some g := by
    unfold lookG
    cases hf : gs.find? (fun x => decide (x.1 = g.1)) with
    | none =>
      have := List.find?_eq_none.1 hf g (List.mem_of_getElem? h)
      simp at this
    | some x =>
      have hx := List.find?_some hf
      simp only [decide_eq_true_eq] at hx
      obtain ⟨i, hi⟩ := List.getElem?_of_mem (List.mem_of_find?_eq_some hf)
      rcases Nat.lt_trichotomy i k with q | q | q
      · have := hr i k x g hi h q; omega
      · subst q; rw [h] at hi; exact hi.symm
      · have := hr k i g x h hi q; omega
  unfold gotG hasG
  rw [this]
  exact ⟨rfl, rfl⟩
theorem lookP_at {ps : List Pr} {k : Nat} {p : Pr} (hr : RiseP ps) (h : ps[k]? = some p) : gotP ps p.1 p.2.1 = p ∧ hasP ps p.1 p.2.1 = true := by
  have hget : ∀ i j x y, ps[i]? = some x → ps[j]? = some y → i < j → ltP x y := fun i j x y hx hy hij => by
    have := (List.pairwise_iff_getElem.1 hr) i j (List.getElem?_eq_some_iff.1 hx).1 (List.getElem?_eq_some_iff.1 hy).1 hij
    rwa [(List.getElem?_eq_some_iff.1 hx).2, (List.getElem?_eq_some_iff.1 hy).2] at this
  have : lookP ps p.1 p.2.1 = some p := by
    unfold lookP
    cases hf : ps.find? (fun x => decide (p.1 = x.1) && decide (p.2.1 = x.2.1)) with
    | none =>
      have := List.find?_eq_none.1 hf p (List.mem_of_getElem? h)
      simp at this
    | some x =>
      have hx := List.find?_some hf
      simp only [Bool.and_eq_true, decide_eq_true_eq] at hx
      obtain ⟨i, hi⟩ := List.getElem?_of_mem (List.mem_of_find?_eq_some hf)
      rcases Nat.lt_trichotomy i k with q | q | q
      · exact absurd hx (ltP_ne (hget i k x p hi h q))
      · subst q; rw [h] at hi; exact hi.symm
      · have := hget k i p x h hi q
        exact absurd ⟨hx.1.symm, hx.2.symm⟩ (ltP_ne this)
  unfold gotP hasP
  rw [this]
  exact ⟨rfl, rfl⟩
/-- what the pairs of a right font are to its glyphs -/
theorem pairs_ok {gs : List Gl} {q : Option Pr} {ps : List Pr} (h : prOK gs q ps = true) : ∀ p ∈ ps, pairOK gs p = true := by
  induction ps generalizing q with
  | nil => intro p hp; cases hp
  | cons x ps ih =>
    simp only [prOK, okP, Bool.and_eq_true] at h
    intro p hp
    rcases List.mem_cons.1 hp with rfl | hp
    · exact h.1.1
    · exact ih h.2 p hp
theorem pair_keeps {gs : List Gl} {p : Pr} (hu : ∀ g ∈ gs, units g = true) (h : pairOK gs p = true) : hasG gs p.1 = true ∧ hasG gs p.2.1 = true ∧ 0 ≤ (gotG gs p.1).2.1 + p.2.2.2.2 ∧ 0 ≤ (gotG gs p.2.1).2.1 + p.2.2.2.2 ∧ p.2.2.2.2 ≤ 16384 ∧ -16384 ≤ p.2.2.2.2 := by
  have w0 := wide_of hu p.1
  have w1 := wide_of hu p.2.1
  unfold pairOK at h
  simp only [Bool.and_eq_true] at h
  obtain ⟨h1, h2, h3⟩ := h
  split at h3
  · simp only [Bool.and_eq_true, decide_eq_true_eq] at h3
    refine ⟨h1, h2, ?_, ?_, ?_, ?_⟩ <;> omega
  · simp only [kernOK, Bool.and_eq_true, decide_eq_true_eq] at h3
    refine ⟨h1, h2, ?_, ?_, ?_, ?_⟩ <;> omega
end Go.Proofs.Ytnplplhhldpgmaa
