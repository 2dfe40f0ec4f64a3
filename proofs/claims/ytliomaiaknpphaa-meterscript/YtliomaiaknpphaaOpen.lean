import Derived.Test.YtliomaiaknpphaaRows
import Derived.Test.YtliomaiaknpphaaActs
import Derived.ProofKit
import Derived.OpenShut
import Derived.ChangeOld
import Derived.Below
import Derived.Deep.Slices
namespace Go.Proofs.Ytliomaiaknpphaa
open Go.ChangeShapes Go.WideShapes Go.ChangeAt Go.RowKit Go.Deep
set_option linter.unusedVariables false

theorem laidOut : laidOutB Try.prog = true := by kernel_rfl
theorem cells34 : Try.prog.cellsOf 34 = 3 := by kernel_rfl
theorem cells3 : Try.prog.cellsOf 3 = 1 := by kernel_rfl

theorem one_int {H : Type} {enc : TypeId × Value → H} {W : World} {n o : Nat} {cs : List Value} {y : Option (DataW H × List MemPlace)} (hl : cs.length = 3) (ho : o < 3) (hy : y.isSome = true)
    (h : DataW.trod enc Try.prog W 0 (fun _ => true) true n 3 ((cs.drop o).take 1) = y) : ∃ z : Int, cs[o]? = some (.int .i64 z) ∧ In64 z := by
  obtain ⟨y, rfl⟩ := Option.isSome_iff_exists.1 hy
  obtain ⟨z, e0, _, wz⟩ := DataW.trod_int Try.underlying3 h
  have b := bounds_i64 wz
  refine ⟨z, ?_, b.1, b.2⟩
  have : ((cs.drop o).take 1)[0]? = some (.int .i64 z) := by rw [e0]; rfl
  simpa [List.getElem?_take, List.getElem?_drop] using this

theorem bulk_len {H : Type} (l : List (DataW H)) : l.length ≤ Rows.uptoBulkAll l := by
  induction l with
  | nil => simp [Rows.uptoBulkAll]
  | cons x r ih =>
    have h1 : 1 ≤ Rows.uptoBulk x := by
      cases x with
      | lit l => cases l <;> simp [Rows.uptoBulk]
      | nil => simp [Rows.uptoBulk]
      | ptr d => simp [Rows.uptoBulk]
      | slice elems spare => simp [Rows.uptoBulk]
      | agg parts => simp [Rows.uptoBulk]
      | iface t d => simp [Rows.uptoBulk]
      | map entries => simp [Rows.uptoBulk]
      | held h => simp [Rows.uptoBulk]
    simp only [Rows.uptoBulkAll, List.length_cons]; omega

/-- a script that came in: none, or a row of acts -/
theorem acts_of {H : Type} {enc : TypeId × Value → H} {W : World} {fuel : Nat} {a0 : Option Addr} {len cap : Nat} {x : DataW H × List MemPlace} (hf : DataW.trod enc Try.prog W 0 (fun _ => true) true fuel 22 [.slice a0 len cap] = some x) :
    len ≤ Rows.uptoBulk x.1 ∧ (len = 0 ∨ ∃ b off f, a0 = some ⟨b, off, none⟩ ∧ b < W.heap.size ∧ len ≤ 9223372036854775807 ∧ Acts W b off len f) := by
  rcases open_slice Try.underlying22 hf with ⟨hcs, _⟩ | ⟨a, len', cap', m, n, D, Pl, hcs, _, hl, hm, hmm, hx, hi⟩
  · simp at hcs; exact ⟨by omega, Or.inl hcs.2.1⟩
  · simp at hcs
    obtain ⟨rfl, rfl, rfl⟩ := hcs
    simp only [if_true] at hmm
    subst hmm
    rw [cells34] at hi
    refine ⟨?_, ?_⟩
    · rw [hx]
      have := bulk_len ((List.range len).map D)
      simp only [Rows.uptoBulk]
      simp at this
      omega
    by_cases h0 : len = 0
    · exact Or.inl h0
    · refine Or.inr ?_
      obtain ⟨b, off, spot⟩ := a
      obtain ⟨cs0, g1, g2⟩ := hi 0 (by omega)
      obtain ⟨_, glen, gc⟩ := World.cells?_some g1
      obtain ⟨v0, hv0⟩ : ∃ v, cs0[0]? = some v := ⟨_, List.getElem?_eq_getElem (by omega)⟩
      have gc0 := (gc 0 (by omega)).trans hv0
      have hspot : spot = none := by simpa [Addr.add] using World.cell?_spot gc0
      subst hspot
      have hb : b < W.heap.size := by have := World.block_lt_of_cell? W _ gc0; simpa [Addr.add] using this
      have key : ∀ i, i < len → ∃ a : Int × Int × Int, ActAt W b (off + i * 3) a := by
        intro i hilt
        obtain ⟨cs', h1, h2⟩ := hi i (by omega)
        obtain ⟨_, hlen, hc⟩ := World.cells?_some h1
        obtain ⟨xs, n', _, _, _, hxl, hfs⟩ := DataW.trod_struct Try.underlying34 h2
        have hx3 : xs.length = 3 := hxl
        have get : ∀ o, o < 3 → (xs[o]?).isSome = true := fun o ho => by simp; omega
        have f0 : DataW.trod enc Try.prog W 0 (fun _ => true) true n' 3 ((cs'.drop 0).take (Try.prog.cellsOf 3)) = xs[0]? := hfs 0 _ rfl
        have f1 : DataW.trod enc Try.prog W 0 (fun _ => true) true n' 3 ((cs'.drop 1).take (Try.prog.cellsOf 3)) = xs[1]? := hfs 1 _ rfl
        have f2 : DataW.trod enc Try.prog W 0 (fun _ => true) true n' 3 ((cs'.drop 2).take (Try.prog.cellsOf 3)) = xs[2]? := hfs 2 _ rfl
        rw [cells3] at f0 f1 f2
        obtain ⟨k, c0, b0⟩ := one_int hlen (by omega) (get 0 (by omega)) f0
        obtain ⟨on, c1, b1⟩ := one_int hlen (by omega) (get 1 (by omega)) f1
        obtain ⟨z, c2, b2⟩ := one_int hlen (by omega) (get 2 (by omega)) f2
        have at_ : ∀ o, o < 3 → W.cell? ⟨b, off + i * 3 + o, none⟩ = cs'[o]? := fun o ho => by
          have := hc o ho
          simpa only [add_plain] using this
        exact ⟨(k, on, z), (at_ 0 (by omega)).trans c0, (at_ 1 (by omega)).trans c1, (at_ 2 (by omega)).trans c2, b0, b1, b2⟩
      refine ⟨b, off, fun i => if h : i < len then Classical.choose (key i h) else (0, 0, 0), rfl, hb, by unfold maxLen at hm; omega, ?_⟩
      intro i hilt
      have := Classical.choose_spec (key i hilt)
      simpa only [hilt, dif_pos] using this
end Go.Proofs.Ytliomaiaknpphaa
