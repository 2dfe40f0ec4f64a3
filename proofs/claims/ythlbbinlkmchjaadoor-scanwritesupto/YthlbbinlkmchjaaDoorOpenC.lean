/- A list of characters that came in, read as a list. -/
import Derived.Test.YthlbbinlkmchjaaDoorRows
import Derived.Test.YthlbbinlkmchjaaDoorText
import Derived.ProofKit
import Derived.OpenShut
import Derived.ChangeOld
import Derived.Below
import Derived.Deep.Slices
namespace Go.Proofs.YthlbbinlkmchjaaDoor
open Go.ChangeShapes Go.WideShapes Go.ChangeAt Go.RowKit Go.Deep
set_option linter.unusedVariables false

theorem laidOut : laidOutB Tryd.prog = true := by kernel_rfl
theorem cells50 : Tryd.prog.cellsOf 50 = 3 := by kernel_rfl
theorem cells3' : Tryd.prog.cellsOf 3 = 1 := by kernel_rfl
theorem one_int {H : Type} {enc : TypeId × Value → H} {W : World} {n o : Nat} {cs : List Value} {y : Option (DataW H × List MemPlace)} (hy : y.isSome = true)
    (h : DataW.trod enc Tryd.prog W 0 (fun _ => true) true n 3 ((cs.drop o).take 1) = y) : ∃ z : Int, cs[o]? = some (.int .i64 z) := by
  obtain ⟨y, rfl⟩ := Option.isSome_iff_exists.1 hy
  obtain ⟨z, e0, _, wz⟩ := DataW.trod_int Tryd.underlying3 h
  refine ⟨z, ?_⟩
  have : ((cs.drop o).take 1)[0]? = some (.int .i64 z) := by rw [e0]; rfl
  simpa [List.getElem?_take, List.getElem?_drop] using this
/-- cell by cell is as a list -/
theorem at_of {α : Type} {en : α → List Value} {k : Nat} (hk : ∀ x, (en x).length = k) {W : World} {b off len : Nat} {f : Nat → α} (hb : b < W.heap.size) (h : ∀ i, i < len → ∀ c u, c < k → (en (f i))[c]? = some u → W.cell? ⟨b, off + i * k + c, none⟩ = some u) :
    At W b off (((List.range len).map f).flatMap en) := by
  refine ⟨hb, fun j u hj => ?_⟩
  have hl : j < len * k := by
    have := (List.getElem?_eq_some_iff.1 hj).1
    rw [flat_len hk] at this
    simpa using this
  have k0 : 0 < k := by
    rcases Nat.eq_zero_or_pos k with q | q
    · subst q; simp at hl
    · exact q
  have hi : j / k < len := (Nat.div_lt_iff_lt_mul k0).2 hl
  have hm := Nat.mod_lt j k0
  have hx : ((List.range len).map f)[j / k]? = some (f (j / k)) := by simp [hi]
  have e : j / k * k + j % k = j := Nat.div_add_mod' j k
  have g := flat_get hk hm hx
  rw [e, hj] at g
  have := h (j / k) hi (j % k) u hm g.symm
  rwa [Nat.add_assoc, e] at this
theorem bulk_len {H : Type} (l : List (DataW H)) : l.length ≤ Rows.uptoBulkAll l := by
  induction l with
  | nil => simp [Rows.uptoBulkAll]
  | cons x r ih =>
    have h1 : 1 ≤ Rows.uptoBulk x := by
      cases x with
      | lit l => cases l <;> simp [Rows.uptoBulk]
      | nil => simp [Rows.uptoBulk]
      | ptr d => simp [Rows.uptoBulk]
      | slice elems spare => simp [Rows.uptoBulk]
      | agg parts => simp [Rows.uptoBulk]
      | iface t d => simp [Rows.uptoBulk]
      | map entries => simp [Rows.uptoBulk]
      | held h => simp [Rows.uptoBulk]
    simp only [Rows.uptoBulkAll, List.length_cons]; omega
theorem list_of {α : Type} [Inhabited α] {en : α → List Value} {k : Nat} (k0 : 0 < k) (hk : ∀ x, (en x).length = k) {t e : TypeId} (ht : Tryd.prog.underlying t = some (.slice e)) (ck : Tryd.prog.cellsOf e = k) {H : Type} {enc : TypeId × Value → H} {W : World}
    (rd : ∀ (n : Nat) (cs : List Value) (x : DataW H × List MemPlace), DataW.trod enc Tryd.prog W 0 (fun _ => true) true n e cs = some x → ∃ a : α, cs = en a) {fuel : Nat} {a0 : Option Addr} {len cap : Nat} {x : DataW H × List MemPlace} (h : DataW.trod enc Tryd.prog W 0 (fun _ => true) true fuel t [.slice a0 len cap] = some x) :
    ∃ xs : List α, len = xs.length ∧ xs.length ≤ 9223372036854775807 ∧ Sl W a0 xs.length (xs.flatMap en) ∧ xs.length ≤ Rows.uptoBulk x.1 := by
  rcases open_slice ht h with ⟨hcs, _⟩ | ⟨a, len', cap', m, n, D, Pl, hcs, _, hl, hm, hmm, hx, hi⟩
  · simp at hcs
    exact ⟨[], hcs.2.1, by simp, Sl.nil, Nat.zero_le _⟩
  · simp at hcs
    obtain ⟨rfl, rfl, rfl⟩ := hcs
    simp only [if_true] at hmm
    subst hmm
    rw [ck] at hi
    have key : ∀ i, i < len → ∃ a' : α, W.cells? 0 (a.add (i * k)) k = some (en a') := by
      intro i hilt
      obtain ⟨cs', h1, h2⟩ := hi i (by omega)
      obtain ⟨a', rfl⟩ := rd n cs' _ h2
      exact ⟨a', h1⟩
    obtain ⟨f, hf⟩ : ∃ f : Nat → α, ∀ i, i < len → W.cells? 0 (a.add (i * k)) k = some (en (f i)) :=
      ⟨fun i => if h : i < len then Classical.choose (key i h) else default, fun i h => by simp only [h, dif_pos]; exact Classical.choose_spec (key i h)⟩
    refine ⟨(List.range len).map f, by simp, by simp; unfold maxLen at hm; omega, ?_, ?_⟩
    · rw [List.length_map, List.length_range]
      intro h0
      have hlen : 0 < len := Nat.pos_iff_ne_zero.2 h0
      obtain ⟨b, off, spot⟩ := a
      have cell : ∀ i, i < len → ∀ c u, c < k → (en (f i))[c]? = some u → W.cell? (((⟨b, off, spot⟩ : Addr).add (i * k)).add c) = some u := by
        intro i hilt c u hc hu
        obtain ⟨_, _, g⟩ := World.cells?_some (hf i hilt)
        exact (g c hc).trans hu
      have h00 : ∃ u, (en (f 0))[0]? = some u := ⟨_, List.getElem?_eq_getElem (by rw [hk]; exact k0)⟩
      obtain ⟨u0, hu0⟩ := h00
      have c00 := cell 0 hlen 0 u0 k0 hu0
      have hspot : spot = none := by simpa [Addr.add] using World.cell?_spot c00
      subst hspot
      have hb : b < W.heap.size := by have := World.block_lt_of_cell? W _ c00; simpa [Addr.add] using this
      refine ⟨b, off, rfl, at_of hk hb fun i hilt c u hc hu => ?_⟩
      have := cell i hilt c u hc hu
      simpa only [add_plain] using this
    · rw [hx]
      have := bulk_len ((List.range len).map D)
      simp only [Rows.uptoBulk]
      simp at this ⊢
      omega
theorem read_char {H : Type} {enc : TypeId × Value → H} {W : World} (n : Nat) (cs : List Value) (x : DataW H × List MemPlace) (h : DataW.trod enc Tryd.prog W 0 (fun _ => true) true n 50 cs = some x) : ∃ g : Int × Int × Int, cs = chI g := by
  obtain ⟨xs, n', _, _, hcl, hxl, hfs⟩ := DataW.trod_struct Tryd.underlying50 h
  have hx3 : xs.length = 3 := hxl
  have hc3 : cs.length = 3 := by rw [hcl, cells50]
  have get : ∀ o, o < 3 → (xs[o]?).isSome = true := fun o ho => by simp; omega
  have f0 : DataW.trod enc Tryd.prog W 0 (fun _ => true) true n' 3 ((cs.drop 0).take (Tryd.prog.cellsOf 3)) = xs[0]? := hfs 0 _ rfl
  have f1 : DataW.trod enc Tryd.prog W 0 (fun _ => true) true n' 3 ((cs.drop 1).take (Tryd.prog.cellsOf 3)) = xs[1]? := hfs 1 _ rfl
  have f2 : DataW.trod enc Tryd.prog W 0 (fun _ => true) true n' 3 ((cs.drop 2).take (Tryd.prog.cellsOf 3)) = xs[2]? := hfs 2 _ rfl
  rw [cells3'] at f0 f1 f2
  obtain ⟨a, e0⟩ := one_int (get 0 (by omega)) f0
  obtain ⟨b, e1⟩ := one_int (get 1 (by omega)) f1
  obtain ⟨c, e2⟩ := one_int (get 2 (by omega)) f2
  refine ⟨(a, b, c), List.ext_getElem? fun i => ?_⟩
  match i with
  | 0 => exact e0
  | 1 => exact e1
  | 2 => exact e2
  | i + 3 => rw [List.getElem?_eq_none (by omega)]; rfl
/-- A LIST OF CHARACTERS -/
theorem chars_of {H : Type} {enc : TypeId × Value → H} {W : World} {fuel : Nat} {a0 : Option Addr} {len cap : Nat} {x : DataW H × List MemPlace} (h : DataW.trod enc Tryd.prog W 0 (fun _ => true) true fuel 44 [.slice a0 len cap] = some x) :
    ∃ xs : List (Int × Int × Int), len = xs.length ∧ xs.length ≤ 9223372036854775807 ∧ Sl W a0 xs.length (xs.flatMap chI) ∧ xs.length ≤ Rows.uptoBulk x.1 :=
  list_of (en := chI) (by decide) chI_len Tryd.underlying44 cells50 read_char h
end Go.Proofs.YthlbbinlkmchjaaDoor
