/- A font that came in, read as two lists. -/
import Derived.Test.YtdinlaoimpoolaaRows
import Derived.Test.YtdinlaoimpoolaaMemAll
import Derived.ProofKit
import Derived.OpenShut
import Derived.ChangeOld
import Derived.Below
import Derived.Deep.Slices
namespace Go.Proofs.Ytdinlaoimpoolaa
open Go.ChangeShapes Go.WideShapes Go.ChangeAt Go.RowKit Go.Deep
set_option linter.unusedVariables false

theorem laidOut : laidOutB Try.prog = true := by kernel_rfl
theorem cells25 : Try.prog.cellsOf 25 = 3 := by kernel_rfl
theorem cells45 : Try.prog.cellsOf 33 = 4 := by kernel_rfl
theorem cells52 : Try.prog.cellsOf 35 = 5 := by kernel_rfl
theorem cells22 : Try.prog.cellsOf 22 = 1 := by kernel_rfl
theorem cells23 : Try.prog.cellsOf 23 = 1 := by kernel_rfl
theorem cells3 : Try.prog.cellsOf 3 = 1 := by kernel_rfl
theorem cells4 : Try.prog.cellsOf 4 = 1 := by kernel_rfl
theorem one_int {H : Type} {enc : TypeId × Value → H} {W : World} {n o : Nat} {cs : List Value} {y : Option (DataW H × List MemPlace)} (hy : y.isSome = true)
    (h : DataW.trod enc Try.prog W 0 (fun _ => true) true n 3 ((cs.drop o).take 1) = y) : ∃ z : Int, cs[o]? = some (.int .i64 z) := by
  obtain ⟨y, rfl⟩ := Option.isSome_iff_exists.1 hy
  obtain ⟨z, e0, _, wz⟩ := DataW.trod_int Try.underlying3 h
  refine ⟨z, ?_⟩
  have : ((cs.drop o).take 1)[0]? = some (.int .i64 z) := by rw [e0]; rfl
  simpa [List.getElem?_take, List.getElem?_drop] using this
theorem one_bool {H : Type} {enc : TypeId × Value → H} {W : World} {n o : Nat} {cs : List Value} {y : Option (DataW H × List MemPlace)} (hy : y.isSome = true)
    (h : DataW.trod enc Try.prog W 0 (fun _ => true) true n 4 ((cs.drop o).take 1) = y) : ∃ z : Bool, cs[o]? = some (.bool z) := by
  obtain ⟨y, rfl⟩ := Option.isSome_iff_exists.1 hy
  obtain ⟨z, e0, _⟩ := DataW.trod_bool Try.underlying4 h
  refine ⟨z, ?_⟩
  have : ((cs.drop o).take 1)[0]? = some (.bool z) := by rw [e0]; rfl
  simpa [List.getElem?_take, List.getElem?_drop] using this
/-- cell by cell is as a list -/
theorem at_of {α : Type} {en : α → List Value} {k : Nat} (hk : ∀ x, (en x).length = k) {W : World} {b off len : Nat} {f : Nat → α} (hb : b < W.heap.size) (h : ∀ i, i < len → ∀ c u, c < k → (en (f i))[c]? = some u → W.cell? ⟨b, off + i * k + c, none⟩ = some u) :
    At W b off (((List.range len).map f).flatMap en) := by
  refine ⟨hb, fun j u hj => ?_⟩
  have hl : j < len * k := by
    have := (List.getElem?_eq_some_iff.1 hj).1
    rw [flat_len hk] at this
    simpa using this
  have k0 : 0 < k := by
    rcases Nat.eq_zero_or_pos k with q | q
    · subst q; simp at hl
    · exact q
  have hi : j / k < len := (Nat.div_lt_iff_lt_mul k0).2 hl
  have hm := Nat.mod_lt j k0
  have hx : ((List.range len).map f)[j / k]? = some (f (j / k)) := by simp [hi]
  have e : j / k * k + j % k = j := Nat.div_add_mod' j k
  have g := flat_get hk hm hx
  rw [e, hj] at g
  have := h (j / k) hi (j % k) u hm g.symm
  rwa [Nat.add_assoc, e] at this
theorem list_of {α : Type} [Inhabited α] {en : α → List Value} {k : Nat} (k0 : 0 < k) (hk : ∀ x, (en x).length = k) {t e : TypeId} (ht : Try.prog.underlying t = some (.slice e)) (ck : Try.prog.cellsOf e = k) {H : Type} {enc : TypeId × Value → H} {W : World}
    (rd : ∀ (n : Nat) (cs : List Value) (x : DataW H × List MemPlace), DataW.trod enc Try.prog W 0 (fun _ => true) true n e cs = some x → ∃ a : α, cs = en a) {fuel : Nat} {cs : List Value} {x : DataW H × List MemPlace} (h : DataW.trod enc Try.prog W 0 (fun _ => true) true fuel t cs = some x) :
    ∃ (ad : Option Addr) (xs : List α) (cap : Nat), cs = [.slice ad xs.length cap] ∧ xs.length ≤ 9223372036854775807 ∧ Sl W ad xs.length (xs.flatMap en) := by
  rcases open_slice ht h with ⟨hcs, _⟩ | ⟨a, len, cap, m, n, D, Pl, hcs, _, hl, hm, hmm, _, hi⟩
  · exact ⟨none, [], 0, hcs, by simp, Sl.nil⟩
  · simp only [if_true] at hmm
    subst hmm
    rw [ck] at hi
    have key : ∀ i, i < len → ∃ a' : α, W.cells? 0 (a.add (i * k)) k = some (en a') := by
      intro i hilt
      obtain ⟨cs', h1, h2⟩ := hi i (by omega)
      obtain ⟨a', rfl⟩ := rd n cs' _ h2
      exact ⟨a', h1⟩
    obtain ⟨f, hf⟩ : ∃ f : Nat → α, ∀ i, i < len → W.cells? 0 (a.add (i * k)) k = some (en (f i)) :=
      ⟨fun i => if h : i < len then Classical.choose (key i h) else default, fun i h => by simp only [h, dif_pos]; exact Classical.choose_spec (key i h)⟩
    refine ⟨some a, (List.range len).map f, m, by simpa using hcs, by simp; unfold maxLen at hm; omega, fun h0 => ?_⟩
    have hlen : 0 < len := by simpa [Nat.pos_iff_ne_zero] using h0
    obtain ⟨b, off, spot⟩ := a
    have cell : ∀ i, i < len → ∀ c u, c < k → (en (f i))[c]? = some u → W.cell? (((⟨b, off, spot⟩ : Addr).add (i * k)).add c) = some u := by
      intro i hilt c u hc hu
      obtain ⟨_, _, g⟩ := World.cells?_some (hf i hilt)
      exact (g c hc).trans hu
    have h00 : ∃ u, (en (f 0))[0]? = some u := ⟨_, List.getElem?_eq_getElem (by rw [hk]; exact k0)⟩
    obtain ⟨u0, hu0⟩ := h00
    have c00 := cell 0 hlen 0 u0 k0 hu0
    have hspot : spot = none := by simpa [Addr.add] using World.cell?_spot c00
    subst hspot
    have hb : b < W.heap.size := by have := World.block_lt_of_cell? W _ c00; simpa [Addr.add] using this
    refine ⟨b, off, rfl, at_of hk hb fun i hilt c u hc hu => ?_⟩
    have := cell i hilt c u hc hu
    simpa only [add_plain] using this
theorem read_glyph {H : Type} {enc : TypeId × Value → H} {W : World} (n : Nat) (cs : List Value) (x : DataW H × List MemPlace) (h : DataW.trod enc Try.prog W 0 (fun _ => true) true n 33 cs = some x) : ∃ g : Gl, cs = cg g := by
  obtain ⟨xs, n', _, _, hcl, hxl, hfs⟩ := DataW.trod_struct Try.underlying33 h
  have hx4 : xs.length = 4 := hxl
  have hc4 : cs.length = 4 := by rw [hcl, cells45]
  have get : ∀ o, o < 4 → (xs[o]?).isSome = true := fun o ho => by simp; omega
  have f0 : DataW.trod enc Try.prog W 0 (fun _ => true) true n' 3 ((cs.drop 0).take (Try.prog.cellsOf 3)) = xs[0]? := hfs 0 _ rfl
  have f1 : DataW.trod enc Try.prog W 0 (fun _ => true) true n' 3 ((cs.drop 1).take (Try.prog.cellsOf 3)) = xs[1]? := hfs 1 _ rfl
  have f2 : DataW.trod enc Try.prog W 0 (fun _ => true) true n' 3 ((cs.drop 2).take (Try.prog.cellsOf 3)) = xs[2]? := hfs 2 _ rfl
  have f3 : DataW.trod enc Try.prog W 0 (fun _ => true) true n' 3 ((cs.drop 3).take (Try.prog.cellsOf 3)) = xs[3]? := hfs 3 _ rfl
  rw [cells3] at f0 f1 f2 f3
  obtain ⟨a, e0⟩ := one_int (get 0 (by omega)) f0
  obtain ⟨b, e1⟩ := one_int (get 1 (by omega)) f1
  obtain ⟨c, e2⟩ := one_int (get 2 (by omega)) f2
  obtain ⟨d, e3⟩ := one_int (get 3 (by omega)) f3
  refine ⟨(a, b, c, d), List.ext_getElem? fun i => ?_⟩
  match i with
  | 0 => exact e0
  | 1 => exact e1
  | 2 => exact e2
  | 3 => exact e3
  | i + 4 => rw [List.getElem?_eq_none (by omega)]; rfl
theorem read_pair {H : Type} {enc : TypeId × Value → H} {W : World} (n : Nat) (cs : List Value) (x : DataW H × List MemPlace) (h : DataW.trod enc Try.prog W 0 (fun _ => true) true n 35 cs = some x) : ∃ p : Pr, cs = cp p := by
  obtain ⟨xs, n', _, _, hcl, hxl, hfs⟩ := DataW.trod_struct Try.underlying35 h
  have hx5 : xs.length = 5 := hxl
  have hc5 : cs.length = 5 := by rw [hcl, cells52]
  have get : ∀ o, o < 5 → (xs[o]?).isSome = true := fun o ho => by simp; omega
  have f0 : DataW.trod enc Try.prog W 0 (fun _ => true) true n' 3 ((cs.drop 0).take (Try.prog.cellsOf 3)) = xs[0]? := hfs 0 _ rfl
  have f1 : DataW.trod enc Try.prog W 0 (fun _ => true) true n' 3 ((cs.drop 1).take (Try.prog.cellsOf 3)) = xs[1]? := hfs 1 _ rfl
  have f2 : DataW.trod enc Try.prog W 0 (fun _ => true) true n' 4 ((cs.drop 2).take (Try.prog.cellsOf 4)) = xs[2]? := hfs 2 _ rfl
  have f3 : DataW.trod enc Try.prog W 0 (fun _ => true) true n' 3 ((cs.drop 3).take (Try.prog.cellsOf 3)) = xs[3]? := hfs 3 _ rfl
  have f4 : DataW.trod enc Try.prog W 0 (fun _ => true) true n' 3 ((cs.drop 4).take (Try.prog.cellsOf 3)) = xs[4]? := hfs 4 _ rfl
  rw [cells3] at f0 f1 f3 f4
  rw [cells4] at f2
  obtain ⟨a, e0⟩ := one_int (get 0 (by omega)) f0
  obtain ⟨b, e1⟩ := one_int (get 1 (by omega)) f1
  obtain ⟨c, e2⟩ := one_bool (get 2 (by omega)) f2
  obtain ⟨d, e3⟩ := one_int (get 3 (by omega)) f3
  obtain ⟨g, e4⟩ := one_int (get 4 (by omega)) f4
  refine ⟨(a, b, c, d, g), List.ext_getElem? fun i => ?_⟩
  match i with
  | 0 => exact e0
  | 1 => exact e1
  | 2 => exact e2
  | 3 => exact e3
  | 4 => exact e4
  | i + 5 => rw [List.getElem?_eq_none (by omega)]; rfl
/-- A FONT -/
theorem font_of {H : Type} {enc : TypeId × Value → H} {W : World} {fuel : Nat} {cs : List Value} {x : DataW H × List MemPlace} (h : DataW.trod enc Try.prog W 0 (fun _ => true) true fuel 25 cs = some x) :
    ∃ (em : Int) (ag ap : Option Addr) (gs : List Gl) (ps : List Pr) (ca cb : Nat), cs = [.int .i64 em, .slice ag gs.length ca, .slice ap ps.length cb] ∧ gs.length ≤ 9223372036854775807 ∧ ps.length ≤ 9223372036854775807 ∧ Sl W ag gs.length (gs.flatMap cg) ∧ Sl W ap ps.length (ps.flatMap cp) := by
  obtain ⟨xs, n', _, _, hcl, hxl, hfs⟩ := DataW.trod_struct Try.underlying25 h
  have hx3 : xs.length = 3 := hxl
  have hc3 : cs.length = 3 := by rw [hcl, cells25]
  have get : ∀ o, o < 3 → (xs[o]?).isSome = true := fun o ho => by simp; omega
  have f0 : DataW.trod enc Try.prog W 0 (fun _ => true) true n' 3 ((cs.drop 0).take (Try.prog.cellsOf 3)) = xs[0]? := hfs 0 _ rfl
  have f1 : DataW.trod enc Try.prog W 0 (fun _ => true) true n' 22 ((cs.drop 1).take (Try.prog.cellsOf 22)) = xs[1]? := hfs 1 _ rfl
  have f2 : DataW.trod enc Try.prog W 0 (fun _ => true) true n' 23 ((cs.drop 2).take (Try.prog.cellsOf 23)) = xs[2]? := hfs 2 _ rfl
  rw [cells3] at f0
  rw [cells22] at f1
  rw [cells23] at f2
  obtain ⟨em, e0⟩ := one_int (get 0 (by omega)) f0
  obtain ⟨y1, hy1⟩ := Option.isSome_iff_exists.1 (get 1 (by omega))
  obtain ⟨y2, hy2⟩ := Option.isSome_iff_exists.1 (get 2 (by omega))
  obtain ⟨ag, gs, ca, e1, l1, s1⟩ := list_of (en := cg) (by decide) cg_len Try.underlying22 cells45 read_glyph (f1.trans hy1)
  obtain ⟨ap, ps, cb, e2, l2, s2⟩ := list_of (en := cp) (by decide) cp_len Try.underlying23 cells52 read_pair (f2.trans hy2)
  refine ⟨em, ag, ap, gs, ps, ca, cb, List.ext_getElem? fun i => ?_, l1, l2, s1, s2⟩
  match i with
  | 0 => exact e0
  | 1 =>
    have := congrArg (·[0]?) e1
    simpa [List.getElem?_take, List.getElem?_drop] using this
  | 2 =>
    have := congrArg (·[0]?) e2
    simpa [List.getElem?_take, List.getElem?_drop] using this
  | i + 3 => rw [List.getElem?_eq_none (by omega)]; rfl
end Go.Proofs.Ytdinlaoimpoolaa
