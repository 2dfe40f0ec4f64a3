/- A list of nodes that came in, read as a list. -/
import Derived.Test.YtmlhibcbgdhadaaDoorRows
import Derived.Test.YtmlhibcbgdhadaaDoorNode
import Derived.ProofKit
import Derived.OpenShut
import Derived.ChangeOld
import Derived.Below
import Derived.Deep.Slices
namespace Go.Proofs.YtmlhibcbgdhadaaDoor
open Go.ChangeShapes Go.WideShapes Go.ChangeAt Go.RowKit Go.Deep
set_option linter.unusedVariables false

theorem laidOut : laidOutB Tryd.prog = true := by kernel_rfl
theorem oCells42 : Tryd.prog.cellsOf 42 = 13 := by kernel_rfl
theorem oCells44 : Tryd.prog.cellsOf 44 = 3 := by kernel_rfl
theorem oCells40 : Tryd.prog.cellsOf 40 = 1 := by kernel_rfl
theorem oCells3 : Tryd.prog.cellsOf 3 = 1 := by kernel_rfl
theorem oCells9 : Tryd.prog.cellsOf 9 = 1 := by kernel_rfl
theorem one_int {H : Type} {enc : TypeId × Value → H} {W : World} {n o : Nat} {cs : List Value} {y : Option (DataW H × List MemPlace)} (hy : y.isSome = true)
    (h : DataW.trod enc Tryd.prog W 0 (fun _ => true) true n 3 ((cs.drop o).take 1) = y) : ∃ z : Int, cs[o]? = some (.int .i64 z) ∧ I64 z := by
  obtain ⟨y, rfl⟩ := Option.isSome_iff_exists.1 hy
  obtain ⟨z, e0, _, wz⟩ := DataW.trod_int Tryd.underlying3 h
  refine ⟨z, ?_, ?_⟩
  · have : ((cs.drop o).take 1)[0]? = some (.int .i64 z) := by rw [e0]; rfl
    simpa [List.getElem?_take, List.getElem?_drop] using this
  · unfold I64; simpa [Lit.wf, IntKind.min, IntKind.max, IntKind.signed, IntKind.bits] using wz
theorem one_string {H : Type} {enc : TypeId × Value → H} {W : World} {n o : Nat} {cs : List Value} {y : Option (DataW H × List MemPlace)} (hy : y.isSome = true)
    (h : DataW.trod enc Tryd.prog W 0 (fun _ => true) true n 9 ((cs.drop o).take 1) = y) : ∃ z : ByteArray, cs[o]? = some (.string z) ∧ z.size ≤ 9223372036854775807 := by
  obtain ⟨y, rfl⟩ := Option.isSome_iff_exists.1 hy
  obtain ⟨z, e0, _, wz⟩ := DataW.trod_string Tryd.underlying9 h
  refine ⟨z, ?_, by unfold maxLen at wz; omega⟩
  have : ((cs.drop o).take 1)[0]? = some (.string z) := by rw [e0]; rfl
  simpa [List.getElem?_take, List.getElem?_drop] using this
/-- cell by cell is as a list -/
theorem at_of {α : Type} {en : α → List Value} {k : Nat} (hk : ∀ x, (en x).length = k) {W : World} {b off len : Nat} {f : Nat → α} (hb : b < W.heap.size) (h : ∀ i, i < len → ∀ c u, c < k → (en (f i))[c]? = some u → W.cell? ⟨b, off + i * k + c, none⟩ = some u) :
    At W b off (((List.range len).map f).flatMap en) := by
  refine ⟨hb, fun j u hj => ?_⟩
  have hl : j < len * k := by
    have := (List.getElem?_eq_some_iff.1 hj).1
    rw [flat_len hk] at this
    simpa using this
  have k0 : 0 < k := by
    rcases Nat.eq_zero_or_pos k with q | q
    · subst q; simp at hl
    · exact q
  have hi : j / k < len := (Nat.div_lt_iff_lt_mul k0).2 hl
  have hm := Nat.mod_lt j k0
  have hx : ((List.range len).map f)[j / k]? = some (f (j / k)) := by simp [hi]
  have e : j / k * k + j % k = j := Nat.div_add_mod' j k
  have g := flat_get hk hm hx
  rw [e, hj] at g
  have := h (j / k) hi (j % k) u hm g.symm
  rwa [Nat.add_assoc, e] at this
theorem list_of {α : Type} [Inhabited α] {en : α → List Value} {p : α → Prop} {k : Nat} (k0 : 0 < k) (hk : ∀ x, (en x).length = k) {t e : TypeId} (ht : Tryd.prog.underlying t = some (.slice e)) (ck : Tryd.prog.cellsOf e = k) {H : Type} {enc : TypeId × Value → H} {W : World}
    (rd : ∀ (n : Nat) (cs : List Value) (x : DataW H × List MemPlace), DataW.trod enc Tryd.prog W 0 (fun _ => true) true n e cs = some x → ∃ a : α, cs = en a ∧ p a) {fuel : Nat} {cs : List Value} {x : DataW H × List MemPlace} (h : DataW.trod enc Tryd.prog W 0 (fun _ => true) true fuel t cs = some x) :
    ∃ a0 cap, ∃ xs : List α, cs = [.slice a0 xs.length cap] ∧ xs.length ≤ cap ∧ xs.length ≤ 9223372036854775807 ∧ Sl W a0 xs.length (xs.flatMap en) ∧ ∀ x ∈ xs, p x := by
  rcases open_slice ht h with ⟨hcs, _⟩ | ⟨a, len, cap, m, n, D, Pl, hcs, _, hl, hm, hmm, hx, hi⟩
  · exact ⟨none, 0, [], hcs, by simp, by simp, Sl.nil, by simp⟩
  · simp only [if_true] at hmm
    subst hmm
    rw [ck] at hi
    have key : ∀ i, i < len → ∃ a' : α, W.cells? 0 (a.add (i * k)) k = some (en a') ∧ p a' := by
      intro i hilt
      obtain ⟨cs', h1, h2⟩ := hi i (by omega)
      obtain ⟨a', rfl, hp⟩ := rd n cs' _ h2
      exact ⟨a', h1, hp⟩
    obtain ⟨f, hf⟩ : ∃ f : Nat → α, ∀ i, i < len → W.cells? 0 (a.add (i * k)) k = some (en (f i)) ∧ p (f i) :=
      ⟨fun i => if h : i < len then Classical.choose (key i h) else default, fun i h => by simp only [h, dif_pos]; exact Classical.choose_spec (key i h)⟩
    refine ⟨some a, m, (List.range len).map f, by rw [hcs]; simp, by simp; omega, by simp; unfold maxLen at hm; omega, ?_, ?_⟩
    · rw [List.length_map, List.length_range]
      intro h0
      have hlen : 0 < len := Nat.pos_iff_ne_zero.2 h0
      obtain ⟨b, off, spot⟩ := a
      have cell : ∀ i, i < len → ∀ c u, c < k → (en (f i))[c]? = some u → W.cell? (((⟨b, off, spot⟩ : Addr).add (i * k)).add c) = some u := by
        intro i hilt c u hc hu
        obtain ⟨_, _, g⟩ := World.cells?_some (hf i hilt).1
        exact (g c hc).trans hu
      have h00 : ∃ u, (en (f 0))[0]? = some u := ⟨_, List.getElem?_eq_getElem (by rw [hk]; exact k0)⟩
      obtain ⟨u0, hu0⟩ := h00
      have c00 := cell 0 hlen 0 u0 k0 hu0
      have hspot : spot = none := by simpa [Addr.add] using World.cell?_spot c00
      subst hspot
      have hb : b < W.heap.size := by have := World.block_lt_of_cell? W _ c00; simpa [Addr.add] using this
      refine ⟨b, off, rfl, at_of hk hb fun i hilt c u hc hu => ?_⟩
      have := cell i hilt c u hc hu
      simpa only [add_plain] using this
    · intro x hx
      obtain ⟨i, hi', rfl⟩ := List.mem_map.1 hx
      exact (hf i (List.mem_range.1 hi')).2
theorem read_char {H : Type} {enc : TypeId × Value → H} {W : World} (n : Nat) (cs : List Value) (x : DataW H × List MemPlace) (h : DataW.trod enc Tryd.prog W 0 (fun _ => true) true n 44 cs = some x) : ∃ g : Int × Int × Int, cs = chI g ∧ True := by
  obtain ⟨xs, n', _, _, hcl, hxl, hfs⟩ := DataW.trod_struct Tryd.underlying44 h
  have hx3 : xs.length = 3 := hxl
  have hc3 : cs.length = 3 := by rw [hcl, oCells44]
  have get : ∀ o, o < 3 → (xs[o]?).isSome = true := fun o ho => by simp; omega
  have f0 : DataW.trod enc Tryd.prog W 0 (fun _ => true) true n' 3 ((cs.drop 0).take (Tryd.prog.cellsOf 3)) = xs[0]? := hfs 0 _ rfl
  have f1 : DataW.trod enc Tryd.prog W 0 (fun _ => true) true n' 3 ((cs.drop 1).take (Tryd.prog.cellsOf 3)) = xs[1]? := hfs 1 _ rfl
  have f2 : DataW.trod enc Tryd.prog W 0 (fun _ => true) true n' 3 ((cs.drop 2).take (Tryd.prog.cellsOf 3)) = xs[2]? := hfs 2 _ rfl
  rw [oCells3] at f0 f1 f2
  obtain ⟨a, e0, -⟩ := one_int (get 0 (by omega)) f0
  obtain ⟨b, e1, -⟩ := one_int (get 1 (by omega)) f1
  obtain ⟨c, e2, -⟩ := one_int (get 2 (by omega)) f2
  refine ⟨(a, b, c), List.ext_getElem? fun i => ?_, trivial⟩
  match i with
  | 0 => exact e0
  | 1 => exact e1
  | 2 => exact e2
  | i + 3 => rw [List.getElem?_eq_none (by omega)]; rfl
instance : Inhabited (Nd × Value) := ⟨(nd0, .slice none 0 0)⟩
/-- what is known of a node that came in -/
structure In (W : World) (x : Nd × Value) : Prop where
  cv : Cv W W.heap.size x
  kind : I64 x.1.kind
  par : I64 x.1.par
  at_ : I64 x.1.at_
  fin : I64 x.1.fin
  has : I64 x.1.has
  size : I64 x.1.size
  width : I64 x.1.width
  height : I64 x.1.height
  lead : I64 x.1.lead
  skip : I64 x.1.skip
  tol : I64 x.1.tol
  font : x.1.font.size ≤ 9223372036854775807
  chs : x.1.chs.length ≤ 9223372036854775807
theorem In.fit {W : World} {x : Nd × Value} (h : In W x) (h1 : x.1.font.size ≤ 140737488355328) (h2 : x.1.chs.length ≤ 4294967296) : Fit x.1 := ⟨h.kind, h.par, h.at_, h.fin, h.has, h.size, h.width, h.height, h.lead, h.skip, h.tol, h1, h2⟩
theorem read_node {H : Type} {enc : TypeId × Value → H} {W : World} (n : Nat) (cs : List Value) (x : DataW H × List MemPlace) (h : DataW.trod enc Tryd.prog W 0 (fun _ => true) true n 42 cs = some x) : ∃ g : Nd × Value, cs = ndc g ∧ In W g := by
  obtain ⟨xs, n', _, _, hcl, hxl, hfs⟩ := DataW.trod_struct Tryd.underlying42 h
  have hx3 : xs.length = 13 := hxl
  have hc3 : cs.length = 13 := by rw [hcl, oCells42]
  have get : ∀ o, o < 13 → (xs[o]?).isSome = true := fun o ho => by simp; omega
  have f0 : DataW.trod enc Tryd.prog W 0 (fun _ => true) true n' 3 ((cs.drop 0).take (Tryd.prog.cellsOf 3)) = xs[0]? := hfs 0 _ rfl
  rw [oCells3] at f0
  obtain ⟨v0, e0, w0⟩ := one_int (get 0 (by omega)) f0
  have f1 : DataW.trod enc Tryd.prog W 0 (fun _ => true) true n' 3 ((cs.drop 1).take (Tryd.prog.cellsOf 3)) = xs[1]? := hfs 1 _ rfl
  rw [oCells3] at f1
  obtain ⟨v1, e1, w1⟩ := one_int (get 1 (by omega)) f1
  have f2 : DataW.trod enc Tryd.prog W 0 (fun _ => true) true n' 3 ((cs.drop 2).take (Tryd.prog.cellsOf 3)) = xs[2]? := hfs 2 _ rfl
  rw [oCells3] at f2
  obtain ⟨v2, e2, w2⟩ := one_int (get 2 (by omega)) f2
  have f3 : DataW.trod enc Tryd.prog W 0 (fun _ => true) true n' 3 ((cs.drop 3).take (Tryd.prog.cellsOf 3)) = xs[3]? := hfs 3 _ rfl
  rw [oCells3] at f3
  obtain ⟨v3, e3, w3⟩ := one_int (get 3 (by omega)) f3
  have f4 : DataW.trod enc Tryd.prog W 0 (fun _ => true) true n' 3 ((cs.drop 4).take (Tryd.prog.cellsOf 3)) = xs[4]? := hfs 4 _ rfl
  rw [oCells3] at f4
  obtain ⟨v4, e4, w4⟩ := one_int (get 4 (by omega)) f4
  have f5 : DataW.trod enc Tryd.prog W 0 (fun _ => true) true n' 9 ((cs.drop 5).take (Tryd.prog.cellsOf 9)) = xs[5]? := hfs 5 _ rfl
  rw [oCells9] at f5
  obtain ⟨v5, e5, w5⟩ := one_string (get 5 (by omega)) f5
  have f6 : DataW.trod enc Tryd.prog W 0 (fun _ => true) true n' 3 ((cs.drop 6).take (Tryd.prog.cellsOf 3)) = xs[6]? := hfs 6 _ rfl
  rw [oCells3] at f6
  obtain ⟨v6, e6, w6⟩ := one_int (get 6 (by omega)) f6
  have f7 : DataW.trod enc Tryd.prog W 0 (fun _ => true) true n' 3 ((cs.drop 7).take (Tryd.prog.cellsOf 3)) = xs[7]? := hfs 7 _ rfl
  rw [oCells3] at f7
  obtain ⟨v7, e7, w7⟩ := one_int (get 7 (by omega)) f7
  have f8 : DataW.trod enc Tryd.prog W 0 (fun _ => true) true n' 3 ((cs.drop 8).take (Tryd.prog.cellsOf 3)) = xs[8]? := hfs 8 _ rfl
  rw [oCells3] at f8
  obtain ⟨v8, e8, w8⟩ := one_int (get 8 (by omega)) f8
  have f9 : DataW.trod enc Tryd.prog W 0 (fun _ => true) true n' 3 ((cs.drop 9).take (Tryd.prog.cellsOf 3)) = xs[9]? := hfs 9 _ rfl
  rw [oCells3] at f9
  obtain ⟨v9, e9, w9⟩ := one_int (get 9 (by omega)) f9
  have f10 : DataW.trod enc Tryd.prog W 0 (fun _ => true) true n' 3 ((cs.drop 10).take (Tryd.prog.cellsOf 3)) = xs[10]? := hfs 10 _ rfl
  rw [oCells3] at f10
  obtain ⟨v10, e10, w10⟩ := one_int (get 10 (by omega)) f10
  have f11 : DataW.trod enc Tryd.prog W 0 (fun _ => true) true n' 3 ((cs.drop 11).take (Tryd.prog.cellsOf 3)) = xs[11]? := hfs 11 _ rfl
  rw [oCells3] at f11
  obtain ⟨v11, e11, w11⟩ := one_int (get 11 (by omega)) f11
  have f12 : DataW.trod enc Tryd.prog W 0 (fun _ => true) true n' 40 ((cs.drop 12).take (Tryd.prog.cellsOf 40)) = xs[12]? := hfs 12 _ rfl
  rw [oCells40] at f12
  obtain ⟨y, hy⟩ := Option.isSome_iff_exists.1 (get 12 (by omega))
  rw [hy] at f12
  obtain ⟨ca, cc, ch, ec, -, hcl', hsl, -⟩ := list_of (en := chI) (p := fun _ => True) (by decide) chI_len Tryd.underlying40 oCells44 read_char f12
  have e12 : cs[12]? = some (.slice ca ch.length cc) := by
    have : ((cs.drop 12).take 1)[0]? = some (.slice ca ch.length cc) := by rw [ec]; rfl
    simpa [List.getElem?_take, List.getElem?_drop] using this
  refine ⟨(⟨v0, v1, v2, v3, v4, v5, v6, v7, v8, v9, v10, v11, ch⟩, .slice ca ch.length cc), List.ext_getElem? fun i => ?_, ⟨⟨ca, cc, rfl, hsl.b⟩, w0, w1, w2, w3, w4, w6, w7, w8, w9, w10, w11, w5, hcl'⟩⟩
  match i with
  | 0 => exact e0
  | 1 => exact e1
  | 2 => exact e2
  | 3 => exact e3
  | 4 => exact e4
  | 5 => exact e5
  | 6 => exact e6
  | 7 => exact e7
  | 8 => exact e8
  | 9 => exact e9
  | 10 => exact e10
  | 11 => exact e11
  | 12 => exact e12
  | i + 13 => rw [List.getElem?_eq_none (by omega)]; rfl
/-- A LIST OF NODES -/
theorem nodes_of {H : Type} {enc : TypeId × Value → H} {W : World} {fuel : Nat} {cs : List Value} {x : DataW H × List MemPlace} (h : DataW.trod enc Tryd.prog W 0 (fun _ => true) true fuel 22 cs = some x) :
    ∃ a0 cap, ∃ xs : List (Nd × Value), cs = [.slice a0 xs.length cap] ∧ xs.length ≤ cap ∧ xs.length ≤ 9223372036854775807 ∧ NL W W.heap.size a0 xs ∧ ∀ x ∈ xs, In W x := by
  obtain ⟨a0, cap, xs, h1, hc, h2, h3, h4⟩ := list_of (en := ndc) (p := In W) (by decide) ndc_len Tryd.underlying22 oCells42 read_node h
  exact ⟨a0, cap, xs, h1, hc, h2, ⟨h3.b, fun x hx => (h4 x hx).cv⟩, h4⟩
end Go.Proofs.YtmlhibcbgdhadaaDoor
