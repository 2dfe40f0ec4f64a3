/- What the condition on the library's table of tens and the program's tables gives the walks, and a memory that meets it. -/
import Derived.Test.YtmlhibcbgdhadaaDoorRows
import Derived.Test.YtmlhibcbgdhadaaDoorTab
import Derived.ProofKit
import Derived.LaidMore
import Derived.OpenShut
import Derived.Lay
import Derived.Lib.LaidU8
import Derived.Lib.LaidTab
import Derived.MakeChecks
namespace Go.Proofs.YtmlhibcbgdhadaaDoor
open Go.ChangeShapes Go.WideShapes Go.ChangeAt Go.RowKit Go.Lib

theorem own : ownKnob Tryd.prog.godebug = none := by kernel_rfl
theorem gKinds : Tryd.prog.globalNamed "platen/tree.kinds" = some 0 := by kernel_rfl
theorem gEnts : Tryd.prog.globalNamed "platen/scan.entities" = some 1 := by kernel_rfl
theorem tKinds : (Tryd.prog.globals[0]?).map (·.type) = some 87 := by kernel_rfl
theorem tEnts : (Tryd.prog.globals[1]?).map (·.type) = some 95 := by kernel_rfl
theorem tPow : (Tryd.prog.globals[2]?).map (·.type) = some 107 := by kernel_rfl
theorem cells3 : Tryd.prog.cellsOf 3 = 1 := by kernel_rfl
theorem cells9 : Tryd.prog.cellsOf 9 = 1 := by kernel_rfl
theorem cells101 : Tryd.prog.cellsOf 101 = 1 := by kernel_rfl
theorem cells71 : Tryd.prog.cellsOf 71 = 4 := by kernel_rfl
theorem cells94 : Tryd.prog.cellsOf 94 = 2 := by kernel_rfl
theorem cells107 : Tryd.prog.cellsOf 107 = 20 := by kernel_rfl
theorem pow_eq : Rows.laid_internal_strconv_uint64pow10 (H := Unit) = tabData .u64 pow10Tab := by kernel_rfl

def entDs : List (DataW Unit) := [.agg [.lit (.int .i64 60), .lit (.string [38, 108, 116, 59])], .agg [.lit (.int .i64 62), .lit (.string [38, 103, 116, 59])], .agg [.lit (.int .i64 38), .lit (.string [38, 97, 109, 112, 59])], .agg [.lit (.int .i64 34), .lit (.string [38, 113, 117, 111, 116, 59])], .agg [.lit (.int .i64 173), .lit (.string [38, 115, 104, 121, 59])], .agg [.lit (.int .i64 160), .lit (.string [38, 110, 98, 115, 112, 59])]]
theorem ent_eq : Rows.laid_platen_scan_entities = DataW.agg entDs := rfl
def kindDs : List (DataW Unit) := [.agg [.lit (.string []), .lit (.int .i64 0), .lit (.int .i64 0), .lit (.int .i64 0)], .agg [.lit (.string [100, 111, 99]), .lit (.int .i64 0), .lit (.int .i64 127), .lit (.int .i64 12)], .agg [.lit (.string [112]), .lit (.int .i64 2), .lit (.int .i64 115), .lit (.int .i64 0)], .agg [.lit (.string [115]), .lit (.int .i64 12), .lit (.int .i64 3), .lit (.int .i64 0)], .agg [.lit (.string []), .lit (.int .i64 12), .lit (.int .i64 0), .lit (.int .i64 0)], .agg [.lit (.string []), .lit (.int .i64 12), .lit (.int .i64 0), .lit (.int .i64 0)]]
theorem kind_eq : Rows.laid_platen_tree_kinds = DataW.agg kindDs := rfl
/-- a struct of a number and a string -/
theorem ent_cells {W : World} {fuel : Nat} {c0 c1 : Option Value} {cs : List Value} {r : Int} {bs : List UInt8} {q : List MemPlace} (h0 : cs[0]? = c0) (h1 : cs[1]? = c1)
    (h : DataW.trod (fun _ => ()) Tryd.prog W 0 (fun _ => true) false fuel 94 cs = some (.agg [.lit (.int .i64 r), .lit (.string bs)], q)) :
    c0 = some (.int .i64 r) ∧ ∃ s : ByteArray, c1 = some (.string s) ∧ s.data.toList = bs := by
  obtain ⟨xs, n, -, hx, hl, hz, hf⟩ := DataW.trod_struct Tryd.underlying94 h
  rw [cells94] at hl
  have hx1 := congrArg Prod.fst hx
  simp only [DataW.agg.injEq] at hx1
  have f0 : DataW.trod (fun _ => ()) Tryd.prog W 0 (fun _ => true) false n 3 (List.take (Tryd.prog.cellsOf 3) (List.drop 0 cs)) = xs[0]? := hf 0 _ rfl
  have f1 : DataW.trod (fun _ => ()) Tryd.prog W 0 (fun _ => true) false n 9 (List.take (Tryd.prog.cellsOf 9) (List.drop 1 cs)) = xs[1]? := hf 1 _ rfl
  rw [cells3] at f0
  rw [cells9] at f1
  obtain ⟨a, b, rfl⟩ : ∃ a b, cs = [a, b] := by
    rcases cs with _ | ⟨a, _ | ⟨b, _ | ⟨c, t⟩⟩⟩
    · simp at hl
    · simp at hl
    · exact ⟨a, b, rfl⟩
    · simp at hl
  obtain ⟨u, v, rfl⟩ : ∃ u v, xs = [u, v] := by
    have hz2 : xs.length = 2 := hz
    rcases xs with _ | ⟨a, _ | ⟨b, _ | ⟨c, t⟩⟩⟩
    · simp at hz2
    · simp at hz2
    · exact ⟨a, b, rfl⟩
    · simp at hz2
  simp only [List.map_cons, List.map_nil, List.cons.injEq, and_true] at hx1
  simp only [List.drop_zero, List.take_succ_cons, List.take_zero, List.getElem?_cons_zero] at f0
  simp only [List.drop_succ_cons, List.drop_zero, List.take_succ_cons, List.take_zero, List.getElem?_cons_succ, List.getElem?_cons_zero] at f1
  obtain ⟨n', e1, e2, -⟩ := DataW.trod_int Tryd.underlying3 f0
  obtain ⟨s, e3, e4, -⟩ := DataW.trod_string Tryd.underlying9 f1
  have g1 : (DataW.lit (.int .i64 r) : DataW Unit) = .lit (.int .i64 n') := by rw [hx1.1, e2]
  have g2 : (DataW.lit (.string bs) : DataW Unit) = .lit (.string s.data.toList) := by rw [hx1.2, e4]
  injection g1 with g1
  injection g1 with _ g1
  injection g2 with g2
  injection g2 with g2
  injection e1 with e1
  injection e3 with e3
  subst h0 h1
  refine ⟨?_, s, ?_, g2.symm⟩
  · simp only [List.getElem?_cons_zero]; rw [e1, g1]
  · simp only [List.getElem?_cons_succ, List.getElem?_cons_zero]; rw [e3]
/-- a struct of a string and three numbers -/
theorem kind_cells {W : World} {fuel : Nat} {c0 c1 c2 c3 : Option Value} {cs : List Value} {r t z : Int} {bs : List UInt8} {q : List MemPlace} (h0 : cs[0]? = c0) (h1 : cs[1]? = c1) (h2 : cs[2]? = c2) (h3 : cs[3]? = c3)
    (h : DataW.trod (fun _ => ()) Tryd.prog W 0 (fun _ => true) false fuel 71 cs = some (.agg [.lit (.string bs), .lit (.int .i64 r), .lit (.int .i64 t), .lit (.int .i64 z)], q)) :
    (∃ s : ByteArray, c0 = some (.string s) ∧ s.data.toList = bs) ∧ c1 = some (.int .i64 r) ∧ c2 = some (.int .i64 t) ∧ c3 = some (.int .i64 z) := by
  obtain ⟨xs, n, -, hx, hl, hz, hf⟩ := DataW.trod_struct Tryd.underlying71 h
  rw [cells71] at hl
  have hx1 := congrArg Prod.fst hx
  simp only [DataW.agg.injEq] at hx1
  have f0 : DataW.trod (fun _ => ()) Tryd.prog W 0 (fun _ => true) false n 9 (List.take (Tryd.prog.cellsOf 9) (List.drop 0 cs)) = xs[0]? := hf 0 _ rfl
  have f1 : DataW.trod (fun _ => ()) Tryd.prog W 0 (fun _ => true) false n 3 (List.take (Tryd.prog.cellsOf 3) (List.drop 1 cs)) = xs[1]? := hf 1 _ rfl
  have f2 : DataW.trod (fun _ => ()) Tryd.prog W 0 (fun _ => true) false n 3 (List.take (Tryd.prog.cellsOf 3) (List.drop 2 cs)) = xs[2]? := hf 2 _ rfl
  have f3 : DataW.trod (fun _ => ()) Tryd.prog W 0 (fun _ => true) false n 3 (List.take (Tryd.prog.cellsOf 3) (List.drop 3 cs)) = xs[3]? := hf 3 _ rfl
  rw [cells9] at f0
  rw [cells3] at f1 f2 f3
  obtain ⟨a, b, c, d, rfl⟩ : ∃ a b c d, cs = [a, b, c, d] := by
    rcases cs with _ | ⟨a, _ | ⟨b, _ | ⟨c, _ | ⟨d, _ | ⟨e, t⟩⟩⟩⟩⟩
    · simp at hl
    · simp at hl
    · simp at hl
    · simp at hl
    · exact ⟨a, b, c, d, rfl⟩
    · simp at hl
  obtain ⟨u, v, x, y, rfl⟩ : ∃ u v x y, xs = [u, v, x, y] := by
    have hz2 : xs.length = 4 := hz
    rcases xs with _ | ⟨a, _ | ⟨b, _ | ⟨c, _ | ⟨d, _ | ⟨e, t⟩⟩⟩⟩⟩
    · simp at hz2
    · simp at hz2
    · simp at hz2
    · simp at hz2
    · exact ⟨a, b, c, d, rfl⟩
    · simp at hz2
  simp only [List.map_cons, List.map_nil, List.cons.injEq, and_true] at hx1
  simp only [List.drop_zero, List.take_succ_cons, List.take_zero, List.getElem?_cons_zero] at f0
  simp only [List.drop_succ_cons, List.drop_zero, List.take_succ_cons, List.take_zero, List.getElem?_cons_succ, List.getElem?_cons_zero] at f1 f2 f3
  obtain ⟨s, e3, e4, -⟩ := DataW.trod_string Tryd.underlying9 f0
  obtain ⟨n1, e1, e2, -⟩ := DataW.trod_int Tryd.underlying3 f1
  obtain ⟨n2, e5, e6, -⟩ := DataW.trod_int Tryd.underlying3 f2
  obtain ⟨n3, e7, e8, -⟩ := DataW.trod_int Tryd.underlying3 f3
  have g2 : (DataW.lit (.string bs) : DataW Unit) = .lit (.string s.data.toList) := by rw [hx1.1, e4]
  have g1 : (DataW.lit (.int .i64 r) : DataW Unit) = .lit (.int .i64 n1) := by rw [hx1.2.1, e2]
  have g3 : (DataW.lit (.int .i64 t) : DataW Unit) = .lit (.int .i64 n2) := by rw [hx1.2.2.1, e6]
  have g4 : (DataW.lit (.int .i64 z) : DataW Unit) = .lit (.int .i64 n3) := by rw [hx1.2.2.2, e8]
  injection g1 with g1
  injection g1 with _ g1
  injection g3 with g3
  injection g3 with _ g3
  injection g4 with g4
  injection g4 with _ g4
  injection g2 with g2
  injection g2 with g2
  injection e1 with e1
  injection e3 with e3
  injection e5 with e5
  injection e7 with e7
  subst h0 h1 h2 h3
  refine ⟨⟨s, ?_, g2.symm⟩, ?_, ?_, ?_⟩
  · simp only [List.getElem?_cons_zero]; rw [e3]
  · simp only [List.getElem?_cons_succ, List.getElem?_cons_zero]; rw [e1, g1]
  · simp only [List.getElem?_cons_succ, List.getElem?_cons_zero]; rw [e5, g3]
  · simp only [List.getElem?_cons_succ, List.getElem?_cons_zero]; rw [e7, g4]
theorem bytes_eq {s t : ByteArray} (h : s.data.toList = t.data.toList) : s = t := by
  cases s; cases t; congr 1; exact Array.ext' h

/-- WHAT THE CONDITION GIVES -/
theorem tt_of_laid {W : World} (h : laidMetH Tryd.prog Rows.treeNumbersRow.laid W) : Tt W := by
  rw [MakeChecks.laidMetH_plain _ _ _ (by kernel_rfl)] at h
  have h3 : VarReads Tryd.prog W "internal/strconv.uint64pow10" (tabData .u64 pow10Tab) := pow_eq ▸ Lib.laidMet.reads h (.tail _ (.tail _ (.head _)))
  have h4 : VarReads Tryd.prog W "platen/scan.entities" (.agg entDs) := ent_eq ▸ Lib.laidMet.reads h (.tail _ (.tail _ (.tail _ (.head _))))
  have h5 : VarReads Tryd.prog W "platen/tree.kinds" (.agg kindDs) := kind_eq ▸ Lib.laidMet.reads h (.tail _ (.tail _ (.tail _ (.tail _ (.head _)))))
  have h6 : ∃ d, VarReads Tryd.prog W "math/bits.deBruijn64tab" d := ⟨_, Lib.laidMet.reads h (.tail _ (.head _))⟩
  have tab : Lib.TabIs Tryd.prog W "internal/strconv.uint64pow10" .u64 Lib.pow10Tab := by
    obtain ⟨g, t, cs, fuel, p, hg, hty, hvar, hd⟩ := h3
    obtain rfl := Option.some.inj (gPow.symm.trans hg)
    obtain rfl := Option.some.inj (tPow.symm.trans hty)
    unfold TabIs
    rw [hvar, ← cells_of_tab Tryd.underlying107 Tryd.underlying101 cells101 cells107 hd]
  have en : ∀ (i : Nat) (r : Int) (bs : List UInt8), i < 6 → entDs[i]? = some (DataW.agg [.lit (.int .i64 r), .lit (.string bs)] : DataW Unit) →
      W.cell? ⟨1, 2 * i, none⟩ = some (.int .i64 r) ∧ ∃ s : ByteArray, W.cell? ⟨1, 2 * i + 1, none⟩ = some (.string s) ∧ s.data.toList = bs := fun i r bs hi hds => by
    obtain ⟨g, t, cs, fuel, p, hg, hty, hvar, hd⟩ := h4
    obtain rfl := Option.some.inj (gEnts.symm.trans hg)
    obtain rfl := Option.some.inj (tEnts.symm.trans hty)
    obtain ⟨fuel', d, q, hdi, he⟩ := array_elem (ds := entDs) Tryd.underlying95 hd i hi
    have hd2 : d = DataW.agg [.lit (.int .i64 r), .lit (.string bs)] := Option.some.inj (hdi.symm.trans hds)
    subst hd2
    rw [cells94] at he
    have := ent_cells rfl rfl he
    simp only [List.getElem?_take, List.getElem?_drop] at this
    rw [World.var?_cell hg hvar (2 * i), World.var?_cell hg hvar (2 * i + 1), ← Array.getElem?_toList, ← Array.getElem?_toList]
    simpa [Nat.mul_comm] using this
  have kn : ∀ (i : Nat) (r t z : Int) (bs : List UInt8), i < 6 → kindDs[i]? = some (DataW.agg [.lit (.string bs), .lit (.int .i64 r), .lit (.int .i64 t), .lit (.int .i64 z)] : DataW Unit) →
      (∃ s : ByteArray, W.cell? ⟨0, 4 * i, none⟩ = some (.string s) ∧ s.data.toList = bs) ∧ W.cell? ⟨0, 4 * i + 1, none⟩ = some (.int .i64 r) ∧ W.cell? ⟨0, 4 * i + 2, none⟩ = some (.int .i64 t) ∧ W.cell? ⟨0, 4 * i + 3, none⟩ = some (.int .i64 z) := fun i r t z bs hi hds => by
    obtain ⟨g, ty, cs, fuel, p, hg, hty, hvar, hd⟩ := h5
    obtain rfl := Option.some.inj (gKinds.symm.trans hg)
    obtain rfl := Option.some.inj (tKinds.symm.trans hty)
    obtain ⟨fuel', d, q, hdi, he⟩ := array_elem (ds := kindDs) Tryd.underlying87 hd i hi
    have hd2 : d = DataW.agg [.lit (.string bs), .lit (.int .i64 r), .lit (.int .i64 t), .lit (.int .i64 z)] := Option.some.inj (hdi.symm.trans hds)
    subst hd2
    rw [cells71] at he
    have := kind_cells rfl rfl rfl rfl he
    simp only [List.getElem?_take, List.getElem?_drop] at this
    rw [World.var?_cell hg hvar (4 * i), World.var?_cell hg hvar (4 * i + 1), World.var?_cell hg hvar (4 * i + 2), World.var?_cell hg hvar (4 * i + 3), ← Array.getElem?_toList, ← Array.getElem?_toList, ← Array.getElem?_toList, ← Array.getElem?_toList]
    simpa [Nat.mul_comm] using this
  have sz : 5 ≤ W.heap.size := by
    obtain ⟨d, g, t, cs, fuel, p, hg, hty, hvar, hd⟩ := h6
    obtain rfl := Option.some.inj ((show Tryd.prog.globalNamed "math/bits.deBruijn64tab" = some 4 by kernel_rfl).symm.trans hg)
    unfold World.var? at hvar
    rw [hg] at hvar
    rcases Nat.lt_or_ge 4 W.heap.size with h | h
    · exact h
    · simp [Array.getElem?_eq_none h] at hvar
  have st : ∀ {s : ByteArray} {t : ByteArray} {c : Option Value}, c = some (.string s) → s.data.toList = t.data.toList → c = some (.string t) := fun h1 h2 => by rw [h1, bytes_eq h2]
  obtain ⟨a0, s0, b0, c0⟩ := en 0 60 [38, 108, 116, 59] (by decide) rfl
  obtain ⟨a1, s1, b1, c1⟩ := en 1 62 [38, 103, 116, 59] (by decide) rfl
  obtain ⟨a2, s2, b2, c2⟩ := en 2 38 [38, 97, 109, 112, 59] (by decide) rfl
  obtain ⟨a3, s3, b3, c3⟩ := en 3 34 [38, 113, 117, 111, 116, 59] (by decide) rfl
  obtain ⟨a4, s4, b4, c4⟩ := en 4 173 [38, 115, 104, 121, 59] (by decide) rfl
  obtain ⟨a5, s5, b5, c5⟩ := en 5 160 [38, 110, 98, 115, 112, 59] (by decide) rfl
  obtain ⟨⟨k1, e1, f1⟩, g1, i1, j1⟩ := kn 1 0 127 12 [100, 111, 99] (by decide) rfl
  obtain ⟨⟨k2, e2, f2⟩, g2, i2, j2⟩ := kn 2 2 115 0 [112] (by decide) rfl
  obtain ⟨⟨k3, e3, f3⟩, g3, i3, j3⟩ := kn 3 12 3 0 [115] (by decide) rfl
  obtain ⟨⟨k4, e4, f4⟩, g4, i4, j4⟩ := kn 4 12 0 0 [] (by decide) rfl
  obtain ⟨⟨k5, e5, f5⟩, g5, i5, j5⟩ := kn 5 12 0 0 [] (by decide) rfl
  refine ⟨⟨sz, a0, st b0 c0, a1, st b1 c1, a2, st b2 c2, a3, st b3 c3, a4, st b4 c4, a5, st b5 c5⟩, tab, ?_⟩
  have four : ∀ (k : Nat) {v0 v1 v2 v3 : Value}, kindC k = [v0, v1, v2, v3] → W.cell? ⟨0, 4 * k, none⟩ = some v0 → W.cell? ⟨0, 4 * k + 1, none⟩ = some v1 → W.cell? ⟨0, 4 * k + 2, none⟩ = some v2 → W.cell? ⟨0, 4 * k + 3, none⟩ = some v3 → ∀ j v, (kindC k)[j]? = some v → W.cell? ⟨0, k * 4 + j, none⟩ = some v := by
    intro k v0 v1 v2 v3 hk q0 q1 q2 q3 j v hv
    rw [hk] at hv
    rw [Nat.mul_comm k 4]
    match j, hv with
    | 0, hv => injection hv with hv; subst hv; exact q0
    | 1, hv => injection hv with hv; subst hv; exact q1
    | 2, hv => injection hv with hv; subst hv; exact q2
    | 3, hv => injection hv with hv; subst hv; exact q3
    | j + 4, hv => simp at hv
  intro k hk1 hk2
  obtain rfl | rfl | rfl | rfl | rfl : k = 1 ∨ k = 2 ∨ k = 3 ∨ k = 4 ∨ k = 5 := by omega
  · exact four 1 (v0 := .string kN1) rfl (st e1 f1) g1 i1 j1
  · exact four 2 (v0 := .string kN2) rfl (st e2 f2) g2 i2 j2
  · exact four 3 (v0 := .string kN3) rfl (st e3 f3) g3 i3 j3
  · exact four 4 (v0 := .string kN0) rfl (st e4 f4) g4 i4 j4
  · exact four 5 (v0 := .string kN0) rfl (st e5 f5) g5 i5 j5
theorem laid_met (os : Os) (args : Array Value) : laidMetH Tryd.prog Rows.treeNumbersRow.laid ((World.laidAll Tryd.prog os Rows.treeNumbersRow.laid).forCall (fun _ _ => 0) ⟨#[], args, []⟩).memory := by
  rw [MakeChecks.laidMetH_plain _ _ _ (by kernel_rfl)]
  exact laidMet_laidAll _ (by kernel_rfl) (by kernel_rfl)
theorem laid_shaped (os : Os) : (World.laidAll Tryd.prog os Rows.treeNumbersRow.laid).Shaped Tryd.prog :=
  World.shaped_of_ZipB (by kernel_rfl) (by kernel_rfl)
end Go.Proofs.YtmlhibcbgdhadaaDoor
