/- What the condition on the library's two tables and the program's own gives the walks, and a memory that meets it. -/
import Derived.Test.YthlbbinlkmchjaaDoorRows
import Derived.Test.YthlbbinlkmchjaaDoorEnt
import Derived.ProofKit
import Derived.LaidMore
import Derived.OpenShut
import Derived.Lay
import Derived.Lib.LaidU8
import Derived.MakeChecks
namespace Go.Proofs.YthlbbinlkmchjaaDoor
open Go.ChangeShapes Go.WideShapes Go.ChangeAt Go.RowKit Go.Lib

theorem own : ownKnob Tryd.prog.godebug = none := by kernel_rfl
theorem gEnts : Tryd.prog.globalNamed "platen/scan.entities" = some 0 := by kernel_rfl
theorem gFirst : Tryd.prog.globalNamed "unicode/utf8.first" = some 1 := by kernel_rfl
theorem gAccept : Tryd.prog.globalNamed "unicode/utf8.acceptRanges" = some 2 := by kernel_rfl
theorem tEnts : (Tryd.prog.globals[0]?).map (·.type) = some 96 := by kernel_rfl
theorem tFirst : (Tryd.prog.globals[1]?).map (·.type) = some 119 := by kernel_rfl
theorem tAccept : (Tryd.prog.globals[2]?).map (·.type) = some 122 := by kernel_rfl
theorem cells3 : Tryd.prog.cellsOf 3 = 1 := by kernel_rfl
theorem cells9 : Tryd.prog.cellsOf 9 = 1 := by kernel_rfl
theorem cells5 : Tryd.prog.cellsOf 5 = 1 := by kernel_rfl
theorem cells95 : Tryd.prog.cellsOf 95 = 2 := by kernel_rfl
theorem cells119 : Tryd.prog.cellsOf 119 = 256 := by kernel_rfl
theorem cells121 : Tryd.prog.cellsOf 121 = 2 := by kernel_rfl
theorem first_eq : Go.Pinned.utf8First = firstData := by kernel_rfl
theorem accept_eq : Rows.laid_unicode_utf8_acceptRanges = acceptData := by kernel_rfl

def entDs : List (DataW Unit) := [.agg [.lit (.int .i64 60), .lit (.string [38, 108, 116, 59])], .agg [.lit (.int .i64 62), .lit (.string [38, 103, 116, 59])], .agg [.lit (.int .i64 38), .lit (.string [38, 97, 109, 112, 59])], .agg [.lit (.int .i64 34), .lit (.string [38, 113, 117, 111, 116, 59])], .agg [.lit (.int .i64 173), .lit (.string [38, 115, 104, 121, 59])], .agg [.lit (.int .i64 160), .lit (.string [38, 110, 98, 115, 112, 59])]]
theorem ent_eq : Rows.laid_platen_scan_entities = DataW.agg entDs := rfl
/-- a struct of a number and a string -/
theorem ent_cells {W : World} {fuel : Nat} {c0 c1 : Option Value} {cs : List Value} {r : Int} {bs : List UInt8} {q : List MemPlace} (h0 : cs[0]? = c0) (h1 : cs[1]? = c1)
    (h : DataW.trod (fun _ => ()) Tryd.prog W 0 (fun _ => true) false fuel 95 cs = some (.agg [.lit (.int .i64 r), .lit (.string bs)], q)) :
    c0 = some (.int .i64 r) ∧ ∃ s : ByteArray, c1 = some (.string s) ∧ s.data.toList = bs := by
  obtain ⟨xs, n, -, hx, hl, hz, hf⟩ := DataW.trod_struct Tryd.underlying95 h
  rw [cells95] at hl
  have hx1 := congrArg Prod.fst hx
  simp only [DataW.agg.injEq] at hx1
  have f0 : DataW.trod (fun _ => ()) Tryd.prog W 0 (fun _ => true) false n 3 (List.take (Tryd.prog.cellsOf 3) (List.drop 0 cs)) = xs[0]? := hf 0 _ rfl
  have f1 : DataW.trod (fun _ => ()) Tryd.prog W 0 (fun _ => true) false n 9 (List.take (Tryd.prog.cellsOf 9) (List.drop 1 cs)) = xs[1]? := hf 1 _ rfl
  rw [cells3] at f0
  rw [cells9] at f1
  obtain ⟨a, b, rfl⟩ : ∃ a b, cs = [a, b] := by
    rcases cs with _ | ⟨a, _ | ⟨b, _ | ⟨c, t⟩⟩⟩
    · simp at hl
    · simp at hl
    · exact ⟨a, b, rfl⟩
    · simp at hl
  obtain ⟨u, v, rfl⟩ : ∃ u v, xs = [u, v] := by
    have hz2 : xs.length = 2 := hz
    rcases xs with _ | ⟨a, _ | ⟨b, _ | ⟨c, t⟩⟩⟩
    · simp at hz2
    · simp at hz2
    · exact ⟨a, b, rfl⟩
    · simp at hz2
  simp only [List.map_cons, List.map_nil, List.cons.injEq, and_true] at hx1
  simp only [List.drop_zero, List.take_succ_cons, List.take_zero, List.getElem?_cons_zero] at f0
  simp only [List.drop_succ_cons, List.drop_zero, List.take_succ_cons, List.take_zero, List.getElem?_cons_succ, List.getElem?_cons_zero] at f1
  obtain ⟨n', e1, e2, -⟩ := DataW.trod_int Tryd.underlying3 f0
  obtain ⟨s, e3, e4, -⟩ := DataW.trod_string Tryd.underlying9 f1
  have g1 : (DataW.lit (.int .i64 r) : DataW Unit) = .lit (.int .i64 n') := by rw [hx1.1, e2]
  have g2 : (DataW.lit (.string bs) : DataW Unit) = .lit (.string s.data.toList) := by rw [hx1.2, e4]
  injection g1 with g1
  injection g1 with _ g1
  injection g2 with g2
  injection g2 with g2
  injection e1 with e1
  injection e3 with e3
  subst h0 h1
  refine ⟨?_, s, ?_, g2.symm⟩
  · simp only [List.getElem?_cons_zero]; rw [e1, g1]
  · simp only [List.getElem?_cons_succ, List.getElem?_cons_zero]; rw [e3]
theorem bytes_eq {s t : ByteArray} (h : s.data.toList = t.data.toList) : s = t := by
  cases s; cases t; congr 1; exact Array.ext' h

/-- WHAT THE CONDITION GIVES -/
theorem tc_of_laid {W : World} (h : laidMetH Tryd.prog Rows.scanTokensRow.laid W) : Tc W := by
  rw [MakeChecks.laidMetH_plain _ _ _ (by kernel_rfl)] at h
  have h3 : VarReads Tryd.prog W "unicode/utf8.first" firstData := first_eq ▸ Lib.laidMet.reads h (.tail _ (.tail _ (.head _)))
  have h4 : VarReads Tryd.prog W "unicode/utf8.acceptRanges" acceptData := accept_eq ▸ Lib.laidMet.reads h (.head _)
  have h5 : VarReads Tryd.prog W "platen/scan.entities" (.agg entDs) := ent_eq ▸ Lib.laidMet.reads h (.tail _ (.head _))
  have f : ∀ c, c < 256 → W.cell? ⟨1, c, none⟩ = some (.int .u8 (firstT c)) := fun c hc => by
    obtain ⟨g, t, cs, fuel, p, hg, hty, hvar, hd⟩ := h3
    obtain rfl := Option.some.inj (gFirst.symm.trans hg)
    obtain rfl := Option.some.inj (tFirst.symm.trans hty)
    have hcs := cells_of_tab Tryd.underlying119 Tryd.underlying5 cells5 cells119 hd
    have := World.var?_cell hg hvar c
    rw [this, ← Array.getElem?_toList, hcs]
    simp [firstTab, hc]
  have r : ∀ i, i < 16 → W.cell? ⟨2, 2 * i, none⟩ = some (.int .u8 (accLo i)) ∧ W.cell? ⟨2, 2 * i + 1, none⟩ = some (.int .u8 (accHi i)) := fun i hi => by
    obtain ⟨g, t, cs, fuel, p, hg, hty, hvar, hd⟩ := h4
    obtain rfl := Option.some.inj (gAccept.symm.trans hg)
    obtain rfl := Option.some.inj (tAccept.symm.trans hty)
    obtain ⟨fuel', d, q, hdi, he⟩ := array_elem Tryd.underlying122 hd i hi
    simp only [List.getElem?_map, List.getElem?_range hi, Option.map_some, Option.some.injEq] at hdi
    subst hdi
    rw [cells121] at he
    have hcs := ints_of_struct Tryd.underlying121 (fun j f hj => by
      match j, hj with
      | 0, hj => simp at hj; subst hj; exact ⟨Tryd.underlying5, rfl, cells5⟩
      | 1, hj => simp at hj; subst hj; exact ⟨Tryd.underlying5, rfl, cells5⟩
      | j + 2, hj => simp at hj) (by rw [cells121]; rfl) he
    have e0 := congrArg (·[0]?) hcs
    have e1 := congrArg (·[1]?) hcs
    simp only [List.getElem?_take, List.getElem?_drop] at e0 e1
    constructor
    · rw [World.var?_cell hg hvar (2 * i), ← Array.getElem?_toList]
      simpa [Nat.mul_comm] using e0
    · rw [World.var?_cell hg hvar (2 * i + 1), ← Array.getElem?_toList]
      simpa [Nat.mul_comm] using e1
  have en : ∀ (i : Nat) (r : Int) (bs : List UInt8), i < 6 → entDs[i]? = some (DataW.agg [.lit (.int .i64 r), .lit (.string bs)] : DataW Unit) →
      W.cell? ⟨0, 2 * i, none⟩ = some (.int .i64 r) ∧ ∃ s : ByteArray, W.cell? ⟨0, 2 * i + 1, none⟩ = some (.string s) ∧ s.data.toList = bs := fun i r bs hi hds => by
    obtain ⟨g, t, cs, fuel, p, hg, hty, hvar, hd⟩ := h5
    obtain rfl := Option.some.inj (gEnts.symm.trans hg)
    obtain rfl := Option.some.inj (tEnts.symm.trans hty)
    obtain ⟨fuel', d, q, hdi, he⟩ := array_elem (ds := entDs) Tryd.underlying96 hd i hi
    have hd2 : d = DataW.agg [.lit (.int .i64 r), .lit (.string bs)] := Option.some.inj (hdi.symm.trans hds)
    subst hd2
    rw [cells95] at he
    have := ent_cells rfl rfl he
    simp only [List.getElem?_take, List.getElem?_drop] at this
    rw [World.var?_cell hg hvar (2 * i), World.var?_cell hg hvar (2 * i + 1), ← Array.getElem?_toList, ← Array.getElem?_toList]
    simpa [Nat.mul_comm] using this
  have tb : Tb W := by
    refine ⟨f, r, ?_⟩
    have := (r 0 (by decide)).1
    rcases Nat.lt_or_ge 2 W.heap.size with h | h
    · exact h
    · simp [World.cell?, Array.getElem?_eq_none h] at this
  have e0 := en 0 60 [38, 108, 116, 59] (by decide) rfl
  have e1 := en 1 62 [38, 103, 116, 59] (by decide) rfl
  have e2 := en 2 38 [38, 97, 109, 112, 59] (by decide) rfl
  have e3 := en 3 34 [38, 113, 117, 111, 116, 59] (by decide) rfl
  have e4 := en 4 173 [38, 115, 104, 121, 59] (by decide) rfl
  have e5 := en 5 160 [38, 110, 98, 115, 112, 59] (by decide) rfl
  have st : ∀ {s : ByteArray} {t : ByteArray} {c : Option Value}, c = some (.string s) → s.data.toList = t.data.toList → c = some (.string t) := fun h1 h2 => by rw [h1, bytes_eq h2]
  obtain ⟨a0, s0, b0, c0⟩ := e0
  obtain ⟨a1, s1, b1, c1⟩ := e1
  obtain ⟨a2, s2, b2, c2⟩ := e2
  obtain ⟨a3, s3, b3, c3⟩ := e3
  obtain ⟨a4, s4, b4, c4⟩ := e4
  obtain ⟨a5, s5, b5, c5⟩ := e5
  exact ⟨tb, a0, st b0 c0, a1, st b1 c1, a2, st b2 c2, a3, st b3 c3, a4, st b4 c4, a5, st b5 c5⟩
theorem laid_met (os : Os) (args : Array Value) : laidMetH Tryd.prog Rows.scanTokensRow.laid ((World.laidAll Tryd.prog os Rows.scanTokensRow.laid).forCall (fun _ _ => 0) ⟨#[], args, []⟩).memory := by
  rw [MakeChecks.laidMetH_plain _ _ _ (by kernel_rfl)]
  exact laidMet_laidAll _ (by kernel_rfl) (by kernel_rfl)
theorem laid_shaped (os : Os) : (World.laidAll Tryd.prog os Rows.scanTokensRow.laid).Shaped Tryd.prog :=
  World.shaped_of_ZipB (by kernel_rfl) (by kernel_rfl)
end Go.Proofs.YthlbbinlkmchjaaDoor
