/- What the condition on the library's table of tens and the program's table of units gives the walks, and a memory that meets it. -/
import Derived.Test.YtapnmopcmlcfbaaDoorRows
import Derived.Test.YtapnmopcmlcfbaaDoorRefP
import Derived.ProofKit
import Derived.LaidMore
import Derived.OpenShut
import Derived.Lay
import Derived.Lib.LaidU8
import Derived.Lib.LaidTab
import Derived.MakeChecks
namespace Go.Proofs.YtapnmopcmlcfbaaDoor
open Go.ChangeShapes Go.WideShapes Go.ChangeAt Go.RowKit Go.Lib

theorem own : ownKnob Tryd.prog.godebug = none := by kernel_rfl
theorem gUnits : Tryd.prog.globalNamed "platen/unit.units" = some 0 := by kernel_rfl
theorem tUnits : (Tryd.prog.globals[0]?).map (·.type) = some 58 := by kernel_rfl
theorem tPow : (Tryd.prog.globals[3]?).map (·.type) = some 74 := by kernel_rfl
theorem cells9 : Tryd.prog.cellsOf 9 = 1 := by kernel_rfl
theorem cells35 : Tryd.prog.cellsOf 35 = 1 := by kernel_rfl
theorem cells41 : Tryd.prog.cellsOf 41 = 3 := by kernel_rfl
theorem cells74 : Tryd.prog.cellsOf 74 = 20 := by kernel_rfl
theorem pow_eq : Rows.laid_internal_strconv_uint64pow10 (H := Unit) = tabData .u64 pow10Tab := by kernel_rfl

def unitDs : List (DataW Unit) := [.agg [.lit (.string []), .lit (.int .u64 65536), .lit (.int .u64 1)], .agg [.lit (.string [112, 116]), .lit (.int .u64 65536), .lit (.int .u64 1)], .agg [.lit (.string [105, 110]), .lit (.int .u64 4718592), .lit (.int .u64 1)], .agg [.lit (.string [109, 109]), .lit (.int .u64 23592960), .lit (.int .u64 127)], .agg [.lit (.string [115, 112]), .lit (.int .u64 1), .lit (.int .u64 1)], .agg [.lit (.string [101, 109]), .lit (.int .u64 0), .lit (.int .u64 1)]]
theorem unit_eq : Rows.laid_platen_unit_units = DataW.agg unitDs := rfl
/-- a struct of a string and two numbers -/
theorem unit_cells {W : World} {fuel : Nat} {c0 c1 c2 : Option Value} {cs : List Value} {r t : Int} {bs : List UInt8} {q : List MemPlace} (h0 : cs[0]? = c0) (h1 : cs[1]? = c1) (h2 : cs[2]? = c2)
    (h : DataW.trod (fun _ => ()) Tryd.prog W 0 (fun _ => true) false fuel 41 cs = some (.agg [.lit (.string bs), .lit (.int .u64 r), .lit (.int .u64 t)], q)) :
    (∃ s : ByteArray, c0 = some (.string s) ∧ s.data.toList = bs) ∧ c1 = some (.int .u64 r) ∧ c2 = some (.int .u64 t) := by
  obtain ⟨xs, n, -, hx, hl, hz, hf⟩ := DataW.trod_struct Tryd.underlying41 h
  rw [cells41] at hl
  have hx1 := congrArg Prod.fst hx
  simp only [DataW.agg.injEq] at hx1
  have f0 : DataW.trod (fun _ => ()) Tryd.prog W 0 (fun _ => true) false n 9 (List.take (Tryd.prog.cellsOf 9) (List.drop 0 cs)) = xs[0]? := hf 0 _ rfl
  have f1 : DataW.trod (fun _ => ()) Tryd.prog W 0 (fun _ => true) false n 35 (List.take (Tryd.prog.cellsOf 35) (List.drop 1 cs)) = xs[1]? := hf 1 _ rfl
  have f2 : DataW.trod (fun _ => ()) Tryd.prog W 0 (fun _ => true) false n 35 (List.take (Tryd.prog.cellsOf 35) (List.drop 2 cs)) = xs[2]? := hf 2 _ rfl
  rw [cells9] at f0
  rw [cells35] at f1 f2
  obtain ⟨a, b, c, rfl⟩ : ∃ a b c, cs = [a, b, c] := by
    rcases cs with _ | ⟨a, _ | ⟨b, _ | ⟨c, _ | ⟨d, t⟩⟩⟩⟩
    · simp at hl
    · simp at hl
    · simp at hl
    · exact ⟨a, b, c, rfl⟩
    · simp at hl
  obtain ⟨u, v, x, rfl⟩ : ∃ u v x, xs = [u, v, x] := by
    have hz2 : xs.length = 3 := hz
    rcases xs with _ | ⟨a, _ | ⟨b, _ | ⟨c, _ | ⟨d, t⟩⟩⟩⟩
    · simp at hz2
    · simp at hz2
    · simp at hz2
    · exact ⟨a, b, c, rfl⟩
    · simp at hz2
  simp only [List.map_cons, List.map_nil, List.cons.injEq, and_true] at hx1
  simp only [List.drop_zero, List.take_succ_cons, List.take_zero, List.getElem?_cons_zero] at f0
  simp only [List.drop_succ_cons, List.drop_zero, List.take_succ_cons, List.take_zero, List.getElem?_cons_succ, List.getElem?_cons_zero] at f1 f2
  obtain ⟨s, e3, e4, -⟩ := DataW.trod_string Tryd.underlying9 f0
  obtain ⟨n', e1, e2, -⟩ := DataW.trod_int Tryd.underlying35 f1
  obtain ⟨n'', e5, e6, -⟩ := DataW.trod_int Tryd.underlying35 f2
  have g2 : (DataW.lit (.string bs) : DataW Unit) = .lit (.string s.data.toList) := by rw [hx1.1, e4]
  have g1 : (DataW.lit (.int .u64 r) : DataW Unit) = .lit (.int .u64 n') := by rw [hx1.2.1, e2]
  have g3 : (DataW.lit (.int .u64 t) : DataW Unit) = .lit (.int .u64 n'') := by rw [hx1.2.2, e6]
  injection g1 with g1
  injection g1 with _ g1
  injection g3 with g3
  injection g3 with _ g3
  injection g2 with g2
  injection g2 with g2
  injection e1 with e1
  injection e3 with e3
  injection e5 with e5
  subst h0 h1 h2
  refine ⟨⟨s, ?_, g2.symm⟩, ?_, ?_⟩
  · simp only [List.getElem?_cons_zero]; rw [e3]
  · simp only [List.getElem?_cons_succ, List.getElem?_cons_zero]; rw [e1, g1]
  · simp only [List.getElem?_cons_succ, List.getElem?_cons_zero]; rw [e5, g3]
theorem bytes_eq {s t : ByteArray} (h : s.data.toList = t.data.toList) : s = t := by
  cases s; cases t; congr 1; exact Array.ext' h

/-- WHAT THE CONDITION GIVES -/
theorem ut_of_laid {W : World} (h : laidMetH Tryd.prog Rows.unitReadsRow.laid W) : Ut W := by
  rw [MakeChecks.laidMetH_plain _ _ _ (by kernel_rfl)] at h
  have h3 : VarReads Tryd.prog W "internal/strconv.uint64pow10" (tabData .u64 pow10Tab) := pow_eq ▸ Lib.laidMet.reads h (.tail _ (.tail _ (.head _)))
  have h5 : VarReads Tryd.prog W "platen/unit.units" (.agg unitDs) := unit_eq ▸ Lib.laidMet.reads h (.tail _ (.tail _ (.tail _ (.head _))))
  have tab : Lib.TabIs Tryd.prog W "internal/strconv.uint64pow10" .u64 Lib.pow10Tab := by
    obtain ⟨g, t, cs, fuel, p, hg, hty, hvar, hd⟩ := h3
    obtain rfl := Option.some.inj (gPow.symm.trans hg)
    obtain rfl := Option.some.inj (tPow.symm.trans hty)
    unfold TabIs
    rw [hvar, ← cells_of_tab Tryd.underlying74 Tryd.underlying35 cells35 cells74 hd]
  have en : ∀ (i : Nat) (r t : Int) (bs : List UInt8), i < 6 → unitDs[i]? = some (DataW.agg [.lit (.string bs), .lit (.int .u64 r), .lit (.int .u64 t)] : DataW Unit) →
      (∃ s : ByteArray, W.cell? ⟨0, 3 * i, none⟩ = some (.string s) ∧ s.data.toList = bs) ∧ W.cell? ⟨0, 3 * i + 1, none⟩ = some (.int .u64 r) ∧ W.cell? ⟨0, 3 * i + 2, none⟩ = some (.int .u64 t) := fun i r t bs hi hds => by
    obtain ⟨g, ty, cs, fuel, p, hg, hty, hvar, hd⟩ := h5
    obtain rfl := Option.some.inj (gUnits.symm.trans hg)
    obtain rfl := Option.some.inj (tUnits.symm.trans hty)
    obtain ⟨fuel', d, q, hdi, he⟩ := array_elem (ds := unitDs) Tryd.underlying58 hd i hi
    have hd2 : d = DataW.agg [.lit (.string bs), .lit (.int .u64 r), .lit (.int .u64 t)] := Option.some.inj (hdi.symm.trans hds)
    subst hd2
    rw [cells41] at he
    have := unit_cells rfl rfl rfl he
    simp only [List.getElem?_take, List.getElem?_drop] at this
    rw [World.var?_cell hg hvar (3 * i), World.var?_cell hg hvar (3 * i + 1), World.var?_cell hg hvar (3 * i + 2), ← Array.getElem?_toList, ← Array.getElem?_toList, ← Array.getElem?_toList]
    simpa [Nat.mul_comm] using this
  have st : ∀ {s : ByteArray} {t : ByteArray} {c : Option Value}, c = some (.string s) → s.data.toList = t.data.toList → c = some (.string t) := fun h1 h2 => by rw [h1, bytes_eq h2]
  obtain ⟨⟨s0, a0, b0⟩, c0, d0⟩ := en 0 65536 1 [] (by decide) rfl
  obtain ⟨⟨s1, a1, b1⟩, c1, d1⟩ := en 1 65536 1 [112, 116] (by decide) rfl
  obtain ⟨⟨s2, a2, b2⟩, c2, d2⟩ := en 2 4718592 1 [105, 110] (by decide) rfl
  obtain ⟨⟨s3, a3, b3⟩, c3, d3⟩ := en 3 23592960 127 [109, 109] (by decide) rfl
  obtain ⟨⟨s4, a4, b4⟩, c4, d4⟩ := en 4 1 1 [115, 112] (by decide) rfl
  obtain ⟨⟨s5, a5, b5⟩, c5, d5⟩ := en 5 0 1 [101, 109] (by decide) rfl
  exact ⟨⟨st (t := uT0) a0 b0, c0, d0, st (t := uT1) a1 b1, c1, d1, st (t := uT2) a2 b2, c2, d2, st (t := uT3) a3 b3, c3, d3, st (t := uT4) a4 b4, c4, d4, st (t := uT5) a5 b5, c5, d5⟩, tab⟩
theorem laid_met (os : Os) (args : Array Value) : laidMetH Tryd.prog Rows.unitReadsRow.laid ((World.laidAll Tryd.prog os Rows.unitReadsRow.laid).forCall (fun _ _ => 0) ⟨#[], args, []⟩).memory := by
  rw [MakeChecks.laidMetH_plain _ _ _ (by kernel_rfl)]
  exact laidMet_laidAll _ (by kernel_rfl) (by kernel_rfl)
theorem laid_shaped (os : Os) : (World.laidAll Tryd.prog os Rows.unitReadsRow.laid).Shaped Tryd.prog :=
  World.shaped_of_ZipB (by kernel_rfl) (by kernel_rfl)
end Go.Proofs.YtapnmopcmlcfbaaDoor
