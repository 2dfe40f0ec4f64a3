/-
  No cell of these rows narrows 'for every input' (looked for: loops, veiled, ifaces, maps, wideKeys, modest, calm, conditions, laid).
  DERIVED. THE GIVEN ROWS OF THIS SEAT. 4 by the template 'for every input the law returns true; each argument reads behind the call as it read before'; 0 by the template 'total and deterministic' (their statements: YtliomaiaknpphaaTotals.lean).
  GIVEN WITH THE SEED: the statements are not yours to turn. If you find one false, say at which input.
  Laid BY PROGRAM, IN A SANDBOX (cutbox-rows.mjs): the forced cells as the released guide's own fill.sh prints them over the translation dac62530cf91e8ce… (all of the seat's roots in one cut). By AI agents, Wed Nov 11 2026. No macro, syntax, notation, axiom, sorry.
-/
import Derived.Test.YtliomaiaknpphaaChecked
import GoSem.Claim
import GoSem.ClaimJoined
import GoSem.ClaimMapViews
import Derived.JoinedTies
import Derived.KernelRfl
namespace Go.Proofs.Ytliomaiaknpphaa
/- THE CELL 'sum', in the pinned program and in every row, IS THE sha256 OF THE DUMP (.gsa) THAT YtliomaiaknpphaaProg.lean LOADS. Nothing in Lean hashes anything: it is a label: what it is worth is what the hold of that sum in a sandbox is worth. -/
noncomputable def Try.pinned : Pinned := { name := "ytliomaiaknpphaa", sum := "dac62530cf91e8ce0cb160ef6a83eabed5ce50e87663f277a87af9e3380997ea", checked := Try.checked }
namespace Rows
def none {H : Type} : Left H := { results := [], args := [] }

/-- 'platenlaw02.MeterScript': WHATEVER THE INPUT: true; the input reads as it did. -/
def meterScriptSpec : ChangeSpec := { name := "meterScript", fn := fun _ => fun
  | [d1, d2, d3] => { results := [.lit (.bool true)], args := [d1, d2, d3] }
  | _ => none }
def meterScriptRow : OpenClaim := { program := "ytliomaiaknpphaa", sum := "dac62530cf91e8ce0cb160ef6a83eabed5ce50e87663f277a87af9e3380997ea", func := "platen/platenlaw02.MeterScript", spec := "meterScript", unfollowed := true, recurses := true, apart := false }
def MeterScriptSaid : Prop := meterScriptRow.holds Try.pinned (OpenSpec.ofChange meterScriptSpec)

/-- ITS FALSE NEIGHBOUR: 'it returns false'. Refute it at one input. -/
def meterScriptWrong : ChangeSpec := { name := "meterScript", fn := fun _ => fun
  | [d1, d2, d3] => { results := [.lit (.bool false)], args := [d1, d2, d3] }
  | _ => none }
def MeterScriptWrongFalsely : Prop := meterScriptRow.holds Try.pinned (OpenSpec.ofChange meterScriptWrong)

/-- 'platenlaw02.MeterParts': WHATEVER THE INPUT: true; the input reads as it did. -/
def meterPartsSpec : ChangeSpec := { name := "meterParts", fn := fun _ => fun
  | [d1, d2, d3, d4, d5] => { results := [.lit (.bool true)], args := [d1, d2, d3, d4, d5] }
  | _ => none }
def meterPartsRow : OpenClaim := { program := "ytliomaiaknpphaa", sum := "dac62530cf91e8ce0cb160ef6a83eabed5ce50e87663f277a87af9e3380997ea", func := "platen/platenlaw02.MeterParts", spec := "meterParts", unfollowed := true, recurses := true, apart := false }
def MeterPartsSaid : Prop := meterPartsRow.holds Try.pinned (OpenSpec.ofChange meterPartsSpec)

/-- ITS FALSE NEIGHBOUR: 'it returns false'. Refute it at one input. -/
def meterPartsWrong : ChangeSpec := { name := "meterParts", fn := fun _ => fun
  | [d1, d2, d3, d4, d5] => { results := [.lit (.bool false)], args := [d1, d2, d3, d4, d5] }
  | _ => none }
def MeterPartsWrongFalsely : Prop := meterPartsRow.holds Try.pinned (OpenSpec.ofChange meterPartsWrong)

/-- 'platenlaw02.MeterTight': WHATEVER THE INPUT: true; the input reads as it did. -/
def meterTightSpec : ChangeSpec := { name := "meterTight", fn := fun _ => fun
  | [d1, d2, d3] => { results := [.lit (.bool true)], args := [d1, d2, d3] }
  | _ => none }
def meterTightRow : OpenClaim := { program := "ytliomaiaknpphaa", sum := "dac62530cf91e8ce0cb160ef6a83eabed5ce50e87663f277a87af9e3380997ea", func := "platen/platenlaw02.MeterTight", spec := "meterTight", unfollowed := true, recurses := true, apart := false }
def MeterTightSaid : Prop := meterTightRow.holds Try.pinned (OpenSpec.ofChange meterTightSpec)

/-- ITS FALSE NEIGHBOUR: 'it returns false'. Refute it at one input. -/
def meterTightWrong : ChangeSpec := { name := "meterTight", fn := fun _ => fun
  | [d1, d2, d3] => { results := [.lit (.bool false)], args := [d1, d2, d3] }
  | _ => none }
def MeterTightWrongFalsely : Prop := meterTightRow.holds Try.pinned (OpenSpec.ofChange meterTightWrong)

/-- 'platenlaw02.MeterNames': WHATEVER THE INPUT: true; the input reads as it did. -/
def meterNamesSpec : ChangeSpec := { name := "meterNames", fn := fun _ => fun
  | [] => { results := [.lit (.bool true)], args := [] }
  | _ => none }
def meterNamesRow : OpenClaim := { program := "ytliomaiaknpphaa", sum := "dac62530cf91e8ce0cb160ef6a83eabed5ce50e87663f277a87af9e3380997ea", func := "platen/platenlaw02.MeterNames", spec := "meterNames", unfollowed := true, recurses := true, apart := false }
def MeterNamesSaid : Prop := meterNamesRow.holds Try.pinned (OpenSpec.ofChange meterNamesSpec)

/-- ITS FALSE NEIGHBOUR: 'it returns false'. Refute it at one input. -/
def meterNamesWrong : ChangeSpec := { name := "meterNames", fn := fun _ => fun
  | [] => { results := [.lit (.bool false)], args := [] }
  | _ => none }
def MeterNamesWrongFalsely : Prop := meterNamesRow.holds Try.pinned (OpenSpec.ofChange meterNamesWrong)

/- THE SECOND FORM. 'bulk': how many values and letters a reading holds, each counted each time it is reached (what is shared counts as often as it is met; a slice's spare places count too). A statement '..UptoSaid' is the law's where the arguments, and the package variables that the reading takes, are together of bulk at most 1048576: NARROWER than '..Said'. Prove '..Said' where nothing that the law and all that it calls make is longer than what came in: it says more and counts as full. Else prove '..UptoSaid'. A law counts once. -/
mutual
def uptoBulk {H : Type} : DataW H → Nat
  | .lit (.string bytes) => bytes.length + 1
  | .lit _ => 1
  | .nil => 1
  | .ptr d => uptoBulk d + 1
  | .slice elems spare => uptoBulkAll elems + uptoBulkAll spare + 1
  | .agg parts => uptoBulkAll parts + 1
  | .iface _ d => uptoBulk d + 1
  | .map entries => uptoBulkEntries entries + 1
  | .held _ => 1
def uptoBulkAll {H : Type} : List (DataW H) → Nat
  | [] => 0
  | d :: r => uptoBulk d + uptoBulkAll r
def uptoBulkEntries {H : Type} : List (Lit × DataW H) → Nat
  | [] => 0
  | x :: r => uptoBulkEntry x + uptoBulkEntries r
def uptoBulkEntry {H : Type} : Lit × DataW H → Nat
  | (.string bytes, d) => bytes.length + uptoBulk d + 1
  | (_, d) => uptoBulk d + 1
 end
def uptoSmall : (H : Type) → List (DataW H) → Bool := fun _ ds => decide (uptoBulkAll ds ≤ 1048576)
def OpenSpec.upto (s : _root_.Go.ChangeSpec) : _root_.Go.OpenSpec := { _root_.Go.OpenSpec.ofChange s with cond := some uptoSmall }

/-- 'platenlaw02.MeterScript', WHERE WHAT IT READS IS OF BULK AT MOST 1048576: true; the input reads as it did. -/
def meterScriptUptoRow : OpenClaim := { program := "ytliomaiaknpphaa", sum := "dac62530cf91e8ce0cb160ef6a83eabed5ce50e87663f277a87af9e3380997ea", func := "platen/platenlaw02.MeterScript", spec := "meterScript", unfollowed := true, recurses := true, apart := false, narrowed := true }
def MeterScriptUptoSaid : Prop := meterScriptUptoRow.holds Try.pinned (OpenSpec.upto meterScriptSpec)

/-- 'platenlaw02.MeterParts', WHERE WHAT IT READS IS OF BULK AT MOST 1048576: true; the input reads as it did. -/
def meterPartsUptoRow : OpenClaim := { program := "ytliomaiaknpphaa", sum := "dac62530cf91e8ce0cb160ef6a83eabed5ce50e87663f277a87af9e3380997ea", func := "platen/platenlaw02.MeterParts", spec := "meterParts", unfollowed := true, recurses := true, apart := false, narrowed := true }
def MeterPartsUptoSaid : Prop := meterPartsUptoRow.holds Try.pinned (OpenSpec.upto meterPartsSpec)

/-- 'platenlaw02.MeterTight', WHERE WHAT IT READS IS OF BULK AT MOST 1048576: true; the input reads as it did. -/
def meterTightUptoRow : OpenClaim := { program := "ytliomaiaknpphaa", sum := "dac62530cf91e8ce0cb160ef6a83eabed5ce50e87663f277a87af9e3380997ea", func := "platen/platenlaw02.MeterTight", spec := "meterTight", unfollowed := true, recurses := true, apart := false, narrowed := true }
def MeterTightUptoSaid : Prop := meterTightUptoRow.holds Try.pinned (OpenSpec.upto meterTightSpec)

/-- 'platenlaw02.MeterNames', WHERE WHAT IT READS IS OF BULK AT MOST 1048576: true; the input reads as it did. -/
def meterNamesUptoRow : OpenClaim := { program := "ytliomaiaknpphaa", sum := "dac62530cf91e8ce0cb160ef6a83eabed5ce50e87663f277a87af9e3380997ea", func := "platen/platenlaw02.MeterNames", spec := "meterNames", unfollowed := true, recurses := true, apart := false, narrowed := true }
def MeterNamesUptoSaid : Prop := meterNamesUptoRow.holds Try.pinned (OpenSpec.upto meterNamesSpec)

end Rows
end Go.Proofs.Ytliomaiaknpphaa
