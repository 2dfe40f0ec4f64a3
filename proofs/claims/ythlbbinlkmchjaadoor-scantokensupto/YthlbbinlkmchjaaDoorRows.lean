/-
  NARROWER THAN 'FOR EVERY INPUT', by the rows' own cells (each row's printed sentence says how): ScanTokens: laid · ScanTight: laid · ScanFirst: laid · ScanBack: laid · ScanPlaces: laid · ScanWrites: laid.
  DERIVED. THE GIVEN ROWS OF THIS SEAT. 6 by the template 'for every input the law returns true; each argument reads behind the call as it read before'; 0 by the template 'total and deterministic' (their statements: YthlbbinlkmchjaaDoorTotals.lean).
  GIVEN WITH THE SEED: the statements are not yours to turn. If you find one false, say at which input.
  Laid BY PROGRAM, IN A SANDBOX (cutbox-rows.mjs): the forced cells as the released guide's own fill.sh prints them over the translation 3bd24c3491fd065b… (all of the seat's roots in one cut). By AI agents, Wed Nov 11 2026. No macro, syntax, notation, axiom, sorry.
-/
import Derived.Test.YthlbbinlkmchjaaDoorChecked
import GoSem.PinnedTables
import GoSem.Claim
import GoSem.ClaimJoined
import GoSem.ClaimMapViews
import Derived.JoinedTies
import Derived.KernelRfl
namespace Go.Proofs.YthlbbinlkmchjaaDoor
/- THE CELL 'sum', in the pinned program and in every row, IS THE sha256 OF THE DUMP (.gsa) THAT YthlbbinlkmchjaaDoorProg.lean LOADS. Nothing in Lean hashes anything: it is a label: what it is worth is what the hold of that sum in a sandbox is worth. -/
noncomputable def Tryd.pinned : Pinned := { name := "ythlbbinlkmchjaadoor", sum := "3bd24c3491fd065bd475b066bef32744abdc271dd8a062f4798ad0a730091f07", checked := Tryd.checked }
namespace Rows
def none {H : Type} : Left H := { results := [], args := [] }

/- WHAT THE LISTED PACKAGE-LEVEL VARIABLES READ AS WHEN THE CALL BEGINS. Each datum BY PROGRAM (the guide's laid-datum.mjs) off the statement by which the dump's own 'gosem.cut.vars' lays the variable. In a bare row this is a premise. The card (YthlbbinlkmchjaaDoorCards.lean) ties it to the program's text. -/
def laid_unicode_utf8_acceptRanges {H : Type} : DataW H := .agg [.agg [.lit (.int .u8 128), .lit (.int .u8 191)], .agg [.lit (.int .u8 160), .lit (.int .u8 191)], .agg [.lit (.int .u8 128), .lit (.int .u8 159)], .agg [.lit (.int .u8 144), .lit (.int .u8 191)], .agg [.lit (.int .u8 128), .lit (.int .u8 143)], .agg [.lit (.int .u8 0), .lit (.int .u8 0)], .agg [.lit (.int .u8 0), .lit (.int .u8 0)], .agg [.lit (.int .u8 0), .lit (.int .u8 0)], .agg [.lit (.int .u8 0), .lit (.int .u8 0)], .agg [.lit (.int .u8 0), .lit (.int .u8 0)], .agg [.lit (.int .u8 0), .lit (.int .u8 0)], .agg [.lit (.int .u8 0), .lit (.int .u8 0)], .agg [.lit (.int .u8 0), .lit (.int .u8 0)], .agg [.lit (.int .u8 0), .lit (.int .u8 0)], .agg [.lit (.int .u8 0), .lit (.int .u8 0)], .agg [.lit (.int .u8 0), .lit (.int .u8 0)]]
def laid_platen_scan_entities {H : Type} : DataW H := .agg [.agg [.lit (.int .i64 60), .lit (.string [38, 108, 116, 59])], .agg [.lit (.int .i64 62), .lit (.string [38, 103, 116, 59])], .agg [.lit (.int .i64 38), .lit (.string [38, 97, 109, 112, 59])], .agg [.lit (.int .i64 34), .lit (.string [38, 113, 117, 111, 116, 59])], .agg [.lit (.int .i64 173), .lit (.string [38, 115, 104, 121, 59])], .agg [.lit (.int .i64 160), .lit (.string [38, 110, 98, 115, 112, 59])]]
/-- One of Go's own tables, pinned by name: the form's constant. -/
def laid_unicode_utf8_first : DataW Unit := Go.Pinned.utf8First

/-- 'platenlaw07.ScanTokens': WHATEVER THE INPUT: true; the input reads as it did. -/
def scanTokensSpec : ChangeSpec := { name := "scanTokens", fn := fun _ => fun
  | [d1, d2, d3, d4] => { results := [.lit (.bool true)], args := [d1, d2, d3, d4] }
  | _ => none }
def scanTokensRow : OpenClaim := { program := "ythlbbinlkmchjaadoor", sum := "3bd24c3491fd065bd475b066bef32744abdc271dd8a062f4798ad0a730091f07", func := "platen/platenlaw07.ScanTokens", spec := "scanTokens", unfollowed := true, recurses := true, named := ["platen/scan.entities", "unicode/utf8.first", "unicode/utf8.acceptRanges"], apart := false, laid := [("unicode/utf8.acceptRanges", laid_unicode_utf8_acceptRanges), ("platen/scan.entities", laid_platen_scan_entities), ("unicode/utf8.first", laid_unicode_utf8_first)] }
def ScanTokensSaid : Prop := scanTokensRow.holds Tryd.pinned (OpenSpec.ofChange scanTokensSpec)

/-- ITS FALSE NEIGHBOUR: 'it returns false'. Refute it at one input. -/
def scanTokensWrong : ChangeSpec := { name := "scanTokens", fn := fun _ => fun
  | [d1, d2, d3, d4] => { results := [.lit (.bool false)], args := [d1, d2, d3, d4] }
  | _ => none }
def ScanTokensWrongFalsely : Prop := scanTokensRow.holds Tryd.pinned (OpenSpec.ofChange scanTokensWrong)

/-- 'platenlaw07.ScanTight': WHATEVER THE INPUT: true; the input reads as it did. -/
def scanTightSpec : ChangeSpec := { name := "scanTight", fn := fun _ => fun
  | [d1, d2] => { results := [.lit (.bool true)], args := [d1, d2] }
  | _ => none }
def scanTightRow : OpenClaim := { program := "ythlbbinlkmchjaadoor", sum := "3bd24c3491fd065bd475b066bef32744abdc271dd8a062f4798ad0a730091f07", func := "platen/platenlaw07.ScanTight", spec := "scanTight", unfollowed := true, recurses := true, named := ["platen/scan.entities", "unicode/utf8.first", "unicode/utf8.acceptRanges"], apart := false, laid := [("unicode/utf8.acceptRanges", laid_unicode_utf8_acceptRanges), ("platen/scan.entities", laid_platen_scan_entities), ("unicode/utf8.first", laid_unicode_utf8_first)] }
def ScanTightSaid : Prop := scanTightRow.holds Tryd.pinned (OpenSpec.ofChange scanTightSpec)

/-- ITS FALSE NEIGHBOUR: 'it returns false'. Refute it at one input. -/
def scanTightWrong : ChangeSpec := { name := "scanTight", fn := fun _ => fun
  | [d1, d2] => { results := [.lit (.bool false)], args := [d1, d2] }
  | _ => none }
def ScanTightWrongFalsely : Prop := scanTightRow.holds Tryd.pinned (OpenSpec.ofChange scanTightWrong)

/-- 'platenlaw07.ScanFirst': WHATEVER THE INPUT: true; the input reads as it did. -/
def scanFirstSpec : ChangeSpec := { name := "scanFirst", fn := fun _ => fun
  | [d1, d2] => { results := [.lit (.bool true)], args := [d1, d2] }
  | _ => none }
def scanFirstRow : OpenClaim := { program := "ythlbbinlkmchjaadoor", sum := "3bd24c3491fd065bd475b066bef32744abdc271dd8a062f4798ad0a730091f07", func := "platen/platenlaw07.ScanFirst", spec := "scanFirst", unfollowed := true, recurses := true, named := ["platen/scan.entities", "unicode/utf8.first", "unicode/utf8.acceptRanges"], apart := false, laid := [("unicode/utf8.acceptRanges", laid_unicode_utf8_acceptRanges), ("platen/scan.entities", laid_platen_scan_entities), ("unicode/utf8.first", laid_unicode_utf8_first)] }
def ScanFirstSaid : Prop := scanFirstRow.holds Tryd.pinned (OpenSpec.ofChange scanFirstSpec)

/-- ITS FALSE NEIGHBOUR: 'it returns false'. Refute it at one input. -/
def scanFirstWrong : ChangeSpec := { name := "scanFirst", fn := fun _ => fun
  | [d1, d2] => { results := [.lit (.bool false)], args := [d1, d2] }
  | _ => none }
def ScanFirstWrongFalsely : Prop := scanFirstRow.holds Tryd.pinned (OpenSpec.ofChange scanFirstWrong)

/-- 'platenlaw07.ScanBack': WHATEVER THE INPUT: true; the input reads as it did. -/
def scanBackSpec : ChangeSpec := { name := "scanBack", fn := fun _ => fun
  | [d1, d2] => { results := [.lit (.bool true)], args := [d1, d2] }
  | _ => none }
def scanBackRow : OpenClaim := { program := "ythlbbinlkmchjaadoor", sum := "3bd24c3491fd065bd475b066bef32744abdc271dd8a062f4798ad0a730091f07", func := "platen/platenlaw07.ScanBack", spec := "scanBack", unfollowed := true, recurses := true, named := ["platen/scan.entities", "unicode/utf8.first", "unicode/utf8.acceptRanges"], apart := false, laid := [("unicode/utf8.acceptRanges", laid_unicode_utf8_acceptRanges), ("platen/scan.entities", laid_platen_scan_entities), ("unicode/utf8.first", laid_unicode_utf8_first)] }
def ScanBackSaid : Prop := scanBackRow.holds Tryd.pinned (OpenSpec.ofChange scanBackSpec)

/-- ITS FALSE NEIGHBOUR: 'it returns false'. Refute it at one input. -/
def scanBackWrong : ChangeSpec := { name := "scanBack", fn := fun _ => fun
  | [d1, d2] => { results := [.lit (.bool false)], args := [d1, d2] }
  | _ => none }
def ScanBackWrongFalsely : Prop := scanBackRow.holds Tryd.pinned (OpenSpec.ofChange scanBackWrong)

/-- 'platenlaw07.ScanPlaces': WHATEVER THE INPUT: true; the input reads as it did. -/
def scanPlacesSpec : ChangeSpec := { name := "scanPlaces", fn := fun _ => fun
  | [d] => { results := [.lit (.bool true)], args := [d] }
  | _ => none }
def scanPlacesRow : OpenClaim := { program := "ythlbbinlkmchjaadoor", sum := "3bd24c3491fd065bd475b066bef32744abdc271dd8a062f4798ad0a730091f07", func := "platen/platenlaw07.ScanPlaces", spec := "scanPlaces", unfollowed := true, recurses := true, named := ["platen/scan.entities", "unicode/utf8.first", "unicode/utf8.acceptRanges"], apart := false, laid := [("unicode/utf8.acceptRanges", laid_unicode_utf8_acceptRanges), ("platen/scan.entities", laid_platen_scan_entities), ("unicode/utf8.first", laid_unicode_utf8_first)] }
def ScanPlacesSaid : Prop := scanPlacesRow.holds Tryd.pinned (OpenSpec.ofChange scanPlacesSpec)

/-- ITS FALSE NEIGHBOUR: 'it returns false'. Refute it at one input. -/
def scanPlacesWrong : ChangeSpec := { name := "scanPlaces", fn := fun _ => fun
  | [d] => { results := [.lit (.bool false)], args := [d] }
  | _ => none }
def ScanPlacesWrongFalsely : Prop := scanPlacesRow.holds Tryd.pinned (OpenSpec.ofChange scanPlacesWrong)

/-- 'platenlaw07.ScanWrites': WHATEVER THE INPUT: true; the input reads as it did. -/
def scanWritesSpec : ChangeSpec := { name := "scanWrites", fn := fun _ => fun
  | [d1, d2] => { results := [.lit (.bool true)], args := [d1, d2] }
  | _ => none }
def scanWritesRow : OpenClaim := { program := "ythlbbinlkmchjaadoor", sum := "3bd24c3491fd065bd475b066bef32744abdc271dd8a062f4798ad0a730091f07", func := "platen/platenlaw07.ScanWrites", spec := "scanWrites", unfollowed := true, recurses := true, named := ["platen/scan.entities", "unicode/utf8.first", "unicode/utf8.acceptRanges"], apart := false, laid := [("unicode/utf8.acceptRanges", laid_unicode_utf8_acceptRanges), ("platen/scan.entities", laid_platen_scan_entities), ("unicode/utf8.first", laid_unicode_utf8_first)] }
def ScanWritesSaid : Prop := scanWritesRow.holds Tryd.pinned (OpenSpec.ofChange scanWritesSpec)

/-- ITS FALSE NEIGHBOUR: 'it returns false'. Refute it at one input. -/
def scanWritesWrong : ChangeSpec := { name := "scanWrites", fn := fun _ => fun
  | [d1, d2] => { results := [.lit (.bool false)], args := [d1, d2] }
  | _ => none }
def ScanWritesWrongFalsely : Prop := scanWritesRow.holds Tryd.pinned (OpenSpec.ofChange scanWritesWrong)

/- THE SECOND FORM. 'bulk': how many values and letters a reading holds, each counted each time it is reached (what is shared counts as often as it is met; a slice's spare places count too). A statement '..UptoSaid' is the law's where the arguments, and the package variables that the reading takes, are together of bulk at most 1048576: NARROWER than '..Said'. Prove '..Said' where nothing that the law and all that it calls make is longer than what came in: it says more and counts as full. Else prove '..UptoSaid'. A law counts once. -/
mutual
def uptoBulk {H : Type} : DataW H → Nat
  | .lit (.string bytes) => bytes.length + 1
  | .lit _ => 1
  | .nil => 1
  | .ptr d => uptoBulk d + 1
  | .slice elems spare => uptoBulkAll elems + uptoBulkAll spare + 1
  | .agg parts => uptoBulkAll parts + 1
  | .iface _ d => uptoBulk d + 1
  | .map entries => uptoBulkEntries entries + 1
  | .held _ => 1
def uptoBulkAll {H : Type} : List (DataW H) → Nat
  | [] => 0
  | d :: r => uptoBulk d + uptoBulkAll r
def uptoBulkEntries {H : Type} : List (Lit × DataW H) → Nat
  | [] => 0
  | x :: r => uptoBulkEntry x + uptoBulkEntries r
def uptoBulkEntry {H : Type} : Lit × DataW H → Nat
  | (.string bytes, d) => bytes.length + uptoBulk d + 1
  | (_, d) => uptoBulk d + 1
 end
def uptoSmall : (H : Type) → List (DataW H) → Bool := fun _ ds => decide (uptoBulkAll ds ≤ 1048576)
def OpenSpec.upto (s : _root_.Go.ChangeSpec) : _root_.Go.OpenSpec := { _root_.Go.OpenSpec.ofChange s with cond := some uptoSmall }

/-- 'platenlaw07.ScanTokens', WHERE WHAT IT READS IS OF BULK AT MOST 1048576: true; the input reads as it did. -/
def scanTokensUptoRow : OpenClaim := { program := "ythlbbinlkmchjaadoor", sum := "3bd24c3491fd065bd475b066bef32744abdc271dd8a062f4798ad0a730091f07", func := "platen/platenlaw07.ScanTokens", spec := "scanTokens", unfollowed := true, recurses := true, named := ["platen/scan.entities", "unicode/utf8.first", "unicode/utf8.acceptRanges"], apart := false, laid := [("unicode/utf8.acceptRanges", laid_unicode_utf8_acceptRanges), ("platen/scan.entities", laid_platen_scan_entities), ("unicode/utf8.first", laid_unicode_utf8_first)], narrowed := true }
def ScanTokensUptoSaid : Prop := scanTokensUptoRow.holds Tryd.pinned (OpenSpec.upto scanTokensSpec)

/-- 'platenlaw07.ScanTight', WHERE WHAT IT READS IS OF BULK AT MOST 1048576: true; the input reads as it did. -/
def scanTightUptoRow : OpenClaim := { program := "ythlbbinlkmchjaadoor", sum := "3bd24c3491fd065bd475b066bef32744abdc271dd8a062f4798ad0a730091f07", func := "platen/platenlaw07.ScanTight", spec := "scanTight", unfollowed := true, recurses := true, named := ["platen/scan.entities", "unicode/utf8.first", "unicode/utf8.acceptRanges"], apart := false, laid := [("unicode/utf8.acceptRanges", laid_unicode_utf8_acceptRanges), ("platen/scan.entities", laid_platen_scan_entities), ("unicode/utf8.first", laid_unicode_utf8_first)], narrowed := true }
def ScanTightUptoSaid : Prop := scanTightUptoRow.holds Tryd.pinned (OpenSpec.upto scanTightSpec)

/-- 'platenlaw07.ScanFirst', WHERE WHAT IT READS IS OF BULK AT MOST 1048576: true; the input reads as it did. -/
def scanFirstUptoRow : OpenClaim := { program := "ythlbbinlkmchjaadoor", sum := "3bd24c3491fd065bd475b066bef32744abdc271dd8a062f4798ad0a730091f07", func := "platen/platenlaw07.ScanFirst", spec := "scanFirst", unfollowed := true, recurses := true, named := ["platen/scan.entities", "unicode/utf8.first", "unicode/utf8.acceptRanges"], apart := false, laid := [("unicode/utf8.acceptRanges", laid_unicode_utf8_acceptRanges), ("platen/scan.entities", laid_platen_scan_entities), ("unicode/utf8.first", laid_unicode_utf8_first)], narrowed := true }
def ScanFirstUptoSaid : Prop := scanFirstUptoRow.holds Tryd.pinned (OpenSpec.upto scanFirstSpec)

/-- 'platenlaw07.ScanBack', WHERE WHAT IT READS IS OF BULK AT MOST 1048576: true; the input reads as it did. -/
def scanBackUptoRow : OpenClaim := { program := "ythlbbinlkmchjaadoor", sum := "3bd24c3491fd065bd475b066bef32744abdc271dd8a062f4798ad0a730091f07", func := "platen/platenlaw07.ScanBack", spec := "scanBack", unfollowed := true, recurses := true, named := ["platen/scan.entities", "unicode/utf8.first", "unicode/utf8.acceptRanges"], apart := false, laid := [("unicode/utf8.acceptRanges", laid_unicode_utf8_acceptRanges), ("platen/scan.entities", laid_platen_scan_entities), ("unicode/utf8.first", laid_unicode_utf8_first)], narrowed := true }
def ScanBackUptoSaid : Prop := scanBackUptoRow.holds Tryd.pinned (OpenSpec.upto scanBackSpec)

/-- 'platenlaw07.ScanPlaces', WHERE WHAT IT READS IS OF BULK AT MOST 1048576: true; the input reads as it did. -/
def scanPlacesUptoRow : OpenClaim := { program := "ythlbbinlkmchjaadoor", sum := "3bd24c3491fd065bd475b066bef32744abdc271dd8a062f4798ad0a730091f07", func := "platen/platenlaw07.ScanPlaces", spec := "scanPlaces", unfollowed := true, recurses := true, named := ["platen/scan.entities", "unicode/utf8.first", "unicode/utf8.acceptRanges"], apart := false, laid := [("unicode/utf8.acceptRanges", laid_unicode_utf8_acceptRanges), ("platen/scan.entities", laid_platen_scan_entities), ("unicode/utf8.first", laid_unicode_utf8_first)], narrowed := true }
def ScanPlacesUptoSaid : Prop := scanPlacesUptoRow.holds Tryd.pinned (OpenSpec.upto scanPlacesSpec)

/-- 'platenlaw07.ScanWrites', WHERE WHAT IT READS IS OF BULK AT MOST 1048576: true; the input reads as it did. -/
def scanWritesUptoRow : OpenClaim := { program := "ythlbbinlkmchjaadoor", sum := "3bd24c3491fd065bd475b066bef32744abdc271dd8a062f4798ad0a730091f07", func := "platen/platenlaw07.ScanWrites", spec := "scanWrites", unfollowed := true, recurses := true, named := ["platen/scan.entities", "unicode/utf8.first", "unicode/utf8.acceptRanges"], apart := false, laid := [("unicode/utf8.acceptRanges", laid_unicode_utf8_acceptRanges), ("platen/scan.entities", laid_platen_scan_entities), ("unicode/utf8.first", laid_unicode_utf8_first)], narrowed := true }
def ScanWritesUptoSaid : Prop := scanWritesUptoRow.holds Tryd.pinned (OpenSpec.upto scanWritesSpec)

end Rows
end Go.Proofs.YthlbbinlkmchjaaDoor
