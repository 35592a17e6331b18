/-
  NARROWER THAN 'FOR EVERY INPUT', by the rows' own cells (each row's printed sentence says how): BigintConverts: laid · BigintOperations: laid · BigintRing: laid · BigintDivides: laid · BigintDivisors: laid · BigintPowers: laid · BigintModular: laid · BigintRoots: laid · BigintStrings: laid · BigintMemory: laid.
  DERIVED. THE GIVEN ROWS OF THIS SEAT. 10 by the template 'for every input the law returns true; each argument reads behind the call as it read before'; 0 by the template 'total and deterministic' (their statements: YtbijjiadokgmoaaDoorTotals.lean).
  GIVEN WITH THE SEED: the statements are not yours to turn. If you find one false, say at which input.
  Laid BY PROGRAM, IN A SANDBOX (cutbox-rows.mjs): the forced cells as the released guide's own fill.sh prints them over the translation 34e5ecc73540a344… (all of the seat's roots in one cut). By AI agents, Wed Nov 11 2026. No macro, syntax, notation, axiom, sorry.
-/
import Derived.Test.YtbijjiadokgmoaaDoorChecked
import GoSem.PinnedTables
import GoSem.Claim
import GoSem.ClaimJoined
import GoSem.ClaimMapViews
import Derived.JoinedTies
import Derived.KernelRfl
namespace Go.Proofs.YtbijjiadokgmoaaDoor
/- THE CELL 'sum', in the pinned program and in every row, IS THE sha256 OF THE DUMP (.gsa) THAT YtbijjiadokgmoaaDoorProg.lean LOADS. Nothing in Lean hashes anything: it is a label: what it is worth is what the hold of that sum in a sandbox is worth. -/
noncomputable def Tryd.pinned : Pinned := { name := "ytbijjiadokgmoaadoor", sum := "34e5ecc73540a344c3f4b7533cea3c8fb8ee9cb1518b997be062c3111cde1ebf", checked := Tryd.checked }
namespace Rows
def none {H : Type} : Left H := { results := [], args := [] }

/- WHAT THE LISTED PACKAGE-LEVEL VARIABLES READ AS WHEN THE CALL BEGINS. Each datum BY PROGRAM (the guide's laid-datum.mjs) off the statement by which the dump's own 'gosem.cut.vars' lays the variable. In a bare row this is a premise. The card (YtbijjiadokgmoaaDoorCards.lean) ties it to the program's text. -/
def laid_unicode_utf8_acceptRanges {H : Type} : DataW H := .agg [.agg [.lit (.int .u8 128), .lit (.int .u8 191)], .agg [.lit (.int .u8 160), .lit (.int .u8 191)], .agg [.lit (.int .u8 128), .lit (.int .u8 159)], .agg [.lit (.int .u8 144), .lit (.int .u8 191)], .agg [.lit (.int .u8 128), .lit (.int .u8 143)], .agg [.lit (.int .u8 0), .lit (.int .u8 0)], .agg [.lit (.int .u8 0), .lit (.int .u8 0)], .agg [.lit (.int .u8 0), .lit (.int .u8 0)], .agg [.lit (.int .u8 0), .lit (.int .u8 0)], .agg [.lit (.int .u8 0), .lit (.int .u8 0)], .agg [.lit (.int .u8 0), .lit (.int .u8 0)], .agg [.lit (.int .u8 0), .lit (.int .u8 0)], .agg [.lit (.int .u8 0), .lit (.int .u8 0)], .agg [.lit (.int .u8 0), .lit (.int .u8 0)], .agg [.lit (.int .u8 0), .lit (.int .u8 0)], .agg [.lit (.int .u8 0), .lit (.int .u8 0)]]
/-- One of Go's own tables, pinned by name: the form's constant. -/
def laid_unicode_utf8_first : DataW Unit := Go.Pinned.utf8First

/-- 'halfplanelaw01.BigintConverts': WHATEVER THE INPUT: true; the input reads as it did. -/
def bigintConvertsSpec : ChangeSpec := { name := "bigintConverts", fn := fun _ => fun
  | [d1, d2] => { results := [.lit (.bool true)], args := [d1, d2] }
  | _ => none }
def bigintConvertsRow : OpenClaim := { program := "ytbijjiadokgmoaadoor", sum := "34e5ecc73540a344c3f4b7533cea3c8fb8ee9cb1518b997be062c3111cde1ebf", func := "halfplane/halfplanelaw01.BigintConverts", spec := "bigintConverts", inPlace := ["internal/bytealg.IndexByteString", "internal/bytealg.IndexString"], recurses := true, named := ["unicode/utf8.first", "unicode/utf8.acceptRanges", "internal/bytealg.MaxLen"], apart := false, laid := [("unicode/utf8.acceptRanges", laid_unicode_utf8_acceptRanges), ("unicode/utf8.first", laid_unicode_utf8_first)] }
def BigintConvertsSaid : Prop := bigintConvertsRow.holds Tryd.pinned (OpenSpec.ofChange bigintConvertsSpec)

/-- ITS FALSE NEIGHBOUR: 'it returns false'. Refute it at one input. -/
def bigintConvertsWrong : ChangeSpec := { name := "bigintConverts", fn := fun _ => fun
  | [d1, d2] => { results := [.lit (.bool false)], args := [d1, d2] }
  | _ => none }
def BigintConvertsWrongFalsely : Prop := bigintConvertsRow.holds Tryd.pinned (OpenSpec.ofChange bigintConvertsWrong)

/-- 'halfplanelaw01.BigintOperations': WHATEVER THE INPUT: true; the input reads as it did. -/
def bigintOperationsSpec : ChangeSpec := { name := "bigintOperations", fn := fun _ => fun
  | [d1, d2] => { results := [.lit (.bool true)], args := [d1, d2] }
  | _ => none }
def bigintOperationsRow : OpenClaim := { program := "ytbijjiadokgmoaadoor", sum := "34e5ecc73540a344c3f4b7533cea3c8fb8ee9cb1518b997be062c3111cde1ebf", func := "halfplane/halfplanelaw01.BigintOperations", spec := "bigintOperations", inPlace := ["internal/bytealg.IndexByteString", "internal/bytealg.IndexString"], recurses := true, named := ["unicode/utf8.first", "unicode/utf8.acceptRanges", "internal/bytealg.MaxLen"], apart := false, laid := [("unicode/utf8.acceptRanges", laid_unicode_utf8_acceptRanges), ("unicode/utf8.first", laid_unicode_utf8_first)] }
def BigintOperationsSaid : Prop := bigintOperationsRow.holds Tryd.pinned (OpenSpec.ofChange bigintOperationsSpec)

/-- ITS FALSE NEIGHBOUR: 'it returns false'. Refute it at one input. -/
def bigintOperationsWrong : ChangeSpec := { name := "bigintOperations", fn := fun _ => fun
  | [d1, d2] => { results := [.lit (.bool false)], args := [d1, d2] }
  | _ => none }
def BigintOperationsWrongFalsely : Prop := bigintOperationsRow.holds Tryd.pinned (OpenSpec.ofChange bigintOperationsWrong)

/-- 'halfplanelaw01.BigintRing': WHATEVER THE INPUT: true; the input reads as it did. -/
def bigintRingSpec : ChangeSpec := { name := "bigintRing", fn := fun _ => fun
  | [d1, d2, d3] => { results := [.lit (.bool true)], args := [d1, d2, d3] }
  | _ => none }
def bigintRingRow : OpenClaim := { program := "ytbijjiadokgmoaadoor", sum := "34e5ecc73540a344c3f4b7533cea3c8fb8ee9cb1518b997be062c3111cde1ebf", func := "halfplane/halfplanelaw01.BigintRing", spec := "bigintRing", inPlace := ["internal/bytealg.IndexByteString", "internal/bytealg.IndexString"], recurses := true, named := ["unicode/utf8.first", "unicode/utf8.acceptRanges", "internal/bytealg.MaxLen"], apart := false, laid := [("unicode/utf8.acceptRanges", laid_unicode_utf8_acceptRanges), ("unicode/utf8.first", laid_unicode_utf8_first)] }
def BigintRingSaid : Prop := bigintRingRow.holds Tryd.pinned (OpenSpec.ofChange bigintRingSpec)

/-- ITS FALSE NEIGHBOUR: 'it returns false'. Refute it at one input. -/
def bigintRingWrong : ChangeSpec := { name := "bigintRing", fn := fun _ => fun
  | [d1, d2, d3] => { results := [.lit (.bool false)], args := [d1, d2, d3] }
  | _ => none }
def BigintRingWrongFalsely : Prop := bigintRingRow.holds Tryd.pinned (OpenSpec.ofChange bigintRingWrong)

/-- 'halfplanelaw01.BigintDivides': WHATEVER THE INPUT: true; the input reads as it did. -/
def bigintDividesSpec : ChangeSpec := { name := "bigintDivides", fn := fun _ => fun
  | [d1, d2] => { results := [.lit (.bool true)], args := [d1, d2] }
  | _ => none }
def bigintDividesRow : OpenClaim := { program := "ytbijjiadokgmoaadoor", sum := "34e5ecc73540a344c3f4b7533cea3c8fb8ee9cb1518b997be062c3111cde1ebf", func := "halfplane/halfplanelaw01.BigintDivides", spec := "bigintDivides", inPlace := ["internal/bytealg.IndexByteString", "internal/bytealg.IndexString"], recurses := true, named := ["unicode/utf8.first", "unicode/utf8.acceptRanges", "internal/bytealg.MaxLen"], apart := false, laid := [("unicode/utf8.acceptRanges", laid_unicode_utf8_acceptRanges), ("unicode/utf8.first", laid_unicode_utf8_first)] }
def BigintDividesSaid : Prop := bigintDividesRow.holds Tryd.pinned (OpenSpec.ofChange bigintDividesSpec)

/-- ITS FALSE NEIGHBOUR: 'it returns false'. Refute it at one input. -/
def bigintDividesWrong : ChangeSpec := { name := "bigintDivides", fn := fun _ => fun
  | [d1, d2] => { results := [.lit (.bool false)], args := [d1, d2] }
  | _ => none }
def BigintDividesWrongFalsely : Prop := bigintDividesRow.holds Tryd.pinned (OpenSpec.ofChange bigintDividesWrong)

/-- 'halfplanelaw01.BigintDivisors': WHATEVER THE INPUT: true; the input reads as it did. -/
def bigintDivisorsSpec : ChangeSpec := { name := "bigintDivisors", fn := fun _ => fun
  | [d1, d2, d3] => { results := [.lit (.bool true)], args := [d1, d2, d3] }
  | _ => none }
def bigintDivisorsRow : OpenClaim := { program := "ytbijjiadokgmoaadoor", sum := "34e5ecc73540a344c3f4b7533cea3c8fb8ee9cb1518b997be062c3111cde1ebf", func := "halfplane/halfplanelaw01.BigintDivisors", spec := "bigintDivisors", inPlace := ["internal/bytealg.IndexByteString", "internal/bytealg.IndexString"], recurses := true, named := ["unicode/utf8.first", "unicode/utf8.acceptRanges", "internal/bytealg.MaxLen"], apart := false, laid := [("unicode/utf8.acceptRanges", laid_unicode_utf8_acceptRanges), ("unicode/utf8.first", laid_unicode_utf8_first)] }
def BigintDivisorsSaid : Prop := bigintDivisorsRow.holds Tryd.pinned (OpenSpec.ofChange bigintDivisorsSpec)

/-- ITS FALSE NEIGHBOUR: 'it returns false'. Refute it at one input. -/
def bigintDivisorsWrong : ChangeSpec := { name := "bigintDivisors", fn := fun _ => fun
  | [d1, d2, d3] => { results := [.lit (.bool false)], args := [d1, d2, d3] }
  | _ => none }
def BigintDivisorsWrongFalsely : Prop := bigintDivisorsRow.holds Tryd.pinned (OpenSpec.ofChange bigintDivisorsWrong)

/-- 'halfplanelaw01.BigintPowers': WHATEVER THE INPUT: true; the input reads as it did. -/
def bigintPowersSpec : ChangeSpec := { name := "bigintPowers", fn := fun _ => fun
  | [d1, d2, d3] => { results := [.lit (.bool true)], args := [d1, d2, d3] }
  | _ => none }
def bigintPowersRow : OpenClaim := { program := "ytbijjiadokgmoaadoor", sum := "34e5ecc73540a344c3f4b7533cea3c8fb8ee9cb1518b997be062c3111cde1ebf", func := "halfplane/halfplanelaw01.BigintPowers", spec := "bigintPowers", inPlace := ["internal/bytealg.IndexByteString", "internal/bytealg.IndexString"], recurses := true, named := ["unicode/utf8.first", "unicode/utf8.acceptRanges", "internal/bytealg.MaxLen"], apart := false, laid := [("unicode/utf8.acceptRanges", laid_unicode_utf8_acceptRanges), ("unicode/utf8.first", laid_unicode_utf8_first)] }
def BigintPowersSaid : Prop := bigintPowersRow.holds Tryd.pinned (OpenSpec.ofChange bigintPowersSpec)

/-- ITS FALSE NEIGHBOUR: 'it returns false'. Refute it at one input. -/
def bigintPowersWrong : ChangeSpec := { name := "bigintPowers", fn := fun _ => fun
  | [d1, d2, d3] => { results := [.lit (.bool false)], args := [d1, d2, d3] }
  | _ => none }
def BigintPowersWrongFalsely : Prop := bigintPowersRow.holds Tryd.pinned (OpenSpec.ofChange bigintPowersWrong)

/-- 'halfplanelaw01.BigintModular': WHATEVER THE INPUT: true; the input reads as it did. -/
def bigintModularSpec : ChangeSpec := { name := "bigintModular", fn := fun _ => fun
  | [d] => { results := [.lit (.bool true)], args := [d] }
  | _ => none }
def bigintModularRow : OpenClaim := { program := "ytbijjiadokgmoaadoor", sum := "34e5ecc73540a344c3f4b7533cea3c8fb8ee9cb1518b997be062c3111cde1ebf", func := "halfplane/halfplanelaw01.BigintModular", spec := "bigintModular", inPlace := ["internal/bytealg.IndexByteString", "internal/bytealg.IndexString"], recurses := true, named := ["unicode/utf8.first", "unicode/utf8.acceptRanges", "internal/bytealg.MaxLen"], apart := false, laid := [("unicode/utf8.acceptRanges", laid_unicode_utf8_acceptRanges), ("unicode/utf8.first", laid_unicode_utf8_first)] }
def BigintModularSaid : Prop := bigintModularRow.holds Tryd.pinned (OpenSpec.ofChange bigintModularSpec)

/-- ITS FALSE NEIGHBOUR: 'it returns false'. Refute it at one input. -/
def bigintModularWrong : ChangeSpec := { name := "bigintModular", fn := fun _ => fun
  | [d] => { results := [.lit (.bool false)], args := [d] }
  | _ => none }
def BigintModularWrongFalsely : Prop := bigintModularRow.holds Tryd.pinned (OpenSpec.ofChange bigintModularWrong)

/-- 'halfplanelaw01.BigintRoots': WHATEVER THE INPUT: true; the input reads as it did. -/
def bigintRootsSpec : ChangeSpec := { name := "bigintRoots", fn := fun _ => fun
  | [d] => { results := [.lit (.bool true)], args := [d] }
  | _ => none }
def bigintRootsRow : OpenClaim := { program := "ytbijjiadokgmoaadoor", sum := "34e5ecc73540a344c3f4b7533cea3c8fb8ee9cb1518b997be062c3111cde1ebf", func := "halfplane/halfplanelaw01.BigintRoots", spec := "bigintRoots", inPlace := ["internal/bytealg.IndexByteString", "internal/bytealg.IndexString"], recurses := true, named := ["unicode/utf8.first", "unicode/utf8.acceptRanges", "internal/bytealg.MaxLen"], apart := false, laid := [("unicode/utf8.acceptRanges", laid_unicode_utf8_acceptRanges), ("unicode/utf8.first", laid_unicode_utf8_first)] }
def BigintRootsSaid : Prop := bigintRootsRow.holds Tryd.pinned (OpenSpec.ofChange bigintRootsSpec)

/-- ITS FALSE NEIGHBOUR: 'it returns false'. Refute it at one input. -/
def bigintRootsWrong : ChangeSpec := { name := "bigintRoots", fn := fun _ => fun
  | [d] => { results := [.lit (.bool false)], args := [d] }
  | _ => none }
def BigintRootsWrongFalsely : Prop := bigintRootsRow.holds Tryd.pinned (OpenSpec.ofChange bigintRootsWrong)

/-- 'halfplanelaw01.BigintStrings': WHATEVER THE INPUT: true; the input reads as it did. -/
def bigintStringsSpec : ChangeSpec := { name := "bigintStrings", fn := fun _ => fun
  | [d1, d2] => { results := [.lit (.bool true)], args := [d1, d2] }
  | _ => none }
def bigintStringsRow : OpenClaim := { program := "ytbijjiadokgmoaadoor", sum := "34e5ecc73540a344c3f4b7533cea3c8fb8ee9cb1518b997be062c3111cde1ebf", func := "halfplane/halfplanelaw01.BigintStrings", spec := "bigintStrings", inPlace := ["internal/bytealg.IndexByteString", "internal/bytealg.IndexString"], recurses := true, named := ["unicode/utf8.first", "unicode/utf8.acceptRanges", "internal/bytealg.MaxLen"], apart := false, laid := [("unicode/utf8.acceptRanges", laid_unicode_utf8_acceptRanges), ("unicode/utf8.first", laid_unicode_utf8_first)] }
def BigintStringsSaid : Prop := bigintStringsRow.holds Tryd.pinned (OpenSpec.ofChange bigintStringsSpec)

/-- ITS FALSE NEIGHBOUR: 'it returns false'. Refute it at one input. -/
def bigintStringsWrong : ChangeSpec := { name := "bigintStrings", fn := fun _ => fun
  | [d1, d2] => { results := [.lit (.bool false)], args := [d1, d2] }
  | _ => none }
def BigintStringsWrongFalsely : Prop := bigintStringsRow.holds Tryd.pinned (OpenSpec.ofChange bigintStringsWrong)

/-- 'halfplanelaw01.BigintMemory': WHATEVER THE INPUT: true; the input reads as it did. -/
def bigintMemorySpec : ChangeSpec := { name := "bigintMemory", fn := fun _ => fun
  | [d1, d2] => { results := [.lit (.bool true)], args := [d1, d2] }
  | _ => none }
def bigintMemoryRow : OpenClaim := { program := "ytbijjiadokgmoaadoor", sum := "34e5ecc73540a344c3f4b7533cea3c8fb8ee9cb1518b997be062c3111cde1ebf", func := "halfplane/halfplanelaw01.BigintMemory", spec := "bigintMemory", inPlace := ["internal/bytealg.IndexByteString", "internal/bytealg.IndexString"], recurses := true, named := ["unicode/utf8.first", "unicode/utf8.acceptRanges", "internal/bytealg.MaxLen"], apart := false, laid := [("unicode/utf8.acceptRanges", laid_unicode_utf8_acceptRanges), ("unicode/utf8.first", laid_unicode_utf8_first)] }
def BigintMemorySaid : Prop := bigintMemoryRow.holds Tryd.pinned (OpenSpec.ofChange bigintMemorySpec)

/-- ITS FALSE NEIGHBOUR: 'it returns false'. Refute it at one input. -/
def bigintMemoryWrong : ChangeSpec := { name := "bigintMemory", fn := fun _ => fun
  | [d1, d2] => { results := [.lit (.bool false)], args := [d1, d2] }
  | _ => none }
def BigintMemoryWrongFalsely : Prop := bigintMemoryRow.holds Tryd.pinned (OpenSpec.ofChange bigintMemoryWrong)

/- THE SECOND FORM. 'bulk': how many values and letters a reading holds, each counted each time it is reached (what is shared counts as often as it is met; a slice's spare places count too). A statement '..UptoSaid' is the law's where the arguments, and the package variables that the reading takes, are together of bulk at most 1048576: NARROWER than '..Said'. Prove '..Said' where nothing that the law and all that it calls make is longer than what came in: it says more and counts as full. Else prove '..UptoSaid'. A law counts once. -/
mutual
def uptoBulk {H : Type} : DataW H → Nat
  | .lit (.string bytes) => bytes.length + 1
  | .lit _ => 1
  | .nil => 1
  | .ptr d => uptoBulk d + 1
  | .slice elems spare => uptoBulkAll elems + uptoBulkAll spare + 1
  | .agg parts => uptoBulkAll parts + 1
  | .iface _ d => uptoBulk d + 1
  | .map entries => uptoBulkEntries entries + 1
  | .held _ => 1
def uptoBulkAll {H : Type} : List (DataW H) → Nat
  | [] => 0
  | d :: r => uptoBulk d + uptoBulkAll r
def uptoBulkEntries {H : Type} : List (Lit × DataW H) → Nat
  | [] => 0
  | x :: r => uptoBulkEntry x + uptoBulkEntries r
def uptoBulkEntry {H : Type} : Lit × DataW H → Nat
  | (.string bytes, d) => bytes.length + uptoBulk d + 1
  | (_, d) => uptoBulk d + 1
 end
def uptoSmall : (H : Type) → List (DataW H) → Bool := fun _ ds => decide (uptoBulkAll ds ≤ 1048576)
def OpenSpec.upto (s : _root_.Go.ChangeSpec) : _root_.Go.OpenSpec := { _root_.Go.OpenSpec.ofChange s with cond := some uptoSmall }

/-- 'halfplanelaw01.BigintConverts', WHERE WHAT IT READS IS OF BULK AT MOST 1048576: true; the input reads as it did. -/
def bigintConvertsUptoRow : OpenClaim := { program := "ytbijjiadokgmoaadoor", sum := "34e5ecc73540a344c3f4b7533cea3c8fb8ee9cb1518b997be062c3111cde1ebf", func := "halfplane/halfplanelaw01.BigintConverts", spec := "bigintConverts", inPlace := ["internal/bytealg.IndexByteString", "internal/bytealg.IndexString"], recurses := true, named := ["unicode/utf8.first", "unicode/utf8.acceptRanges", "internal/bytealg.MaxLen"], apart := false, laid := [("unicode/utf8.acceptRanges", laid_unicode_utf8_acceptRanges), ("unicode/utf8.first", laid_unicode_utf8_first)], narrowed := true }
def BigintConvertsUptoSaid : Prop := bigintConvertsUptoRow.holds Tryd.pinned (OpenSpec.upto bigintConvertsSpec)

/-- 'halfplanelaw01.BigintOperations', WHERE WHAT IT READS IS OF BULK AT MOST 1048576: true; the input reads as it did. -/
def bigintOperationsUptoRow : OpenClaim := { program := "ytbijjiadokgmoaadoor", sum := "34e5ecc73540a344c3f4b7533cea3c8fb8ee9cb1518b997be062c3111cde1ebf", func := "halfplane/halfplanelaw01.BigintOperations", spec := "bigintOperations", inPlace := ["internal/bytealg.IndexByteString", "internal/bytealg.IndexString"], recurses := true, named := ["unicode/utf8.first", "unicode/utf8.acceptRanges", "internal/bytealg.MaxLen"], apart := false, laid := [("unicode/utf8.acceptRanges", laid_unicode_utf8_acceptRanges), ("unicode/utf8.first", laid_unicode_utf8_first)], narrowed := true }
def BigintOperationsUptoSaid : Prop := bigintOperationsUptoRow.holds Tryd.pinned (OpenSpec.upto bigintOperationsSpec)

/-- 'halfplanelaw01.BigintRing', WHERE WHAT IT READS IS OF BULK AT MOST 1048576: true; the input reads as it did. -/
def bigintRingUptoRow : OpenClaim := { program := "ytbijjiadokgmoaadoor", sum := "34e5ecc73540a344c3f4b7533cea3c8fb8ee9cb1518b997be062c3111cde1ebf", func := "halfplane/halfplanelaw01.BigintRing", spec := "bigintRing", inPlace := ["internal/bytealg.IndexByteString", "internal/bytealg.IndexString"], recurses := true, named := ["unicode/utf8.first", "unicode/utf8.acceptRanges", "internal/bytealg.MaxLen"], apart := false, laid := [("unicode/utf8.acceptRanges", laid_unicode_utf8_acceptRanges), ("unicode/utf8.first", laid_unicode_utf8_first)], narrowed := true }
def BigintRingUptoSaid : Prop := bigintRingUptoRow.holds Tryd.pinned (OpenSpec.upto bigintRingSpec)

/-- 'halfplanelaw01.BigintDivides', WHERE WHAT IT READS IS OF BULK AT MOST 1048576: true; the input reads as it did. -/
def bigintDividesUptoRow : OpenClaim := { program := "ytbijjiadokgmoaadoor", sum := "34e5ecc73540a344c3f4b7533cea3c8fb8ee9cb1518b997be062c3111cde1ebf", func := "halfplane/halfplanelaw01.BigintDivides", spec := "bigintDivides", inPlace := ["internal/bytealg.IndexByteString", "internal/bytealg.IndexString"], recurses := true, named := ["unicode/utf8.first", "unicode/utf8.acceptRanges", "internal/bytealg.MaxLen"], apart := false, laid := [("unicode/utf8.acceptRanges", laid_unicode_utf8_acceptRanges), ("unicode/utf8.first", laid_unicode_utf8_first)], narrowed := true }
def BigintDividesUptoSaid : Prop := bigintDividesUptoRow.holds Tryd.pinned (OpenSpec.upto bigintDividesSpec)

/-- 'halfplanelaw01.BigintDivisors', WHERE WHAT IT READS IS OF BULK AT MOST 1048576: true; the input reads as it did. -/
def bigintDivisorsUptoRow : OpenClaim := { program := "ytbijjiadokgmoaadoor", sum := "34e5ecc73540a344c3f4b7533cea3c8fb8ee9cb1518b997be062c3111cde1ebf", func := "halfplane/halfplanelaw01.BigintDivisors", spec := "bigintDivisors", inPlace := ["internal/bytealg.IndexByteString", "internal/bytealg.IndexString"], recurses := true, named := ["unicode/utf8.first", "unicode/utf8.acceptRanges", "internal/bytealg.MaxLen"], apart := false, laid := [("unicode/utf8.acceptRanges", laid_unicode_utf8_acceptRanges), ("unicode/utf8.first", laid_unicode_utf8_first)], narrowed := true }
def BigintDivisorsUptoSaid : Prop := bigintDivisorsUptoRow.holds Tryd.pinned (OpenSpec.upto bigintDivisorsSpec)

/-- 'halfplanelaw01.BigintPowers', WHERE WHAT IT READS IS OF BULK AT MOST 1048576: true; the input reads as it did. -/
def bigintPowersUptoRow : OpenClaim := { program := "ytbijjiadokgmoaadoor", sum := "34e5ecc73540a344c3f4b7533cea3c8fb8ee9cb1518b997be062c3111cde1ebf", func := "halfplane/halfplanelaw01.BigintPowers", spec := "bigintPowers", inPlace := ["internal/bytealg.IndexByteString", "internal/bytealg.IndexString"], recurses := true, named := ["unicode/utf8.first", "unicode/utf8.acceptRanges", "internal/bytealg.MaxLen"], apart := false, laid := [("unicode/utf8.acceptRanges", laid_unicode_utf8_acceptRanges), ("unicode/utf8.first", laid_unicode_utf8_first)], narrowed := true }
def BigintPowersUptoSaid : Prop := bigintPowersUptoRow.holds Tryd.pinned (OpenSpec.upto bigintPowersSpec)

/-- 'halfplanelaw01.BigintModular', WHERE WHAT IT READS IS OF BULK AT MOST 1048576: true; the input reads as it did. -/
def bigintModularUptoRow : OpenClaim := { program := "ytbijjiadokgmoaadoor", sum := "34e5ecc73540a344c3f4b7533cea3c8fb8ee9cb1518b997be062c3111cde1ebf", func := "halfplane/halfplanelaw01.BigintModular", spec := "bigintModular", inPlace := ["internal/bytealg.IndexByteString", "internal/bytealg.IndexString"], recurses := true, named := ["unicode/utf8.first", "unicode/utf8.acceptRanges", "internal/bytealg.MaxLen"], apart := false, laid := [("unicode/utf8.acceptRanges", laid_unicode_utf8_acceptRanges), ("unicode/utf8.first", laid_unicode_utf8_first)], narrowed := true }
def BigintModularUptoSaid : Prop := bigintModularUptoRow.holds Tryd.pinned (OpenSpec.upto bigintModularSpec)

/-- 'halfplanelaw01.BigintRoots', WHERE WHAT IT READS IS OF BULK AT MOST 1048576: true; the input reads as it did. -/
def bigintRootsUptoRow : OpenClaim := { program := "ytbijjiadokgmoaadoor", sum := "34e5ecc73540a344c3f4b7533cea3c8fb8ee9cb1518b997be062c3111cde1ebf", func := "halfplane/halfplanelaw01.BigintRoots", spec := "bigintRoots", inPlace := ["internal/bytealg.IndexByteString", "internal/bytealg.IndexString"], recurses := true, named := ["unicode/utf8.first", "unicode/utf8.acceptRanges", "internal/bytealg.MaxLen"], apart := false, laid := [("unicode/utf8.acceptRanges", laid_unicode_utf8_acceptRanges), ("unicode/utf8.first", laid_unicode_utf8_first)], narrowed := true }
def BigintRootsUptoSaid : Prop := bigintRootsUptoRow.holds Tryd.pinned (OpenSpec.upto bigintRootsSpec)

/-- 'halfplanelaw01.BigintStrings', WHERE WHAT IT READS IS OF BULK AT MOST 1048576: true; the input reads as it did. -/
def bigintStringsUptoRow : OpenClaim := { program := "ytbijjiadokgmoaadoor", sum := "34e5ecc73540a344c3f4b7533cea3c8fb8ee9cb1518b997be062c3111cde1ebf", func := "halfplane/halfplanelaw01.BigintStrings", spec := "bigintStrings", inPlace := ["internal/bytealg.IndexByteString", "internal/bytealg.IndexString"], recurses := true, named := ["unicode/utf8.first", "unicode/utf8.acceptRanges", "internal/bytealg.MaxLen"], apart := false, laid := [("unicode/utf8.acceptRanges", laid_unicode_utf8_acceptRanges), ("unicode/utf8.first", laid_unicode_utf8_first)], narrowed := true }
def BigintStringsUptoSaid : Prop := bigintStringsUptoRow.holds Tryd.pinned (OpenSpec.upto bigintStringsSpec)

/-- 'halfplanelaw01.BigintMemory', WHERE WHAT IT READS IS OF BULK AT MOST 1048576: true; the input reads as it did. -/
def bigintMemoryUptoRow : OpenClaim := { program := "ytbijjiadokgmoaadoor", sum := "34e5ecc73540a344c3f4b7533cea3c8fb8ee9cb1518b997be062c3111cde1ebf", func := "halfplane/halfplanelaw01.BigintMemory", spec := "bigintMemory", inPlace := ["internal/bytealg.IndexByteString", "internal/bytealg.IndexString"], recurses := true, named := ["unicode/utf8.first", "unicode/utf8.acceptRanges", "internal/bytealg.MaxLen"], apart := false, laid := [("unicode/utf8.acceptRanges", laid_unicode_utf8_acceptRanges), ("unicode/utf8.first", laid_unicode_utf8_first)], narrowed := true }
def BigintMemoryUptoSaid : Prop := bigintMemoryUptoRow.holds Tryd.pinned (OpenSpec.upto bigintMemorySpec)

end Rows
end Go.Proofs.YtbijjiadokgmoaaDoor
