/-
  No cell of these rows narrows 'for every input' (looked for: loops, veiled, ifaces, maps, wideKeys, modest, calm, conditions, laid).
  DERIVED. THE GIVEN ROWS OF THIS SEAT. 8 by the template 'for every input the law returns true; each argument reads behind the call as it read before'; 0 by the template 'total and deterministic' (their statements: YtaofkfphkkfbnaaTotals.lean).
  GIVEN WITH THE SEED: the statements are not yours to turn. If you find one false, say at which input.
  Laid BY PROGRAM, IN A SANDBOX (cutbox-rows.mjs): the forced cells as the released guide's own fill.sh prints them over the translation f66e894707352f96… (all of the seat's roots in one cut). By AI agents, Wed Nov 11 2026. No macro, syntax, notation, axiom, sorry.
-/
import Derived.Test.YtaofkfphkkfbnaaChecked
import GoSem.Claim
import GoSem.ClaimJoined
import GoSem.ClaimMapViews
import Derived.JoinedTies
import Derived.KernelRfl
namespace Go.Proofs.Ytaofkfphkkfbnaa
/- THE CELL 'sum', in the pinned program and in every row, IS THE sha256 OF THE DUMP (.gsa) THAT YtaofkfphkkfbnaaProg.lean LOADS. Nothing in Lean hashes anything: it is a label: what it is worth is what the hold of that sum in a sandbox is worth. -/
noncomputable def Try.pinned : Pinned := { name := "ytaofkfphkkfbnaa", sum := "f66e894707352f965c49eb944061652698fbc4667d4d7d95655828041a9e083c", checked := Try.checked }
namespace Rows
def none {H : Type} : Left H := { results := [], args := [] }

/-- 'halfplanelaw31.DimensionChecks': WHATEVER THE INPUT: true; the input reads as it did. -/
def dimensionChecksSpec : ChangeSpec := { name := "dimensionChecks", fn := fun _ => fun
  | [d] => { results := [.lit (.bool true)], args := [d] }
  | _ => none }
def dimensionChecksRow : OpenClaim := { program := "ytaofkfphkkfbnaa", sum := "f66e894707352f965c49eb944061652698fbc4667d4d7d95655828041a9e083c", func := "halfplane/halfplanelaw31.DimensionChecks", spec := "dimensionChecks", unfollowed := true, recurses := true, apart := false }
def DimensionChecksSaid : Prop := dimensionChecksRow.holds Try.pinned (OpenSpec.ofChange dimensionChecksSpec)

/-- ITS FALSE NEIGHBOUR: 'it returns false'. Refute it at one input. -/
def dimensionChecksWrong : ChangeSpec := { name := "dimensionChecks", fn := fun _ => fun
  | [d] => { results := [.lit (.bool false)], args := [d] }
  | _ => none }
def DimensionChecksWrongFalsely : Prop := dimensionChecksRow.holds Try.pinned (OpenSpec.ofChange dimensionChecksWrong)

/-- 'halfplanelaw31.DimensionSpaces': WHATEVER THE INPUT: true; the input reads as it did. -/
def dimensionSpacesSpec : ChangeSpec := { name := "dimensionSpaces", fn := fun _ => fun
  | [d] => { results := [.lit (.bool true)], args := [d] }
  | _ => none }
def dimensionSpacesRow : OpenClaim := { program := "ytaofkfphkkfbnaa", sum := "f66e894707352f965c49eb944061652698fbc4667d4d7d95655828041a9e083c", func := "halfplane/halfplanelaw31.DimensionSpaces", spec := "dimensionSpaces", unfollowed := true, recurses := true, apart := false }
def DimensionSpacesSaid : Prop := dimensionSpacesRow.holds Try.pinned (OpenSpec.ofChange dimensionSpacesSpec)

/-- ITS FALSE NEIGHBOUR: 'it returns false'. Refute it at one input. -/
def dimensionSpacesWrong : ChangeSpec := { name := "dimensionSpaces", fn := fun _ => fun
  | [d] => { results := [.lit (.bool false)], args := [d] }
  | _ => none }
def DimensionSpacesWrongFalsely : Prop := dimensionSpacesRow.holds Try.pinned (OpenSpec.ofChange dimensionSpacesWrong)

/-- 'halfplanelaw31.DimensionGenus': WHATEVER THE INPUT: true; the input reads as it did. -/
def dimensionGenusSpec : ChangeSpec := { name := "dimensionGenus", fn := fun _ => fun
  | [d] => { results := [.lit (.bool true)], args := [d] }
  | _ => none }
def dimensionGenusRow : OpenClaim := { program := "ytaofkfphkkfbnaa", sum := "f66e894707352f965c49eb944061652698fbc4667d4d7d95655828041a9e083c", func := "halfplane/halfplanelaw31.DimensionGenus", spec := "dimensionGenus", unfollowed := true, recurses := true, apart := false }
def DimensionGenusSaid : Prop := dimensionGenusRow.holds Try.pinned (OpenSpec.ofChange dimensionGenusSpec)

/-- ITS FALSE NEIGHBOUR: 'it returns false'. Refute it at one input. -/
def dimensionGenusWrong : ChangeSpec := { name := "dimensionGenus", fn := fun _ => fun
  | [d] => { results := [.lit (.bool false)], args := [d] }
  | _ => none }
def DimensionGenusWrongFalsely : Prop := dimensionGenusRow.holds Try.pinned (OpenSpec.ofChange dimensionGenusWrong)

/-- 'halfplanelaw31.DimensionOld': WHATEVER THE INPUT: true; the input reads as it did. -/
def dimensionOldSpec : ChangeSpec := { name := "dimensionOld", fn := fun _ => fun
  | [d] => { results := [.lit (.bool true)], args := [d] }
  | _ => none }
def dimensionOldRow : OpenClaim := { program := "ytaofkfphkkfbnaa", sum := "f66e894707352f965c49eb944061652698fbc4667d4d7d95655828041a9e083c", func := "halfplane/halfplanelaw31.DimensionOld", spec := "dimensionOld", unfollowed := true, recurses := true, apart := false }
def DimensionOldSaid : Prop := dimensionOldRow.holds Try.pinned (OpenSpec.ofChange dimensionOldSpec)

/-- ITS FALSE NEIGHBOUR: 'it returns false'. Refute it at one input. -/
def dimensionOldWrong : ChangeSpec := { name := "dimensionOld", fn := fun _ => fun
  | [d] => { results := [.lit (.bool false)], args := [d] }
  | _ => none }
def DimensionOldWrongFalsely : Prop := dimensionOldRow.holds Try.pinned (OpenSpec.ofChange dimensionOldWrong)

/-- 'halfplanelaw31.DimensionQuadratic': WHATEVER THE INPUT: true; the input reads as it did. -/
def dimensionQuadraticSpec : ChangeSpec := { name := "dimensionQuadratic", fn := fun _ => fun
  | [d] => { results := [.lit (.bool true)], args := [d] }
  | _ => none }
def dimensionQuadraticRow : OpenClaim := { program := "ytaofkfphkkfbnaa", sum := "f66e894707352f965c49eb944061652698fbc4667d4d7d95655828041a9e083c", func := "halfplane/halfplanelaw31.DimensionQuadratic", spec := "dimensionQuadratic", unfollowed := true, recurses := true, apart := false }
def DimensionQuadraticSaid : Prop := dimensionQuadraticRow.holds Try.pinned (OpenSpec.ofChange dimensionQuadraticSpec)

/-- ITS FALSE NEIGHBOUR: 'it returns false'. Refute it at one input. -/
def dimensionQuadraticWrong : ChangeSpec := { name := "dimensionQuadratic", fn := fun _ => fun
  | [d] => { results := [.lit (.bool false)], args := [d] }
  | _ => none }
def DimensionQuadraticWrongFalsely : Prop := dimensionQuadraticRow.holds Try.pinned (OpenSpec.ofChange dimensionQuadraticWrong)

/-- 'halfplanelaw31.DimensionFormulas': WHATEVER THE INPUT: true; the input reads as it did. -/
def dimensionFormulasSpec : ChangeSpec := { name := "dimensionFormulas", fn := fun _ => fun
  | [d1, d2] => { results := [.lit (.bool true)], args := [d1, d2] }
  | _ => none }
def dimensionFormulasRow : OpenClaim := { program := "ytaofkfphkkfbnaa", sum := "f66e894707352f965c49eb944061652698fbc4667d4d7d95655828041a9e083c", func := "halfplane/halfplanelaw31.DimensionFormulas", spec := "dimensionFormulas", unfollowed := true, recurses := true, apart := false }
def DimensionFormulasSaid : Prop := dimensionFormulasRow.holds Try.pinned (OpenSpec.ofChange dimensionFormulasSpec)

/-- ITS FALSE NEIGHBOUR: 'it returns false'. Refute it at one input. -/
def dimensionFormulasWrong : ChangeSpec := { name := "dimensionFormulas", fn := fun _ => fun
  | [d1, d2] => { results := [.lit (.bool false)], args := [d1, d2] }
  | _ => none }
def DimensionFormulasWrongFalsely : Prop := dimensionFormulasRow.holds Try.pinned (OpenSpec.ofChange dimensionFormulasWrong)

/-- 'halfplanelaw31.DimensionSignature': WHATEVER THE INPUT: true; the input reads as it did. -/
def dimensionSignatureSpec : ChangeSpec := { name := "dimensionSignature", fn := fun _ => fun
  | [d1, d2] => { results := [.lit (.bool true)], args := [d1, d2] }
  | _ => none }
def dimensionSignatureRow : OpenClaim := { program := "ytaofkfphkkfbnaa", sum := "f66e894707352f965c49eb944061652698fbc4667d4d7d95655828041a9e083c", func := "halfplane/halfplanelaw31.DimensionSignature", spec := "dimensionSignature", unfollowed := true, recurses := true, apart := false }
def DimensionSignatureSaid : Prop := dimensionSignatureRow.holds Try.pinned (OpenSpec.ofChange dimensionSignatureSpec)

/-- ITS FALSE NEIGHBOUR: 'it returns false'. Refute it at one input. -/
def dimensionSignatureWrong : ChangeSpec := { name := "dimensionSignature", fn := fun _ => fun
  | [d1, d2] => { results := [.lit (.bool false)], args := [d1, d2] }
  | _ => none }
def DimensionSignatureWrongFalsely : Prop := dimensionSignatureRow.holds Try.pinned (OpenSpec.ofChange dimensionSignatureWrong)

/-- 'halfplanelaw31.DimensionLevelOne': WHATEVER THE INPUT: true; the input reads as it did. -/
def dimensionLevelOneSpec : ChangeSpec := { name := "dimensionLevelOne", fn := fun _ => fun
  | [d] => { results := [.lit (.bool true)], args := [d] }
  | _ => none }
def dimensionLevelOneRow : OpenClaim := { program := "ytaofkfphkkfbnaa", sum := "f66e894707352f965c49eb944061652698fbc4667d4d7d95655828041a9e083c", func := "halfplane/halfplanelaw31.DimensionLevelOne", spec := "dimensionLevelOne", unfollowed := true, recurses := true, apart := false }
def DimensionLevelOneSaid : Prop := dimensionLevelOneRow.holds Try.pinned (OpenSpec.ofChange dimensionLevelOneSpec)

/-- ITS FALSE NEIGHBOUR: 'it returns false'. Refute it at one input. -/
def dimensionLevelOneWrong : ChangeSpec := { name := "dimensionLevelOne", fn := fun _ => fun
  | [d] => { results := [.lit (.bool false)], args := [d] }
  | _ => none }
def DimensionLevelOneWrongFalsely : Prop := dimensionLevelOneRow.holds Try.pinned (OpenSpec.ofChange dimensionLevelOneWrong)

/- THE SECOND FORM. 'bulk': how many values and letters a reading holds, each counted each time it is reached (what is shared counts as often as it is met; a slice's spare places count too). A statement '..UptoSaid' is the law's where the arguments, and the package variables that the reading takes, are together of bulk at most 1048576: NARROWER than '..Said'. Prove '..Said' where nothing that the law and all that it calls make is longer than what came in: it says more and counts as full. Else prove '..UptoSaid'. A law counts once. -/
mutual
def uptoBulk {H : Type} : DataW H → Nat
  | .lit (.string bytes) => bytes.length + 1
  | .lit _ => 1
  | .nil => 1
  | .ptr d => uptoBulk d + 1
  | .slice elems spare => uptoBulkAll elems + uptoBulkAll spare + 1
  | .agg parts => uptoBulkAll parts + 1
  | .iface _ d => uptoBulk d + 1
  | .map entries => uptoBulkEntries entries + 1
  | .held _ => 1
def uptoBulkAll {H : Type} : List (DataW H) → Nat
  | [] => 0
  | d :: r => uptoBulk d + uptoBulkAll r
def uptoBulkEntries {H : Type} : List (Lit × DataW H) → Nat
  | [] => 0
  | x :: r => uptoBulkEntry x + uptoBulkEntries r
def uptoBulkEntry {H : Type} : Lit × DataW H → Nat
  | (.string bytes, d) => bytes.length + uptoBulk d + 1
  | (_, d) => uptoBulk d + 1
 end
def uptoSmall : (H : Type) → List (DataW H) → Bool := fun _ ds => decide (uptoBulkAll ds ≤ 1048576)
def OpenSpec.upto (s : _root_.Go.ChangeSpec) : _root_.Go.OpenSpec := { _root_.Go.OpenSpec.ofChange s with cond := some uptoSmall }

/-- 'halfplanelaw31.DimensionChecks', WHERE WHAT IT READS IS OF BULK AT MOST 1048576: true; the input reads as it did. -/
def dimensionChecksUptoRow : OpenClaim := { program := "ytaofkfphkkfbnaa", sum := "f66e894707352f965c49eb944061652698fbc4667d4d7d95655828041a9e083c", func := "halfplane/halfplanelaw31.DimensionChecks", spec := "dimensionChecks", unfollowed := true, recurses := true, apart := false, narrowed := true }
def DimensionChecksUptoSaid : Prop := dimensionChecksUptoRow.holds Try.pinned (OpenSpec.upto dimensionChecksSpec)

/-- 'halfplanelaw31.DimensionSpaces', WHERE WHAT IT READS IS OF BULK AT MOST 1048576: true; the input reads as it did. -/
def dimensionSpacesUptoRow : OpenClaim := { program := "ytaofkfphkkfbnaa", sum := "f66e894707352f965c49eb944061652698fbc4667d4d7d95655828041a9e083c", func := "halfplane/halfplanelaw31.DimensionSpaces", spec := "dimensionSpaces", unfollowed := true, recurses := true, apart := false, narrowed := true }
def DimensionSpacesUptoSaid : Prop := dimensionSpacesUptoRow.holds Try.pinned (OpenSpec.upto dimensionSpacesSpec)

/-- 'halfplanelaw31.DimensionGenus', WHERE WHAT IT READS IS OF BULK AT MOST 1048576: true; the input reads as it did. -/
def dimensionGenusUptoRow : OpenClaim := { program := "ytaofkfphkkfbnaa", sum := "f66e894707352f965c49eb944061652698fbc4667d4d7d95655828041a9e083c", func := "halfplane/halfplanelaw31.DimensionGenus", spec := "dimensionGenus", unfollowed := true, recurses := true, apart := false, narrowed := true }
def DimensionGenusUptoSaid : Prop := dimensionGenusUptoRow.holds Try.pinned (OpenSpec.upto dimensionGenusSpec)

/-- 'halfplanelaw31.DimensionOld', WHERE WHAT IT READS IS OF BULK AT MOST 1048576: true; the input reads as it did. -/
def dimensionOldUptoRow : OpenClaim := { program := "ytaofkfphkkfbnaa", sum := "f66e894707352f965c49eb944061652698fbc4667d4d7d95655828041a9e083c", func := "halfplane/halfplanelaw31.DimensionOld", spec := "dimensionOld", unfollowed := true, recurses := true, apart := false, narrowed := true }
def DimensionOldUptoSaid : Prop := dimensionOldUptoRow.holds Try.pinned (OpenSpec.upto dimensionOldSpec)

/-- 'halfplanelaw31.DimensionQuadratic', WHERE WHAT IT READS IS OF BULK AT MOST 1048576: true; the input reads as it did. -/
def dimensionQuadraticUptoRow : OpenClaim := { program := "ytaofkfphkkfbnaa", sum := "f66e894707352f965c49eb944061652698fbc4667d4d7d95655828041a9e083c", func := "halfplane/halfplanelaw31.DimensionQuadratic", spec := "dimensionQuadratic", unfollowed := true, recurses := true, apart := false, narrowed := true }
def DimensionQuadraticUptoSaid : Prop := dimensionQuadraticUptoRow.holds Try.pinned (OpenSpec.upto dimensionQuadraticSpec)

/-- 'halfplanelaw31.DimensionFormulas', WHERE WHAT IT READS IS OF BULK AT MOST 1048576: true; the input reads as it did. -/
def dimensionFormulasUptoRow : OpenClaim := { program := "ytaofkfphkkfbnaa", sum := "f66e894707352f965c49eb944061652698fbc4667d4d7d95655828041a9e083c", func := "halfplane/halfplanelaw31.DimensionFormulas", spec := "dimensionFormulas", unfollowed := true, recurses := true, apart := false, narrowed := true }
def DimensionFormulasUptoSaid : Prop := dimensionFormulasUptoRow.holds Try.pinned (OpenSpec.upto dimensionFormulasSpec)

/-- 'halfplanelaw31.DimensionSignature', WHERE WHAT IT READS IS OF BULK AT MOST 1048576: true; the input reads as it did. -/
def dimensionSignatureUptoRow : OpenClaim := { program := "ytaofkfphkkfbnaa", sum := "f66e894707352f965c49eb944061652698fbc4667d4d7d95655828041a9e083c", func := "halfplane/halfplanelaw31.DimensionSignature", spec := "dimensionSignature", unfollowed := true, recurses := true, apart := false, narrowed := true }
def DimensionSignatureUptoSaid : Prop := dimensionSignatureUptoRow.holds Try.pinned (OpenSpec.upto dimensionSignatureSpec)

/-- 'halfplanelaw31.DimensionLevelOne', WHERE WHAT IT READS IS OF BULK AT MOST 1048576: true; the input reads as it did. -/
def dimensionLevelOneUptoRow : OpenClaim := { program := "ytaofkfphkkfbnaa", sum := "f66e894707352f965c49eb944061652698fbc4667d4d7d95655828041a9e083c", func := "halfplane/halfplanelaw31.DimensionLevelOne", spec := "dimensionLevelOne", unfollowed := true, recurses := true, apart := false, narrowed := true }
def DimensionLevelOneUptoSaid : Prop := dimensionLevelOneUptoRow.holds Try.pinned (OpenSpec.upto dimensionLevelOneSpec)

end Rows
end Go.Proofs.Ytaofkfphkkfbnaa
