/-
  No cell of these rows narrows 'for every input' (looked for: loops, veiled, ifaces, maps, wideKeys, modest, calm, conditions, laid).
  DERIVED. THE GIVEN ROWS OF THIS SEAT. 12 by the template 'for every input the law returns true; each argument reads behind the call as it read before'; 0 by the template 'total and deterministic' (their statements: YtoeailhcobbhjaaTotals.lean).
  GIVEN WITH THE SEED: the statements are not yours to turn. If you find one false, say at which input.
  Laid BY PROGRAM, IN A SANDBOX (cutbox-rows.mjs): the forced cells as the released guide's own fill.sh prints them over the translation dd2f1e11d784a996… (all of the seat's roots in one cut). By AI agents, Wed Nov 11 2026. No macro, syntax, notation, axiom, sorry.
-/
import Derived.Test.YtoeailhcobbhjaaChecked
import GoSem.Claim
import GoSem.ClaimJoined
import GoSem.ClaimMapViews
import Derived.JoinedTies
import Derived.KernelRfl
namespace Go.Proofs.Ytoeailhcobbhjaa
/- THE CELL 'sum', in the pinned program and in every row, IS THE sha256 OF THE DUMP (.gsa) THAT YtoeailhcobbhjaaProg.lean LOADS. Nothing in Lean hashes anything: it is a label: what it is worth is what the hold of that sum in a sandbox is worth. -/
noncomputable def Try.pinned : Pinned := { name := "ytoeailhcobbhjaa", sum := "dd2f1e11d784a996531279f4c60569ae1ab864ac8598908fb3566ec8e0e3ea48", checked := Try.checked }
namespace Rows
def none {H : Type} : Left H := { results := [], args := [] }

/-- 'halfplanelaw03.ArithGcds': WHATEVER THE INPUT: true; the input reads as it did. -/
def arithGcdsSpec : ChangeSpec := { name := "arithGcds", fn := fun _ => fun
  | [d1, d2] => { results := [.lit (.bool true)], args := [d1, d2] }
  | _ => none }
def arithGcdsRow : OpenClaim := { program := "ytoeailhcobbhjaa", sum := "dd2f1e11d784a996531279f4c60569ae1ab864ac8598908fb3566ec8e0e3ea48", func := "halfplane/halfplanelaw03.ArithGcds", spec := "arithGcds", unfollowed := true, recurses := true, apart := false }
def ArithGcdsSaid : Prop := arithGcdsRow.holds Try.pinned (OpenSpec.ofChange arithGcdsSpec)

/-- ITS FALSE NEIGHBOUR: 'it returns false'. Refute it at one input. -/
def arithGcdsWrong : ChangeSpec := { name := "arithGcds", fn := fun _ => fun
  | [d1, d2] => { results := [.lit (.bool false)], args := [d1, d2] }
  | _ => none }
def ArithGcdsWrongFalsely : Prop := arithGcdsRow.holds Try.pinned (OpenSpec.ofChange arithGcdsWrong)

/-- 'halfplanelaw03.ArithPrimes': WHATEVER THE INPUT: true; the input reads as it did. -/
def arithPrimesSpec : ChangeSpec := { name := "arithPrimes", fn := fun _ => fun
  | [d1, d2] => { results := [.lit (.bool true)], args := [d1, d2] }
  | _ => none }
def arithPrimesRow : OpenClaim := { program := "ytoeailhcobbhjaa", sum := "dd2f1e11d784a996531279f4c60569ae1ab864ac8598908fb3566ec8e0e3ea48", func := "halfplane/halfplanelaw03.ArithPrimes", spec := "arithPrimes", unfollowed := true, recurses := true, apart := false }
def ArithPrimesSaid : Prop := arithPrimesRow.holds Try.pinned (OpenSpec.ofChange arithPrimesSpec)

/-- ITS FALSE NEIGHBOUR: 'it returns false'. Refute it at one input. -/
def arithPrimesWrong : ChangeSpec := { name := "arithPrimes", fn := fun _ => fun
  | [d1, d2] => { results := [.lit (.bool false)], args := [d1, d2] }
  | _ => none }
def ArithPrimesWrongFalsely : Prop := arithPrimesRow.holds Try.pinned (OpenSpec.ofChange arithPrimesWrong)

/-- 'halfplanelaw03.ArithFactors': WHATEVER THE INPUT: true; the input reads as it did. -/
def arithFactorsSpec : ChangeSpec := { name := "arithFactors", fn := fun _ => fun
  | [d] => { results := [.lit (.bool true)], args := [d] }
  | _ => none }
def arithFactorsRow : OpenClaim := { program := "ytoeailhcobbhjaa", sum := "dd2f1e11d784a996531279f4c60569ae1ab864ac8598908fb3566ec8e0e3ea48", func := "halfplane/halfplanelaw03.ArithFactors", spec := "arithFactors", unfollowed := true, recurses := true, apart := false }
def ArithFactorsSaid : Prop := arithFactorsRow.holds Try.pinned (OpenSpec.ofChange arithFactorsSpec)

/-- ITS FALSE NEIGHBOUR: 'it returns false'. Refute it at one input. -/
def arithFactorsWrong : ChangeSpec := { name := "arithFactors", fn := fun _ => fun
  | [d] => { results := [.lit (.bool false)], args := [d] }
  | _ => none }
def ArithFactorsWrongFalsely : Prop := arithFactorsRow.holds Try.pinned (OpenSpec.ofChange arithFactorsWrong)

/-- 'halfplanelaw03.ArithFunctions': WHATEVER THE INPUT: true; the input reads as it did. -/
def arithFunctionsSpec : ChangeSpec := { name := "arithFunctions", fn := fun _ => fun
  | [d1, d2] => { results := [.lit (.bool true)], args := [d1, d2] }
  | _ => none }
def arithFunctionsRow : OpenClaim := { program := "ytoeailhcobbhjaa", sum := "dd2f1e11d784a996531279f4c60569ae1ab864ac8598908fb3566ec8e0e3ea48", func := "halfplane/halfplanelaw03.ArithFunctions", spec := "arithFunctions", unfollowed := true, recurses := true, apart := false }
def ArithFunctionsSaid : Prop := arithFunctionsRow.holds Try.pinned (OpenSpec.ofChange arithFunctionsSpec)

/-- ITS FALSE NEIGHBOUR: 'it returns false'. Refute it at one input. -/
def arithFunctionsWrong : ChangeSpec := { name := "arithFunctions", fn := fun _ => fun
  | [d1, d2] => { results := [.lit (.bool false)], args := [d1, d2] }
  | _ => none }
def ArithFunctionsWrongFalsely : Prop := arithFunctionsRow.holds Try.pinned (OpenSpec.ofChange arithFunctionsWrong)

/-- 'halfplanelaw03.ArithMultiplicative': WHATEVER THE INPUT: true; the input reads as it did. -/
def arithMultiplicativeSpec : ChangeSpec := { name := "arithMultiplicative", fn := fun _ => fun
  | [d1, d2] => { results := [.lit (.bool true)], args := [d1, d2] }
  | _ => none }
def arithMultiplicativeRow : OpenClaim := { program := "ytoeailhcobbhjaa", sum := "dd2f1e11d784a996531279f4c60569ae1ab864ac8598908fb3566ec8e0e3ea48", func := "halfplane/halfplanelaw03.ArithMultiplicative", spec := "arithMultiplicative", unfollowed := true, recurses := true, apart := false }
def ArithMultiplicativeSaid : Prop := arithMultiplicativeRow.holds Try.pinned (OpenSpec.ofChange arithMultiplicativeSpec)

/-- ITS FALSE NEIGHBOUR: 'it returns false'. Refute it at one input. -/
def arithMultiplicativeWrong : ChangeSpec := { name := "arithMultiplicative", fn := fun _ => fun
  | [d1, d2] => { results := [.lit (.bool false)], args := [d1, d2] }
  | _ => none }
def ArithMultiplicativeWrongFalsely : Prop := arithMultiplicativeRow.holds Try.pinned (OpenSpec.ofChange arithMultiplicativeWrong)

/-- 'halfplanelaw03.ArithDiscriminants': WHATEVER THE INPUT: true; the input reads as it did. -/
def arithDiscriminantsSpec : ChangeSpec := { name := "arithDiscriminants", fn := fun _ => fun
  | [d] => { results := [.lit (.bool true)], args := [d] }
  | _ => none }
def arithDiscriminantsRow : OpenClaim := { program := "ytoeailhcobbhjaa", sum := "dd2f1e11d784a996531279f4c60569ae1ab864ac8598908fb3566ec8e0e3ea48", func := "halfplane/halfplanelaw03.ArithDiscriminants", spec := "arithDiscriminants", unfollowed := true, recurses := true, apart := false }
def ArithDiscriminantsSaid : Prop := arithDiscriminantsRow.holds Try.pinned (OpenSpec.ofChange arithDiscriminantsSpec)

/-- ITS FALSE NEIGHBOUR: 'it returns false'. Refute it at one input. -/
def arithDiscriminantsWrong : ChangeSpec := { name := "arithDiscriminants", fn := fun _ => fun
  | [d] => { results := [.lit (.bool false)], args := [d] }
  | _ => none }
def ArithDiscriminantsWrongFalsely : Prop := arithDiscriminantsRow.holds Try.pinned (OpenSpec.ofChange arithDiscriminantsWrong)

/-- 'halfplanelaw03.ArithKronecker': WHATEVER THE INPUT: true; the input reads as it did. -/
def arithKroneckerSpec : ChangeSpec := { name := "arithKronecker", fn := fun _ => fun
  | [d1, d2] => { results := [.lit (.bool true)], args := [d1, d2] }
  | _ => none }
def arithKroneckerRow : OpenClaim := { program := "ytoeailhcobbhjaa", sum := "dd2f1e11d784a996531279f4c60569ae1ab864ac8598908fb3566ec8e0e3ea48", func := "halfplane/halfplanelaw03.ArithKronecker", spec := "arithKronecker", unfollowed := true, recurses := true, apart := false }
def ArithKroneckerSaid : Prop := arithKroneckerRow.holds Try.pinned (OpenSpec.ofChange arithKroneckerSpec)

/-- ITS FALSE NEIGHBOUR: 'it returns false'. Refute it at one input. -/
def arithKroneckerWrong : ChangeSpec := { name := "arithKronecker", fn := fun _ => fun
  | [d1, d2] => { results := [.lit (.bool false)], args := [d1, d2] }
  | _ => none }
def ArithKroneckerWrongFalsely : Prop := arithKroneckerRow.holds Try.pinned (OpenSpec.ofChange arithKroneckerWrong)

/-- 'halfplanelaw03.ArithReciprocity': WHATEVER THE INPUT: true; the input reads as it did. -/
def arithReciprocitySpec : ChangeSpec := { name := "arithReciprocity", fn := fun _ => fun
  | [d1, d2, d3] => { results := [.lit (.bool true)], args := [d1, d2, d3] }
  | _ => none }
def arithReciprocityRow : OpenClaim := { program := "ytoeailhcobbhjaa", sum := "dd2f1e11d784a996531279f4c60569ae1ab864ac8598908fb3566ec8e0e3ea48", func := "halfplane/halfplanelaw03.ArithReciprocity", spec := "arithReciprocity", unfollowed := true, recurses := true, apart := false }
def ArithReciprocitySaid : Prop := arithReciprocityRow.holds Try.pinned (OpenSpec.ofChange arithReciprocitySpec)

/-- ITS FALSE NEIGHBOUR: 'it returns false'. Refute it at one input. -/
def arithReciprocityWrong : ChangeSpec := { name := "arithReciprocity", fn := fun _ => fun
  | [d1, d2, d3] => { results := [.lit (.bool false)], args := [d1, d2, d3] }
  | _ => none }
def ArithReciprocityWrongFalsely : Prop := arithReciprocityRow.holds Try.pinned (OpenSpec.ofChange arithReciprocityWrong)

/-- 'halfplanelaw03.ArithPeriod': WHATEVER THE INPUT: true; the input reads as it did. -/
def arithPeriodSpec : ChangeSpec := { name := "arithPeriod", fn := fun _ => fun
  | [d1, d2, d3] => { results := [.lit (.bool true)], args := [d1, d2, d3] }
  | _ => none }
def arithPeriodRow : OpenClaim := { program := "ytoeailhcobbhjaa", sum := "dd2f1e11d784a996531279f4c60569ae1ab864ac8598908fb3566ec8e0e3ea48", func := "halfplane/halfplanelaw03.ArithPeriod", spec := "arithPeriod", unfollowed := true, recurses := true, apart := false }
def ArithPeriodSaid : Prop := arithPeriodRow.holds Try.pinned (OpenSpec.ofChange arithPeriodSpec)

/-- ITS FALSE NEIGHBOUR: 'it returns false'. Refute it at one input. -/
def arithPeriodWrong : ChangeSpec := { name := "arithPeriod", fn := fun _ => fun
  | [d1, d2, d3] => { results := [.lit (.bool false)], args := [d1, d2, d3] }
  | _ => none }
def ArithPeriodWrongFalsely : Prop := arithPeriodRow.holds Try.pinned (OpenSpec.ofChange arithPeriodWrong)

/-- 'halfplanelaw03.ArithResidues': WHATEVER THE INPUT: true; the input reads as it did. -/
def arithResiduesSpec : ChangeSpec := { name := "arithResidues", fn := fun _ => fun
  | [d1, d2, d3] => { results := [.lit (.bool true)], args := [d1, d2, d3] }
  | _ => none }
def arithResiduesRow : OpenClaim := { program := "ytoeailhcobbhjaa", sum := "dd2f1e11d784a996531279f4c60569ae1ab864ac8598908fb3566ec8e0e3ea48", func := "halfplane/halfplanelaw03.ArithResidues", spec := "arithResidues", unfollowed := true, recurses := true, apart := false }
def ArithResiduesSaid : Prop := arithResiduesRow.holds Try.pinned (OpenSpec.ofChange arithResiduesSpec)

/-- ITS FALSE NEIGHBOUR: 'it returns false'. Refute it at one input. -/
def arithResiduesWrong : ChangeSpec := { name := "arithResidues", fn := fun _ => fun
  | [d1, d2, d3] => { results := [.lit (.bool false)], args := [d1, d2, d3] }
  | _ => none }
def ArithResiduesWrongFalsely : Prop := arithResiduesRow.holds Try.pinned (OpenSpec.ofChange arithResiduesWrong)

/-- 'halfplanelaw03.ArithCrt': WHATEVER THE INPUT: true; the input reads as it did. -/
def arithCrtSpec : ChangeSpec := { name := "arithCrt", fn := fun _ => fun
  | [d] => { results := [.lit (.bool true)], args := [d] }
  | _ => none }
def arithCrtRow : OpenClaim := { program := "ytoeailhcobbhjaa", sum := "dd2f1e11d784a996531279f4c60569ae1ab864ac8598908fb3566ec8e0e3ea48", func := "halfplane/halfplanelaw03.ArithCrt", spec := "arithCrt", unfollowed := true, recurses := true, apart := false }
def ArithCrtSaid : Prop := arithCrtRow.holds Try.pinned (OpenSpec.ofChange arithCrtSpec)

/-- ITS FALSE NEIGHBOUR: 'it returns false'. Refute it at one input. -/
def arithCrtWrong : ChangeSpec := { name := "arithCrt", fn := fun _ => fun
  | [d] => { results := [.lit (.bool false)], args := [d] }
  | _ => none }
def ArithCrtWrongFalsely : Prop := arithCrtRow.holds Try.pinned (OpenSpec.ofChange arithCrtWrong)

/-- 'halfplanelaw03.ArithRoots': WHATEVER THE INPUT: true; the input reads as it did. -/
def arithRootsSpec : ChangeSpec := { name := "arithRoots", fn := fun _ => fun
  | [d1, d2] => { results := [.lit (.bool true)], args := [d1, d2] }
  | _ => none }
def arithRootsRow : OpenClaim := { program := "ytoeailhcobbhjaa", sum := "dd2f1e11d784a996531279f4c60569ae1ab864ac8598908fb3566ec8e0e3ea48", func := "halfplane/halfplanelaw03.ArithRoots", spec := "arithRoots", unfollowed := true, recurses := true, apart := false }
def ArithRootsSaid : Prop := arithRootsRow.holds Try.pinned (OpenSpec.ofChange arithRootsSpec)

/-- ITS FALSE NEIGHBOUR: 'it returns false'. Refute it at one input. -/
def arithRootsWrong : ChangeSpec := { name := "arithRoots", fn := fun _ => fun
  | [d1, d2] => { results := [.lit (.bool false)], args := [d1, d2] }
  | _ => none }
def ArithRootsWrongFalsely : Prop := arithRootsRow.holds Try.pinned (OpenSpec.ofChange arithRootsWrong)

/- THE SECOND FORM. 'bulk': how many values and letters a reading holds, each counted each time it is reached (what is shared counts as often as it is met; a slice's spare places count too). A statement '..UptoSaid' is the law's where the arguments, and the package variables that the reading takes, are together of bulk at most 1048576: NARROWER than '..Said'. Prove '..Said' where nothing that the law and all that it calls make is longer than what came in: it says more and counts as full. Else prove '..UptoSaid'. A law counts once. -/
mutual
def uptoBulk {H : Type} : DataW H → Nat
  | .lit (.string bytes) => bytes.length + 1
  | .lit _ => 1
  | .nil => 1
  | .ptr d => uptoBulk d + 1
  | .slice elems spare => uptoBulkAll elems + uptoBulkAll spare + 1
  | .agg parts => uptoBulkAll parts + 1
  | .iface _ d => uptoBulk d + 1
  | .map entries => uptoBulkEntries entries + 1
  | .held _ => 1
def uptoBulkAll {H : Type} : List (DataW H) → Nat
  | [] => 0
  | d :: r => uptoBulk d + uptoBulkAll r
def uptoBulkEntries {H : Type} : List (Lit × DataW H) → Nat
  | [] => 0
  | x :: r => uptoBulkEntry x + uptoBulkEntries r
def uptoBulkEntry {H : Type} : Lit × DataW H → Nat
  | (.string bytes, d) => bytes.length + uptoBulk d + 1
  | (_, d) => uptoBulk d + 1
 end
def uptoSmall : (H : Type) → List (DataW H) → Bool := fun _ ds => decide (uptoBulkAll ds ≤ 1048576)
def OpenSpec.upto (s : _root_.Go.ChangeSpec) : _root_.Go.OpenSpec := { _root_.Go.OpenSpec.ofChange s with cond := some uptoSmall }

/-- 'halfplanelaw03.ArithGcds', WHERE WHAT IT READS IS OF BULK AT MOST 1048576: true; the input reads as it did. -/
def arithGcdsUptoRow : OpenClaim := { program := "ytoeailhcobbhjaa", sum := "dd2f1e11d784a996531279f4c60569ae1ab864ac8598908fb3566ec8e0e3ea48", func := "halfplane/halfplanelaw03.ArithGcds", spec := "arithGcds", unfollowed := true, recurses := true, apart := false, narrowed := true }
def ArithGcdsUptoSaid : Prop := arithGcdsUptoRow.holds Try.pinned (OpenSpec.upto arithGcdsSpec)

/-- 'halfplanelaw03.ArithPrimes', WHERE WHAT IT READS IS OF BULK AT MOST 1048576: true; the input reads as it did. -/
def arithPrimesUptoRow : OpenClaim := { program := "ytoeailhcobbhjaa", sum := "dd2f1e11d784a996531279f4c60569ae1ab864ac8598908fb3566ec8e0e3ea48", func := "halfplane/halfplanelaw03.ArithPrimes", spec := "arithPrimes", unfollowed := true, recurses := true, apart := false, narrowed := true }
def ArithPrimesUptoSaid : Prop := arithPrimesUptoRow.holds Try.pinned (OpenSpec.upto arithPrimesSpec)

/-- 'halfplanelaw03.ArithFactors', WHERE WHAT IT READS IS OF BULK AT MOST 1048576: true; the input reads as it did. -/
def arithFactorsUptoRow : OpenClaim := { program := "ytoeailhcobbhjaa", sum := "dd2f1e11d784a996531279f4c60569ae1ab864ac8598908fb3566ec8e0e3ea48", func := "halfplane/halfplanelaw03.ArithFactors", spec := "arithFactors", unfollowed := true, recurses := true, apart := false, narrowed := true }
def ArithFactorsUptoSaid : Prop := arithFactorsUptoRow.holds Try.pinned (OpenSpec.upto arithFactorsSpec)

/-- 'halfplanelaw03.ArithFunctions', WHERE WHAT IT READS IS OF BULK AT MOST 1048576: true; the input reads as it did. -/
def arithFunctionsUptoRow : OpenClaim := { program := "ytoeailhcobbhjaa", sum := "dd2f1e11d784a996531279f4c60569ae1ab864ac8598908fb3566ec8e0e3ea48", func := "halfplane/halfplanelaw03.ArithFunctions", spec := "arithFunctions", unfollowed := true, recurses := true, apart := false, narrowed := true }
def ArithFunctionsUptoSaid : Prop := arithFunctionsUptoRow.holds Try.pinned (OpenSpec.upto arithFunctionsSpec)

/-- 'halfplanelaw03.ArithMultiplicative', WHERE WHAT IT READS IS OF BULK AT MOST 1048576: true; the input reads as it did. -/
def arithMultiplicativeUptoRow : OpenClaim := { program := "ytoeailhcobbhjaa", sum := "dd2f1e11d784a996531279f4c60569ae1ab864ac8598908fb3566ec8e0e3ea48", func := "halfplane/halfplanelaw03.ArithMultiplicative", spec := "arithMultiplicative", unfollowed := true, recurses := true, apart := false, narrowed := true }
def ArithMultiplicativeUptoSaid : Prop := arithMultiplicativeUptoRow.holds Try.pinned (OpenSpec.upto arithMultiplicativeSpec)

/-- 'halfplanelaw03.ArithDiscriminants', WHERE WHAT IT READS IS OF BULK AT MOST 1048576: true; the input reads as it did. -/
def arithDiscriminantsUptoRow : OpenClaim := { program := "ytoeailhcobbhjaa", sum := "dd2f1e11d784a996531279f4c60569ae1ab864ac8598908fb3566ec8e0e3ea48", func := "halfplane/halfplanelaw03.ArithDiscriminants", spec := "arithDiscriminants", unfollowed := true, recurses := true, apart := false, narrowed := true }
def ArithDiscriminantsUptoSaid : Prop := arithDiscriminantsUptoRow.holds Try.pinned (OpenSpec.upto arithDiscriminantsSpec)

/-- 'halfplanelaw03.ArithKronecker', WHERE WHAT IT READS IS OF BULK AT MOST 1048576: true; the input reads as it did. -/
def arithKroneckerUptoRow : OpenClaim := { program := "ytoeailhcobbhjaa", sum := "dd2f1e11d784a996531279f4c60569ae1ab864ac8598908fb3566ec8e0e3ea48", func := "halfplane/halfplanelaw03.ArithKronecker", spec := "arithKronecker", unfollowed := true, recurses := true, apart := false, narrowed := true }
def ArithKroneckerUptoSaid : Prop := arithKroneckerUptoRow.holds Try.pinned (OpenSpec.upto arithKroneckerSpec)

/-- 'halfplanelaw03.ArithReciprocity', WHERE WHAT IT READS IS OF BULK AT MOST 1048576: true; the input reads as it did. -/
def arithReciprocityUptoRow : OpenClaim := { program := "ytoeailhcobbhjaa", sum := "dd2f1e11d784a996531279f4c60569ae1ab864ac8598908fb3566ec8e0e3ea48", func := "halfplane/halfplanelaw03.ArithReciprocity", spec := "arithReciprocity", unfollowed := true, recurses := true, apart := false, narrowed := true }
def ArithReciprocityUptoSaid : Prop := arithReciprocityUptoRow.holds Try.pinned (OpenSpec.upto arithReciprocitySpec)

/-- 'halfplanelaw03.ArithPeriod', WHERE WHAT IT READS IS OF BULK AT MOST 1048576: true; the input reads as it did. -/
def arithPeriodUptoRow : OpenClaim := { program := "ytoeailhcobbhjaa", sum := "dd2f1e11d784a996531279f4c60569ae1ab864ac8598908fb3566ec8e0e3ea48", func := "halfplane/halfplanelaw03.ArithPeriod", spec := "arithPeriod", unfollowed := true, recurses := true, apart := false, narrowed := true }
def ArithPeriodUptoSaid : Prop := arithPeriodUptoRow.holds Try.pinned (OpenSpec.upto arithPeriodSpec)

/-- 'halfplanelaw03.ArithResidues', WHERE WHAT IT READS IS OF BULK AT MOST 1048576: true; the input reads as it did. -/
def arithResiduesUptoRow : OpenClaim := { program := "ytoeailhcobbhjaa", sum := "dd2f1e11d784a996531279f4c60569ae1ab864ac8598908fb3566ec8e0e3ea48", func := "halfplane/halfplanelaw03.ArithResidues", spec := "arithResidues", unfollowed := true, recurses := true, apart := false, narrowed := true }
def ArithResiduesUptoSaid : Prop := arithResiduesUptoRow.holds Try.pinned (OpenSpec.upto arithResiduesSpec)

/-- 'halfplanelaw03.ArithCrt', WHERE WHAT IT READS IS OF BULK AT MOST 1048576: true; the input reads as it did. -/
def arithCrtUptoRow : OpenClaim := { program := "ytoeailhcobbhjaa", sum := "dd2f1e11d784a996531279f4c60569ae1ab864ac8598908fb3566ec8e0e3ea48", func := "halfplane/halfplanelaw03.ArithCrt", spec := "arithCrt", unfollowed := true, recurses := true, apart := false, narrowed := true }
def ArithCrtUptoSaid : Prop := arithCrtUptoRow.holds Try.pinned (OpenSpec.upto arithCrtSpec)

/-- 'halfplanelaw03.ArithRoots', WHERE WHAT IT READS IS OF BULK AT MOST 1048576: true; the input reads as it did. -/
def arithRootsUptoRow : OpenClaim := { program := "ytoeailhcobbhjaa", sum := "dd2f1e11d784a996531279f4c60569ae1ab864ac8598908fb3566ec8e0e3ea48", func := "halfplane/halfplanelaw03.ArithRoots", spec := "arithRoots", unfollowed := true, recurses := true, apart := false, narrowed := true }
def ArithRootsUptoSaid : Prop := arithRootsUptoRow.holds Try.pinned (OpenSpec.upto arithRootsSpec)

end Rows
end Go.Proofs.Ytoeailhcobbhjaa
