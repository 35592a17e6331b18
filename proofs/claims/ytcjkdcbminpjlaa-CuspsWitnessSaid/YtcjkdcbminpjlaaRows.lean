/-
  No cell of these rows narrows 'for every input' (looked for: loops, veiled, ifaces, maps, wideKeys, modest, calm, conditions, laid).
  DERIVED. THE GIVEN ROWS OF THIS SEAT. 3 by the template 'for every input the law returns true; each argument reads behind the call as it read before'; 0 by the template 'total and deterministic' (their statements: YtcjkdcbminpjlaaTotals.lean).
  GIVEN WITH THE SEED: the statements are not yours to turn. If you find one false, say at which input.
  Laid BY PROGRAM, IN A SANDBOX (cutbox-rows.mjs): the forced cells as the released guide's own fill.sh prints them over the translation 224f86b2d8eb8bcd… (all of the seat's roots in one cut). By AI agents, Wed Nov 11 2026. No macro, syntax, notation, axiom, sorry.
-/
import Derived.Test.YtcjkdcbminpjlaaChecked
import GoSem.Claim
import GoSem.ClaimJoined
import GoSem.ClaimMapViews
import Derived.JoinedTies
import Derived.KernelRfl
namespace Go.Proofs.Ytcjkdcbminpjlaa
/- THE CELL 'sum', in the pinned program and in every row, IS THE sha256 OF THE DUMP (.gsa) THAT YtcjkdcbminpjlaaProg.lean LOADS. Nothing in Lean hashes anything: it is a label: what it is worth is what the hold of that sum in a sandbox is worth. -/
noncomputable def Try.pinned : Pinned := { name := "ytcjkdcbminpjlaa", sum := "224f86b2d8eb8bcd1d0a1580ee2632f60b4894ee949b807e34637da4e879401e", checked := Try.checked }
namespace Rows
def none {H : Type} : Left H := { results := [], args := [] }

/-- 'halfplanelaw24.CuspsEquals': WHATEVER THE INPUT: true; the input reads as it did. -/
def cuspsEqualsSpec : ChangeSpec := { name := "cuspsEquals", fn := fun _ => fun
  | [d1, d2, d3] => { results := [.lit (.bool true)], args := [d1, d2, d3] }
  | _ => none }
def cuspsEqualsRow : OpenClaim := { program := "ytcjkdcbminpjlaa", sum := "224f86b2d8eb8bcd1d0a1580ee2632f60b4894ee949b807e34637da4e879401e", func := "halfplane/halfplanelaw24.CuspsEquals", spec := "cuspsEquals", unfollowed := true, recurses := true, apart := false }
def CuspsEqualsSaid : Prop := cuspsEqualsRow.holds Try.pinned (OpenSpec.ofChange cuspsEqualsSpec)

/-- ITS FALSE NEIGHBOUR: 'it returns false'. Refute it at one input. -/
def cuspsEqualsWrong : ChangeSpec := { name := "cuspsEquals", fn := fun _ => fun
  | [d1, d2, d3] => { results := [.lit (.bool false)], args := [d1, d2, d3] }
  | _ => none }
def CuspsEqualsWrongFalsely : Prop := cuspsEqualsRow.holds Try.pinned (OpenSpec.ofChange cuspsEqualsWrong)

/-- 'halfplanelaw24.CuspsWitness': WHATEVER THE INPUT: true; the input reads as it did. -/
def cuspsWitnessSpec : ChangeSpec := { name := "cuspsWitness", fn := fun _ => fun
  | [d1, d2, d3] => { results := [.lit (.bool true)], args := [d1, d2, d3] }
  | _ => none }
def cuspsWitnessRow : OpenClaim := { program := "ytcjkdcbminpjlaa", sum := "224f86b2d8eb8bcd1d0a1580ee2632f60b4894ee949b807e34637da4e879401e", func := "halfplane/halfplanelaw24.CuspsWitness", spec := "cuspsWitness", unfollowed := true, recurses := true, apart := false }
def CuspsWitnessSaid : Prop := cuspsWitnessRow.holds Try.pinned (OpenSpec.ofChange cuspsWitnessSpec)

/-- ITS FALSE NEIGHBOUR: 'it returns false'. Refute it at one input. -/
def cuspsWitnessWrong : ChangeSpec := { name := "cuspsWitness", fn := fun _ => fun
  | [d1, d2, d3] => { results := [.lit (.bool false)], args := [d1, d2, d3] }
  | _ => none }
def CuspsWitnessWrongFalsely : Prop := cuspsWitnessRow.holds Try.pinned (OpenSpec.ofChange cuspsWitnessWrong)

/-- 'halfplanelaw24.CuspsAtkinLehner': WHATEVER THE INPUT: true; the input reads as it did. -/
def cuspsAtkinLehnerSpec : ChangeSpec := { name := "cuspsAtkinLehner", fn := fun _ => fun
  | [d1, d2, d3] => { results := [.lit (.bool true)], args := [d1, d2, d3] }
  | _ => none }
def cuspsAtkinLehnerRow : OpenClaim := { program := "ytcjkdcbminpjlaa", sum := "224f86b2d8eb8bcd1d0a1580ee2632f60b4894ee949b807e34637da4e879401e", func := "halfplane/halfplanelaw24.CuspsAtkinLehner", spec := "cuspsAtkinLehner", unfollowed := true, recurses := true, apart := false }
def CuspsAtkinLehnerSaid : Prop := cuspsAtkinLehnerRow.holds Try.pinned (OpenSpec.ofChange cuspsAtkinLehnerSpec)

/-- ITS FALSE NEIGHBOUR: 'it returns false'. Refute it at one input. -/
def cuspsAtkinLehnerWrong : ChangeSpec := { name := "cuspsAtkinLehner", fn := fun _ => fun
  | [d1, d2, d3] => { results := [.lit (.bool false)], args := [d1, d2, d3] }
  | _ => none }
def CuspsAtkinLehnerWrongFalsely : Prop := cuspsAtkinLehnerRow.holds Try.pinned (OpenSpec.ofChange cuspsAtkinLehnerWrong)

/- THE SECOND FORM. 'bulk': how many values and letters a reading holds, each counted each time it is reached (what is shared counts as often as it is met; a slice's spare places count too). A statement '..UptoSaid' is the law's where the arguments, and the package variables that the reading takes, are together of bulk at most 1048576: NARROWER than '..Said'. Prove '..Said' where nothing that the law and all that it calls make is longer than what came in: it says more and counts as full. Else prove '..UptoSaid'. A law counts once. -/
mutual
def uptoBulk {H : Type} : DataW H → Nat
  | .lit (.string bytes) => bytes.length + 1
  | .lit _ => 1
  | .nil => 1
  | .ptr d => uptoBulk d + 1
  | .slice elems spare => uptoBulkAll elems + uptoBulkAll spare + 1
  | .agg parts => uptoBulkAll parts + 1
  | .iface _ d => uptoBulk d + 1
  | .map entries => uptoBulkEntries entries + 1
  | .held _ => 1
def uptoBulkAll {H : Type} : List (DataW H) → Nat
  | [] => 0
  | d :: r => uptoBulk d + uptoBulkAll r
def uptoBulkEntries {H : Type} : List (Lit × DataW H) → Nat
  | [] => 0
  | x :: r => uptoBulkEntry x + uptoBulkEntries r
def uptoBulkEntry {H : Type} : Lit × DataW H → Nat
  | (.string bytes, d) => bytes.length + uptoBulk d + 1
  | (_, d) => uptoBulk d + 1
 end
def uptoSmall : (H : Type) → List (DataW H) → Bool := fun _ ds => decide (uptoBulkAll ds ≤ 1048576)
def OpenSpec.upto (s : _root_.Go.ChangeSpec) : _root_.Go.OpenSpec := { _root_.Go.OpenSpec.ofChange s with cond := some uptoSmall }

/-- 'halfplanelaw24.CuspsEquals', WHERE WHAT IT READS IS OF BULK AT MOST 1048576: true; the input reads as it did. -/
def cuspsEqualsUptoRow : OpenClaim := { program := "ytcjkdcbminpjlaa", sum := "224f86b2d8eb8bcd1d0a1580ee2632f60b4894ee949b807e34637da4e879401e", func := "halfplane/halfplanelaw24.CuspsEquals", spec := "cuspsEquals", unfollowed := true, recurses := true, apart := false, narrowed := true }
def CuspsEqualsUptoSaid : Prop := cuspsEqualsUptoRow.holds Try.pinned (OpenSpec.upto cuspsEqualsSpec)

/-- 'halfplanelaw24.CuspsWitness', WHERE WHAT IT READS IS OF BULK AT MOST 1048576: true; the input reads as it did. -/
def cuspsWitnessUptoRow : OpenClaim := { program := "ytcjkdcbminpjlaa", sum := "224f86b2d8eb8bcd1d0a1580ee2632f60b4894ee949b807e34637da4e879401e", func := "halfplane/halfplanelaw24.CuspsWitness", spec := "cuspsWitness", unfollowed := true, recurses := true, apart := false, narrowed := true }
def CuspsWitnessUptoSaid : Prop := cuspsWitnessUptoRow.holds Try.pinned (OpenSpec.upto cuspsWitnessSpec)

/-- 'halfplanelaw24.CuspsAtkinLehner', WHERE WHAT IT READS IS OF BULK AT MOST 1048576: true; the input reads as it did. -/
def cuspsAtkinLehnerUptoRow : OpenClaim := { program := "ytcjkdcbminpjlaa", sum := "224f86b2d8eb8bcd1d0a1580ee2632f60b4894ee949b807e34637da4e879401e", func := "halfplane/halfplanelaw24.CuspsAtkinLehner", spec := "cuspsAtkinLehner", unfollowed := true, recurses := true, apart := false, narrowed := true }
def CuspsAtkinLehnerUptoSaid : Prop := cuspsAtkinLehnerUptoRow.holds Try.pinned (OpenSpec.upto cuspsAtkinLehnerSpec)

end Rows
end Go.Proofs.Ytcjkdcbminpjlaa
