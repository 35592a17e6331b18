/-
  No cell of these rows narrows 'for every input' (looked for: loops, veiled, ifaces, maps, wideKeys, modest, calm, conditions, laid).
  DERIVED. THE GIVEN ROWS OF THIS SEAT. 9 by the template 'for every input the law returns true; each argument reads behind the call as it read before'; 0 by the template 'total and deterministic' (their statements: YtjofmgnggeoimaaTotals.lean).
  GIVEN WITH THE SEED: the statements are not yours to turn. If you find one false, say at which input.
  Laid BY PROGRAM, IN A SANDBOX (cutbox-rows.mjs): the forced cells as the released guide's own fill.sh prints them over the translation 63adf2ba1c43751c… (all of the seat's roots in one cut). By AI agents, Wed Nov 11 2026. No macro, syntax, notation, axiom, sorry.
-/
import Derived.Test.YtjofmgnggeoimaaChecked
import GoSem.Claim
import GoSem.ClaimJoined
import GoSem.ClaimMapViews
import Derived.JoinedTies
import Derived.KernelRfl
namespace Go.Proofs.Ytjofmgnggeoimaa
/- THE CELL 'sum', in the pinned program and in every row, IS THE sha256 OF THE DUMP (.gsa) THAT YtjofmgnggeoimaaProg.lean LOADS. Nothing in Lean hashes anything: it is a label: what it is worth is what the hold of that sum in a sandbox is worth. -/
noncomputable def Try.pinned : Pinned := { name := "ytjofmgnggeoimaa", sum := "63adf2ba1c43751cb6312416e5e8681d865df0d260b80667fe5b2afc6049d858", checked := Try.checked }
namespace Rows
def none {H : Type} : Left H := { results := [], args := [] }

/-- 'halfplanelaw22.PermutationChecks': WHATEVER THE INPUT: true; the input reads as it did. -/
def permutationChecksSpec : ChangeSpec := { name := "permutationChecks", fn := fun _ => fun
  | [d] => { results := [.lit (.bool true)], args := [d] }
  | _ => none }
def permutationChecksRow : OpenClaim := { program := "ytjofmgnggeoimaa", sum := "63adf2ba1c43751cb6312416e5e8681d865df0d260b80667fe5b2afc6049d858", func := "halfplane/halfplanelaw22.PermutationChecks", spec := "permutationChecks", unfollowed := true, recurses := true, plainKeys := false, apart := false }
def PermutationChecksSaid : Prop := permutationChecksRow.holds Try.pinned (OpenSpec.ofChange permutationChecksSpec)

/-- ITS FALSE NEIGHBOUR: 'it returns false'. Refute it at one input. -/
def permutationChecksWrong : ChangeSpec := { name := "permutationChecks", fn := fun _ => fun
  | [d] => { results := [.lit (.bool false)], args := [d] }
  | _ => none }
def PermutationChecksWrongFalsely : Prop := permutationChecksRow.holds Try.pinned (OpenSpec.ofChange permutationChecksWrong)

/-- 'halfplanelaw22.PermutationMoves': WHATEVER THE INPUT: true; the input reads as it did. -/
def permutationMovesSpec : ChangeSpec := { name := "permutationMoves", fn := fun _ => fun
  | [d1, d2, d3] => { results := [.lit (.bool true)], args := [d1, d2, d3] }
  | _ => none }
def permutationMovesRow : OpenClaim := { program := "ytjofmgnggeoimaa", sum := "63adf2ba1c43751cb6312416e5e8681d865df0d260b80667fe5b2afc6049d858", func := "halfplane/halfplanelaw22.PermutationMoves", spec := "permutationMoves", unfollowed := true, recurses := true, plainKeys := false, apart := false }
def PermutationMovesSaid : Prop := permutationMovesRow.holds Try.pinned (OpenSpec.ofChange permutationMovesSpec)

/-- ITS FALSE NEIGHBOUR: 'it returns false'. Refute it at one input. -/
def permutationMovesWrong : ChangeSpec := { name := "permutationMoves", fn := fun _ => fun
  | [d1, d2, d3] => { results := [.lit (.bool false)], args := [d1, d2, d3] }
  | _ => none }
def PermutationMovesWrongFalsely : Prop := permutationMovesRow.holds Try.pinned (OpenSpec.ofChange permutationMovesWrong)

/-- 'halfplanelaw22.PermutationActs': WHATEVER THE INPUT: true; the input reads as it did. -/
def permutationActsSpec : ChangeSpec := { name := "permutationActs", fn := fun _ => fun
  | [d1, d2, d3] => { results := [.lit (.bool true)], args := [d1, d2, d3] }
  | _ => none }
def permutationActsRow : OpenClaim := { program := "ytjofmgnggeoimaa", sum := "63adf2ba1c43751cb6312416e5e8681d865df0d260b80667fe5b2afc6049d858", func := "halfplane/halfplanelaw22.PermutationActs", spec := "permutationActs", unfollowed := true, recurses := true, plainKeys := false, apart := false }
def PermutationActsSaid : Prop := permutationActsRow.holds Try.pinned (OpenSpec.ofChange permutationActsSpec)

/-- ITS FALSE NEIGHBOUR: 'it returns false'. Refute it at one input. -/
def permutationActsWrong : ChangeSpec := { name := "permutationActs", fn := fun _ => fun
  | [d1, d2, d3] => { results := [.lit (.bool false)], args := [d1, d2, d3] }
  | _ => none }
def PermutationActsWrongFalsely : Prop := permutationActsRow.holds Try.pinned (OpenSpec.ofChange permutationActsWrong)

/-- 'halfplanelaw22.PermutationContains': WHATEVER THE INPUT: true; the input reads as it did. -/
def permutationContainsSpec : ChangeSpec := { name := "permutationContains", fn := fun _ => fun
  | [d1, d2] => { results := [.lit (.bool true)], args := [d1, d2] }
  | _ => none }
def permutationContainsRow : OpenClaim := { program := "ytjofmgnggeoimaa", sum := "63adf2ba1c43751cb6312416e5e8681d865df0d260b80667fe5b2afc6049d858", func := "halfplane/halfplanelaw22.PermutationContains", spec := "permutationContains", unfollowed := true, recurses := true, plainKeys := false, apart := false }
def PermutationContainsSaid : Prop := permutationContainsRow.holds Try.pinned (OpenSpec.ofChange permutationContainsSpec)

/-- ITS FALSE NEIGHBOUR: 'it returns false'. Refute it at one input. -/
def permutationContainsWrong : ChangeSpec := { name := "permutationContains", fn := fun _ => fun
  | [d1, d2] => { results := [.lit (.bool false)], args := [d1, d2] }
  | _ => none }
def PermutationContainsWrongFalsely : Prop := permutationContainsRow.holds Try.pinned (OpenSpec.ofChange permutationContainsWrong)

/-- 'halfplanelaw22.PermutationProjects': WHATEVER THE INPUT: true; the input reads as it did. -/
def permutationProjectsSpec : ChangeSpec := { name := "permutationProjects", fn := fun _ => fun
  | [d] => { results := [.lit (.bool true)], args := [d] }
  | _ => none }
def permutationProjectsRow : OpenClaim := { program := "ytjofmgnggeoimaa", sum := "63adf2ba1c43751cb6312416e5e8681d865df0d260b80667fe5b2afc6049d858", func := "halfplane/halfplanelaw22.PermutationProjects", spec := "permutationProjects", unfollowed := true, recurses := true, plainKeys := false, apart := false }
def PermutationProjectsSaid : Prop := permutationProjectsRow.holds Try.pinned (OpenSpec.ofChange permutationProjectsSpec)

/-- ITS FALSE NEIGHBOUR: 'it returns false'. Refute it at one input. -/
def permutationProjectsWrong : ChangeSpec := { name := "permutationProjects", fn := fun _ => fun
  | [d] => { results := [.lit (.bool false)], args := [d] }
  | _ => none }
def PermutationProjectsWrongFalsely : Prop := permutationProjectsRow.holds Try.pinned (OpenSpec.ofChange permutationProjectsWrong)

/-- 'halfplanelaw22.PermutationBases': WHATEVER THE INPUT: true; the input reads as it did. -/
def permutationBasesSpec : ChangeSpec := { name := "permutationBases", fn := fun _ => fun
  | [d1, d2, d3] => { results := [.lit (.bool true)], args := [d1, d2, d3] }
  | _ => none }
def permutationBasesRow : OpenClaim := { program := "ytjofmgnggeoimaa", sum := "63adf2ba1c43751cb6312416e5e8681d865df0d260b80667fe5b2afc6049d858", func := "halfplane/halfplanelaw22.PermutationBases", spec := "permutationBases", unfollowed := true, recurses := true, plainKeys := false, apart := false }
def PermutationBasesSaid : Prop := permutationBasesRow.holds Try.pinned (OpenSpec.ofChange permutationBasesSpec)

/-- ITS FALSE NEIGHBOUR: 'it returns false'. Refute it at one input. -/
def permutationBasesWrong : ChangeSpec := { name := "permutationBases", fn := fun _ => fun
  | [d1, d2, d3] => { results := [.lit (.bool false)], args := [d1, d2, d3] }
  | _ => none }
def PermutationBasesWrongFalsely : Prop := permutationBasesRow.holds Try.pinned (OpenSpec.ofChange permutationBasesWrong)

/-- 'halfplanelaw22.PermutationIntersects': WHATEVER THE INPUT: true; the input reads as it did. -/
def permutationIntersectsSpec : ChangeSpec := { name := "permutationIntersects", fn := fun _ => fun
  | [d1, d2, d3] => { results := [.lit (.bool true)], args := [d1, d2, d3] }
  | _ => none }
def permutationIntersectsRow : OpenClaim := { program := "ytjofmgnggeoimaa", sum := "63adf2ba1c43751cb6312416e5e8681d865df0d260b80667fe5b2afc6049d858", func := "halfplane/halfplanelaw22.PermutationIntersects", spec := "permutationIntersects", unfollowed := true, recurses := true, plainKeys := false, apart := false }
def PermutationIntersectsSaid : Prop := permutationIntersectsRow.holds Try.pinned (OpenSpec.ofChange permutationIntersectsSpec)

/-- ITS FALSE NEIGHBOUR: 'it returns false'. Refute it at one input. -/
def permutationIntersectsWrong : ChangeSpec := { name := "permutationIntersects", fn := fun _ => fun
  | [d1, d2, d3] => { results := [.lit (.bool false)], args := [d1, d2, d3] }
  | _ => none }
def PermutationIntersectsWrongFalsely : Prop := permutationIntersectsRow.holds Try.pinned (OpenSpec.ofChange permutationIntersectsWrong)

/-- 'halfplanelaw22.PermutationWithin': WHATEVER THE INPUT: true; the input reads as it did. -/
def permutationWithinSpec : ChangeSpec := { name := "permutationWithin", fn := fun _ => fun
  | [d1, d2] => { results := [.lit (.bool true)], args := [d1, d2] }
  | _ => none }
def permutationWithinRow : OpenClaim := { program := "ytjofmgnggeoimaa", sum := "63adf2ba1c43751cb6312416e5e8681d865df0d260b80667fe5b2afc6049d858", func := "halfplane/halfplanelaw22.PermutationWithin", spec := "permutationWithin", unfollowed := true, recurses := true, plainKeys := false, apart := false }
def PermutationWithinSaid : Prop := permutationWithinRow.holds Try.pinned (OpenSpec.ofChange permutationWithinSpec)

/-- ITS FALSE NEIGHBOUR: 'it returns false'. Refute it at one input. -/
def permutationWithinWrong : ChangeSpec := { name := "permutationWithin", fn := fun _ => fun
  | [d1, d2] => { results := [.lit (.bool false)], args := [d1, d2] }
  | _ => none }
def PermutationWithinWrongFalsely : Prop := permutationWithinRow.holds Try.pinned (OpenSpec.ofChange permutationWithinWrong)

/-- 'halfplanelaw22.PermutationEuler': WHATEVER THE INPUT: true; the input reads as it did. -/
def permutationEulerSpec : ChangeSpec := { name := "permutationEuler", fn := fun _ => fun
  | [d1, d2] => { results := [.lit (.bool true)], args := [d1, d2] }
  | _ => none }
def permutationEulerRow : OpenClaim := { program := "ytjofmgnggeoimaa", sum := "63adf2ba1c43751cb6312416e5e8681d865df0d260b80667fe5b2afc6049d858", func := "halfplane/halfplanelaw22.PermutationEuler", spec := "permutationEuler", unfollowed := true, recurses := true, plainKeys := false, apart := false }
def PermutationEulerSaid : Prop := permutationEulerRow.holds Try.pinned (OpenSpec.ofChange permutationEulerSpec)

/-- ITS FALSE NEIGHBOUR: 'it returns false'. Refute it at one input. -/
def permutationEulerWrong : ChangeSpec := { name := "permutationEuler", fn := fun _ => fun
  | [d1, d2] => { results := [.lit (.bool false)], args := [d1, d2] }
  | _ => none }
def PermutationEulerWrongFalsely : Prop := permutationEulerRow.holds Try.pinned (OpenSpec.ofChange permutationEulerWrong)

/- THE SECOND FORM. 'bulk': how many values and letters a reading holds, each counted each time it is reached (what is shared counts as often as it is met; a slice's spare places count too). A statement '..UptoSaid' is the law's where the arguments, and the package variables that the reading takes, are together of bulk at most 1048576: NARROWER than '..Said'. Prove '..Said' where nothing that the law and all that it calls make is longer than what came in: it says more and counts as full. Else prove '..UptoSaid'. A law counts once. -/
mutual
def uptoBulk {H : Type} : DataW H → Nat
  | .lit (.string bytes) => bytes.length + 1
  | .lit _ => 1
  | .nil => 1
  | .ptr d => uptoBulk d + 1
  | .slice elems spare => uptoBulkAll elems + uptoBulkAll spare + 1
  | .agg parts => uptoBulkAll parts + 1
  | .iface _ d => uptoBulk d + 1
  | .map entries => uptoBulkEntries entries + 1
  | .held _ => 1
def uptoBulkAll {H : Type} : List (DataW H) → Nat
  | [] => 0
  | d :: r => uptoBulk d + uptoBulkAll r
def uptoBulkEntries {H : Type} : List (Lit × DataW H) → Nat
  | [] => 0
  | x :: r => uptoBulkEntry x + uptoBulkEntries r
def uptoBulkEntry {H : Type} : Lit × DataW H → Nat
  | (.string bytes, d) => bytes.length + uptoBulk d + 1
  | (_, d) => uptoBulk d + 1
 end
def uptoSmall : (H : Type) → List (DataW H) → Bool := fun _ ds => decide (uptoBulkAll ds ≤ 1048576)
def OpenSpec.upto (s : _root_.Go.ChangeSpec) : _root_.Go.OpenSpec := { _root_.Go.OpenSpec.ofChange s with cond := some uptoSmall }

/-- 'halfplanelaw22.PermutationChecks', WHERE WHAT IT READS IS OF BULK AT MOST 1048576: true; the input reads as it did. -/
def permutationChecksUptoRow : OpenClaim := { program := "ytjofmgnggeoimaa", sum := "63adf2ba1c43751cb6312416e5e8681d865df0d260b80667fe5b2afc6049d858", func := "halfplane/halfplanelaw22.PermutationChecks", spec := "permutationChecks", unfollowed := true, recurses := true, plainKeys := false, apart := false, narrowed := true }
def PermutationChecksUptoSaid : Prop := permutationChecksUptoRow.holds Try.pinned (OpenSpec.upto permutationChecksSpec)

/-- 'halfplanelaw22.PermutationMoves', WHERE WHAT IT READS IS OF BULK AT MOST 1048576: true; the input reads as it did. -/
def permutationMovesUptoRow : OpenClaim := { program := "ytjofmgnggeoimaa", sum := "63adf2ba1c43751cb6312416e5e8681d865df0d260b80667fe5b2afc6049d858", func := "halfplane/halfplanelaw22.PermutationMoves", spec := "permutationMoves", unfollowed := true, recurses := true, plainKeys := false, apart := false, narrowed := true }
def PermutationMovesUptoSaid : Prop := permutationMovesUptoRow.holds Try.pinned (OpenSpec.upto permutationMovesSpec)

/-- 'halfplanelaw22.PermutationActs', WHERE WHAT IT READS IS OF BULK AT MOST 1048576: true; the input reads as it did. -/
def permutationActsUptoRow : OpenClaim := { program := "ytjofmgnggeoimaa", sum := "63adf2ba1c43751cb6312416e5e8681d865df0d260b80667fe5b2afc6049d858", func := "halfplane/halfplanelaw22.PermutationActs", spec := "permutationActs", unfollowed := true, recurses := true, plainKeys := false, apart := false, narrowed := true }
def PermutationActsUptoSaid : Prop := permutationActsUptoRow.holds Try.pinned (OpenSpec.upto permutationActsSpec)

/-- 'halfplanelaw22.PermutationContains', WHERE WHAT IT READS IS OF BULK AT MOST 1048576: true; the input reads as it did. -/
def permutationContainsUptoRow : OpenClaim := { program := "ytjofmgnggeoimaa", sum := "63adf2ba1c43751cb6312416e5e8681d865df0d260b80667fe5b2afc6049d858", func := "halfplane/halfplanelaw22.PermutationContains", spec := "permutationContains", unfollowed := true, recurses := true, plainKeys := false, apart := false, narrowed := true }
def PermutationContainsUptoSaid : Prop := permutationContainsUptoRow.holds Try.pinned (OpenSpec.upto permutationContainsSpec)

/-- 'halfplanelaw22.PermutationProjects', WHERE WHAT IT READS IS OF BULK AT MOST 1048576: true; the input reads as it did. -/
def permutationProjectsUptoRow : OpenClaim := { program := "ytjofmgnggeoimaa", sum := "63adf2ba1c43751cb6312416e5e8681d865df0d260b80667fe5b2afc6049d858", func := "halfplane/halfplanelaw22.PermutationProjects", spec := "permutationProjects", unfollowed := true, recurses := true, plainKeys := false, apart := false, narrowed := true }
def PermutationProjectsUptoSaid : Prop := permutationProjectsUptoRow.holds Try.pinned (OpenSpec.upto permutationProjectsSpec)

/-- 'halfplanelaw22.PermutationBases', WHERE WHAT IT READS IS OF BULK AT MOST 1048576: true; the input reads as it did. -/
def permutationBasesUptoRow : OpenClaim := { program := "ytjofmgnggeoimaa", sum := "63adf2ba1c43751cb6312416e5e8681d865df0d260b80667fe5b2afc6049d858", func := "halfplane/halfplanelaw22.PermutationBases", spec := "permutationBases", unfollowed := true, recurses := true, plainKeys := false, apart := false, narrowed := true }
def PermutationBasesUptoSaid : Prop := permutationBasesUptoRow.holds Try.pinned (OpenSpec.upto permutationBasesSpec)

/-- 'halfplanelaw22.PermutationIntersects', WHERE WHAT IT READS IS OF BULK AT MOST 1048576: true; the input reads as it did. -/
def permutationIntersectsUptoRow : OpenClaim := { program := "ytjofmgnggeoimaa", sum := "63adf2ba1c43751cb6312416e5e8681d865df0d260b80667fe5b2afc6049d858", func := "halfplane/halfplanelaw22.PermutationIntersects", spec := "permutationIntersects", unfollowed := true, recurses := true, plainKeys := false, apart := false, narrowed := true }
def PermutationIntersectsUptoSaid : Prop := permutationIntersectsUptoRow.holds Try.pinned (OpenSpec.upto permutationIntersectsSpec)

/-- 'halfplanelaw22.PermutationWithin', WHERE WHAT IT READS IS OF BULK AT MOST 1048576: true; the input reads as it did. -/
def permutationWithinUptoRow : OpenClaim := { program := "ytjofmgnggeoimaa", sum := "63adf2ba1c43751cb6312416e5e8681d865df0d260b80667fe5b2afc6049d858", func := "halfplane/halfplanelaw22.PermutationWithin", spec := "permutationWithin", unfollowed := true, recurses := true, plainKeys := false, apart := false, narrowed := true }
def PermutationWithinUptoSaid : Prop := permutationWithinUptoRow.holds Try.pinned (OpenSpec.upto permutationWithinSpec)

/-- 'halfplanelaw22.PermutationEuler', WHERE WHAT IT READS IS OF BULK AT MOST 1048576: true; the input reads as it did. -/
def permutationEulerUptoRow : OpenClaim := { program := "ytjofmgnggeoimaa", sum := "63adf2ba1c43751cb6312416e5e8681d865df0d260b80667fe5b2afc6049d858", func := "halfplane/halfplanelaw22.PermutationEuler", spec := "permutationEuler", unfollowed := true, recurses := true, plainKeys := false, apart := false, narrowed := true }
def PermutationEulerUptoSaid : Prop := permutationEulerUptoRow.holds Try.pinned (OpenSpec.upto permutationEulerSpec)

end Rows
end Go.Proofs.Ytjofmgnggeoimaa
