/-
  No cell of these rows narrows 'for every input' (looked for: loops, veiled, ifaces, maps, wideKeys, modest, calm, conditions, laid).
  DERIVED. THE GIVEN ROWS OF THIS SEAT. 9 by the template 'for every input the law returns true; each argument reads behind the call as it read before'; 0 by the template 'total and deterministic' (their statements: YtilfkppapimocaaTotals.lean).
  GIVEN WITH THE SEED: the statements are not yours to turn. If you find one false, say at which input.
  Laid BY PROGRAM, IN A SANDBOX (cutbox-rows.mjs): the forced cells as the released guide's own fill.sh prints them over the translation 46383f3ba9ea8567… (all of the seat's roots in one cut). By AI agents, Wed Nov 11 2026. No macro, syntax, notation, axiom, sorry.
-/
import Derived.Test.YtilfkppapimocaaChecked
import GoSem.Claim
import GoSem.ClaimJoined
import GoSem.ClaimMapViews
import Derived.JoinedTies
import Derived.KernelRfl
namespace Go.Proofs.Ytilfkppapimocaa
/- THE CELL 'sum', in the pinned program and in every row, IS THE sha256 OF THE DUMP (.gsa) THAT YtilfkppapimocaaProg.lean LOADS. Nothing in Lean hashes anything: it is a label: what it is worth is what the hold of that sum in a sandbox is worth. -/
noncomputable def Try.pinned : Pinned := { name := "ytilfkppapimocaa", sum := "46383f3ba9ea8567c2a255ac4f13c82b4f446a885ba4949a91520617b4cc3624", checked := Try.checked }
namespace Rows
def none {H : Type} : Left H := { results := [], args := [] }

/-- 'halfplanelaw23.SubgroupHas': WHATEVER THE INPUT: true; the input reads as it did. -/
def subgroupHasSpec : ChangeSpec := { name := "subgroupHas", fn := fun _ => fun
  | [d1, d2] => { results := [.lit (.bool true)], args := [d1, d2] }
  | _ => none }
def subgroupHasRow : OpenClaim := { program := "ytilfkppapimocaa", sum := "46383f3ba9ea8567c2a255ac4f13c82b4f446a885ba4949a91520617b4cc3624", func := "halfplane/halfplanelaw23.SubgroupHas", spec := "subgroupHas", unfollowed := true, recurses := true, plainKeys := false, apart := false }
def SubgroupHasSaid : Prop := subgroupHasRow.holds Try.pinned (OpenSpec.ofChange subgroupHasSpec)

/-- ITS FALSE NEIGHBOUR: 'it returns false'. Refute it at one input. -/
def subgroupHasWrong : ChangeSpec := { name := "subgroupHas", fn := fun _ => fun
  | [d1, d2] => { results := [.lit (.bool false)], args := [d1, d2] }
  | _ => none }
def SubgroupHasWrongFalsely : Prop := subgroupHasRow.holds Try.pinned (OpenSpec.ofChange subgroupHasWrong)

/-- 'halfplanelaw23.SubgroupCloses': WHATEVER THE INPUT: true; the input reads as it did. -/
def subgroupClosesSpec : ChangeSpec := { name := "subgroupCloses", fn := fun _ => fun
  | [d1, d2] => { results := [.lit (.bool true)], args := [d1, d2] }
  | _ => none }
def subgroupClosesRow : OpenClaim := { program := "ytilfkppapimocaa", sum := "46383f3ba9ea8567c2a255ac4f13c82b4f446a885ba4949a91520617b4cc3624", func := "halfplane/halfplanelaw23.SubgroupCloses", spec := "subgroupCloses", unfollowed := true, recurses := true, plainKeys := false, apart := false }
def SubgroupClosesSaid : Prop := subgroupClosesRow.holds Try.pinned (OpenSpec.ofChange subgroupClosesSpec)

/-- ITS FALSE NEIGHBOUR: 'it returns false'. Refute it at one input. -/
def subgroupClosesWrong : ChangeSpec := { name := "subgroupCloses", fn := fun _ => fun
  | [d1, d2] => { results := [.lit (.bool false)], args := [d1, d2] }
  | _ => none }
def SubgroupClosesWrongFalsely : Prop := subgroupClosesRow.holds Try.pinned (OpenSpec.ofChange subgroupClosesWrong)

/-- 'halfplanelaw23.SubgroupIndexes': WHATEVER THE INPUT: true; the input reads as it did. -/
def subgroupIndexesSpec : ChangeSpec := { name := "subgroupIndexes", fn := fun _ => fun
  | [d] => { results := [.lit (.bool true)], args := [d] }
  | _ => none }
def subgroupIndexesRow : OpenClaim := { program := "ytilfkppapimocaa", sum := "46383f3ba9ea8567c2a255ac4f13c82b4f446a885ba4949a91520617b4cc3624", func := "halfplane/halfplanelaw23.SubgroupIndexes", spec := "subgroupIndexes", unfollowed := true, recurses := true, plainKeys := false, apart := false }
def SubgroupIndexesSaid : Prop := subgroupIndexesRow.holds Try.pinned (OpenSpec.ofChange subgroupIndexesSpec)

/-- ITS FALSE NEIGHBOUR: 'it returns false'. Refute it at one input. -/
def subgroupIndexesWrong : ChangeSpec := { name := "subgroupIndexes", fn := fun _ => fun
  | [d] => { results := [.lit (.bool false)], args := [d] }
  | _ => none }
def SubgroupIndexesWrongFalsely : Prop := subgroupIndexesRow.holds Try.pinned (OpenSpec.ofChange subgroupIndexesWrong)

/-- 'halfplanelaw23.SubgroupActions': WHATEVER THE INPUT: true; the input reads as it did. -/
def subgroupActionsSpec : ChangeSpec := { name := "subgroupActions", fn := fun _ => fun
  | [d] => { results := [.lit (.bool true)], args := [d] }
  | _ => none }
def subgroupActionsRow : OpenClaim := { program := "ytilfkppapimocaa", sum := "46383f3ba9ea8567c2a255ac4f13c82b4f446a885ba4949a91520617b4cc3624", func := "halfplane/halfplanelaw23.SubgroupActions", spec := "subgroupActions", unfollowed := true, recurses := true, plainKeys := false, apart := false }
def SubgroupActionsSaid : Prop := subgroupActionsRow.holds Try.pinned (OpenSpec.ofChange subgroupActionsSpec)

/-- ITS FALSE NEIGHBOUR: 'it returns false'. Refute it at one input. -/
def subgroupActionsWrong : ChangeSpec := { name := "subgroupActions", fn := fun _ => fun
  | [d] => { results := [.lit (.bool false)], args := [d] }
  | _ => none }
def SubgroupActionsWrongFalsely : Prop := subgroupActionsRow.holds Try.pinned (OpenSpec.ofChange subgroupActionsWrong)

/-- 'halfplanelaw23.SubgroupMembers': WHATEVER THE INPUT: true; the input reads as it did. -/
def subgroupMembersSpec : ChangeSpec := { name := "subgroupMembers", fn := fun _ => fun
  | [d1, d2] => { results := [.lit (.bool true)], args := [d1, d2] }
  | _ => none }
def subgroupMembersRow : OpenClaim := { program := "ytilfkppapimocaa", sum := "46383f3ba9ea8567c2a255ac4f13c82b4f446a885ba4949a91520617b4cc3624", func := "halfplane/halfplanelaw23.SubgroupMembers", spec := "subgroupMembers", unfollowed := true, recurses := true, plainKeys := false, apart := false }
def SubgroupMembersSaid : Prop := subgroupMembersRow.holds Try.pinned (OpenSpec.ofChange subgroupMembersSpec)

/-- ITS FALSE NEIGHBOUR: 'it returns false'. Refute it at one input. -/
def subgroupMembersWrong : ChangeSpec := { name := "subgroupMembers", fn := fun _ => fun
  | [d1, d2] => { results := [.lit (.bool false)], args := [d1, d2] }
  | _ => none }
def SubgroupMembersWrongFalsely : Prop := subgroupMembersRow.holds Try.pinned (OpenSpec.ofChange subgroupMembersWrong)

/-- 'halfplanelaw23.SubgroupRepresents': WHATEVER THE INPUT: true; the input reads as it did. -/
def subgroupRepresentsSpec : ChangeSpec := { name := "subgroupRepresents", fn := fun _ => fun
  | [d] => { results := [.lit (.bool true)], args := [d] }
  | _ => none }
def subgroupRepresentsRow : OpenClaim := { program := "ytilfkppapimocaa", sum := "46383f3ba9ea8567c2a255ac4f13c82b4f446a885ba4949a91520617b4cc3624", func := "halfplane/halfplanelaw23.SubgroupRepresents", spec := "subgroupRepresents", unfollowed := true, recurses := true, plainKeys := false, apart := false }
def SubgroupRepresentsSaid : Prop := subgroupRepresentsRow.holds Try.pinned (OpenSpec.ofChange subgroupRepresentsSpec)

/-- ITS FALSE NEIGHBOUR: 'it returns false'. Refute it at one input. -/
def subgroupRepresentsWrong : ChangeSpec := { name := "subgroupRepresents", fn := fun _ => fun
  | [d] => { results := [.lit (.bool false)], args := [d] }
  | _ => none }
def SubgroupRepresentsWrongFalsely : Prop := subgroupRepresentsRow.holds Try.pinned (OpenSpec.ofChange subgroupRepresentsWrong)

/-- 'halfplanelaw23.SubgroupChains': WHATEVER THE INPUT: true; the input reads as it did. -/
def subgroupChainsSpec : ChangeSpec := { name := "subgroupChains", fn := fun _ => fun
  | [d1, d2] => { results := [.lit (.bool true)], args := [d1, d2] }
  | _ => none }
def subgroupChainsRow : OpenClaim := { program := "ytilfkppapimocaa", sum := "46383f3ba9ea8567c2a255ac4f13c82b4f446a885ba4949a91520617b4cc3624", func := "halfplane/halfplanelaw23.SubgroupChains", spec := "subgroupChains", unfollowed := true, recurses := true, plainKeys := false, apart := false }
def SubgroupChainsSaid : Prop := subgroupChainsRow.holds Try.pinned (OpenSpec.ofChange subgroupChainsSpec)

/-- ITS FALSE NEIGHBOUR: 'it returns false'. Refute it at one input. -/
def subgroupChainsWrong : ChangeSpec := { name := "subgroupChains", fn := fun _ => fun
  | [d1, d2] => { results := [.lit (.bool false)], args := [d1, d2] }
  | _ => none }
def SubgroupChainsWrongFalsely : Prop := subgroupChainsRow.holds Try.pinned (OpenSpec.ofChange subgroupChainsWrong)

/-- 'halfplanelaw23.SubgroupLevels': WHATEVER THE INPUT: true; the input reads as it did. -/
def subgroupLevelsSpec : ChangeSpec := { name := "subgroupLevels", fn := fun _ => fun
  | [d] => { results := [.lit (.bool true)], args := [d] }
  | _ => none }
def subgroupLevelsRow : OpenClaim := { program := "ytilfkppapimocaa", sum := "46383f3ba9ea8567c2a255ac4f13c82b4f446a885ba4949a91520617b4cc3624", func := "halfplane/halfplanelaw23.SubgroupLevels", spec := "subgroupLevels", unfollowed := true, recurses := true, plainKeys := false, apart := false }
def SubgroupLevelsSaid : Prop := subgroupLevelsRow.holds Try.pinned (OpenSpec.ofChange subgroupLevelsSpec)

/-- ITS FALSE NEIGHBOUR: 'it returns false'. Refute it at one input. -/
def subgroupLevelsWrong : ChangeSpec := { name := "subgroupLevels", fn := fun _ => fun
  | [d] => { results := [.lit (.bool false)], args := [d] }
  | _ => none }
def SubgroupLevelsWrongFalsely : Prop := subgroupLevelsRow.holds Try.pinned (OpenSpec.ofChange subgroupLevelsWrong)

/-- 'halfplanelaw23.SubgroupWithin': WHATEVER THE INPUT: true; the input reads as it did. -/
def subgroupWithinSpec : ChangeSpec := { name := "subgroupWithin", fn := fun _ => fun
  | [d1, d2] => { results := [.lit (.bool true)], args := [d1, d2] }
  | _ => none }
def subgroupWithinRow : OpenClaim := { program := "ytilfkppapimocaa", sum := "46383f3ba9ea8567c2a255ac4f13c82b4f446a885ba4949a91520617b4cc3624", func := "halfplane/halfplanelaw23.SubgroupWithin", spec := "subgroupWithin", unfollowed := true, recurses := true, plainKeys := false, apart := false }
def SubgroupWithinSaid : Prop := subgroupWithinRow.holds Try.pinned (OpenSpec.ofChange subgroupWithinSpec)

/-- ITS FALSE NEIGHBOUR: 'it returns false'. Refute it at one input. -/
def subgroupWithinWrong : ChangeSpec := { name := "subgroupWithin", fn := fun _ => fun
  | [d1, d2] => { results := [.lit (.bool false)], args := [d1, d2] }
  | _ => none }
def SubgroupWithinWrongFalsely : Prop := subgroupWithinRow.holds Try.pinned (OpenSpec.ofChange subgroupWithinWrong)

/- THE SECOND FORM. 'bulk': how many values and letters a reading holds, each counted each time it is reached (what is shared counts as often as it is met; a slice's spare places count too). A statement '..UptoSaid' is the law's where the arguments, and the package variables that the reading takes, are together of bulk at most 1048576: NARROWER than '..Said'. Prove '..Said' where nothing that the law and all that it calls make is longer than what came in: it says more and counts as full. Else prove '..UptoSaid'. A law counts once. -/
mutual
def uptoBulk {H : Type} : DataW H → Nat
  | .lit (.string bytes) => bytes.length + 1
  | .lit _ => 1
  | .nil => 1
  | .ptr d => uptoBulk d + 1
  | .slice elems spare => uptoBulkAll elems + uptoBulkAll spare + 1
  | .agg parts => uptoBulkAll parts + 1
  | .iface _ d => uptoBulk d + 1
  | .map entries => uptoBulkEntries entries + 1
  | .held _ => 1
def uptoBulkAll {H : Type} : List (DataW H) → Nat
  | [] => 0
  | d :: r => uptoBulk d + uptoBulkAll r
def uptoBulkEntries {H : Type} : List (Lit × DataW H) → Nat
  | [] => 0
  | x :: r => uptoBulkEntry x + uptoBulkEntries r
def uptoBulkEntry {H : Type} : Lit × DataW H → Nat
  | (.string bytes, d) => bytes.length + uptoBulk d + 1
  | (_, d) => uptoBulk d + 1
 end
def uptoSmall : (H : Type) → List (DataW H) → Bool := fun _ ds => decide (uptoBulkAll ds ≤ 1048576)
def OpenSpec.upto (s : _root_.Go.ChangeSpec) : _root_.Go.OpenSpec := { _root_.Go.OpenSpec.ofChange s with cond := some uptoSmall }

/-- 'halfplanelaw23.SubgroupHas', WHERE WHAT IT READS IS OF BULK AT MOST 1048576: true; the input reads as it did. -/
def subgroupHasUptoRow : OpenClaim := { program := "ytilfkppapimocaa", sum := "46383f3ba9ea8567c2a255ac4f13c82b4f446a885ba4949a91520617b4cc3624", func := "halfplane/halfplanelaw23.SubgroupHas", spec := "subgroupHas", unfollowed := true, recurses := true, plainKeys := false, apart := false, narrowed := true }
def SubgroupHasUptoSaid : Prop := subgroupHasUptoRow.holds Try.pinned (OpenSpec.upto subgroupHasSpec)

/-- 'halfplanelaw23.SubgroupCloses', WHERE WHAT IT READS IS OF BULK AT MOST 1048576: true; the input reads as it did. -/
def subgroupClosesUptoRow : OpenClaim := { program := "ytilfkppapimocaa", sum := "46383f3ba9ea8567c2a255ac4f13c82b4f446a885ba4949a91520617b4cc3624", func := "halfplane/halfplanelaw23.SubgroupCloses", spec := "subgroupCloses", unfollowed := true, recurses := true, plainKeys := false, apart := false, narrowed := true }
def SubgroupClosesUptoSaid : Prop := subgroupClosesUptoRow.holds Try.pinned (OpenSpec.upto subgroupClosesSpec)

/-- 'halfplanelaw23.SubgroupIndexes', WHERE WHAT IT READS IS OF BULK AT MOST 1048576: true; the input reads as it did. -/
def subgroupIndexesUptoRow : OpenClaim := { program := "ytilfkppapimocaa", sum := "46383f3ba9ea8567c2a255ac4f13c82b4f446a885ba4949a91520617b4cc3624", func := "halfplane/halfplanelaw23.SubgroupIndexes", spec := "subgroupIndexes", unfollowed := true, recurses := true, plainKeys := false, apart := false, narrowed := true }
def SubgroupIndexesUptoSaid : Prop := subgroupIndexesUptoRow.holds Try.pinned (OpenSpec.upto subgroupIndexesSpec)

/-- 'halfplanelaw23.SubgroupActions', WHERE WHAT IT READS IS OF BULK AT MOST 1048576: true; the input reads as it did. -/
def subgroupActionsUptoRow : OpenClaim := { program := "ytilfkppapimocaa", sum := "46383f3ba9ea8567c2a255ac4f13c82b4f446a885ba4949a91520617b4cc3624", func := "halfplane/halfplanelaw23.SubgroupActions", spec := "subgroupActions", unfollowed := true, recurses := true, plainKeys := false, apart := false, narrowed := true }
def SubgroupActionsUptoSaid : Prop := subgroupActionsUptoRow.holds Try.pinned (OpenSpec.upto subgroupActionsSpec)

/-- 'halfplanelaw23.SubgroupMembers', WHERE WHAT IT READS IS OF BULK AT MOST 1048576: true; the input reads as it did. -/
def subgroupMembersUptoRow : OpenClaim := { program := "ytilfkppapimocaa", sum := "46383f3ba9ea8567c2a255ac4f13c82b4f446a885ba4949a91520617b4cc3624", func := "halfplane/halfplanelaw23.SubgroupMembers", spec := "subgroupMembers", unfollowed := true, recurses := true, plainKeys := false, apart := false, narrowed := true }
def SubgroupMembersUptoSaid : Prop := subgroupMembersUptoRow.holds Try.pinned (OpenSpec.upto subgroupMembersSpec)

/-- 'halfplanelaw23.SubgroupRepresents', WHERE WHAT IT READS IS OF BULK AT MOST 1048576: true; the input reads as it did. -/
def subgroupRepresentsUptoRow : OpenClaim := { program := "ytilfkppapimocaa", sum := "46383f3ba9ea8567c2a255ac4f13c82b4f446a885ba4949a91520617b4cc3624", func := "halfplane/halfplanelaw23.SubgroupRepresents", spec := "subgroupRepresents", unfollowed := true, recurses := true, plainKeys := false, apart := false, narrowed := true }
def SubgroupRepresentsUptoSaid : Prop := subgroupRepresentsUptoRow.holds Try.pinned (OpenSpec.upto subgroupRepresentsSpec)

/-- 'halfplanelaw23.SubgroupChains', WHERE WHAT IT READS IS OF BULK AT MOST 1048576: true; the input reads as it did. -/
def subgroupChainsUptoRow : OpenClaim := { program := "ytilfkppapimocaa", sum := "46383f3ba9ea8567c2a255ac4f13c82b4f446a885ba4949a91520617b4cc3624", func := "halfplane/halfplanelaw23.SubgroupChains", spec := "subgroupChains", unfollowed := true, recurses := true, plainKeys := false, apart := false, narrowed := true }
def SubgroupChainsUptoSaid : Prop := subgroupChainsUptoRow.holds Try.pinned (OpenSpec.upto subgroupChainsSpec)

/-- 'halfplanelaw23.SubgroupLevels', WHERE WHAT IT READS IS OF BULK AT MOST 1048576: true; the input reads as it did. -/
def subgroupLevelsUptoRow : OpenClaim := { program := "ytilfkppapimocaa", sum := "46383f3ba9ea8567c2a255ac4f13c82b4f446a885ba4949a91520617b4cc3624", func := "halfplane/halfplanelaw23.SubgroupLevels", spec := "subgroupLevels", unfollowed := true, recurses := true, plainKeys := false, apart := false, narrowed := true }
def SubgroupLevelsUptoSaid : Prop := subgroupLevelsUptoRow.holds Try.pinned (OpenSpec.upto subgroupLevelsSpec)

/-- 'halfplanelaw23.SubgroupWithin', WHERE WHAT IT READS IS OF BULK AT MOST 1048576: true; the input reads as it did. -/
def subgroupWithinUptoRow : OpenClaim := { program := "ytilfkppapimocaa", sum := "46383f3ba9ea8567c2a255ac4f13c82b4f446a885ba4949a91520617b4cc3624", func := "halfplane/halfplanelaw23.SubgroupWithin", spec := "subgroupWithin", unfollowed := true, recurses := true, plainKeys := false, apart := false, narrowed := true }
def SubgroupWithinUptoSaid : Prop := subgroupWithinUptoRow.holds Try.pinned (OpenSpec.upto subgroupWithinSpec)

end Rows
end Go.Proofs.Ytilfkppapimocaa
