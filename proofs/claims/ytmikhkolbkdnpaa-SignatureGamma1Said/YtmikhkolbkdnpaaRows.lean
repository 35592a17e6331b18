/-
  No cell of these rows narrows 'for every input' (looked for: loops, veiled, ifaces, maps, wideKeys, modest, calm, conditions, laid).
  DERIVED. THE GIVEN ROWS OF THIS SEAT. 7 by the template 'for every input the law returns true; each argument reads behind the call as it read before'; 0 by the template 'total and deterministic' (their statements: YtmikhkolbkdnpaaTotals.lean).
  GIVEN WITH THE SEED: the statements are not yours to turn. If you find one false, say at which input.
  Laid BY PROGRAM, IN A SANDBOX (cutbox-rows.mjs): the forced cells as the released guide's own fill.sh prints them over the translation c7a5d25867551567… (all of the seat's roots in one cut). By AI agents, Wed Nov 11 2026. No macro, syntax, notation, axiom, sorry.
-/
import Derived.Test.YtmikhkolbkdnpaaChecked
import GoSem.Claim
import GoSem.ClaimJoined
import GoSem.ClaimMapViews
import Derived.JoinedTies
import Derived.KernelRfl
namespace Go.Proofs.Ytmikhkolbkdnpaa
/- THE CELL 'sum', in the pinned program and in every row, IS THE sha256 OF THE DUMP (.gsa) THAT YtmikhkolbkdnpaaProg.lean LOADS. Nothing in Lean hashes anything: it is a label: what it is worth is what the hold of that sum in a sandbox is worth. -/
noncomputable def Try.pinned : Pinned := { name := "ytmikhkolbkdnpaa", sum := "c7a5d25867551567e70eaff76986261d7901379d0b8722fb3ea76136706ea6d6", checked := Try.checked }
namespace Rows
def none {H : Type} : Left H := { results := [], args := [] }

/-- 'halfplanelaw25.SignatureOf': WHATEVER THE INPUT: true; the input reads as it did. -/
def signatureOfSpec : ChangeSpec := { name := "signatureOf", fn := fun _ => fun
  | [d] => { results := [.lit (.bool true)], args := [d] }
  | _ => none }
def signatureOfRow : OpenClaim := { program := "ytmikhkolbkdnpaa", sum := "c7a5d25867551567e70eaff76986261d7901379d0b8722fb3ea76136706ea6d6", func := "halfplane/halfplanelaw25.SignatureOf", spec := "signatureOf", unfollowed := true, recurses := true, plainKeys := false, apart := false }
def SignatureOfSaid : Prop := signatureOfRow.holds Try.pinned (OpenSpec.ofChange signatureOfSpec)

/-- ITS FALSE NEIGHBOUR: 'it returns false'. Refute it at one input. -/
def signatureOfWrong : ChangeSpec := { name := "signatureOf", fn := fun _ => fun
  | [d] => { results := [.lit (.bool false)], args := [d] }
  | _ => none }
def SignatureOfWrongFalsely : Prop := signatureOfRow.holds Try.pinned (OpenSpec.ofChange signatureOfWrong)

/-- 'halfplanelaw25.SignatureEuler': WHATEVER THE INPUT: true; the input reads as it did. -/
def signatureEulerSpec : ChangeSpec := { name := "signatureEuler", fn := fun _ => fun
  | [d] => { results := [.lit (.bool true)], args := [d] }
  | _ => none }
def signatureEulerRow : OpenClaim := { program := "ytmikhkolbkdnpaa", sum := "c7a5d25867551567e70eaff76986261d7901379d0b8722fb3ea76136706ea6d6", func := "halfplane/halfplanelaw25.SignatureEuler", spec := "signatureEuler", unfollowed := true, recurses := true, plainKeys := false, apart := false }
def SignatureEulerSaid : Prop := signatureEulerRow.holds Try.pinned (OpenSpec.ofChange signatureEulerSpec)

/-- ITS FALSE NEIGHBOUR: 'it returns false'. Refute it at one input. -/
def signatureEulerWrong : ChangeSpec := { name := "signatureEuler", fn := fun _ => fun
  | [d] => { results := [.lit (.bool false)], args := [d] }
  | _ => none }
def SignatureEulerWrongFalsely : Prop := signatureEulerRow.holds Try.pinned (OpenSpec.ofChange signatureEulerWrong)

/-- 'halfplanelaw25.SignatureBase': WHATEVER THE INPUT: true; the input reads as it did. -/
def signatureBaseSpec : ChangeSpec := { name := "signatureBase", fn := fun _ => fun
  | [d1, d2] => { results := [.lit (.bool true)], args := [d1, d2] }
  | _ => none }
def signatureBaseRow : OpenClaim := { program := "ytmikhkolbkdnpaa", sum := "c7a5d25867551567e70eaff76986261d7901379d0b8722fb3ea76136706ea6d6", func := "halfplane/halfplanelaw25.SignatureBase", spec := "signatureBase", unfollowed := true, recurses := true, plainKeys := false, apart := false }
def SignatureBaseSaid : Prop := signatureBaseRow.holds Try.pinned (OpenSpec.ofChange signatureBaseSpec)

/-- ITS FALSE NEIGHBOUR: 'it returns false'. Refute it at one input. -/
def signatureBaseWrong : ChangeSpec := { name := "signatureBase", fn := fun _ => fun
  | [d1, d2] => { results := [.lit (.bool false)], args := [d1, d2] }
  | _ => none }
def SignatureBaseWrongFalsely : Prop := signatureBaseRow.holds Try.pinned (OpenSpec.ofChange signatureBaseWrong)

/-- 'halfplanelaw25.SignatureCovers': WHATEVER THE INPUT: true; the input reads as it did. -/
def signatureCoversSpec : ChangeSpec := { name := "signatureCovers", fn := fun _ => fun
  | [d1, d2] => { results := [.lit (.bool true)], args := [d1, d2] }
  | _ => none }
def signatureCoversRow : OpenClaim := { program := "ytmikhkolbkdnpaa", sum := "c7a5d25867551567e70eaff76986261d7901379d0b8722fb3ea76136706ea6d6", func := "halfplane/halfplanelaw25.SignatureCovers", spec := "signatureCovers", unfollowed := true, recurses := true, plainKeys := false, apart := false }
def SignatureCoversSaid : Prop := signatureCoversRow.holds Try.pinned (OpenSpec.ofChange signatureCoversSpec)

/-- ITS FALSE NEIGHBOUR: 'it returns false'. Refute it at one input. -/
def signatureCoversWrong : ChangeSpec := { name := "signatureCovers", fn := fun _ => fun
  | [d1, d2] => { results := [.lit (.bool false)], args := [d1, d2] }
  | _ => none }
def SignatureCoversWrongFalsely : Prop := signatureCoversRow.holds Try.pinned (OpenSpec.ofChange signatureCoversWrong)

/-- 'halfplanelaw25.SignatureGamma0': WHATEVER THE INPUT: true; the input reads as it did. -/
def signatureGamma0Spec : ChangeSpec := { name := "signatureGamma0", fn := fun _ => fun
  | [d] => { results := [.lit (.bool true)], args := [d] }
  | _ => none }
def signatureGamma0Row : OpenClaim := { program := "ytmikhkolbkdnpaa", sum := "c7a5d25867551567e70eaff76986261d7901379d0b8722fb3ea76136706ea6d6", func := "halfplane/halfplanelaw25.SignatureGamma0", spec := "signatureGamma0", unfollowed := true, recurses := true, plainKeys := false, apart := false }
def SignatureGamma0Said : Prop := signatureGamma0Row.holds Try.pinned (OpenSpec.ofChange signatureGamma0Spec)

/-- ITS FALSE NEIGHBOUR: 'it returns false'. Refute it at one input. -/
def signatureGamma0Wrong : ChangeSpec := { name := "signatureGamma0", fn := fun _ => fun
  | [d] => { results := [.lit (.bool false)], args := [d] }
  | _ => none }
def SignatureGamma0WrongFalsely : Prop := signatureGamma0Row.holds Try.pinned (OpenSpec.ofChange signatureGamma0Wrong)

/-- 'halfplanelaw25.SignatureGamma1': WHATEVER THE INPUT: true; the input reads as it did. -/
def signatureGamma1Spec : ChangeSpec := { name := "signatureGamma1", fn := fun _ => fun
  | [d] => { results := [.lit (.bool true)], args := [d] }
  | _ => none }
def signatureGamma1Row : OpenClaim := { program := "ytmikhkolbkdnpaa", sum := "c7a5d25867551567e70eaff76986261d7901379d0b8722fb3ea76136706ea6d6", func := "halfplane/halfplanelaw25.SignatureGamma1", spec := "signatureGamma1", unfollowed := true, recurses := true, plainKeys := false, apart := false }
def SignatureGamma1Said : Prop := signatureGamma1Row.holds Try.pinned (OpenSpec.ofChange signatureGamma1Spec)

/-- ITS FALSE NEIGHBOUR: 'it returns false'. Refute it at one input. -/
def signatureGamma1Wrong : ChangeSpec := { name := "signatureGamma1", fn := fun _ => fun
  | [d] => { results := [.lit (.bool false)], args := [d] }
  | _ => none }
def SignatureGamma1WrongFalsely : Prop := signatureGamma1Row.holds Try.pinned (OpenSpec.ofChange signatureGamma1Wrong)

/-- 'halfplanelaw25.SignatureRoots': WHATEVER THE INPUT: true; the input reads as it did. -/
def signatureRootsSpec : ChangeSpec := { name := "signatureRoots", fn := fun _ => fun
  | [d] => { results := [.lit (.bool true)], args := [d] }
  | _ => none }
def signatureRootsRow : OpenClaim := { program := "ytmikhkolbkdnpaa", sum := "c7a5d25867551567e70eaff76986261d7901379d0b8722fb3ea76136706ea6d6", func := "halfplane/halfplanelaw25.SignatureRoots", spec := "signatureRoots", unfollowed := true, recurses := true, plainKeys := false, apart := false }
def SignatureRootsSaid : Prop := signatureRootsRow.holds Try.pinned (OpenSpec.ofChange signatureRootsSpec)

/-- ITS FALSE NEIGHBOUR: 'it returns false'. Refute it at one input. -/
def signatureRootsWrong : ChangeSpec := { name := "signatureRoots", fn := fun _ => fun
  | [d] => { results := [.lit (.bool false)], args := [d] }
  | _ => none }
def SignatureRootsWrongFalsely : Prop := signatureRootsRow.holds Try.pinned (OpenSpec.ofChange signatureRootsWrong)

/- THE SECOND FORM. 'bulk': how many values and letters a reading holds, each counted each time it is reached (what is shared counts as often as it is met; a slice's spare places count too). A statement '..UptoSaid' is the law's where the arguments, and the package variables that the reading takes, are together of bulk at most 1048576: NARROWER than '..Said'. Prove '..Said' where nothing that the law and all that it calls make is longer than what came in: it says more and counts as full. Else prove '..UptoSaid'. A law counts once. -/
mutual
def uptoBulk {H : Type} : DataW H → Nat
  | .lit (.string bytes) => bytes.length + 1
  | .lit _ => 1
  | .nil => 1
  | .ptr d => uptoBulk d + 1
  | .slice elems spare => uptoBulkAll elems + uptoBulkAll spare + 1
  | .agg parts => uptoBulkAll parts + 1
  | .iface _ d => uptoBulk d + 1
  | .map entries => uptoBulkEntries entries + 1
  | .held _ => 1
def uptoBulkAll {H : Type} : List (DataW H) → Nat
  | [] => 0
  | d :: r => uptoBulk d + uptoBulkAll r
def uptoBulkEntries {H : Type} : List (Lit × DataW H) → Nat
  | [] => 0
  | x :: r => uptoBulkEntry x + uptoBulkEntries r
def uptoBulkEntry {H : Type} : Lit × DataW H → Nat
  | (.string bytes, d) => bytes.length + uptoBulk d + 1
  | (_, d) => uptoBulk d + 1
 end
def uptoSmall : (H : Type) → List (DataW H) → Bool := fun _ ds => decide (uptoBulkAll ds ≤ 1048576)
def OpenSpec.upto (s : _root_.Go.ChangeSpec) : _root_.Go.OpenSpec := { _root_.Go.OpenSpec.ofChange s with cond := some uptoSmall }

/-- 'halfplanelaw25.SignatureOf', WHERE WHAT IT READS IS OF BULK AT MOST 1048576: true; the input reads as it did. -/
def signatureOfUptoRow : OpenClaim := { program := "ytmikhkolbkdnpaa", sum := "c7a5d25867551567e70eaff76986261d7901379d0b8722fb3ea76136706ea6d6", func := "halfplane/halfplanelaw25.SignatureOf", spec := "signatureOf", unfollowed := true, recurses := true, plainKeys := false, apart := false, narrowed := true }
def SignatureOfUptoSaid : Prop := signatureOfUptoRow.holds Try.pinned (OpenSpec.upto signatureOfSpec)

/-- 'halfplanelaw25.SignatureEuler', WHERE WHAT IT READS IS OF BULK AT MOST 1048576: true; the input reads as it did. -/
def signatureEulerUptoRow : OpenClaim := { program := "ytmikhkolbkdnpaa", sum := "c7a5d25867551567e70eaff76986261d7901379d0b8722fb3ea76136706ea6d6", func := "halfplane/halfplanelaw25.SignatureEuler", spec := "signatureEuler", unfollowed := true, recurses := true, plainKeys := false, apart := false, narrowed := true }
def SignatureEulerUptoSaid : Prop := signatureEulerUptoRow.holds Try.pinned (OpenSpec.upto signatureEulerSpec)

/-- 'halfplanelaw25.SignatureBase', WHERE WHAT IT READS IS OF BULK AT MOST 1048576: true; the input reads as it did. -/
def signatureBaseUptoRow : OpenClaim := { program := "ytmikhkolbkdnpaa", sum := "c7a5d25867551567e70eaff76986261d7901379d0b8722fb3ea76136706ea6d6", func := "halfplane/halfplanelaw25.SignatureBase", spec := "signatureBase", unfollowed := true, recurses := true, plainKeys := false, apart := false, narrowed := true }
def SignatureBaseUptoSaid : Prop := signatureBaseUptoRow.holds Try.pinned (OpenSpec.upto signatureBaseSpec)

/-- 'halfplanelaw25.SignatureCovers', WHERE WHAT IT READS IS OF BULK AT MOST 1048576: true; the input reads as it did. -/
def signatureCoversUptoRow : OpenClaim := { program := "ytmikhkolbkdnpaa", sum := "c7a5d25867551567e70eaff76986261d7901379d0b8722fb3ea76136706ea6d6", func := "halfplane/halfplanelaw25.SignatureCovers", spec := "signatureCovers", unfollowed := true, recurses := true, plainKeys := false, apart := false, narrowed := true }
def SignatureCoversUptoSaid : Prop := signatureCoversUptoRow.holds Try.pinned (OpenSpec.upto signatureCoversSpec)

/-- 'halfplanelaw25.SignatureGamma0', WHERE WHAT IT READS IS OF BULK AT MOST 1048576: true; the input reads as it did. -/
def signatureGamma0UptoRow : OpenClaim := { program := "ytmikhkolbkdnpaa", sum := "c7a5d25867551567e70eaff76986261d7901379d0b8722fb3ea76136706ea6d6", func := "halfplane/halfplanelaw25.SignatureGamma0", spec := "signatureGamma0", unfollowed := true, recurses := true, plainKeys := false, apart := false, narrowed := true }
def SignatureGamma0UptoSaid : Prop := signatureGamma0UptoRow.holds Try.pinned (OpenSpec.upto signatureGamma0Spec)

/-- 'halfplanelaw25.SignatureGamma1', WHERE WHAT IT READS IS OF BULK AT MOST 1048576: true; the input reads as it did. -/
def signatureGamma1UptoRow : OpenClaim := { program := "ytmikhkolbkdnpaa", sum := "c7a5d25867551567e70eaff76986261d7901379d0b8722fb3ea76136706ea6d6", func := "halfplane/halfplanelaw25.SignatureGamma1", spec := "signatureGamma1", unfollowed := true, recurses := true, plainKeys := false, apart := false, narrowed := true }
def SignatureGamma1UptoSaid : Prop := signatureGamma1UptoRow.holds Try.pinned (OpenSpec.upto signatureGamma1Spec)

/-- 'halfplanelaw25.SignatureRoots', WHERE WHAT IT READS IS OF BULK AT MOST 1048576: true; the input reads as it did. -/
def signatureRootsUptoRow : OpenClaim := { program := "ytmikhkolbkdnpaa", sum := "c7a5d25867551567e70eaff76986261d7901379d0b8722fb3ea76136706ea6d6", func := "halfplane/halfplanelaw25.SignatureRoots", spec := "signatureRoots", unfollowed := true, recurses := true, plainKeys := false, apart := false, narrowed := true }
def SignatureRootsUptoSaid : Prop := signatureRootsUptoRow.holds Try.pinned (OpenSpec.upto signatureRootsSpec)

end Rows
end Go.Proofs.Ytmikhkolbkdnpaa
