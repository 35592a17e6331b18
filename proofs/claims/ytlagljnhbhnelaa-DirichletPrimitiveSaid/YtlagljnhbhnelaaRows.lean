/-
  No cell of these rows narrows 'for every input' (looked for: loops, veiled, ifaces, maps, wideKeys, modest, calm, conditions, laid).
  DERIVED. THE GIVEN ROWS OF THIS SEAT. 10 by the template 'for every input the law returns true; each argument reads behind the call as it read before'; 0 by the template 'total and deterministic' (their statements: YtlagljnhbhnelaaTotals.lean).
  GIVEN WITH THE SEED: the statements are not yours to turn. If you find one false, say at which input.
  Laid BY PROGRAM, IN A SANDBOX (cutbox-rows.mjs): the forced cells as the released guide's own fill.sh prints them over the translation 6ee4bc121a010a1f… (all of the seat's roots in one cut). By AI agents, Wed Nov 11 2026. No macro, syntax, notation, axiom, sorry.
-/
import Derived.Test.YtlagljnhbhnelaaChecked
import GoSem.Claim
import GoSem.ClaimJoined
import GoSem.ClaimMapViews
import Derived.JoinedTies
import Derived.KernelRfl
namespace Go.Proofs.Ytlagljnhbhnelaa
/- THE CELL 'sum', in the pinned program and in every row, IS THE sha256 OF THE DUMP (.gsa) THAT YtlagljnhbhnelaaProg.lean LOADS. Nothing in Lean hashes anything: it is a label: what it is worth is what the hold of that sum in a sandbox is worth. -/
noncomputable def Try.pinned : Pinned := { name := "ytlagljnhbhnelaa", sum := "6ee4bc121a010a1f3b60d9b6983a82ff48e6022ee95318f598092c5d3fb91c7e", checked := Try.checked }
namespace Rows
def none {H : Type} : Left H := { results := [], args := [] }

/-- 'halfplanelaw28.DirichletGenerators': WHATEVER THE INPUT: true; the input reads as it did. -/
def dirichletGeneratorsSpec : ChangeSpec := { name := "dirichletGenerators", fn := fun _ => fun
  | [d] => { results := [.lit (.bool true)], args := [d] }
  | _ => none }
def dirichletGeneratorsRow : OpenClaim := { program := "ytlagljnhbhnelaa", sum := "6ee4bc121a010a1f3b60d9b6983a82ff48e6022ee95318f598092c5d3fb91c7e", func := "halfplane/halfplanelaw28.DirichletGenerators", spec := "dirichletGenerators", unfollowed := true, recurses := true, apart := false }
def DirichletGeneratorsSaid : Prop := dirichletGeneratorsRow.holds Try.pinned (OpenSpec.ofChange dirichletGeneratorsSpec)

/-- ITS FALSE NEIGHBOUR: 'it returns false'. Refute it at one input. -/
def dirichletGeneratorsWrong : ChangeSpec := { name := "dirichletGenerators", fn := fun _ => fun
  | [d] => { results := [.lit (.bool false)], args := [d] }
  | _ => none }
def DirichletGeneratorsWrongFalsely : Prop := dirichletGeneratorsRow.holds Try.pinned (OpenSpec.ofChange dirichletGeneratorsWrong)

/-- 'halfplanelaw28.DirichletChecks': WHATEVER THE INPUT: true; the input reads as it did. -/
def dirichletChecksSpec : ChangeSpec := { name := "dirichletChecks", fn := fun _ => fun
  | [d] => { results := [.lit (.bool true)], args := [d] }
  | _ => none }
def dirichletChecksRow : OpenClaim := { program := "ytlagljnhbhnelaa", sum := "6ee4bc121a010a1f3b60d9b6983a82ff48e6022ee95318f598092c5d3fb91c7e", func := "halfplane/halfplanelaw28.DirichletChecks", spec := "dirichletChecks", unfollowed := true, recurses := true, apart := false }
def DirichletChecksSaid : Prop := dirichletChecksRow.holds Try.pinned (OpenSpec.ofChange dirichletChecksSpec)

/-- ITS FALSE NEIGHBOUR: 'it returns false'. Refute it at one input. -/
def dirichletChecksWrong : ChangeSpec := { name := "dirichletChecks", fn := fun _ => fun
  | [d] => { results := [.lit (.bool false)], args := [d] }
  | _ => none }
def DirichletChecksWrongFalsely : Prop := dirichletChecksRow.holds Try.pinned (OpenSpec.ofChange dirichletChecksWrong)

/-- 'halfplanelaw28.DirichletAll': WHATEVER THE INPUT: true; the input reads as it did. -/
def dirichletAllSpec : ChangeSpec := { name := "dirichletAll", fn := fun _ => fun
  | [d] => { results := [.lit (.bool true)], args := [d] }
  | _ => none }
def dirichletAllRow : OpenClaim := { program := "ytlagljnhbhnelaa", sum := "6ee4bc121a010a1f3b60d9b6983a82ff48e6022ee95318f598092c5d3fb91c7e", func := "halfplane/halfplanelaw28.DirichletAll", spec := "dirichletAll", unfollowed := true, recurses := true, apart := false }
def DirichletAllSaid : Prop := dirichletAllRow.holds Try.pinned (OpenSpec.ofChange dirichletAllSpec)

/-- ITS FALSE NEIGHBOUR: 'it returns false'. Refute it at one input. -/
def dirichletAllWrong : ChangeSpec := { name := "dirichletAll", fn := fun _ => fun
  | [d] => { results := [.lit (.bool false)], args := [d] }
  | _ => none }
def DirichletAllWrongFalsely : Prop := dirichletAllRow.holds Try.pinned (OpenSpec.ofChange dirichletAllWrong)

/-- 'halfplanelaw28.DirichletValues': WHATEVER THE INPUT: true; the input reads as it did. -/
def dirichletValuesSpec : ChangeSpec := { name := "dirichletValues", fn := fun _ => fun
  | [d1, d2] => { results := [.lit (.bool true)], args := [d1, d2] }
  | _ => none }
def dirichletValuesRow : OpenClaim := { program := "ytlagljnhbhnelaa", sum := "6ee4bc121a010a1f3b60d9b6983a82ff48e6022ee95318f598092c5d3fb91c7e", func := "halfplane/halfplanelaw28.DirichletValues", spec := "dirichletValues", unfollowed := true, recurses := true, apart := false }
def DirichletValuesSaid : Prop := dirichletValuesRow.holds Try.pinned (OpenSpec.ofChange dirichletValuesSpec)

/-- ITS FALSE NEIGHBOUR: 'it returns false'. Refute it at one input. -/
def dirichletValuesWrong : ChangeSpec := { name := "dirichletValues", fn := fun _ => fun
  | [d1, d2] => { results := [.lit (.bool false)], args := [d1, d2] }
  | _ => none }
def DirichletValuesWrongFalsely : Prop := dirichletValuesRow.holds Try.pinned (OpenSpec.ofChange dirichletValuesWrong)

/-- 'halfplanelaw28.DirichletMultiplies': WHATEVER THE INPUT: true; the input reads as it did. -/
def dirichletMultipliesSpec : ChangeSpec := { name := "dirichletMultiplies", fn := fun _ => fun
  | [d1, d2, d3] => { results := [.lit (.bool true)], args := [d1, d2, d3] }
  | _ => none }
def dirichletMultipliesRow : OpenClaim := { program := "ytlagljnhbhnelaa", sum := "6ee4bc121a010a1f3b60d9b6983a82ff48e6022ee95318f598092c5d3fb91c7e", func := "halfplane/halfplanelaw28.DirichletMultiplies", spec := "dirichletMultiplies", unfollowed := true, recurses := true, apart := false }
def DirichletMultipliesSaid : Prop := dirichletMultipliesRow.holds Try.pinned (OpenSpec.ofChange dirichletMultipliesSpec)

/-- ITS FALSE NEIGHBOUR: 'it returns false'. Refute it at one input. -/
def dirichletMultipliesWrong : ChangeSpec := { name := "dirichletMultiplies", fn := fun _ => fun
  | [d1, d2, d3] => { results := [.lit (.bool false)], args := [d1, d2, d3] }
  | _ => none }
def DirichletMultipliesWrongFalsely : Prop := dirichletMultipliesRow.holds Try.pinned (OpenSpec.ofChange dirichletMultipliesWrong)

/-- 'halfplanelaw28.DirichletOrthogonal': WHATEVER THE INPUT: true; the input reads as it did. -/
def dirichletOrthogonalSpec : ChangeSpec := { name := "dirichletOrthogonal", fn := fun _ => fun
  | [d1, d2] => { results := [.lit (.bool true)], args := [d1, d2] }
  | _ => none }
def dirichletOrthogonalRow : OpenClaim := { program := "ytlagljnhbhnelaa", sum := "6ee4bc121a010a1f3b60d9b6983a82ff48e6022ee95318f598092c5d3fb91c7e", func := "halfplane/halfplanelaw28.DirichletOrthogonal", spec := "dirichletOrthogonal", unfollowed := true, recurses := true, apart := false }
def DirichletOrthogonalSaid : Prop := dirichletOrthogonalRow.holds Try.pinned (OpenSpec.ofChange dirichletOrthogonalSpec)

/-- ITS FALSE NEIGHBOUR: 'it returns false'. Refute it at one input. -/
def dirichletOrthogonalWrong : ChangeSpec := { name := "dirichletOrthogonal", fn := fun _ => fun
  | [d1, d2] => { results := [.lit (.bool false)], args := [d1, d2] }
  | _ => none }
def DirichletOrthogonalWrongFalsely : Prop := dirichletOrthogonalRow.holds Try.pinned (OpenSpec.ofChange dirichletOrthogonalWrong)

/-- 'halfplanelaw28.DirichletProducts': WHATEVER THE INPUT: true; the input reads as it did. -/
def dirichletProductsSpec : ChangeSpec := { name := "dirichletProducts", fn := fun _ => fun
  | [d1, d2] => { results := [.lit (.bool true)], args := [d1, d2] }
  | _ => none }
def dirichletProductsRow : OpenClaim := { program := "ytlagljnhbhnelaa", sum := "6ee4bc121a010a1f3b60d9b6983a82ff48e6022ee95318f598092c5d3fb91c7e", func := "halfplane/halfplanelaw28.DirichletProducts", spec := "dirichletProducts", unfollowed := true, recurses := true, apart := false }
def DirichletProductsSaid : Prop := dirichletProductsRow.holds Try.pinned (OpenSpec.ofChange dirichletProductsSpec)

/-- ITS FALSE NEIGHBOUR: 'it returns false'. Refute it at one input. -/
def dirichletProductsWrong : ChangeSpec := { name := "dirichletProducts", fn := fun _ => fun
  | [d1, d2] => { results := [.lit (.bool false)], args := [d1, d2] }
  | _ => none }
def DirichletProductsWrongFalsely : Prop := dirichletProductsRow.holds Try.pinned (OpenSpec.ofChange dirichletProductsWrong)

/-- 'halfplanelaw28.DirichletExtends': WHATEVER THE INPUT: true; the input reads as it did. -/
def dirichletExtendsSpec : ChangeSpec := { name := "dirichletExtends", fn := fun _ => fun
  | [d1, d2, d3] => { results := [.lit (.bool true)], args := [d1, d2, d3] }
  | _ => none }
def dirichletExtendsRow : OpenClaim := { program := "ytlagljnhbhnelaa", sum := "6ee4bc121a010a1f3b60d9b6983a82ff48e6022ee95318f598092c5d3fb91c7e", func := "halfplane/halfplanelaw28.DirichletExtends", spec := "dirichletExtends", unfollowed := true, recurses := true, apart := false }
def DirichletExtendsSaid : Prop := dirichletExtendsRow.holds Try.pinned (OpenSpec.ofChange dirichletExtendsSpec)

/-- ITS FALSE NEIGHBOUR: 'it returns false'. Refute it at one input. -/
def dirichletExtendsWrong : ChangeSpec := { name := "dirichletExtends", fn := fun _ => fun
  | [d1, d2, d3] => { results := [.lit (.bool false)], args := [d1, d2, d3] }
  | _ => none }
def DirichletExtendsWrongFalsely : Prop := dirichletExtendsRow.holds Try.pinned (OpenSpec.ofChange dirichletExtendsWrong)

/-- 'halfplanelaw28.DirichletPrimitive': WHATEVER THE INPUT: true; the input reads as it did. -/
def dirichletPrimitiveSpec : ChangeSpec := { name := "dirichletPrimitive", fn := fun _ => fun
  | [d] => { results := [.lit (.bool true)], args := [d] }
  | _ => none }
def dirichletPrimitiveRow : OpenClaim := { program := "ytlagljnhbhnelaa", sum := "6ee4bc121a010a1f3b60d9b6983a82ff48e6022ee95318f598092c5d3fb91c7e", func := "halfplane/halfplanelaw28.DirichletPrimitive", spec := "dirichletPrimitive", unfollowed := true, recurses := true, apart := false }
def DirichletPrimitiveSaid : Prop := dirichletPrimitiveRow.holds Try.pinned (OpenSpec.ofChange dirichletPrimitiveSpec)

/-- ITS FALSE NEIGHBOUR: 'it returns false'. Refute it at one input. -/
def dirichletPrimitiveWrong : ChangeSpec := { name := "dirichletPrimitive", fn := fun _ => fun
  | [d] => { results := [.lit (.bool false)], args := [d] }
  | _ => none }
def DirichletPrimitiveWrongFalsely : Prop := dirichletPrimitiveRow.holds Try.pinned (OpenSpec.ofChange dirichletPrimitiveWrong)

/-- 'halfplanelaw28.DirichletQuadratic': WHATEVER THE INPUT: true; the input reads as it did. -/
def dirichletQuadraticSpec : ChangeSpec := { name := "dirichletQuadratic", fn := fun _ => fun
  | [d] => { results := [.lit (.bool true)], args := [d] }
  | _ => none }
def dirichletQuadraticRow : OpenClaim := { program := "ytlagljnhbhnelaa", sum := "6ee4bc121a010a1f3b60d9b6983a82ff48e6022ee95318f598092c5d3fb91c7e", func := "halfplane/halfplanelaw28.DirichletQuadratic", spec := "dirichletQuadratic", unfollowed := true, recurses := true, apart := false }
def DirichletQuadraticSaid : Prop := dirichletQuadraticRow.holds Try.pinned (OpenSpec.ofChange dirichletQuadraticSpec)

/-- ITS FALSE NEIGHBOUR: 'it returns false'. Refute it at one input. -/
def dirichletQuadraticWrong : ChangeSpec := { name := "dirichletQuadratic", fn := fun _ => fun
  | [d] => { results := [.lit (.bool false)], args := [d] }
  | _ => none }
def DirichletQuadraticWrongFalsely : Prop := dirichletQuadraticRow.holds Try.pinned (OpenSpec.ofChange dirichletQuadraticWrong)

/- THE SECOND FORM. 'bulk': how many values and letters a reading holds, each counted each time it is reached (what is shared counts as often as it is met; a slice's spare places count too). A statement '..UptoSaid' is the law's where the arguments, and the package variables that the reading takes, are together of bulk at most 1048576: NARROWER than '..Said'. Prove '..Said' where nothing that the law and all that it calls make is longer than what came in: it says more and counts as full. Else prove '..UptoSaid'. A law counts once. -/
mutual
def uptoBulk {H : Type} : DataW H → Nat
  | .lit (.string bytes) => bytes.length + 1
  | .lit _ => 1
  | .nil => 1
  | .ptr d => uptoBulk d + 1
  | .slice elems spare => uptoBulkAll elems + uptoBulkAll spare + 1
  | .agg parts => uptoBulkAll parts + 1
  | .iface _ d => uptoBulk d + 1
  | .map entries => uptoBulkEntries entries + 1
  | .held _ => 1
def uptoBulkAll {H : Type} : List (DataW H) → Nat
  | [] => 0
  | d :: r => uptoBulk d + uptoBulkAll r
def uptoBulkEntries {H : Type} : List (Lit × DataW H) → Nat
  | [] => 0
  | x :: r => uptoBulkEntry x + uptoBulkEntries r
def uptoBulkEntry {H : Type} : Lit × DataW H → Nat
  | (.string bytes, d) => bytes.length + uptoBulk d + 1
  | (_, d) => uptoBulk d + 1
 end
def uptoSmall : (H : Type) → List (DataW H) → Bool := fun _ ds => decide (uptoBulkAll ds ≤ 1048576)
def OpenSpec.upto (s : _root_.Go.ChangeSpec) : _root_.Go.OpenSpec := { _root_.Go.OpenSpec.ofChange s with cond := some uptoSmall }

/-- 'halfplanelaw28.DirichletGenerators', WHERE WHAT IT READS IS OF BULK AT MOST 1048576: true; the input reads as it did. -/
def dirichletGeneratorsUptoRow : OpenClaim := { program := "ytlagljnhbhnelaa", sum := "6ee4bc121a010a1f3b60d9b6983a82ff48e6022ee95318f598092c5d3fb91c7e", func := "halfplane/halfplanelaw28.DirichletGenerators", spec := "dirichletGenerators", unfollowed := true, recurses := true, apart := false, narrowed := true }
def DirichletGeneratorsUptoSaid : Prop := dirichletGeneratorsUptoRow.holds Try.pinned (OpenSpec.upto dirichletGeneratorsSpec)

/-- 'halfplanelaw28.DirichletChecks', WHERE WHAT IT READS IS OF BULK AT MOST 1048576: true; the input reads as it did. -/
def dirichletChecksUptoRow : OpenClaim := { program := "ytlagljnhbhnelaa", sum := "6ee4bc121a010a1f3b60d9b6983a82ff48e6022ee95318f598092c5d3fb91c7e", func := "halfplane/halfplanelaw28.DirichletChecks", spec := "dirichletChecks", unfollowed := true, recurses := true, apart := false, narrowed := true }
def DirichletChecksUptoSaid : Prop := dirichletChecksUptoRow.holds Try.pinned (OpenSpec.upto dirichletChecksSpec)

/-- 'halfplanelaw28.DirichletAll', WHERE WHAT IT READS IS OF BULK AT MOST 1048576: true; the input reads as it did. -/
def dirichletAllUptoRow : OpenClaim := { program := "ytlagljnhbhnelaa", sum := "6ee4bc121a010a1f3b60d9b6983a82ff48e6022ee95318f598092c5d3fb91c7e", func := "halfplane/halfplanelaw28.DirichletAll", spec := "dirichletAll", unfollowed := true, recurses := true, apart := false, narrowed := true }
def DirichletAllUptoSaid : Prop := dirichletAllUptoRow.holds Try.pinned (OpenSpec.upto dirichletAllSpec)

/-- 'halfplanelaw28.DirichletValues', WHERE WHAT IT READS IS OF BULK AT MOST 1048576: true; the input reads as it did. -/
def dirichletValuesUptoRow : OpenClaim := { program := "ytlagljnhbhnelaa", sum := "6ee4bc121a010a1f3b60d9b6983a82ff48e6022ee95318f598092c5d3fb91c7e", func := "halfplane/halfplanelaw28.DirichletValues", spec := "dirichletValues", unfollowed := true, recurses := true, apart := false, narrowed := true }
def DirichletValuesUptoSaid : Prop := dirichletValuesUptoRow.holds Try.pinned (OpenSpec.upto dirichletValuesSpec)

/-- 'halfplanelaw28.DirichletMultiplies', WHERE WHAT IT READS IS OF BULK AT MOST 1048576: true; the input reads as it did. -/
def dirichletMultipliesUptoRow : OpenClaim := { program := "ytlagljnhbhnelaa", sum := "6ee4bc121a010a1f3b60d9b6983a82ff48e6022ee95318f598092c5d3fb91c7e", func := "halfplane/halfplanelaw28.DirichletMultiplies", spec := "dirichletMultiplies", unfollowed := true, recurses := true, apart := false, narrowed := true }
def DirichletMultipliesUptoSaid : Prop := dirichletMultipliesUptoRow.holds Try.pinned (OpenSpec.upto dirichletMultipliesSpec)

/-- 'halfplanelaw28.DirichletOrthogonal', WHERE WHAT IT READS IS OF BULK AT MOST 1048576: true; the input reads as it did. -/
def dirichletOrthogonalUptoRow : OpenClaim := { program := "ytlagljnhbhnelaa", sum := "6ee4bc121a010a1f3b60d9b6983a82ff48e6022ee95318f598092c5d3fb91c7e", func := "halfplane/halfplanelaw28.DirichletOrthogonal", spec := "dirichletOrthogonal", unfollowed := true, recurses := true, apart := false, narrowed := true }
def DirichletOrthogonalUptoSaid : Prop := dirichletOrthogonalUptoRow.holds Try.pinned (OpenSpec.upto dirichletOrthogonalSpec)

/-- 'halfplanelaw28.DirichletProducts', WHERE WHAT IT READS IS OF BULK AT MOST 1048576: true; the input reads as it did. -/
def dirichletProductsUptoRow : OpenClaim := { program := "ytlagljnhbhnelaa", sum := "6ee4bc121a010a1f3b60d9b6983a82ff48e6022ee95318f598092c5d3fb91c7e", func := "halfplane/halfplanelaw28.DirichletProducts", spec := "dirichletProducts", unfollowed := true, recurses := true, apart := false, narrowed := true }
def DirichletProductsUptoSaid : Prop := dirichletProductsUptoRow.holds Try.pinned (OpenSpec.upto dirichletProductsSpec)

/-- 'halfplanelaw28.DirichletExtends', WHERE WHAT IT READS IS OF BULK AT MOST 1048576: true; the input reads as it did. -/
def dirichletExtendsUptoRow : OpenClaim := { program := "ytlagljnhbhnelaa", sum := "6ee4bc121a010a1f3b60d9b6983a82ff48e6022ee95318f598092c5d3fb91c7e", func := "halfplane/halfplanelaw28.DirichletExtends", spec := "dirichletExtends", unfollowed := true, recurses := true, apart := false, narrowed := true }
def DirichletExtendsUptoSaid : Prop := dirichletExtendsUptoRow.holds Try.pinned (OpenSpec.upto dirichletExtendsSpec)

/-- 'halfplanelaw28.DirichletPrimitive', WHERE WHAT IT READS IS OF BULK AT MOST 1048576: true; the input reads as it did. -/
def dirichletPrimitiveUptoRow : OpenClaim := { program := "ytlagljnhbhnelaa", sum := "6ee4bc121a010a1f3b60d9b6983a82ff48e6022ee95318f598092c5d3fb91c7e", func := "halfplane/halfplanelaw28.DirichletPrimitive", spec := "dirichletPrimitive", unfollowed := true, recurses := true, apart := false, narrowed := true }
def DirichletPrimitiveUptoSaid : Prop := dirichletPrimitiveUptoRow.holds Try.pinned (OpenSpec.upto dirichletPrimitiveSpec)

/-- 'halfplanelaw28.DirichletQuadratic', WHERE WHAT IT READS IS OF BULK AT MOST 1048576: true; the input reads as it did. -/
def dirichletQuadraticUptoRow : OpenClaim := { program := "ytlagljnhbhnelaa", sum := "6ee4bc121a010a1f3b60d9b6983a82ff48e6022ee95318f598092c5d3fb91c7e", func := "halfplane/halfplanelaw28.DirichletQuadratic", spec := "dirichletQuadratic", unfollowed := true, recurses := true, apart := false, narrowed := true }
def DirichletQuadraticUptoSaid : Prop := dirichletQuadraticUptoRow.holds Try.pinned (OpenSpec.upto dirichletQuadraticSpec)

end Rows
end Go.Proofs.Ytlagljnhbhnelaa
