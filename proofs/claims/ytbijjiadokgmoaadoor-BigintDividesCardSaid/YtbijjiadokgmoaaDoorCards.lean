/-
  DERIVED. GIVEN WITH THE SEED: THE CARDS: each row of YtbijjiadokgmoaaDoorRows.lean that lists a variable, with what it lists TIED to the program's text (the seventh form; the later family's looks); each row that meets fmt, with fmt's text TOLD by the authors' own Lean function (tested against real Go, not proved from fmt's source: count such statements apart). THE CARD IS WHAT COUNTS. Prove the row's statement (the work); the ties are given (YtbijjiadokgmoaaDoorTie.lean); close each card by the builder's one call (the guide's Derived/Test/ToyasCard.lean, 'card_holds'). Laid BY PROGRAM, IN A SANDBOX (cutbox-door.mjs). By AI agents, Wed Nov 11 2026. No macro, syntax, notation, axiom, sorry.
-/
import Derived.Test.YtbijjiadokgmoaaDoorRows
import GoSem.ClaimSeven
namespace Go.Proofs.YtbijjiadokgmoaaDoor
namespace Rows

/-- THE TIED CARD OF 'halfplanelaw01.BigintConverts'. -/
def bigintConvertsCard : Claim7 := { stood := { row := bigintConvertsRow, standIns := [], harness := (true, "9726b1cdfa9cc2be0b9c6200d7eced55f04feb596429e623f52adf19881f16d4"), looks := false }, kinds := [], alts := [], laidByText := true, laidKinds := [.data, .pinned], laidTests := true, laidLooks := .later }
def BigintConvertsCardSaid : Prop := Claim7.holds Tryd.pinned (.plain (OpenSpec.ofChange bigintConvertsSpec)) bigintConvertsCard

/-- THE TIED CARD OF 'halfplanelaw01.BigintOperations'. -/
def bigintOperationsCard : Claim7 := { stood := { row := bigintOperationsRow, standIns := [], harness := (true, "9726b1cdfa9cc2be0b9c6200d7eced55f04feb596429e623f52adf19881f16d4"), looks := false }, kinds := [], alts := [], laidByText := true, laidKinds := [.data, .pinned], laidTests := true, laidLooks := .later }
def BigintOperationsCardSaid : Prop := Claim7.holds Tryd.pinned (.plain (OpenSpec.ofChange bigintOperationsSpec)) bigintOperationsCard

/-- THE TIED CARD OF 'halfplanelaw01.BigintRing'. -/
def bigintRingCard : Claim7 := { stood := { row := bigintRingRow, standIns := [], harness := (true, "9726b1cdfa9cc2be0b9c6200d7eced55f04feb596429e623f52adf19881f16d4"), looks := false }, kinds := [], alts := [], laidByText := true, laidKinds := [.data, .pinned], laidTests := true, laidLooks := .later }
def BigintRingCardSaid : Prop := Claim7.holds Tryd.pinned (.plain (OpenSpec.ofChange bigintRingSpec)) bigintRingCard

/-- THE TIED CARD OF 'halfplanelaw01.BigintDivides'. -/
def bigintDividesCard : Claim7 := { stood := { row := bigintDividesRow, standIns := [], harness := (true, "9726b1cdfa9cc2be0b9c6200d7eced55f04feb596429e623f52adf19881f16d4"), looks := false }, kinds := [], alts := [], laidByText := true, laidKinds := [.data, .pinned], laidTests := true, laidLooks := .later }
def BigintDividesCardSaid : Prop := Claim7.holds Tryd.pinned (.plain (OpenSpec.ofChange bigintDividesSpec)) bigintDividesCard

/-- THE TIED CARD OF 'halfplanelaw01.BigintDivisors'. -/
def bigintDivisorsCard : Claim7 := { stood := { row := bigintDivisorsRow, standIns := [], harness := (true, "9726b1cdfa9cc2be0b9c6200d7eced55f04feb596429e623f52adf19881f16d4"), looks := false }, kinds := [], alts := [], laidByText := true, laidKinds := [.data, .pinned], laidTests := true, laidLooks := .later }
def BigintDivisorsCardSaid : Prop := Claim7.holds Tryd.pinned (.plain (OpenSpec.ofChange bigintDivisorsSpec)) bigintDivisorsCard

/-- THE TIED CARD OF 'halfplanelaw01.BigintPowers'. -/
def bigintPowersCard : Claim7 := { stood := { row := bigintPowersRow, standIns := [], harness := (true, "9726b1cdfa9cc2be0b9c6200d7eced55f04feb596429e623f52adf19881f16d4"), looks := false }, kinds := [], alts := [], laidByText := true, laidKinds := [.data, .pinned], laidTests := true, laidLooks := .later }
def BigintPowersCardSaid : Prop := Claim7.holds Tryd.pinned (.plain (OpenSpec.ofChange bigintPowersSpec)) bigintPowersCard

/-- THE TIED CARD OF 'halfplanelaw01.BigintModular'. -/
def bigintModularCard : Claim7 := { stood := { row := bigintModularRow, standIns := [], harness := (true, "9726b1cdfa9cc2be0b9c6200d7eced55f04feb596429e623f52adf19881f16d4"), looks := false }, kinds := [], alts := [], laidByText := true, laidKinds := [.data, .pinned], laidTests := true, laidLooks := .later }
def BigintModularCardSaid : Prop := Claim7.holds Tryd.pinned (.plain (OpenSpec.ofChange bigintModularSpec)) bigintModularCard

/-- THE TIED CARD OF 'halfplanelaw01.BigintRoots'. -/
def bigintRootsCard : Claim7 := { stood := { row := bigintRootsRow, standIns := [], harness := (true, "9726b1cdfa9cc2be0b9c6200d7eced55f04feb596429e623f52adf19881f16d4"), looks := false }, kinds := [], alts := [], laidByText := true, laidKinds := [.data, .pinned], laidTests := true, laidLooks := .later }
def BigintRootsCardSaid : Prop := Claim7.holds Tryd.pinned (.plain (OpenSpec.ofChange bigintRootsSpec)) bigintRootsCard

/-- THE TIED CARD OF 'halfplanelaw01.BigintStrings'. -/
def bigintStringsCard : Claim7 := { stood := { row := bigintStringsRow, standIns := [], harness := (true, "9726b1cdfa9cc2be0b9c6200d7eced55f04feb596429e623f52adf19881f16d4"), looks := false }, kinds := [], alts := [], laidByText := true, laidKinds := [.data, .pinned], laidTests := true, laidLooks := .later }
def BigintStringsCardSaid : Prop := Claim7.holds Tryd.pinned (.plain (OpenSpec.ofChange bigintStringsSpec)) bigintStringsCard

/-- THE TIED CARD OF 'halfplanelaw01.BigintMemory'. -/
def bigintMemoryCard : Claim7 := { stood := { row := bigintMemoryRow, standIns := [], harness := (true, "9726b1cdfa9cc2be0b9c6200d7eced55f04feb596429e623f52adf19881f16d4"), looks := false }, kinds := [], alts := [], laidByText := true, laidKinds := [.data, .pinned], laidTests := true, laidLooks := .later }
def BigintMemoryCardSaid : Prop := Claim7.holds Tryd.pinned (.plain (OpenSpec.ofChange bigintMemorySpec)) bigintMemoryCard

/-- THE SECOND FORM's CARD OF 'halfplanelaw01.BigintConverts'. -/
def bigintConvertsUptoCard : Claim7 := { stood := { row := bigintConvertsUptoRow, standIns := [], harness := (true, "9726b1cdfa9cc2be0b9c6200d7eced55f04feb596429e623f52adf19881f16d4"), looks := false }, kinds := [], alts := [], laidByText := true, laidKinds := [.data, .pinned], laidTests := true, laidLooks := .later }
def BigintConvertsUptoCardSaid : Prop := Claim7.holds Tryd.pinned (.plain (OpenSpec.upto bigintConvertsSpec)) bigintConvertsUptoCard

/-- THE SECOND FORM's CARD OF 'halfplanelaw01.BigintOperations'. -/
def bigintOperationsUptoCard : Claim7 := { stood := { row := bigintOperationsUptoRow, standIns := [], harness := (true, "9726b1cdfa9cc2be0b9c6200d7eced55f04feb596429e623f52adf19881f16d4"), looks := false }, kinds := [], alts := [], laidByText := true, laidKinds := [.data, .pinned], laidTests := true, laidLooks := .later }
def BigintOperationsUptoCardSaid : Prop := Claim7.holds Tryd.pinned (.plain (OpenSpec.upto bigintOperationsSpec)) bigintOperationsUptoCard

/-- THE SECOND FORM's CARD OF 'halfplanelaw01.BigintRing'. -/
def bigintRingUptoCard : Claim7 := { stood := { row := bigintRingUptoRow, standIns := [], harness := (true, "9726b1cdfa9cc2be0b9c6200d7eced55f04feb596429e623f52adf19881f16d4"), looks := false }, kinds := [], alts := [], laidByText := true, laidKinds := [.data, .pinned], laidTests := true, laidLooks := .later }
def BigintRingUptoCardSaid : Prop := Claim7.holds Tryd.pinned (.plain (OpenSpec.upto bigintRingSpec)) bigintRingUptoCard

/-- THE SECOND FORM's CARD OF 'halfplanelaw01.BigintDivides'. -/
def bigintDividesUptoCard : Claim7 := { stood := { row := bigintDividesUptoRow, standIns := [], harness := (true, "9726b1cdfa9cc2be0b9c6200d7eced55f04feb596429e623f52adf19881f16d4"), looks := false }, kinds := [], alts := [], laidByText := true, laidKinds := [.data, .pinned], laidTests := true, laidLooks := .later }
def BigintDividesUptoCardSaid : Prop := Claim7.holds Tryd.pinned (.plain (OpenSpec.upto bigintDividesSpec)) bigintDividesUptoCard

/-- THE SECOND FORM's CARD OF 'halfplanelaw01.BigintDivisors'. -/
def bigintDivisorsUptoCard : Claim7 := { stood := { row := bigintDivisorsUptoRow, standIns := [], harness := (true, "9726b1cdfa9cc2be0b9c6200d7eced55f04feb596429e623f52adf19881f16d4"), looks := false }, kinds := [], alts := [], laidByText := true, laidKinds := [.data, .pinned], laidTests := true, laidLooks := .later }
def BigintDivisorsUptoCardSaid : Prop := Claim7.holds Tryd.pinned (.plain (OpenSpec.upto bigintDivisorsSpec)) bigintDivisorsUptoCard

/-- THE SECOND FORM's CARD OF 'halfplanelaw01.BigintPowers'. -/
def bigintPowersUptoCard : Claim7 := { stood := { row := bigintPowersUptoRow, standIns := [], harness := (true, "9726b1cdfa9cc2be0b9c6200d7eced55f04feb596429e623f52adf19881f16d4"), looks := false }, kinds := [], alts := [], laidByText := true, laidKinds := [.data, .pinned], laidTests := true, laidLooks := .later }
def BigintPowersUptoCardSaid : Prop := Claim7.holds Tryd.pinned (.plain (OpenSpec.upto bigintPowersSpec)) bigintPowersUptoCard

/-- THE SECOND FORM's CARD OF 'halfplanelaw01.BigintModular'. -/
def bigintModularUptoCard : Claim7 := { stood := { row := bigintModularUptoRow, standIns := [], harness := (true, "9726b1cdfa9cc2be0b9c6200d7eced55f04feb596429e623f52adf19881f16d4"), looks := false }, kinds := [], alts := [], laidByText := true, laidKinds := [.data, .pinned], laidTests := true, laidLooks := .later }
def BigintModularUptoCardSaid : Prop := Claim7.holds Tryd.pinned (.plain (OpenSpec.upto bigintModularSpec)) bigintModularUptoCard

/-- THE SECOND FORM's CARD OF 'halfplanelaw01.BigintRoots'. -/
def bigintRootsUptoCard : Claim7 := { stood := { row := bigintRootsUptoRow, standIns := [], harness := (true, "9726b1cdfa9cc2be0b9c6200d7eced55f04feb596429e623f52adf19881f16d4"), looks := false }, kinds := [], alts := [], laidByText := true, laidKinds := [.data, .pinned], laidTests := true, laidLooks := .later }
def BigintRootsUptoCardSaid : Prop := Claim7.holds Tryd.pinned (.plain (OpenSpec.upto bigintRootsSpec)) bigintRootsUptoCard

/-- THE SECOND FORM's CARD OF 'halfplanelaw01.BigintStrings'. -/
def bigintStringsUptoCard : Claim7 := { stood := { row := bigintStringsUptoRow, standIns := [], harness := (true, "9726b1cdfa9cc2be0b9c6200d7eced55f04feb596429e623f52adf19881f16d4"), looks := false }, kinds := [], alts := [], laidByText := true, laidKinds := [.data, .pinned], laidTests := true, laidLooks := .later }
def BigintStringsUptoCardSaid : Prop := Claim7.holds Tryd.pinned (.plain (OpenSpec.upto bigintStringsSpec)) bigintStringsUptoCard

/-- THE SECOND FORM's CARD OF 'halfplanelaw01.BigintMemory'. -/
def bigintMemoryUptoCard : Claim7 := { stood := { row := bigintMemoryUptoRow, standIns := [], harness := (true, "9726b1cdfa9cc2be0b9c6200d7eced55f04feb596429e623f52adf19881f16d4"), looks := false }, kinds := [], alts := [], laidByText := true, laidKinds := [.data, .pinned], laidTests := true, laidLooks := .later }
def BigintMemoryUptoCardSaid : Prop := Claim7.holds Tryd.pinned (.plain (OpenSpec.upto bigintMemorySpec)) bigintMemoryUptoCard
end Rows
end Go.Proofs.YtbijjiadokgmoaaDoor
