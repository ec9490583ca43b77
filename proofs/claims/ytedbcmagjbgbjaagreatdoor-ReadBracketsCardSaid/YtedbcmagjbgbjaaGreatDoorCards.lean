/-
  DERIVED. GIVEN WITH THE SEED: THE CARDS: each row of YtedbcmagjbgbjaaGreatDoorRows.lean that lists a variable, with what it lists TIED to the program's text (the seventh form; the later family's looks); each row that meets fmt, with fmt's text TOLD by the authors' own Lean function (tested against real Go, not proved from fmt's source: count such statements apart). THE CARD IS WHAT COUNTS. Prove the row's statement (the work); the ties are given (YtedbcmagjbgbjaaGreatDoorTie.lean); close each card by the builder's one call (the guide's Derived/Test/ToyasCard.lean, 'card_holds'). Laid BY PROGRAM, IN A SANDBOX (cutbox-door.mjs). By AI agents, Wed Nov 11 2026. No macro, syntax, notation, axiom, sorry.
-/
import Derived.Test.YtedbcmagjbgbjaaGreatDoorRows
import GoSem.ClaimSeven
namespace Go.Proofs.YtedbcmagjbgbjaaGreatDoor
namespace Rows

/-- THE TIED CARD OF 'elenchuslaw13.ReadDeep'. -/
def readDeepCard : Claim7 := { stood := { row := readDeepRow, standIns := [], harness := (true, "db4c560b7b05b555484bdc7e4ea4373fa0315a09f8e93b3cbef9aa63f2928fd1"), looks := true }, kinds := [], alts := [], laidByText := true, laidKinds := [.data, .data, .data, .sentinel, .sentinel], laidTests := true, laidLooks := .later }
def ReadDeepCardSaid : Prop := Claim7.holds Tryz.pinned (.plain (OpenSpec.ofChange readDeepSpec)) readDeepCard

/-- THE TIED CARD OF 'elenchuslaw13.ReadBrackets'. -/
def readBracketsCard : Claim7 := { stood := { row := readBracketsRow, standIns := [], harness := (true, "db4c560b7b05b555484bdc7e4ea4373fa0315a09f8e93b3cbef9aa63f2928fd1"), looks := true }, kinds := [], alts := [], laidByText := true, laidKinds := [.data, .data, .data, .sentinel, .sentinel], laidTests := true, laidLooks := .later }
def ReadBracketsCardSaid : Prop := Claim7.holds Tryz.pinned (.plain (OpenSpec.ofChange readBracketsSpec)) readBracketsCard

/-- THE TIED CARD OF 'elenchuslaw13.ReadOrder'. -/
def readOrderCard : Claim7 := { stood := { row := readOrderRow, standIns := [], harness := (true, "db4c560b7b05b555484bdc7e4ea4373fa0315a09f8e93b3cbef9aa63f2928fd1"), looks := true }, kinds := [], alts := [], laidByText := true, laidKinds := [.data, .data, .data, .sentinel, .sentinel], laidTests := true, laidLooks := .later }
def ReadOrderCardSaid : Prop := Claim7.holds Tryz.pinned (.plain (OpenSpec.ofChange readOrderSpec)) readOrderCard

/-- THE TIED CARD OF 'elenchuslaw13.ReadApart'. -/
def readApartCard : Claim7 := { stood := { row := readApartRow, standIns := [], harness := (true, "db4c560b7b05b555484bdc7e4ea4373fa0315a09f8e93b3cbef9aa63f2928fd1"), looks := true }, kinds := [], alts := [], laidByText := true, laidKinds := [.data, .data, .data, .sentinel, .sentinel], laidTests := true, laidLooks := .later }
def ReadApartCardSaid : Prop := Claim7.holds Tryz.pinned (.plain (OpenSpec.ofChange readApartSpec)) readApartCard

/-- THE TIED CARD OF 'elenchuslaw14.WriteApart'. -/
def writeApartCard : Claim7 := { stood := { row := writeApartRow, standIns := [], harness := (true, "db4c560b7b05b555484bdc7e4ea4373fa0315a09f8e93b3cbef9aa63f2928fd1"), looks := true }, kinds := [], alts := [], laidByText := true, laidKinds := [.data, .data, .data, .sentinel, .sentinel], laidTests := true, laidLooks := .later }
def WriteApartCardSaid : Prop := Claim7.holds Tryz.pinned (.plain (OpenSpec.ofChange writeApartSpec)) writeApartCard

/-- THE TIED CARD OF 'elenchuslaw14.WriteLists'. -/
def writeListsCard : Claim7 := { stood := { row := writeListsRow, standIns := [], harness := (true, "db4c560b7b05b555484bdc7e4ea4373fa0315a09f8e93b3cbef9aa63f2928fd1"), looks := true }, kinds := [], alts := [], laidByText := true, laidKinds := [.data, .data, .data, .sentinel, .sentinel], laidTests := true, laidLooks := .later }
def WriteListsCardSaid : Prop := Claim7.holds Tryz.pinned (.plain (OpenSpec.ofChange writeListsSpec)) writeListsCard

/-- THE TIED CARD OF 'elenchuslaw14.WriteOps'. -/
def writeOpsCard : Claim7 := { stood := { row := writeOpsRow, standIns := [], harness := (true, "db4c560b7b05b555484bdc7e4ea4373fa0315a09f8e93b3cbef9aa63f2928fd1"), looks := true }, kinds := [], alts := [], laidByText := true, laidKinds := [.data, .data, .data, .sentinel, .sentinel], laidTests := true, laidLooks := .later }
def WriteOpsCardSaid : Prop := Claim7.holds Tryz.pinned (.plain (OpenSpec.ofChange writeOpsSpec)) writeOpsCard

/-- THE TIED CARD OF 'elenchuslaw14.WriteParts'. -/
def writePartsCard : Claim7 := { stood := { row := writePartsRow, standIns := [], harness := (true, "db4c560b7b05b555484bdc7e4ea4373fa0315a09f8e93b3cbef9aa63f2928fd1"), looks := true }, kinds := [], alts := [], laidByText := true, laidKinds := [.data, .data, .data, .sentinel, .sentinel], laidTests := true, laidLooks := .later }
def WritePartsCardSaid : Prop := Claim7.holds Tryz.pinned (.plain (OpenSpec.ofChange writePartsSpec)) writePartsCard

/-- THE SECOND FORM's CARD OF 'elenchuslaw13.ReadDeep'. -/
def readDeepUptoCard : Claim7 := { stood := { row := readDeepUptoRow, standIns := [], harness := (true, "db4c560b7b05b555484bdc7e4ea4373fa0315a09f8e93b3cbef9aa63f2928fd1"), looks := true }, kinds := [], alts := [], laidByText := true, laidKinds := [.data, .data, .data, .sentinel, .sentinel], laidTests := true, laidLooks := .later }
def ReadDeepUptoCardSaid : Prop := Claim7.holds Tryz.pinned (.plain (OpenSpec.upto readDeepSpec)) readDeepUptoCard

/-- THE SECOND FORM's CARD OF 'elenchuslaw13.ReadBrackets'. -/
def readBracketsUptoCard : Claim7 := { stood := { row := readBracketsUptoRow, standIns := [], harness := (true, "db4c560b7b05b555484bdc7e4ea4373fa0315a09f8e93b3cbef9aa63f2928fd1"), looks := true }, kinds := [], alts := [], laidByText := true, laidKinds := [.data, .data, .data, .sentinel, .sentinel], laidTests := true, laidLooks := .later }
def ReadBracketsUptoCardSaid : Prop := Claim7.holds Tryz.pinned (.plain (OpenSpec.upto readBracketsSpec)) readBracketsUptoCard

/-- THE SECOND FORM's CARD OF 'elenchuslaw13.ReadOrder'. -/
def readOrderUptoCard : Claim7 := { stood := { row := readOrderUptoRow, standIns := [], harness := (true, "db4c560b7b05b555484bdc7e4ea4373fa0315a09f8e93b3cbef9aa63f2928fd1"), looks := true }, kinds := [], alts := [], laidByText := true, laidKinds := [.data, .data, .data, .sentinel, .sentinel], laidTests := true, laidLooks := .later }
def ReadOrderUptoCardSaid : Prop := Claim7.holds Tryz.pinned (.plain (OpenSpec.upto readOrderSpec)) readOrderUptoCard

/-- THE SECOND FORM's CARD OF 'elenchuslaw13.ReadApart'. -/
def readApartUptoCard : Claim7 := { stood := { row := readApartUptoRow, standIns := [], harness := (true, "db4c560b7b05b555484bdc7e4ea4373fa0315a09f8e93b3cbef9aa63f2928fd1"), looks := true }, kinds := [], alts := [], laidByText := true, laidKinds := [.data, .data, .data, .sentinel, .sentinel], laidTests := true, laidLooks := .later }
def ReadApartUptoCardSaid : Prop := Claim7.holds Tryz.pinned (.plain (OpenSpec.upto readApartSpec)) readApartUptoCard

/-- THE SECOND FORM's CARD OF 'elenchuslaw14.WriteApart'. -/
def writeApartUptoCard : Claim7 := { stood := { row := writeApartUptoRow, standIns := [], harness := (true, "db4c560b7b05b555484bdc7e4ea4373fa0315a09f8e93b3cbef9aa63f2928fd1"), looks := true }, kinds := [], alts := [], laidByText := true, laidKinds := [.data, .data, .data, .sentinel, .sentinel], laidTests := true, laidLooks := .later }
def WriteApartUptoCardSaid : Prop := Claim7.holds Tryz.pinned (.plain (OpenSpec.upto writeApartSpec)) writeApartUptoCard

/-- THE SECOND FORM's CARD OF 'elenchuslaw14.WriteLists'. -/
def writeListsUptoCard : Claim7 := { stood := { row := writeListsUptoRow, standIns := [], harness := (true, "db4c560b7b05b555484bdc7e4ea4373fa0315a09f8e93b3cbef9aa63f2928fd1"), looks := true }, kinds := [], alts := [], laidByText := true, laidKinds := [.data, .data, .data, .sentinel, .sentinel], laidTests := true, laidLooks := .later }
def WriteListsUptoCardSaid : Prop := Claim7.holds Tryz.pinned (.plain (OpenSpec.upto writeListsSpec)) writeListsUptoCard

/-- THE SECOND FORM's CARD OF 'elenchuslaw14.WriteOps'. -/
def writeOpsUptoCard : Claim7 := { stood := { row := writeOpsUptoRow, standIns := [], harness := (true, "db4c560b7b05b555484bdc7e4ea4373fa0315a09f8e93b3cbef9aa63f2928fd1"), looks := true }, kinds := [], alts := [], laidByText := true, laidKinds := [.data, .data, .data, .sentinel, .sentinel], laidTests := true, laidLooks := .later }
def WriteOpsUptoCardSaid : Prop := Claim7.holds Tryz.pinned (.plain (OpenSpec.upto writeOpsSpec)) writeOpsUptoCard

/-- THE SECOND FORM's CARD OF 'elenchuslaw14.WriteParts'. -/
def writePartsUptoCard : Claim7 := { stood := { row := writePartsUptoRow, standIns := [], harness := (true, "db4c560b7b05b555484bdc7e4ea4373fa0315a09f8e93b3cbef9aa63f2928fd1"), looks := true }, kinds := [], alts := [], laidByText := true, laidKinds := [.data, .data, .data, .sentinel, .sentinel], laidTests := true, laidLooks := .later }
def WritePartsUptoCardSaid : Prop := Claim7.holds Tryz.pinned (.plain (OpenSpec.upto writePartsSpec)) writePartsUptoCard
end Rows
end Go.Proofs.YtedbcmagjbgbjaaGreatDoor
