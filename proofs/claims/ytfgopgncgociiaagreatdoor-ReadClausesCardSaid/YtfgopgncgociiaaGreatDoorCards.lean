/-
  DERIVED. GIVEN WITH THE SEED: THE CARDS: each row of YtfgopgncgociiaaGreatDoorRows.lean that lists a variable, with what it lists TIED to the program's text (the seventh form; the later family's looks); each row that meets fmt, with fmt's text TOLD by the authors' own Lean function (tested against real Go, not proved from fmt's source: count such statements apart). THE CARD IS WHAT COUNTS. Prove the row's statement (the work); the ties are given (YtfgopgncgociiaaGreatDoorTie.lean); close each card by the builder's one call (the guide's Derived/Test/ToyasCard.lean, 'card_holds'). Laid BY PROGRAM, IN A SANDBOX (cutbox-door.mjs). By AI agents, Wed Nov 11 2026. No macro, syntax, notation, axiom, sorry.
-/
import Derived.Test.YtfgopgncgociiaaGreatDoorRows
import GoSem.ClaimSeven
namespace Go.Proofs.YtfgopgncgociiaaGreatDoor
namespace Rows

/-- THE TIED CARD OF 'elenchuslaw13.ReadDeep'. -/
def readDeepCard : Claim7 := { stood := { row := readDeepRow, standIns := [], harness := (true, "ce9ef31f276c67021f0b2f7cd1b5711bd01267a27b87858ce72aef04b7ae5617"), looks := true }, kinds := [], alts := [], laidByText := true, laidKinds := [.data, .data, .data, .sentinel, .sentinel], laidTests := true, laidLooks := .later }
def ReadDeepCardSaid : Prop := Claim7.holds Tryz.pinned (.plain (OpenSpec.ofChange readDeepSpec)) readDeepCard

/-- THE TIED CARD OF 'elenchuslaw13.ReadClauses'. -/
def readClausesCard : Claim7 := { stood := { row := readClausesRow, standIns := [], harness := (true, "ce9ef31f276c67021f0b2f7cd1b5711bd01267a27b87858ce72aef04b7ae5617"), looks := true }, kinds := [], alts := [], laidByText := true, laidKinds := [.data, .data, .data, .sentinel, .sentinel], laidTests := true, laidLooks := .later }
def ReadClausesCardSaid : Prop := Claim7.holds Tryz.pinned (.plain (OpenSpec.ofChange readClausesSpec)) readClausesCard

/-- THE TIED CARD OF 'elenchuslaw13.ReadNames'. -/
def readNamesCard : Claim7 := { stood := { row := readNamesRow, standIns := [], harness := (true, "ce9ef31f276c67021f0b2f7cd1b5711bd01267a27b87858ce72aef04b7ae5617"), looks := true }, kinds := [], alts := [], laidByText := true, laidKinds := [.data, .data, .data, .sentinel, .sentinel], laidTests := true, laidLooks := .later }
def ReadNamesCardSaid : Prop := Claim7.holds Tryz.pinned (.plain (OpenSpec.ofChange readNamesSpec)) readNamesCard

/-- THE TIED CARD OF 'elenchuslaw13.ReadBrackets'. -/
def readBracketsCard : Claim7 := { stood := { row := readBracketsRow, standIns := [], harness := (true, "ce9ef31f276c67021f0b2f7cd1b5711bd01267a27b87858ce72aef04b7ae5617"), looks := true }, kinds := [], alts := [], laidByText := true, laidKinds := [.data, .data, .data, .sentinel, .sentinel], laidTests := true, laidLooks := .later }
def ReadBracketsCardSaid : Prop := Claim7.holds Tryz.pinned (.plain (OpenSpec.ofChange readBracketsSpec)) readBracketsCard

/-- THE TIED CARD OF 'elenchuslaw13.ReadOrder'. -/
def readOrderCard : Claim7 := { stood := { row := readOrderRow, standIns := [], harness := (true, "ce9ef31f276c67021f0b2f7cd1b5711bd01267a27b87858ce72aef04b7ae5617"), looks := true }, kinds := [], alts := [], laidByText := true, laidKinds := [.data, .data, .data, .sentinel, .sentinel], laidTests := true, laidLooks := .later }
def ReadOrderCardSaid : Prop := Claim7.holds Tryz.pinned (.plain (OpenSpec.ofChange readOrderSpec)) readOrderCard

/-- THE TIED CARD OF 'elenchuslaw13.ReadApart'. -/
def readApartCard : Claim7 := { stood := { row := readApartRow, standIns := [], harness := (true, "ce9ef31f276c67021f0b2f7cd1b5711bd01267a27b87858ce72aef04b7ae5617"), looks := true }, kinds := [], alts := [], laidByText := true, laidKinds := [.data, .data, .data, .sentinel, .sentinel], laidTests := true, laidLooks := .later }
def ReadApartCardSaid : Prop := Claim7.holds Tryz.pinned (.plain (OpenSpec.ofChange readApartSpec)) readApartCard

/-- THE SECOND FORM's CARD OF 'elenchuslaw13.ReadDeep'. -/
def readDeepUptoCard : Claim7 := { stood := { row := readDeepUptoRow, standIns := [], harness := (true, "ce9ef31f276c67021f0b2f7cd1b5711bd01267a27b87858ce72aef04b7ae5617"), looks := true }, kinds := [], alts := [], laidByText := true, laidKinds := [.data, .data, .data, .sentinel, .sentinel], laidTests := true, laidLooks := .later }
def ReadDeepUptoCardSaid : Prop := Claim7.holds Tryz.pinned (.plain (OpenSpec.upto readDeepSpec)) readDeepUptoCard

/-- THE SECOND FORM's CARD OF 'elenchuslaw13.ReadClauses'. -/
def readClausesUptoCard : Claim7 := { stood := { row := readClausesUptoRow, standIns := [], harness := (true, "ce9ef31f276c67021f0b2f7cd1b5711bd01267a27b87858ce72aef04b7ae5617"), looks := true }, kinds := [], alts := [], laidByText := true, laidKinds := [.data, .data, .data, .sentinel, .sentinel], laidTests := true, laidLooks := .later }
def ReadClausesUptoCardSaid : Prop := Claim7.holds Tryz.pinned (.plain (OpenSpec.upto readClausesSpec)) readClausesUptoCard

/-- THE SECOND FORM's CARD OF 'elenchuslaw13.ReadNames'. -/
def readNamesUptoCard : Claim7 := { stood := { row := readNamesUptoRow, standIns := [], harness := (true, "ce9ef31f276c67021f0b2f7cd1b5711bd01267a27b87858ce72aef04b7ae5617"), looks := true }, kinds := [], alts := [], laidByText := true, laidKinds := [.data, .data, .data, .sentinel, .sentinel], laidTests := true, laidLooks := .later }
def ReadNamesUptoCardSaid : Prop := Claim7.holds Tryz.pinned (.plain (OpenSpec.upto readNamesSpec)) readNamesUptoCard

/-- THE SECOND FORM's CARD OF 'elenchuslaw13.ReadBrackets'. -/
def readBracketsUptoCard : Claim7 := { stood := { row := readBracketsUptoRow, standIns := [], harness := (true, "ce9ef31f276c67021f0b2f7cd1b5711bd01267a27b87858ce72aef04b7ae5617"), looks := true }, kinds := [], alts := [], laidByText := true, laidKinds := [.data, .data, .data, .sentinel, .sentinel], laidTests := true, laidLooks := .later }
def ReadBracketsUptoCardSaid : Prop := Claim7.holds Tryz.pinned (.plain (OpenSpec.upto readBracketsSpec)) readBracketsUptoCard

/-- THE SECOND FORM's CARD OF 'elenchuslaw13.ReadOrder'. -/
def readOrderUptoCard : Claim7 := { stood := { row := readOrderUptoRow, standIns := [], harness := (true, "ce9ef31f276c67021f0b2f7cd1b5711bd01267a27b87858ce72aef04b7ae5617"), looks := true }, kinds := [], alts := [], laidByText := true, laidKinds := [.data, .data, .data, .sentinel, .sentinel], laidTests := true, laidLooks := .later }
def ReadOrderUptoCardSaid : Prop := Claim7.holds Tryz.pinned (.plain (OpenSpec.upto readOrderSpec)) readOrderUptoCard

/-- THE SECOND FORM's CARD OF 'elenchuslaw13.ReadApart'. -/
def readApartUptoCard : Claim7 := { stood := { row := readApartUptoRow, standIns := [], harness := (true, "ce9ef31f276c67021f0b2f7cd1b5711bd01267a27b87858ce72aef04b7ae5617"), looks := true }, kinds := [], alts := [], laidByText := true, laidKinds := [.data, .data, .data, .sentinel, .sentinel], laidTests := true, laidLooks := .later }
def ReadApartUptoCardSaid : Prop := Claim7.holds Tryz.pinned (.plain (OpenSpec.upto readApartSpec)) readApartUptoCard
end Rows
end Go.Proofs.YtfgopgncgociiaaGreatDoor
