/-
  DERIVED. GIVEN WITH THE SEED: THE CARDS: each row of YtdcidfpoojodmaaGreatDoorRows.lean that lists a variable, with what it lists TIED to the program's text (the seventh form; the later family's looks); each row that meets fmt, with fmt's text TOLD by the authors' own Lean function (tested against real Go, not proved from fmt's source: count such statements apart). THE CARD IS WHAT COUNTS. Prove the row's statement (the work); the ties are given (YtdcidfpoojodmaaGreatDoorTie.lean); close each card by the builder's one call (the guide's Derived/Test/ToyasCard.lean, 'card_holds'). Laid BY PROGRAM, IN A SANDBOX (cutbox-door.mjs). By AI agents, Wed Nov 11 2026. No macro, syntax, notation, axiom, sorry.
-/
import Derived.Test.YtdcidfpoojodmaaGreatDoorRows
import GoSem.ClaimSeven
namespace Go.Proofs.YtdcidfpoojodmaaGreatDoor
namespace Rows

/-- THE TIED CARD OF 'elenchuslaw11.TokenAll'. -/
def tokenAllCard : Claim7 := { stood := { row := tokenAllRow, standIns := [], harness := (true, "c26ce8e46977c1646a4ab145fc18569c696bc779a7e603014d3984b689eeda14"), looks := true }, kinds := [], alts := [], laidByText := true, laidKinds := [.data, .data, .data, .sentinel, .sentinel], laidTests := true, laidLooks := .later }
def TokenAllCardSaid : Prop := Claim7.holds Tryz.pinned (.plain (OpenSpec.ofChange tokenAllSpec)) tokenAllCard

/-- THE SECOND FORM's CARD OF 'elenchuslaw11.TokenAll'. -/
def tokenAllUptoCard : Claim7 := { stood := { row := tokenAllUptoRow, standIns := [], harness := (true, "c26ce8e46977c1646a4ab145fc18569c696bc779a7e603014d3984b689eeda14"), looks := true }, kinds := [], alts := [], laidByText := true, laidKinds := [.data, .data, .data, .sentinel, .sentinel], laidTests := true, laidLooks := .later }
def TokenAllUptoCardSaid : Prop := Claim7.holds Tryz.pinned (.plain (OpenSpec.upto tokenAllSpec)) tokenAllUptoCard
end Rows
end Go.Proofs.YtdcidfpoojodmaaGreatDoor
