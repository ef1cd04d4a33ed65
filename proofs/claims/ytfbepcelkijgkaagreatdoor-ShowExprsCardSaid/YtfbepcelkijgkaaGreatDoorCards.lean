/-
  DERIVED. GIVEN WITH THE SEED: THE CARDS: each row of YtfbepcelkijgkaaGreatDoorRows.lean that lists a variable, with what it lists TIED to the program's text (the seventh form; the later family's looks); each row that meets fmt, with fmt's text TOLD by the authors' own Lean function (tested against real Go, not proved from fmt's source: count such statements apart). THE CARD IS WHAT COUNTS. Prove the row's statement (the work); the ties are given (YtfbepcelkijgkaaGreatDoorTie.lean); close each card by the builder's one call (the guide's Derived/Test/ToyasCard.lean, 'card_holds'). Laid BY PROGRAM, IN A SANDBOX (cutbox-door.mjs). By AI agents, Wed Nov 11 2026. No macro, syntax, notation, axiom, sorry.
-/
import Derived.Test.YtfbepcelkijgkaaGreatDoorRows
import GoSem.ClaimSeven
namespace Go.Proofs.YtfbepcelkijgkaaGreatDoor
namespace Rows

/-- THE TIED CARD OF 'ballcocklaw08.ShowBack'. -/
def showBackCard : Claim7 := { stood := { row := showBackRow, standIns := [], harness := (true, "9f06cdaa9cff65edf364d8eee5c0ddcc031923379714e094ccf01946ec252844"), looks := false }, kinds := [], alts := [], laidByText := true, laidKinds := [.data, .data, .data, .data, .data, .data, .data], laidTests := true, laidLooks := .later }
def ShowBackCardSaid : Prop := Claim7.holds Tryz.pinned (.plain (OpenSpec.ofChange showBackSpec)) showBackCard

/-- THE TIED CARD OF 'ballcocklaw08.ShowFixed'. -/
def showFixedCard : Claim7 := { stood := { row := showFixedRow, standIns := [], harness := (true, "9f06cdaa9cff65edf364d8eee5c0ddcc031923379714e094ccf01946ec252844"), looks := false }, kinds := [], alts := [], laidByText := true, laidKinds := [.data, .data, .data, .data, .data, .data, .data], laidTests := true, laidLooks := .later }
def ShowFixedCardSaid : Prop := Claim7.holds Tryz.pinned (.plain (OpenSpec.ofChange showFixedSpec)) showFixedCard

/-- THE TIED CARD OF 'ballcocklaw08.ShowExprs'. -/
def showExprsCard : Claim7 := { stood := { row := showExprsRow, standIns := [], harness := (true, "9f06cdaa9cff65edf364d8eee5c0ddcc031923379714e094ccf01946ec252844"), looks := false }, kinds := [], alts := [], laidByText := true, laidKinds := [.data, .data, .data, .data, .data, .data, .data], laidTests := true, laidLooks := .later }
def ShowExprsCardSaid : Prop := Claim7.holds Tryz.pinned (.plain (OpenSpec.ofChange showExprsSpec)) showExprsCard

/-- THE SECOND FORM's CARD OF 'ballcocklaw08.ShowBack'. -/
def showBackUptoCard : Claim7 := { stood := { row := showBackUptoRow, standIns := [], harness := (true, "9f06cdaa9cff65edf364d8eee5c0ddcc031923379714e094ccf01946ec252844"), looks := false }, kinds := [], alts := [], laidByText := true, laidKinds := [.data, .data, .data, .data, .data, .data, .data], laidTests := true, laidLooks := .later }
def ShowBackUptoCardSaid : Prop := Claim7.holds Tryz.pinned (.plain (OpenSpec.upto showBackSpec)) showBackUptoCard

/-- THE SECOND FORM's CARD OF 'ballcocklaw08.ShowFixed'. -/
def showFixedUptoCard : Claim7 := { stood := { row := showFixedUptoRow, standIns := [], harness := (true, "9f06cdaa9cff65edf364d8eee5c0ddcc031923379714e094ccf01946ec252844"), looks := false }, kinds := [], alts := [], laidByText := true, laidKinds := [.data, .data, .data, .data, .data, .data, .data], laidTests := true, laidLooks := .later }
def ShowFixedUptoCardSaid : Prop := Claim7.holds Tryz.pinned (.plain (OpenSpec.upto showFixedSpec)) showFixedUptoCard

/-- THE SECOND FORM's CARD OF 'ballcocklaw08.ShowExprs'. -/
def showExprsUptoCard : Claim7 := { stood := { row := showExprsUptoRow, standIns := [], harness := (true, "9f06cdaa9cff65edf364d8eee5c0ddcc031923379714e094ccf01946ec252844"), looks := false }, kinds := [], alts := [], laidByText := true, laidKinds := [.data, .data, .data, .data, .data, .data, .data], laidTests := true, laidLooks := .later }
def ShowExprsUptoCardSaid : Prop := Claim7.holds Tryz.pinned (.plain (OpenSpec.upto showExprsSpec)) showExprsUptoCard
end Rows
end Go.Proofs.YtfbepcelkijgkaaGreatDoor
