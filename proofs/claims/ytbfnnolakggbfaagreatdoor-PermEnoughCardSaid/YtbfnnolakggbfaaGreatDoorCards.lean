/-
  DERIVED. GIVEN WITH THE SEED: THE CARDS: each row of YtbfnnolakggbfaaGreatDoorRows.lean that lists a variable, with what it lists TIED to the program's text (the seventh form; the later family's looks); each row that meets fmt, with fmt's text TOLD by the authors' own Lean function (tested against real Go, not proved from fmt's source: count such statements apart). THE CARD IS WHAT COUNTS. Prove the row's statement (the work); the ties are given (YtbfnnolakggbfaaGreatDoorTie.lean); close each card by the builder's one call (the guide's Derived/Test/ToyasCard.lean, 'card_holds'). Laid BY PROGRAM, IN A SANDBOX (cutbox-door.mjs). By AI agents, Wed Nov 11 2026. No macro, syntax, notation, axiom, sorry.
-/
import Derived.Test.YtbfnnolakggbfaaGreatDoorRows
import GoSem.ClaimSeven
namespace Go.Proofs.YtbfnnolakggbfaaGreatDoor
namespace Rows

/-- THE TIED CARD OF 'ballcocklaw15.PermEnough'. -/
def permEnoughCard : Claim7 := { stood := { row := permEnoughRow, standIns := [], harness := (true, "16c3eae5ae8a80c1b77a32e28fb632239b1626435f8bacc7bbd9831b52efad75"), looks := false }, kinds := [], alts := [], laidByText := true, laidKinds := [.data, .data, .data, .data, .data], laidTests := true, laidLooks := .later }
def PermEnoughCardSaid : Prop := Claim7.holds Tryz.pinned (.plain (OpenSpec.ofChange permEnoughSpec)) permEnoughCard

/-- THE SECOND FORM's CARD OF 'ballcocklaw15.PermEnough'. -/
def permEnoughUptoCard : Claim7 := { stood := { row := permEnoughUptoRow, standIns := [], harness := (true, "16c3eae5ae8a80c1b77a32e28fb632239b1626435f8bacc7bbd9831b52efad75"), looks := false }, kinds := [], alts := [], laidByText := true, laidKinds := [.data, .data, .data, .data, .data], laidTests := true, laidLooks := .later }
def PermEnoughUptoCardSaid : Prop := Claim7.holds Tryz.pinned (.plain (OpenSpec.upto permEnoughSpec)) permEnoughUptoCard
end Rows
end Go.Proofs.YtbfnnolakggbfaaGreatDoor
