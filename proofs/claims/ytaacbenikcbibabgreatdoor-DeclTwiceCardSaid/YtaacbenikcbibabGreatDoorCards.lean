/-
  DERIVED. GIVEN WITH THE SEED: THE CARDS: each row of YtaacbenikcbibabGreatDoorRows.lean that lists a variable, with what it lists TIED to the program's text (the seventh form; the later family's looks); each row that meets fmt, with fmt's text TOLD by the authors' own Lean function (tested against real Go, not proved from fmt's source: count such statements apart). THE CARD IS WHAT COUNTS. Prove the row's statement (the work); the ties are given (YtaacbenikcbibabGreatDoorTie.lean); close each card by the builder's one call (the guide's Derived/Test/ToyasCard.lean, 'card_holds'). Laid BY PROGRAM, IN A SANDBOX (cutbox-door.mjs). By AI agents, Wed Nov 11 2026. No macro, syntax, notation, axiom, sorry.
-/
import Derived.Test.YtaacbenikcbibabGreatDoorRows
import GoSem.ClaimSeven
namespace Go.Proofs.YtaacbenikcbibabGreatDoor
namespace Rows

/-- THE TIED CARD OF 'ballcocklaw11.DeclTwice'. -/
def declTwiceCard : Claim7 := { stood := { row := declTwiceRow, standIns := [], harness := (true, "510b4f26659b1e8750915a64052b777341abd044b8c620a56336c6ad2f55299e"), looks := false }, kinds := [], alts := [], laidByText := true, laidKinds := [.data], laidTests := true, laidLooks := .later }
def DeclTwiceCardSaid : Prop := Claim7.holds Tryz.pinned (.plain (OpenSpec.ofChange declTwiceSpec)) declTwiceCard

/-- THE SECOND FORM's CARD OF 'ballcocklaw11.DeclTwice'. -/
def declTwiceUptoCard : Claim7 := { stood := { row := declTwiceUptoRow, standIns := [], harness := (true, "510b4f26659b1e8750915a64052b777341abd044b8c620a56336c6ad2f55299e"), looks := false }, kinds := [], alts := [], laidByText := true, laidKinds := [.data], laidTests := true, laidLooks := .later }
def DeclTwiceUptoCardSaid : Prop := Claim7.holds Tryz.pinned (.plain (OpenSpec.upto declTwiceSpec)) declTwiceUptoCard
end Rows
end Go.Proofs.YtaacbenikcbibabGreatDoor
