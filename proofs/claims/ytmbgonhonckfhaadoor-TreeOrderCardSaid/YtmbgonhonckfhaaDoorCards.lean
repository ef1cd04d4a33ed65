/-
  DERIVED. GIVEN WITH THE SEED: THE CARDS: each row of YtmbgonhonckfhaaDoorRows.lean that lists a variable, with what it lists TIED to the program's text (the seventh form; the later family's looks); each row that meets fmt, with fmt's text TOLD by the authors' own Lean function (tested against real Go, not proved from fmt's source: count such statements apart). THE CARD IS WHAT COUNTS. Prove the row's statement (the work); the ties are given (YtmbgonhonckfhaaDoorTie.lean); close each card by the builder's one call (the guide's Derived/Test/ToyasCard.lean, 'card_holds'). Laid BY PROGRAM, IN A SANDBOX (cutbox-door.mjs). By AI agents, Wed Nov 11 2026. No macro, syntax, notation, axiom, sorry.
-/
import Derived.Test.YtmbgonhonckfhaaDoorRows
import GoSem.ClaimSeven
namespace Go.Proofs.YtmbgonhonckfhaaDoor
namespace Rows

/-- THE TIED CARD OF 'ballcocklaw06.TreeOrder'. -/
def treeOrderCard : Claim7 := { stood := { row := treeOrderRow, standIns := [], harness := (true, "f40f8d0bf78006d624f0e1663e07f744decb783f550ec322a9a8519c62d07af5"), looks := false }, kinds := [], alts := [], laidByText := true, laidKinds := [.data], laidTests := true, laidLooks := .later }
def TreeOrderCardSaid : Prop := Claim7.holds Tryd.pinned (.plain (OpenSpec.ofChange treeOrderSpec)) treeOrderCard

/-- THE TIED CARD OF 'ballcocklaw06.TreeChains'. -/
def treeChainsCard : Claim7 := { stood := { row := treeChainsRow, standIns := [], harness := (true, "f40f8d0bf78006d624f0e1663e07f744decb783f550ec322a9a8519c62d07af5"), looks := false }, kinds := [], alts := [], laidByText := true, laidKinds := [.data], laidTests := true, laidLooks := .later }
def TreeChainsCardSaid : Prop := Claim7.holds Tryd.pinned (.plain (OpenSpec.ofChange treeChainsSpec)) treeChainsCard

/-- THE TIED CARD OF 'ballcocklaw06.TreeTurns'. -/
def treeTurnsCard : Claim7 := { stood := { row := treeTurnsRow, standIns := [], harness := (true, "f40f8d0bf78006d624f0e1663e07f744decb783f550ec322a9a8519c62d07af5"), looks := false }, kinds := [], alts := [], laidByText := true, laidKinds := [.data], laidTests := true, laidLooks := .later }
def TreeTurnsCardSaid : Prop := Claim7.holds Tryd.pinned (.plain (OpenSpec.ofChange treeTurnsSpec)) treeTurnsCard

/-- THE SECOND FORM's CARD OF 'ballcocklaw06.TreeOrder'. -/
def treeOrderUptoCard : Claim7 := { stood := { row := treeOrderUptoRow, standIns := [], harness := (true, "f40f8d0bf78006d624f0e1663e07f744decb783f550ec322a9a8519c62d07af5"), looks := false }, kinds := [], alts := [], laidByText := true, laidKinds := [.data], laidTests := true, laidLooks := .later }
def TreeOrderUptoCardSaid : Prop := Claim7.holds Tryd.pinned (.plain (OpenSpec.upto treeOrderSpec)) treeOrderUptoCard

/-- THE SECOND FORM's CARD OF 'ballcocklaw06.TreeChains'. -/
def treeChainsUptoCard : Claim7 := { stood := { row := treeChainsUptoRow, standIns := [], harness := (true, "f40f8d0bf78006d624f0e1663e07f744decb783f550ec322a9a8519c62d07af5"), looks := false }, kinds := [], alts := [], laidByText := true, laidKinds := [.data], laidTests := true, laidLooks := .later }
def TreeChainsUptoCardSaid : Prop := Claim7.holds Tryd.pinned (.plain (OpenSpec.upto treeChainsSpec)) treeChainsUptoCard

/-- THE SECOND FORM's CARD OF 'ballcocklaw06.TreeTurns'. -/
def treeTurnsUptoCard : Claim7 := { stood := { row := treeTurnsUptoRow, standIns := [], harness := (true, "f40f8d0bf78006d624f0e1663e07f744decb783f550ec322a9a8519c62d07af5"), looks := false }, kinds := [], alts := [], laidByText := true, laidKinds := [.data], laidTests := true, laidLooks := .later }
def TreeTurnsUptoCardSaid : Prop := Claim7.holds Tryd.pinned (.plain (OpenSpec.upto treeTurnsSpec)) treeTurnsUptoCard
end Rows
end Go.Proofs.YtmbgonhonckfhaaDoor
