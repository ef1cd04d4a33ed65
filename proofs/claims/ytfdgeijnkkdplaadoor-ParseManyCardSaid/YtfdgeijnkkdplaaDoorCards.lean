/-
  DERIVED. GIVEN WITH THE SEED: THE CARDS: each row of YtfdgeijnkkdplaaDoorRows.lean that lists a variable, with what it lists TIED to the program's text (the seventh form; the later family's looks); each row that meets fmt, with fmt's text TOLD by the authors' own Lean function (tested against real Go, not proved from fmt's source: count such statements apart). THE CARD IS WHAT COUNTS. Prove the row's statement (the work); the ties are given (YtfdgeijnkkdplaaDoorTie.lean); close each card by the builder's one call (the guide's Derived/Test/ToyasCard.lean, 'card_holds'). Laid BY PROGRAM, IN A SANDBOX (cutbox-door.mjs). By AI agents, Wed Nov 11 2026. No macro, syntax, notation, axiom, sorry.
-/
import Derived.Test.YtfdgeijnkkdplaaDoorRows
import GoSem.ClaimSeven
namespace Go.Proofs.YtfdgeijnkkdplaaDoor
namespace Rows

/-- THE TIED CARD OF 'ballcocklaw07.ParseMany'. -/
def parseManyCard : Claim7 := { stood := { row := parseManyRow, standIns := [], harness := (true, "f2621212440e934d3a76630f4f1cc043ce968042f68d2392c28d8308030465d0"), looks := true }, kinds := [], alts := [], laidByText := true, laidKinds := [.data, .data, .data, .sentinel, .sentinel, .data, .data, .data, .data, .data], laidTests := true, laidLooks := .later }
def ParseManyCardSaid : Prop := Claim7.holds Tryd.pinned (.plain (OpenSpec.ofChange parseManySpec)) parseManyCard

/-- THE TIED CARD OF 'ballcocklaw07.ParseSpans'. -/
def parseSpansCard : Claim7 := { stood := { row := parseSpansRow, standIns := [], harness := (true, "f2621212440e934d3a76630f4f1cc043ce968042f68d2392c28d8308030465d0"), looks := true }, kinds := [], alts := [], laidByText := true, laidKinds := [.data, .data, .data, .sentinel, .sentinel, .data, .data, .data, .data, .data], laidTests := true, laidLooks := .later }
def ParseSpansCardSaid : Prop := Claim7.holds Tryd.pinned (.plain (OpenSpec.ofChange parseSpansSpec)) parseSpansCard

/-- THE SECOND FORM's CARD OF 'ballcocklaw07.ParseMany'. -/
def parseManyUptoCard : Claim7 := { stood := { row := parseManyUptoRow, standIns := [], harness := (true, "f2621212440e934d3a76630f4f1cc043ce968042f68d2392c28d8308030465d0"), looks := true }, kinds := [], alts := [], laidByText := true, laidKinds := [.data, .data, .data, .sentinel, .sentinel, .data, .data, .data, .data, .data], laidTests := true, laidLooks := .later }
def ParseManyUptoCardSaid : Prop := Claim7.holds Tryd.pinned (.plain (OpenSpec.upto parseManySpec)) parseManyUptoCard

/-- THE SECOND FORM's CARD OF 'ballcocklaw07.ParseSpans'. -/
def parseSpansUptoCard : Claim7 := { stood := { row := parseSpansUptoRow, standIns := [], harness := (true, "f2621212440e934d3a76630f4f1cc043ce968042f68d2392c28d8308030465d0"), looks := true }, kinds := [], alts := [], laidByText := true, laidKinds := [.data, .data, .data, .sentinel, .sentinel, .data, .data, .data, .data, .data], laidTests := true, laidLooks := .later }
def ParseSpansUptoCardSaid : Prop := Claim7.holds Tryd.pinned (.plain (OpenSpec.upto parseSpansSpec)) parseSpansUptoCard
end Rows
end Go.Proofs.YtfdgeijnkkdplaaDoor
