/-
  DERIVED. GIVEN WITH THE SEED: THE CARDS: each row of YthlogaenbnhobaaDoorRows.lean that lists a variable, with what it lists TIED to the program's text (the seventh form; the later family's looks); each row that meets fmt, with fmt's text TOLD by the authors' own Lean function (tested against real Go, not proved from fmt's source: count such statements apart). THE CARD IS WHAT COUNTS. Prove the row's statement (the work); the ties are given (YthlogaenbnhobaaDoorTie.lean); close each card by the builder's one call (the guide's Derived/Test/ToyasCard.lean, 'card_holds'). Laid BY PROGRAM, IN A SANDBOX (cutbox-door.mjs). By AI agents, Wed Nov 11 2026. No macro, syntax, notation, axiom, sorry.
-/
import Derived.Test.YthlogaenbnhobaaDoorRows
import GoSem.ClaimSeven
namespace Go.Proofs.YthlogaenbnhobaaDoor
namespace Rows

/-- THE TIED CARD OF 'ballcocklaw15.PermKeeps'. -/
def permKeepsCard : Claim7 := { stood := { row := permKeepsRow, standIns := [], harness := (true, "b0f216ce0612eced8f938d1db17eff9cbb01275459f6b240561757059e5b495c"), looks := false }, kinds := [], alts := [], laidByText := true, laidKinds := [.data], laidTests := true, laidLooks := .later }
def PermKeepsCardSaid : Prop := Claim7.holds Tryd.pinned (.plain (OpenSpec.ofChange permKeepsSpec)) permKeepsCard

/-- THE TIED CARD OF 'ballcocklaw15.PermHalves'. -/
def permHalvesCard : Claim7 := { stood := { row := permHalvesRow, standIns := [], harness := (true, "b0f216ce0612eced8f938d1db17eff9cbb01275459f6b240561757059e5b495c"), looks := false }, kinds := [], alts := [], laidByText := true, laidKinds := [.data], laidTests := true, laidLooks := .later }
def PermHalvesCardSaid : Prop := Claim7.holds Tryd.pinned (.plain (OpenSpec.ofChange permHalvesSpec)) permHalvesCard

/-- THE SECOND FORM's CARD OF 'ballcocklaw15.PermKeeps'. -/
def permKeepsUptoCard : Claim7 := { stood := { row := permKeepsUptoRow, standIns := [], harness := (true, "b0f216ce0612eced8f938d1db17eff9cbb01275459f6b240561757059e5b495c"), looks := false }, kinds := [], alts := [], laidByText := true, laidKinds := [.data], laidTests := true, laidLooks := .later }
def PermKeepsUptoCardSaid : Prop := Claim7.holds Tryd.pinned (.plain (OpenSpec.upto permKeepsSpec)) permKeepsUptoCard

/-- THE SECOND FORM's CARD OF 'ballcocklaw15.PermHalves'. -/
def permHalvesUptoCard : Claim7 := { stood := { row := permHalvesUptoRow, standIns := [], harness := (true, "b0f216ce0612eced8f938d1db17eff9cbb01275459f6b240561757059e5b495c"), looks := false }, kinds := [], alts := [], laidByText := true, laidKinds := [.data], laidTests := true, laidLooks := .later }
def PermHalvesUptoCardSaid : Prop := Claim7.holds Tryd.pinned (.plain (OpenSpec.upto permHalvesSpec)) permHalvesUptoCard
end Rows
end Go.Proofs.YthlogaenbnhobaaDoor
