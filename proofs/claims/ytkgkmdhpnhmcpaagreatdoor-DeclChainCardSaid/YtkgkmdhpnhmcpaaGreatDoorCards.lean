/-
  DERIVED. GIVEN WITH THE SEED: THE CARDS: each row of YtkgkmdhpnhmcpaaGreatDoorRows.lean that lists a variable, with what it lists TIED to the program's text (the seventh form; the later family's looks); each row that meets fmt, with fmt's text TOLD by the authors' own Lean function (tested against real Go, not proved from fmt's source: count such statements apart). THE CARD IS WHAT COUNTS. Prove the row's statement (the work); the ties are given (YtkgkmdhpnhmcpaaGreatDoorTie.lean); close each card by the builder's one call (the guide's Derived/Test/ToyasCard.lean, 'card_holds'). Laid BY PROGRAM, IN A SANDBOX (cutbox-door.mjs). By AI agents, Wed Nov 11 2026. No macro, syntax, notation, axiom, sorry.
-/
import Derived.Test.YtkgkmdhpnhmcpaaGreatDoorRows
import GoSem.ClaimSeven
namespace Go.Proofs.YtkgkmdhpnhmcpaaGreatDoor
namespace Rows

/-- THE TIED CARD OF 'ballcocklaw11.DeclChain'. -/
def declChainCard : Claim7 := { stood := { row := declChainRow, standIns := [], harness := (true, "390e068a53f9e2351d37a6c7f1c02d313f7a53a0af3c85eb61b56ae9c31326b7"), looks := false }, kinds := [], alts := [], laidByText := true, laidKinds := [.data], laidTests := true, laidLooks := .later }
def DeclChainCardSaid : Prop := Claim7.holds Tryz.pinned (.plain (OpenSpec.ofChange declChainSpec)) declChainCard

/-- THE TIED CARD OF 'ballcocklaw11.DeclFinds'. -/
def declFindsCard : Claim7 := { stood := { row := declFindsRow, standIns := [], harness := (true, "390e068a53f9e2351d37a6c7f1c02d313f7a53a0af3c85eb61b56ae9c31326b7"), looks := false }, kinds := [], alts := [], laidByText := true, laidKinds := [.data], laidTests := true, laidLooks := .later }
def DeclFindsCardSaid : Prop := Claim7.holds Tryz.pinned (.plain (OpenSpec.ofChange declFindsSpec)) declFindsCard

/-- THE SECOND FORM's CARD OF 'ballcocklaw11.DeclChain'. -/
def declChainUptoCard : Claim7 := { stood := { row := declChainUptoRow, standIns := [], harness := (true, "390e068a53f9e2351d37a6c7f1c02d313f7a53a0af3c85eb61b56ae9c31326b7"), looks := false }, kinds := [], alts := [], laidByText := true, laidKinds := [.data], laidTests := true, laidLooks := .later }
def DeclChainUptoCardSaid : Prop := Claim7.holds Tryz.pinned (.plain (OpenSpec.upto declChainSpec)) declChainUptoCard

/-- THE SECOND FORM's CARD OF 'ballcocklaw11.DeclFinds'. -/
def declFindsUptoCard : Claim7 := { stood := { row := declFindsUptoRow, standIns := [], harness := (true, "390e068a53f9e2351d37a6c7f1c02d313f7a53a0af3c85eb61b56ae9c31326b7"), looks := false }, kinds := [], alts := [], laidByText := true, laidKinds := [.data], laidTests := true, laidLooks := .later }
def DeclFindsUptoCardSaid : Prop := Claim7.holds Tryz.pinned (.plain (OpenSpec.upto declFindsSpec)) declFindsUptoCard
end Rows
end Go.Proofs.YtkgkmdhpnhmcpaaGreatDoor
