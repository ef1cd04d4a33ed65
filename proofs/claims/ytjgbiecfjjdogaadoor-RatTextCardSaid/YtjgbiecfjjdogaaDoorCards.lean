/-
  DERIVED. GIVEN WITH THE SEED: THE CARDS: each row of YtjgbiecfjjdogaaDoorRows.lean that lists a variable, with what it lists TIED to the program's text (the seventh form; the later family's looks); each row that meets fmt, with fmt's text TOLD by the authors' own Lean function (tested against real Go, not proved from fmt's source: count such statements apart). THE CARD IS WHAT COUNTS. Prove the row's statement (the work); the ties are given (YtjgbiecfjjdogaaDoorTie.lean); close each card by the builder's one call (the guide's Derived/Test/ToyasCard.lean, 'card_holds'). Laid BY PROGRAM, IN A SANDBOX (cutbox-door.mjs). By AI agents, Wed Nov 11 2026. No macro, syntax, notation, axiom, sorry.
-/
import Derived.Test.YtjgbiecfjjdogaaDoorRows
import GoSem.ClaimSeven
namespace Go.Proofs.YtjgbiecfjjdogaaDoor
namespace Rows

/-- THE TIED CARD OF 'ballcocklaw01.RatNew'. -/
def ratNewCard : Claim7 := { stood := { row := ratNewRow, standIns := [], harness := (true, "d4ede7400e979ac2ca30f1e5ffeaed0a06cdd2fbe7fb4bad2da663eda8204032"), looks := false }, kinds := [], alts := [], laidByText := true, laidKinds := [.data, .data, .data], laidTests := true, laidLooks := .later }
def RatNewCardSaid : Prop := Claim7.holds Tryd.pinned (.plain (OpenSpec.ofChange ratNewSpec)) ratNewCard

/-- THE TIED CARD OF 'ballcocklaw01.RatText'. -/
def ratTextCard : Claim7 := { stood := { row := ratTextRow, standIns := [], harness := (true, "d4ede7400e979ac2ca30f1e5ffeaed0a06cdd2fbe7fb4bad2da663eda8204032"), looks := false }, kinds := [], alts := [], laidByText := true, laidKinds := [.data, .data, .data], laidTests := true, laidLooks := .later }
def RatTextCardSaid : Prop := Claim7.holds Tryd.pinned (.plain (OpenSpec.ofChange ratTextSpec)) ratTextCard

/-- THE SECOND FORM's CARD OF 'ballcocklaw01.RatNew'. -/
def ratNewUptoCard : Claim7 := { stood := { row := ratNewUptoRow, standIns := [], harness := (true, "d4ede7400e979ac2ca30f1e5ffeaed0a06cdd2fbe7fb4bad2da663eda8204032"), looks := false }, kinds := [], alts := [], laidByText := true, laidKinds := [.data, .data, .data], laidTests := true, laidLooks := .later }
def RatNewUptoCardSaid : Prop := Claim7.holds Tryd.pinned (.plain (OpenSpec.upto ratNewSpec)) ratNewUptoCard

/-- THE SECOND FORM's CARD OF 'ballcocklaw01.RatText'. -/
def ratTextUptoCard : Claim7 := { stood := { row := ratTextUptoRow, standIns := [], harness := (true, "d4ede7400e979ac2ca30f1e5ffeaed0a06cdd2fbe7fb4bad2da663eda8204032"), looks := false }, kinds := [], alts := [], laidByText := true, laidKinds := [.data, .data, .data], laidTests := true, laidLooks := .later }
def RatTextUptoCardSaid : Prop := Claim7.holds Tryd.pinned (.plain (OpenSpec.upto ratTextSpec)) ratTextUptoCard
end Rows
end Go.Proofs.YtjgbiecfjjdogaaDoor
