/-
  NARROWER THAN 'FOR EVERY INPUT', by the rows' own cells (each row's printed sentence says how): PermKeeps: laid · PermHalves: laid.
  DERIVED. THE GIVEN ROWS OF THIS SEAT. 2 by the template 'for every input the law returns true; each argument reads behind the call as it read before'; 0 by the template 'total and deterministic' (their statements: YthlogaenbnhobaaDoorTotals.lean).
  GIVEN WITH THE SEED: the statements are not yours to turn. If you find one false, say at which input.
  Laid BY PROGRAM, IN A SANDBOX (cutbox-rows.mjs): the forced cells as the released guide's own fill.sh prints them over the translation eb0b3ab05ef82005… (all of the seat's roots in one cut). By AI agents, Wed Nov 11 2026. No macro, syntax, notation, axiom, sorry.
-/
import Derived.Test.YthlogaenbnhobaaDoorChecked
import GoSem.Claim
import GoSem.ClaimJoined
import GoSem.ClaimMapViews
import Derived.JoinedTies
import Derived.KernelRfl
namespace Go.Proofs.YthlogaenbnhobaaDoor
/- THE CELL 'sum', in the pinned program and in every row, IS THE sha256 OF THE DUMP (.gsa) THAT YthlogaenbnhobaaDoorProg.lean LOADS. Nothing in Lean hashes anything: it is a label: what it is worth is what the hold of that sum in a sandbox is worth. -/
noncomputable def Tryd.pinned : Pinned := { name := "ythlogaenbnhobaadoor", sum := "eb0b3ab05ef820052106c970be25e6ca10630fb8b7b74d9c7ad78778913114ac", checked := Tryd.checked }
namespace Rows
def none {H : Type} : Left H := { results := [], args := [] }

/- WHAT THE LISTED PACKAGE-LEVEL VARIABLES READ AS WHEN THE CALL BEGINS. Each datum BY PROGRAM (the guide's laid-datum.mjs) off the statement by which the dump's own 'gosem.cut.vars' lays the variable. In a bare row this is a premise. The card (YthlogaenbnhobaaDoorCards.lean) ties it to the program's text. -/
def laid_ballcock_perm_rests {H : Type} : DataW H := .agg [.agg [.lit (.int .i64 (-1)), .lit (.int .i64 4), .lit (.int .i64 2), .lit (.int .i64 3), .lit (.int .i64 1)], .agg [.lit (.int .i64 (-1)), .lit (.int .i64 4), .lit (.int .i64 (-1)), .lit (.int .i64 (-1)), .lit (.int .i64 1)], .agg [.lit (.int .i64 (-1)), .lit (.int .i64 (-1)), .lit (.int .i64 2), .lit (.int .i64 (-1)), .lit (.int .i64 2)], .agg [.lit (.int .i64 (-1)), .lit (.int .i64 (-1)), .lit (.int .i64 (-1)), .lit (.int .i64 3), .lit (.int .i64 (-1))], .agg [.lit (.int .i64 (-1)), .lit (.int .i64 (-1)), .lit (.int .i64 (-1)), .lit (.int .i64 (-1)), .lit (.int .i64 4)]]

/-- 'ballcocklaw15.PermKeeps': WHATEVER THE INPUT: true; the input reads as it did. -/
def permKeepsSpec : ChangeSpec := { name := "permKeeps", fn := fun _ => fun
  | [d1, d2] => { results := [.lit (.bool true)], args := [d1, d2] }
  | _ => none }
def permKeepsRow : OpenClaim := { program := "ythlogaenbnhobaadoor", sum := "eb0b3ab05ef820052106c970be25e6ca10630fb8b7b74d9c7ad78778913114ac", func := "ballcock/ballcocklaw15.PermKeeps", spec := "permKeeps", inPlace := ["math/bits.Add64", "math/bits.Sub64"], unfollowed := true, recurses := true, named := ["ballcock/perm.rests", "math/bits.divideError", "math/bits.overflowError"], apart := false, laid := [("ballcock/perm.rests", laid_ballcock_perm_rests)] }
def PermKeepsSaid : Prop := permKeepsRow.holds Tryd.pinned (OpenSpec.ofChange permKeepsSpec)

/-- ITS FALSE NEIGHBOUR: 'it returns false'. Refute it at one input. -/
def permKeepsWrong : ChangeSpec := { name := "permKeeps", fn := fun _ => fun
  | [d1, d2] => { results := [.lit (.bool false)], args := [d1, d2] }
  | _ => none }
def PermKeepsWrongFalsely : Prop := permKeepsRow.holds Tryd.pinned (OpenSpec.ofChange permKeepsWrong)

/-- 'ballcocklaw15.PermHalves': WHATEVER THE INPUT: true; the input reads as it did. -/
def permHalvesSpec : ChangeSpec := { name := "permHalves", fn := fun _ => fun
  | [d1, d2, d3] => { results := [.lit (.bool true)], args := [d1, d2, d3] }
  | _ => none }
def permHalvesRow : OpenClaim := { program := "ythlogaenbnhobaadoor", sum := "eb0b3ab05ef820052106c970be25e6ca10630fb8b7b74d9c7ad78778913114ac", func := "ballcock/ballcocklaw15.PermHalves", spec := "permHalves", inPlace := ["math/bits.Add64", "math/bits.Sub64"], unfollowed := true, recurses := true, named := ["ballcock/perm.rests", "math/bits.divideError", "math/bits.overflowError"], apart := false, laid := [("ballcock/perm.rests", laid_ballcock_perm_rests)] }
def PermHalvesSaid : Prop := permHalvesRow.holds Tryd.pinned (OpenSpec.ofChange permHalvesSpec)

/-- ITS FALSE NEIGHBOUR: 'it returns false'. Refute it at one input. -/
def permHalvesWrong : ChangeSpec := { name := "permHalves", fn := fun _ => fun
  | [d1, d2, d3] => { results := [.lit (.bool false)], args := [d1, d2, d3] }
  | _ => none }
def PermHalvesWrongFalsely : Prop := permHalvesRow.holds Tryd.pinned (OpenSpec.ofChange permHalvesWrong)

/- THE SECOND FORM. 'bulk': how many values and letters a reading holds, each counted each time it is reached (what is shared counts as often as it is met; a slice's spare places count too). A statement '..UptoSaid' is the law's where the arguments, and the package variables that the reading takes, are together of bulk at most 1048576: NARROWER than '..Said'. Prove '..Said' where nothing that the law and all that it calls make is longer than what came in: it says more and counts as full. Else prove '..UptoSaid'. A law counts once. -/
mutual
def uptoBulk {H : Type} : DataW H → Nat
  | .lit (.string bytes) => bytes.length + 1
  | .lit _ => 1
  | .nil => 1
  | .ptr d => uptoBulk d + 1
  | .slice elems spare => uptoBulkAll elems + uptoBulkAll spare + 1
  | .agg parts => uptoBulkAll parts + 1
  | .iface _ d => uptoBulk d + 1
  | .map entries => uptoBulkEntries entries + 1
  | .held _ => 1
def uptoBulkAll {H : Type} : List (DataW H) → Nat
  | [] => 0
  | d :: r => uptoBulk d + uptoBulkAll r
def uptoBulkEntries {H : Type} : List (Lit × DataW H) → Nat
  | [] => 0
  | x :: r => uptoBulkEntry x + uptoBulkEntries r
def uptoBulkEntry {H : Type} : Lit × DataW H → Nat
  | (.string bytes, d) => bytes.length + uptoBulk d + 1
  | (_, d) => uptoBulk d + 1
 end
def uptoSmall : (H : Type) → List (DataW H) → Bool := fun _ ds => decide (uptoBulkAll ds ≤ 1048576)
def OpenSpec.upto (s : _root_.Go.ChangeSpec) : _root_.Go.OpenSpec := { _root_.Go.OpenSpec.ofChange s with cond := some uptoSmall }

/-- 'ballcocklaw15.PermKeeps', WHERE WHAT IT READS IS OF BULK AT MOST 1048576: true; the input reads as it did. -/
def permKeepsUptoRow : OpenClaim := { program := "ythlogaenbnhobaadoor", sum := "eb0b3ab05ef820052106c970be25e6ca10630fb8b7b74d9c7ad78778913114ac", func := "ballcock/ballcocklaw15.PermKeeps", spec := "permKeeps", inPlace := ["math/bits.Add64", "math/bits.Sub64"], unfollowed := true, recurses := true, named := ["ballcock/perm.rests", "math/bits.divideError", "math/bits.overflowError"], apart := false, laid := [("ballcock/perm.rests", laid_ballcock_perm_rests)], narrowed := true }
def PermKeepsUptoSaid : Prop := permKeepsUptoRow.holds Tryd.pinned (OpenSpec.upto permKeepsSpec)

/-- 'ballcocklaw15.PermHalves', WHERE WHAT IT READS IS OF BULK AT MOST 1048576: true; the input reads as it did. -/
def permHalvesUptoRow : OpenClaim := { program := "ythlogaenbnhobaadoor", sum := "eb0b3ab05ef820052106c970be25e6ca10630fb8b7b74d9c7ad78778913114ac", func := "ballcock/ballcocklaw15.PermHalves", spec := "permHalves", inPlace := ["math/bits.Add64", "math/bits.Sub64"], unfollowed := true, recurses := true, named := ["ballcock/perm.rests", "math/bits.divideError", "math/bits.overflowError"], apart := false, laid := [("ballcock/perm.rests", laid_ballcock_perm_rests)], narrowed := true }
def PermHalvesUptoSaid : Prop := permHalvesUptoRow.holds Tryd.pinned (OpenSpec.upto permHalvesSpec)

end Rows
end Go.Proofs.YthlogaenbnhobaaDoor
