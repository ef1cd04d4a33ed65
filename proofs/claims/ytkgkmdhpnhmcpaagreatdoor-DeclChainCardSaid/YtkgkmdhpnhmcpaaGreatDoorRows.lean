/-
  NARROWER THAN 'FOR EVERY INPUT', by the rows' own cells (each row's printed sentence says how): DeclChain: laid · DeclFinds: laid.
  DERIVED. THE GIVEN ROWS OF THIS SEAT. 2 by the template 'for every input the law returns true; each argument reads behind the call as it read before'; 0 by the template 'total and deterministic' (their statements: YtkgkmdhpnhmcpaaGreatDoorTotals.lean).
  GIVEN WITH THE SEED: the statements are not yours to turn. If you find one false, say at which input.
  Laid BY PROGRAM, IN A SANDBOX (cutbox-rows.mjs): the forced cells as the released guide's own fill.sh prints them over the translation 0597517e87864d0a… (all of the seat's roots in one cut). By AI agents, Wed Nov 11 2026. No macro, syntax, notation, axiom, sorry.
-/
import Derived.Test.YtkgkmdhpnhmcpaaGreatDoorChecked
import GoSem.Claim
import GoSem.ClaimJoined
import GoSem.ClaimMapViews
import Derived.JoinedTies
import Derived.KernelRfl
namespace Go.Proofs.YtkgkmdhpnhmcpaaGreatDoor
/- THE CELL 'sum', in the pinned program and in every row, IS THE sha256 OF THE DUMP (.gsa) THAT YtkgkmdhpnhmcpaaGreatDoorProg.lean LOADS. Nothing in Lean hashes anything: it is a label: what it is worth is what the hold of that sum in a sandbox is worth. -/
noncomputable def Tryz.pinned : Pinned := { name := "ytkgkmdhpnhmcpaagreatdoor", sum := "0597517e87864d0a1839da7abcda65a11fa01546364053477733a2be0bb27aaa", checked := Tryz.checked }
namespace Rows
def none {H : Type} : Left H := { results := [], args := [] }

/- WHAT THE LISTED PACKAGE-LEVEL VARIABLES READ AS WHEN THE CALL BEGINS. Each datum BY PROGRAM (the guide's laid-datum.mjs) off the statement by which the dump's own 'gosem.cut.vars' lays the variable. In a bare row this is a premise. The card (YtkgkmdhpnhmcpaaGreatDoorCards.lean) ties it to the program's text. -/
def laid_ballcock_lex_keywords {H : Type} : DataW H := .agg [.lit (.string [112, 114, 111, 116, 111]), .lit (.string [115, 116, 97, 116, 101]), .lit (.string [102, 105, 110, 97, 108]), .lit (.string [111, 112]), .lit (.string [102, 110]), .lit (.string [108, 101, 97, 115, 116]), .lit (.string [97, 116]), .lit (.string [116, 111]), .lit (.string [105, 110]), .lit (.string [108, 101, 116]), .lit (.string [111, 112, 101, 110]), .lit (.string [101, 108, 115, 101]), .lit (.string [100, 111]), .lit (.string [115, 112, 108, 105, 116]), .lit (.string [99, 97, 108, 108]), .lit (.string [105, 102]), .lit (.string [119, 104, 105, 108, 101]), .lit (.string [114, 101, 116, 117, 114, 110]), .lit (.string [101, 120, 105, 116]), .lit (.string [117, 110, 105, 113, 117, 101]), .lit (.string [102, 117, 108, 108]), .lit (.string [115, 104, 97, 114, 101]), .lit (.string [105, 109, 109]), .lit (.string [112, 117, 114, 101])]

/-- 'ballcocklaw11.DeclChain': WHATEVER THE INPUT: true; the input reads as it did. -/
def declChainSpec : ChangeSpec := { name := "declChain", fn := fun _ => fun
  | [d1, d2] => { results := [.lit (.bool true)], args := [d1, d2] }
  | _ => none }
def declChainRow : OpenClaim := { program := "ytkgkmdhpnhmcpaagreatdoor", sum := "0597517e87864d0a1839da7abcda65a11fa01546364053477733a2be0bb27aaa", func := "ballcock/ballcocklaw11.DeclChain", spec := "declChain", unfollowed := true, recurses := true, named := ["ballcock/lex.keywords"], plainKeys := false, apart := false, laid := [("ballcock/lex.keywords", laid_ballcock_lex_keywords)] }
def DeclChainSaid : Prop := declChainRow.holds Tryz.pinned (OpenSpec.ofChange declChainSpec)

/-- ITS FALSE NEIGHBOUR: 'it returns false'. Refute it at one input. -/
def declChainWrong : ChangeSpec := { name := "declChain", fn := fun _ => fun
  | [d1, d2] => { results := [.lit (.bool false)], args := [d1, d2] }
  | _ => none }
def DeclChainWrongFalsely : Prop := declChainRow.holds Tryz.pinned (OpenSpec.ofChange declChainWrong)

/-- 'ballcocklaw11.DeclFinds': WHATEVER THE INPUT: true; the input reads as it did. -/
def declFindsSpec : ChangeSpec := { name := "declFinds", fn := fun _ => fun
  | [d1, d2] => { results := [.lit (.bool true)], args := [d1, d2] }
  | _ => none }
def declFindsRow : OpenClaim := { program := "ytkgkmdhpnhmcpaagreatdoor", sum := "0597517e87864d0a1839da7abcda65a11fa01546364053477733a2be0bb27aaa", func := "ballcock/ballcocklaw11.DeclFinds", spec := "declFinds", unfollowed := true, recurses := true, named := ["ballcock/lex.keywords"], plainKeys := false, apart := false, laid := [("ballcock/lex.keywords", laid_ballcock_lex_keywords)] }
def DeclFindsSaid : Prop := declFindsRow.holds Tryz.pinned (OpenSpec.ofChange declFindsSpec)

/-- ITS FALSE NEIGHBOUR: 'it returns false'. Refute it at one input. -/
def declFindsWrong : ChangeSpec := { name := "declFinds", fn := fun _ => fun
  | [d1, d2] => { results := [.lit (.bool false)], args := [d1, d2] }
  | _ => none }
def DeclFindsWrongFalsely : Prop := declFindsRow.holds Tryz.pinned (OpenSpec.ofChange declFindsWrong)

/- THE SECOND FORM. 'bulk': how many values and letters a reading holds, each counted each time it is reached (what is shared counts as often as it is met; a slice's spare places count too). A statement '..UptoSaid' is the law's where the arguments, and the package variables that the reading takes, are together of bulk at most 1048576: NARROWER than '..Said'. Prove '..Said' where nothing that the law and all that it calls make is longer than what came in: it says more and counts as full. Else prove '..UptoSaid'. A law counts once. -/
mutual
def uptoBulk {H : Type} : DataW H → Nat
  | .lit (.string bytes) => bytes.length + 1
  | .lit _ => 1
  | .nil => 1
  | .ptr d => uptoBulk d + 1
  | .slice elems spare => uptoBulkAll elems + uptoBulkAll spare + 1
  | .agg parts => uptoBulkAll parts + 1
  | .iface _ d => uptoBulk d + 1
  | .map entries => uptoBulkEntries entries + 1
  | .held _ => 1
def uptoBulkAll {H : Type} : List (DataW H) → Nat
  | [] => 0
  | d :: r => uptoBulk d + uptoBulkAll r
def uptoBulkEntries {H : Type} : List (Lit × DataW H) → Nat
  | [] => 0
  | x :: r => uptoBulkEntry x + uptoBulkEntries r
def uptoBulkEntry {H : Type} : Lit × DataW H → Nat
  | (.string bytes, d) => bytes.length + uptoBulk d + 1
  | (_, d) => uptoBulk d + 1
 end
def uptoSmall : (H : Type) → List (DataW H) → Bool := fun _ ds => decide (uptoBulkAll ds ≤ 1048576)
def OpenSpec.upto (s : _root_.Go.ChangeSpec) : _root_.Go.OpenSpec := { _root_.Go.OpenSpec.ofChange s with cond := some uptoSmall }

/-- 'ballcocklaw11.DeclChain', WHERE WHAT IT READS IS OF BULK AT MOST 1048576: true; the input reads as it did. -/
def declChainUptoRow : OpenClaim := { program := "ytkgkmdhpnhmcpaagreatdoor", sum := "0597517e87864d0a1839da7abcda65a11fa01546364053477733a2be0bb27aaa", func := "ballcock/ballcocklaw11.DeclChain", spec := "declChain", unfollowed := true, recurses := true, named := ["ballcock/lex.keywords"], plainKeys := false, apart := false, laid := [("ballcock/lex.keywords", laid_ballcock_lex_keywords)], narrowed := true }
def DeclChainUptoSaid : Prop := declChainUptoRow.holds Tryz.pinned (OpenSpec.upto declChainSpec)

/-- 'ballcocklaw11.DeclFinds', WHERE WHAT IT READS IS OF BULK AT MOST 1048576: true; the input reads as it did. -/
def declFindsUptoRow : OpenClaim := { program := "ytkgkmdhpnhmcpaagreatdoor", sum := "0597517e87864d0a1839da7abcda65a11fa01546364053477733a2be0bb27aaa", func := "ballcock/ballcocklaw11.DeclFinds", spec := "declFinds", unfollowed := true, recurses := true, named := ["ballcock/lex.keywords"], plainKeys := false, apart := false, laid := [("ballcock/lex.keywords", laid_ballcock_lex_keywords)], narrowed := true }
def DeclFindsUptoSaid : Prop := declFindsUptoRow.holds Tryz.pinned (OpenSpec.upto declFindsSpec)

end Rows
end Go.Proofs.YtkgkmdhpnhmcpaaGreatDoor
