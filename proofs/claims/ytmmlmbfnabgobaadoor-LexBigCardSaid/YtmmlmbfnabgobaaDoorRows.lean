/-
  NARROWER THAN 'FOR EVERY INPUT', by the rows' own cells (each row's printed sentence says how): LexTokens: laid · LexNames: laid · LexAgain: laid · LexBig: laid · LexPlaces: laid · LexJoined: laid · LexNumbers: laid.
  DERIVED. THE GIVEN ROWS OF THIS SEAT. 7 by the template 'for every input the law returns true; each argument reads behind the call as it read before'; 0 by the template 'total and deterministic' (their statements: YtmmlmbfnabgobaaDoorTotals.lean).
  GIVEN WITH THE SEED: the statements are not yours to turn. If you find one false, say at which input.
  Laid BY PROGRAM, IN A SANDBOX (cutbox-rows.mjs): the forced cells as the released guide's own fill.sh prints them over the translation f3c23c62d0339793… (all of the seat's roots in one cut). By AI agents, Wed Nov 11 2026. No macro, syntax, notation, axiom, sorry.
-/
import Derived.Test.YtmmlmbfnabgobaaDoorChecked
import GoSem.Claim
import GoSem.ClaimJoined
import GoSem.ClaimMapViews
import Derived.JoinedTies
import Derived.KernelRfl
namespace Go.Proofs.YtmmlmbfnabgobaaDoor
/- THE CELL 'sum', in the pinned program and in every row, IS THE sha256 OF THE DUMP (.gsa) THAT YtmmlmbfnabgobaaDoorProg.lean LOADS. Nothing in Lean hashes anything: it is a label: what it is worth is what the hold of that sum in a sandbox is worth. -/
noncomputable def Tryd.pinned : Pinned := { name := "ytmmlmbfnabgobaadoor", sum := "f3c23c62d033979367bbcd819b513f31f9fed7966f7c6dad3ca7b26b5ad1968c", checked := Tryd.checked }
namespace Rows
def none {H : Type} : Left H := { results := [], args := [] }

/- WHAT THE LISTED PACKAGE-LEVEL VARIABLES READ AS WHEN THE CALL BEGINS. Each datum BY PROGRAM (the guide's laid-datum.mjs) off the statement by which the dump's own 'gosem.cut.vars' lays the variable. In a bare row this is a premise. The card (YtmmlmbfnabgobaaDoorCards.lean) ties it to the program's text. -/
def laid_ballcock_lex_signs {H : Type} : DataW H := .agg [.lit (.string [61, 61]), .lit (.string [45, 62]), .lit (.string [123]), .lit (.string [125]), .lit (.string [40]), .lit (.string [41]), .lit (.string [59]), .lit (.string [44]), .lit (.string [46]), .lit (.string [58]), .lit (.string [61]), .lit (.string [60]), .lit (.string [43]), .lit (.string [45]), .lit (.string [42]), .lit (.string [47]), .lit (.string [124]), .lit (.string [38])]
def laid_ballcock_lex_keywords {H : Type} : DataW H := .agg [.lit (.string [112, 114, 111, 116, 111]), .lit (.string [115, 116, 97, 116, 101]), .lit (.string [102, 105, 110, 97, 108]), .lit (.string [111, 112]), .lit (.string [102, 110]), .lit (.string [108, 101, 97, 115, 116]), .lit (.string [97, 116]), .lit (.string [116, 111]), .lit (.string [105, 110]), .lit (.string [108, 101, 116]), .lit (.string [111, 112, 101, 110]), .lit (.string [101, 108, 115, 101]), .lit (.string [100, 111]), .lit (.string [115, 112, 108, 105, 116]), .lit (.string [99, 97, 108, 108]), .lit (.string [105, 102]), .lit (.string [119, 104, 105, 108, 101]), .lit (.string [114, 101, 116, 117, 114, 110]), .lit (.string [101, 120, 105, 116]), .lit (.string [117, 110, 105, 113, 117, 101]), .lit (.string [102, 117, 108, 108]), .lit (.string [115, 104, 97, 114, 101]), .lit (.string [105, 109, 109]), .lit (.string [112, 117, 114, 101])]

/-- 'ballcocklaw05.LexTokens': WHATEVER THE INPUT: true; the input reads as it did. -/
def lexTokensSpec : ChangeSpec := { name := "lexTokens", fn := fun _ => fun
  | [d] => { results := [.lit (.bool true)], args := [d] }
  | _ => none }
def lexTokensRow : OpenClaim := { program := "ytmmlmbfnabgobaadoor", sum := "f3c23c62d033979367bbcd819b513f31f9fed7966f7c6dad3ca7b26b5ad1968c", func := "ballcock/ballcocklaw05.LexTokens", spec := "lexTokens", unfollowed := true, recurses := true, named := ["ballcock/lex.signs", "ballcock/lex.keywords"], apart := false, laid := [("ballcock/lex.signs", laid_ballcock_lex_signs), ("ballcock/lex.keywords", laid_ballcock_lex_keywords)] }
def LexTokensSaid : Prop := lexTokensRow.holds Tryd.pinned (OpenSpec.ofChange lexTokensSpec)

/-- ITS FALSE NEIGHBOUR: 'it returns false'. Refute it at one input. -/
def lexTokensWrong : ChangeSpec := { name := "lexTokens", fn := fun _ => fun
  | [d] => { results := [.lit (.bool false)], args := [d] }
  | _ => none }
def LexTokensWrongFalsely : Prop := lexTokensRow.holds Tryd.pinned (OpenSpec.ofChange lexTokensWrong)

/-- 'ballcocklaw05.LexNames': WHATEVER THE INPUT: true; the input reads as it did. -/
def lexNamesSpec : ChangeSpec := { name := "lexNames", fn := fun _ => fun
  | [d] => { results := [.lit (.bool true)], args := [d] }
  | _ => none }
def lexNamesRow : OpenClaim := { program := "ytmmlmbfnabgobaadoor", sum := "f3c23c62d033979367bbcd819b513f31f9fed7966f7c6dad3ca7b26b5ad1968c", func := "ballcock/ballcocklaw05.LexNames", spec := "lexNames", unfollowed := true, recurses := true, named := ["ballcock/lex.signs", "ballcock/lex.keywords"], apart := false, laid := [("ballcock/lex.signs", laid_ballcock_lex_signs), ("ballcock/lex.keywords", laid_ballcock_lex_keywords)] }
def LexNamesSaid : Prop := lexNamesRow.holds Tryd.pinned (OpenSpec.ofChange lexNamesSpec)

/-- ITS FALSE NEIGHBOUR: 'it returns false'. Refute it at one input. -/
def lexNamesWrong : ChangeSpec := { name := "lexNames", fn := fun _ => fun
  | [d] => { results := [.lit (.bool false)], args := [d] }
  | _ => none }
def LexNamesWrongFalsely : Prop := lexNamesRow.holds Tryd.pinned (OpenSpec.ofChange lexNamesWrong)

/-- 'ballcocklaw05.LexAgain': WHATEVER THE INPUT: true; the input reads as it did. -/
def lexAgainSpec : ChangeSpec := { name := "lexAgain", fn := fun _ => fun
  | [d1, d2] => { results := [.lit (.bool true)], args := [d1, d2] }
  | _ => none }
def lexAgainRow : OpenClaim := { program := "ytmmlmbfnabgobaadoor", sum := "f3c23c62d033979367bbcd819b513f31f9fed7966f7c6dad3ca7b26b5ad1968c", func := "ballcock/ballcocklaw05.LexAgain", spec := "lexAgain", unfollowed := true, recurses := true, named := ["ballcock/lex.signs", "ballcock/lex.keywords"], apart := false, laid := [("ballcock/lex.signs", laid_ballcock_lex_signs), ("ballcock/lex.keywords", laid_ballcock_lex_keywords)] }
def LexAgainSaid : Prop := lexAgainRow.holds Tryd.pinned (OpenSpec.ofChange lexAgainSpec)

/-- ITS FALSE NEIGHBOUR: 'it returns false'. Refute it at one input. -/
def lexAgainWrong : ChangeSpec := { name := "lexAgain", fn := fun _ => fun
  | [d1, d2] => { results := [.lit (.bool false)], args := [d1, d2] }
  | _ => none }
def LexAgainWrongFalsely : Prop := lexAgainRow.holds Tryd.pinned (OpenSpec.ofChange lexAgainWrong)

/-- 'ballcocklaw05.LexBig': WHATEVER THE INPUT: true; the input reads as it did. -/
def lexBigSpec : ChangeSpec := { name := "lexBig", fn := fun _ => fun
  | [d] => { results := [.lit (.bool true)], args := [d] }
  | _ => none }
def lexBigRow : OpenClaim := { program := "ytmmlmbfnabgobaadoor", sum := "f3c23c62d033979367bbcd819b513f31f9fed7966f7c6dad3ca7b26b5ad1968c", func := "ballcock/ballcocklaw05.LexBig", spec := "lexBig", unfollowed := true, recurses := true, named := ["ballcock/lex.signs", "ballcock/lex.keywords"], apart := false, laid := [("ballcock/lex.signs", laid_ballcock_lex_signs), ("ballcock/lex.keywords", laid_ballcock_lex_keywords)] }
def LexBigSaid : Prop := lexBigRow.holds Tryd.pinned (OpenSpec.ofChange lexBigSpec)

/-- ITS FALSE NEIGHBOUR: 'it returns false'. Refute it at one input. -/
def lexBigWrong : ChangeSpec := { name := "lexBig", fn := fun _ => fun
  | [d] => { results := [.lit (.bool false)], args := [d] }
  | _ => none }
def LexBigWrongFalsely : Prop := lexBigRow.holds Tryd.pinned (OpenSpec.ofChange lexBigWrong)

/-- 'ballcocklaw05.LexPlaces': WHATEVER THE INPUT: true; the input reads as it did. -/
def lexPlacesSpec : ChangeSpec := { name := "lexPlaces", fn := fun _ => fun
  | [d] => { results := [.lit (.bool true)], args := [d] }
  | _ => none }
def lexPlacesRow : OpenClaim := { program := "ytmmlmbfnabgobaadoor", sum := "f3c23c62d033979367bbcd819b513f31f9fed7966f7c6dad3ca7b26b5ad1968c", func := "ballcock/ballcocklaw05.LexPlaces", spec := "lexPlaces", unfollowed := true, recurses := true, named := ["ballcock/lex.signs", "ballcock/lex.keywords"], apart := false, laid := [("ballcock/lex.signs", laid_ballcock_lex_signs), ("ballcock/lex.keywords", laid_ballcock_lex_keywords)] }
def LexPlacesSaid : Prop := lexPlacesRow.holds Tryd.pinned (OpenSpec.ofChange lexPlacesSpec)

/-- ITS FALSE NEIGHBOUR: 'it returns false'. Refute it at one input. -/
def lexPlacesWrong : ChangeSpec := { name := "lexPlaces", fn := fun _ => fun
  | [d] => { results := [.lit (.bool false)], args := [d] }
  | _ => none }
def LexPlacesWrongFalsely : Prop := lexPlacesRow.holds Tryd.pinned (OpenSpec.ofChange lexPlacesWrong)

/-- 'ballcocklaw05.LexJoined': WHATEVER THE INPUT: true; the input reads as it did. -/
def lexJoinedSpec : ChangeSpec := { name := "lexJoined", fn := fun _ => fun
  | [d1, d2] => { results := [.lit (.bool true)], args := [d1, d2] }
  | _ => none }
def lexJoinedRow : OpenClaim := { program := "ytmmlmbfnabgobaadoor", sum := "f3c23c62d033979367bbcd819b513f31f9fed7966f7c6dad3ca7b26b5ad1968c", func := "ballcock/ballcocklaw05.LexJoined", spec := "lexJoined", unfollowed := true, recurses := true, named := ["ballcock/lex.signs", "ballcock/lex.keywords"], apart := false, laid := [("ballcock/lex.signs", laid_ballcock_lex_signs), ("ballcock/lex.keywords", laid_ballcock_lex_keywords)] }
def LexJoinedSaid : Prop := lexJoinedRow.holds Tryd.pinned (OpenSpec.ofChange lexJoinedSpec)

/-- ITS FALSE NEIGHBOUR: 'it returns false'. Refute it at one input. -/
def lexJoinedWrong : ChangeSpec := { name := "lexJoined", fn := fun _ => fun
  | [d1, d2] => { results := [.lit (.bool false)], args := [d1, d2] }
  | _ => none }
def LexJoinedWrongFalsely : Prop := lexJoinedRow.holds Tryd.pinned (OpenSpec.ofChange lexJoinedWrong)

/-- 'ballcocklaw05.LexNumbers': WHATEVER THE INPUT: true; the input reads as it did. -/
def lexNumbersSpec : ChangeSpec := { name := "lexNumbers", fn := fun _ => fun
  | [d1, d2] => { results := [.lit (.bool true)], args := [d1, d2] }
  | _ => none }
def lexNumbersRow : OpenClaim := { program := "ytmmlmbfnabgobaadoor", sum := "f3c23c62d033979367bbcd819b513f31f9fed7966f7c6dad3ca7b26b5ad1968c", func := "ballcock/ballcocklaw05.LexNumbers", spec := "lexNumbers", unfollowed := true, recurses := true, named := ["ballcock/lex.signs", "ballcock/lex.keywords"], apart := false, laid := [("ballcock/lex.signs", laid_ballcock_lex_signs), ("ballcock/lex.keywords", laid_ballcock_lex_keywords)] }
def LexNumbersSaid : Prop := lexNumbersRow.holds Tryd.pinned (OpenSpec.ofChange lexNumbersSpec)

/-- ITS FALSE NEIGHBOUR: 'it returns false'. Refute it at one input. -/
def lexNumbersWrong : ChangeSpec := { name := "lexNumbers", fn := fun _ => fun
  | [d1, d2] => { results := [.lit (.bool false)], args := [d1, d2] }
  | _ => none }
def LexNumbersWrongFalsely : Prop := lexNumbersRow.holds Tryd.pinned (OpenSpec.ofChange lexNumbersWrong)

/- THE SECOND FORM. 'bulk': how many values and letters a reading holds, each counted each time it is reached (what is shared counts as often as it is met; a slice's spare places count too). A statement '..UptoSaid' is the law's where the arguments, and the package variables that the reading takes, are together of bulk at most 1048576: NARROWER than '..Said'. Prove '..Said' where nothing that the law and all that it calls make is longer than what came in: it says more and counts as full. Else prove '..UptoSaid'. A law counts once. -/
mutual
def uptoBulk {H : Type} : DataW H → Nat
  | .lit (.string bytes) => bytes.length + 1
  | .lit _ => 1
  | .nil => 1
  | .ptr d => uptoBulk d + 1
  | .slice elems spare => uptoBulkAll elems + uptoBulkAll spare + 1
  | .agg parts => uptoBulkAll parts + 1
  | .iface _ d => uptoBulk d + 1
  | .map entries => uptoBulkEntries entries + 1
  | .held _ => 1
def uptoBulkAll {H : Type} : List (DataW H) → Nat
  | [] => 0
  | d :: r => uptoBulk d + uptoBulkAll r
def uptoBulkEntries {H : Type} : List (Lit × DataW H) → Nat
  | [] => 0
  | x :: r => uptoBulkEntry x + uptoBulkEntries r
def uptoBulkEntry {H : Type} : Lit × DataW H → Nat
  | (.string bytes, d) => bytes.length + uptoBulk d + 1
  | (_, d) => uptoBulk d + 1
 end
def uptoSmall : (H : Type) → List (DataW H) → Bool := fun _ ds => decide (uptoBulkAll ds ≤ 1048576)
def OpenSpec.upto (s : _root_.Go.ChangeSpec) : _root_.Go.OpenSpec := { _root_.Go.OpenSpec.ofChange s with cond := some uptoSmall }

/-- 'ballcocklaw05.LexTokens', WHERE WHAT IT READS IS OF BULK AT MOST 1048576: true; the input reads as it did. -/
def lexTokensUptoRow : OpenClaim := { program := "ytmmlmbfnabgobaadoor", sum := "f3c23c62d033979367bbcd819b513f31f9fed7966f7c6dad3ca7b26b5ad1968c", func := "ballcock/ballcocklaw05.LexTokens", spec := "lexTokens", unfollowed := true, recurses := true, named := ["ballcock/lex.signs", "ballcock/lex.keywords"], apart := false, laid := [("ballcock/lex.signs", laid_ballcock_lex_signs), ("ballcock/lex.keywords", laid_ballcock_lex_keywords)], narrowed := true }
def LexTokensUptoSaid : Prop := lexTokensUptoRow.holds Tryd.pinned (OpenSpec.upto lexTokensSpec)

/-- 'ballcocklaw05.LexNames', WHERE WHAT IT READS IS OF BULK AT MOST 1048576: true; the input reads as it did. -/
def lexNamesUptoRow : OpenClaim := { program := "ytmmlmbfnabgobaadoor", sum := "f3c23c62d033979367bbcd819b513f31f9fed7966f7c6dad3ca7b26b5ad1968c", func := "ballcock/ballcocklaw05.LexNames", spec := "lexNames", unfollowed := true, recurses := true, named := ["ballcock/lex.signs", "ballcock/lex.keywords"], apart := false, laid := [("ballcock/lex.signs", laid_ballcock_lex_signs), ("ballcock/lex.keywords", laid_ballcock_lex_keywords)], narrowed := true }
def LexNamesUptoSaid : Prop := lexNamesUptoRow.holds Tryd.pinned (OpenSpec.upto lexNamesSpec)

/-- 'ballcocklaw05.LexAgain', WHERE WHAT IT READS IS OF BULK AT MOST 1048576: true; the input reads as it did. -/
def lexAgainUptoRow : OpenClaim := { program := "ytmmlmbfnabgobaadoor", sum := "f3c23c62d033979367bbcd819b513f31f9fed7966f7c6dad3ca7b26b5ad1968c", func := "ballcock/ballcocklaw05.LexAgain", spec := "lexAgain", unfollowed := true, recurses := true, named := ["ballcock/lex.signs", "ballcock/lex.keywords"], apart := false, laid := [("ballcock/lex.signs", laid_ballcock_lex_signs), ("ballcock/lex.keywords", laid_ballcock_lex_keywords)], narrowed := true }
def LexAgainUptoSaid : Prop := lexAgainUptoRow.holds Tryd.pinned (OpenSpec.upto lexAgainSpec)

/-- 'ballcocklaw05.LexBig', WHERE WHAT IT READS IS OF BULK AT MOST 1048576: true; the input reads as it did. -/
def lexBigUptoRow : OpenClaim := { program := "ytmmlmbfnabgobaadoor", sum := "f3c23c62d033979367bbcd819b513f31f9fed7966f7c6dad3ca7b26b5ad1968c", func := "ballcock/ballcocklaw05.LexBig", spec := "lexBig", unfollowed := true, recurses := true, named := ["ballcock/lex.signs", "ballcock/lex.keywords"], apart := false, laid := [("ballcock/lex.signs", laid_ballcock_lex_signs), ("ballcock/lex.keywords", laid_ballcock_lex_keywords)], narrowed := true }
def LexBigUptoSaid : Prop := lexBigUptoRow.holds Tryd.pinned (OpenSpec.upto lexBigSpec)

/-- 'ballcocklaw05.LexPlaces', WHERE WHAT IT READS IS OF BULK AT MOST 1048576: true; the input reads as it did. -/
def lexPlacesUptoRow : OpenClaim := { program := "ytmmlmbfnabgobaadoor", sum := "f3c23c62d033979367bbcd819b513f31f9fed7966f7c6dad3ca7b26b5ad1968c", func := "ballcock/ballcocklaw05.LexPlaces", spec := "lexPlaces", unfollowed := true, recurses := true, named := ["ballcock/lex.signs", "ballcock/lex.keywords"], apart := false, laid := [("ballcock/lex.signs", laid_ballcock_lex_signs), ("ballcock/lex.keywords", laid_ballcock_lex_keywords)], narrowed := true }
def LexPlacesUptoSaid : Prop := lexPlacesUptoRow.holds Tryd.pinned (OpenSpec.upto lexPlacesSpec)

/-- 'ballcocklaw05.LexJoined', WHERE WHAT IT READS IS OF BULK AT MOST 1048576: true; the input reads as it did. -/
def lexJoinedUptoRow : OpenClaim := { program := "ytmmlmbfnabgobaadoor", sum := "f3c23c62d033979367bbcd819b513f31f9fed7966f7c6dad3ca7b26b5ad1968c", func := "ballcock/ballcocklaw05.LexJoined", spec := "lexJoined", unfollowed := true, recurses := true, named := ["ballcock/lex.signs", "ballcock/lex.keywords"], apart := false, laid := [("ballcock/lex.signs", laid_ballcock_lex_signs), ("ballcock/lex.keywords", laid_ballcock_lex_keywords)], narrowed := true }
def LexJoinedUptoSaid : Prop := lexJoinedUptoRow.holds Tryd.pinned (OpenSpec.upto lexJoinedSpec)

/-- 'ballcocklaw05.LexNumbers', WHERE WHAT IT READS IS OF BULK AT MOST 1048576: true; the input reads as it did. -/
def lexNumbersUptoRow : OpenClaim := { program := "ytmmlmbfnabgobaadoor", sum := "f3c23c62d033979367bbcd819b513f31f9fed7966f7c6dad3ca7b26b5ad1968c", func := "ballcock/ballcocklaw05.LexNumbers", spec := "lexNumbers", unfollowed := true, recurses := true, named := ["ballcock/lex.signs", "ballcock/lex.keywords"], apart := false, laid := [("ballcock/lex.signs", laid_ballcock_lex_signs), ("ballcock/lex.keywords", laid_ballcock_lex_keywords)], narrowed := true }
def LexNumbersUptoSaid : Prop := lexNumbersUptoRow.holds Tryd.pinned (OpenSpec.upto lexNumbersSpec)

end Rows
end Go.Proofs.YtmmlmbfnabgobaaDoor
