/-
  The walk of package lex's first. (Template: by-name.py fills it; gen/genLexD.py writes it.)
-/
import Derived.Test.YtabnjiijgbigbaaDoorLexC
namespace Go.Proofs.YtabnjiijgbigbaaDoor
open Go.RowKit

def firstV (f : Nat × Nat × Bool) : Value := .tuple #[.int .i64 f.1, .int .i64 f.2.1, .bool f.2.2]
theorem not_empty {s : ByteArray} {c : UInt8} {r : List UInt8} (h : s.data.toList = c :: r) : s.toList.isEmpty = false := by
  rw [Lib.toList_data, h]
  rfl
theorem at_zero {s : ByteArray} {c : UInt8} {r : List UInt8} (h : s.data.toList = c :: r) (h0 : 0 < s.size) : s[0] = c := by
  have := byte_at h0
  rw [h] at this
  simpa using this.symm




theorem drop_consS {l : List (List UInt8)} {k : Nat} {c : List UInt8} (h : l[k]? = some c) : l.drop k = c :: l.drop (k + 1) := by
  obtain ⟨hk, rfl⟩ := List.getElem?_eq_some_iff.1 h
  exact List.drop_eq_getElem_cons hk
def signAns : Option Nat → Nat × Nat × Bool
  | some n => (2, n, true)
  | none => (0, 0, false)


end Go.Proofs.YtabnjiijgbigbaaDoor
