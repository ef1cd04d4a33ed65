/-
  The walks of the reference's Small and Same. (Template: by-name.py fills it.)
-/
import Derived.Test.YtbfgeiimjmhhdaaAutS
namespace Go.Proofs.Ytbfgeiimjmhhdaa
open Go.RowKit

/-- How much there is of a protocol. -/
def sizeP (p : Pro) : Nat := p.states.length + p.moves.length + (p.moves.map (·.outs.length)).sum
theorem sum_take {l : List Nat} {k x : Nat} (h : l[k]? = some x) : (l.take (k + 1)).sum = (l.take k).sum + x := by
  rw [List.take_add_one, h, List.sum_append]; simp
theorem sum_take_le (l : List Nat) (k : Nat) : (l.take k).sum ≤ l.sum := by
  have := congrArg List.sum (List.take_append_drop k l)
  rw [List.sum_append] at this
  omega
/-- Nothing is too long to be counted. -/
structure CntP (p : Pro) : Prop where
  st : p.states.length ≤ 140737488355328
  mv : p.moves.length ≤ 140737488355328
  out : ∀ m ∈ p.moves, m.outs.length ≤ 140737488355328
end Go.Proofs.Ytbfgeiimjmhhdaa
