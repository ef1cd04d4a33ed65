/-
  The walks of package auto's astray, fromFinal and twice. (Template: by-name.py fills it.)
-/
import Derived.Test.YtbfgeiimjmhhdaaAutF
import Derived.Test.YtbfgeiimjmhhdaaAutP
namespace Go.Proofs.Ytbfgeiimjmhhdaa
open Go.RowKit

theorem moves_at {rs : List (Value × Mov)} {ms : List Mov} (h : rs.map (·.2) = ms) {k : Nat} {x : Value × Mov} (hx : rs[k]? = some x) : ms[k]? = some x.2 := by rw [← h, List.getElem?_map, hx]; rfl
theorem moves_len {rs : List (Value × Mov)} {ms : List Mov} (h : rs.map (·.2) = ms) : rs.length = ms.length := by rw [← h, List.length_map]
def finM (ss : List Sta) (m : Mov) : Bool := match ss[m.at_.toNat]? with
  | some s => s.final
  | none => false
end Go.Proofs.Ytbfgeiimjmhhdaa
