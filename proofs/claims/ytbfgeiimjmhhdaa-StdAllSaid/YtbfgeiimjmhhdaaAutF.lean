/-
  The walks of package auto's fresh at starts and of the function that it makes. (Template: by-name.py fills it.)
-/
import Derived.Test.YtbfgeiimjmhhdaaAutE
namespace Go.Proofs.Ytbfgeiimjmhhdaa
open Go.RowKit Go.Maps

theorem fst_names {ss : List Sta} (k : Nat) (x : Sta) (h : ss[k]? = some x) : (ss.take (k + 1)).map (·.name) = (ss.take k).map (·.name) ++ [x.name] := by
  rw [List.take_add_one, h, List.map_append]; rfl
/-! ### sameName -/
/-- Has a state the name of an earlier one? -/
def dupS (ss : List Sta) (k : Nat) : Bool := match ss[k]? with
  | some s => ((ss.take k).map (·.name)).contains s.name
  | none => false
theorem contains_rev (l : List (List UInt8)) (x : List UInt8) : l.reverse.contains x = l.contains x := by
  rw [Bool.eq_iff_iff, List.contains_iff_mem, List.contains_iff_mem, List.mem_reverse]
theorem names_next {ss : List Sta} {k : Nat} {x : Sta} (h : ss[k]? = some x) : ((ss.take (k + 1)).map (·.name)).reverse = x.name :: ((ss.take k).map (·.name)).reverse := by
  rw [fst_names k x h, List.reverse_append]; rfl
end Go.Proofs.Ytbfgeiimjmhhdaa
