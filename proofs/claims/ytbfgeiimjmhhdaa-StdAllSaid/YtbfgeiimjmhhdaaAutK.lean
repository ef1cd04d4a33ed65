/-
  The walk of package auto's Wrong. (Template: by-name.py fills it; gen/genAutK.py writes it.)
-/
import Derived.Test.YtbfgeiimjmhhdaaAutJ
namespace Go.Proofs.Ytbfgeiimjmhhdaa
open Go.RowKit

/-- What isn't right of a protocol, and where. -/
def wrongP (p : Pro) : Int × Int :=
  if p.states.length = 0 ∨ 16 < p.states.length then (1, 0)
  else if 0 ≤ fstI (dupS p.states) p.states.length then (1, fstI (dupS p.states) p.states.length)
  else if 0 ≤ fstL (astrayB p.states.length) p.moves then (2, fstL (astrayB p.states.length) p.moves)
  else if 0 ≤ fstI (dupM p.moves) p.moves.length then (3, fstI (dupM p.moves) p.moves.length)
  else if 0 ≤ fstL (finM p.states) p.moves then (4, fstL (finM p.states) p.moves)
  else if 0 ≤ fstI (stuckB p) p.states.length then (5, fstI (stuckB p) p.states.length)
  else (0, 0)
theorem fstL_all {α : Type} {f : α → Bool} {l : List α} (h : ¬ 0 ≤ fstL f l) : ∀ x ∈ l, f x = false := by
  unfold fstL at h
  cases q : l.findIdx? f with
  | none => rw [List.findIdx?_eq_none_iff] at q; exact q
  | some k => rw [q] at h; exact absurd (Int.natCast_nonneg k) h
theorem fstL_none {α : Type} {f : α → Bool} {l : List α} (h : ∀ x ∈ l, f x = false) : fstL f l = -1 := by
  unfold fstL
  rw [List.findIdx?_eq_none_iff.mpr h]
theorem fstI_all {t : Nat → Bool} {n : Nat} (h : ¬ 0 ≤ fstI t n) : ∀ i, i < n → t i = false := by
  unfold fstI at h
  cases q : (List.range n).find? t with
  | none => 
    rw [List.find?_eq_none] at q
    intro i hi
    have := q i (List.mem_range.mpr hi)
    simpa using this
  | some k => rw [q] at h; exact absurd (Int.natCast_nonneg k) h
theorem fits_of {p : Pro} (h : ¬ 0 ≤ fstL (astrayB p.states.length) p.moves) : Fits p := by
  have ha := fstL_all h
  have nb : ∀ {n : Nat} {x : Int}, noneB n x = false → 0 ≤ x ∧ x < (n : Int) := by
    intro n x q
    unfold noneB at q
    rw [Bool.or_eq_false_iff, decide_eq_false_iff_not, decide_eq_false_iff_not] at q
    omega
  refine ⟨fun m hm => ?_, fun m hm o ho => ?_⟩
  · have := ha m hm
    unfold astrayB at this
    rw [Bool.or_eq_false_iff, Bool.or_eq_false_iff] at this
    exact nb this.1.1
  · have := ha m hm
    unfold astrayB at this
    rw [Bool.or_eq_false_iff, Bool.or_eq_false_iff, List.any_eq_false] at this
    refine nb ?_
    have := this.2 o ho
    simpa using this
end Go.Proofs.Ytbfgeiimjmhhdaa
