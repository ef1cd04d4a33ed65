/-
  The walk of package auto's copied. (Template: by-name.py fills it; gen/genAutO.py writes it.)
-/
import Derived.Test.YtbfgeiimjmhhdaaAutN
namespace Go.Proofs.Ytbfgeiimjmhhdaa
open Go.RowKit

theorem mvC_one {l : List (Value × Mov)} (h : ∀ x ∈ l, x.1.oneCell' = true) : ∀ u ∈ rowC mvC l, u.oneCell' = true := by
  induction l with
  | nil => intro u hu; cases hu
  | cons x r ih =>
    intro u hu
    rw [rowC, List.mem_append] at hu
    rcases hu with hu | hu
    · unfold mvC at hu
      simp only [List.mem_cons, List.not_mem_nil, or_false] at hu
      rcases hu with rfl | rfl | rfl
      · rfl
      · rfl
      · exact h x (List.mem_cons_self ..)
    · exact ih (fun y hy => h y (List.mem_cons_of_mem _ hy)) u hu
/-- Nothing is too long to be copied. -/
structure SzP (p : Pro) : Prop where
  name : p.name.length ≤ 140737488355328
  st : p.states.length ≤ 80
  mv : p.moves.length ≤ 80
  out : ∀ m ∈ p.moves, m.outs.length ≤ 80
  ns : ∀ s ∈ p.states, s.name.length ≤ 140737488355328
  no : ∀ m ∈ p.moves, m.op.length ≤ 140737488355328 ∧ ∀ o ∈ m.outs, o.name.length ≤ 140737488355328
theorem SzP.len {p : Pro} (h : SzP p) : LenP p :=
  ⟨by have := h.name; unfold maxLen; omega, fun s hs => by have := h.ns s hs; unfold maxLen; omega, fun m hm => ⟨by have := (h.no m hm).1; unfold maxLen; omega, fun o ho => by have := (h.no m hm).2 o ho; unfold maxLen; omega⟩⟩
end Go.Proofs.Ytbfgeiimjmhhdaa
