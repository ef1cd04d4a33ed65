/-
  The walk of package auto's copiedOuts. (Template: by-name.py fills it.)
-/
import Derived.Test.YtbfgeiimjmhhdaaAutL
namespace Go.Proofs.Ytbfgeiimjmhhdaa
open Go.RowKit

theorem ouC_one {l : List Ou} : ∀ u ∈ rowC ouC l, u.oneCell' = true := by
  induction l with
  | nil => intro u hu; cases hu
  | cons x r ih =>
    intro u hu
    rw [rowC, List.mem_append] at hu
    rcases hu with hu | hu
    · unfold ouC at hu
      simp only [List.mem_cons, List.not_mem_nil, or_false] at hu
      rcases hu with rfl | rfl <;> rfl
    · exact ih u hu
theorem stC_one {l : List Sta} : ∀ u ∈ rowC stC l, u.oneCell' = true := by
  induction l with
  | nil => intro u hu; cases hu
  | cons x r ih =>
    intro u hu
    rw [rowC, List.mem_append] at hu
    rcases hu with hu | hu
    · unfold stC at hu
      simp only [List.mem_cons, List.not_mem_nil, or_false] at hu
      rcases hu with rfl | rfl <;> rfl
    · exact ih u hu
theorem set_same {α : Type} {l : List α} {i : Nat} {x : α} (h : l[i]? = some x) : l.set i x = l := by
  obtain ⟨hi, e⟩ := List.getElem?_eq_some_iff.1 h
  rw [← e]
  exact List.set_getElem_self hi
theorem rowC_out {os : List Ou} {r : Nat} {x : Ou} (h : os[r]? = some x) : (rowC ouC os)[r * 2]? = some (txt x.name) ∧ (rowC ouC os)[r * 2 + 1]? = some (.int .i64 x.to) :=
  ⟨(rowC_at ouC_len os r 0 x h (by omega)).trans rfl, (rowC_at ouC_len os r 1 x h (by omega)).trans rfl⟩
theorem rowC_state {os : List Sta} {r : Nat} {x : Sta} (h : os[r]? = some x) : (rowC stC os)[r * 2]? = some (txt x.name) ∧ (rowC stC os)[r * 2 + 1]? = some (.bool x.final) :=
  ⟨(rowC_at stC_len os r 0 x h (by omega)).trans rfl, (rowC_at stC_len os r 1 x h (by omega)).trans rfl⟩
theorem rowC_move {os : List (Value × Mov)} {r : Nat} {x : Value × Mov} (h : os[r]? = some x) : (rowC mvC os)[r * 3]? = some (txt x.2.op) ∧ (rowC mvC os)[r * 3 + 1]? = some (.int .i64 x.2.at_) ∧ (rowC mvC os)[r * 3 + 2]? = some x.1 :=
  ⟨(rowC_at mvC_len os r 0 x h (by omega)).trans rfl, (rowC_at mvC_len os r 1 x h (by omega)).trans rfl, (rowC_at mvC_len os r 2 x h (by omega)).trans rfl⟩
/-- Outcomes in memory of the call's own. -/
def OutsOwn (w : World) (B : Nat) (v : Value) (os : List Ou) : Prop := w.ownsRow B 35 2 v os.length (rowC ouC os)
theorem OutsOwn.outs {w : World} {B : Nat} {v : Value} {os : List Ou} (h : OutsOwn w B v os) (hs : ∀ o ∈ os, o.name.length ≤ maxLen) : OutsAt w v os := by
  obtain ⟨A, c, rfl⟩ := own_shape h
  obtain ⟨a, b, d⟩ := reads_own h
  exact ⟨A, c, rfl, a, b, d, hs⟩
end Go.Proofs.Ytbfgeiimjmhhdaa
