/-
  Plain: a term's own form. (Template: by-name.py fills it.)
-/
import Derived.Test.YtkgndeiddjkhmaaDoorTermJ
namespace Go.Proofs.YtkgndeiddjkhmaaDoor
open Go.RowKit

theorem dropWhile_twice {α : Type} (p : α → Bool) : ∀ l : List α, (l.dropWhile p).dropWhile p = l.dropWhile p
  | [] => rfl
  | x :: r => by
    rw [List.dropWhile_cons]
    split
    · exact dropWhile_twice p r
    · rename_i h
      rw [List.dropWhile_cons, if_neg h]

/-- The own form's own form is itself. -/
theorem trimL_twice (l : List (Int × Int)) : trimL (trimL l) = trimL l := by
  unfold trimL
  rw [List.reverse_reverse, dropWhile_twice]

theorem trimL_sub (l : List (Int × Int)) : ∀ x, x ∈ trimL l → x ∈ l := by
  intro x hx
  unfold trimL at hx
  rw [List.mem_reverse] at hx
  exact List.mem_reverse.1 ((List.dropWhile_sublist _).mem hx)

theorem wide_trim {l : List (Int × Int)} (h : Wide l) : Wide (trimL l) := fun x hx => h x (trimL_sub l x hx)

theorem right_trim {l : List (Int × Int)} {kn kd : Int} (h : rightT l kn kd = true) : rightT (trimL l) kn kd = true := by
  unfold rightT allR at *
  simp only [Bool.and_eq_true, decide_eq_true_eq, List.all_eq_true] at *
  exact ⟨⟨Nat.le_trans (trimL_len l) h.1.1, h.1.2⟩, fun x hx => h.2 x (trimL_sub l x hx)⟩

/-- The last of an own form is not nought. -/
theorem trimL_last (l : List (Int × Int)) : ∀ x, (trimL l)[(trimL l).length - 1]? = some x → 0 < (trimL l).length → x.1 ≠ 0 := by
  intro x hx hl hz
  have e : (trimL l).getLast? = some x := by rw [List.getLast?_eq_getElem?]; exact hx
  unfold trimL at e
  rw [List.getLast?_reverse] at e
  cases hd : l.reverse.dropWhile (fun x => x.1 == 0) with
  | nil => rw [hd] at e; cases e
  | cons y r =>
    rw [hd] at e
    obtain rfl : y = x := by simpa using e
    have := List.head?_dropWhile_not (fun x : Int × Int => x.1 == 0) l.reverse
    rw [hd] at this
    simp [hz] at this
end Go.Proofs.YtkgndeiddjkhmaaDoor
