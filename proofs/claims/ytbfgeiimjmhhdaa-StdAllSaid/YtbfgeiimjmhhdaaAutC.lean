/-
  The walks of slices.IndexFunc and ContainsFunc at package auto's tests. (Template: by-name.py fills it; gen/genAutC.py writes it.)
-/
import Derived.Test.YtbfgeiimjmhhdaaAutB
namespace Go.Proofs.Ytbfgeiimjmhhdaa
open Go.RowKit

/-- The first of n numbers that passes, -1 if none does. -/
def fstI (t : Nat → Bool) (n : Nat) : Int := match (List.range n).find? t with
  | some k => (k : Int)
  | none => -1
theorem fst_none {t : Nat → Bool} {n : Nat} (h : ∀ i, i < n → t i = false) : fstI t n = -1 := by
  unfold fstI
  rw [List.find?_eq_none.mpr (fun i hi => by rw [h i (List.mem_range.mp hi)]; decide)]
theorem fst_hit {t : Nat → Bool} {n k : Nat} (hk : k < n) (ht : t k = true) (h : ∀ i, i < k → t i = false) : fstI t n = (k : Int) := by
  unfold fstI
  rw [List.find?_range_eq_some.mpr ⟨ht, List.mem_range.mpr hk, fun j hj => by rw [h j hj]; rfl⟩]
theorem fst_ge {t : Nat → Bool} {n : Nat} : decide (0 ≤ fstI t n) = (List.range n).any t := by
  unfold fstI
  cases h : (List.range n).find? t with
  | none =>
    rw [List.find?_eq_none] at h
    symm
    rw [List.any_eq_false.mpr h]
    rfl
  | some k =>
    have := List.find?_some h
    symm
    rw [List.any_eq_true.mpr ⟨k, List.mem_of_find?_eq_some h, this⟩]
    simp
theorem stC_len (x : Sta) : (stC x).length = 2 := rfl
theorem ouC_len (x : Ou) : (ouC x).length = 2 := rfl
theorem mvC_len (x : Value × Mov) : (mvC x).length = 3 := rfl








end Go.Proofs.Ytbfgeiimjmhhdaa
