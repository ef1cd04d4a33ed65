/-
  The walks of At, package term's and the reference's. (Template: by-name.py fills it.)
-/
import Derived.Test.YtkgndeiddjkhmaaDoorTermK
namespace Go.Proofs.YtkgndeiddjkhmaaDoor
open Go.RowKit

/-- A variable's fraction. -/
def atL (l : List (Int × Int)) (i : Int) : Int × Int := if 0 ≤ i then (l[i.toNat]?).getD (0, 1) else (0, 1)

theorem atL_out {l : List (Int × Int)} {i : Int} (h : i < 0 ∨ (l.length : Int) ≤ i) : atL l i = (0, 1) := by
  unfold atL
  split
  · rw [List.getElem?_eq_none (by omega)]
    rfl
  · rfl
theorem atL_in {l : List (Int × Int)} {k : Nat} {x : Int × Int} (h : l[k]? = some x) : atL l (k : Int) = x := by
  unfold atL
  rw [if_pos (by omega), Int.toNat_natCast, h]
  rfl

set_option maxHeartbeats 1000000 in
theorem rzero_any (w : World) : Calls Tryd.prog 37 #[] w fun r w' => r = .returned (ratV 0 1) ∧ Below w.heap.size w w' := by
  go_enter Tryd.func37, Tryd.ntmps37
  go_wp2_with fail
  exact bodyPost_ret (v := ratV 0 1) (by simp [results, Tryd.results37, go_sem]) rfl ⟨rfl, below_alloc1 _ _⟩

set_option maxHeartbeats 2000000 in
theorem tat_any (w : World) (v : Value) (l : List (Int × Int)) (kn kd i : Int) (h : RatsAt w v l) :
    Calls Tryd.prog 19 #[.agg #[v, .int .i64 kn, .int .i64 kd], .int .i64 i] w fun r w' => r = .returned (ratV (atL l i).1 (atL l i).2) ∧ Below w.heap.size w w' := by
  obtain ⟨A, c, rfl, h2, h3, h4⟩ := h
  have hb0 := below_alloc2 w (.cells #[.slice A l.length c, .int .i64 kn, .int .i64 kd] 26) (.cells #[.int .i64 0, .int .i64 0] 24)
  by_cases hi : i < 0
  · rw [atL_out (.inl hi)]
    have d1 : decide (i < 0) = true := decide_eq_true hi
    clear h2 h3 h4
    go_enter Tryd.func19, Tryd.ntmps19
    go_wp2_with fail
    exact bodyPost_ret (v := ratV 0 1) (by simp [results, Tryd.results19, go_sem]) rfl ⟨rfl, (below_alloc2 _ _ _)⟩
  · have d1 : decide (i < 0) = false := decide_eq_false hi
    by_cases hl : (l.length : Int) ≤ i
    · rw [atL_out (.inr hl)]
      have d2 : decide ((l.length : Int) ≤ i) = true := decide_eq_true hl
      clear h2 h3 h4
      generalize l.length = n at *
      go_enter Tryd.func19, Tryd.ntmps19
      go_wp2_with fail
      exact bodyPost_ret (v := ratV 0 1) (by simp [results, Tryd.results19, go_sem]) rfl ⟨rfl, (below_alloc2 _ _ _)⟩
    · obtain ⟨k, rfl⟩ : ∃ k : Nat, i = k := ⟨i.toNat, by omega⟩
      have hk : k < l.length := by omega
      obtain ⟨x, hx⟩ : ∃ x, l[k]? = some x := ⟨_, List.getElem?_eq_getElem hk⟩
      rw [atL_in hx]
      obtain ⟨ad, rfl, d3, d4⟩ := rats_cells h4 hb0 hx (by omega)
      have d2 : decide ((l.length : Int) ≤ (k : Int)) = false := decide_eq_false hl
      have i1 : (k : Int) < (l.length : Int) := by omega
      have i2 : (0 : Int) ≤ (k : Int) := by omega
      clear h2 h3 h4 hx hi hl hk
      generalize l.length = n at *
      go_enter Tryd.func19, Tryd.ntmps19
      go_wp2_with fail
      exact bodyPost_ret (v := ratV x.1 x.2) (by simp [results, Tryd.results19, go_sem]) rfl ⟨rfl, (below_alloc2 _ _ _)⟩
end Go.Proofs.YtkgndeiddjkhmaaDoor
