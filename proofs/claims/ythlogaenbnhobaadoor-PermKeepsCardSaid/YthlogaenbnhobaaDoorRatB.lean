/-
  The walks of package rat's Add, Sub, Mul, Div where an argument isn't right. (Template: by-name.py fills it.)
-/
import Derived.Test.YthlogaenbnhobaaDoorRatS
namespace Go.Proofs.YthlogaenbnhobaaDoor
open Go.RowKit


set_option maxHeartbeats 1000000 in
theorem sub_bad (n d m e : Int) (w : World) (ra : ∀ w, Calls Tryd.prog 24 #[ratV n d] w fun r w' => r = .returned (.bool (rightB n d)) ∧ Below w.heap.size w w')
    (rb : ∀ w, Calls Tryd.prog 24 #[ratV m e] w fun r w' => r = .returned (.bool (rightB m e)) ∧ Below w.heap.size w w') (h : rightB n d = false ∨ (rightB n d = true ∧ rightB m e = false)) :
    Calls Tryd.prog 15 #[ratV n d, ratV m e] w fun r w' => r = .returned (.tuple #[ratV 0 0, .int .i64 2]) ∧ Below w.heap.size w w' := by
  rcases h with h | ⟨h, g⟩
  · rw [h] at ra
    clear h rb
    go_enter Tryd.func15, Tryd.ntmps15
    go_upto_region 1 with fail
    have B := Boxes.start w n d m e 0 25
    go_wp2_with (go_at_call 24; (with_reducible refine (ra _).mono ?_); rintro e w1 ⟨rfl, hb⟩; have B := B.keep hb; have i0 := B.i0; have i1 := B.i1; have j0 := B.j0; have j1 := B.j1)
    exact bodyPost_ret (v := .tuple #[ratV 0 0, .int .i64 2]) (by simp [results, Tryd.results15, go_sem, i0, i1]) rfl ⟨rfl, below_two B.below⟩
  · rw [h] at ra
    rw [g] at rb
    clear h g
    go_enter Tryd.func15, Tryd.ntmps15
    go_upto_region 1 with fail
    have B := Boxes.start w n d m e 0 25
    go_wp2_with (go_at_call 24; (first | with_reducible refine (ra _).mono ?_ | with_reducible refine (rb _).mono ?_); rintro e w1 ⟨rfl, hb⟩; have B := B.keep hb; have c2 := B.c2; have c3 := B.c3; have i0 := B.i0; have i1 := B.i1; have j0 := B.j0; have j1 := B.j1)
    exact bodyPost_ret (v := .tuple #[ratV 0 0, .int .i64 2]) (by simp [results, Tryd.results15, go_sem, i0, i1]) rfl ⟨rfl, below_two B.below⟩

set_option maxHeartbeats 1000000 in
theorem mul_bad (n d m e : Int) (w : World) (ra : ∀ w, Calls Tryd.prog 24 #[ratV n d] w fun r w' => r = .returned (.bool (rightB n d)) ∧ Below w.heap.size w w')
    (rb : ∀ w, Calls Tryd.prog 24 #[ratV m e] w fun r w' => r = .returned (.bool (rightB m e)) ∧ Below w.heap.size w w') (h : rightB n d = false ∨ (rightB n d = true ∧ rightB m e = false)) :
    Calls Tryd.prog 14 #[ratV n d, ratV m e] w fun r w' => r = .returned (.tuple #[ratV 0 0, .int .i64 2]) ∧ Below w.heap.size w w' := by
  rcases h with h | ⟨h, g⟩
  · rw [h] at ra
    clear h rb
    go_enter Tryd.func14, Tryd.ntmps14
    go_upto_region 1 with fail
    have B := Boxes.start w n d m e 0 25
    go_wp2_with (go_at_call 24; (with_reducible refine (ra _).mono ?_); rintro e w1 ⟨rfl, hb⟩; have B := B.keep hb; have i0 := B.i0; have i1 := B.i1; have j0 := B.j0; have j1 := B.j1)
    exact bodyPost_ret (v := .tuple #[ratV 0 0, .int .i64 2]) (by simp [results, Tryd.results14, go_sem, i0, i1]) rfl ⟨rfl, below_two B.below⟩
  · rw [h] at ra
    rw [g] at rb
    clear h g
    go_enter Tryd.func14, Tryd.ntmps14
    go_upto_region 1 with fail
    have B := Boxes.start w n d m e 0 25
    go_wp2_with (go_at_call 24; (first | with_reducible refine (ra _).mono ?_ | with_reducible refine (rb _).mono ?_); rintro e w1 ⟨rfl, hb⟩; have B := B.keep hb; have c2 := B.c2; have c3 := B.c3; have i0 := B.i0; have i1 := B.i1; have j0 := B.j0; have j1 := B.j1)
    exact bodyPost_ret (v := .tuple #[ratV 0 0, .int .i64 2]) (by simp [results, Tryd.results14, go_sem, i0, i1]) rfl ⟨rfl, below_two B.below⟩


theorem wrong_cases (n d m e : Int) (h : ¬ (rightB n d = true ∧ rightB m e = true)) : rightB n d = false ∨ (rightB n d = true ∧ rightB m e = false) := by
  cases a : rightB n d
  · exact .inl rfl
  · cases b : rightB m e
    · exact .inr ⟨rfl, rfl⟩
    · exact absurd ⟨a, b⟩ h
end Go.Proofs.YthlogaenbnhobaaDoor
