/-
  Package perm's Split at halves; Own; the walk of the statements' awake. (Template: by-name.py fills it.)
-/
import Derived.Test.YthlogaenbnhobaaDoorPmE
namespace Go.Proofs.YthlogaenbnhobaaDoor
open Go.RowKit

theorem wf_u8P {n : Int} (h : (Lit.int .u8 n).wf = true) : 0 ≤ n ∧ n ≤ 255 := by
  simp only [Lit.wf, Bool.and_eq_true, decide_eq_true_eq] at h
  have a : IntKind.u8.min = 0 := by decide
  have b : IntKind.u8.max = 255 := by decide
  rw [a, b] at h
  exact h

theorem mul_half {n d : Int} (h1 : -9223372036854775808 ≤ n) (h2 : n ≤ 9223372036854775807) (h3 : -9223372036854775808 ≤ d) (h4 : d ≤ 9223372036854775807) :
    ∃ u v E : Int, ∀ w, Calls Tryd.prog 14 #[ratV n d, ratV 1 2] w fun e w' => e = .returned (.tuple #[ratV u v, .int .i64 E]) ∧ Below w.heap.size w w' := by
  cases hr : rightB n d
  · exact ⟨0, 0, 2, fun w => mul_bad n d 1 2 w (fun w => right_any n d w h1 h2 h3 h4) (fun w => right_any 1 2 w (by decide) (by decide) (by decide) (by decide)) (.inl hr)⟩
  · obtain ⟨k, rfl, v⟩ := valid_of hr h1 h2 h4
    exact ⟨_, _, _, fun w => mul_valid v half w⟩

theorem sub_half (w : World) : Calls Tryd.prog 15 #[ratV 1 1, ratV 1 2] w fun e w' => e = .returned (.tuple #[ratV 1 2, .int .i64 0]) ∧ Below w.heap.size w w' :=
  sub_to one1 half half (by decide) w

/-- Split at one half: refused, or two parts that are alike but for their kinds. -/
theorem split_half (k n d r s p i : Int) (h1 : -9223372036854775808 ≤ n) (h2 : n ≤ 9223372036854775807) (h3 : -9223372036854775808 ≤ d) (h4 : d ≤ 9223372036854775807) :
    (∃ e : Int, e ≠ 0 ∧ ∀ w, RestTab w → Calls Tryd.prog 7 #[permV k n d r s, .int .i64 p, ratV 1 2, .int .u32 i] w fun e' w' => e' = .returned (noSplit e) ∧ Below w.heap.size w w') ∨
    (∃ u v : Int, restK k p ≠ -1 ∧ keptB k p i = true ∧ ∀ w, RestTab w → Calls Tryd.prog 7 #[permV k n d r s, .int .i64 p, ratV 1 2, .int .u32 i] w fun e' w' => e' = .returned (.tuple #[permV (restK k p) u v r (keptS k s p i), permV p u v r (keptS k s p i), .int .i64 0]) ∧ Below w.heap.size w w') := by
  cases hk : (restK k p != -1)
  · exact .inl ⟨2, by decide, fun w ht => split_bad k n d r s p i 1 2 w ht (.inl hk)⟩
  · cases hs : keptB k p i
    · exact .inl ⟨2, by decide, fun w ht => split_bad k n d r s p i 1 2 w ht (.inr ⟨hk, hs⟩)⟩
    · obtain ⟨u, v, E, mu⟩ := mul_half h1 h2 h3 h4
      have sg := fun w ht => split_good k n d r s p i half (by decide) (by decide) w ht hk hs 1 u v E u v E mu sub_half mu
      by_cases hE : E = 0
      · subst hE
        refine .inr ⟨u, v, by simpa using hk, rfl, fun w ht => ?_⟩
        have := sg w ht
        unfold splitV at this
        rwa [if_pos rfl, if_pos rfl] at this
      · refine .inl ⟨E, hE, fun w ht => ?_⟩
        have := sg w ht
        unfold splitV at this
        rwa [if_neg hE] at this

theorem own_any (w : World) : Calls Tryd.prog 6 #[] w fun e w' => e = .returned (permV 0 1 1 (-1) 0) ∧ Below w.heap.size w w' := by
  have a1 := below_alloc1 w (.cells (permC 0 0 0 0 0) 28)
  have A1 := Blk.start w (permC 0 0 0 0 0) 28
  have N1 := Lib.hid (fun w => number_any 1 w)
  generalize hw1 : w.alloc (.cells (permC 0 0 0 0 0) 28) = w1 at *
  go_enter Tryd.func6, Tryd.ntmps6
  go_wp2_with (go_at_call 9; (with_reducible refine (N1.out _).mono ?_); rintro e w2 ⟨rfl, hb⟩; have A2 := A1.keep hb; have L2 := a1.trans (hb.mono a1.size); obtain ⟨⟨z0, z1, z2, z3, z4⟩, f0, f1, f2, f3, f4⟩ := five_cells A2; have AA := Lib.hid (put5 A2 (.int .i64 0) (.int .i64 1) (.int .i64 1) (.int .i64 (-1)) (.int .u32 0)); have LL := Lib.hid (put5_below L2 (b := w.heap.size) (Nat.le_refl _) (.int .i64 0) (.int .i64 1) (.int .i64 1) (.int .i64 (-1)) (.int .u32 0)))
  obtain ⟨⟨a0, a1, a2, a3, a4⟩, _⟩ := five_cells AA.out
  exact bodyPost_ret (v := permV 0 1 1 (-1) 0) (by simp [results, Tryd.results6, go_sem, a0, a1, a2, a3, a4]) rfl ⟨rfl, LL.out⟩

theorem twothirds : Valid 2 3 := ⟨by decide, by decide, by decide, by decide⟩
theorem own_split (w : World) (ht : RestTab w) : Calls Tryd.prog 7 #[permV 0 1 1 (-1) 0, .int .i64 3, ratV 1 3, .int .u32 0] w fun e w' => e = .returned (.tuple #[permV 3 2 3 (-1) 0, permV 3 1 3 (-1) 0, .int .i64 0]) ∧ Below w.heap.size w w' :=
  split_good 0 1 1 (-1) 0 3 0 third (by decide) (by decide) w ht (by decide) (by decide) 2 1 3 0 2 3 0 (fun w => mul_to one1 third third (by decide) w) (fun w => sub_to one1 third twothirds (by decide) w) (fun w => mul_to one1 twothirds twothirds (by decide) w)

set_option maxHeartbeats 1000000 in
theorem awake15_yes (w : World) (ht : RestTab w) : Calls Tryd.prog 5 #[] w fun r w' => r = .returned (.bool true) ∧ Below w.heap.size w w' := by
  have OW := Lib.hid (own_any w)
  have SP := Lib.hid (fun (w' : World) (hb : Below w.heap.size w w') => own_split w' (ht.below hb))
  clear ht
  go_enter Tryd.func5, Tryd.ntmps5
  go_upto_region 2 with (first
    | (go_at_call 6; (with_reducible refine OW.out.mono ?_); rintro e w1 ⟨rfl, hb⟩)
    | (go_at_call 7; (with_reducible refine (SP.out _ hb).mono ?_); rintro e w2 ⟨rfl, hb2⟩))
  have L2 := Lib.hid (hb.trans (hb2.mono hb.size))
  clear OW SP hb hb2
  go_wp2_with fail
  go_ret
  exact ⟨rfl, L2.out.trans ((below_alloc2 w2 _ _).mono L2.out.size)⟩
end Go.Proofs.YthlogaenbnhobaaDoor
