/-
  The program's New, Compare and Show answer as the reference's, whatever the arguments. (Template: by-name.py fills it.)
-/
import Derived.Test.YtehdhplmfgfnkaaDoorNumQ
import Derived.Test.YtehdhplmfgfnkaaDoorNumR
import Derived.Test.YtehdhplmfgfnkaaDoorRatN
import Derived.Test.YtehdhplmfgfnkaaDoorRatP
namespace Go.Proofs.YtehdhplmfgfnkaaDoor
open Go.RowKit

theorem new_same (n d : Int) : toV n.natAbs d.natAbs (decide (n < 0) != decide (d < 0)) = resV (if d < 0 then -n else n) d.natAbs := by
  refine toV_res (by split <;> omega) (fun hP => ?_)
  by_cases a : n < 0 <;> by_cases b : d < 0 <;> simp only [a, b, if_true, if_false, decide_true, decide_false] at hP ⊢ <;> simp <;> omega

theorem same_new (n d : Int) (h1 : -9223372036854775808 ≤ n) (h2 : n ≤ 9223372036854775807) (h3 : -9223372036854775808 ≤ d) (h4 : d ≤ 9223372036854775807) :
    ∃ p1 p2 p3 : Int, (∀ w, Calls Tryd.prog 11 #[.int .i64 n, .int .i64 d] w fun r w' => r = .returned (.tuple #[ratV p1 p2, .int .i64 p3]) ∧ Below w.heap.size w w') ∧
      (∀ w, Calls Tryd.prog 12 #[.int .i64 n, .int .i64 d] w fun r w' => r = .returned (.tuple #[ratV p1 p2, .int .i64 p3]) ∧ Below w.heap.size w w') ∧
      ((p3 == 0) = true ∧ (∃ k : Nat, p2 = k ∧ Valid p1 k) ∨ (p3 == 0) = false) := by
  by_cases h : d = 0
  · subst h
    exact ⟨0, 0, 2, fun w => new_nought n w, fun w => rnew_nought n w, Or.inr rfl⟩
  · refine ⟨_, _, _, fun w => new_any n d w h1 h2 h3 h4 h, fun w => by have := rnew_any n d w h1 h2 h3 h4 h; rwa [new_same n d] at this, ?_⟩
    by_cases e : resE (if d < 0 then -n else n) d.natAbs = 0
    · obtain ⟨k, a, b, _⟩ := res_ok (show 0 < d.natAbs by omega) e
      exact Or.inl ⟨by simpa using e, k, a, b⟩
    · exact Or.inr (by simpa using e)

set_option maxHeartbeats 1000000 in
theorem compare_alike (n d : Int) (w : World) : Calls Tryd.prog 15 #[ratV n d, ratV n d] w fun r w' => r = .returned (.int .i64 0) ∧ Below w.heap.size w w' := by
  go_enter Tryd.func15, Tryd.ntmps15
  go_wp2_with fail
  go_ret
  exact ⟨rfl, below_alloc2 _ _ _⟩

set_option maxHeartbeats 1000000 in
theorem compare_bad (n d m e : Int) (w : World) (hne : ¬ (n = m ∧ d = e)) (ra : ∀ w, Calls Tryd.prog 13 #[ratV n d] w fun r w' => r = .returned (.bool (rightB n d)) ∧ Below w.heap.size w w')
    (rb : ∀ w, Calls Tryd.prog 13 #[ratV m e] w fun r w' => r = .returned (.bool (rightB m e)) ∧ Below w.heap.size w w') (h : rightB n d = false ∨ (rightB n d = true ∧ rightB m e = false)) :
    Calls Tryd.prog 15 #[ratV n d, ratV m e] w fun r w' => r = .returned (.int .i64 0) ∧ Below w.heap.size w w' := by
  have h2 : (n == m) = false ∨ (n == m) = true ∧ (d == e) = false := by
    by_cases k : n = m
    · right; exact ⟨by simpa using k, by simpa using fun l => hne ⟨k, l⟩⟩
    · left; simpa using k
  have L := ((Live.start w).box n d).boxAt m e (w.heap.size + 1) (by simp)
  clear hne
  rcases h with h | ⟨h, g⟩
  · rw [h] at ra
    clear h rb
    rcases h2 with h2 | ⟨h2, h3⟩
    all_goals
      go_enter Tryd.func15, Tryd.ntmps15
      go_wp2_with (go_at_call 13; (with_reducible refine (ra _).mono ?_); rintro e w1 ⟨rfl, hb⟩; have L := L.call hb)
      go_ret
      exact ⟨rfl, L.below⟩
  · rw [h] at ra
    rw [g] at rb
    clear h g
    rcases h2 with h2 | ⟨h2, h3⟩
    all_goals
      go_enter Tryd.func15, Tryd.ntmps15
      go_wp2_with (go_at_call 13; (first | with_reducible refine (ra _).mono ?_ | with_reducible refine (rb _).mono ?_); rintro e w1 ⟨rfl, hb⟩; have L := L.call hb; have a0 := L.n 0 rfl; have a1 := L.d 0 rfl)
      go_ret
      exact ⟨rfl, L.below⟩

set_option maxHeartbeats 1000000 in
theorem rcompare_bad (n d m e : Int) (w : World) (ra : ∀ w, Calls Tryd.prog 14 #[ratV n d] w fun r w' => r = .returned (.bool (rightB n d)) ∧ Below w.heap.size w w')
    (rb : ∀ w, Calls Tryd.prog 14 #[ratV m e] w fun r w' => r = .returned (.bool (rightB m e)) ∧ Below w.heap.size w w') (h : rightB n d = false ∨ (rightB n d = true ∧ rightB m e = false)) :
    Calls Tryd.prog 16 #[ratV n d, ratV m e] w fun r w' => r = .returned (.int .i64 0) ∧ Below w.heap.size w w' := by
  have L := ((Live.start w).box n d).boxAt m e (w.heap.size + 1) (by simp)
  rcases h with h | ⟨h, g⟩
  · rw [h] at ra
    clear h rb
    go_enter Tryd.func16, Tryd.ntmps16
    go_wp2_with (go_at_call 14; (with_reducible refine (ra _).mono ?_); rintro e w1 ⟨rfl, hb⟩; have L := L.call hb)
    go_ret
    exact ⟨rfl, L.below⟩
  · rw [h] at ra
    rw [g] at rb
    clear h g
    go_enter Tryd.func16, Tryd.ntmps16
    go_wp2_with (go_at_call 14; (first | with_reducible refine (ra _).mono ?_ | with_reducible refine (rb _).mono ?_); rintro e w1 ⟨rfl, hb⟩; have L := L.call hb; have a0 := L.n 0 rfl; have a1 := L.d 0 rfl)
    go_ret
    exact ⟨rfl, L.below⟩

theorem cmp_frac {n m : Int} {d e : Nat} (v : Valid n d) (u : Valid m e) (w : World) :
    Calls Tryd.prog 16 #[ratV n d, ratV m e] w fun r w' => r = .returned (.int .i64 (cmpV n m d e)) ∧ Below w.heap.size w w' := by
  obtain ⟨a, b⟩ := sub_parts n m d e
  refine rcompare_frac v u rfl rfl ?_ w
  rw [Int.natAbs_natCast, Int.natAbs_natCast, a]
  unfold cmpV
  by_cases z : n * (e : Int) = m * (d : Int)
  · rw [if_neg (by omega), if_pos z, if_pos (by omega)]
  · rw [b (by omega), if_neg (show ¬ (n * (e : Int) - m * (d : Int)).natAbs = 0 by omega)]
    by_cases l : n * (e : Int) < m * (d : Int)
    · rw [if_pos l, if_pos (decide_eq_true (by omega))]
    · rw [if_neg l, if_neg z, if_neg (by simp; omega)]

theorem same_compare (n d m e : Int) (h1 : -9223372036854775808 ≤ n) (h2 : n ≤ 9223372036854775807) (h3 : -9223372036854775808 ≤ d) (h4 : d ≤ 9223372036854775807)
    (k1 : -9223372036854775808 ≤ m) (k2 : m ≤ 9223372036854775807) (k3 : -9223372036854775808 ≤ e) (k4 : e ≤ 9223372036854775807) :
    ∃ c : Int, (∀ w, Calls Tryd.prog 15 #[ratV n d, ratV m e] w fun r w' => r = .returned (.int .i64 c) ∧ Below w.heap.size w w') ∧
      (∀ w, Calls Tryd.prog 16 #[ratV n d, ratV m e] w fun r w' => r = .returned (.int .i64 c) ∧ Below w.heap.size w w') := by
  by_cases h : rightB n d = true ∧ rightB m e = true
  · obtain ⟨x, rfl, v⟩ := valid_of h.1 h1 h2 h4
    obtain ⟨y, rfl, u⟩ := valid_of h.2 k1 k2 k4
    exact ⟨_, fun w => compare_valid v u w, fun w => cmp_frac v u w⟩
  · have hc : rightB n d = false ∨ (rightB n d = true ∧ rightB m e = false) := by
      cases a : rightB n d
      · exact .inl rfl
      · cases b : rightB m e
        · exact .inr ⟨rfl, rfl⟩
        · exact absurd ⟨a, b⟩ h
    refine ⟨0, ?_, fun w => rcompare_bad n d m e w (fun w => rright_any n d w h1 h2 h3 h4) (fun w => rright_any m e w k1 k2 k3 k4) hc⟩
    by_cases q : n = m ∧ d = e
    · obtain ⟨rfl, rfl⟩ := q
      exact fun w => compare_alike n d w
    · exact fun w => compare_bad n d m e w q (fun w => right_any n d w h1 h2 h3 h4) (fun w => right_any m e w k1 k2 k3 k4) hc

theorem same_show (n d : Int) (h1 : -9223372036854775808 ≤ n) (h2 : n ≤ 9223372036854775807) (h3 : -9223372036854775808 ≤ d) (h4 : d ≤ 9223372036854775807) :
    ∃ s : ByteArray, (∀ w, Pow10 w → Calls Tryd.prog 17 #[ratV n d] w fun r w' => r = .returned (.string s) ∧ Below w.heap.size w w') ∧
      (∀ w, Calls Tryd.prog 18 #[ratV n d] w fun r w' => r = .returned (.string s) ∧ Below w.heap.size w w') := by
  have ra := fun w => right_any n d w h1 h2 h3 h4
  have qa := fun w => rright_any n d w h1 h2 h3 h4
  cases h : rightB n d
  · rw [h] at ra qa
    exact ⟨_, fun w _ => show_bad w ra, fun w => rshow_bad w qa⟩
  · obtain ⟨k, rfl, v⟩ := valid_of h h1 h2 h4
    exact ⟨_, fun w t => show_valid v w t, fun w => rshow_valid v w⟩
end Go.Proofs.YtehdhplmfgfnkaaDoor
