/-
  The walk of package rat's Compare at right fractions. (Template: by-name.py fills it.)
-/
import Derived.Test.YthlogaenbnhobaaDoorRatG
namespace Go.Proofs.YthlogaenbnhobaaDoor
open Go.RowKit

theorem keep_pair {w w1 w2 : World} {n d m e : Value} (hb : Below w1.heap.size w1 w2)
    (h : (w1.cell? ⟨w.heap.size, 0, none⟩ = some n ∧ w1.cell? ⟨w.heap.size, 1, none⟩ = some d ∧ w1.cell? ⟨w.heap.size + 1, 0, none⟩ = some m ∧ w1.cell? ⟨w.heap.size + 1, 1, none⟩ = some e) ∧ w.heap.size + 1 < w1.heap.size ∧ Below w.heap.size w w1) :
    (w2.cell? ⟨w.heap.size, 0, none⟩ = some n ∧ w2.cell? ⟨w.heap.size, 1, none⟩ = some d ∧ w2.cell? ⟨w.heap.size + 1, 0, none⟩ = some m ∧ w2.cell? ⟨w.heap.size + 1, 1, none⟩ = some e) ∧ w.heap.size + 1 < w2.heap.size ∧ Below w.heap.size w w2 := by
  obtain ⟨⟨a, b, c, f⟩, g, k⟩ := h
  have hs := hb.size
  exact ⟨⟨keep_cell hb (by omega) a, keep_cell hb (by omega) b, keep_cell hb (by omega) c, keep_cell hb (by omega) f⟩, by omega, k.trans (hb.mono (by omega))⟩

theorem start_pair (w : World) (n d m e : Int) (ty : TypeId) :
    (((w.alloc (.cells #[.int .i64 n, .int .i64 d] ty)).alloc (.cells #[.int .i64 m, .int .i64 e] ty)).cell? ⟨w.heap.size, 0, none⟩ = some (.int .i64 n) ∧ ((w.alloc (.cells #[.int .i64 n, .int .i64 d] ty)).alloc (.cells #[.int .i64 m, .int .i64 e] ty)).cell? ⟨w.heap.size, 1, none⟩ = some (.int .i64 d) ∧ ((w.alloc (.cells #[.int .i64 n, .int .i64 d] ty)).alloc (.cells #[.int .i64 m, .int .i64 e] ty)).cell? ⟨w.heap.size + 1, 0, none⟩ = some (.int .i64 m) ∧ ((w.alloc (.cells #[.int .i64 n, .int .i64 d] ty)).alloc (.cells #[.int .i64 m, .int .i64 e] ty)).cell? ⟨w.heap.size + 1, 1, none⟩ = some (.int .i64 e)) ∧ w.heap.size + 1 < ((w.alloc (.cells #[.int .i64 n, .int .i64 d] ty)).alloc (.cells #[.int .i64 m, .int .i64 e] ty)).heap.size ∧ Below w.heap.size w ((w.alloc (.cells #[.int .i64 n, .int .i64 d] ty)).alloc (.cells #[.int .i64 m, .int .i64 e] ty)) :=
  ⟨⟨by go_simp, by go_simp, by go_simp, by go_simp⟩, by simp, below_alloc2 _ _ _⟩

theorem below_of_pair {w w1 : World} {A B : Prop} (h : A ∧ B ∧ Below w.heap.size w w1) : Below w.heap.size w w1 := h.2.2

theorem field_wide (s : Bool) (T : Nat) (w : World) : (Instr.field 71 (wideV s T) 0).run Tryd.prog w = .ok (.bool s) w := by kernel_rfl

/-- The order of two fractions. -/
def cmpV (n m : Int) (d e : Nat) : Int := if n * e < m * d then -1 else if n * e = m * d then 0 else 1

theorem cmp_sign {n m : Int} {d e : Nat} (v : Valid n d) (u : Valid m e) (h : ¬ (n = m ∧ d = e)) :
    plusS (decide (n < 0)) (n.natAbs * (e / 1)) (decide (-m < 0)) ((-m).natAbs * (d / 1)) = decide (n * e < m * d) ∧ n * (e : Int) ≠ m * (d : Int) := by
  have hne : n * (e : Int) ≠ m * (d : Int) := fun k => h (v.unique u k)
  refine ⟨?_, hne⟩
  have := (plus_signed n (-m) (e / 1) (d / 1)).2
  rw [Nat.div_one, Nat.div_one] at *
  rw [this (by rw [Int.neg_mul]; omega)]
  congr 1
  rw [Int.neg_mul]
  apply propext
  omega

set_option maxHeartbeats 1000000 in
theorem compare_valid {n m : Int} {d e : Nat} (v : Valid n d) (u : Valid m e) (w : World) :
    Calls Tryd.prog 23 #[ratV n d, ratV m e] w fun r w' => r = .returned (.int .i64 (cmpV n m d e)) ∧ Below w.heap.size w w' := by
  by_cases h : n = m ∧ d = e
  · obtain ⟨rfl, rfl⟩ := h
    have hc : cmpV n n d d = 0 := by unfold cmpV; simp
    rw [hc]
    clear hc v u
    go_enter Tryd.func23, Tryd.ntmps23
    go_wp2_with fail
    go_ret
    exact ⟨rfl, below_alloc2 _ _ _⟩
  · have ra := fun w => right_yes v w
    have rb := fun w => right_yes u w
    have un := u.n_le; have ud := u.d_le; have vn := v.n_le; have vd := v.d_le
    have ne := fun w => negated_below m e w (by omega) (by omega)
    have ac := fun w => across_any n (-m) d e 1 w (by omega) (by omega) (by omega) (by omega) vd ud (by omega) (by omega)
    obtain ⟨sg, hn⟩ := cmp_sign v u h
    rw [sg] at ac
    simp only [Int.natCast_one] at ac
    generalize plusM (decide (n < 0)) (n.natAbs * (e / 1)) (decide (-m < 0)) ((-m).natAbs * (d / 1)) = T at *
    have hc : cmpV n m d e = if decide (n * (e : Int) < m * (d : Int)) = true then -1 else 1 := by
      unfold cmpV
      by_cases l : n * (e : Int) < m * (d : Int)
      · simp [l]
      · simp [l, hn]
    rw [hc]
    generalize decide (n * (e : Int) < m * (d : Int)) = s at *
    have h2 : (n == m) = false ∨ (n == m) = true ∧ ((d : Int) == (e : Int)) = false := by
      by_cases k : n = m
      · right; exact ⟨by simpa using k, by simp; intro l; exact h ⟨k, by omega⟩⟩
      · left; simpa using k
    have fw := fun w' => field_wide s T w'
    clear v u un ud vn vd hc hn h sg
    have B := start_pair w n d m e 25
    rcases h2 with h2 | ⟨h2, h3⟩
    all_goals
      cases s
      all_goals
        simp only [Bool.false_eq_true, if_false, if_true]
        go_enter Tryd.func23, Tryd.ntmps23
        go_upto_region 3 with (go_at_call 24; (first | with_reducible refine (ra _).mono ?_ | with_reducible refine (rb _).mono ?_); rintro e w1 ⟨rfl, hb⟩; have B := keep_pair hb B; obtain ⟨⟨c0, c1, c2, c3⟩, _⟩ := id B)
        go_region_held3 (fun w' => (w'.cell? ⟨w.heap.size, 0, none⟩ = some (.int .i64 n) ∧ w'.cell? ⟨w.heap.size, 1, none⟩ = some (.int .i64 d) ∧ w'.cell? ⟨w.heap.size + 1, 0, none⟩ = some (.int .i64 m) ∧ w'.cell? ⟨w.heap.size + 1, 1, none⟩ = some (.int .i64 e)) ∧ w.heap.size + 1 < w'.heap.size ∧ Below w.heap.size w w')
          (first
            | with_reducible assumption
            | with_reducible exact keep_pair (by with_reducible assumption) (by with_reducible assumption)
            | exact keep_pair (below_drew _) B)
          (first
            | (go_at_call 27; (with_reducible refine (ne _).mono ?_); rintro e w' ⟨rfl, hb⟩)
            | (go_at_call 36; (with_reducible refine (ac _).mono ?_); rintro e w' ⟨rfl, hb⟩))
        go_wp2_with fail
        go_ret
        exact ⟨rfl, below_of_pair (by with_reducible assumption)⟩

end Go.Proofs.YthlogaenbnhobaaDoor
