/-
  The walk of package rat's New at any two numbers. (Template: by-name.py fills it.)
-/
import Derived.Test.YtehdhplmfgfnkaaDoorRatL
namespace Go.Proofs.YtehdhplmfgfnkaaDoor
open Go.RowKit

theorem keep_hole {w w1 w2 : World} (hb : Below w1.heap.size w1 w2)
    (h : w.heap.size < w1.heap.size ∧ Below w.heap.size w w1 ∧ (w1.cell? ⟨w.heap.size, 0, none⟩ = some (cellD w1 ⟨w.heap.size, 0, none⟩) ∧ w1.cell? ⟨w.heap.size, 1, none⟩ = some (cellD w1 ⟨w.heap.size, 1, none⟩)) ∧ (w1.frozen? ⟨w.heap.size, 0, none⟩ = false ∧ w1.frozen? ⟨w.heap.size, 1, none⟩ = false)) :
    w.heap.size < w2.heap.size ∧ Below w.heap.size w w2 ∧ (w2.cell? ⟨w.heap.size, 0, none⟩ = some (cellD w2 ⟨w.heap.size, 0, none⟩) ∧ w2.cell? ⟨w.heap.size, 1, none⟩ = some (cellD w2 ⟨w.heap.size, 1, none⟩)) ∧ (w2.frozen? ⟨w.heap.size, 0, none⟩ = false ∧ w2.frozen? ⟨w.heap.size, 1, none⟩ = false) := by
  obtain ⟨g, k, ⟨i0, i1⟩, j0, j1⟩ := h
  have hs := hb.size
  have q : ∀ o, w2.cell? ⟨w.heap.size, o, none⟩ = w1.cell? ⟨w.heap.size, o, none⟩ := fun o => hb.cell (p := ⟨w.heap.size, o, none⟩) g
  have r : ∀ o, w2.frozen? ⟨w.heap.size, o, none⟩ = w1.frozen? ⟨w.heap.size, o, none⟩ := fun o => hb.frozen (p := ⟨w.heap.size, o, none⟩) g
  exact ⟨by omega, k.trans (hb.mono k.size), ⟨cellD_of ((q _).trans i0), cellD_of ((q _).trans i1)⟩, by rw [r]; exact j0, by rw [r]; exact j1⟩

theorem set_hole {w w1 : World} {o : Nat} {x : Value}
    (h : w.heap.size < w1.heap.size ∧ Below w.heap.size w w1 ∧ (w1.cell? ⟨w.heap.size, 0, none⟩ = some (cellD w1 ⟨w.heap.size, 0, none⟩) ∧ w1.cell? ⟨w.heap.size, 1, none⟩ = some (cellD w1 ⟨w.heap.size, 1, none⟩)) ∧ (w1.frozen? ⟨w.heap.size, 0, none⟩ = false ∧ w1.frozen? ⟨w.heap.size, 1, none⟩ = false)) :
    w.heap.size < (w1.setCell ⟨w.heap.size, o, none⟩ x).heap.size ∧ Below w.heap.size w (w1.setCell ⟨w.heap.size, o, none⟩ x) ∧ ((w1.setCell ⟨w.heap.size, o, none⟩ x).cell? ⟨w.heap.size, 0, none⟩ = some (cellD (w1.setCell ⟨w.heap.size, o, none⟩ x) ⟨w.heap.size, 0, none⟩) ∧ (w1.setCell ⟨w.heap.size, o, none⟩ x).cell? ⟨w.heap.size, 1, none⟩ = some (cellD (w1.setCell ⟨w.heap.size, o, none⟩ x) ⟨w.heap.size, 1, none⟩)) ∧ ((w1.setCell ⟨w.heap.size, o, none⟩ x).frozen? ⟨w.heap.size, 0, none⟩ = false ∧ (w1.setCell ⟨w.heap.size, o, none⟩ x).frozen? ⟨w.heap.size, 1, none⟩ = false) := by
  obtain ⟨g, k, ⟨i0, i1⟩, j0, j1⟩ := h
  exact ⟨by rw [World.size_setCell]; exact g, k.setCell (Nat.le_refl _) _, ⟨cellD_set i0, cellD_set i1⟩, by rw [World.frozen?_setCell]; exact j0, by rw [World.frozen?_setCell]; exact j1⟩

theorem hole_result {w1 f : World} {b : Nat} {x y : Value} {A B F : Prop} (hf : f = (w1.setCell ⟨b, 0, none⟩ x).setCell ⟨b, 1, none⟩ y)
    (h : A ∧ B ∧ (f.cell? ⟨b, 0, none⟩ = some (cellD f ⟨b, 0, none⟩) ∧ f.cell? ⟨b, 1, none⟩ = some (cellD f ⟨b, 1, none⟩)) ∧ F) :
    f.cell? ⟨b, 0, none⟩ = some x ∧ f.cell? ⟨b, 1, none⟩ = some y ∧ B := by
  obtain ⟨_, k, ⟨i0, i1⟩, _⟩ := h
  subst hf
  refine ⟨?_, i1.trans (congrArg some (cell_set_rev i1)), k⟩
  have e := i0
  rw [set_two (by decide)] at e
  exact i0.trans (congrArg some (cell_set_rev e))

theorem start_hole (w : World) (nd : Nat) : w.heap.size < ((w.alloc (.cells #[.int .i64 0, .int .i64 0] 23)).drewN nd).heap.size ∧ Below w.heap.size w ((w.alloc (.cells #[.int .i64 0, .int .i64 0] 23)).drewN nd) ∧
    (((w.alloc (.cells #[.int .i64 0, .int .i64 0] 23)).drewN nd).cell? ⟨w.heap.size, 0, none⟩ = some (cellD ((w.alloc (.cells #[.int .i64 0, .int .i64 0] 23)).drewN nd) ⟨w.heap.size, 0, none⟩) ∧
      ((w.alloc (.cells #[.int .i64 0, .int .i64 0] 23)).drewN nd).cell? ⟨w.heap.size, 1, none⟩ = some (cellD ((w.alloc (.cells #[.int .i64 0, .int .i64 0] 23)).drewN nd) ⟨w.heap.size, 1, none⟩)) ∧
    (((w.alloc (.cells #[.int .i64 0, .int .i64 0] 23)).drewN nd).frozen? ⟨w.heap.size, 0, none⟩ = false ∧ ((w.alloc (.cells #[.int .i64 0, .int .i64 0] 23)).drewN nd).frozen? ⟨w.heap.size, 1, none⟩ = false) :=
  ⟨by simp, below_drewN (below_alloc1 _ _) _, ⟨cellD_of (v := .int .i64 0) (by go_simp), cellD_of (v := .int .i64 0) (by go_simp)⟩, by go_simp, by go_simp⟩

set_option maxHeartbeats 2000000 in
theorem new_any (n d : Int) (w : World) (h1 : -9223372036854775808 ≤ n) (h2 : n ≤ 9223372036854775807) (h3 : -9223372036854775808 ≤ d) (h4 : d ≤ 9223372036854775807) (h : d ≠ 0) :
    Calls Tryd.prog 11 #[.int .i64 n, .int .i64 d] w fun r w' => r = .returned (resV (if d < 0 then -n else n) d.natAbs) ∧ Below w.heap.size w w' := by
  have hd0 : 0 < d.natAbs := by omega
  have s1 := fun w => size_any n w h1 h2
  have s2 := fun w => size_any d w h3 h4
  have g1 := fun w => divisor_any n.natAbs d.natAbs w (by omega) (by omega)
  have gp : 0 < Nat.gcd n.natAbs d.natAbs := Nat.gcd_pos_of_pos_right _ hd0
  have q1 := first_digit n.natAbs (Nat.gcd n.natAbs d.natAbs) (by omega)
  have q2 := first_digit d.natAbs (Nat.gcd n.natAbs d.natAbs) (by omega)
  have l1 : n.natAbs / Nat.gcd n.natAbs d.natAbs ≤ n.natAbs := Nat.div_le_self _ _
  have l2 : d.natAbs / Nat.gcd n.natAbs d.natAbs ≤ d.natAbs := Nat.div_le_self _ _
  have fo := fun w => fit_any (!(decide (n < 0) == decide (d < 0))) (n.natAbs / Nat.gcd n.natAbs d.natAbs) (d.natAbs / Nat.gcd n.natAbs d.natAbs) w (by omega) (by omega)
  have hP : (if d < 0 then -n else n).natAbs = n.natAbs := by split <;> omega
  have e1 := Nat.div_mul_cancel (Nat.gcd_dvd_left n.natAbs d.natAbs)
  have e2 := Nat.div_mul_cancel (Nat.gcd_dvd_right n.natAbs d.natAbs)
  have fr := fit_res (P := if d < 0 then -n else n) (Q := d.natAbs) (x := n.natAbs / Nat.gcd n.natAbs d.natAbs) (y := d.natAbs / Nat.gcd n.natAbs d.natAbs) (s := !(decide (n < 0) == decide (d < 0))) hd0
    (Nat.div_pos (Nat.le_of_dvd hd0 (Nat.gcd_dvd_right _ _)) gp) (Nat.coprime_div_gcd_div_gcd gp)
    (by
      rw [hP]
      revert e1 e2
      generalize n.natAbs / Nat.gcd n.natAbs d.natAbs = a
      generalize d.natAbs / Nat.gcd n.natAbs d.natAbs = b
      generalize Nat.gcd n.natAbs d.natAbs = g
      intro e1 e2
      rw [← e1, ← e2]
      ac_rfl)
    (by
      intro hne
      by_cases s : n < 0 <;> by_cases t : d < 0 <;> simp only [s, t, if_true, if_false, decide_true, decide_false] at hne ⊢ <;> simp <;> omega)
  obtain ⟨f1, f2, f3⟩ := fr
  rw [f1, f2, f3] at fo
  generalize (if d < 0 then -n else n) = P at *
  clear f1 f2 f3 e1 e2 hP
  unfold resV
  generalize resN P d.natAbs = F1 at *
  generalize resD P d.natAbs = F2 at *
  generalize resE P d.natAbs = F3 at *
  have hg0 : ¬ Nat.gcd n.natAbs d.natAbs = 0 := by omega
  have hgi : (0 : Int) < ((Nat.gcd n.natAbs d.natAbs : Nat) : Int) := by omega
  generalize n.natAbs / Nat.gcd n.natAbs d.natAbs = x at *
  generalize d.natAbs / Nat.gcd n.natAbs d.natAbs = y at *
  generalize Nat.gcd n.natAbs d.natAbs = g at *
  have hd : (d == 0) = false := by simpa using h
  clear l1 l2 gp h1 h2 h3 h4 h hd0
  go_enter Tryd.func11, Tryd.ntmps11
  go_upto_region 5 with (first
    | (go_at_call 39; (first | with_reducible refine (s1 _).mono ?_ | with_reducible refine (s2 _).mono ?_); rintro e w' ⟨rfl, rfl⟩)
    | (go_at_call 40; (with_reducible refine (g1 _).mono ?_); rintro e w' ⟨rfl, nd, rfl⟩))
  go_region_held3 (fun w' => w.heap.size < w'.heap.size ∧ Below w.heap.size w w' ∧ (w'.cell? ⟨w.heap.size, 0, none⟩ = some (cellD w' ⟨w.heap.size, 0, none⟩) ∧ w'.cell? ⟨w.heap.size, 1, none⟩ = some (cellD w' ⟨w.heap.size, 1, none⟩)) ∧ (w'.frozen? ⟨w.heap.size, 0, none⟩ = false ∧ w'.frozen? ⟨w.heap.size, 1, none⟩ = false))
    (first
      | with_reducible assumption
      | with_reducible exact keep_hole (by with_reducible assumption) (by with_reducible assumption)
      | with_reducible exact set_hole (set_hole (by with_reducible assumption))
      | exact keep_hole (below_drew _) (start_hole w nd)
      | exact keep_hole (by with_reducible assumption) (start_hole w (nd + 1)))
    (first
      | (go_at_call 41; (with_reducible refine (fo _).mono ?_); rintro e w' ⟨rfl, hb⟩))
  go_wp2_with fail
  obtain ⟨c0, c1, hB⟩ := hole_result rfl (by with_reducible assumption)
  exact bodyPost_ret (v := .tuple #[ratV F1 F2, .int .i64 F3]) (by simp [results, Tryd.results11, go_sem, c0, c1]) rfl ⟨rfl, hB⟩

set_option maxHeartbeats 400000 in
theorem new_nought (n : Int) (w : World) :
    Calls Tryd.prog 11 #[.int .i64 n, .int .i64 0] w fun r w' => r = .returned (.tuple #[ratV 0 0, .int .i64 2]) ∧ Below w.heap.size w w' := by
  go_enter Tryd.func11, Tryd.ntmps11
  go_wp2_with fail
  exact bodyPost_ret (v := .tuple #[ratV 0 0, .int .i64 2]) (by simp [results, Tryd.results11, go_sem]) rfl ⟨rfl, below_alloc1 _ _⟩
end Go.Proofs.YtehdhplmfgfnkaaDoor
