/-
  The walk of package term's Same at right terms of one constant. (Template: by-name.py fills it; gen/genTJ.py writes it.)
-/
import Derived.Test.YtkgndeiddjkhmaaDoorTermF
namespace Go.Proofs.YtkgndeiddjkhmaaDoor
open Go.RowKit

theorem keep_same {w w1 w2 : World} {x0 x1 x2 y0 y1 y2 : Value} (hb : Below w1.heap.size w1 w2)
    (h : (w1.cell? ⟨w.heap.size, 0, none⟩ = some x0 ∧ w1.cell? ⟨w.heap.size, 1, none⟩ = some x1 ∧ w1.cell? ⟨w.heap.size, 2, none⟩ = some x2 ∧ w1.cell? ⟨w.heap.size + 1, 0, none⟩ = some y0 ∧ w1.cell? ⟨w.heap.size + 1, 1, none⟩ = some y1 ∧ w1.cell? ⟨w.heap.size + 1, 2, none⟩ = some y2) ∧ w.heap.size + 1 < w1.heap.size ∧ Below w.heap.size w w1) :
    (w2.cell? ⟨w.heap.size, 0, none⟩ = some x0 ∧ w2.cell? ⟨w.heap.size, 1, none⟩ = some x1 ∧ w2.cell? ⟨w.heap.size, 2, none⟩ = some x2 ∧ w2.cell? ⟨w.heap.size + 1, 0, none⟩ = some y0 ∧ w2.cell? ⟨w.heap.size + 1, 1, none⟩ = some y1 ∧ w2.cell? ⟨w.heap.size + 1, 2, none⟩ = some y2) ∧ w.heap.size + 1 < w2.heap.size ∧ Below w.heap.size w w2 := by
  obtain ⟨⟨a0, a1, a2, a3, a4, a5⟩, g, k⟩ := h
  have hs := hb.size
  exact ⟨⟨keep_cell hb (by omega) a0, keep_cell hb (by omega) a1, keep_cell hb (by omega) a2, keep_cell hb (by omega) a3, keep_cell hb (by omega) a4, keep_cell hb (by omega) a5⟩, by omega, k.trans (hb.mono k.size)⟩


theorem same_start (w : World) (A A' : Option Addr) (n c n' c' : Nat) (kn kd : Int) : ((((w.alloc (.cells #[.slice A n c, .int .i64 kn, .int .i64 kd] 26)).alloc (.cells #[.slice A' n' c', .int .i64 kn, .int .i64 kd] 26))).cell? ⟨w.heap.size, 0, none⟩ = some (.slice A n c) ∧ (((w.alloc (.cells #[.slice A n c, .int .i64 kn, .int .i64 kd] 26)).alloc (.cells #[.slice A' n' c', .int .i64 kn, .int .i64 kd] 26))).cell? ⟨w.heap.size, 1, none⟩ = some (.int .i64 kn) ∧ (((w.alloc (.cells #[.slice A n c, .int .i64 kn, .int .i64 kd] 26)).alloc (.cells #[.slice A' n' c', .int .i64 kn, .int .i64 kd] 26))).cell? ⟨w.heap.size, 2, none⟩ = some (.int .i64 kd) ∧ (((w.alloc (.cells #[.slice A n c, .int .i64 kn, .int .i64 kd] 26)).alloc (.cells #[.slice A' n' c', .int .i64 kn, .int .i64 kd] 26))).cell? ⟨w.heap.size + 1, 0, none⟩ = some (.slice A' n' c') ∧ (((w.alloc (.cells #[.slice A n c, .int .i64 kn, .int .i64 kd] 26)).alloc (.cells #[.slice A' n' c', .int .i64 kn, .int .i64 kd] 26))).cell? ⟨w.heap.size + 1, 1, none⟩ = some (.int .i64 kn) ∧ (((w.alloc (.cells #[.slice A n c, .int .i64 kn, .int .i64 kd] 26)).alloc (.cells #[.slice A' n' c', .int .i64 kn, .int .i64 kd] 26))).cell? ⟨w.heap.size + 1, 2, none⟩ = some (.int .i64 kd)) ∧ w.heap.size + 1 < (((w.alloc (.cells #[.slice A n c, .int .i64 kn, .int .i64 kd] 26)).alloc (.cells #[.slice A' n' c', .int .i64 kn, .int .i64 kd] 26))).heap.size ∧ Below w.heap.size w (((w.alloc (.cells #[.slice A n c, .int .i64 kn, .int .i64 kd] 26)).alloc (.cells #[.slice A' n' c', .int .i64 kn, .int .i64 kd] 26))) :=
  ⟨⟨by go_simp, by go_simp, by go_simp, by go_simp, by go_simp, by go_simp⟩, by simp, below_alloc2 _ _ _⟩

theorem same_below {w w1 : World} {A B : Prop} (h : A ∧ B ∧ Below w.heap.size w w1) : Below w.heap.size w w1 := h.2.2

set_option maxRecDepth 4000 in
set_option maxHeartbeats 4000000 in
theorem same_right (w : World) (v v' : Value) (l m : List (Int × Int)) (kn kd : Int) (h : RatsAt w v l) (hw : Wide l) (h' : RatsAt w v' m) (hw' : Wide m) (h1 : -9223372036854775808 ≤ kn) (h2 : kn ≤ 9223372036854775807) (h3 : -9223372036854775808 ≤ kd) (h4 : kd ≤ 9223372036854775807) (hr : rightT l kn kd = true) (hr' : rightT m kn kd = true) :
    Calls Tryd.prog 26 #[.agg #[v, .int .i64 kn, .int .i64 kd], .agg #[v', .int .i64 kn, .int .i64 kd]] w fun r w' => r = .returned (.bool (decide (trimL l = trimL m))) ∧ Below w.heap.size w w' := by
  have ra := fun (w' : World) (hb : Below w.heap.size w w') => tright_any w' v l kn kd (h.below hb) hw h1 h2 h3 h4
  have rb := fun (w' : World) (hb : Below w.heap.size w w') => tright_any w' v' m kn kd (h'.below hb) hw' h1 h2 h3 h4
  rw [hr] at ra
  rw [hr'] at rb
  have RA := Lib.hid ra
  have RB := Lib.hid rb
  have TA := Lib.hid (fun (w' : World) (hb : Below w.heap.size w w') => trimmed_any w' v l (h.below hb))
  have TB := Lib.hid (fun (w' : World) (hb : Below w.heap.size w w') => trimmed_any w' v' m (h'.below hb))
  obtain ⟨A, c, rfl, _, _, _⟩ := id h
  obtain ⟨A', c', rfl, _, _, _⟩ := id h'
  generalize l.length = n at *
  generalize m.length = n' at *
  generalize trimL l = tl at *
  generalize trimL m = tm at *
  have HS := keep_same (below_drew _) (same_start w A A' n c n' c' kn kd)
  clear h h' hw hw' h1 h2 h3 h4 hr hr' ra rb
  go_enter Tryd.func26, Tryd.ntmps26
  go_upto_region 1 with fail
  go_region_held3 (fun w' => (w'.cell? ⟨w.heap.size, 0, none⟩ = some (.slice A n c) ∧ w'.cell? ⟨w.heap.size, 1, none⟩ = some (.int .i64 kn) ∧ w'.cell? ⟨w.heap.size, 2, none⟩ = some (.int .i64 kd) ∧ w'.cell? ⟨w.heap.size + 1, 0, none⟩ = some (.slice A' n' c') ∧ w'.cell? ⟨w.heap.size + 1, 1, none⟩ = some (.int .i64 kn) ∧ w'.cell? ⟨w.heap.size + 1, 2, none⟩ = some (.int .i64 kd)) ∧ w.heap.size + 1 < w'.heap.size ∧ Below w.heap.size w w')
    (first
      | with_reducible assumption
      | with_reducible exact keep_same (by with_reducible assumption) (by with_reducible assumption))
    (first
      | (go_at_call 15; (first | with_reducible refine (RA.out _ (same_below (by with_reducible assumption))).mono ?_ | with_reducible refine (RB.out _ (same_below (by with_reducible assumption))).mono ?_); rintro e w1 ⟨rfl, hb⟩)
      | (go_at_call 36; (with_reducible refine (TA.out _ (same_below (by with_reducible assumption))).mono ?_); rintro e w2 ⟨v2, rfl, hv2, rfl, _⟩; obtain ⟨A2, c2, rfl, hr2⟩ := id hv2; clear hr2; have HV2 := Lib.hid hv2; clear hv2)
      | (go_at_call 36; (with_reducible refine (TB.out _ (same_below (by with_reducible assumption))).mono ?_); rintro e w3 ⟨v3, rfl, hv3, rfl, _⟩; obtain ⟨A3, c3, rfl, hr3⟩ := id hv3; clear hr3; have HV3 := Lib.hid hv3; clear hv3)
      | (go_at_call 47; (with_reducible refine (equal_any _ _ _ _ _ HV2.out HV3.out).mono ?_); rintro e w4 ⟨rfl, hb4⟩))
  go_wp2_with fail
  go_ret
  exact ⟨rfl, same_below (by with_reducible assumption)⟩
end Go.Proofs.YtkgndeiddjkhmaaDoor
