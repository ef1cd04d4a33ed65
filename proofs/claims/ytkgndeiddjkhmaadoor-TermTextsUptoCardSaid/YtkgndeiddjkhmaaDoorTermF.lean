/-
  The walks of package term's zero and Own. (Template: by-name.py fills it; gen/genF.py writes it.)
-/
import Derived.Test.YtkgndeiddjkhmaaDoorTermE
import Derived.Test.YtkgndeiddjkhmaaDoorNumH
namespace Go.Proofs.YtkgndeiddjkhmaaDoor
open Go.RowKit

/-- A term that a call answers, its row in its own memory. -/
def TermNew (w : World) (l : List (Int × Int)) (kn kd : Int) (e : Ending) (w' : World) : Prop := ∃ v, e = .returned (.agg #[v, .int .i64 kn, .int .i64 kd]) ∧ RatsAt w' v l ∧ Below w.heap.size w w' ∧ Fresh w.heap.size v

theorem RatsAt.setCell {w : World} {B : Nat} {v : Value} {l : List (Int × Int)} (h : RatsAt w v l) (f : Fresh B v) {p : Addr} (hp : p.block < B) (x : Value) : RatsAt (w.setCell p x) v l := by
  obtain ⟨A, c, rfl, h2, h3, h4⟩ := h
  refine ⟨A, c, rfl, h2, h3, h4.1, fun hn => ?_⟩
  obtain ⟨ad, rfl, hb, hc⟩ := h4.2 hn
  have := f ad.block rfl
  refine ⟨ad, rfl, by rw [World.size_setCell]; exact hb, fun j u hu => ?_⟩
  rw [World.cell?_setCell_other _ _ _ _ (fun e => by have := congrArg Addr.block e; rw [block_of_add] at this; omega)]
  exact hc j u hu

theorem trimL_len (l : List (Int × Int)) : (trimL l).length ≤ l.length := by
  unfold trimL
  rw [List.length_reverse]
  have := (List.dropWhile_sublist (fun x : Int × Int => x.1 == 0) (l := l.reverse)).length_le
  rwa [List.length_reverse] at this

set_option maxHeartbeats 1000000 in
theorem zero_any (w : World) : Calls Tryd.prog 30 #[] w fun r w' => r = .returned (.agg #[.slice none 0 0, .int .i64 0, .int .i64 1]) ∧ Below w.heap.size w w' := by
  go_enter Tryd.func30, Tryd.ntmps30
  go_wp2_with fail
  exact bodyPost_ret (v := .agg #[.slice none 0 0, .int .i64 0, .int .i64 1]) (by simp [results, Tryd.results30, go_sem]) rfl ⟨rfl, below_alloc1 _ _⟩

theorem keep_own {w w1 w2 : World} {x0 x1 x2 : Value} (hb : Below w1.heap.size w1 w2)
    (h : (w1.cell? ⟨w.heap.size, 0, none⟩ = some x0 ∧ w1.cell? ⟨w.heap.size, 1, none⟩ = some x1 ∧ w1.cell? ⟨w.heap.size, 2, none⟩ = some x2) ∧ w.heap.size + 1 < w1.heap.size ∧ Below w.heap.size w w1 ∧ (w1.cell? ⟨w.heap.size + 1, 0, none⟩ = some (cellD w1 ⟨w.heap.size + 1, 0, none⟩) ∧ w1.cell? ⟨w.heap.size + 1, 1, none⟩ = some (cellD w1 ⟨w.heap.size + 1, 1, none⟩) ∧ w1.cell? ⟨w.heap.size + 1, 2, none⟩ = some (cellD w1 ⟨w.heap.size + 1, 2, none⟩)) ∧ (w1.frozen? ⟨w.heap.size + 1, 0, none⟩ = false ∧ w1.frozen? ⟨w.heap.size + 1, 1, none⟩ = false ∧ w1.frozen? ⟨w.heap.size + 1, 2, none⟩ = false)) :
    (w2.cell? ⟨w.heap.size, 0, none⟩ = some x0 ∧ w2.cell? ⟨w.heap.size, 1, none⟩ = some x1 ∧ w2.cell? ⟨w.heap.size, 2, none⟩ = some x2) ∧ w.heap.size + 1 < w2.heap.size ∧ Below w.heap.size w w2 ∧ (w2.cell? ⟨w.heap.size + 1, 0, none⟩ = some (cellD w2 ⟨w.heap.size + 1, 0, none⟩) ∧ w2.cell? ⟨w.heap.size + 1, 1, none⟩ = some (cellD w2 ⟨w.heap.size + 1, 1, none⟩) ∧ w2.cell? ⟨w.heap.size + 1, 2, none⟩ = some (cellD w2 ⟨w.heap.size + 1, 2, none⟩)) ∧ (w2.frozen? ⟨w.heap.size + 1, 0, none⟩ = false ∧ w2.frozen? ⟨w.heap.size + 1, 1, none⟩ = false ∧ w2.frozen? ⟨w.heap.size + 1, 2, none⟩ = false) := by
  obtain ⟨⟨a0, a1, a2⟩, g, k, ⟨i0, i1, i2⟩, ⟨j0, j1, j2⟩⟩ := h
  have hs := hb.size
  exact ⟨⟨keep_cell hb (by omega) a0, keep_cell hb (by omega) a1, keep_cell hb (by omega) a2⟩, by omega, k.trans (hb.mono k.size), ⟨cellD_of (keep_cell hb (by omega) i0), cellD_of (keep_cell hb (by omega) i1), cellD_of (keep_cell hb (by omega) i2)⟩, ⟨keep_free hb (by omega) j0, keep_free hb (by omega) j1, keep_free hb (by omega) j2⟩⟩

theorem set_own1 {w w1 : World} {x0 x1 x2 : Value} {o : Nat} {x : Value}
    (h : (w1.cell? ⟨w.heap.size, 0, none⟩ = some x0 ∧ w1.cell? ⟨w.heap.size, 1, none⟩ = some x1 ∧ w1.cell? ⟨w.heap.size, 2, none⟩ = some x2) ∧ w.heap.size + 1 < w1.heap.size ∧ Below w.heap.size w w1 ∧ (w1.cell? ⟨w.heap.size + 1, 0, none⟩ = some (cellD w1 ⟨w.heap.size + 1, 0, none⟩) ∧ w1.cell? ⟨w.heap.size + 1, 1, none⟩ = some (cellD w1 ⟨w.heap.size + 1, 1, none⟩) ∧ w1.cell? ⟨w.heap.size + 1, 2, none⟩ = some (cellD w1 ⟨w.heap.size + 1, 2, none⟩)) ∧ (w1.frozen? ⟨w.heap.size + 1, 0, none⟩ = false ∧ w1.frozen? ⟨w.heap.size + 1, 1, none⟩ = false ∧ w1.frozen? ⟨w.heap.size + 1, 2, none⟩ = false)) :
    ((w1.setCell ⟨w.heap.size + 1, o, none⟩ x).cell? ⟨w.heap.size, 0, none⟩ = some x0 ∧ (w1.setCell ⟨w.heap.size + 1, o, none⟩ x).cell? ⟨w.heap.size, 1, none⟩ = some x1 ∧ (w1.setCell ⟨w.heap.size + 1, o, none⟩ x).cell? ⟨w.heap.size, 2, none⟩ = some x2) ∧ w.heap.size + 1 < (w1.setCell ⟨w.heap.size + 1, o, none⟩ x).heap.size ∧ Below w.heap.size w (w1.setCell ⟨w.heap.size + 1, o, none⟩ x) ∧ ((w1.setCell ⟨w.heap.size + 1, o, none⟩ x).cell? ⟨w.heap.size + 1, 0, none⟩ = some (cellD (w1.setCell ⟨w.heap.size + 1, o, none⟩ x) ⟨w.heap.size + 1, 0, none⟩) ∧ (w1.setCell ⟨w.heap.size + 1, o, none⟩ x).cell? ⟨w.heap.size + 1, 1, none⟩ = some (cellD (w1.setCell ⟨w.heap.size + 1, o, none⟩ x) ⟨w.heap.size + 1, 1, none⟩) ∧ (w1.setCell ⟨w.heap.size + 1, o, none⟩ x).cell? ⟨w.heap.size + 1, 2, none⟩ = some (cellD (w1.setCell ⟨w.heap.size + 1, o, none⟩ x) ⟨w.heap.size + 1, 2, none⟩)) ∧ ((w1.setCell ⟨w.heap.size + 1, o, none⟩ x).frozen? ⟨w.heap.size + 1, 0, none⟩ = false ∧ (w1.setCell ⟨w.heap.size + 1, o, none⟩ x).frozen? ⟨w.heap.size + 1, 1, none⟩ = false ∧ (w1.setCell ⟨w.heap.size + 1, o, none⟩ x).frozen? ⟨w.heap.size + 1, 2, none⟩ = false) := by
  obtain ⟨⟨a0, a1, a2⟩, g, k, ⟨i0, i1, i2⟩, ⟨j0, j1, j2⟩⟩ := h
  have q : ∀ b o', b ≠ w.heap.size + 1 → (w1.setCell ⟨w.heap.size + 1, o, none⟩ x).cell? ⟨b, o', none⟩ = w1.cell? ⟨b, o', none⟩ := fun b o' hb => World.cell?_setCell_other _ _ _ _ (by intro e; injection e with e; exact hb e.symm)
  exact ⟨⟨(q _ _ (by omega)).trans a0, (q _ _ (by omega)).trans a1, (q _ _ (by omega)).trans a2⟩, by rw [World.size_setCell]; exact g, k.setCell (by show w.heap.size ≤ w.heap.size + 1; omega) _, ⟨cellD_set i0, cellD_set i1, cellD_set i2⟩, ⟨by rw [World.frozen?_setCell]; exact j0, by rw [World.frozen?_setCell]; exact j1, by rw [World.frozen?_setCell]; exact j2⟩⟩


theorem own_start (w : World) (A : Option Addr) (n c : Nat) (kn kd : Int) : ((((w.alloc (.cells #[.slice A n c, .int .i64 kn, .int .i64 kd] 26)).alloc (.cells #[.slice none 0 0, .int .i64 0, .int .i64 0] 26))).cell? ⟨w.heap.size, 0, none⟩ = some (.slice A n c) ∧ (((w.alloc (.cells #[.slice A n c, .int .i64 kn, .int .i64 kd] 26)).alloc (.cells #[.slice none 0 0, .int .i64 0, .int .i64 0] 26))).cell? ⟨w.heap.size, 1, none⟩ = some (.int .i64 kn) ∧ (((w.alloc (.cells #[.slice A n c, .int .i64 kn, .int .i64 kd] 26)).alloc (.cells #[.slice none 0 0, .int .i64 0, .int .i64 0] 26))).cell? ⟨w.heap.size, 2, none⟩ = some (.int .i64 kd)) ∧ w.heap.size + 1 < (((w.alloc (.cells #[.slice A n c, .int .i64 kn, .int .i64 kd] 26)).alloc (.cells #[.slice none 0 0, .int .i64 0, .int .i64 0] 26))).heap.size ∧ Below w.heap.size w (((w.alloc (.cells #[.slice A n c, .int .i64 kn, .int .i64 kd] 26)).alloc (.cells #[.slice none 0 0, .int .i64 0, .int .i64 0] 26))) ∧ ((((w.alloc (.cells #[.slice A n c, .int .i64 kn, .int .i64 kd] 26)).alloc (.cells #[.slice none 0 0, .int .i64 0, .int .i64 0] 26))).cell? ⟨w.heap.size + 1, 0, none⟩ = some (cellD (((w.alloc (.cells #[.slice A n c, .int .i64 kn, .int .i64 kd] 26)).alloc (.cells #[.slice none 0 0, .int .i64 0, .int .i64 0] 26))) ⟨w.heap.size + 1, 0, none⟩) ∧ (((w.alloc (.cells #[.slice A n c, .int .i64 kn, .int .i64 kd] 26)).alloc (.cells #[.slice none 0 0, .int .i64 0, .int .i64 0] 26))).cell? ⟨w.heap.size + 1, 1, none⟩ = some (cellD (((w.alloc (.cells #[.slice A n c, .int .i64 kn, .int .i64 kd] 26)).alloc (.cells #[.slice none 0 0, .int .i64 0, .int .i64 0] 26))) ⟨w.heap.size + 1, 1, none⟩) ∧ (((w.alloc (.cells #[.slice A n c, .int .i64 kn, .int .i64 kd] 26)).alloc (.cells #[.slice none 0 0, .int .i64 0, .int .i64 0] 26))).cell? ⟨w.heap.size + 1, 2, none⟩ = some (cellD (((w.alloc (.cells #[.slice A n c, .int .i64 kn, .int .i64 kd] 26)).alloc (.cells #[.slice none 0 0, .int .i64 0, .int .i64 0] 26))) ⟨w.heap.size + 1, 2, none⟩)) ∧ ((((w.alloc (.cells #[.slice A n c, .int .i64 kn, .int .i64 kd] 26)).alloc (.cells #[.slice none 0 0, .int .i64 0, .int .i64 0] 26))).frozen? ⟨w.heap.size + 1, 0, none⟩ = false ∧ (((w.alloc (.cells #[.slice A n c, .int .i64 kn, .int .i64 kd] 26)).alloc (.cells #[.slice none 0 0, .int .i64 0, .int .i64 0] 26))).frozen? ⟨w.heap.size + 1, 1, none⟩ = false ∧ (((w.alloc (.cells #[.slice A n c, .int .i64 kn, .int .i64 kd] 26)).alloc (.cells #[.slice none 0 0, .int .i64 0, .int .i64 0] 26))).frozen? ⟨w.heap.size + 1, 2, none⟩ = false) :=
  ⟨⟨by go_simp, by go_simp, by go_simp⟩, by simp, below_alloc2 _ _ _, ⟨cellD_of (v := .slice none 0 0) (by go_simp), cellD_of (v := .int .i64 0) (by go_simp), cellD_of (v := .int .i64 0) (by go_simp)⟩, ⟨by go_simp, by go_simp, by go_simp⟩⟩

theorem one_belowT {w w1 : World} {A B C : Prop} (h : A ∧ B ∧ Below w.heap.size w w1 ∧ C) : Below w.heap.size w w1 := h.2.2.1

set_option maxRecDepth 4000 in
set_option maxHeartbeats 2000000 in
theorem own_right (w : World) (v : Value) (l : List (Int × Int)) (kn kd : Int) (h : RatsAt w v l) (hw : Wide l) (h1 : -9223372036854775808 ≤ kn) (h2 : kn ≤ 9223372036854775807) (h3 : -9223372036854775808 ≤ kd) (h4 : kd ≤ 9223372036854775807) (hr : rightT l kn kd = true) :
    Calls Tryd.prog 17 #[.agg #[v, .int .i64 kn, .int .i64 kd]] w (TermNew w (trimL l) kn kd) := by
  have hl : l.length ≤ 8 := by
    unfold rightT at hr
    simp only [Bool.and_eq_true, decide_eq_true_eq] at hr
    exact hr.1.1
  have rt := fun (w' : World) (hb : Below w.heap.size w w') => tright_any w' v l kn kd (h.below hb) hw h1 h2 h3 h4
  rw [hr] at rt
  have tr := Lib.hid (fun (w' : World) (hb : Below w.heap.size w w') => trimmed_any w' v l (h.below hb))
  obtain ⟨A, c, rfl, _, _, _⟩ := id h
  have CL := Lib.hid (fun (w' : World) (v' : Value) (h' : RatsAt w' v' (trimL l)) => clone_any w' v' (trimL l) h' (by have := trimL_len l; omega))
  generalize l.length = n at *
  generalize trimL l = tl at *
  have HS := own_start w A n c kn kd
  have RT := Lib.hid rt
  clear h hw h1 h2 h3 h4 hr hl rt
  have hb0 := below_alloc2 w (.cells #[.slice A n c, .int .i64 kn, .int .i64 kd] 26) (.cells #[.slice none 0 0, .int .i64 0, .int .i64 0] 26)
  go_enter Tryd.func17, Tryd.ntmps17
  go_upto_region 3 with (go_at_call 15; (with_reducible refine (RT.out _ hb0).mono ?_); rintro e w1 ⟨rfl, hb⟩)
  have HS := keep_own (hb.trans (below_drew w1 |>.mono hb.size)) HS
  have hz := HS.2.1
  clear hb0 hb
  go_region_held3 (fun w' => (w'.cell? ⟨w.heap.size, 0, none⟩ = some (.slice A n c) ∧ w'.cell? ⟨w.heap.size, 1, none⟩ = some (.int .i64 kn) ∧ w'.cell? ⟨w.heap.size, 2, none⟩ = some (.int .i64 kd)) ∧ w.heap.size + 1 < w'.heap.size ∧ Below w.heap.size w w' ∧ (w'.cell? ⟨w.heap.size + 1, 0, none⟩ = some (cellD w' ⟨w.heap.size + 1, 0, none⟩) ∧ w'.cell? ⟨w.heap.size + 1, 1, none⟩ = some (cellD w' ⟨w.heap.size + 1, 1, none⟩) ∧ w'.cell? ⟨w.heap.size + 1, 2, none⟩ = some (cellD w' ⟨w.heap.size + 1, 2, none⟩)) ∧ (w'.frozen? ⟨w.heap.size + 1, 0, none⟩ = false ∧ w'.frozen? ⟨w.heap.size + 1, 1, none⟩ = false ∧ w'.frozen? ⟨w.heap.size + 1, 2, none⟩ = false))
    (first
      | with_reducible assumption
      | with_reducible exact keep_own (by with_reducible assumption) (by with_reducible assumption)
      | with_reducible exact set_own1 (set_own1 (set_own1 (by with_reducible assumption))))
    (first
      | (go_at_call 36; (with_reducible refine (tr.out _ (one_belowT (by with_reducible assumption))).mono ?_); rintro e w2 ⟨v2, rfl, hv2, rfl, _⟩; obtain ⟨A2, c2, rfl, hr2⟩ := id hv2; clear hr2; have HV2 := Lib.hid hv2; clear hv2)
      | (go_at_call 35; (with_reducible refine (CL.out _ _ HV2.out).mono ?_); rintro e w3 ⟨v3, rfl, hv3, hb3, hf3⟩; obtain ⟨A3, c3, rfl, hr3⟩ := id hv3; clear hr3; have HV3 := Lib.hid (And.intro hv3 hf3); clear hv3 hf3))
  go_wp2_with fail
  obtain ⟨c0, c1, c2, hB⟩ := three_result (w := w) rfl (by with_reducible assumption)
  have f3 : Fresh (w.heap.size + 2) (.slice A3 tl.length c3) := HV3.out.2.mono hz
  refine bodyPost_ret (v := .agg #[.slice A3 tl.length c3, .int .i64 kn, .int .i64 kd]) (by simp [results, Tryd.results17, go_sem, c0, c1, c2]) rfl ⟨_, rfl, ?_, hB, f3.mono (by omega)⟩
  exact (((HV3.out.1.setCell f3 (by show w.heap.size + 1 < _; omega) _).setCell f3 (by show w.heap.size + 1 < _; omega) _).setCell f3 (by show w.heap.size + 1 < _; omega) _)

set_option maxRecDepth 4000 in
set_option maxHeartbeats 2000000 in
theorem own_wrong (w : World) (v : Value) (l : List (Int × Int)) (kn kd : Int) (h : RatsAt w v l) (hw : Wide l) (h1 : -9223372036854775808 ≤ kn) (h2 : kn ≤ 9223372036854775807) (h3 : -9223372036854775808 ≤ kd) (h4 : kd ≤ 9223372036854775807) (hr : rightT l kn kd = false) :
    Calls Tryd.prog 17 #[.agg #[v, .int .i64 kn, .int .i64 kd]] w (TermNew w [] 0 1) := by
  have rt := fun (w' : World) (hb : Below w.heap.size w w') => tright_any w' v l kn kd (h.below hb) hw h1 h2 h3 h4
  rw [hr] at rt
  obtain ⟨A, c, rfl, _, _, _⟩ := id h
  generalize l.length = n at *
  have HS := own_start w A n c kn kd
  have RT := Lib.hid rt
  have ZE := Lib.hid zero_any
  clear h hw h1 h2 h3 h4 hr rt
  have hb0 := below_alloc2 w (.cells #[.slice A n c, .int .i64 kn, .int .i64 kd] 26) (.cells #[.slice none 0 0, .int .i64 0, .int .i64 0] 26)
  go_enter Tryd.func17, Tryd.ntmps17
  go_wp2_with (first
    | (go_at_call 15; (with_reducible refine (RT.out _ hb0).mono ?_); rintro e w1 ⟨rfl, hb⟩; have HS := keep_own hb HS)
    | (go_at_call 30; (with_reducible refine (ZE.out _).mono ?_); rintro e w2 ⟨rfl, hb2⟩; have HS := keep_own hb2 HS; obtain ⟨_, hz, _, ⟨i0, i1, i2⟩, ⟨j0, j1, j2⟩⟩ := id HS))
  obtain ⟨c0, c1, c2, hB⟩ := three_result (w := w) rfl (set_own1 (o := 2) (x := .int .i64 1) (set_own1 (o := 1) (x := .int .i64 0) (set_own1 (o := 0) (x := .slice none 0 0) HS)))
  exact bodyPost_ret (v := .agg #[.slice none 0 0, .int .i64 0, .int .i64 1]) (by simp [results, Tryd.results17, go_sem, c0, c1, c2]) rfl ⟨_, rfl, RatsAt.nil _, hB, Fresh.none_ _ _ _⟩
end Go.Proofs.YtkgndeiddjkhmaaDoor
