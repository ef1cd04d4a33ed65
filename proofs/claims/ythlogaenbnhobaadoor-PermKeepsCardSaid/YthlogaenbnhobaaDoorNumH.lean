/-
  The walks of the reference's From, To: fractions of long numbers. (Template: by-name.py fills it.)
-/
import Derived.Test.YthlogaenbnhobaaDoorNumG
namespace Go.Proofs.YthlogaenbnhobaaDoor
open Go.RowKit

/-- A fraction of long numbers, in memory from B on. -/
def FracAt (w : World) (B : Nat) (v : Value) (N D : Nat) (m : Bool) : Prop := ∃ vn vd, v = .agg #[vn, vd, .bool m] ∧ NumAt w vn (bitsOf N) ∧ NumAt w vd (bitsOf D) ∧ Fresh B vn ∧ Fresh B vd

theorem FracAt.below {w w' : World} {B : Nat} {v : Value} {N D : Nat} {m : Bool} (h : FracAt w B v N D m) (hb : Below w.heap.size w w') : FracAt w' B v N D m := by
  obtain ⟨a, b, h1, h2, h3, h4⟩ := h
  exact ⟨a, b, h1, h2.below hb, h3.below hb, h4⟩

/-- A fraction that a call answers, in its own memory, in a world where all that is older is as it was. -/
def FracNew (w : World) (N D : Nat) (m : Bool) (e : Ending) (w' : World) : Prop := ∃ v, e = .returned v ∧ FracAt w' w.heap.size v N D m ∧ Below w.heap.size w w'

theorem NumAt.drew {w : World} {v : Value} {l : List Bool} (h : NumAt w v l) : NumAt w.drew v l := h

/-- A store ahead of the number's memory. -/
theorem NumAt.setCell {w : World} {B : Nat} {v : Value} {l : List Bool} (h : NumAt w v l) (f : Fresh B v) {p : Addr} (hp : p.block < B) (x : Value) : NumAt (w.setCell p x) v l := by
  obtain ⟨A, c, rfl, h2, h3, h4⟩ := h
  refine ⟨A, c, rfl, h2, h3, h4.1, fun hn => ?_⟩
  obtain ⟨ad, rfl, hb, hc⟩ := h4.2 hn
  have := f ad.block rfl
  refine ⟨ad, rfl, by rw [World.size_setCell]; exact hb, fun j u hu => ?_⟩
  rw [World.cell?_setCell_other _ _ _ _ (fun e => by have := congrArg Addr.block e; rw [block_of_add] at this; omega)]
  exact hc j u hu

/-- The result lies in its place behind three stores. -/
theorem three_result {w w1 f : World} {b : Nat} {x y z : Value} {A B F : Prop} (hf : f = ((w1.setCell ⟨b, 0, none⟩ x).setCell ⟨b, 1, none⟩ y).setCell ⟨b, 2, none⟩ z)
    (h : A ∧ B ∧ Below w.heap.size w f ∧ (f.cell? ⟨b, 0, none⟩ = some (cellD f ⟨b, 0, none⟩) ∧ f.cell? ⟨b, 1, none⟩ = some (cellD f ⟨b, 1, none⟩) ∧ f.cell? ⟨b, 2, none⟩ = some (cellD f ⟨b, 2, none⟩)) ∧ F) :
    f.cell? ⟨b, 0, none⟩ = some x ∧ f.cell? ⟨b, 1, none⟩ = some y ∧ f.cell? ⟨b, 2, none⟩ = some z ∧ Below w.heap.size w f := by
  obtain ⟨_, _, k, ⟨i0, i1, i2⟩, _⟩ := h
  subst hf
  obtain ⟨e0, e1, e2⟩ := three_set i0 i1 i2
  exact ⟨i0.trans (congrArg some e0), i1.trans (congrArg some e1), i2.trans (congrArg some e2), k⟩

theorem keep_from {w w1 w2 : World} {x0 x1 : Value} (hb : Below w1.heap.size w1 w2)
    (h : (w1.cell? ⟨w.heap.size, 0, none⟩ = some x0 ∧ w1.cell? ⟨w.heap.size, 1, none⟩ = some x1) ∧ w.heap.size + 1 < w1.heap.size ∧ Below w.heap.size w w1 ∧ (w1.cell? ⟨w.heap.size + 1, 0, none⟩ = some (cellD w1 ⟨w.heap.size + 1, 0, none⟩) ∧ w1.cell? ⟨w.heap.size + 1, 1, none⟩ = some (cellD w1 ⟨w.heap.size + 1, 1, none⟩) ∧ w1.cell? ⟨w.heap.size + 1, 2, none⟩ = some (cellD w1 ⟨w.heap.size + 1, 2, none⟩)) ∧ (w1.frozen? ⟨w.heap.size + 1, 0, none⟩ = false ∧ w1.frozen? ⟨w.heap.size + 1, 1, none⟩ = false ∧ w1.frozen? ⟨w.heap.size + 1, 2, none⟩ = false)) :
    (w2.cell? ⟨w.heap.size, 0, none⟩ = some x0 ∧ w2.cell? ⟨w.heap.size, 1, none⟩ = some x1) ∧ w.heap.size + 1 < w2.heap.size ∧ Below w.heap.size w w2 ∧ (w2.cell? ⟨w.heap.size + 1, 0, none⟩ = some (cellD w2 ⟨w.heap.size + 1, 0, none⟩) ∧ w2.cell? ⟨w.heap.size + 1, 1, none⟩ = some (cellD w2 ⟨w.heap.size + 1, 1, none⟩) ∧ w2.cell? ⟨w.heap.size + 1, 2, none⟩ = some (cellD w2 ⟨w.heap.size + 1, 2, none⟩)) ∧ (w2.frozen? ⟨w.heap.size + 1, 0, none⟩ = false ∧ w2.frozen? ⟨w.heap.size + 1, 1, none⟩ = false ∧ w2.frozen? ⟨w.heap.size + 1, 2, none⟩ = false) := by
  obtain ⟨⟨a0, a1⟩, g, k, ⟨i0, i1, i2⟩, ⟨j0, j1, j2⟩⟩ := h
  have hs := hb.size
  exact ⟨⟨keep_cell hb (by omega) a0, keep_cell hb (by omega) a1⟩, by omega, k.trans (hb.mono k.size), ⟨cellD_of (keep_cell hb (by omega) i0), cellD_of (keep_cell hb (by omega) i1), cellD_of (keep_cell hb (by omega) i2)⟩, ⟨keep_free hb (by omega) j0, keep_free hb (by omega) j1, keep_free hb (by omega) j2⟩⟩

theorem set_from1 {w w1 : World} {x0 x1 : Value} {o : Nat} {x : Value}
    (h : (w1.cell? ⟨w.heap.size, 0, none⟩ = some x0 ∧ w1.cell? ⟨w.heap.size, 1, none⟩ = some x1) ∧ w.heap.size + 1 < w1.heap.size ∧ Below w.heap.size w w1 ∧ (w1.cell? ⟨w.heap.size + 1, 0, none⟩ = some (cellD w1 ⟨w.heap.size + 1, 0, none⟩) ∧ w1.cell? ⟨w.heap.size + 1, 1, none⟩ = some (cellD w1 ⟨w.heap.size + 1, 1, none⟩) ∧ w1.cell? ⟨w.heap.size + 1, 2, none⟩ = some (cellD w1 ⟨w.heap.size + 1, 2, none⟩)) ∧ (w1.frozen? ⟨w.heap.size + 1, 0, none⟩ = false ∧ w1.frozen? ⟨w.heap.size + 1, 1, none⟩ = false ∧ w1.frozen? ⟨w.heap.size + 1, 2, none⟩ = false)) :
    ((w1.setCell ⟨w.heap.size + 1, o, none⟩ x).cell? ⟨w.heap.size, 0, none⟩ = some x0 ∧ (w1.setCell ⟨w.heap.size + 1, o, none⟩ x).cell? ⟨w.heap.size, 1, none⟩ = some x1) ∧ w.heap.size + 1 < (w1.setCell ⟨w.heap.size + 1, o, none⟩ x).heap.size ∧ Below w.heap.size w (w1.setCell ⟨w.heap.size + 1, o, none⟩ x) ∧ ((w1.setCell ⟨w.heap.size + 1, o, none⟩ x).cell? ⟨w.heap.size + 1, 0, none⟩ = some (cellD (w1.setCell ⟨w.heap.size + 1, o, none⟩ x) ⟨w.heap.size + 1, 0, none⟩) ∧ (w1.setCell ⟨w.heap.size + 1, o, none⟩ x).cell? ⟨w.heap.size + 1, 1, none⟩ = some (cellD (w1.setCell ⟨w.heap.size + 1, o, none⟩ x) ⟨w.heap.size + 1, 1, none⟩) ∧ (w1.setCell ⟨w.heap.size + 1, o, none⟩ x).cell? ⟨w.heap.size + 1, 2, none⟩ = some (cellD (w1.setCell ⟨w.heap.size + 1, o, none⟩ x) ⟨w.heap.size + 1, 2, none⟩)) ∧ ((w1.setCell ⟨w.heap.size + 1, o, none⟩ x).frozen? ⟨w.heap.size + 1, 0, none⟩ = false ∧ (w1.setCell ⟨w.heap.size + 1, o, none⟩ x).frozen? ⟨w.heap.size + 1, 1, none⟩ = false ∧ (w1.setCell ⟨w.heap.size + 1, o, none⟩ x).frozen? ⟨w.heap.size + 1, 2, none⟩ = false) := by
  obtain ⟨⟨a0, a1⟩, g, k, ⟨i0, i1, i2⟩, ⟨j0, j1, j2⟩⟩ := h
  have q : ∀ b o', b ≠ w.heap.size + 1 → (w1.setCell ⟨w.heap.size + 1, o, none⟩ x).cell? ⟨b, o', none⟩ = w1.cell? ⟨b, o', none⟩ := fun b o' hb => World.cell?_setCell_other _ _ _ _ (by intro e; injection e with e; exact hb e.symm)
  exact ⟨⟨(q _ _ (by omega)).trans a0, (q _ _ (by omega)).trans a1⟩, by rw [World.size_setCell]; exact g, k.setCell (by show w.heap.size ≤ w.heap.size + 1; omega) _, ⟨cellD_set i0, cellD_set i1, cellD_set i2⟩, ⟨by rw [World.frozen?_setCell]; exact j0, by rw [World.frozen?_setCell]; exact j1, by rw [World.frozen?_setCell]; exact j2⟩⟩

set_option maxHeartbeats 2000000 in
theorem from_num (n d : Int) (w : World) (h1 : -9223372036854775808 ≤ n) (h2 : n ≤ 9223372036854775807) (h3 : -9223372036854775808 ≤ d) (h4 : d ≤ 9223372036854775807) :
    Calls Tryd.prog 17 #[ratV n d] w (FracNew w n.natAbs d.natAbs (decide (n < 0))) := by
  have s1 := fun w => rsize_any n w h1 h2
  have s2 := fun w => rsize_any d w h3 h4
  clear h1 h2 h3 h4
  generalize n.natAbs = N at *
  generalize d.natAbs = D at *
  go_enter Tryd.func17, Tryd.ntmps17
  go_upto_region 1 with fail
  go_region_held3 (fun w' => (w'.cell? ⟨w.heap.size, 0, none⟩ = some (.int .i64 n) ∧ w'.cell? ⟨w.heap.size, 1, none⟩ = some (.int .i64 d)) ∧ w.heap.size + 1 < w'.heap.size ∧ Below w.heap.size w w' ∧ (w'.cell? ⟨w.heap.size + 1, 0, none⟩ = some (cellD w' ⟨w.heap.size + 1, 0, none⟩) ∧ w'.cell? ⟨w.heap.size + 1, 1, none⟩ = some (cellD w' ⟨w.heap.size + 1, 1, none⟩) ∧ w'.cell? ⟨w.heap.size + 1, 2, none⟩ = some (cellD w' ⟨w.heap.size + 1, 2, none⟩)) ∧ (w'.frozen? ⟨w.heap.size + 1, 0, none⟩ = false ∧ w'.frozen? ⟨w.heap.size + 1, 1, none⟩ = false ∧ w'.frozen? ⟨w.heap.size + 1, 2, none⟩ = false))
    (first
      | with_reducible assumption
      | with_reducible exact keep_from (by with_reducible assumption) (by with_reducible assumption)
      | with_reducible exact set_from1 (set_from1 (set_from1 (by with_reducible assumption)))
      | exact ⟨⟨by go_simp, by go_simp⟩, by simp, (below_alloc2 _ _ _).drew, ⟨cellD_of (v := .slice none 0 0) (by go_simp), cellD_of (v := .slice none 0 0) (by go_simp), cellD_of (v := .bool false) (by go_simp)⟩, ⟨by go_simp, by go_simp, by go_simp⟩⟩)
    (first
      | (go_at_call 29; (with_reducible refine (s1 _).mono ?_); rintro e wa ⟨v1, rfl, hv1, hb1, hf1⟩; have hs1 := hv1; obtain ⟨A1, e1, rfl, _⟩ := hs1; have HV1 := Lib.hid (And.intro hv1 hf1); clear hv1 hf1)
      | (go_at_call 29; (with_reducible refine (s2 _).mono ?_); rintro e wb ⟨v2, rfl, hv2, hb2, hf2⟩; have hs2 := hv2; obtain ⟨A2, e2, rfl, _⟩ := hs2; have HV2 := Lib.hid (And.intro hv2 hf2); clear hv2 hf2))
  go_wp2_with fail
  have n1 := HV1.out.1.below hb2
  have n2 := HV2.out.1
  have z1 := hb1.size
  have z2 := hb2.size
  simp at z1 z2
  have f1 := HV1.out.2.mono (B' := w.heap.size + 2) (by simp)
  have f2 := HV2.out.2.mono (B' := w.heap.size + 2) (by simpa using z1)
  obtain ⟨c0, c1, c2, hB⟩ := three_result (w := w) rfl (by with_reducible assumption)
  refine bodyPost_ret (v := .agg #[.slice A1 (bitsOf N).length e1, .slice A2 (bitsOf D).length e2, .bool (decide (n < 0))]) (by simp [results, Tryd.results17, go_sem, c0, c1, c2]) rfl ⟨_, rfl, ⟨_, _, rfl, ?_, ?_, f1.mono (by omega), f2.mono (by omega)⟩, hB⟩
  · exact (((n1.setCell f1 (by show w.heap.size + 1 < _; omega) _).setCell f1 (by show w.heap.size + 1 < _; omega) _).setCell f1 (by show w.heap.size + 1 < _; omega) _)
  · exact (((n2.setCell f2 (by show w.heap.size + 1 < _; omega) _).setCell f2 (by show w.heap.size + 1 < _; omega) _).setCell f2 (by show w.heap.size + 1 < _; omega) _)
end Go.Proofs.YthlogaenbnhobaaDoor
