/-
  Words for the walk of package term's combined. (Template: by-name.py fills it; gen/genComb.py writes it.)
-/
import Derived.Test.YtkinbbhbencipaaJC
import Derived.OwnWalk
import Derived.Deep.LoopGhost
import Derived.Deep.RegionHeld3
namespace Go.Proofs.Ytkinbbhbencipaa
open Go.RowKit

instance combOkDec (h : How) (l m : List (Int × Int)) (k : Nat) : Decidable (combOk h l m k) := by unfold combOk; infer_instance

/-- A term and an error that a call answers, the term's row in its own memory. -/
def TermPut (w : World) (l : List (Int × Int)) (k : Int × Int) (E : Int) (e : Ending) (w' : World) : Prop :=
  ∃ v, e = .returned (.tuple #[.agg #[v, .int .i64 k.1, .int .i64 k.2], .int .i64 E]) ∧ RatsAt w' v l ∧ Below w.heap.size w w' ∧ Fresh w.heap.size v

/-- Two parameters and a result in their blocks. -/
theorem three_boxes (w : World) (x y z x' y' z' x2 y2 z2 : Value) (ty : TypeId) : FracBox (((w.alloc (.cells #[x, y, z] ty)).alloc (.cells #[x', y', z'] ty)).alloc (.cells #[x2, y2, z2] ty)) w.heap.size x y z ∧ FracBox (((w.alloc (.cells #[x, y, z] ty)).alloc (.cells #[x', y', z'] ty)).alloc (.cells #[x2, y2, z2] ty)) (w.heap.size + 1) x' y' z' ∧ FracBox (((w.alloc (.cells #[x, y, z] ty)).alloc (.cells #[x', y', z'] ty)).alloc (.cells #[x2, y2, z2] ty)) (w.heap.size + 1 + 1) x2 y2 z2 ∧
    Below w.heap.size w (((w.alloc (.cells #[x, y, z] ty)).alloc (.cells #[x', y', z'] ty)).alloc (.cells #[x2, y2, z2] ty)) := by
  obtain ⟨F, G⟩ := two_boxes w x y z x' y' z' ty
  have h := FracBox.start ((w.alloc (.cells #[x, y, z] ty)).alloc (.cells #[x', y', z'] ty)) x2 y2 z2 ty
  rw [World.size_alloc, World.size_alloc] at h
  have a := below_alloc1 ((w.alloc (.cells #[x, y, z] ty)).alloc (.cells #[x', y', z'] ty)) (.cells #[x2, y2, z2] ty)
  exact ⟨F.keep a, G.keep a, h, (below_alloc2 w _ _).trans (a.mono (by simp; omega))⟩

theorem FracBox.keepB {w1 w2 : World} {b B : Nat} {x y z : Value} (h : FracBox w1 b x y z) (hb : Below B w1 w2) (hlt : b < B) : FracBox w2 b x y z :=
  have t := hb.size
  have l := h.lt
  { k0 := (hb.cell (p := ⟨b, 0, none⟩) hlt).trans h.k0, k1 := (hb.cell (p := ⟨b, 1, none⟩) hlt).trans h.k1, k2 := (hb.cell (p := ⟨b, 2, none⟩) hlt).trans h.k2,
    l0 := (hb.frozen (p := ⟨b, 0, none⟩) hlt).trans h.l0, l1 := (hb.frozen (p := ⟨b, 1, none⟩) hlt).trans h.l1, l2 := (hb.frozen (p := ⟨b, 2, none⟩) hlt).trans h.l2, lt := by omega }
theorem RatAt.keepB {w1 w2 : World} {b B : Nat} {n d : Int} (h : RatAt w1 b n d) (hb : Below B w1 w2) (hlt : b < B) : RatAt w2 b n d :=
  have z := hb.size
  have l := h.lt
  { k0 := (hb.cell (p := ⟨b, 0, none⟩) hlt).trans h.k0, k1 := (hb.cell (p := ⟨b, 1, none⟩) hlt).trans h.k1, lt := by omega }
theorem own_belowR {w w1 : World} {base n : Nat} {v : Value} {xs : List Value} (h : w.ownsRow base 25 2 v n xs) (hb : Below w.heap.size w w1) : w1.ownsRow base 25 2 v n xs := by
  refine ⟨h.1, ?_⟩
  rcases h.2 with h2 | ⟨g, cap, cur, hv, hg, hh, r⟩
  · exact .inl h2
  · exact .inr ⟨g, cap, cur, hv, hg, by rw [hb.block g (by
      rcases Nat.lt_or_ge g w.heap.size with q | q
      · exact q
      · rw [Array.getElem?_eq_none q] at hh; cases hh)]; exact hh, r⟩

/-- A row that a call answers, in the memory of the row that it was handed. -/
def RatsLike (w : World) (v : Value) (l : List (Int × Int)) (e : Ending) (w' : World) : Prop := ∃ v', e = .returned v' ∧ RatsAt w' v' l ∧ Below w.heap.size w w' ∧ v'.ownBlock = v.ownBlock
theorem trimmed_like (w : World) (v : Value) (l : List (Int × Int)) (h : RatsAt w v l) : Calls Try.prog 77 #[v] w (RatsLike w v (trimL l)) :=
  (trimmed_any w v l h).mono fun _ _ h => by
    obtain ⟨v', he, hr, rfl, ho⟩ := h
    exact ⟨v', he, hr, Below.refl _ _, ho⟩

/-- What stands in 'combined' behind the first call: the parameters, the result, the constant, the row. -/
structure CombS (w wr : World) (b n : Nat) (s : Value) (xn xd : Int) (t : Value) (yn yd zn zd : Int) : Prop where
  F : FracBox wr w.heap.size s (.int .i64 xn) (.int .i64 xd)
  G : FracBox wr (w.heap.size + 1) t (.int .i64 yn) (.int .i64 yd)
  E : FracBox wr (w.heap.size + 1 + 1) (.slice none 0 0) (.int .i64 0) (.int .i64 0)
  R : RatAt wr b zn zd
  o : ∃ xs, wr.ownsRow (w.heap.size + 3) 25 2 (.slice (some ⟨b + 1, 0, none⟩) n n) n xs
  lt : w.heap.size + 1 + 1 < b
  below : Below w.heap.size w wr

section
variable {w wr w2 : World} {b n : Nat} {s t : Value} {xn xd yn yd zn zd : Int}
theorem CombS.keep (h : CombS w wr b n s xn xd t yn yd zn zd) (hb : Below wr.heap.size wr w2) : CombS w w2 b n s xn xd t yn yd zn zd :=
  ⟨h.F.keep hb, h.G.keep hb, h.E.keep hb, h.R.keep hb, by
    obtain ⟨xs, hx⟩ := h.o
    exact ⟨xs, own_belowR hx hb⟩, h.lt, h.below.trans (hb.mono h.below.size)⟩
theorem CombS.set (h : CombS w wr b n s xn xd t yn yd zn zd) (j : Nat) (u : Value) : CombS w (wr.setCell ⟨b + 1, j, none⟩ u) b n s xn xd t yn yd zn zd := by
  have hl := h.lt
  have hb : Below (b + 1) wr (wr.setCell ⟨b + 1, j, none⟩ u) := (Below.refl (b + 1) wr).setCell (p := ⟨b + 1, j, none⟩) (Nat.le_refl (b + 1)) u
  obtain ⟨xs, hx⟩ := h.o
  exact ⟨h.F.keepB hb (by omega), h.G.keepB hb (by omega), h.E.keepB hb (by omega), h.R.keepB hb (by omega), ⟨_, (hx.stored j u).1⟩, hl, h.below.trans (hb.mono (by omega))⟩
theorem CombS.row (h : CombS w wr b n s xn xd t yn yd zn zd) {j : Nat} (hj : j < n * 2) : wr.cell? ⟨b + 1, j, none⟩ = some (cellD wr ⟨b + 1, j, none⟩) ∧ wr.frozen? ⟨b + 1, j, none⟩ = false := by
  obtain ⟨xs, hx⟩ := h.o
  have hl := hx.1
  exact ⟨cellD_of ((hx.cellAt j hj).trans (List.getElem?_eq_getElem (by omega))), hx.frozenAt j⟩
/-- .. with the cells written out, for the round's region. -/
theorem CombS.cells {k : Nat} (hk : k < n) (h : CombS w wr b n s xn xd t yn yd zn zd) :
    (((wr.cell? ⟨w.heap.size, 0, none⟩ = some s ∧ wr.cell? ⟨w.heap.size, 1, none⟩ = some (.int .i64 xn) ∧ wr.cell? ⟨w.heap.size, 2, none⟩ = some (.int .i64 xd)) ∧ (wr.cell? ⟨w.heap.size + 1, 0, none⟩ = some t ∧ wr.cell? ⟨w.heap.size + 1, 1, none⟩ = some (.int .i64 yn) ∧ wr.cell? ⟨w.heap.size + 1, 2, none⟩ = some (.int .i64 yd))) ∧
      ((wr.cell? ⟨b + 1, k * 2, none⟩ = some (cellD wr ⟨b + 1, k * 2, none⟩) ∧ wr.cell? ⟨b + 1, k * 2 + 1, none⟩ = some (cellD wr ⟨b + 1, k * 2 + 1, none⟩)) ∧ (wr.frozen? ⟨b + 1, k * 2, none⟩ = false ∧ wr.frozen? ⟨b + 1, k * 2 + 1, none⟩ = false))) ∧ CombS w wr b n s xn xd t yn yd zn zd :=
  have r0 := h.row (j := k * 2) (by omega)
  have r1 := h.row (j := k * 2 + 1) (by omega)
  ⟨⟨⟨⟨h.F.k0, h.F.k1, h.F.k2⟩, ⟨h.G.k0, h.G.k1, h.G.k2⟩⟩, ⟨⟨r0.1, r1.1⟩, ⟨r0.2, r1.2⟩⟩⟩, h⟩
theorem comb_of {A : Prop} (h : A ∧ CombS w wr b n s xn xd t yn yd zn zd) : CombS w wr b n s xn xd t yn yd zn zd := h.2
end

/-- What stands in the last region: the constant, the result's room. -/
structure EndS (w wr : World) (b : Nat) (zn zd : Int) : Prop where
  R : RatAt wr b zn zd
  c0 : wr.cell? ⟨w.heap.size + 1 + 1, 0, none⟩ = some (cellD wr ⟨w.heap.size + 1 + 1, 0, none⟩)
  c1 : wr.cell? ⟨w.heap.size + 1 + 1, 1, none⟩ = some (cellD wr ⟨w.heap.size + 1 + 1, 1, none⟩)
  c2 : wr.cell? ⟨w.heap.size + 1 + 1, 2, none⟩ = some (cellD wr ⟨w.heap.size + 1 + 1, 2, none⟩)
  l0 : wr.frozen? ⟨w.heap.size + 1 + 1, 0, none⟩ = false
  l1 : wr.frozen? ⟨w.heap.size + 1 + 1, 1, none⟩ = false
  l2 : wr.frozen? ⟨w.heap.size + 1 + 1, 2, none⟩ = false
  sz : w.heap.size + 1 + 1 < wr.heap.size
  lt : w.heap.size + 1 + 1 < b
  below : Below w.heap.size w wr

section
variable {w wr w2 : World} {b : Nat} {zn zd : Int}
theorem EndS.keep (h : EndS w wr b zn zd) (hb : Below wr.heap.size wr w2) : EndS w w2 b zn zd :=
  have z := hb.size
  have s := h.sz
  ⟨h.R.keep hb, cellD_of (keep_cell hb s h.c0), cellD_of (keep_cell hb s h.c1), cellD_of (keep_cell hb s h.c2), keep_free hb s h.l0, keep_free hb s h.l1, keep_free hb s h.l2, by omega, h.lt, h.below.trans (hb.mono h.below.size)⟩
theorem EndS.set (h : EndS w wr b zn zd) (o : Nat) (x : Value) : EndS w (wr.setCell ⟨w.heap.size + 1 + 1, o, none⟩ x) b zn zd := by
  have hl := h.lt
  have q : ∀ o', (wr.setCell ⟨w.heap.size + 1 + 1, o, none⟩ x).cell? ⟨b, o', none⟩ = wr.cell? ⟨b, o', none⟩ := fun o' => World.cell?_setCell_far _ _ _ _ (by show w.heap.size + 1 + 1 ≠ b; omega)
  exact ⟨⟨(q 0).trans h.R.k0, (q 1).trans h.R.k1, by rw [World.size_setCell]; exact h.R.lt⟩, cellD_set h.c0, cellD_set h.c1, cellD_set h.c2, by rw [World.frozen?_setCell]; exact h.l0, by rw [World.frozen?_setCell]; exact h.l1, by rw [World.frozen?_setCell]; exact h.l2, by rw [World.size_setCell]; exact h.sz, hl, h.below.setCell (by show w.heap.size ≤ w.heap.size + 1 + 1; omega) _⟩
theorem EndS.cells (h : EndS w wr b zn zd) : ((wr.cell? ⟨b, 0, none⟩ = some (.int .i64 zn) ∧ wr.cell? ⟨b, 1, none⟩ = some (.int .i64 zd)) ∧
    (wr.cell? ⟨w.heap.size + 1 + 1, 0, none⟩ = some (cellD wr ⟨w.heap.size + 1 + 1, 0, none⟩) ∧ wr.cell? ⟨w.heap.size + 1 + 1, 1, none⟩ = some (cellD wr ⟨w.heap.size + 1 + 1, 1, none⟩) ∧ wr.cell? ⟨w.heap.size + 1 + 1, 2, none⟩ = some (cellD wr ⟨w.heap.size + 1 + 1, 2, none⟩)) ∧
    (wr.frozen? ⟨w.heap.size + 1 + 1, 0, none⟩ = false ∧ wr.frozen? ⟨w.heap.size + 1 + 1, 1, none⟩ = false ∧ wr.frozen? ⟨w.heap.size + 1 + 1, 2, none⟩ = false)) ∧ EndS w wr b zn zd :=
  ⟨⟨⟨h.R.k0, h.R.k1⟩, ⟨h.c0, h.c1, h.c2⟩, ⟨h.l0, h.l1, h.l2⟩⟩, h⟩
theorem end_of {A : Prop} (h : A ∧ EndS w wr b zn zd) : EndS w wr b zn zd := h.2
theorem end_result {f w1 : World} {x y z : Value} (hf : f = ((w1.setCell ⟨w.heap.size + 1 + 1, 0, none⟩ x).setCell ⟨w.heap.size + 1 + 1, 1, none⟩ y).setCell ⟨w.heap.size + 1 + 1, 2, none⟩ z) (h : EndS w f b zn zd) :
    f.cell? ⟨w.heap.size + 1 + 1, 0, none⟩ = some x ∧ f.cell? ⟨w.heap.size + 1 + 1, 1, none⟩ = some y ∧ f.cell? ⟨w.heap.size + 1 + 1, 2, none⟩ = some z ∧ Below w.heap.size w f := by
  have i0 := h.c0; have i1 := h.c1; have i2 := h.c2; have k := h.below
  subst hf
  obtain ⟨e0, e1, e2⟩ := three_set i0 i1 i2
  exact ⟨i0.trans (congrArg some e0), i1.trans (congrArg some e1), i2.trans (congrArg some e2), k⟩
end

theorem CombS.ends {w wr : World} {b n : Nat} {s t : Value} {xn xd yn yd zn zd : Int} (h : CombS w wr b n s xn xd t yn yd zn zd) : EndS w wr b zn zd :=
  ⟨h.R, cellD_of h.E.k0, cellD_of h.E.k1, cellD_of h.E.k2, h.E.l0, h.E.l1, h.E.l2, h.E.lt, h.lt, h.below⟩
theorem set_three {w1 : World} {b : Nat} {x y z u0 u1 u2 : Value} (h0 : w1.cell? ⟨b, 0, none⟩ = some u0) (h1 : w1.cell? ⟨b, 1, none⟩ = some u1) (h2 : w1.cell? ⟨b, 2, none⟩ = some u2) :
    (((w1.setCell ⟨b, 0, none⟩ x).setCell ⟨b, 1, none⟩ y).setCell ⟨b, 2, none⟩ z).cell? ⟨b, 0, none⟩ = some x ∧ (((w1.setCell ⟨b, 0, none⟩ x).setCell ⟨b, 1, none⟩ y).setCell ⟨b, 2, none⟩ z).cell? ⟨b, 1, none⟩ = some y ∧ (((w1.setCell ⟨b, 0, none⟩ x).setCell ⟨b, 1, none⟩ y).setCell ⟨b, 2, none⟩ z).cell? ⟨b, 2, none⟩ = some z := by
  obtain ⟨v0, g0⟩ := cell?_setCell_some (p := ⟨b, 2, none⟩) (x := z) (cell?_setCell_some (p := ⟨b, 1, none⟩) (x := y) (cell?_setCell_some (p := ⟨b, 0, none⟩) (x := x) h0).choose_spec).choose_spec
  obtain ⟨v1, g1⟩ := cell?_setCell_some (p := ⟨b, 2, none⟩) (x := z) (cell?_setCell_some (p := ⟨b, 1, none⟩) (x := y) (cell?_setCell_some (p := ⟨b, 0, none⟩) (x := x) h1).choose_spec).choose_spec
  obtain ⟨v2, g2⟩ := cell?_setCell_some (p := ⟨b, 2, none⟩) (x := z) (cell?_setCell_some (p := ⟨b, 1, none⟩) (x := y) (cell?_setCell_some (p := ⟨b, 0, none⟩) (x := x) h2).choose_spec).choose_spec
  obtain ⟨e0, e1, e2⟩ := three_set g0 g1 g2
  exact ⟨g0.trans (congrArg some e0), g1.trans (congrArg some e1), g2.trans (congrArg some e2)⟩
end Go.Proofs.Ytkinbbhbencipaa
