/-
  The walk of the reference's sum of two fractions of long numbers. (Template: by-name.py fills it.)
-/
import Derived.Test.YthlogaenbnhobaaDoorNumI
namespace Go.Proofs.YthlogaenbnhobaaDoor
open Go.RowKit

theorem keep_sum {w w1 w2 : World} {x0 x1 x2 y0 y1 y2 z0 z1 z2 : Value} (hb : Below w1.heap.size w1 w2)
    (h : (w1.cell? ⟨w.heap.size, 0, none⟩ = some x0 ∧ w1.cell? ⟨w.heap.size, 1, none⟩ = some x1 ∧ w1.cell? ⟨w.heap.size, 2, none⟩ = some x2 ∧ w1.cell? ⟨w.heap.size + 1, 0, none⟩ = some y0 ∧ w1.cell? ⟨w.heap.size + 1, 1, none⟩ = some y1 ∧ w1.cell? ⟨w.heap.size + 1, 2, none⟩ = some y2 ∧ w1.cell? ⟨w.heap.size + 1 + 1, 0, none⟩ = some z0 ∧ w1.cell? ⟨w.heap.size + 1 + 1, 1, none⟩ = some z1 ∧ w1.cell? ⟨w.heap.size + 1 + 1, 2, none⟩ = some z2) ∧ w.heap.size + 2 < w1.heap.size ∧ Below w.heap.size w w1 ∧ (w1.frozen? ⟨w.heap.size + 1 + 1, 0, none⟩ = false ∧ w1.frozen? ⟨w.heap.size + 1 + 1, 1, none⟩ = false ∧ w1.frozen? ⟨w.heap.size + 1 + 1, 2, none⟩ = false)) :
    (w2.cell? ⟨w.heap.size, 0, none⟩ = some x0 ∧ w2.cell? ⟨w.heap.size, 1, none⟩ = some x1 ∧ w2.cell? ⟨w.heap.size, 2, none⟩ = some x2 ∧ w2.cell? ⟨w.heap.size + 1, 0, none⟩ = some y0 ∧ w2.cell? ⟨w.heap.size + 1, 1, none⟩ = some y1 ∧ w2.cell? ⟨w.heap.size + 1, 2, none⟩ = some y2 ∧ w2.cell? ⟨w.heap.size + 1 + 1, 0, none⟩ = some z0 ∧ w2.cell? ⟨w.heap.size + 1 + 1, 1, none⟩ = some z1 ∧ w2.cell? ⟨w.heap.size + 1 + 1, 2, none⟩ = some z2) ∧ w.heap.size + 2 < w2.heap.size ∧ Below w.heap.size w w2 ∧ (w2.frozen? ⟨w.heap.size + 1 + 1, 0, none⟩ = false ∧ w2.frozen? ⟨w.heap.size + 1 + 1, 1, none⟩ = false ∧ w2.frozen? ⟨w.heap.size + 1 + 1, 2, none⟩ = false) := by
  obtain ⟨⟨a0, a1, a2, a3, a4, a5, a6, a7, a8⟩, g, k, ⟨m0, m1, m2⟩⟩ := h
  have hs := hb.size
  exact ⟨⟨keep_cell hb (by omega) a0, keep_cell hb (by omega) a1, keep_cell hb (by omega) a2, keep_cell hb (by omega) a3, keep_cell hb (by omega) a4, keep_cell hb (by omega) a5, keep_cell hb (by omega) a6, keep_cell hb (by omega) a7, keep_cell hb (by omega) a8⟩, by omega, k.trans (hb.mono k.size), ⟨keep_free hb (by omega) m0, keep_free hb (by omega) m1, keep_free hb (by omega) m2⟩⟩

/-- The blocks of sum: both parameters, the result. -/
structure BoxS (w w1 : World) (x0 x1 x2 y0 y1 y2 z0 z1 z2 : Value) : Prop where
  c0 : w1.cell? ⟨w.heap.size, 0, none⟩ = some x0
  c1 : w1.cell? ⟨w.heap.size, 1, none⟩ = some x1
  c2 : w1.cell? ⟨w.heap.size, 2, none⟩ = some x2
  d0 : w1.cell? ⟨w.heap.size + 1, 0, none⟩ = some y0
  d1 : w1.cell? ⟨w.heap.size + 1, 1, none⟩ = some y1
  d2 : w1.cell? ⟨w.heap.size + 1, 2, none⟩ = some y2
  i0 : w1.cell? ⟨w.heap.size + 1 + 1, 0, none⟩ = some z0
  i1 : w1.cell? ⟨w.heap.size + 1 + 1, 1, none⟩ = some z1
  i2 : w1.cell? ⟨w.heap.size + 1 + 1, 2, none⟩ = some z2
  j0 : w1.frozen? ⟨w.heap.size + 1 + 1, 0, none⟩ = false
  j1 : w1.frozen? ⟨w.heap.size + 1 + 1, 1, none⟩ = false
  j2 : w1.frozen? ⟨w.heap.size + 1 + 1, 2, none⟩ = false
  size : w.heap.size + 2 < w1.heap.size
  below : Below w.heap.size w w1

theorem BoxS.keep {w w1 w2 : World} {x0 x1 x2 y0 y1 y2 z0 z1 z2 : Value} (h : BoxS w w1 x0 x1 x2 y0 y1 y2 z0 z1 z2) (hb : Below w1.heap.size w1 w2) : BoxS w w2 x0 x1 x2 y0 y1 y2 z0 z1 z2 :=
  have s := h.size
  have t := hb.size
  { c0 := keep_cell hb (by omega) h.c0, c1 := keep_cell hb (by omega) h.c1, c2 := keep_cell hb (by omega) h.c2
    d0 := keep_cell hb (by omega) h.d0, d1 := keep_cell hb (by omega) h.d1, d2 := keep_cell hb (by omega) h.d2
    i0 := keep_cell hb (by omega) h.i0, i1 := keep_cell hb (by omega) h.i1, i2 := keep_cell hb (by omega) h.i2
    j0 := keep_free hb (by omega) h.j0, j1 := keep_free hb (by omega) h.j1, j2 := keep_free hb (by omega) h.j2
    size := by omega, below := h.below.trans (hb.mono (by omega)) }

/-- A fraction of long numbers in its block. -/
structure FracBox (w1 : World) (b : Nat) (x y z : Value) : Prop where
  k0 : w1.cell? ⟨b, 0, none⟩ = some x
  k1 : w1.cell? ⟨b, 1, none⟩ = some y
  k2 : w1.cell? ⟨b, 2, none⟩ = some z
  l0 : w1.frozen? ⟨b, 0, none⟩ = false
  l1 : w1.frozen? ⟨b, 1, none⟩ = false
  l2 : w1.frozen? ⟨b, 2, none⟩ = false
  lt : b < w1.heap.size

theorem FracBox.keep {w1 w2 : World} {b : Nat} {x y z : Value} (h : FracBox w1 b x y z) (hb : Below w1.heap.size w1 w2) : FracBox w2 b x y z :=
  have t := hb.size
  have l := h.lt
  { k0 := keep_cell hb l h.k0, k1 := keep_cell hb l h.k1, k2 := keep_cell hb l h.k2, l0 := keep_free hb l h.l0, l1 := keep_free hb l h.l1, l2 := keep_free hb l h.l2, lt := by omega }

theorem FracBox.start (w : World) (x y z : Value) (ty : TypeId) : FracBox (w.alloc (.cells #[x, y, z] ty)) w.heap.size x y z where
  k0 := by go_simp
  k1 := by go_simp
  k2 := by go_simp
  l0 := by go_simp
  l1 := by go_simp
  l2 := by go_simp
  lt := by simp

theorem boxS_of {w w1 : World} {x0 x1 x2 y0 y1 y2 z0 z1 z2 : Value} (h : (w1.cell? ⟨w.heap.size, 0, none⟩ = some x0 ∧ w1.cell? ⟨w.heap.size, 1, none⟩ = some x1 ∧ w1.cell? ⟨w.heap.size, 2, none⟩ = some x2 ∧ w1.cell? ⟨w.heap.size + 1, 0, none⟩ = some y0 ∧ w1.cell? ⟨w.heap.size + 1, 1, none⟩ = some y1 ∧ w1.cell? ⟨w.heap.size + 1, 2, none⟩ = some y2 ∧ w1.cell? ⟨w.heap.size + 1 + 1, 0, none⟩ = some z0 ∧ w1.cell? ⟨w.heap.size + 1 + 1, 1, none⟩ = some z1 ∧ w1.cell? ⟨w.heap.size + 1 + 1, 2, none⟩ = some z2) ∧ w.heap.size + 2 < w1.heap.size ∧ Below w.heap.size w w1 ∧ (w1.frozen? ⟨w.heap.size + 1 + 1, 0, none⟩ = false ∧ w1.frozen? ⟨w.heap.size + 1 + 1, 1, none⟩ = false ∧ w1.frozen? ⟨w.heap.size + 1 + 1, 2, none⟩ = false)) : BoxS w w1 x0 x1 x2 y0 y1 y2 z0 z1 z2 := by
  obtain ⟨⟨a0, a1, a2, a3, a4, a5, a6, a7, a8⟩, g, k, m0, m1, m2⟩ := h
  exact ⟨a0, a1, a2, a3, a4, a5, a6, a7, a8, m0, m1, m2, g, k⟩

theorem sum_below {w w1 : World} {A B C : Prop} (h : A ∧ B ∧ Below w.heap.size w w1 ∧ C) : Below w.heap.size w w1 := h.2.2.1

/-- What sum answers, in the end. -/
theorem sum_close {w wc wd we : World} {b T Z : Nat} {v d : Value} {S : Bool} (hzk : ∀ w', Below b wc w' → NumAt w' d (bitsOf Z)) (hfz : Fresh (w.heap.size + 3) d) (hb2 : Below b wc wd) (hbe : Below wd.heap.size wd we)
    (hv : NumAt we v (bitsOf T)) (fv : Fresh wd.heap.size v) (hlt : b < wd.heap.size) (hsz : w.heap.size + 2 < b) (hbl : Below w.heap.size w we) (x y : Value) :
    FracNew w T Z S (.returned (.agg #[v, d, .bool S])) (((((we.setCell ⟨b, 0, none⟩ x).setCell ⟨b, 2, none⟩ y).setCell ⟨w.heap.size + 1 + 1, 0, none⟩ v).setCell ⟨w.heap.size + 1 + 1, 1, none⟩ d).setCell ⟨w.heap.size + 1 + 1, 2, none⟩ (.bool S)) := by
  have f2 := fv.mono (B' := b + 1) (by omega)
  refine ⟨_, rfl, ⟨v, d, rfl, ?_, ?_, f2.mono (by omega), hfz.mono (by omega)⟩, ?_⟩
  · exact ((((hv.setCell f2 (Nat.lt_succ_self _) _).setCell f2 (Nat.lt_succ_self _) _).setCell f2 (by show w.heap.size + 1 + 1 < _; omega) _).setCell f2 (by show w.heap.size + 1 + 1 < _; omega) _).setCell f2 (by show w.heap.size + 1 + 1 < _; omega) _
  · have h0 := hzk _ (((hb2.trans (hbe.mono (by omega))).setCell (p := ⟨b, 0, none⟩) (Nat.le_refl _) x).setCell (p := ⟨b, 2, none⟩) (Nat.le_refl _) y)
    exact ((h0.setCell hfz (by show w.heap.size + 1 + 1 < _; omega) _).setCell hfz (by show w.heap.size + 1 + 1 < _; omega) _).setCell hfz (by show w.heap.size + 1 + 1 < _; omega) _
  · exact ((((hbl.setCell (by show w.heap.size ≤ b; omega) _).setCell (by show w.heap.size ≤ b; omega) _).setCell (by show w.heap.size ≤ w.heap.size + 1 + 1; omega) _).setCell (by show w.heap.size ≤ w.heap.size + 1 + 1; omega) _).setCell (by show w.heap.size ≤ w.heap.size + 1 + 1; omega) _

set_option maxHeartbeats 4000000 in
theorem rsum_num (w : World) (Ba Bb : Nat) (va vb : Value) (N D M E : Nat) (s t : Bool) (ha : FracAt w Ba va N D s) (hb : FracAt w Bb vb M E t)
    (hN : (bitsOf N).length ≤ 70) (hD : (bitsOf D).length ≤ 70) (hM : (bitsOf M).length ≤ 70) (hE : (bitsOf E).length ≤ 70) :
    Calls Tryd.prog 19 #[va, vb] w (FracNew w (plusM s (N * E) t (M * D)) (D * E) (plusS s (N * E) t (M * D))) := by
  obtain ⟨v1, v2, rfl, h1, h2, _, _⟩ := ha
  obtain ⟨v3, v4, rfl, h3, h4, _, _⟩ := hb
  have m1 := fun (w1 : World) (hb : Below w.heap.size w w1) => mul_num w1 _ _ N E (h1.below hb) (h4.below hb) (by omega)
  have m2 := fun (w1 : World) (hb : Below w.heap.size w w1) => mul_num w1 _ _ M D (h3.below hb) (h2.below hb) (by omega)
  have m3 := fun (w1 : World) (hb : Below w.heap.size w w1) => mul_num w1 _ _ D E (h2.below hb) (h4.below hb) (by omega)
  have l1 := (mul_small (a := N) (lb := bitsOf E) (k := 0) rfl 140 (by omega)).2
  have l2 := (mul_small (a := M) (lb := bitsOf D) (k := 0) rfl 140 (by omega)).2
  have l3 := (mul_small (a := D) (lb := bitsOf E) (k := 0) rfl 140 (by omega)).2
  rw [List.drop_zero, natOf_bitsOf] at l1 l2 l3
  obtain ⟨A1, e1, rfl, _, _, _⟩ := h1
  obtain ⟨A2, e2, rfl, _, _, _⟩ := h2
  obtain ⟨A3, e3, rfl, _, _, _⟩ := h3
  obtain ⟨A4, e4, rfl, _, _, _⟩ := h4
  obtain ⟨T, hT⟩ : ∃ T, T = plusM s (N * E) t (M * D) := ⟨_, rfl⟩
  obtain ⟨S, hS⟩ : ∃ S, S = plusS s (N * E) t (M * D) := ⟨_, rfl⟩
  rw [← hT, ← hS]
  unfold plusM at hT
  unfold plusS at hS
  generalize N * E = X at *
  generalize M * D = Y at *
  generalize D * E = Z at *
  have hl := Lib.hid (And.intro l1 (And.intro l2 l3))
  have HT := Lib.hid (And.intro hT hS)
  clear l1 l2 l3 hN hD hM hE hT hS
  go_enter Tryd.func19, Tryd.ntmps19
  go_upto_region 1 with fail
  go_region_held3 (fun w' => (w'.cell? ⟨w.heap.size, 0, none⟩ = some (.slice A1 (bitsOf N).length e1) ∧ w'.cell? ⟨w.heap.size, 1, none⟩ = some (.slice A2 (bitsOf D).length e2) ∧ w'.cell? ⟨w.heap.size, 2, none⟩ = some (.bool s) ∧ w'.cell? ⟨w.heap.size + 1, 0, none⟩ = some (.slice A3 (bitsOf M).length e3) ∧ w'.cell? ⟨w.heap.size + 1, 1, none⟩ = some (.slice A4 (bitsOf E).length e4) ∧ w'.cell? ⟨w.heap.size + 1, 2, none⟩ = some (.bool t) ∧ w'.cell? ⟨w.heap.size + 1 + 1, 0, none⟩ = some (.slice none 0 0) ∧ w'.cell? ⟨w.heap.size + 1 + 1, 1, none⟩ = some (.slice none 0 0) ∧ w'.cell? ⟨w.heap.size + 1 + 1, 2, none⟩ = some (.bool false)) ∧ w.heap.size + 2 < w'.heap.size ∧ Below w.heap.size w w' ∧ (w'.frozen? ⟨w.heap.size + 1 + 1, 0, none⟩ = false ∧ w'.frozen? ⟨w.heap.size + 1 + 1, 1, none⟩ = false ∧ w'.frozen? ⟨w.heap.size + 1 + 1, 2, none⟩ = false))
    (first
      | with_reducible assumption
      | with_reducible exact keep_sum (by with_reducible assumption) (by with_reducible assumption)
      | exact ⟨⟨by go_simp, by go_simp, by go_simp, by go_simp, by go_simp, by go_simp, by go_simp, by go_simp, by go_simp⟩, by simp, (((Below.refl _ _).alloc (Nat.le_refl _) _).alloc (by simp) _ |>.alloc (by simp; omega) _).drew, ⟨by go_simp, by go_simp, by go_simp⟩⟩)
    (first
      | (go_at_call 20; (with_reducible refine (m1 _ (sum_below (by with_reducible assumption))).mono ?_); rintro e wa ⟨x, rfl, hx, hba, fx⟩)
      | (go_at_call 20; (with_reducible refine (m2 _ (sum_below (by with_reducible assumption))).mono ?_); rintro e wb ⟨y, rfl, hy, hbb, fy⟩))
  have BX := boxS_of (by with_reducible assumption)
  have hx := hx.below hbb
  have k3 := m3 wb BX.below
  obtain ⟨c0, c1, c2, d0, d1, d2, _, _, _, _, _, _, _, _⟩ := id BX
  go_upto_region 3 with (first
    | (go_at_call 20; (with_reducible refine k3.mono ?_); rintro e wc ⟨z, rfl, hz, hbc, fz⟩; have hzz := hz; obtain ⟨A5, e5, rfl, _⟩ := hzz))
  have BX := (BX.keep hbc).keep (below_alloc1 wc (.cells #[.slice none 0 0, .slice A5 (bitsOf Z).length e5, .bool false] 52))
  have FB := FracBox.start wc (.slice none 0 0) (.slice A5 (bitsOf Z).length e5) (.bool false) 52
  have hb2 := below_alloc1 wc (.cells #[.slice none 0 0, .slice A5 (bitsOf Z).length e5, .bool false] 52)
  have hzk := fun (w' : World) (h : Below wc.heap.size wc w') => hz.below h
  have hx := (hx.below hbc).below hb2
  have hy := (hy.below hbc).below hb2
  clear hz
  have hbb := BX.below
  generalize wc.alloc (.cells #[.slice none 0 0, .slice A5 (bitsOf Z).length e5, .bool false] 52) = wd at *
  have hsz0 : w.heap.size + 2 < wb.heap.size := (boxS_of (by with_reducible assumption)).size
  have hsz : w.heap.size + 2 < wc.heap.size := by have := hbc.size; omega
  have hfz := fz.mono (B' := w.heap.size + 3) (by omega)
  clear fz hsz0
  generalize wc.heap.size = b at *
  have n0 : ¬ w.heap.size = b := by omega
  have n1 : ¬ w.heap.size + 1 = b := by omega
  have n2 : ¬ w.heap.size + 1 + 1 = b := by omega
  obtain ⟨c0, c1, c2, d0, d1, d2, i0, i1, i2, j0, j1, j2, _, _⟩ := id BX
  have HZ := Lib.hid (And.intro hsz hfz)
  have HB := Lib.hid FB.lt
  clear hsz hfz
  by_cases hst : s = t
  · have hss : (s == t) = true := by simpa using hst
    have ad := add_num wd x y X Y hx hy (by have := hl.out; omega) (by have := hl.out; omega)
    have hTS : T = X + Y ∧ S = s := by
      obtain ⟨a1, a2⟩ := HT.out
      rw [if_pos hst] at a1 a2
      exact ⟨a1, a2⟩
    obtain ⟨rfl, rfl⟩ := hTS
    clear hst
    go_wp2_with (first
      | (go_at_call 32; (with_reducible refine ad.mono ?_); rintro e we ⟨v, rfl, hv, hbe, fv⟩; have hvv := hv; obtain ⟨A6, e6, rfl, _⟩ := hvv; have BX := BX.keep hbe; have FB := FB.keep hbe; obtain ⟨c0, c1, c2, d0, d1, d2, i0, i1, i2, j0, j1, j2, _, _⟩ := id BX; obtain ⟨k0, k1, k2, l0, l1, l2, _⟩ := id FB))
    exact bodyPost_ret (v := .agg #[.slice A6 (bitsOf (X + Y)).length e6, .slice A5 (bitsOf Z).length e5, .bool S]) (by simp [results, Tryd.results19, go_sem, i0, i1, i2]) rfl (sum_close hzk HZ.out.2 hb2 hbe hv fv HB.out HZ.out.1 BX.below _ _)
  · have hss : (s == t) = false := by simpa using hst
    by_cases hlt : X < Y
    · have hdl : decide (X < Y) = true := decide_eq_true hlt
      have ls := less_any wd x y X Y hx hy
      rw [hdl] at ls
      have sb := fun (q : Nat) => sub_num (wd.drewN q) y x Y X (hy.drewN q) (hx.drewN q) (by have := hl.out; omega) (by have := hl.out; omega) (by omega)
      have hTS : T = Y - X ∧ S = t := by
        obtain ⟨a1, a2⟩ := HT.out
        rw [if_neg hst, if_pos hlt] at a1 a2
        exact ⟨a1, a2⟩
      obtain ⟨rfl, rfl⟩ := hTS
      clear hst hlt hdl
      go_wp2_with (first
        | (go_at_call 33; (with_reducible refine ls.mono ?_); rintro e we ⟨rfl, q, rfl⟩; have sq := sb q)
        | (go_at_call 34; (with_reducible refine sq.mono ?_); rintro e we ⟨v, rfl, hv, hbe, fv⟩; have hbe : Below wd.heap.size wd we := ⟨hbe.os, hbe.tape, hbe.output, hbe.size, hbe.block⟩; have hvv := hv; obtain ⟨A6, e6, rfl, _⟩ := hvv; have BX := BX.keep hbe; have FB := FB.keep hbe; obtain ⟨c0, c1, c2, d0, d1, d2, i0, i1, i2, j0, j1, j2, _, _⟩ := id BX; obtain ⟨k0, k1, k2, l0, l1, l2, _⟩ := id FB))
      exact bodyPost_ret (v := .agg #[.slice A6 (bitsOf (Y - X)).length e6, .slice A5 (bitsOf Z).length e5, .bool S]) (by simp [results, Tryd.results19, go_sem, i0, i1, i2]) rfl (sum_close hzk HZ.out.2 hb2 hbe hv fv HB.out HZ.out.1 BX.below _ _)
    · have hdl : decide (X < Y) = false := decide_eq_false hlt
      have ls := less_any wd x y X Y hx hy
      rw [hdl] at ls
      have sb := fun (q : Nat) => sub_num (wd.drewN q) x y X Y (hx.drewN q) (hy.drewN q) (by have := hl.out; omega) (by have := hl.out; omega) (by omega)
      have hTS : T = X - Y ∧ S = s := by
        obtain ⟨a1, a2⟩ := HT.out
        rw [if_neg hst, if_neg hlt] at a1 a2
        exact ⟨a1, a2⟩
      obtain ⟨rfl, rfl⟩ := hTS
      clear hst hlt hdl
      go_wp2_with (first
        | (go_at_call 33; (with_reducible refine ls.mono ?_); rintro e we ⟨rfl, q, rfl⟩; have sq := sb q)
        | (go_at_call 34; (with_reducible refine sq.mono ?_); rintro e we ⟨v, rfl, hv, hbe, fv⟩; have hbe : Below wd.heap.size wd we := ⟨hbe.os, hbe.tape, hbe.output, hbe.size, hbe.block⟩; have hvv := hv; obtain ⟨A6, e6, rfl, _⟩ := hvv; have BX := BX.keep hbe; have FB := FB.keep hbe; obtain ⟨c0, c1, c2, d0, d1, d2, i0, i1, i2, j0, j1, j2, _, _⟩ := id BX; obtain ⟨k0, k1, k2, l0, l1, l2, _⟩ := id FB))
      exact bodyPost_ret (v := .agg #[.slice A6 (bitsOf (X - Y)).length e6, .slice A5 (bitsOf Z).length e5, .bool S]) (by simp [results, Tryd.results19, go_sem, i0, i1, i2]) rfl (sum_close hzk HZ.out.2 hb2 hbe hv fv HB.out HZ.out.1 BX.below _ _)
end Go.Proofs.YthlogaenbnhobaaDoor
