/-
  The walks of package rat: across. Conditions: the numbers lie in their kinds; the denominators are not below 0. (Template: by-name.py fills it.)
-/
import Derived.Test.YthlogaenbnhobaaDoorRatW
namespace Go.Proofs.YthlogaenbnhobaaDoor
open Go.RowKit

theorem size_nat (d : Nat) (w : World) (h : d ≤ 9223372036854775807) :
    Calls Tryd.prog 38 #[.int .i64 d] w fun e w' => e = .returned (.int .u64 d) ∧ w = w' :=
  (size_any d w (by omega) (by omega)).mono fun _ _ ⟨he, hw⟩ => ⟨by rw [he, Int.natAbs_natCast], hw⟩

theorem keep_cell {w1 w2 : World} (hb : Below w1.heap.size w1 w2) {b o : Nat} (h : b < w1.heap.size) {v : Value} (hc : w1.cell? ⟨b, o, none⟩ = some v) : w2.cell? ⟨b, o, none⟩ = some v := (hb.cell (p := ⟨b, o, none⟩) h).trans hc
theorem keep_free {w1 w2 : World} (hb : Below w1.heap.size w1 w2) {b o : Nat} (h : b < w1.heap.size) {v : Bool} (hc : w1.frozen? ⟨b, o, none⟩ = v) : w2.frozen? ⟨b, o, none⟩ = v := (hb.frozen (p := ⟨b, o, none⟩) h).trans hc

/-- What a cell holds, where there is one. -/
def cellD (w : World) (a : Addr) : Value := (w.cell? a).getD undef
theorem cellD_of {w : World} {a : Addr} {v : Value} (h : w.cell? a = some v) : w.cell? a = some (cellD w a) := by
  unfold cellD; rw [h]; rfl
theorem cellD_set {w1 : World} {p q : Addr} {x v : Value} (h : w1.cell? q = some v) : (w1.setCell p x).cell? q = some (cellD (w1.setCell p x) q) := by
  obtain ⟨v', h'⟩ := cell?_setCell_some (p := p) (x := x) h
  exact cellD_of h'

/-- What stands during the region: two fractions' cells, room for the result, and all that is older as it was. (Inline in the walk; here for the steps.) -/
theorem keep_two {w w1 w2 : World} {n d m e : Value} (hb : Below w1.heap.size w1 w2)
    (h : (w1.cell? ⟨w.heap.size, 0, none⟩ = some n ∧ w1.cell? ⟨w.heap.size, 1, none⟩ = some d ∧ w1.cell? ⟨w.heap.size + 1, 0, none⟩ = some m ∧ w1.cell? ⟨w.heap.size + 1, 1, none⟩ = some e) ∧ w.heap.size + 2 < w1.heap.size ∧ Below w.heap.size w w1 ∧ (w1.cell? ⟨w.heap.size + 1 + 1, 0, none⟩ = some (cellD w1 ⟨w.heap.size + 1 + 1, 0, none⟩) ∧ w1.cell? ⟨w.heap.size + 1 + 1, 1, none⟩ = some (cellD w1 ⟨w.heap.size + 1 + 1, 1, none⟩) ∧ w1.cell? ⟨w.heap.size + 1 + 1, 2, none⟩ = some (cellD w1 ⟨w.heap.size + 1 + 1, 2, none⟩)) ∧ (w1.frozen? ⟨w.heap.size + 1 + 1, 0, none⟩ = false ∧ w1.frozen? ⟨w.heap.size + 1 + 1, 1, none⟩ = false ∧ w1.frozen? ⟨w.heap.size + 1 + 1, 2, none⟩ = false)) :
    (w2.cell? ⟨w.heap.size, 0, none⟩ = some n ∧ w2.cell? ⟨w.heap.size, 1, none⟩ = some d ∧ w2.cell? ⟨w.heap.size + 1, 0, none⟩ = some m ∧ w2.cell? ⟨w.heap.size + 1, 1, none⟩ = some e) ∧ w.heap.size + 2 < w2.heap.size ∧ Below w.heap.size w w2 ∧ (w2.cell? ⟨w.heap.size + 1 + 1, 0, none⟩ = some (cellD w2 ⟨w.heap.size + 1 + 1, 0, none⟩) ∧ w2.cell? ⟨w.heap.size + 1 + 1, 1, none⟩ = some (cellD w2 ⟨w.heap.size + 1 + 1, 1, none⟩) ∧ w2.cell? ⟨w.heap.size + 1 + 1, 2, none⟩ = some (cellD w2 ⟨w.heap.size + 1 + 1, 2, none⟩)) ∧ (w2.frozen? ⟨w.heap.size + 1 + 1, 0, none⟩ = false ∧ w2.frozen? ⟨w.heap.size + 1 + 1, 1, none⟩ = false ∧ w2.frozen? ⟨w.heap.size + 1 + 1, 2, none⟩ = false) := by
  obtain ⟨⟨a, b, c, f⟩, g, k, ⟨i0, i1, i2⟩, j0, j1, j2⟩ := h
  have hs := hb.size
  have q : ∀ o, w2.cell? ⟨w.heap.size + 1 + 1, o, none⟩ = w1.cell? ⟨w.heap.size + 1 + 1, o, none⟩ := fun o => hb.cell (p := ⟨w.heap.size + 1 + 1, o, none⟩) (by simp; omega)
  have r : ∀ o, w2.frozen? ⟨w.heap.size + 1 + 1, o, none⟩ = w1.frozen? ⟨w.heap.size + 1 + 1, o, none⟩ := fun o => hb.frozen (p := ⟨w.heap.size + 1 + 1, o, none⟩) (by simp; omega)
  exact ⟨⟨keep_cell hb (by omega) a, keep_cell hb (by omega) b, keep_cell hb (by omega) c, keep_cell hb (by omega) f⟩, by omega, k.trans (hb.mono (by omega)), ⟨cellD_of ((q _).trans i0), cellD_of ((q _).trans i1), cellD_of ((q _).trans i2)⟩, by rw [r]; exact j0, by rw [r]; exact j1, by rw [r]; exact j2⟩

theorem keep_set {w w1 : World} {n d m e : Value} {o : Nat} {x : Value}
    (h : (w1.cell? ⟨w.heap.size, 0, none⟩ = some n ∧ w1.cell? ⟨w.heap.size, 1, none⟩ = some d ∧ w1.cell? ⟨w.heap.size + 1, 0, none⟩ = some m ∧ w1.cell? ⟨w.heap.size + 1, 1, none⟩ = some e) ∧ w.heap.size + 2 < w1.heap.size ∧ Below w.heap.size w w1 ∧ (w1.cell? ⟨w.heap.size + 1 + 1, 0, none⟩ = some (cellD w1 ⟨w.heap.size + 1 + 1, 0, none⟩) ∧ w1.cell? ⟨w.heap.size + 1 + 1, 1, none⟩ = some (cellD w1 ⟨w.heap.size + 1 + 1, 1, none⟩) ∧ w1.cell? ⟨w.heap.size + 1 + 1, 2, none⟩ = some (cellD w1 ⟨w.heap.size + 1 + 1, 2, none⟩)) ∧ (w1.frozen? ⟨w.heap.size + 1 + 1, 0, none⟩ = false ∧ w1.frozen? ⟨w.heap.size + 1 + 1, 1, none⟩ = false ∧ w1.frozen? ⟨w.heap.size + 1 + 1, 2, none⟩ = false)) :
    ((w1.setCell ⟨w.heap.size + 1 + 1, o, none⟩ x).cell? ⟨w.heap.size, 0, none⟩ = some n ∧ (w1.setCell ⟨w.heap.size + 1 + 1, o, none⟩ x).cell? ⟨w.heap.size, 1, none⟩ = some d ∧ (w1.setCell ⟨w.heap.size + 1 + 1, o, none⟩ x).cell? ⟨w.heap.size + 1, 0, none⟩ = some m ∧ (w1.setCell ⟨w.heap.size + 1 + 1, o, none⟩ x).cell? ⟨w.heap.size + 1, 1, none⟩ = some e) ∧ w.heap.size + 2 < (w1.setCell ⟨w.heap.size + 1 + 1, o, none⟩ x).heap.size ∧ Below w.heap.size w (w1.setCell ⟨w.heap.size + 1 + 1, o, none⟩ x) ∧ ((w1.setCell ⟨w.heap.size + 1 + 1, o, none⟩ x).cell? ⟨w.heap.size + 1 + 1, 0, none⟩ = some (cellD (w1.setCell ⟨w.heap.size + 1 + 1, o, none⟩ x) ⟨w.heap.size + 1 + 1, 0, none⟩) ∧ (w1.setCell ⟨w.heap.size + 1 + 1, o, none⟩ x).cell? ⟨w.heap.size + 1 + 1, 1, none⟩ = some (cellD (w1.setCell ⟨w.heap.size + 1 + 1, o, none⟩ x) ⟨w.heap.size + 1 + 1, 1, none⟩) ∧ (w1.setCell ⟨w.heap.size + 1 + 1, o, none⟩ x).cell? ⟨w.heap.size + 1 + 1, 2, none⟩ = some (cellD (w1.setCell ⟨w.heap.size + 1 + 1, o, none⟩ x) ⟨w.heap.size + 1 + 1, 2, none⟩)) ∧ ((w1.setCell ⟨w.heap.size + 1 + 1, o, none⟩ x).frozen? ⟨w.heap.size + 1 + 1, 0, none⟩ = false ∧ (w1.setCell ⟨w.heap.size + 1 + 1, o, none⟩ x).frozen? ⟨w.heap.size + 1 + 1, 1, none⟩ = false ∧ (w1.setCell ⟨w.heap.size + 1 + 1, o, none⟩ x).frozen? ⟨w.heap.size + 1 + 1, 2, none⟩ = false) := by
  obtain ⟨⟨a, b, c, f⟩, g, k, ⟨i0, i1, i2⟩, j0, j1, j2⟩ := h
  have q : ∀ b' o', b' < w.heap.size + 1 + 1 → (w1.setCell ⟨w.heap.size + 1 + 1, o, none⟩ x).cell? ⟨b', o', none⟩ = w1.cell? ⟨b', o', none⟩ := fun b' o' hb => World.cell?_setCell_far _ _ _ _ (by simp; omega)
  exact ⟨⟨by rw [q _ _ (by omega)]; exact a, by rw [q _ _ (by omega)]; exact b, by rw [q _ _ (by omega)]; exact c, by rw [q _ _ (by omega)]; exact f⟩, by rw [World.size_setCell]; exact g, k.setCell (by simp; omega) _, ⟨cellD_set i0, cellD_set i1, cellD_set i2⟩, by rw [World.frozen?_setCell]; exact j0, by rw [World.frozen?_setCell]; exact j1, by rw [World.frozen?_setCell]; exact j2⟩

theorem cell_set_rev {w1 : World} {b o : Nat} {x v : Value} (h : (w1.setCell ⟨b, o, none⟩ x).cell? ⟨b, o, none⟩ = some v) : v = x := by
  cases hc : w1.cell? ⟨b, o, none⟩ with
  | some u =>
    rw [World.cell?_setCell_same _ _ _ hc] at h
    exact (Option.some.inj h).symm
  | none =>
    exfalso
    unfold World.cell? at hc h
    simp only [World.setCell, Array.getElem?_modify, ↓reduceIte] at h
    cases hb : w1.heap[b]? with
    | none => simp [hb] at h
    | some ob =>
      cases ob <;> simp_all

theorem set_two {w1 : World} {b o p : Nat} {x y : Value} (ho : o ≠ p) : ((w1.setCell ⟨b, o, none⟩ x).setCell ⟨b, p, none⟩ y).cell? ⟨b, o, none⟩ = (w1.setCell ⟨b, o, none⟩ x).cell? ⟨b, o, none⟩ :=
  World.cell?_setCell_other _ _ _ _ (by simp only [ne_eq, Addr.mk.injEq, not_and]; intro _ h; exact absurd h.symm ho)

/-- The result lies in its place behind the three stores. -/
theorem three_set {w1 : World} {b : Nat} {x y z u0 u1 u2 : Value}
    (h0 : (((w1.setCell ⟨b, 0, none⟩ x).setCell ⟨b, 1, none⟩ y).setCell ⟨b, 2, none⟩ z).cell? ⟨b, 0, none⟩ = some u0)
    (h1 : (((w1.setCell ⟨b, 0, none⟩ x).setCell ⟨b, 1, none⟩ y).setCell ⟨b, 2, none⟩ z).cell? ⟨b, 1, none⟩ = some u1)
    (h2 : (((w1.setCell ⟨b, 0, none⟩ x).setCell ⟨b, 1, none⟩ y).setCell ⟨b, 2, none⟩ z).cell? ⟨b, 2, none⟩ = some u2) : u0 = x ∧ u1 = y ∧ u2 = z := by
  refine ⟨?_, ?_, cell_set_rev h2⟩
  · rw [World.cell?_setCell_other _ _ _ _ (show (⟨b, 2, none⟩ : Addr) ≠ ⟨b, 0, none⟩ by simp), set_two (by decide)] at h0
    exact cell_set_rev h0
  · rw [set_two (by decide)] at h1
    exact cell_set_rev h1

/-- .. said of what stands behind the region. -/
theorem result_of {w w1 : World} {x y z : Value} {A B F : Prop} {f : World}
    (hf : f = ((w1.setCell ⟨w.heap.size + 1 + 1, 0, none⟩ x).setCell ⟨w.heap.size + 1 + 1, 1, none⟩ y).setCell ⟨w.heap.size + 1 + 1, 2, none⟩ z)
    (h : A ∧ B ∧ Below w.heap.size w f ∧ (f.cell? ⟨w.heap.size + 1 + 1, 0, none⟩ = some (cellD f ⟨w.heap.size + 1 + 1, 0, none⟩) ∧ f.cell? ⟨w.heap.size + 1 + 1, 1, none⟩ = some (cellD f ⟨w.heap.size + 1 + 1, 1, none⟩) ∧ f.cell? ⟨w.heap.size + 1 + 1, 2, none⟩ = some (cellD f ⟨w.heap.size + 1 + 1, 2, none⟩)) ∧ F) :
    f.cell? ⟨w.heap.size + 1 + 1, 0, none⟩ = some x ∧ f.cell? ⟨w.heap.size + 1 + 1, 1, none⟩ = some y ∧ f.cell? ⟨w.heap.size + 1 + 1, 2, none⟩ = some z ∧ Below w.heap.size w f := by
  obtain ⟨_, _, k, ⟨i0, i1, i2⟩, _⟩ := h
  subst hf
  obtain ⟨e0, e1, e2⟩ := three_set i0 i1 i2
  exact ⟨i0.trans (congrArg some e0), i1.trans (congrArg some e1), i2.trans (congrArg some e2), k⟩

set_option maxHeartbeats 4000000 in
theorem across_any (n m : Int) (d e g : Nat) (w : World) (hn1 : -9223372036854775807 ≤ n) (hn2 : n ≤ 9223372036854775807) (hm1 : -9223372036854775807 ≤ m) (hm2 : m ≤ 9223372036854775807)
    (hd : d ≤ 9223372036854775807) (he : e ≤ 9223372036854775807) (hg : 0 < g) (hg2 : g < 18446744073709551616) :
    Calls Tryd.prog 36 #[ratV n d, ratV m e, .int .u64 g] w fun r w' => r = .returned (wideV (plusS (decide (n < 0)) (n.natAbs * (e / g)) (decide (m < 0)) (m.natAbs * (d / g))) (plusM (decide (n < 0)) (n.natAbs * (e / g)) (decide (m < 0)) (m.natAbs * (d / g)))) ∧ Below w.heap.size w w' := by
  have x1 : e / g ≤ 9223372036854775807 := Nat.le_trans (Nat.div_le_self _ _) he
  have y1 : d / g ≤ 9223372036854775807 := Nat.le_trans (Nat.div_le_self _ _) hd
  have q1 := first_digit e g (by omega)
  have q2 := first_digit d g (by omega)
  have p1 : n.natAbs * (e / g) ≤ 9223372036854775807 * 9223372036854775807 := Nat.mul_le_mul (by omega) x1
  have p2 : m.natAbs * (d / g) ≤ 9223372036854775807 * 9223372036854775807 := Nat.mul_le_mul (by omega) y1
  have hsum : n.natAbs * (e / g) + m.natAbs * (d / g) < 340282366920938463463374607431768211456 := by omega
  have s1 := fun w => size_nat d w hd
  have s2 := fun w => size_nat e w he
  have t1 := fun w => times_any n (e / g) w (by omega) hn2 (by omega)
  have t2 := fun w => times_any m (d / g) w (by omega) hm2 (by omega)
  have pl := fun w => plus_any (decide (n < 0)) (decide (m < 0)) (n.natAbs * (e / g)) (m.natAbs * (d / g)) w hsum
  have hg0 : ¬ g = 0 := by omega
  have hgi : (0 : Int) < (g : Int) := by omega
  clear hsum p1 p2 hn1 hn2 hm1 hm2 hd he hg
  obtain ⟨x, hx⟩ : ∃ x, x = e / g := ⟨_, rfl⟩
  obtain ⟨y, hy⟩ : ∃ y, y = d / g := ⟨_, rfl⟩
  rw [← hx] at x1 q1 t1 pl ⊢
  rw [← hy] at y1 q2 t2 pl ⊢
  clear hx hy
  obtain ⟨sa, hsa⟩ : ∃ sa, sa = decide (n < 0) := ⟨_, rfl⟩
  obtain ⟨sb, hsb⟩ : ∃ sb, sb = decide (m < 0) := ⟨_, rfl⟩
  obtain ⟨pa, hpa⟩ : ∃ pa, pa = n.natAbs * x := ⟨_, rfl⟩
  obtain ⟨pb, hpb⟩ : ∃ pb, pb = m.natAbs * y := ⟨_, rfl⟩
  rw [← hsa, ← hpa] at t1 pl ⊢
  rw [← hsb, ← hpb] at t2 pl ⊢
  clear hsa hsb hpa hpb
  obtain ⟨ps, hps⟩ : ∃ ps, ps = plusS sa pa sb pb := ⟨_, rfl⟩
  obtain ⟨pm, hpm⟩ : ∃ pm, pm = plusM sa pa sb pb := ⟨_, rfl⟩
  rw [← hps, ← hpm] at pl ⊢
  clear hps hpm
  go_enter Tryd.func36, Tryd.ntmps36
  go_wp2_with fail
  go_region_held3 (fun w' => (w'.cell? ⟨w.heap.size, 0, none⟩ = some (.int .i64 n) ∧ w'.cell? ⟨w.heap.size, 1, none⟩ = some (.int .i64 d) ∧ w'.cell? ⟨w.heap.size + 1, 0, none⟩ = some (.int .i64 m) ∧ w'.cell? ⟨w.heap.size + 1, 1, none⟩ = some (.int .i64 e)) ∧
      w.heap.size + 2 < w'.heap.size ∧ Below w.heap.size w w' ∧ (w'.cell? ⟨w.heap.size + 1 + 1, 0, none⟩ = some (cellD w' ⟨w.heap.size + 1 + 1, 0, none⟩) ∧ w'.cell? ⟨w.heap.size + 1 + 1, 1, none⟩ = some (cellD w' ⟨w.heap.size + 1 + 1, 1, none⟩) ∧ w'.cell? ⟨w.heap.size + 1 + 1, 2, none⟩ = some (cellD w' ⟨w.heap.size + 1 + 1, 2, none⟩)) ∧ (w'.frozen? ⟨w.heap.size + 1 + 1, 0, none⟩ = false ∧ w'.frozen? ⟨w.heap.size + 1 + 1, 1, none⟩ = false ∧ w'.frozen? ⟨w.heap.size + 1 + 1, 2, none⟩ = false))
    (first
      | with_reducible assumption
      | with_reducible exact keep_two (by with_reducible assumption) (by with_reducible assumption)
      | with_reducible exact keep_set (keep_set (keep_set (by with_reducible assumption)))
      | exact ⟨⟨by go_simp, by go_simp, by go_simp, by go_simp⟩, by simp, (((Below.refl _ _).alloc (Nat.le_refl _) _).alloc (by simp) _ |>.alloc (by simp; omega) _).drew, ⟨cellD_of (v := .bool false) (by go_simp), cellD_of (v := .int .u64 0) (by go_simp), cellD_of (v := .int .u64 0) (by go_simp)⟩, by go_simp, by go_simp, by go_simp⟩)
    (first
      | (go_at_call 38; first | ((with_reducible refine (s1 _).mono ?_); rintro e w' ⟨rfl, rfl⟩) | ((with_reducible refine (s2 _).mono ?_); rintro e w' ⟨rfl, rfl⟩))
      | (go_at_call 45; first | ((with_reducible refine (t1 _).mono ?_); rintro e w' ⟨rfl, hb⟩) | ((with_reducible refine (t2 _).mono ?_); rintro e w' ⟨rfl, hb⟩))
      | (go_at_call 46; (with_reducible refine (pl _).mono ?_); rintro e w' ⟨rfl, hb⟩))
  go_wp2_with fail
  obtain ⟨c0, c1, c2, hB⟩ := result_of rfl (by with_reducible assumption)
  exact bodyPost_ret (v := wideV ps pm) (by simp [results, Tryd.results36, go_sem, c0, c1, c2]) rfl ⟨rfl, hB⟩
end Go.Proofs.YthlogaenbnhobaaDoor
