/-
  How a law over fractions is opened and shut: a fraction as an argument, the row's last step. (Template: by-name.py fills it.)
-/
import Derived.Test.YtkinbbhbencipaaRatW
import Derived.ProofKit
import Derived.Lib.SmallJoins
namespace Go.Proofs.Ytkinbbhbencipaa
open Go.RowKit

theorem size_nat (d : Nat) (w : World) (h : d ≤ 9223372036854775807) :
    Calls Try.prog 76 #[.int .i64 d] w fun e w' => e = .returned (.int .u64 d) ∧ w = w' :=
  (size_any d w (by omega) (by omega)).mono fun _ _ ⟨he, hw⟩ => ⟨by rw [he, Int.natAbs_natCast], hw⟩

theorem keep_cell {w1 w2 : World} (hb : Below w1.heap.size w1 w2) {b o : Nat} (h : b < w1.heap.size) {v : Value} (hc : w1.cell? ⟨b, o, none⟩ = some v) : w2.cell? ⟨b, o, none⟩ = some v := (hb.cell (p := ⟨b, o, none⟩) h).trans hc
theorem keep_free {w1 w2 : World} (hb : Below w1.heap.size w1 w2) {b o : Nat} (h : b < w1.heap.size) {v : Bool} (hc : w1.frozen? ⟨b, o, none⟩ = v) : w2.frozen? ⟨b, o, none⟩ = v := (hb.frozen (p := ⟨b, o, none⟩) h).trans hc

/-- What a cell holds, where there is one. -/
def cellD (w : World) (a : Addr) : Value := (w.cell? a).getD undef
theorem cellD_of {w : World} {a : Addr} {v : Value} (h : w.cell? a = some v) : w.cell? a = some (cellD w a) := by
  unfold cellD; rw [h]; rfl
theorem cellD_set {w1 : World} {p q : Addr} {x v : Value} (h : w1.cell? q = some v) : (w1.setCell p x).cell? q = some (cellD (w1.setCell p x) q) := by
  obtain ⟨v', h'⟩ := cell?_setCell_some (p := p) (x := x) h
  exact cellD_of h'

/-- What stands during the region: two fractions' cells, room for the result, and all that is older as it was. (Inline in the walk; here for the steps.) -/
theorem keep_two {w w1 w2 : World} {n d m e : Value} (hb : Below w1.heap.size w1 w2)
    (h : (w1.cell? ⟨w.heap.size, 0, none⟩ = some n ∧ w1.cell? ⟨w.heap.size, 1, none⟩ = some d ∧ w1.cell? ⟨w.heap.size + 1, 0, none⟩ = some m ∧ w1.cell? ⟨w.heap.size + 1, 1, none⟩ = some e) ∧ w.heap.size + 2 < w1.heap.size ∧ Below w.heap.size w w1 ∧ (w1.cell? ⟨w.heap.size + 1 + 1, 0, none⟩ = some (cellD w1 ⟨w.heap.size + 1 + 1, 0, none⟩) ∧ w1.cell? ⟨w.heap.size + 1 + 1, 1, none⟩ = some (cellD w1 ⟨w.heap.size + 1 + 1, 1, none⟩) ∧ w1.cell? ⟨w.heap.size + 1 + 1, 2, none⟩ = some (cellD w1 ⟨w.heap.size + 1 + 1, 2, none⟩)) ∧ (w1.frozen? ⟨w.heap.size + 1 + 1, 0, none⟩ = false ∧ w1.frozen? ⟨w.heap.size + 1 + 1, 1, none⟩ = false ∧ w1.frozen? ⟨w.heap.size + 1 + 1, 2, none⟩ = false)) :
    (w2.cell? ⟨w.heap.size, 0, none⟩ = some n ∧ w2.cell? ⟨w.heap.size, 1, none⟩ = some d ∧ w2.cell? ⟨w.heap.size + 1, 0, none⟩ = some m ∧ w2.cell? ⟨w.heap.size + 1, 1, none⟩ = some e) ∧ w.heap.size + 2 < w2.heap.size ∧ Below w.heap.size w w2 ∧ (w2.cell? ⟨w.heap.size + 1 + 1, 0, none⟩ = some (cellD w2 ⟨w.heap.size + 1 + 1, 0, none⟩) ∧ w2.cell? ⟨w.heap.size + 1 + 1, 1, none⟩ = some (cellD w2 ⟨w.heap.size + 1 + 1, 1, none⟩) ∧ w2.cell? ⟨w.heap.size + 1 + 1, 2, none⟩ = some (cellD w2 ⟨w.heap.size + 1 + 1, 2, none⟩)) ∧ (w2.frozen? ⟨w.heap.size + 1 + 1, 0, none⟩ = false ∧ w2.frozen? ⟨w.heap.size + 1 + 1, 1, none⟩ = false ∧ w2.frozen? ⟨w.heap.size + 1 + 1, 2, none⟩ = false) := by
  obtain ⟨⟨a, b, c, f⟩, g, k, ⟨i0, i1, i2⟩, j0, j1, j2⟩ := h
  have hs := hb.size
  have q : ∀ o, w2.cell? ⟨w.heap.size + 1 + 1, o, none⟩ = w1.cell? ⟨w.heap.size + 1 + 1, o, none⟩ := fun o => hb.cell (p := ⟨w.heap.size + 1 + 1, o, none⟩) (by simp; omega)
  have r : ∀ o, w2.frozen? ⟨w.heap.size + 1 + 1, o, none⟩ = w1.frozen? ⟨w.heap.size + 1 + 1, o, none⟩ := fun o => hb.frozen (p := ⟨w.heap.size + 1 + 1, o, none⟩) (by simp; omega)
  exact ⟨⟨keep_cell hb (by omega) a, keep_cell hb (by omega) b, keep_cell hb (by omega) c, keep_cell hb (by omega) f⟩, by omega, k.trans (hb.mono (by omega)), ⟨cellD_of ((q _).trans i0), cellD_of ((q _).trans i1), cellD_of ((q _).trans i2)⟩, by rw [r]; exact j0, by rw [r]; exact j1, by rw [r]; exact j2⟩

theorem keep_set {w w1 : World} {n d m e : Value} {o : Nat} {x : Value}
    (h : (w1.cell? ⟨w.heap.size, 0, none⟩ = some n ∧ w1.cell? ⟨w.heap.size, 1, none⟩ = some d ∧ w1.cell? ⟨w.heap.size + 1, 0, none⟩ = some m ∧ w1.cell? ⟨w.heap.size + 1, 1, none⟩ = some e) ∧ w.heap.size + 2 < w1.heap.size ∧ Below w.heap.size w w1 ∧ (w1.cell? ⟨w.heap.size + 1 + 1, 0, none⟩ = some (cellD w1 ⟨w.heap.size + 1 + 1, 0, none⟩) ∧ w1.cell? ⟨w.heap.size + 1 + 1, 1, none⟩ = some (cellD w1 ⟨w.heap.size + 1 + 1, 1, none⟩) ∧ w1.cell? ⟨w.heap.size + 1 + 1, 2, none⟩ = some (cellD w1 ⟨w.heap.size + 1 + 1, 2, none⟩)) ∧ (w1.frozen? ⟨w.heap.size + 1 + 1, 0, none⟩ = false ∧ w1.frozen? ⟨w.heap.size + 1 + 1, 1, none⟩ = false ∧ w1.frozen? ⟨w.heap.size + 1 + 1, 2, none⟩ = false)) :
    ((w1.setCell ⟨w.heap.size + 1 + 1, o, none⟩ x).cell? ⟨w.heap.size, 0, none⟩ = some n ∧ (w1.setCell ⟨w.heap.size + 1 + 1, o, none⟩ x).cell? ⟨w.heap.size, 1, none⟩ = some d ∧ (w1.setCell ⟨w.heap.size + 1 + 1, o, none⟩ x).cell? ⟨w.heap.size + 1, 0, none⟩ = some m ∧ (w1.setCell ⟨w.heap.size + 1 + 1, o, none⟩ x).cell? ⟨w.heap.size + 1, 1, none⟩ = some e) ∧ w.heap.size + 2 < (w1.setCell ⟨w.heap.size + 1 + 1, o, none⟩ x).heap.size ∧ Below w.heap.size w (w1.setCell ⟨w.heap.size + 1 + 1, o, none⟩ x) ∧ ((w1.setCell ⟨w.heap.size + 1 + 1, o, none⟩ x).cell? ⟨w.heap.size + 1 + 1, 0, none⟩ = some (cellD (w1.setCell ⟨w.heap.size + 1 + 1, o, none⟩ x) ⟨w.heap.size + 1 + 1, 0, none⟩) ∧ (w1.setCell ⟨w.heap.size + 1 + 1, o, none⟩ x).cell? ⟨w.heap.size + 1 + 1, 1, none⟩ = some (cellD (w1.setCell ⟨w.heap.size + 1 + 1, o, none⟩ x) ⟨w.heap.size + 1 + 1, 1, none⟩) ∧ (w1.setCell ⟨w.heap.size + 1 + 1, o, none⟩ x).cell? ⟨w.heap.size + 1 + 1, 2, none⟩ = some (cellD (w1.setCell ⟨w.heap.size + 1 + 1, o, none⟩ x) ⟨w.heap.size + 1 + 1, 2, none⟩)) ∧ ((w1.setCell ⟨w.heap.size + 1 + 1, o, none⟩ x).frozen? ⟨w.heap.size + 1 + 1, 0, none⟩ = false ∧ (w1.setCell ⟨w.heap.size + 1 + 1, o, none⟩ x).frozen? ⟨w.heap.size + 1 + 1, 1, none⟩ = false ∧ (w1.setCell ⟨w.heap.size + 1 + 1, o, none⟩ x).frozen? ⟨w.heap.size + 1 + 1, 2, none⟩ = false) := by
  obtain ⟨⟨a, b, c, f⟩, g, k, ⟨i0, i1, i2⟩, j0, j1, j2⟩ := h
  have q : ∀ b' o', b' < w.heap.size + 1 + 1 → (w1.setCell ⟨w.heap.size + 1 + 1, o, none⟩ x).cell? ⟨b', o', none⟩ = w1.cell? ⟨b', o', none⟩ := fun b' o' hb => World.cell?_setCell_far _ _ _ _ (by simp; omega)
  exact ⟨⟨by rw [q _ _ (by omega)]; exact a, by rw [q _ _ (by omega)]; exact b, by rw [q _ _ (by omega)]; exact c, by rw [q _ _ (by omega)]; exact f⟩, by rw [World.size_setCell]; exact g, k.setCell (by simp; omega) _, ⟨cellD_set i0, cellD_set i1, cellD_set i2⟩, by rw [World.frozen?_setCell]; exact j0, by rw [World.frozen?_setCell]; exact j1, by rw [World.frozen?_setCell]; exact j2⟩

theorem cell_set_rev {w1 : World} {b o : Nat} {x v : Value} (h : (w1.setCell ⟨b, o, none⟩ x).cell? ⟨b, o, none⟩ = some v) : v = x := by
  cases hc : w1.cell? ⟨b, o, none⟩ with
  | some u =>
    rw [World.cell?_setCell_same _ _ _ hc] at h
    exact (Option.some.inj h).symm
  | none =>
    exfalso
    unfold World.cell? at hc h
    simp only [World.setCell, Array.getElem?_modify, ↓reduceIte] at h
    cases hb : w1.heap[b]? with
    | none => simp [hb] at h
    | some ob =>
      cases ob <;> simp_all

theorem set_two {w1 : World} {b o p : Nat} {x y : Value} (ho : o ≠ p) : ((w1.setCell ⟨b, o, none⟩ x).setCell ⟨b, p, none⟩ y).cell? ⟨b, o, none⟩ = (w1.setCell ⟨b, o, none⟩ x).cell? ⟨b, o, none⟩ :=
  World.cell?_setCell_other _ _ _ _ (by simp only [ne_eq, Addr.mk.injEq, not_and]; intro _ h; exact absurd h.symm ho)

/-- The result lies in its place behind the three stores. -/
theorem three_set {w1 : World} {b : Nat} {x y z u0 u1 u2 : Value}
    (h0 : (((w1.setCell ⟨b, 0, none⟩ x).setCell ⟨b, 1, none⟩ y).setCell ⟨b, 2, none⟩ z).cell? ⟨b, 0, none⟩ = some u0)
    (h1 : (((w1.setCell ⟨b, 0, none⟩ x).setCell ⟨b, 1, none⟩ y).setCell ⟨b, 2, none⟩ z).cell? ⟨b, 1, none⟩ = some u1)
    (h2 : (((w1.setCell ⟨b, 0, none⟩ x).setCell ⟨b, 1, none⟩ y).setCell ⟨b, 2, none⟩ z).cell? ⟨b, 2, none⟩ = some u2) : u0 = x ∧ u1 = y ∧ u2 = z := by
  refine ⟨?_, ?_, cell_set_rev h2⟩
  · rw [World.cell?_setCell_other _ _ _ _ (show (⟨b, 2, none⟩ : Addr) ≠ ⟨b, 0, none⟩ by simp), set_two (by decide)] at h0
    exact cell_set_rev h0
  · rw [set_two (by decide)] at h1
    exact cell_set_rev h1

/-- .. said of what stands behind the region. -/
theorem result_of {w w1 : World} {x y z : Value} {A B F : Prop} {f : World}
    (hf : f = ((w1.setCell ⟨w.heap.size + 1 + 1, 0, none⟩ x).setCell ⟨w.heap.size + 1 + 1, 1, none⟩ y).setCell ⟨w.heap.size + 1 + 1, 2, none⟩ z)
    (h : A ∧ B ∧ Below w.heap.size w f ∧ (f.cell? ⟨w.heap.size + 1 + 1, 0, none⟩ = some (cellD f ⟨w.heap.size + 1 + 1, 0, none⟩) ∧ f.cell? ⟨w.heap.size + 1 + 1, 1, none⟩ = some (cellD f ⟨w.heap.size + 1 + 1, 1, none⟩) ∧ f.cell? ⟨w.heap.size + 1 + 1, 2, none⟩ = some (cellD f ⟨w.heap.size + 1 + 1, 2, none⟩)) ∧ F) :
    f.cell? ⟨w.heap.size + 1 + 1, 0, none⟩ = some x ∧ f.cell? ⟨w.heap.size + 1 + 1, 1, none⟩ = some y ∧ f.cell? ⟨w.heap.size + 1 + 1, 2, none⟩ = some z ∧ Below w.heap.size w f := by
  obtain ⟨_, _, k, ⟨i0, i1, i2⟩, _⟩ := h
  subst hf
  obtain ⟨e0, e1, e2⟩ := three_set i0 i1 i2
  exact ⟨i0.trans (congrArg some e0), i1.trans (congrArg some e1), i2.trans (congrArg some e2), k⟩

set_option maxHeartbeats 4000000 in
theorem across_any (n m : Int) (d e g : Nat) (w : World) (hn1 : -9223372036854775807 ≤ n) (hn2 : n ≤ 9223372036854775807) (hm1 : -9223372036854775807 ≤ m) (hm2 : m ≤ 9223372036854775807)
    (hd : d ≤ 9223372036854775807) (he : e ≤ 9223372036854775807) (hg : 0 < g) (hg2 : g < 18446744073709551616) :
    Calls Try.prog 93 #[ratV n d, ratV m e, .int .u64 g] w fun r w' => r = .returned (wideV (plusS (decide (n < 0)) (n.natAbs * (e / g)) (decide (m < 0)) (m.natAbs * (d / g))) (plusM (decide (n < 0)) (n.natAbs * (e / g)) (decide (m < 0)) (m.natAbs * (d / g)))) ∧ Below w.heap.size w w' := by
  have x1 : e / g ≤ 9223372036854775807 := Nat.le_trans (Nat.div_le_self _ _) he
  have y1 : d / g ≤ 9223372036854775807 := Nat.le_trans (Nat.div_le_self _ _) hd
  have q1 := first_digit e g (by omega)
  have q2 := first_digit d g (by omega)
  have p1 : n.natAbs * (e / g) ≤ 9223372036854775807 * 9223372036854775807 := Nat.mul_le_mul (by omega) x1
  have p2 : m.natAbs * (d / g) ≤ 9223372036854775807 * 9223372036854775807 := Nat.mul_le_mul (by omega) y1
  have hsum : n.natAbs * (e / g) + m.natAbs * (d / g) < 340282366920938463463374607431768211456 := by omega
  have s1 := fun w => size_nat d w hd
  have s2 := fun w => size_nat e w he
  have t1 := fun w => times_any n (e / g) w (by omega) hn2 (by omega)
  have t2 := fun w => times_any m (d / g) w (by omega) hm2 (by omega)
  have pl := fun w => plus_any (decide (n < 0)) (decide (m < 0)) (n.natAbs * (e / g)) (m.natAbs * (d / g)) w hsum
  have hg0 : ¬ g = 0 := by omega
  have hgi : (0 : Int) < (g : Int) := by omega
  clear hsum p1 p2 hn1 hn2 hm1 hm2 hd he hg
  obtain ⟨x, hx⟩ : ∃ x, x = e / g := ⟨_, rfl⟩
  obtain ⟨y, hy⟩ : ∃ y, y = d / g := ⟨_, rfl⟩
  rw [← hx] at x1 q1 t1 pl ⊢
  rw [← hy] at y1 q2 t2 pl ⊢
  clear hx hy
  obtain ⟨sa, hsa⟩ : ∃ sa, sa = decide (n < 0) := ⟨_, rfl⟩
  obtain ⟨sb, hsb⟩ : ∃ sb, sb = decide (m < 0) := ⟨_, rfl⟩
  obtain ⟨pa, hpa⟩ : ∃ pa, pa = n.natAbs * x := ⟨_, rfl⟩
  obtain ⟨pb, hpb⟩ : ∃ pb, pb = m.natAbs * y := ⟨_, rfl⟩
  rw [← hsa, ← hpa] at t1 pl ⊢
  rw [← hsb, ← hpb] at t2 pl ⊢
  clear hsa hsb hpa hpb
  obtain ⟨ps, hps⟩ : ∃ ps, ps = plusS sa pa sb pb := ⟨_, rfl⟩
  obtain ⟨pm, hpm⟩ : ∃ pm, pm = plusM sa pa sb pb := ⟨_, rfl⟩
  rw [← hps, ← hpm] at pl ⊢
  clear hps hpm
  go_enter Try.func93, Try.ntmps93
  go_wp2_with fail
  go_region_held3 (fun w' => (w'.cell? ⟨w.heap.size, 0, none⟩ = some (.int .i64 n) ∧ w'.cell? ⟨w.heap.size, 1, none⟩ = some (.int .i64 d) ∧ w'.cell? ⟨w.heap.size + 1, 0, none⟩ = some (.int .i64 m) ∧ w'.cell? ⟨w.heap.size + 1, 1, none⟩ = some (.int .i64 e)) ∧
      w.heap.size + 2 < w'.heap.size ∧ Below w.heap.size w w' ∧ (w'.cell? ⟨w.heap.size + 1 + 1, 0, none⟩ = some (cellD w' ⟨w.heap.size + 1 + 1, 0, none⟩) ∧ w'.cell? ⟨w.heap.size + 1 + 1, 1, none⟩ = some (cellD w' ⟨w.heap.size + 1 + 1, 1, none⟩) ∧ w'.cell? ⟨w.heap.size + 1 + 1, 2, none⟩ = some (cellD w' ⟨w.heap.size + 1 + 1, 2, none⟩)) ∧ (w'.frozen? ⟨w.heap.size + 1 + 1, 0, none⟩ = false ∧ w'.frozen? ⟨w.heap.size + 1 + 1, 1, none⟩ = false ∧ w'.frozen? ⟨w.heap.size + 1 + 1, 2, none⟩ = false))
    (first
      | with_reducible assumption
      | with_reducible exact keep_two (by with_reducible assumption) (by with_reducible assumption)
      | with_reducible exact keep_set (keep_set (keep_set (by with_reducible assumption)))
      | exact ⟨⟨by go_simp, by go_simp, by go_simp, by go_simp⟩, by simp, (((Below.refl _ _).alloc (Nat.le_refl _) _).alloc (by simp) _ |>.alloc (by simp; omega) _).drew, ⟨cellD_of (v := .bool false) (by go_simp), cellD_of (v := .int .u64 0) (by go_simp), cellD_of (v := .int .u64 0) (by go_simp)⟩, by go_simp, by go_simp, by go_simp⟩)
    (first
      | (go_at_call 76; first | ((with_reducible refine (s1 _).mono ?_); rintro e w' ⟨rfl, rfl⟩) | ((with_reducible refine (s2 _).mono ?_); rintro e w' ⟨rfl, rfl⟩))
      | (go_at_call 96; first | ((with_reducible refine (t1 _).mono ?_); rintro e w' ⟨rfl, hb⟩) | ((with_reducible refine (t2 _).mono ?_); rintro e w' ⟨rfl, hb⟩))
      | (go_at_call 97; (with_reducible refine (pl _).mono ?_); rintro e w' ⟨rfl, hb⟩))
  go_wp2_with fail
  obtain ⟨c0, c1, c2, hB⟩ := result_of rfl (by with_reducible assumption)
  exact bodyPost_ret (v := wideV ps pm) (by simp [results, Try.results93, go_sem, c0, c1, c2]) rfl ⟨rfl, hB⟩
end Go.Proofs.Ytkinbbhbencipaa

namespace Go.Proofs.Ytkinbbhbencipaa
open Go.RowKit

theorem quiet_left {P : Program} {f : FuncId} {args : Array Value} {w : World} {n : Nat} {v : Value}
    (h : Calls P f args (w.drewN n) fun e w' => e = .returned v ∧ w.drewN n = w') : Calls P f args (w.drewN n) fun e w'' => e = .returned v ∧ ∃ m, w'' = w.drewN m :=
  h.mono fun _ _ ⟨he, hm⟩ => ⟨he, n, hm.symm⟩
theorem quiet_more {P : Program} {f : FuncId} {args : Array Value} {w : World} {a n : Nat} {v : Value}
    (h : Calls P f args (w.drewN (a + n)) (Drawn (w.drewN (a + n)) v)) : Calls P f args (w.drewN (a + n)) fun e w'' => e = .returned v ∧ ∃ m, w'' = w.drewN (a + m) :=
  h.mono fun _ _ ⟨he, m, hm⟩ => ⟨he, n + m, by rw [hm, World.drewN_drewN, Nat.add_assoc]⟩
theorem quiet_more_left {P : Program} {f : FuncId} {args : Array Value} {w : World} {a n : Nat} {v : Value}
    (h : Calls P f args (w.drewN (a + n)) fun e w' => e = .returned v ∧ w.drewN (a + n) = w') : Calls P f args (w.drewN (a + n)) fun e w'' => e = .returned v ∧ ∃ m, w'' = w.drewN (a + m) :=
  h.mono fun _ _ ⟨he, hm⟩ => ⟨he, n, hm.symm⟩

/-- Is a fraction right? -/
def rightB (n d : Int) : Bool := decide (0 < d ∧ n ≠ -9223372036854775808 ∧ Nat.gcd n.natAbs d.natAbs = 1)

set_option maxHeartbeats 1000000 in
theorem right_any (n d : Int) (w : World) (h1 : -9223372036854775808 ≤ n) (h2 : n ≤ 9223372036854775807) (h3 : -9223372036854775808 ≤ d) (h4 : d ≤ 9223372036854775807) :
    Calls Try.prog 55 #[ratV n d] w fun e w' => e = .returned (.bool (rightB n d)) ∧ Below w.heap.size w w' := by
  unfold rightB
  by_cases a : 0 < d
  · by_cases b : n = -9223372036854775808
    · rw [decide_eq_false (by omega)]
      have d1 : decide (0 < d) = true := decide_eq_true a
      have d2 : (n != -9223372036854775808) = false := by simp [b]
      clear h1 h2 h3 h4 a b
      go_enter Try.func55, Try.ntmps55
      go_wp2_with fail
      go_quiet (fail)
      go_wp2_with fail
      go_ret
      exact ⟨rfl, below_drewN ((Below.refl _ _).alloc (Nat.le_refl _) _) _⟩
    · have s1 := fun w => size_any n w h1 h2
      have s2 := fun w => size_any d w h3 h4
      have g := fun w => divisor_any n.natAbs d.natAbs w (by omega) (by omega)
      have d1 : decide (0 < d) = true := decide_eq_true a
      have d2 : (n != -9223372036854775808) = true := by simpa using b
      have e : decide (0 < d ∧ n ≠ -9223372036854775808 ∧ Nat.gcd n.natAbs d.natAbs = 1) = ((((Nat.gcd n.natAbs d.natAbs : Nat)) : Int) == 1) := by
        rw [Bool.eq_iff_iff]; simp [a, b]; omega
      rw [e]
      clear h1 h2 h3 h4 a b e
      obtain ⟨G, hG⟩ : ∃ G, G = Nat.gcd n.natAbs d.natAbs := ⟨_, rfl⟩
      rw [← hG] at g ⊢
      clear hG
      go_enter Try.func55, Try.ntmps55
      go_wp2_with fail
      go_quiet ((first
        | (go_at_call 76; first | (with_reducible exact quiet_left (s1 _)) | (with_reducible exact quiet_left (s2 _)))
        | (go_at_call 75; with_reducible exact Calls.quiet_of (g _))))
      go_wp2_with fail
      go_ret
      exact ⟨rfl, below_drewN ((Below.refl _ _).alloc (Nat.le_refl _) _) _⟩
  · rw [decide_eq_false (by omega)]
    have d1 : decide (0 < d) = false := decide_eq_false a
    clear h1 h2 h3 h4 a
    go_enter Try.func55, Try.ntmps55
    go_wp2_with fail
    go_quiet (fail)
    go_wp2_with fail
    go_ret
    exact ⟨rfl, below_drewN ((Below.refl _ _).alloc (Nat.le_refl _) _) _⟩

theorem below_box3 (w : World) (a b c : Obj) (n : Nat) : Below w.heap.size w ((((w.alloc a).alloc b).alloc c).drewN n) :=
  below_drewN (((Below.refl _ _).alloc (Nat.le_refl _) _).alloc (by simp) _ |>.alloc (by simp; omega) _) _
theorem below_two {w w1 : World} (h : Below w.heap.size w w1) {o p : Nat} {x y : Value} : Below w.heap.size w ((w1.setCell ⟨w.heap.size + 1 + 1, o, none⟩ x).setCell ⟨w.heap.size + 1 + 1, p, none⟩ y) :=
  (h.setCell (by simp; omega) _).setCell (by simp; omega) _

theorem up_zero {N : Nat} (h : up N = 0) : N < 18446744073709551616 ∧ lw N = N := by unfold up at h; unfold lw; omega
theorem up_pos {N : Nat} (h : ¬ up N = 0) : ¬ N ≤ 9223372036854775807 := by unfold up at h; omega

set_option maxHeartbeats 4000000 in
theorem product_any (n m : Int) (d e : Nat) (w : World) (hn1 : -9223372036854775807 ≤ n) (hn2 : n ≤ 9223372036854775807) (hm1 : -9223372036854775807 ≤ m) (hm2 : m ≤ 9223372036854775807)
    (hd0 : 0 < d) (hd : d ≤ 9223372036854775807) (he0 : 0 < e) (he : e ≤ 9223372036854775807) (g h : Nat) (hg : g = Nat.gcd n.natAbs e) (hh : h = Nat.gcd m.natAbs d) (N D : Nat)
    (hN : N = n.natAbs / g * (m.natAbs / h)) (hD : D = d / h * (e / g)) :
    Calls Try.prog 78 #[ratV n d, ratV m e] w fun r w' => r = .returned (.tuple #[ratV (fitN (!(decide (n < 0) == decide (m < 0))) N D) (fitD N D), .int .i64 (fitE N D)]) ∧ Below w.heap.size w w' := by
  have hgp : 0 < g := by rw [hg]; exact Nat.gcd_pos_of_pos_right _ he0
  have hhp : 0 < h := by rw [hh]; exact Nat.gcd_pos_of_pos_right _ hd0
  have s1 := fun w => size_any n w (by omega) hn2
  have s2 := fun w => size_any m w (by omega) hm2
  have s3 := fun w => size_nat d w hd
  have s4 := fun w => size_nat e w he
  have g1 := fun w => divisor_any n.natAbs e w (by omega) (by omega)
  have g2 := fun w => divisor_any m.natAbs d w (by omega) (by omega)
  rw [← hg] at g1
  rw [← hh] at g2
  have q1 := first_digit n.natAbs g (by omega)
  have q2 := first_digit m.natAbs h (by omega)
  have q3 := first_digit d h (by omega)
  have q4 := first_digit e g (by omega)
  have l1 : n.natAbs / g ≤ 9223372036854775807 := Nat.le_trans (Nat.div_le_self _ _) (by omega)
  have l2 : m.natAbs / h ≤ 9223372036854775807 := Nat.le_trans (Nat.div_le_self _ _) (by omega)
  have l3 : d / h ≤ 9223372036854775807 := Nat.le_trans (Nat.div_le_self _ _) hd
  have l4 : e / g ≤ 9223372036854775807 := Nat.le_trans (Nat.div_le_self _ _) he
  have m1 := fun w => mul64 (n.natAbs / g) (m.natAbs / h) w (by omega) (by omega)
  have m2 := fun w => mul64 (d / h) (e / g) w (by omega) (by omega)
  rw [← hN] at m1
  rw [← hD] at m2
  have fo := fun w => fit_any (!(decide (n < 0) == decide (m < 0))) (lw N) (lw D) w (lw_lt N) (lw_lt D)
  obtain ⟨x1, hx1⟩ : ∃ x1, x1 = n.natAbs / g := ⟨_, rfl⟩
  obtain ⟨x2, hx2⟩ : ∃ x2, x2 = m.natAbs / h := ⟨_, rfl⟩
  obtain ⟨x3, hx3⟩ : ∃ x3, x3 = d / h := ⟨_, rfl⟩
  obtain ⟨x4, hx4⟩ : ∃ x4, x4 = e / g := ⟨_, rfl⟩
  rw [← hx1] at q1 m1
  rw [← hx2] at q2 m1
  rw [← hx3] at q3 m2
  rw [← hx4] at q4 m2
  have hg0 : ¬ g = 0 := by omega
  have hh0 : ¬ h = 0 := by omega
  have hgi : (0 : Int) < (g : Int) := by omega
  have hhi : (0 : Int) < (h : Int) := by omega
  clear l1 l2 l3 l4 hx1 hx2 hx3 hx4 hN hD hg hh hgp hhp hn1 hn2 hm1 hm2 hd he hd0 he0
  by_cases a : up N = 0
  · by_cases b : up D = 0
    · obtain ⟨_, a2⟩ := up_zero a
      obtain ⟨_, b2⟩ := up_zero b
      rw [a2] at fo m1
      rw [b2] at fo m2
      rw [a] at m1
      rw [b] at m2
      obtain ⟨F1, hF1⟩ : ∃ F1, F1 = fitN (!(decide (n < 0) == decide (m < 0))) N D := ⟨_, rfl⟩
      obtain ⟨F2, hF2⟩ : ∃ F2, F2 = fitD N D := ⟨_, rfl⟩
      obtain ⟨F3, hF3⟩ : ∃ F3, F3 = fitE N D := ⟨_, rfl⟩
      rw [← hF1, ← hF2, ← hF3] at fo ⊢
      clear a b a2 b2 hF1 hF2 hF3
      simp only [Int.natCast_zero] at m1 m2
      go_enter Try.func78, Try.ntmps78
      go_wp2_with fail
      go_quiet ((first
        | (go_at_call 76; first | (with_reducible exact quiet_left (s1 _)) | (with_reducible exact quiet_left (s4 _)))
        | (go_at_call 75; with_reducible exact Calls.quiet_of (g1 _))))
      go_wp2_with fail
      go_quiet ((first
        | (go_at_call 76; first | (with_reducible exact quiet_more_left (s2 _)) | (with_reducible exact quiet_more_left (s3 _)))
        | (go_at_call 75; with_reducible exact quiet_more (g2 _))))
      go_wp2_with fail
      go_quiet ((first
        | (go_at_call 76; first | (with_reducible exact quiet_more_left (s1 _)) | (with_reducible exact quiet_more_left (s2 _)))
        | (go_at_call 90; with_reducible exact quiet_more_left (m1 _))))
      go_wp2_with fail
      go_quiet ((first
        | (go_at_call 76; first | (with_reducible exact quiet_more_left (s3 _)) | (with_reducible exact quiet_more_left (s4 _)))
        | (go_at_call 90; with_reducible exact quiet_more_left (m2 _))))
      go_wp2_with (go_at_call 91; (with_reducible refine (fo _).mono ?_); rintro e w1 ⟨rfl, hb⟩; obtain ⟨hc, hf⟩ := bcell hb)
      exact bodyPost_ret (v := .tuple #[ratV F1 F2, .int .i64 F3]) (by simp [results, Try.results78, go_sem, hc]) rfl ⟨rfl, below_two ((below_box3 _ _ _ _ _).trans (hb.mono (by simp; omega)))⟩
    · have nb := up_pos b
      have E1 : fitE N D = 3 := by unfold fitE; rw [if_neg (by omega)]
      have E2 : fitD N D = 0 := by unfold fitD; rw [if_neg (by omega)]
      have E3 : fitN (!(decide (n < 0) == decide (m < 0))) N D = 0 := by unfold fitN; rw [if_neg (by omega)]
      rw [E1, E2, E3]
      rw [a] at m1
      simp only [Int.natCast_zero] at m1
      obtain ⟨U, hU⟩ : ∃ U, U = up D := ⟨_, rfl⟩
      rw [← hU] at m2 b
      have b2 : ((U : Int) == 0) = false := by simp; omega
      have b3 : ((U : Int) != 0) = true := by simp; omega
      clear fo a b nb E1 E2 E3 hU
      go_enter Try.func78, Try.ntmps78
      go_wp2_with fail
      go_quiet ((first
        | (go_at_call 76; first | (with_reducible exact quiet_left (s1 _)) | (with_reducible exact quiet_left (s4 _)))
        | (go_at_call 75; with_reducible exact Calls.quiet_of (g1 _))))
      go_wp2_with fail
      go_quiet ((first
        | (go_at_call 76; first | (with_reducible exact quiet_more_left (s2 _)) | (with_reducible exact quiet_more_left (s3 _)))
        | (go_at_call 75; with_reducible exact quiet_more (g2 _))))
      go_wp2_with fail
      go_quiet ((first
        | (go_at_call 76; first | (with_reducible exact quiet_more_left (s1 _)) | (with_reducible exact quiet_more_left (s2 _)))
        | (go_at_call 90; with_reducible exact quiet_more_left (m1 _))))
      go_wp2_with fail
      go_quiet ((first
        | (go_at_call 76; first | (with_reducible exact quiet_more_left (s3 _)) | (with_reducible exact quiet_more_left (s4 _)))
        | (go_at_call 90; with_reducible exact quiet_more_left (m2 _))))
      go_wp2_with fail
      exact bodyPost_ret (v := .tuple #[ratV 0 0, .int .i64 3]) (by simp [results, Try.results78, go_sem]) rfl ⟨rfl, below_two (below_box3 _ _ _ _ _)⟩
  · have na := up_pos a
    have E1 : fitE N D = 3 := by unfold fitE; rw [if_neg (by omega)]
    have E2 : fitD N D = 0 := by unfold fitD; rw [if_neg (by omega)]
    have E3 : fitN (!(decide (n < 0) == decide (m < 0))) N D = 0 := by unfold fitN; rw [if_neg (by omega)]
    rw [E1, E2, E3]
    obtain ⟨U, hU⟩ : ∃ U, U = up N := ⟨_, rfl⟩
    rw [← hU] at m1 a
    have b2 : ((U : Int) == 0) = false := by simp; omega
    have b3 : ((U : Int) != 0) = true := by simp; omega
    clear fo a na E1 E2 E3 hU
    go_enter Try.func78, Try.ntmps78
    go_wp2_with fail
    go_quiet ((first
      | (go_at_call 76; first | (with_reducible exact quiet_left (s1 _)) | (with_reducible exact quiet_left (s4 _)))
      | (go_at_call 75; with_reducible exact Calls.quiet_of (g1 _))))
    go_wp2_with fail
    go_quiet ((first
      | (go_at_call 76; first | (with_reducible exact quiet_more_left (s2 _)) | (with_reducible exact quiet_more_left (s3 _)))
      | (go_at_call 75; with_reducible exact quiet_more (g2 _))))
    go_wp2_with fail
    go_quiet ((first
      | (go_at_call 76; first | (with_reducible exact quiet_more_left (s1 _)) | (with_reducible exact quiet_more_left (s2 _)))
      | (go_at_call 90; with_reducible exact quiet_more_left (m1 _))))
    go_wp2_with fail
    go_quiet ((first
      | (go_at_call 76; first | (with_reducible exact quiet_more_left (s3 _)) | (with_reducible exact quiet_more_left (s4 _)))
      | (go_at_call 90; with_reducible exact quiet_more_left (m2 _))))
    go_wp2_with fail
    exact bodyPost_ret (v := .tuple #[ratV 0 0, .int .i64 3]) (by simp [results, Try.results78, go_sem]) rfl ⟨rfl, below_two (below_box3 _ _ _ _ _)⟩
end Go.Proofs.Ytkinbbhbencipaa

namespace Go.Proofs.Ytkinbbhbencipaa
open Go.RowKit

/-- The two fractions lie in their boxes, the place of the result is free, all that is older is as it was. -/
structure Boxes (w w1 : World) (n d m e : Int) : Prop where
  c0 : w1.cell? ⟨w.heap.size, 0, none⟩ = some (.int .i64 n)
  c1 : w1.cell? ⟨w.heap.size, 1, none⟩ = some (.int .i64 d)
  c2 : w1.cell? ⟨w.heap.size + 1, 0, none⟩ = some (.int .i64 m)
  c3 : w1.cell? ⟨w.heap.size + 1, 1, none⟩ = some (.int .i64 e)
  i0 : w1.cell? ⟨w.heap.size + 1 + 1, 0, none⟩ = some (.int .i64 0)
  i1 : w1.cell? ⟨w.heap.size + 1 + 1, 1, none⟩ = some (.int .i64 0)
  j0 : w1.frozen? ⟨w.heap.size + 1 + 1, 0, none⟩ = false
  j1 : w1.frozen? ⟨w.heap.size + 1 + 1, 1, none⟩ = false
  size : w.heap.size + 2 < w1.heap.size
  below : Below w.heap.size w w1

theorem Boxes.start (w : World) (n d m e : Int) (k : Nat) (ty : TypeId) : Boxes w ((((w.alloc (.cells #[.int .i64 n, .int .i64 d] ty)).alloc (.cells #[.int .i64 m, .int .i64 e] ty)).alloc (.cells #[.int .i64 0, .int .i64 0] ty)).drewN k) n d m e where
  c0 := by go_simp
  c1 := by go_simp
  c2 := by go_simp
  c3 := by go_simp
  i0 := by go_simp
  i1 := by go_simp
  j0 := by go_simp
  j1 := by go_simp
  size := by simp
  below := below_box3 _ _ _ _ _

theorem Boxes.keep {w w1 w2 : World} {n d m e : Int} (h : Boxes w w1 n d m e) (hb : Below w1.heap.size w1 w2) : Boxes w w2 n d m e :=
  have s := h.size
  have z := hb.size
  { c0 := keep_cell hb (by omega) h.c0, c1 := keep_cell hb (by omega) h.c1, c2 := keep_cell hb (by omega) h.c2, c3 := keep_cell hb (by omega) h.c3
    i0 := keep_cell hb (by omega) h.i0, i1 := keep_cell hb (by omega) h.i1, j0 := keep_free hb (by omega) h.j0, j1 := keep_free hb (by omega) h.j1
    size := by omega, below := h.below.trans (hb.mono (by omega)) }

theorem below_alloc1 (w : World) (a : Obj) : Below w.heap.size w (w.alloc a) := (Below.refl _ _).alloc (Nat.le_refl _) _

/-- A number of 128 bits in its block. -/
structure WideAt (w1 : World) (b : Nat) (s : Bool) (m : Nat) : Prop where
  k0 : w1.cell? ⟨b, 0, none⟩ = some (.bool s)
  k1 : w1.cell? ⟨b, 1, none⟩ = some (.int .u64 (up m : Nat))
  k2 : w1.cell? ⟨b, 2, none⟩ = some (.int .u64 (lw m : Nat))
  lt : b < w1.heap.size

theorem WideAt.start (w : World) (s : Bool) (m : Nat) (ty : TypeId) : WideAt (w.alloc (.cells #[.bool s, .int .u64 (up m : Nat), .int .u64 (lw m : Nat)] ty)) w.heap.size s m where
  k0 := by go_simp
  k1 := by go_simp
  k2 := by go_simp
  lt := by simp

theorem WideAt.keep {w1 w2 : World} {b m : Nat} {s : Bool} (h : WideAt w1 b s m) (hb : Below w1.heap.size w1 w2) : WideAt w2 b s m :=
  have z := hb.size
  have l := h.lt
  { k0 := keep_cell hb l h.k0, k1 := keep_cell hb l h.k1, k2 := keep_cell hb l h.k2, lt := by omega }

set_option maxHeartbeats 4000000 in
theorem sum_any (n m : Int) (d e : Nat) (w : World) (hn1 : -9223372036854775807 ≤ n) (hn2 : n ≤ 9223372036854775807) (hm1 : -9223372036854775807 ≤ m) (hm2 : m ≤ 9223372036854775807)
    (hd0 : 0 < d) (hd : d ≤ 9223372036854775807) (he0 : 0 < e) (he : e ≤ 9223372036854775807) (g h T N D : Nat) (s : Bool) (hg : g = Nat.gcd d e)
    (hs : s = plusS (decide (n < 0)) (n.natAbs * (e / g)) (decide (m < 0)) (m.natAbs * (d / g))) (hT : T = plusM (decide (n < 0)) (n.natAbs * (e / g)) (decide (m < 0)) (m.natAbs * (d / g)))
    (hT2 : T < 340282366920938463463374607431768211456) (hh : h = Nat.gcd g (T % g)) (hN : N = T / h) (hD : D = d / g * (e / h)) :
    Calls Try.prog 85 #[ratV n d, ratV m e] w fun r w' => r = .returned (.tuple #[ratV (fitN s N D) (fitD N D), .int .i64 (fitE N D)]) ∧ Below w.heap.size w w' := by
  have hgp : 0 < g := by rw [hg]; exact Nat.gcd_pos_of_pos_right _ he0
  have hhp : 0 < h := by rw [hh]; exact Nat.gcd_pos_of_pos_left _ hgp
  have hgl : g ≤ 9223372036854775807 := by rw [hg]; exact Nat.le_trans (Nat.gcd_le_left _ hd0) hd
  have hhl : h ≤ 9223372036854775807 := by rw [hh]; exact Nat.le_trans (Nat.gcd_le_left _ hgp) hgl
  have s3 := fun w => size_nat d w hd
  have s4 := fun w => size_nat e w he
  have g1 := fun w => divisor_any d e w (by omega) (by omega)
  rw [← hg] at g1
  have ac := fun w => across_any n m d e g w hn1 hn2 hm1 hm2 hd he hgp (by omega)
  rw [← hs, ← hT] at ac
  have re := fun w => rest_any s T g w hT2 hgp (by omega)
  have rl : T % g < 18446744073709551616 := by have := Nat.mod_lt T hgp; omega
  have g2 := fun w => divisor_any g (T % g) w (by omega) rl
  rw [← hh] at g2
  have ov := fun w => over_any s T h w hhp (by omega)
  obtain ⟨q, hq⟩ : ∃ q, q = quoW T h := ⟨_, rfl⟩
  obtain ⟨ok, hok⟩ : ∃ ok, ok = fitsB T h := ⟨_, rfl⟩
  rw [← hq, ← hok] at ov
  unfold quoW at hq
  unfold fitsB at hok
  rw [← hN] at hq hok
  have q3 := first_digit d g (by omega)
  have q4 := first_digit e h (by omega)
  have l3 : d / g ≤ 9223372036854775807 := Nat.le_trans (Nat.div_le_self _ _) hd
  have l4 : e / h ≤ 9223372036854775807 := Nat.le_trans (Nat.div_le_self _ _) he
  have m2 := fun w => mul64 (d / g) (e / h) w (by omega) (by omega)
  rw [← hD] at m2
  obtain ⟨r, hr⟩ : ∃ r, r = T % g := ⟨_, rfl⟩
  obtain ⟨x3, hx3⟩ : ∃ x3, x3 = d / g := ⟨_, rfl⟩
  obtain ⟨x4, hx4⟩ : ∃ x4, x4 = e / h := ⟨_, rfl⟩
  rw [← hr] at re g2
  rw [← hx3] at q3 m2
  rw [← hx4] at q4 m2
  have hg0 : ¬ g = 0 := by omega
  have hh0 : ¬ h = 0 := by omega
  have hgi : (0 : Int) < (g : Int) := by omega
  have hhi : (0 : Int) < (h : Int) := by omega
  clear l3 l4 hx3 hx4 hN hD hg hs hT hT2 rl hr hh hgp hhp hgl hhl hn1 hn2 hm1 hm2 hd he hd0 he0
  by_cases a : N < 18446744073709551616
  · rw [if_pos a] at hq
    rw [decide_eq_true a] at hok
    by_cases b : up D = 0
    · obtain ⟨_, b2⟩ := up_zero b
      have fo := fun w => fit_any s N (lw D) w a (lw_lt D)
      rw [b2] at fo m2
      rw [b] at m2
      subst hq hok
      obtain ⟨F1, hF1⟩ : ∃ F1, F1 = fitN s q D := ⟨_, rfl⟩
      obtain ⟨F2, hF2⟩ : ∃ F2, F2 = fitD q D := ⟨_, rfl⟩
      obtain ⟨F3, hF3⟩ : ∃ F3, F3 = fitE q D := ⟨_, rfl⟩
      rw [← hF1, ← hF2, ← hF3] at fo ⊢
      clear a b b2 hF1 hF2 hF3
      simp only [Int.natCast_zero] at m2
      go_enter Try.func85, Try.ntmps85
      go_wp2_with fail
      go_quiet ((first
        | (go_at_call 76; first | (with_reducible exact quiet_left (s3 _)) | (with_reducible exact quiet_left (s4 _)))
        | (go_at_call 75; with_reducible exact Calls.quiet_of (g1 _))))
      go_upto_region 3 with (go_at_call 93; (with_reducible refine (ac _).mono ?_); rintro e w1 ⟨rfl, hb⟩)
      have B1 := Lib.hid ((Boxes.start w n d m e _ 25).keep hb)
      clear hb
      go_upto_region 4 with (first
        | (go_at_call 94; (with_reducible refine (re _).mono ?_); rintro e w2 ⟨rfl, hb⟩)
        | (go_at_call 75; (with_reducible refine (g2 _).mono ?_); rintro e w' ⟨rfl, nd, rfl⟩))
      have B2 := Lib.hid ((B1.out.keep (below_alloc1 _ _)).keep hb)
      have V2 := (WideAt.start w1 s T 132).keep hb
      have v0 := V2.k0
      have v1 := V2.k1
      have v2 := V2.k2
      have W2 := Lib.hid V2
      clear hb V2 B1
      go_upto_region 5 with (go_at_call 95; (with_reducible refine (ov _).mono ?_); rintro e w3 ⟨rfl, hb⟩)
      have B3 := Lib.hid (B2.out.keep ((below_drewN (Below.refl _ _) _).trans hb))
      have V3 := W2.out.keep ((below_drewN (Below.refl _ _) _).trans hb)
      clear v0 v1 v2 hb B2 W2
      have v0 := V3.k0
      have b0 := B3.out.c1
      have b1 := B3.out.c3
      clear V3
      go_quiet ((first
        | (go_at_call 76; first | (with_reducible exact quiet_left (s3 _)) | (with_reducible exact quiet_left (s4 _)))
        | (go_at_call 90; with_reducible exact quiet_left (m2 _))))
      go_wp2_with (go_at_call 91; (with_reducible refine (fo _).mono ?_); rintro e w4 ⟨rfl, hb⟩; have B4 := B3.out.keep ((below_drewN (Below.refl _ _) _).trans hb); have i0 := B4.i0; have i1 := B4.i1; have j0 := B4.j0; have j1 := B4.j1; have HB := Lib.hid B4.below; clear B4 B3 v0 b0 b1 hb)
      exact bodyPost_ret (v := .tuple #[ratV F1 F2, .int .i64 F3]) (by simp [results, Try.results85, go_sem, i0, i1]) rfl ⟨rfl, below_two HB.out⟩
    · have nb := up_pos b
      have E1 : fitE N D = 3 := by unfold fitE; rw [if_neg (by omega)]
      have E2 : fitD N D = 0 := by unfold fitD; rw [if_neg (by omega)]
      have E3 : fitN s N D = 0 := by unfold fitN; rw [if_neg (by omega)]
      rw [E1, E2, E3]
      subst hq hok
      obtain ⟨U, hU⟩ : ∃ U, U = up D := ⟨_, rfl⟩
      rw [← hU] at m2 b
      have b2 : ((U : Int) == 0) = false := by simp; omega
      have b3 : ((U : Int) != 0) = true := by simp; omega
      clear a b nb E1 E2 E3 hU
      go_enter Try.func85, Try.ntmps85
      go_wp2_with fail
      go_quiet ((first
        | (go_at_call 76; first | (with_reducible exact quiet_left (s3 _)) | (with_reducible exact quiet_left (s4 _)))
        | (go_at_call 75; with_reducible exact Calls.quiet_of (g1 _))))
      go_upto_region 3 with (go_at_call 93; (with_reducible refine (ac _).mono ?_); rintro e w1 ⟨rfl, hb⟩)
      have B1 := Lib.hid ((Boxes.start w n d m e _ 25).keep hb)
      clear hb
      go_upto_region 4 with (first
        | (go_at_call 94; (with_reducible refine (re _).mono ?_); rintro e w2 ⟨rfl, hb⟩)
        | (go_at_call 75; (with_reducible refine (g2 _).mono ?_); rintro e w' ⟨rfl, nd, rfl⟩))
      have B2 := Lib.hid ((B1.out.keep (below_alloc1 _ _)).keep hb)
      have V2 := (WideAt.start w1 s T 132).keep hb
      have v0 := V2.k0
      have v1 := V2.k1
      have v2 := V2.k2
      have W2 := Lib.hid V2
      clear hb V2 B1
      go_upto_region 5 with (go_at_call 95; (with_reducible refine (ov _).mono ?_); rintro e w3 ⟨rfl, hb⟩)
      have B3 := Lib.hid (B2.out.keep ((below_drewN (Below.refl _ _) _).trans hb))
      have V3 := W2.out.keep ((below_drewN (Below.refl _ _) _).trans hb)
      clear v0 v1 v2 hb B2 W2
      have v0 := V3.k0
      have b0 := B3.out.c1
      have b1 := B3.out.c3
      clear V3
      go_quiet ((first
        | (go_at_call 76; first | (with_reducible exact quiet_left (s3 _)) | (with_reducible exact quiet_left (s4 _)))
        | (go_at_call 90; with_reducible exact quiet_left (m2 _))))
      have i0 := B3.out.i0
      have i1 := B3.out.i1
      have j0 := B3.out.j0
      have j1 := B3.out.j1
      clear v0 b0 b1
      go_wp2_with fail
      exact bodyPost_ret (v := .tuple #[ratV 0 0, .int .i64 3]) (by simp [results, Try.results85, go_sem, i0, i1]) rfl ⟨rfl, below_two (below_drewN B3.out.below _)⟩
  · have E1 : fitE N D = 3 := by unfold fitE; rw [if_neg (by omega)]
    have E2 : fitD N D = 0 := by unfold fitD; rw [if_neg (by omega)]
    have E3 : fitN s N D = 0 := by unfold fitN; rw [if_neg (by omega)]
    rw [E1, E2, E3]
    rw [if_neg a] at hq
    rw [decide_eq_false a] at hok
    subst hq hok
    clear a E1 E2 E3
    simp only [Int.natCast_zero] at ov
    go_enter Try.func85, Try.ntmps85
    go_wp2_with fail
    go_quiet ((first
      | (go_at_call 76; first | (with_reducible exact quiet_left (s3 _)) | (with_reducible exact quiet_left (s4 _)))
      | (go_at_call 75; with_reducible exact Calls.quiet_of (g1 _))))
    go_upto_region 3 with (go_at_call 93; (with_reducible refine (ac _).mono ?_); rintro e w1 ⟨rfl, hb⟩)
    have B1 := Lib.hid ((Boxes.start w n d m e _ 25).keep hb)
    clear hb
    go_upto_region 4 with (first
      | (go_at_call 94; (with_reducible refine (re _).mono ?_); rintro e w2 ⟨rfl, hb⟩)
      | (go_at_call 75; (with_reducible refine (g2 _).mono ?_); rintro e w' ⟨rfl, nd, rfl⟩))
    have B2 := Lib.hid ((B1.out.keep (below_alloc1 _ _)).keep hb)
    have V2 := (WideAt.start w1 s T 132).keep hb
    have v0 := V2.k0
    have v1 := V2.k1
    have v2 := V2.k2
    have W2 := Lib.hid V2
    clear hb V2 B1
    go_upto_region 5 with (go_at_call 95; (with_reducible refine (ov _).mono ?_); rintro e w3 ⟨rfl, hb⟩)
    have B3 := Lib.hid (B2.out.keep ((below_drewN (Below.refl _ _) _).trans hb))
    have V3 := W2.out.keep ((below_drewN (Below.refl _ _) _).trans hb)
    clear v0 v1 v2 hb B2 W2
    have v0 := V3.k0
    have b0 := B3.out.c1
    have b1 := B3.out.c3
    clear V3
    go_quiet ((first
      | (go_at_call 76; first | (with_reducible exact quiet_left (s3 _)) | (with_reducible exact quiet_left (s4 _)))
      | (go_at_call 90; with_reducible exact quiet_left (m2 _))))
    have i0 := B3.out.i0
    have i1 := B3.out.i1
    have j0 := B3.out.j0
    have j1 := B3.out.j1
    clear v0 b0 b1
    go_wp2_with fail
    exact bodyPost_ret (v := .tuple #[ratV 0 0, .int .i64 3]) (by simp [results, Try.results85, go_sem, i0, i1]) rfl ⟨rfl, below_two (below_drewN B3.out.below _)⟩
end Go.Proofs.Ytkinbbhbencipaa

namespace Go.Proofs.Ytkinbbhbencipaa

/-- A right fraction. -/
structure Valid (n : Int) (d : Nat) : Prop where
  pos : 0 < d
  d_le : d ≤ 9223372036854775807
  n_le : n.natAbs ≤ 9223372036854775807
  low : Nat.gcd n.natAbs d = 1

/-- What P over Q becomes: numerator, denominator, error. -/
def resN (P : Int) (Q : Nat) : Int := fitN (decide (P < 0)) (P.natAbs / Nat.gcd P.natAbs Q) (Q / Nat.gcd P.natAbs Q)
def resD (P : Int) (Q : Nat) : Int := fitD (P.natAbs / Nat.gcd P.natAbs Q) (Q / Nat.gcd P.natAbs Q)
def resE (P : Int) (Q : Nat) : Int := fitE (P.natAbs / Nat.gcd P.natAbs Q) (Q / Nat.gcd P.natAbs Q)

theorem natAbs_eq_sign (P : Int) : P = (if decide (P < 0) = true then -(P.natAbs : Int) else (P.natAbs : Int)) := by
  by_cases h : P < 0
  · simp [h]; omega
  · simp [h]; omega

/-- Right fractions of one value are one fraction. -/
theorem Valid.unique {n m : Int} {d e : Nat} (h : Valid n d) (k : Valid m e) (he : n * (e : Int) = m * (d : Int)) : n = m ∧ d = e := by
  have ha : n.natAbs * e = m.natAbs * d := by
    have := congrArg Int.natAbs he
    simpa [Int.natAbs_mul] using this
  have d1 : d ∣ e := by
    have : d ∣ n.natAbs * e := ⟨m.natAbs, by rw [ha, Nat.mul_comm]⟩
    exact (Nat.Coprime.dvd_of_dvd_mul_left (Nat.Coprime.symm h.low) this)
  have d2 : e ∣ d := by
    have : e ∣ m.natAbs * d := ⟨n.natAbs, by rw [← ha, Nat.mul_comm]⟩
    exact (Nat.Coprime.dvd_of_dvd_mul_left (Nat.Coprime.symm k.low) this)
  have de : d = e := Nat.dvd_antisymm d1 d2
  subst de
  have hp := h.pos
  exact ⟨Int.eq_of_mul_eq_mul_right (by omega) he, rfl⟩

theorem lowest (P : Int) (Q : Nat) (hQ : 0 < Q) : Nat.gcd (P.natAbs / Nat.gcd P.natAbs Q) (Q / Nat.gcd P.natAbs Q) = 1 ∧ 0 < Q / Nat.gcd P.natAbs Q := by
  have hg : 0 < Nat.gcd P.natAbs Q := Nat.gcd_pos_of_pos_right _ hQ
  exact ⟨Nat.coprime_div_gcd_div_gcd hg, Nat.div_pos (Nat.le_of_dvd hQ (Nat.gcd_dvd_right _ _)) hg⟩

/-- Lowest terms are found by a cross product. -/
theorem reduced {p q x y : Nat} (hq : 0 < q) (hy : 0 < y) (hxy : Nat.gcd x y = 1) (h : x * q = p * y) : p / Nat.gcd p q = x ∧ q / Nat.gcd p q = y := by
  have g1 := Nat.div_mul_cancel (Nat.gcd_dvd_left p q)
  have g2 := Nat.div_mul_cancel (Nat.gcd_dvd_right p q)
  have hg : 0 < Nat.gcd p q := Nat.gcd_pos_of_pos_right _ hq
  have l1 : Nat.gcd (p / Nat.gcd p q) (q / Nat.gcd p q) = 1 := Nat.coprime_div_gcd_div_gcd hg
  revert l1 g1 g2 hg
  generalize p / Nat.gcd p q = a
  generalize q / Nat.gcd p q = b
  generalize Nat.gcd p q = g
  intro g1 g2 hg l1
  have c : x * b = a * y := by
    rw [← g1, ← g2] at h
    have : x * b * g = a * y * g := by rw [Nat.mul_assoc, h, Nat.mul_right_comm]
    exact Nat.eq_of_mul_eq_mul_right hg this
  have d1 : y ∣ b := Nat.Coprime.dvd_of_dvd_mul_left (Nat.Coprime.symm hxy) ⟨a, by rw [c, Nat.mul_comm]⟩
  have d2 : b ∣ y := Nat.Coprime.dvd_of_dvd_mul_left (Nat.Coprime.symm l1) ⟨x, by rw [← c, Nat.mul_comm]⟩
  have de : b = y := Nat.dvd_antisymm d2 d1
  subst de
  exact ⟨(Nat.eq_of_mul_eq_mul_right hy c).symm, rfl⟩

theorem res_ok {P : Int} {Q : Nat} (hQ : 0 < Q) (h : resE P Q = 0) : ∃ d : Nat, resD P Q = d ∧ Valid (resN P Q) d ∧ resN P Q * (Q : Int) = P * (d : Int) := by
  obtain ⟨l1, l2⟩ := lowest P Q hQ
  have g1 := Nat.div_mul_cancel (Nat.gcd_dvd_left P.natAbs Q)
  have g2 := Nat.div_mul_cancel (Nat.gcd_dvd_right P.natAbs Q)
  unfold resE fitE at h
  unfold resN resD fitN fitD
  generalize P.natAbs / Nat.gcd P.natAbs Q = x at *
  generalize Q / Nat.gcd P.natAbs Q = y at *
  generalize Nat.gcd P.natAbs Q = g at *
  by_cases c : x ≤ 9223372036854775807 ∧ y ≤ 9223372036854775807
  · rw [if_pos c, if_pos c]
    refine ⟨y, rfl, ⟨l2, c.2, ?_, ?_⟩, ?_⟩
    · split <;> omega
    · have : (if decide (P < 0) = true then -(x : Int) else (x : Int)).natAbs = x := by split <;> omega
      rw [this]; exact l1
    · have hP := natAbs_eq_sign P
      rw [← g1, ← g2] at *
      by_cases s : P < 0
      · simp only [s, decide_true, if_true] at hP ⊢
        rw [hP]; push_cast; rw [Int.neg_mul, Int.neg_mul, Int.mul_assoc, Int.mul_comm (y : Int)]
      · simp only [s, decide_false, Bool.false_eq_true, if_false] at hP ⊢
        rw [hP]; push_cast; rw [Int.mul_assoc, Int.mul_comm (y : Int)]
  · rw [if_neg c] at h
    exact absurd h (by decide)

theorem res_of {P n : Int} {Q d : Nat} (hQ : 0 < Q) (v : Valid n d) (h : n * (Q : Int) = P * (d : Int)) : resE P Q = 0 ∧ resN P Q = n ∧ resD P Q = d := by
  have hd := v.pos
  have ha : n.natAbs * Q = P.natAbs * d := by
    have := congrArg Int.natAbs h
    simpa [Int.natAbs_mul] using this
  have hsg : decide (P < 0) = decide (n < 0) := by
    have q0 : (0 : Int) < (Q : Int) := by omega
    have d0 : (0 : Int) < (d : Int) := by omega
    by_cases s : P < 0
    · have : P * (d : Int) < 0 := Int.mul_neg_of_neg_of_pos s d0
      rw [← h] at this
      have : n < 0 := by
        rcases Int.lt_or_le n 0 with g | g
        · exact g
        · have := Int.mul_nonneg g (Int.le_of_lt q0); omega
      simp [s, this]
    · have : 0 ≤ P * (d : Int) := Int.mul_nonneg (by omega) (Int.le_of_lt d0)
      rw [← h] at this
      have : ¬ n < 0 := by
        intro g
        have := Int.mul_neg_of_neg_of_pos g q0
        omega
      simp [s, this]
  have key := reduced hQ hd v.low ha
  unfold resE resN resD fitE fitN fitD
  have c : n.natAbs ≤ 9223372036854775807 ∧ d ≤ 9223372036854775807 := ⟨v.n_le, v.d_le⟩
  rw [key.1, key.2, hsg]
  simp only [if_pos c]
  exact ⟨trivial, (natAbs_eq_sign n).symm, trivial⟩

theorem res_no {P : Int} {Q : Nat} (h : resE P Q ≠ 0) : resE P Q = 3 ∧ resN P Q = 0 ∧ resD P Q = 0 := by
  unfold resE fitE at h
  unfold resE resN resD fitE fitN fitD
  by_cases c : P.natAbs / Nat.gcd P.natAbs Q ≤ 9223372036854775807 ∧ Q / Nat.gcd P.natAbs Q ≤ 9223372036854775807
  · rw [if_pos c] at h; exact absurd rfl h
  · rw [if_neg c, if_neg c, if_neg c]; exact ⟨rfl, rfl, rfl⟩

/-- What 'fit' makes of lowest terms is what they are. -/
theorem fit_res {P : Int} {Q x y : Nat} {s : Bool} (hq : 0 < Q) (hy : 0 < y) (hxy : Nat.gcd x y = 1) (h : x * Q = P.natAbs * y) (hs : P ≠ 0 → s = decide (P < 0)) :
    fitN s x y = resN P Q ∧ fitD x y = resD P Q ∧ fitE x y = resE P Q := by
  obtain ⟨k1, k2⟩ := reduced hq hy hxy h
  unfold resN resD resE
  rw [k1, k2]
  refine ⟨?_, rfl, rfl⟩
  by_cases hp : P = 0
  · have hx : x = 0 := by
      rw [hp, Int.natAbs_zero, Nat.zero_mul] at h
      rcases Nat.mul_eq_zero.1 h with h | h <;> omega
    subst hx
    unfold fitN
    simp
  · rw [hs hp]

theorem coprime_of_dvd {a b c d : Nat} (h : Nat.gcd a b = 1) (hc : c ∣ a) (hd : d ∣ b) : Nat.gcd c d = 1 :=
  Nat.Coprime.coprime_dvd_left hc (Nat.Coprime.symm (Nat.Coprime.coprime_dvd_left hd (Nat.Coprime.symm h)))

theorem product_res {n m : Int} {d e g h N D : Nat} (v : Valid n d) (u : Valid m e) (hg : g = Nat.gcd n.natAbs e) (hh : h = Nat.gcd m.natAbs d)
    (hN : N = n.natAbs / g * (m.natAbs / h)) (hD : D = d / h * (e / g)) :
    fitN (!(decide (n < 0) == decide (m < 0))) N D = resN (n * m) (d * e) ∧ fitD N D = resD (n * m) (d * e) ∧ fitE N D = resE (n * m) (d * e) := by
  have gp : 0 < g := by rw [hg]; exact Nat.gcd_pos_of_pos_right _ u.pos
  have hp : 0 < h := by rw [hh]; exact Nat.gcd_pos_of_pos_right _ v.pos
  have n1 : n.natAbs / g * g = n.natAbs := Nat.div_mul_cancel (by rw [hg]; exact Nat.gcd_dvd_left _ _)
  have e1 : e / g * g = e := Nat.div_mul_cancel (by rw [hg]; exact Nat.gcd_dvd_right _ _)
  have m1 : m.natAbs / h * h = m.natAbs := Nat.div_mul_cancel (by rw [hh]; exact Nat.gcd_dvd_left _ _)
  have d1 : d / h * h = d := Nat.div_mul_cancel (by rw [hh]; exact Nat.gcd_dvd_right _ _)
  have c1 : Nat.gcd (n.natAbs / g) (e / g) = 1 := by rw [hg]; exact Nat.coprime_div_gcd_div_gcd (by rw [← hg]; exact gp)
  have c2 : Nat.gcd (m.natAbs / h) (d / h) = 1 := by rw [hh]; exact Nat.coprime_div_gcd_div_gcd (by rw [← hh]; exact hp)
  have c3 : Nat.gcd (n.natAbs / g) (d / h) = 1 := coprime_of_dvd v.low ⟨g, n1.symm⟩ ⟨h, d1.symm⟩
  have c4 : Nat.gcd (m.natAbs / h) (e / g) = 1 := coprime_of_dvd u.low ⟨h, m1.symm⟩ ⟨g, e1.symm⟩
  have dp := v.pos
  have ep := u.pos
  have hy : 0 < D := by
    rw [hD]
    refine Nat.mul_pos ?_ ?_
    · rcases Nat.eq_zero_or_pos (d / h) with k | k
      · rw [k] at d1; omega
      · exact k
    · rcases Nat.eq_zero_or_pos (e / g) with k | k
      · rw [k] at e1; omega
      · exact k
  refine fit_res (Nat.mul_pos v.pos u.pos) hy ?_ ?_ ?_
  · rw [hN, hD]
    exact Nat.Coprime.mul_left (Nat.Coprime.mul_right c3 c1) (Nat.Coprime.mul_right c2 c4)
  · rw [hN, hD, Int.natAbs_mul]
    revert n1 e1 m1 d1
    generalize n.natAbs / g = a
    generalize m.natAbs / h = b
    generalize d / h = c
    generalize e / g = f
    intro n1 e1 m1 d1
    rw [← n1, ← e1, ← m1, ← d1]
    ac_rfl
  · intro hne
    have a0 : n ≠ 0 := by intro k; rw [k] at hne; simp at hne
    have b0 : m ≠ 0 := by intro k; rw [k] at hne; simp at hne
    by_cases s : n < 0 <;> by_cases t : m < 0
    · have := Int.mul_pos_of_neg_of_neg s t
      simp [s, t]; omega
    · have := Int.mul_neg_of_neg_of_pos s (show 0 < m by omega)
      simp [s, t, this]
    · have := Int.mul_neg_of_pos_of_neg (show 0 < n by omega) t
      simp [s, t, this]
    · have := Int.mul_pos (show 0 < n by omega) (show 0 < m by omega)
      simp [s, t]; omega

theorem plus_signed (n m : Int) (x y : Nat) :
    plusM (decide (n < 0)) (n.natAbs * x) (decide (m < 0)) (m.natAbs * y) = (n * x + m * y).natAbs ∧
    (n * x + m * y ≠ 0 → plusS (decide (n < 0)) (n.natAbs * x) (decide (m < 0)) (m.natAbs * y) = decide (n * x + m * y < 0)) := by
  have a : n * (x : Int) = if n < 0 then -((n.natAbs * x : Nat) : Int) else ((n.natAbs * x : Nat) : Int) := by
    split
    · have : n = -(n.natAbs : Int) := by omega
      push_cast; rw [← Int.neg_mul, ← this]
    · have : n = (n.natAbs : Int) := by omega
      push_cast; rw [← this]
  have b : m * (y : Int) = if m < 0 then -((m.natAbs * y : Nat) : Int) else ((m.natAbs * y : Nat) : Int) := by
    split
    · have : m = -(m.natAbs : Int) := by omega
      push_cast; rw [← Int.neg_mul, ← this]
    · have : m = (m.natAbs : Int) := by omega
      push_cast; rw [← this]
  rw [a, b]
  generalize n.natAbs * x = p
  generalize m.natAbs * y = q
  unfold plusM plusS
  by_cases s : n < 0 <;> by_cases t : m < 0 <;> simp only [s, t, decide_true, decide_false, if_true, if_false, Bool.false_eq_true, Bool.true_eq_false]
  · exact ⟨by omega, fun h => by simp; omega⟩
  · split <;> exact ⟨by omega, fun h => by simp; omega⟩
  · split <;> exact ⟨by omega, fun h => by simp; omega⟩
  · exact ⟨by omega, fun h => by simp; omega⟩

theorem sum_res {n m : Int} {d e g h T N D : Nat} {s : Bool} (v : Valid n d) (u : Valid m e) (hg : g = Nat.gcd d e)
    (hs : s = plusS (decide (n < 0)) (n.natAbs * (e / g)) (decide (m < 0)) (m.natAbs * (d / g))) (hT : T = plusM (decide (n < 0)) (n.natAbs * (e / g)) (decide (m < 0)) (m.natAbs * (d / g)))
    (hh : h = Nat.gcd g (T % g)) (hN : N = T / h) (hD : D = d / g * (e / h)) :
    fitN s N D = resN (n * e + m * d) (d * e) ∧ fitD N D = resD (n * e + m * d) (d * e) ∧ fitE N D = resE (n * e + m * d) (d * e) := by
  have dp := v.pos
  have ep := u.pos
  have gp : 0 < g := by rw [hg]; exact Nat.gcd_pos_of_pos_right _ ep
  have hp : 0 < h := by rw [hh]; exact Nat.gcd_pos_of_pos_left _ gp
  have hh2 : h = Nat.gcd T g := by rw [hh, Nat.gcd_comm g, ← Nat.gcd_rec, Nat.gcd_comm]
  have d1 : d / g * g = d := Nat.div_mul_cancel (by rw [hg]; exact Nat.gcd_dvd_left _ _)
  have e1 : e / g * g = e := Nat.div_mul_cancel (by rw [hg]; exact Nat.gcd_dvd_right _ _)
  have c1 : Nat.gcd (d / g) (e / g) = 1 := by rw [hg]; exact Nat.coprime_div_gcd_div_gcd (by rw [← hg]; exact gp)
  have k1 : g / h * h = g := Nat.div_mul_cancel (by rw [hh2]; exact Nat.gcd_dvd_right _ _)
  have k2 : T / h * h = T := Nat.div_mul_cancel (by rw [hh2]; exact Nat.gcd_dvd_left _ _)
  have c2 : Nat.gcd (T / h) (g / h) = 1 := by rw [hh2]; exact Nat.coprime_div_gcd_div_gcd (by rw [← hh2]; exact hp)
  have e2 : e / h = e / g * (g / h) := by
    have : e / g * (g / h) * h = e := by rw [Nat.mul_assoc, k1, e1]
    rw [← this, Nat.mul_div_cancel _ hp, this]
  obtain ⟨t1, t2⟩ := plus_signed n m (e / g) (d / g)
  rw [← hT] at t1
  rw [← hs] at t2
  have c3 : Nat.gcd n.natAbs (d / g) = 1 := coprime_of_dvd v.low (Nat.dvd_refl _) ⟨g, d1.symm⟩
  have c4 : Nat.gcd m.natAbs (e / g) = 1 := coprime_of_dvd u.low (Nat.dvd_refl _) ⟨g, e1.symm⟩
  have eP : n * (e : Int) + m * (d : Int) = (n * ((e / g : Nat) : Int) + m * ((d / g : Nat) : Int)) * (g : Int) := by
    conv => lhs; rw [← e1, ← d1]
    push_cast
    rw [Int.add_mul, Int.mul_assoc, Int.mul_assoc]
  rw [hD, e2]
  revert d1 e1 c1 k1 k2 c2 t1 t2 c3 c4 eP
  generalize d / g = a
  generalize e / g = b
  generalize g / h = c
  generalize hx : T / h = x
  intro d1 e1 c1 k1 k2 c2 t1 t2 c3 c4 eP
  have f1 : Nat.gcd T a = 1 := by
    have q1 : (((Nat.gcd T a : Nat)) : Int) ∣ n * (b : Int) := by
      have r1 : (((Nat.gcd T a : Nat)) : Int) ∣ n * (b : Int) + m * (a : Int) := by
        rw [← Int.natAbs_dvd_natAbs, ← t1, Int.natAbs_natCast]; exact Nat.gcd_dvd_left _ _
      have r2 : (((Nat.gcd T a : Nat)) : Int) ∣ m * (a : Int) := Int.dvd_mul_of_dvd_right (Int.natCast_dvd_natCast.2 (Nat.gcd_dvd_right _ _))
      exact (Int.dvd_add_left r2).1 r1
    have q2 : Nat.gcd T a ∣ n.natAbs * b := by
      have := Int.natAbs_dvd_natAbs.2 q1
      rwa [Int.natAbs_natCast, Int.natAbs_mul, Int.natAbs_natCast] at this
    have q3 : Nat.gcd (n.natAbs * b) a = 1 := Nat.Coprime.mul_left c3 (Nat.Coprime.symm c1)
    have := Nat.dvd_gcd q2 (Nat.gcd_dvd_right T a)
    rw [q3] at this
    exact Nat.dvd_one.1 this
  have f2 : Nat.gcd T b = 1 := by
    have q1 : (((Nat.gcd T b : Nat)) : Int) ∣ m * (a : Int) := by
      have r1 : (((Nat.gcd T b : Nat)) : Int) ∣ n * (b : Int) + m * (a : Int) := by
        rw [← Int.natAbs_dvd_natAbs, ← t1, Int.natAbs_natCast]; exact Nat.gcd_dvd_left _ _
      have r2 : (((Nat.gcd T b : Nat)) : Int) ∣ n * (b : Int) := Int.dvd_mul_of_dvd_right (Int.natCast_dvd_natCast.2 (Nat.gcd_dvd_right _ _))
      exact (Int.dvd_add_right r2).1 r1
    have q2 : Nat.gcd T b ∣ m.natAbs * a := by
      have := Int.natAbs_dvd_natAbs.2 q1
      rwa [Int.natAbs_natCast, Int.natAbs_mul, Int.natAbs_natCast] at this
    have q3 : Nat.gcd (m.natAbs * a) b = 1 := Nat.Coprime.mul_left c4 c1
    have := Nat.dvd_gcd q2 (Nat.gcd_dvd_right T b)
    rw [q3] at this
    exact Nat.dvd_one.1 this
  have xT : x ∣ T := ⟨h, k2.symm⟩
  have ap : 0 < a := by
    rcases Nat.eq_zero_or_pos a with k | k
    · rw [k] at d1; omega
    · exact k
  have bp : 0 < b := by
    rcases Nat.eq_zero_or_pos b with k | k
    · rw [k] at e1; omega
    · exact k
  have cp : 0 < c := by
    rcases Nat.eq_zero_or_pos c with k | k
    · rw [k] at k1; omega
    · exact k
  rw [hN, hx]
  refine fit_res (Nat.mul_pos dp ep) (Nat.mul_pos ap (Nat.mul_pos bp cp)) ?_ ?_ ?_
  · exact Nat.Coprime.mul_right (coprime_of_dvd f1 xT (Nat.dvd_refl _)) (Nat.Coprime.mul_right (coprime_of_dvd f2 xT (Nat.dvd_refl _)) c2)
  · rw [eP, Int.natAbs_mul, ← t1, Int.natAbs_natCast]
    rw [← k2, ← d1, ← e1, ← k1]
    ac_rfl
  · intro hne
    rw [eP] at hne ⊢
    have g0 : (0 : Int) < (g : Int) := by omega
    have hz : n * (b : Int) + m * (a : Int) ≠ 0 := by intro k; rw [k, Int.zero_mul] at hne; exact hne rfl
    rw [t2 hz]
    generalize n * (b : Int) + m * (a : Int) = z at *
    by_cases l : z < 0
    · have := Int.mul_neg_of_neg_of_pos l g0
      simp [l, this]
    · have := Int.mul_nonneg (show 0 ≤ z by omega) (Int.le_of_lt g0)
      simp [l]; omega
end Go.Proofs.Ytkinbbhbencipaa

namespace Go.Proofs.Ytkinbbhbencipaa
open Go.RowKit

theorem Valid.right {n : Int} {d : Nat} (v : Valid n d) : rightB n d = true := by
  have := v.pos; have := v.n_le
  exact decide_eq_true ⟨by omega, by omega, by rw [Int.natAbs_natCast]; exact v.low⟩

theorem valid_of {n d : Int} (h : rightB n d = true) (h1 : -9223372036854775808 ≤ n) (h2 : n ≤ 9223372036854775807) (h4 : d ≤ 9223372036854775807) : ∃ k : Nat, d = k ∧ Valid n k := by
  obtain ⟨a, b, c⟩ := of_decide_eq_true h
  exact ⟨d.toNat, by omega, ⟨by omega, by omega, by omega, by rw [← c]; congr 1; omega⟩⟩

theorem right_yes {n : Int} {d : Nat} (v : Valid n d) (w : World) : Calls Try.prog 55 #[ratV n d] w fun e w' => e = .returned (.bool true) ∧ Below w.heap.size w w' := by
  have := v.pos; have := v.n_le; have := v.d_le
  have := right_any n d w (by omega) (by omega) (by omega) (by omega)
  rwa [v.right] at this

/-- The value of a result. -/
abbrev resV (P : Int) (Q : Nat) : Value := .tuple #[ratV (resN P Q) (resD P Q), .int .i64 (resE P Q)]

theorem sum_valid {n m : Int} {d e : Nat} (v : Valid n d) (u : Valid m e) (w : World) :
    Calls Try.prog 85 #[ratV n d, ratV m e] w fun r w' => r = .returned (resV (n * e + m * d) (d * e)) ∧ Below w.heap.size w w' := by
  have vp := v.pos; have vn := v.n_le; have vd := v.d_le
  have up := u.pos; have un := u.n_le; have ud := u.d_le
  obtain ⟨a, b, c⟩ := sum_res v u rfl rfl rfl rfl rfl rfl
  have hT2 : plusM (decide (n < 0)) (n.natAbs * (e / Nat.gcd d e)) (decide (m < 0)) (m.natAbs * (d / Nat.gcd d e)) < 340282366920938463463374607431768211456 := by
    have x1 : e / Nat.gcd d e ≤ 9223372036854775807 := Nat.le_trans (Nat.div_le_self _ _) ud
    have y1 : d / Nat.gcd d e ≤ 9223372036854775807 := Nat.le_trans (Nat.div_le_self _ _) vd
    have p1 : n.natAbs * (e / Nat.gcd d e) ≤ 9223372036854775807 * 9223372036854775807 := Nat.mul_le_mul vn x1
    have p2 : m.natAbs * (d / Nat.gcd d e) ≤ 9223372036854775807 * 9223372036854775807 := Nat.mul_le_mul un y1
    unfold plusM
    split
    · omega
    · split <;> omega
  have := sum_any n m d e w (by omega) (by omega) (by omega) (by omega) vp vd up ud _ _ _ _ _ _ rfl rfl rfl hT2 rfl rfl rfl
  rwa [a, b, c] at this

theorem product_valid {n m : Int} {d e : Nat} (v : Valid n d) (u : Valid m e) (w : World) :
    Calls Try.prog 78 #[ratV n d, ratV m e] w fun r w' => r = .returned (resV (n * m) (d * e)) ∧ Below w.heap.size w w' := by
  have vp := v.pos; have vn := v.n_le; have vd := v.d_le
  have up := u.pos; have un := u.n_le; have ud := u.d_le
  obtain ⟨a, b, c⟩ := product_res v u rfl rfl rfl rfl
  have := product_any n m d e w (by omega) (by omega) (by omega) (by omega) vp vd up ud _ _ rfl rfl _ _ rfl rfl
  rwa [a, b, c] at this

set_option maxHeartbeats 1000000 in
theorem add_valid {n m : Int} {d e : Nat} (v : Valid n d) (u : Valid m e) (w : World) :
    Calls Try.prog 67 #[ratV n d, ratV m e] w fun r w' => r = .returned (resV (n * e + m * d) (d * e)) ∧ Below w.heap.size w w' := by
  have ra := fun w => right_yes v w
  have rb := fun w => right_yes u w
  have su := fun w => sum_valid v u w
  unfold resV at su ⊢
  generalize resN (n * e + m * d) (d * e) = F1 at *
  generalize resD (n * e + m * d) (d * e) = F2 at *
  generalize resE (n * e + m * d) (d * e) = F3 at *
  clear v u
  go_enter Try.func67, Try.ntmps67
  go_upto_region 1 with fail
  have B := Boxes.start w n d m e 0 25
  go_wp2_with (first
    | (go_at_call 55; (first | with_reducible refine (ra _).mono ?_ | with_reducible refine (rb _).mono ?_); rintro e w1 ⟨rfl, hb⟩; have B := B.keep hb; have c0 := B.c0; have c1 := B.c1; have c2 := B.c2; have c3 := B.c3)
    | (go_at_call 85; (with_reducible refine (su _).mono ?_); rintro e w1 ⟨rfl, hb⟩; have B := B.keep hb; have i0 := B.i0; have i1 := B.i1; have j0 := B.j0; have j1 := B.j1; have HB := Lib.hid B.below))
  exact bodyPost_ret (v := .tuple #[ratV F1 F2, .int .i64 F3]) (by simp [results, Try.results67, go_sem, i0, i1]) rfl ⟨rfl, below_two HB.out⟩

theorem below_alloc2 (w : World) (a b : Obj) : Below w.heap.size w ((w.alloc a).alloc b) := ((Below.refl _ _).alloc (Nat.le_refl _) _).alloc (by simp) _

theorem below_drew (w : World) : Below w.heap.size w w.drew := (Below.refl _ _).drew
theorem negated_below (n d : Int) (w : World) (h1 : -9223372036854775807 ≤ n) (h2 : n ≤ 9223372036854775807) :
    Calls Try.prog 88 #[ratV n d] w fun e w' => e = .returned (ratV (-n) d) ∧ Below w.heap.size w w' :=
  (negated_any n d w h1 h2).mono fun _ _ ⟨he, hw⟩ => ⟨he, by rw [hw]; exact below_alloc2 _ _ _⟩

set_option maxHeartbeats 1000000 in
theorem mul_valid {n m : Int} {d e : Nat} (v : Valid n d) (u : Valid m e) (w : World) :
    Calls Try.prog 59 #[ratV n d, ratV m e] w fun r w' => r = .returned (resV (n * m) (d * e)) ∧ Below w.heap.size w w' := by
  have ra := fun w => right_yes v w
  have rb := fun w => right_yes u w
  have su := fun w => product_valid v u w
  unfold resV at su ⊢
  generalize resN (n * m) (d * e) = F1 at *
  generalize resD (n * m) (d * e) = F2 at *
  generalize resE (n * m) (d * e) = F3 at *
  clear v u
  go_enter Try.func59, Try.ntmps59
  go_upto_region 1 with fail
  have B := Boxes.start w n d m e 0 25
  go_wp2_with (first
    | (go_at_call 55; (first | with_reducible refine (ra _).mono ?_ | with_reducible refine (rb _).mono ?_); rintro e w1 ⟨rfl, hb⟩; have B := B.keep hb; have c0 := B.c0; have c1 := B.c1; have c2 := B.c2; have c3 := B.c3)
    | (go_at_call 78; (with_reducible refine (su _).mono ?_); rintro e w1 ⟨rfl, hb⟩; have B := B.keep hb; have i0 := B.i0; have i1 := B.i1; have j0 := B.j0; have j1 := B.j1; have HB := Lib.hid B.below))
  exact bodyPost_ret (v := .tuple #[ratV F1 F2, .int .i64 F3]) (by simp [results, Try.results59, go_sem, i0, i1]) rfl ⟨rfl, below_two HB.out⟩

/-- A fraction in its block. -/
structure RatAt (w1 : World) (b : Nat) (n d : Int) : Prop where
  k0 : w1.cell? ⟨b, 0, none⟩ = some (.int .i64 n)
  k1 : w1.cell? ⟨b, 1, none⟩ = some (.int .i64 d)
  lt : b < w1.heap.size

theorem RatAt.start (w : World) (n d : Int) (ty : TypeId) : RatAt (w.alloc (.cells #[.int .i64 n, .int .i64 d] ty)) w.heap.size n d where
  k0 := by go_simp
  k1 := by go_simp
  lt := by simp

theorem RatAt.keep {w1 w2 : World} {b : Nat} {n d : Int} (h : RatAt w1 b n d) (hb : Below w1.heap.size w1 w2) : RatAt w2 b n d :=
  have z := hb.size
  have l := h.lt
  { k0 := keep_cell hb l h.k0, k1 := keep_cell hb l h.k1, lt := by omega }

theorem half : Valid 1 2 := ⟨by decide, by decide, by decide, by decide⟩
theorem third : Valid 1 3 := ⟨by decide, by decide, by decide, by decide⟩
theorem big : Valid 4611686018427387904 1 := ⟨by decide, by decide, by decide, by decide⟩
theorem two : Valid 2 1 := ⟨by decide, by decide, by decide, by decide⟩

end Go.Proofs.Ytkinbbhbencipaa

namespace Go.Proofs.Ytkinbbhbencipaa
open Go.RowKit

/-- Fractions in their blocks, and all that is older than w as it was. -/
structure Live (w w1 : World) (l : List (Nat × Int × Int)) : Prop where
  rats : ∀ x, x ∈ l → RatAt w1 x.1 x.2.1 x.2.2
  below : Below w.heap.size w w1

theorem Live.start (w : World) : Live w w [] := ⟨fun _ h => (nomatch h), Below.refl _ _⟩
theorem Live.call {w w1 w2 : World} {l : List (Nat × Int × Int)} (h : Live w w1 l) (hb : Below w1.heap.size w1 w2) : Live w w2 l :=
  ⟨fun x hx => (h.rats x hx).keep hb, h.below.trans (hb.mono h.below.size)⟩
theorem Live.box {w w1 : World} {l : List (Nat × Int × Int)} (h : Live w w1 l) (n d : Int) : Live w (w1.alloc (.cells #[.int .i64 n, .int .i64 d] 25)) ((w1.heap.size, n, d) :: l) :=
  ⟨fun x hx => by
    rcases List.mem_cons.1 hx with rfl | hx
    · exact RatAt.start w1 n d _
    · exact (h.rats x hx).keep (below_alloc1 _ _), h.below.trans ((below_alloc1 _ _).mono h.below.size)⟩
theorem Live.boxAt {w w1 : World} {l : List (Nat × Int × Int)} (h : Live w w1 l) (n d : Int) (b : Nat) (hb : b = w1.heap.size) : Live w (w1.alloc (.cells #[.int .i64 n, .int .i64 d] 25)) ((b, n, d) :: l) := by
  rw [hb]; exact h.box n d
theorem Live.n {w w1 : World} {l : List (Nat × Int × Int)} (h : Live w w1 l) (i : Nat) {b : Nat} {n d : Int} (hi : l[i]? = some (b, n, d)) : w1.cell? ⟨b, 0, none⟩ = some (.int .i64 n) :=
  (h.rats _ (List.mem_of_getElem? hi)).k0
theorem Live.d {w w1 : World} {l : List (Nat × Int × Int)} (h : Live w w1 l) (i : Nat) {b : Nat} {n d : Int} (hi : l[i]? = some (b, n, d)) : w1.cell? ⟨b, 1, none⟩ = some (.int .i64 d) :=
  (h.rats _ (List.mem_of_getElem? hi)).k1

theorem Valid.nought : Valid 0 1 := ⟨by decide, by decide, by decide, by decide⟩
theorem Valid.one : Valid 1 1 := ⟨by decide, by decide, by decide, by decide⟩

/-- A sum, a difference, a product, a quotient that are known beforehand. -/
theorem add_to {n m x : Int} {d e y : Nat} (v : Valid n d) (u : Valid m e) (z : Valid x y) (h : x * ((d * e : Nat) : Int) = (n * e + m * d) * (y : Int)) (w : World) :
    Calls Try.prog 67 #[ratV n d, ratV m e] w fun r w' => r = .returned (.tuple #[ratV x y, .int .i64 0]) ∧ Below w.heap.size w w' := by
  obtain ⟨a, b, c⟩ := res_of (Nat.mul_pos v.pos u.pos) z h
  have := add_valid v u w
  unfold resV at this
  rwa [a, b, c] at this
theorem mul_to {n m x : Int} {d e y : Nat} (v : Valid n d) (u : Valid m e) (z : Valid x y) (h : x * ((d * e : Nat) : Int) = n * m * (y : Int)) (w : World) :
    Calls Try.prog 59 #[ratV n d, ratV m e] w fun r w' => r = .returned (.tuple #[ratV x y, .int .i64 0]) ∧ Below w.heap.size w w' := by
  obtain ⟨a, b, c⟩ := res_of (Nat.mul_pos v.pos u.pos) z h
  have := mul_valid v u w
  unfold resV at this
  rwa [a, b, c] at this
theorem right_no {n d : Int} (h : rightB n d = false) (h1 : -9223372036854775808 ≤ n) (h2 : n ≤ 9223372036854775807) (h3 : -9223372036854775808 ≤ d) (h4 : d ≤ 9223372036854775807) (w : World) :
    Calls Try.prog 55 #[ratV n d] w fun e w' => e = .returned (.bool false) ∧ Below w.heap.size w w' := by
  have := right_any n d w h1 h2 h3 h4
  rwa [h] at this

end Go.Proofs.Ytkinbbhbencipaa

namespace Go.Proofs.Ytkinbbhbencipaa
open Go.RowKit Go.WideShapes Go.ChangeShapes Go.ChangeAt Go.Joins

section
variable {H : Type} {enc : TypeId × Value → H} {P : Program}
theorem post_of_below {f : Func} {s : ChangeSpec} {apart fresh handsOn again : Bool} {W W' : World} {args : Array Value} {v : Value} {ds gs : List (DataW H)} {before pa pv : List MemPlace}
    (hW : DataW.Whole enc P f.params.toList s.vars apart W args.toList ds gs before)
    (hres : ∀ (b : Nat) (sp : Nat → Bool) (hd : Bool), DataW.TrodAll enc P W' b sp hd f.resultTypes.toList (v.resultList f.resultTypes.size) (s.fn H (ds ++ gs)).results [])
    (hargs : ∀ sp : Nat → Bool, (∀ p ∈ before, sp p.block = true) → DataW.TrodAll enc P W' 0 sp true f.params.toList args.toList (s.fn H (ds ++ gs)).args pa)
    (hvars : ∀ sp : Nat → Bool, (∀ p ∈ before, sp p.block = true) → DataW.TrodVars enc P W' sp s.vars (s.fn H (ds ++ gs)).vars pv)
    (hps : before = pa ++ pv) (hb : Below W.heap.size W W')
    (hok : ∀ (j : Nat) (t : TypeId) (r : Value), f.resultTypes[j]? = some t → (v.resultList f.resultTypes.size)[j]? = some r → Value.okWide P W' .any 0 t r) :
    s.post enc P f apart fresh handsOn again W args v W' := by
  have hlt : ∀ p ∈ before, p.block < W.heap.size := fun p hp => hW.lt p hp
  have hold : ∀ p ∈ before, (fun b => decide (b < W.heap.size)) p.block = true := fun p hp => by simpa using hlt p hp
  refine ⟨ds, gs, before, [], pa, pv, hW, hres _ _ _, hargs _ hold, hvars _ hold, World.keptBut_mono (fun p hp => ⟨hp, ?_⟩) (hb.frame (· ∈ before)), fun _ => ?_⟩
  · rw [hps, List.mem_append] at hp
    exact Or.inr hp
  · obtain ⟨_, _, _, _, _, hz, hn⟩ := hW
    refine ⟨hok, _, _, ([] ++ pa) ++ pv, ⟨[] ++ pa, pv, trodAll_append (hargs _ (fun _ _ => rfl)) (hres _ _ _), hvars _ (fun _ _ => rfl), rfl, ?_, ?_⟩, ?_⟩
    · intro b off hp
      have hin : MemPlace.cell b off ∈ before := by rw [hps]; simpa using hp
      rw [hb.frozen (hlt _ hin)]
      exact hz b off hin
    · intro ha
      have := hn ha
      rw [hps] at this
      simpa using this
    · intro p hp _
      rw [hps]
      simpa using hp
end

theorem Try.own : ownKnob Try.prog.godebug = none := by kernel_rfl
theorem Try.cellsRat : Try.prog.cellsOf 25 = 2 := by kernel_rfl

theorem wf_i64 {n : Int} (h : (Lit.int .i64 n).wf = true) : -9223372036854775808 ≤ n ∧ n ≤ 9223372036854775807 := by
  simp only [Lit.wf, Bool.and_eq_true, decide_eq_true_eq] at h
  have a : IntKind.i64.min = -9223372036854775808 := by decide
  have b : IntKind.i64.max = 9223372036854775807 := by decide
  rw [a, b] at h
  exact h

set_option maxRecDepth 10000 in
/-- A fraction among the arguments. -/
theorem open_rat {H : Type} {enc : TypeId × Value → H} {w : World} {base b0 : Nat} {spare : Nat → Bool} {held : Bool} {v : Value} {d : DataW H} {p : List MemPlace} {r : Reach}
    (hv : Value.okWide Try.prog w r b0 25 v) (h : DataW.Trod enc Try.prog w base spare held 25 v d p) :
    ∃ n e : Int, v = ratV n e ∧ d = .agg [.lit (.int .i64 n), .lit (.int .i64 e)] ∧ p = [] ∧ (-9223372036854775808 ≤ n ∧ n ≤ 9223372036854775807) ∧ (-9223372036854775808 ≤ e ∧ e ≤ 9223372036854775807) ∧
      ∀ (W : World) (b : Nat) (sp : Nat → Bool) (hd : Bool), DataW.Trod enc Try.prog W b sp hd 25 (ratV n e) (.agg [.lit (.int .i64 n), .lit (.int .i64 e)]) [] := by
  obtain ⟨c0, c1, y0, y1, m, rfl, rfl, rfl, hy0, hy1⟩ := open_agg2 Try.underlying25 (by kernel_rfl) Try.cellsRat hv h
  obtain ⟨n, e0, rfl, wa⟩ := DataW.trod_int Try.underlying2 hy0
  obtain ⟨e, e1, rfl, wb⟩ := DataW.trod_int Try.underlying2 hy1
  simp at e0 e1
  subst e0 e1
  exact ⟨n, e, rfl, rfl, rfl, wf_i64 wa, wf_i64 wb, fun W b sp hd => shut_agg2 (y0 := (.lit (.int .i64 n), [])) (y1 := (.lit (.int .i64 e), [])) Try.underlying25 (by kernel_rfl) Try.cellsRat
    ⟨1, by simp [DataW.trod, Try.underlying2, wa]⟩ ⟨1, by simp [DataW.trod, Try.underlying2, wb]⟩⟩
end Go.Proofs.Ytkinbbhbencipaa
