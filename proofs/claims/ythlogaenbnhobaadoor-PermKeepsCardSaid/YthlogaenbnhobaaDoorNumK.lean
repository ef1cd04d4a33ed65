/-
  The walk of the reference's Right. (Template: by-name.py fills it.)
-/
import Derived.Test.YthlogaenbnhobaaDoorNumJ
namespace Go.Proofs.YthlogaenbnhobaaDoor
open Go.RowKit

theorem keep_one {w w1 w2 : World} {x0 x1 : Value} (hb : Below w1.heap.size w1 w2)
    (h : (w1.cell? ⟨w.heap.size, 0, none⟩ = some x0 ∧ w1.cell? ⟨w.heap.size, 1, none⟩ = some x1) ∧ w.heap.size + 0 < w1.heap.size ∧ Below w.heap.size w w1) :
    (w2.cell? ⟨w.heap.size, 0, none⟩ = some x0 ∧ w2.cell? ⟨w.heap.size, 1, none⟩ = some x1) ∧ w.heap.size + 0 < w2.heap.size ∧ Below w.heap.size w w2 := by
  obtain ⟨⟨a0, a1⟩, g, k⟩ := h
  have hs := hb.size
  exact ⟨⟨keep_cell hb (by omega) a0, keep_cell hb (by omega) a1⟩, by omega, k.trans (hb.mono k.size)⟩

theorem one_below {w w1 : World} {A B : Prop} (h : A ∧ B ∧ Below w.heap.size w w1) : Below w.heap.size w w1 := h.2.2

theorem len_one {g : Nat} : (bitsOf g).length = 1 ↔ g = 1 := by
  constructor
  · intro h
    have h1 := natOf_lt (bitsOf g)
    rw [natOf_bitsOf, h] at h1
    have : g ≠ 0 := by intro h0; rw [h0, bitsOf_zero] at h; simp at h
    omega
  · intro h
    subst h
    rw [bitsOf_pos (by decide), show (1 : Nat) / 2 = 0 by decide, bitsOf_zero]; rfl

theorem rright_any (n d : Int) (w : World) (h1 : -9223372036854775808 ≤ n) (h2 : n ≤ 9223372036854775807) (h3 : -9223372036854775808 ≤ d) (h4 : d ≤ 9223372036854775807) :
    Calls Tryd.prog 16 #[ratV n d] w fun e w' => e = .returned (.bool (rightB n d)) ∧ Below w.heap.size w w' := by
  have s1 := fun w => rsize_any n w h1 h2
  have s2 := fun w => rsize_any d w h3 h4
  have e1 : (bitsOf n.natAbs).length ≤ 298 := Nat.le_trans (len_64 (by omega)) (by decide)
  have e2 : (bitsOf d.natAbs).length ≤ 298 := Nat.le_trans (len_64 (by omega)) (by decide)
  by_cases hd : d ≤ 0
  · have hr : rightB n d = false := decide_eq_false (fun h => by omega)
    rw [hr]
    have t1 : decide (d ≤ 0) = true := decide_eq_true hd
    clear s1 s2 e1 e2 hr h1 h2 h3 h4
    go_enter Tryd.func16, Tryd.ntmps16
    go_wp2_with fail
    go_ret
    exact ⟨rfl, below_alloc1 _ _⟩
  · have t1 : decide (d ≤ 0) = false := decide_eq_false hd
    by_cases hn : n = -9223372036854775808
    · have hr : rightB n d = false := decide_eq_false (fun h => h.2.1 hn)
      rw [hr]
      have t2 : (n == -9223372036854775808) = true := by simpa using hn
      clear s1 s2 e1 e2 hr h1 h2 h3 h4 hn
      go_enter Tryd.func16, Tryd.ntmps16
      go_wp2_with fail
      go_ret
      exact ⟨rfl, below_alloc1 _ _⟩
    · have t2 : (n == -9223372036854775808) = false := by simpa using hn
      have hr : rightB n d = (((bitsOf (Nat.gcd n.natAbs d.natAbs)).length : Int) == 1) := by
        rw [Bool.eq_iff_iff]
        unfold rightB
        rw [decide_eq_true_iff, beq_iff_eq]
        have := len_one (g := Nat.gcd n.natAbs d.natAbs)
        constructor
        · intro h; have := this.2 h.2.2; omega
        · intro h; exact ⟨by omega, hn, this.1 (by omega)⟩
      rw [hr]
      clear hr hd hn h1 h2 h3 h4
      generalize n.natAbs = N at *
      generalize d.natAbs = D at *
      go_enter Tryd.func16, Tryd.ntmps16
      go_upto_region 3 with fail
      go_region_held3 (fun w' => (w'.cell? ⟨w.heap.size, 0, none⟩ = some (.int .i64 n) ∧ w'.cell? ⟨w.heap.size, 1, none⟩ = some (.int .i64 d)) ∧ w.heap.size + 0 < w'.heap.size ∧ Below w.heap.size w w')
        (first
          | with_reducible assumption
          | with_reducible exact keep_one (by with_reducible assumption) (by with_reducible assumption)
          | exact ⟨⟨by go_simp, by go_simp⟩, by simp, (below_alloc1 _ _).drew⟩)
        (first
          | (go_at_call 29; (with_reducible refine (s1 _).mono ?_); rintro e wa ⟨v1, rfl, hv1, hb1, _⟩)
          | (go_at_call 29; (with_reducible refine (s2 _).mono ?_); rintro e wb ⟨v2, rfl, hv2, hb2, _⟩; have cm := common_num wb v1 v2 N D (hv1.below hb2) hv2 e1 e2 0 (Nat.zero_le _) (Fresh.any _) (Fresh.any _))
          | (go_at_call 28; (with_reducible refine cm.mono ?_); rintro e wc ⟨v3, rfl, hv3, hb3, _⟩; obtain ⟨A3, c3, rfl, _⟩ := hv3))
      go_wp2_with fail
      go_ret
      exact ⟨rfl, one_below (by with_reducible assumption)⟩
end Go.Proofs.YthlogaenbnhobaaDoor
