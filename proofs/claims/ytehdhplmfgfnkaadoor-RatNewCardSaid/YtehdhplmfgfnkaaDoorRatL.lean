/-
  What several laws over fractions want: the order under equal ratios, live blocks in a region. (Template: by-name.py fills it.)
-/
import Derived.Test.YtehdhplmfgfnkaaDoorRatK
import Derived.Test.YtehdhplmfgfnkaaDoorRatQ
namespace Go.Proofs.YtehdhplmfgfnkaaDoor
open Go.RowKit

theorem cmp_eq {n m n' m' : Int} {d e d' e' : Nat} (p q : Int) (hp : 0 < p) (hq : 0 < q) (h : p * (n * e - m * d) = q * (n' * e' - m' * d')) : cmpV n m d e = cmpV n' m' d' e' := by
  have key : ∀ x y : Int, p * x = q * y → ((x < 0 ↔ y < 0) ∧ (x = 0 ↔ y = 0)) := by
    intro x y hxy
    refine ⟨⟨fun hx => ?_, fun hy => ?_⟩, ⟨fun hx => ?_, fun hy => ?_⟩⟩
    · have := Int.mul_neg_of_pos_of_neg hp hx
      rw [hxy] at this
      rcases Int.lt_or_le y 0 with g | g
      · exact g
      · have := Int.mul_nonneg (Int.le_of_lt hq) g; omega
    · have := Int.mul_neg_of_pos_of_neg hq hy
      rw [← hxy] at this
      rcases Int.lt_or_le x 0 with g | g
      · exact g
      · have := Int.mul_nonneg (Int.le_of_lt hp) g; omega
    · rw [hx, Int.mul_zero] at hxy
      rcases Int.mul_eq_zero.1 hxy.symm with g | g <;> omega
    · rw [hy, Int.mul_zero] at hxy
      rcases Int.mul_eq_zero.1 hxy with g | g <;> omega
  obtain ⟨a, b⟩ := key _ _ h
  unfold cmpV
  by_cases l : n' * (e' : Int) - m' * (d' : Int) < 0
  · rw [if_pos (show n * (e : Int) < m * (d : Int) by have := a.2 l; omega), if_pos (show n' * (e' : Int) < m' * (d' : Int) by omega)]
  · rw [if_neg (show ¬ n * (e : Int) < m * (d : Int) by intro k; exact l (a.1 (by omega))), if_neg (show ¬ n' * (e' : Int) < m' * (d' : Int) by omega)]
    by_cases z : n' * (e' : Int) - m' * (d' : Int) = 0
    · rw [if_pos (show n * (e : Int) = m * (d : Int) by have := b.2 z; omega), if_pos (show n' * (e' : Int) = m' * (d' : Int) by omega)]
    · rw [if_neg (show ¬ n * (e : Int) = m * (d : Int) by intro k; exact z (b.1 (by omega))), if_neg (show ¬ n' * (e' : Int) = m' * (d' : Int) by omega)]

/-- Three fractions in their blocks, their cells written out for a region. -/
theorem Live.three {w w1 : World} {l : List (Nat × Int × Int)} (h : Live w w1 l) (i j k : Nat) {b0 b1 b2 : Nat} {n0 d0 n1 d1 n2 d2 : Int} (h0 : l[i]? = some (b0, n0, d0)) (h1 : l[j]? = some (b1, n1, d1)) (h2 : l[k]? = some (b2, n2, d2)) :
    (w1.cell? ⟨b0, 0, none⟩ = some (.int .i64 n0) ∧ w1.cell? ⟨b0, 1, none⟩ = some (.int .i64 d0) ∧ w1.cell? ⟨b1, 0, none⟩ = some (.int .i64 n1) ∧ w1.cell? ⟨b1, 1, none⟩ = some (.int .i64 d1) ∧
      w1.cell? ⟨b2, 0, none⟩ = some (.int .i64 n2) ∧ w1.cell? ⟨b2, 1, none⟩ = some (.int .i64 d2)) ∧ Live w w1 l :=
  ⟨⟨h.n i h0, h.d i h0, h.n j h1, h.d j h1, h.n k h2, h.d k h2⟩, h⟩
theorem hold_three {A : Prop} {w w1 w2 : World} {l : List (Nat × Int × Int)} (i j k : Nat) {b0 b1 b2 : Nat} {n0 d0 n1 d1 n2 d2 : Int} (h0 : l[i]? = some (b0, n0, d0)) (h1 : l[j]? = some (b1, n1, d1)) (h2 : l[k]? = some (b2, n2, d2))
    (hb : Below w1.heap.size w1 w2) (h : A ∧ Live w w1 l) :
    (w2.cell? ⟨b0, 0, none⟩ = some (.int .i64 n0) ∧ w2.cell? ⟨b0, 1, none⟩ = some (.int .i64 d0) ∧ w2.cell? ⟨b1, 0, none⟩ = some (.int .i64 n1) ∧ w2.cell? ⟨b1, 1, none⟩ = some (.int .i64 d1) ∧
      w2.cell? ⟨b2, 0, none⟩ = some (.int .i64 n2) ∧ w2.cell? ⟨b2, 1, none⟩ = some (.int .i64 d2)) ∧ Live w w2 l :=
  (h.2.call hb).three i j k h0 h1 h2

theorem live_of {w w1 : World} {l : List (Nat × Int × Int)} {A : Prop} (h : A ∧ Live w w1 l) : Live w w1 l := h.2

/-- What a call answers, in one: no overflow and the fraction, or an overflow. -/
theorem res_cases (P : Int) {Q : Nat} (hQ : 0 < Q) : (∃ (n : Int) (d : Nat), resV P Q = .tuple #[ratV n d, .int .i64 0] ∧ Valid n d ∧ n * (Q : Int) = P * (d : Int)) ∨ resV P Q = .tuple #[ratV 0 0, .int .i64 3] := by
  by_cases h : resE P Q = 0
  · obtain ⟨d, h1, h2, h3⟩ := res_ok hQ h
    exact .inl ⟨resN P Q, d, by unfold resV; rw [h, h1], h2, h3⟩
  · obtain ⟨a, b, c⟩ := res_no h
    exact .inr (by unfold resV; rw [a, b, c])
end Go.Proofs.YtehdhplmfgfnkaaDoor
