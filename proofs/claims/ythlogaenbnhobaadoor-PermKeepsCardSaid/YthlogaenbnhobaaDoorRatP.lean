/-
  Plain: what To answers is what the program's fit answers. (Template: by-name.py fills it.)
-/
import Derived.Test.YthlogaenbnhobaaDoorNumK
import Derived.Test.YthlogaenbnhobaaDoorRatG
namespace Go.Proofs.YthlogaenbnhobaaDoor
open Go.RowKit

theorem fitN_nought (s : Bool) (k : Nat) : fitN s 0 k = 0 := by
  unfold fitN
  split
  · cases s <;> simp
  · rfl

theorem toV_res {P : Int} {Q N : Nat} {S : Bool} (hN : N = P.natAbs) (hs : P ≠ 0 → S = decide (P < 0)) : toV N Q S = resV P Q := by
  subst hN
  unfold toV resV resN resD resE
  by_cases hP : P = 0
  · subst hP
    simp [fitN_nought]
  · rw [hs hP]

theorem plus_nought (s t : Bool) (X : Nat) : plusM s X t 0 = X ∧ plusS s X t 0 = s := by
  unfold plusM plusS
  refine ⟨?_, ?_⟩
  · split
    · rfl
    · rw [if_neg (Nat.not_lt_zero _)]; rfl
  · split
    · rfl
    · rw [if_neg (Nat.not_lt_zero _)]

theorem add_same (n m : Int) (d e : Nat) : toV (plusM (decide (n < 0)) (n.natAbs * (e : Int).natAbs) (decide (m < 0)) (m.natAbs * (d : Int).natAbs)) ((d : Int).natAbs * (e : Int).natAbs) (plusS (decide (n < 0)) (n.natAbs * (e : Int).natAbs) (decide (m < 0)) (m.natAbs * (d : Int).natAbs)) = resV (n * e + m * d) (d * e) := by
  rw [Int.natAbs_natCast, Int.natAbs_natCast]
  obtain ⟨a, b⟩ := plus_signed n m e d
  exact toV_res a b

theorem sub_parts (n m : Int) (d e : Nat) : plusM (decide (n < 0)) (n.natAbs * e) (!decide (m < 0)) (m.natAbs * d) = (n * e - m * d).natAbs ∧
    (n * e - m * d ≠ 0 → plusS (decide (n < 0)) (n.natAbs * e) (!decide (m < 0)) (m.natAbs * d) = decide (n * e - m * d < 0)) := by
  obtain ⟨a, b⟩ := plus_signed n (-m) e d
  rw [Int.natAbs_neg] at a b
  rw [show n * e + -m * d = n * e - m * d by rw [Int.neg_mul]; omega] at a b
  by_cases hm : m = 0
  · subst hm
    rw [show (0 : Int).natAbs * d = 0 by simp] at a b ⊢
    obtain ⟨x1, x2⟩ := plus_nought (decide (n < 0)) (decide (-(0 : Int) < 0)) (n.natAbs * e)
    obtain ⟨y1, y2⟩ := plus_nought (decide (n < 0)) (!decide ((0 : Int) < 0)) (n.natAbs * e)
    rw [x1] at a
    rw [x2] at b
    rw [y1, y2]
    exact ⟨a, b⟩
  · have : (!decide (m < 0)) = decide (-m < 0) := by
      by_cases h : m < 0
      · rw [decide_eq_true h, decide_eq_false (by omega)]; rfl
      · rw [decide_eq_false h, decide_eq_true (by omega)]; rfl
    rw [this]
    exact ⟨a, b⟩

theorem sub_same (n m : Int) (d e : Nat) : toV (plusM (decide (n < 0)) (n.natAbs * (e : Int).natAbs) (!decide (m < 0)) (m.natAbs * (d : Int).natAbs)) ((d : Int).natAbs * (e : Int).natAbs) (plusS (decide (n < 0)) (n.natAbs * (e : Int).natAbs) (!decide (m < 0)) (m.natAbs * (d : Int).natAbs)) = resV (n * e - m * d) (d * e) := by
  rw [Int.natAbs_natCast, Int.natAbs_natCast]
  obtain ⟨a, b⟩ := sub_parts n m d e
  exact toV_res a b

theorem mul_sign (n m : Int) (h : n * m ≠ 0) : (decide (n < 0) != decide (m < 0)) = decide (n * m < 0) := by
  have hn : n ≠ 0 := fun e => h (by rw [e, Int.zero_mul])
  have hm : m ≠ 0 := fun e => h (by rw [e, Int.mul_zero])
  by_cases a : n < 0 <;> by_cases b : m < 0
  · have := Int.mul_pos_of_neg_of_neg a b
    rw [decide_eq_true a, decide_eq_true b, decide_eq_false (by omega)]; rfl
  · have := Int.mul_neg_of_neg_of_pos a (show 0 < m by omega)
    rw [decide_eq_true a, decide_eq_false b, decide_eq_true this]; rfl
  · have := Int.mul_neg_of_pos_of_neg (show 0 < n by omega) b
    rw [decide_eq_false a, decide_eq_true b, decide_eq_true this]; rfl
  · have := Int.mul_pos (show 0 < n by omega) (show 0 < m by omega)
    rw [decide_eq_false a, decide_eq_false b, decide_eq_false (by omega)]; rfl

theorem mul_same (n m : Int) (d e : Nat) : toV (n.natAbs * m.natAbs) ((d : Int).natAbs * (e : Int).natAbs) (decide (n < 0) != decide (m < 0)) = resV (n * m) (d * e) := by
  rw [Int.natAbs_natCast, Int.natAbs_natCast]
  exact toV_res (Int.natAbs_mul n m).symm (mul_sign n m)

theorem div_same (n m : Int) (d e : Nat) (he : 0 < e) : toV (n.natAbs * (e : Int).natAbs) ((d : Int).natAbs * m.natAbs) (decide (n < 0) != decide (m < 0)) = resV (n * (if m < 0 then -(e : Int) else e)) (d * m.natAbs) := by
  rw [Int.natAbs_natCast, Int.natAbs_natCast]
  have hs : decide (m < 0) = decide ((if m < 0 then -(e : Int) else e) < 0) := by
    split
    · rename_i h
      rw [decide_eq_true h, decide_eq_true (by omega)]
    · rename_i h
      rw [decide_eq_false h, decide_eq_false (by omega)]
  have ha : (if m < 0 then -(e : Int) else (e : Int)).natAbs = e := by split <;> omega
  generalize (if m < 0 then -(e : Int) else (e : Int)) = E at *
  rw [hs]
  exact toV_res (by rw [Int.natAbs_mul, ha]) (mul_sign n E)
end Go.Proofs.YthlogaenbnhobaaDoor
