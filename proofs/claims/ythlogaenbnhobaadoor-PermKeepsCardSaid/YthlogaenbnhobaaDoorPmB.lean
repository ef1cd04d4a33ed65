/-
  Which kind a rest is of, which set it has, what a part is. (Template: by-name.py fills it.)
-/
import Derived.Test.YthlogaenbnhobaaDoorPmA
namespace Go.Proofs.YthlogaenbnhobaaDoor
open Go.RowKit

set_option maxHeartbeats 2000000 in
theorem kindOf_in (a b : Nat) (ha : a < 5) (hb : b < 5) (w : World) (ht : RestTab w) :
    Calls Tryd.prog 10 #[.int .i64 a, .int .i64 b] w fun e w' => e = .returned (.tuple #[.int .i64 (restN a b), .bool (restN a b != -1)]) ∧ w' = w := by
  have hc := ht.2 a b ha hb
  have hi := fun k => isKind_any k w
  clear ht
  have ca : a = 0 ∨ a = 1 ∨ a = 2 ∨ a = 3 ∨ a = 4 := by omega
  have cb : b = 0 ∨ b = 1 ∨ b = 2 ∨ b = 3 ∨ b = 4 := by omega
  clear ha hb
  rcases ca with rfl | rfl | rfl | rfl | rfl <;> rcases cb with rfl | rfl | rfl | rfl | rfl <;>
  · (simp only [restN, restRows, List.getD_cons_zero, List.getD_cons_succ, Nat.reduceMul, Nat.reduceAdd] at hc ⊢
     go_enter Tryd.func10, Tryd.ntmps10
     go_wp2_with (go_at_call 21; (with_reducible refine (hi _).mono ?_); rintro e w1 ⟨rfl, rfl⟩)
     exact bodyPost_ret (v := .tuple #[_, _]) (by simp [results, Tryd.results10, go_sem] <;> exact ⟨rfl, rfl⟩) rfl ⟨rfl, rfl⟩)

theorem kindOf_out (k p : Int) (h : ¬ (0 ≤ k ∧ k < 5) ∨ ((0 ≤ k ∧ k < 5) ∧ ¬ (0 ≤ p ∧ p < 5))) (w : World) :
    Calls Tryd.prog 10 #[.int .i64 k, .int .i64 p] w fun e w' => e = .returned (.tuple #[.int .i64 (-1), .bool false]) ∧ w' = w := by
  have hi := fun k => isKind_any k w
  rcases h with h | ⟨h, g⟩
  · have e1 : (decide (0 ≤ k) && decide (k < 5)) = false := by
      rcases Bool.eq_false_or_eq_true (decide (0 ≤ k) && decide (k < 5)) with q | q
      · simp at q; exact absurd q h
      · exact q
    have i1 := hi k
    rw [e1] at i1
    clear h e1 hi
    go_enter Tryd.func10, Tryd.ntmps10
    go_wp2_with (go_at_call 21; (with_reducible refine i1.mono ?_); rintro e w1 ⟨rfl, rfl⟩)
    exact bodyPost_ret (v := .tuple #[.int .i64 (-1), .bool false]) (by simp [results, Tryd.results10, go_sem]) rfl ⟨rfl, rfl⟩
  · have i1 := hi k
    have i2 := hi p
    rw [show (decide (0 ≤ k) && decide (k < 5)) = true by simp; exact h] at i1
    have e1 : (decide (0 ≤ p) && decide (p < 5)) = false := by
      rcases Bool.eq_false_or_eq_true (decide (0 ≤ p) && decide (p < 5)) with q | q
      · simp at q; exact absurd q g
      · exact q
    rw [e1] at i2
    clear h e1 hi g
    go_enter Tryd.func10, Tryd.ntmps10
    go_wp2_with (go_at_call 21; (first | with_reducible refine i1.mono ?_ | with_reducible refine i2.mono ?_); rintro e w1 ⟨rfl, rfl⟩)
    exact bodyPost_ret (v := .tuple #[.int .i64 (-1), .bool false]) (by simp [results, Tryd.results10, go_sem]) rfl ⟨rfl, rfl⟩

theorem kindOf_any (k p : Int) (w : World) (ht : RestTab w) :
    Calls Tryd.prog 10 #[.int .i64 k, .int .i64 p] w fun e w' => e = .returned (.tuple #[.int .i64 (restK k p), .bool (restK k p != -1)]) ∧ w' = w := by
  by_cases h : 0 ≤ k ∧ k < 5
  · by_cases g : 0 ≤ p ∧ p < 5
    · have := kindOf_in k.toNat p.toNat (by omega) (by omega) w ht
      rw [Int.toNat_of_nonneg h.1, Int.toNat_of_nonneg g.1] at this
      rw [show restK k p = restN k.toNat p.toNat by unfold restK; rw [if_pos ⟨h.1, h.2, g.1, g.2⟩]]
      exact this
    · have := kindOf_out k p (.inr ⟨h, g⟩) w
      rw [show restK k p = -1 by unfold restK; rw [if_neg (fun q => g ⟨q.2.2.1, q.2.2.2⟩)]]
      exact this
  · have := kindOf_out k p (.inl h) w
    rw [show restK k p = -1 by unfold restK; rw [if_neg (fun q => h ⟨q.1, q.2.1⟩)]]
    exact this

/-- Does a part of this kind get its set with the split? -/
def givenB (k p : Int) : Bool := (k == 0) && (p != 3)
theorem given_any (k n d r s p : Int) (w : World) : Calls Tryd.prog 22 #[permV k n d r s, .int .i64 p] w fun e w' => e = .returned (.bool (givenB k p)) ∧ Below w.heap.size w w' := by
  have a1 := below_alloc1 w (.cells (permC k n d r s) 28)
  unfold givenB
  cases hk : k == 0
  · go_enter Tryd.func22, Tryd.ntmps22
    go_wp2_with fail
    go_ret
    exact ⟨rfl, a1⟩
  · cases hp : p != 3
    · go_enter Tryd.func22, Tryd.ntmps22
      go_wp2_with fail
      go_ret
      exact ⟨rfl, a1⟩
    · go_enter Tryd.func22, Tryd.ntmps22
      go_wp2_with fail
      go_ret
      exact ⟨rfl, a1⟩

/-- The set of rest and part; is the given one right? -/
def keptS (k s p i : Int) : Int := if givenB k p then i else s
def keptB (k p i : Int) : Bool := if givenB k p then i != 0 else i == 0
theorem kept_any (k n d r s p i : Int) (w : World) : Calls Tryd.prog 11 #[permV k n d r s, .int .i64 p, .int .u32 i] w fun e w' => e = .returned (.tuple #[.int .u32 (keptS k s p i), .bool (keptB k p i)]) ∧ Below w.heap.size w w' := by
  have a1 := below_alloc1 w (.cells (permC k n d r s) 28)
  have gi := fun w => given_any k n d r s p w
  have B0 := Blk.start w (permC k n d r s) 28
  unfold keptS keptB
  cases hg : givenB k p <;> simp only [hg] at gi
  · simp only [Bool.false_eq_true, if_false]
    generalize hI : (i == 0) = I at *
    go_enter Tryd.func11, Tryd.ntmps11
    go_wp2_with (go_at_call 22; (with_reducible refine (gi _).mono ?_); rintro e w1 ⟨rfl, hb⟩; have B1 := B0.keep hb; have c3 : w1.cell? ⟨w.heap.size, 4, none⟩ = some (.int .u32 s) := B1.cell 4; have HB := Lib.hid (a1.trans (hb.mono a1.size)))
    exact bodyPost_ret (v := .tuple #[.int .u32 s, .bool I]) (by simp [results, Tryd.results11, go_sem]) rfl ⟨rfl, HB.out⟩
  · simp only [if_true]
    generalize hI : (i != 0) = I at *
    go_enter Tryd.func11, Tryd.ntmps11
    go_wp2_with (go_at_call 22; (with_reducible refine (gi _).mono ?_); rintro e w1 ⟨rfl, hb⟩; have HB := Lib.hid (a1.trans (hb.mono a1.size)))
    exact bodyPost_ret (v := .tuple #[.int .u32 i, .bool I]) (by simp [results, Tryd.results11, go_sem]) rfl ⟨rfl, HB.out⟩
end Go.Proofs.YthlogaenbnhobaaDoor
