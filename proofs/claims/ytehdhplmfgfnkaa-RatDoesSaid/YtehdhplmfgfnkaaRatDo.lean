/-
  The laws' own 'do', and the reference's Do at wrong arguments: each answers as the other. (Template: by-name.py fills it.)
-/
import Derived.Test.YtehdhplmfgfnkaaNumM
import Derived.Test.YtehdhplmfgfnkaaNumN
import Derived.Test.YtehdhplmfgfnkaaNumO
import Derived.Test.YtehdhplmfgfnkaaNumP
import Derived.Test.YtehdhplmfgfnkaaRatB
namespace Go.Proofs.Ytehdhplmfgfnkaa
open Go.RowKit

theorem fitN_nought (s : Bool) (k : Nat) : fitN s 0 k = 0 := by
  unfold fitN
  split
  · cases s <;> simp
  · rfl

theorem toV_res {P : Int} {Q N : Nat} {S : Bool} (hN : N = P.natAbs) (hs : P ≠ 0 → S = decide (P < 0)) : toV N Q S = resV P Q := by
  subst hN
  unfold toV resV resN resD resE
  by_cases hP : P = 0
  · subst hP
    simp [fitN_nought]
  · rw [hs hP]

theorem plus_nought (s t : Bool) (X : Nat) : plusM s X t 0 = X ∧ plusS s X t 0 = s := by
  unfold plusM plusS
  refine ⟨?_, ?_⟩
  · split
    · rfl
    · rw [if_neg (Nat.not_lt_zero _)]; rfl
  · split
    · rfl
    · rw [if_neg (Nat.not_lt_zero _)]

theorem add_same (n m : Int) (d e : Nat) : toV (plusM (decide (n < 0)) (n.natAbs * (e : Int).natAbs) (decide (m < 0)) (m.natAbs * (d : Int).natAbs)) ((d : Int).natAbs * (e : Int).natAbs) (plusS (decide (n < 0)) (n.natAbs * (e : Int).natAbs) (decide (m < 0)) (m.natAbs * (d : Int).natAbs)) = resV (n * e + m * d) (d * e) := by
  rw [Int.natAbs_natCast, Int.natAbs_natCast]
  obtain ⟨a, b⟩ := plus_signed n m e d
  exact toV_res a b

theorem sub_same (n m : Int) (d e : Nat) : toV (plusM (decide (n < 0)) (n.natAbs * (e : Int).natAbs) (!decide (m < 0)) (m.natAbs * (d : Int).natAbs)) ((d : Int).natAbs * (e : Int).natAbs) (plusS (decide (n < 0)) (n.natAbs * (e : Int).natAbs) (!decide (m < 0)) (m.natAbs * (d : Int).natAbs)) = resV (n * e - m * d) (d * e) := by
  rw [Int.natAbs_natCast, Int.natAbs_natCast]
  obtain ⟨a, b⟩ := plus_signed n (-m) e d
  rw [Int.natAbs_neg] at a b
  rw [show n * e + -m * d = n * e - m * d by rw [Int.neg_mul]; omega] at a b
  by_cases hm : m = 0
  · subst hm
    rw [show (0 : Int).natAbs * d = 0 by simp] at a b ⊢
    obtain ⟨x1, x2⟩ := plus_nought (decide (n < 0)) (decide (-(0 : Int) < 0)) (n.natAbs * e)
    obtain ⟨y1, y2⟩ := plus_nought (decide (n < 0)) (!decide ((0 : Int) < 0)) (n.natAbs * e)
    rw [x1] at a
    rw [x2] at b
    rw [y1, y2]
    exact toV_res a b
  · have : (!decide (m < 0)) = decide (-m < 0) := by
      by_cases h : m < 0
      · rw [decide_eq_true h, decide_eq_false (by omega)]; rfl
      · rw [decide_eq_false h, decide_eq_true (by omega)]; rfl
    rw [this]
    exact toV_res a b

theorem mul_sign (n m : Int) (h : n * m ≠ 0) : (decide (n < 0) != decide (m < 0)) = decide (n * m < 0) := by
  have hn : n ≠ 0 := fun e => h (by rw [e, Int.zero_mul])
  have hm : m ≠ 0 := fun e => h (by rw [e, Int.mul_zero])
  by_cases a : n < 0 <;> by_cases b : m < 0
  · have := Int.mul_pos_of_neg_of_neg a b
    rw [decide_eq_true a, decide_eq_true b, decide_eq_false (by omega)]; rfl
  · have := Int.mul_neg_of_neg_of_pos a (show 0 < m by omega)
    rw [decide_eq_true a, decide_eq_false b, decide_eq_true this]; rfl
  · have := Int.mul_neg_of_pos_of_neg (show 0 < n by omega) b
    rw [decide_eq_false a, decide_eq_true b, decide_eq_true this]; rfl
  · have := Int.mul_pos (show 0 < n by omega) (show 0 < m by omega)
    rw [decide_eq_false a, decide_eq_false b, decide_eq_false (by omega)]; rfl

theorem mul_same (n m : Int) (d e : Nat) : toV (n.natAbs * m.natAbs) ((d : Int).natAbs * (e : Int).natAbs) (decide (n < 0) != decide (m < 0)) = resV (n * m) (d * e) := by
  rw [Int.natAbs_natCast, Int.natAbs_natCast]
  exact toV_res (Int.natAbs_mul n m).symm (mul_sign n m)

theorem div_same (n m : Int) (d e : Nat) (he : 0 < e) : toV (n.natAbs * (e : Int).natAbs) ((d : Int).natAbs * m.natAbs) (decide (n < 0) != decide (m < 0)) = resV (n * (if m < 0 then -(e : Int) else e)) (d * m.natAbs) := by
  rw [Int.natAbs_natCast, Int.natAbs_natCast]
  have hs : decide (m < 0) = decide ((if m < 0 then -(e : Int) else e) < 0) := by
    split
    · rename_i h
      rw [decide_eq_true h, decide_eq_true (by omega)]
    · rename_i h
      rw [decide_eq_false h, decide_eq_false (by omega)]
  have ha : (if m < 0 then -(e : Int) else (e : Int)).natAbs = e := by split <;> omega
  generalize (if m < 0 then -(e : Int) else (e : Int)) = E at *
  rw [hs]
  exact toV_res (by rw [Int.natAbs_mul, ha]) (mul_sign n E)

set_option maxHeartbeats 1000000 in
theorem law_add (n d m e p1 p2 p3 : Int) (w : World) (su : ∀ w, Calls Try.prog 7 #[ratV n d, ratV m e] w fun r w' => r = .returned (.tuple #[ratV p1 p2, .int .i64 p3]) ∧ Below w.heap.size w w') :
    Calls Try.prog 5 #[.int .i64 0, ratV n d, ratV m e] w fun r w' => r = .returned (.tuple #[ratV p1 p2, .int .i64 p3]) ∧ Below w.heap.size w w' := by
  go_enter Try.func5, Try.ntmps5
  go_upto_region 1 with fail
  have B := Boxes.start w n d m e 0 23
  have c0 := B.c0; have c1 := B.c1; have c2 := B.c2; have c3 := B.c3
  go_wp2_with (go_at_call 7; (with_reducible refine (su _).mono ?_); rintro e w1 ⟨rfl, hb⟩; have B := B.keep hb; have i0 := B.i0; have i1 := B.i1; have j0 := B.j0; have j1 := B.j1; have HB := Lib.hid B.below)
  exact bodyPost_ret (v := .tuple #[ratV p1 p2, .int .i64 p3]) (by simp [results, Try.results5, go_sem, i0, i1]) rfl ⟨rfl, below_two HB.out⟩

set_option maxHeartbeats 1000000 in
theorem law_sub (n d m e p1 p2 p3 : Int) (w : World) (su : ∀ w, Calls Try.prog 9 #[ratV n d, ratV m e] w fun r w' => r = .returned (.tuple #[ratV p1 p2, .int .i64 p3]) ∧ Below w.heap.size w w') :
    Calls Try.prog 5 #[.int .i64 1, ratV n d, ratV m e] w fun r w' => r = .returned (.tuple #[ratV p1 p2, .int .i64 p3]) ∧ Below w.heap.size w w' := by
  go_enter Try.func5, Try.ntmps5
  go_upto_region 1 with fail
  have B := Boxes.start w n d m e 0 23
  have c0 := B.c0; have c1 := B.c1; have c2 := B.c2; have c3 := B.c3
  go_wp2_with (go_at_call 9; (with_reducible refine (su _).mono ?_); rintro e w1 ⟨rfl, hb⟩; have B := B.keep hb; have i0 := B.i0; have i1 := B.i1; have j0 := B.j0; have j1 := B.j1; have HB := Lib.hid B.below)
  exact bodyPost_ret (v := .tuple #[ratV p1 p2, .int .i64 p3]) (by simp [results, Try.results5, go_sem, i0, i1]) rfl ⟨rfl, below_two HB.out⟩

set_option maxHeartbeats 1000000 in
theorem law_mul (n d m e p1 p2 p3 : Int) (w : World) (su : ∀ w, Calls Try.prog 8 #[ratV n d, ratV m e] w fun r w' => r = .returned (.tuple #[ratV p1 p2, .int .i64 p3]) ∧ Below w.heap.size w w') :
    Calls Try.prog 5 #[.int .i64 2, ratV n d, ratV m e] w fun r w' => r = .returned (.tuple #[ratV p1 p2, .int .i64 p3]) ∧ Below w.heap.size w w' := by
  go_enter Try.func5, Try.ntmps5
  go_upto_region 1 with fail
  have B := Boxes.start w n d m e 0 23
  have c0 := B.c0; have c1 := B.c1; have c2 := B.c2; have c3 := B.c3
  go_wp2_with (go_at_call 8; (with_reducible refine (su _).mono ?_); rintro e w1 ⟨rfl, hb⟩; have B := B.keep hb; have i0 := B.i0; have i1 := B.i1; have j0 := B.j0; have j1 := B.j1; have HB := Lib.hid B.below)
  exact bodyPost_ret (v := .tuple #[ratV p1 p2, .int .i64 p3]) (by simp [results, Try.results5, go_sem, i0, i1]) rfl ⟨rfl, below_two HB.out⟩

set_option maxHeartbeats 1000000 in
theorem law_div (n d m e p1 p2 p3 : Int) (w : World) (su : ∀ w, Calls Try.prog 10 #[ratV n d, ratV m e] w fun r w' => r = .returned (.tuple #[ratV p1 p2, .int .i64 p3]) ∧ Below w.heap.size w w') :
    Calls Try.prog 5 #[.int .i64 3, ratV n d, ratV m e] w fun r w' => r = .returned (.tuple #[ratV p1 p2, .int .i64 p3]) ∧ Below w.heap.size w w' := by
  go_enter Try.func5, Try.ntmps5
  go_upto_region 1 with fail
  have B := Boxes.start w n d m e 0 23
  have c0 := B.c0; have c1 := B.c1; have c2 := B.c2; have c3 := B.c3
  go_wp2_with (go_at_call 10; (with_reducible refine (su _).mono ?_); rintro e w1 ⟨rfl, hb⟩; have B := B.keep hb; have i0 := B.i0; have i1 := B.i1; have j0 := B.j0; have j1 := B.j1; have HB := Lib.hid B.below)
  exact bodyPost_ret (v := .tuple #[ratV p1 p2, .int .i64 p3]) (by simp [results, Try.results5, go_sem, i0, i1]) rfl ⟨rfl, below_two HB.out⟩

set_option maxHeartbeats 1000000 in
theorem do_bad (op n d m e : Int) (w : World) (ra : ∀ w, Calls Try.prog 11 #[ratV n d] w fun r w' => r = .returned (.bool (rightB n d)) ∧ Below w.heap.size w w')
    (rb : ∀ w, Calls Try.prog 11 #[ratV m e] w fun r w' => r = .returned (.bool (rightB m e)) ∧ Below w.heap.size w w') (h : rightB n d = false ∨ (rightB n d = true ∧ rightB m e = false)) :
    Calls Try.prog 6 #[.int .i64 op, ratV n d, ratV m e] w fun r w' => r = .returned (.tuple #[ratV 0 0, .int .i64 2]) ∧ Below w.heap.size w w' := by
  rcases h with h | ⟨h, g⟩
  · rw [h] at ra
    clear h rb
    go_enter Try.func6, Try.ntmps6
    go_upto_region 1 with fail
    have B := Boxes.start w n d m e 0 23
    go_wp2_with (go_at_call 11; (with_reducible refine (ra _).mono ?_); rintro e w1 ⟨rfl, hb⟩; have B := B.keep hb; have i0 := B.i0; have i1 := B.i1; have j0 := B.j0; have j1 := B.j1)
    exact bodyPost_ret (v := .tuple #[ratV 0 0, .int .i64 2]) (by simp [results, Try.results6, go_sem, i0, i1]) rfl ⟨rfl, below_two B.below⟩
  · rw [h] at ra
    rw [g] at rb
    clear h g
    go_enter Try.func6, Try.ntmps6
    go_upto_region 1 with fail
    have B := Boxes.start w n d m e 0 23
    go_wp2_with (go_at_call 11; (first | with_reducible refine (ra _).mono ?_ | with_reducible refine (rb _).mono ?_); rintro e w1 ⟨rfl, hb⟩; have B := B.keep hb; have c2 := B.c2; have c3 := B.c3; have i0 := B.i0; have i1 := B.i1; have j0 := B.j0; have j1 := B.j1)
    exact bodyPost_ret (v := .tuple #[ratV 0 0, .int .i64 2]) (by simp [results, Try.results6, go_sem, i0, i1]) rfl ⟨rfl, below_two B.below⟩

set_option maxHeartbeats 1000000 in
theorem do_nought {n : Int} {d e : Nat} (v : Valid n d) (u : Valid 0 e) (w : World) :
    Calls Try.prog 6 #[.int .i64 3, ratV n d, ratV 0 e] w fun r w' => r = .returned (.tuple #[ratV 0 0, .int .i64 2]) ∧ Below w.heap.size w w' := by
  have vn := v.n_le; have vd := v.d_le; have ud := u.d_le
  have ra := fun w => rright_any n d w (by omega) (by omega) (by omega) (by omega)
  have rb := fun w => rright_any 0 e w (by omega) (by omega) (by omega) (by omega)
  rw [v.right] at ra
  rw [u.right] at rb
  clear v u vn vd ud
  generalize (d : Int) = D at *
  generalize (e : Int) = E at *
  go_enter Try.func6, Try.ntmps6
  go_upto_region 1 with fail
  have B := Boxes.start w n D 0 E 0 23
  go_wp2_with (go_at_call 11; (first | with_reducible refine (ra _).mono ?_ | with_reducible refine (rb _).mono ?_); rintro e w1 ⟨rfl, hb⟩; have B := B.keep hb; have c2 := B.c2; have c3 := B.c3; have i0 := B.i0; have i1 := B.i1; have j0 := B.j0; have j1 := B.j1)
  exact bodyPost_ret (v := .tuple #[ratV 0 0, .int .i64 2]) (by simp [results, Try.results6, go_sem, i0, i1]) rfl ⟨rfl, below_two B.below⟩

/-- Both answer the same, whatever the operation and the arguments. -/
theorem same_op (op n d m e : Int) (ho : op = 0 ∨ op = 1 ∨ op = 2 ∨ op = 3) (h1 : -9223372036854775808 ≤ n) (h2 : n ≤ 9223372036854775807) (h3 : -9223372036854775808 ≤ d) (h4 : d ≤ 9223372036854775807)
    (k1 : -9223372036854775808 ≤ m) (k2 : m ≤ 9223372036854775807) (k3 : -9223372036854775808 ≤ e) (k4 : e ≤ 9223372036854775807) :
    ∃ p1 p2 p3 : Int, (∀ w, Calls Try.prog 5 #[.int .i64 op, ratV n d, ratV m e] w fun r w' => r = .returned (.tuple #[ratV p1 p2, .int .i64 p3]) ∧ Below w.heap.size w w') ∧
      (∀ w, Calls Try.prog 6 #[.int .i64 op, ratV n d, ratV m e] w fun r w' => r = .returned (.tuple #[ratV p1 p2, .int .i64 p3]) ∧ Below w.heap.size w w') := by
  by_cases h : rightB n d = true ∧ rightB m e = true
  · obtain ⟨x, rfl, v⟩ := valid_of h.1 h1 h2 h4
    obtain ⟨y, rfl, u⟩ := valid_of h.2 k1 k2 k4
    rcases ho with rfl | rfl | rfl | rfl
    · exact ⟨_, _, _, fun w => law_add _ _ _ _ _ _ _ w (fun w => add_valid v u w), fun w => by have := do_add v u w; rwa [add_same] at this⟩
    · exact ⟨_, _, _, fun w => law_sub _ _ _ _ _ _ _ w (fun w => sub_valid v u w), fun w => by have := do_sub v u w; rwa [sub_same] at this⟩
    · exact ⟨_, _, _, fun w => law_mul _ _ _ _ _ _ _ w (fun w => mul_valid v u w), fun w => by have := do_mul v u w; rwa [mul_same] at this⟩
    · by_cases hm : m = 0
      · subst hm
        exact ⟨_, _, _, fun w => law_div _ _ _ _ _ _ _ w (fun w => div_nought v u w), fun w => do_nought v u w⟩
      · exact ⟨_, _, _, fun w => law_div _ _ _ _ _ _ _ w (fun w => div_valid v u hm w), fun w => by have := do_div v u hm w; rwa [div_same _ _ _ _ u.pos] at this⟩
  · have hc := wrong_cases n d m e h
    have ra := fun w => right_any n d w h1 h2 h3 h4
    have rb := fun w => right_any m e w k1 k2 k3 k4
    have qa := fun w => rright_any n d w h1 h2 h3 h4
    have qb := fun w => rright_any m e w k1 k2 k3 k4
    refine ⟨0, 0, 2, ?_, fun w => do_bad op n d m e w qa qb hc⟩
    rcases ho with rfl | rfl | rfl | rfl
    · exact fun w => law_add _ _ _ _ _ _ _ w (fun w => add_bad n d m e w ra rb hc)
    · exact fun w => law_sub _ _ _ _ _ _ _ w (fun w => sub_bad n d m e w ra rb hc)
    · exact fun w => law_mul _ _ _ _ _ _ _ w (fun w => mul_bad n d m e w ra rb hc)
    · exact fun w => law_div _ _ _ _ _ _ _ w (fun w => div_bad n d m e w ra rb hc)
end Go.Proofs.Ytehdhplmfgfnkaa
