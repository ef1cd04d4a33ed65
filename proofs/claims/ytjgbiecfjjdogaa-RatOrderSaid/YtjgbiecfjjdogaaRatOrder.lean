/-
  For any three fractions, right or not, the law RatOrder answers true, and leaves its arguments as they were. No condition.
-/
import Derived.Test.YtjgbiecfjjdogaaRatL
namespace Go.Proofs.Ytjgbiecfjjdogaa
open Go.ChangeShapes Go.WideShapes Go.ChangeAt Go.RowKit

theorem moved_order (n m k d e f x y p q : Int) (h1 : x * (d * f) = (n * f + k * d) * p) (h2 : y * (e * f) = (m * f + k * e) * q) : d * e * f * (x * q - y * p) = p * q * f * (n * e - m * d) := by grind

set_option maxRecDepth 100000 in
set_option maxHeartbeats 8000000 in
theorem order_walk (n m k d e f c x1 y1 E1 x2 y2 E2 x3 y3 E3 : Int) (w : World)
    (ra : ∀ w, Calls Try.prog 12 #[ratV n d] w fun r w' => r = .returned (.bool true) ∧ Below w.heap.size w w')
    (rb : ∀ w, Calls Try.prog 12 #[ratV m e] w fun r w' => r = .returned (.bool true) ∧ Below w.heap.size w w')
    (rc : ∀ w, Calls Try.prog 12 #[ratV k f] w fun r w' => r = .returned (.bool true) ∧ Below w.heap.size w w')
    (c1 : ∀ w, Calls Try.prog 17 #[ratV n d, ratV m e] w fun r w' => r = .returned (.int .i64 c) ∧ Below w.heap.size w w')
    (c2 : ∀ w, Calls Try.prog 17 #[ratV m e, ratV n d] w fun r w' => r = .returned (.int .i64 (-c)) ∧ Below w.heap.size w w')
    (hc1 : -1 ≤ c) (hc2 : c ≤ 1)
    (hs : (n = m ∧ d = e ∧ c = 0) ∨ ((n == m) = false ∧ (c == 0) = false) ∨ ((n == m) = true ∧ (d == e) = false ∧ (c == 0) = false))
    (su : ∀ w, Calls Try.prog 14 #[ratV n d, ratV m e] w fun r w' => r = .returned (.tuple #[ratV x1 y1, .int .i64 E1]) ∧ Below w.heap.size w w')
    (ac : ∀ w, Calls Try.prog 13 #[ratV n d, ratV k f] w fun r w' => r = .returned (.tuple #[ratV x2 y2, .int .i64 E2]) ∧ Below w.heap.size w w')
    (bc : ∀ w, Calls Try.prog 13 #[ratV m e, ratV k f] w fun r w' => r = .returned (.tuple #[ratV x3 y3, .int .i64 E3]) ∧ Below w.heap.size w w')
    (h1 : (E1 = 0 ∧ decide (0 < x1) = decide (0 < c)) ∨ E1 = 3)
    (h2 : E2 = 3 ∨ (E2 = 0 ∧ E3 = 3) ∨ (E2 = 0 ∧ E3 = 0 ∧ ∀ w, Calls Try.prog 17 #[ratV x2 y2, ratV x3 y3] w fun r w' => r = .returned (.int .i64 c) ∧ Below w.heap.size w w')) :
    Calls Try.prog 5 #[ratV n d, ratV m e, ratV k f] w fun e w' => e = .returned (.bool true) ∧ Below w.heap.size w w' := by
  have L := (((Live.start w).box n d).boxAt m e (w.heap.size + 1) (by simp)).boxAt k f (w.heap.size + 1 + 1) (by simp)
  have cm : True ∨ ∀ w, Calls Try.prog 17 #[ratV x2 y2, ratV x3 y3] w fun r w' => r = .returned (.int .i64 c) ∧ Below w.heap.size w w' := Or.inl trivial
  rcases hs with ⟨rfl, rfl, rfl⟩ | ⟨s1, s2⟩ | ⟨s1, s2, s3⟩ <;> rcases h1 with ⟨rfl, hx⟩ | rfl <;> rcases h2 with rfl | ⟨rfl, rfl⟩ | ⟨rfl, rfl, cm⟩
  all_goals
    go_enter Try.func5, Try.ntmps5
    go_upto_region 3 with (first
      | (go_at_call 9; (with_reducible refine (awake_yes _).mono ?_); rintro e w1 ⟨rfl, hb⟩; have L := L.call hb; have a0 := L.n 2 rfl; have a1 := L.d 2 rfl; have b0 := L.n 1 rfl; have b1 := L.d 1 rfl; have k0 := L.n 0 rfl; have k1 := L.d 0 rfl)
      | (go_at_call 12; (first | with_reducible refine (ra _).mono ?_ | with_reducible refine (rb _).mono ?_ | with_reducible refine (rc _).mono ?_); rintro e w1 ⟨rfl, hb⟩; have L := L.call hb; have a0 := L.n 2 rfl; have a1 := L.d 2 rfl; have b0 := L.n 1 rfl; have b1 := L.d 1 rfl; have k0 := L.n 0 rfl; have k1 := L.d 0 rfl))
    go_upto_region 6 with (go_at_call 17; (first | with_reducible refine (c1 _).mono ?_ | with_reducible refine (c2 _).mono ?_); rintro e w1 ⟨rfl, hb⟩; have L := L.call hb; have a0 := L.n 2 rfl; have a1 := L.d 2 rfl; have b0 := L.n 1 rfl; have b1 := L.d 1 rfl; have k0 := L.n 0 rfl; have k1 := L.d 0 rfl)
    go_upto_region 7 with (go_at_call 14; (with_reducible refine (su _).mono ?_); rintro e w2 ⟨rfl, hb⟩)
    have L := (L.call hb).box x1 y1
    clear hb a0 a1 b0 b1 k0 k1
    have x0 := L.n 0 rfl; have a0 := L.n 3 rfl; have a1 := L.d 3 rfl; have k0 := L.n 1 rfl; have k1 := L.d 1 rfl
    go_upto_region 10 with (go_at_call 13; (with_reducible refine (ac _).mono ?_); rintro e w3 ⟨rfl, hb⟩)
    have L := (L.call hb).box x2 y2
    clear hb a0 a1 x0 k0 k1
    have b0 := L.n 3 rfl; have b1 := L.d 3 rfl; have k0 := L.n 2 rfl; have k1 := L.d 2 rfl
    go_upto_region 11 with (go_at_call 13; (with_reducible refine (bc _).mono ?_); rintro e w4 ⟨rfl, hb⟩)
    have L := (L.call hb).box x3 y3
    clear hb b0 b1 k0 k1
    have u0 := L.n 1 rfl; have u1 := L.d 1 rfl; have v0 := L.n 0 rfl; have v1 := L.d 0 rfl
    go_wp2_with (go_at_call 17; (with_reducible refine (cm _).mono ?_); rintro e w1 ⟨rfl, hb⟩; have L := L.call hb)
    go_ret
    exact ⟨rfl, L.below⟩

theorem cmp_back (n m : Int) (d e : Nat) : cmpV m n e d = -cmpV n m d e := by
  unfold cmpV
  rcases Int.lt_trichotomy (n * (e : Int)) (m * (d : Int)) with h | h | h
  · rw [if_neg (by omega), if_neg (by omega), if_pos h]
    rfl
  · rw [if_neg (by omega), if_pos h.symm, if_neg (by omega), if_pos h]
    rfl
  · rw [if_pos h, if_neg (by omega), if_neg (by omega)]

theorem order_right {n m k : Int} {d e f : Nat} (v : Valid n d) (u : Valid m e) (z : Valid k f) (w : World) :
    Calls Try.prog 5 #[ratV n d, ratV m e, ratV k f] w fun e w' => e = .returned (.bool true) ∧ Below w.heap.size w w' := by
  have pd := v.pos; have pe := u.pos; have pf := z.pos
  have c2 : ∀ w, Calls Try.prog 17 #[ratV m e, ratV n d] w fun r w' => r = .returned (.int .i64 (-cmpV n m d e)) ∧ Below w.heap.size w w' := by
    intro w
    have := compare_valid u v w
    rwa [cmp_back] at this
  have hc : -1 ≤ cmpV n m d e ∧ cmpV n m d e ≤ 1 := by unfold cmpV; split <;> (try split) <;> omega
  have hs : (n = m ∧ (d : Int) = (e : Int) ∧ cmpV n m d e = 0) ∨ ((n == m) = false ∧ (cmpV n m d e == 0) = false) ∨ ((n == m) = true ∧ ((d : Int) == (e : Int)) = false ∧ (cmpV n m d e == 0) = false) := by
    by_cases h : n = m ∧ d = e
    · left
      obtain ⟨rfl, rfl⟩ := h
      exact ⟨rfl, rfl, by unfold cmpV; simp⟩
    · have hne := (cmp_sign v u h).2
      have h0 : (cmpV n m d e == 0) = false := by
        unfold cmpV
        by_cases l : n * (e : Int) < m * (d : Int)
        · simp [l]
        · simp [l, hne]
      right
      by_cases k : n = m
      · right; exact ⟨by simpa using k, by simp; intro l; exact h ⟨k, by omega⟩, h0⟩
      · left; exact ⟨by simpa using k, h0⟩
  have hsub : ∃ x y E : Int, (∀ w, Calls Try.prog 14 #[ratV n d, ratV m e] w fun r w' => r = .returned (.tuple #[ratV x y, .int .i64 E]) ∧ Below w.heap.size w w') ∧ ((E = 0 ∧ decide (0 < x) = decide (0 < cmpV n m d e)) ∨ E = 3) := by
    rcases res_cases (n * e - m * d) (Nat.mul_pos pd pe) with ⟨x, y, h1, h2, h3⟩ | h1
    · refine ⟨x, y, 0, fun w => by have := sub_valid v u w; rwa [h1] at this, .inl ⟨rfl, ?_⟩⟩
      have py := h2.pos
      have key : (0 < x ↔ m * (d : Int) < n * (e : Int)) := by
        constructor
        · intro hx
          have a := Int.mul_pos hx (show (0 : Int) < ((d * e : Nat) : Int) by have := Nat.mul_pos pd pe; omega)
          rw [h3] at a
          rcases Int.lt_or_le 0 (n * (e : Int) - m * (d : Int)) with g | g
          · omega
          · have := Int.mul_nonpos_of_nonpos_of_nonneg g (show (0 : Int) ≤ (y : Int) by omega); omega
        · intro hx
          have a := Int.mul_pos (show 0 < n * (e : Int) - m * (d : Int) by omega) (show (0 : Int) < (y : Int) by omega)
          rw [← h3] at a
          rcases Int.lt_or_le 0 x with g | g
          · exact g
          · have := Int.mul_nonpos_of_nonpos_of_nonneg g (show (0 : Int) ≤ ((d * e : Nat) : Int) by omega); omega
      congr 1
      rw [key]
      unfold cmpV
      apply propext
      rcases Int.lt_trichotomy (n * (e : Int)) (m * (d : Int)) with h | h | h
      · rw [if_pos h]; omega
      · rw [if_neg (by omega), if_pos h]; omega
      · rw [if_neg (by omega), if_neg (by omega)]; omega
    · exact ⟨0, 0, 3, fun w => by have := sub_valid v u w; rwa [h1] at this, .inr rfl⟩
  obtain ⟨x1, y1, E1, su, h1⟩ := hsub
  rcases res_cases (n * f + k * d) (Nat.mul_pos pd pf) with ⟨x2, y2, a1, a2, a3⟩ | a1
  · have ac : ∀ w, Calls Try.prog 13 #[ratV n d, ratV k f] w fun r w' => r = .returned (.tuple #[ratV x2 y2, .int .i64 0]) ∧ Below w.heap.size w w' := fun w => by have := add_valid v z w; rwa [a1] at this
    rcases res_cases (m * f + k * e) (Nat.mul_pos pe pf) with ⟨x3, y3, b1, b2, b3⟩ | b1
    · have bc : ∀ w, Calls Try.prog 13 #[ratV m e, ratV k f] w fun r w' => r = .returned (.tuple #[ratV x3 y3, .int .i64 0]) ∧ Below w.heap.size w w' := fun w => by have := add_valid u z w; rwa [b1] at this
      have p2 := a2.pos; have p3 := b2.pos
      have ke : cmpV x2 x3 y2 y3 = cmpV n m d e := by
        refine cmp_eq (d * e * f) (y2 * y3 * f) (Int.mul_pos (Int.mul_pos (by omega) (by omega)) (by omega)) (Int.mul_pos (Int.mul_pos (by omega) (by omega)) (by omega)) ?_
        exact moved_order n m k d e f x2 x3 y2 y3 (by rw [← a3]; push_cast; rfl) (by rw [← b3]; push_cast; rfl)
      have cm : ∀ w, Calls Try.prog 17 #[ratV x2 y2, ratV x3 y3] w fun r w' => r = .returned (.int .i64 (cmpV n m d e)) ∧ Below w.heap.size w w' := fun w => by have := compare_valid a2 b2 w; rwa [ke] at this
      exact order_walk n m k d e f (cmpV n m d e) x1 y1 E1 x2 y2 0 x3 y3 0 w (right_yes v) (right_yes u) (right_yes z) (compare_valid v u) c2 hc.1 hc.2 hs su ac bc h1 (.inr (.inr ⟨rfl, rfl, cm⟩))
    · exact order_walk n m k d e f (cmpV n m d e) x1 y1 E1 x2 y2 0 0 0 3 w (right_yes v) (right_yes u) (right_yes z) (compare_valid v u) c2 hc.1 hc.2 hs su ac (fun w => by have := add_valid u z w; rwa [b1] at this) h1 (.inr (.inl ⟨rfl, rfl⟩))
  · have ac : ∀ w, Calls Try.prog 13 #[ratV n d, ratV k f] w fun r w' => r = .returned (.tuple #[ratV 0 0, .int .i64 3]) ∧ Below w.heap.size w w' := fun w => by have := add_valid v z w; rwa [a1] at this
    exact order_walk n m k d e f (cmpV n m d e) x1 y1 E1 0 0 3 (resN (m * f + k * e) (e * f)) (resD (m * f + k * e) (e * f)) (resE (m * f + k * e) (e * f)) w (right_yes v) (right_yes u) (right_yes z) (compare_valid v u) c2 hc.1 hc.2 hs su ac (add_valid u z) h1 (.inl rfl)

set_option maxRecDepth 100000 in
set_option maxHeartbeats 2000000 in
theorem order_wrong (n d m e k f : Int) (ra : ∀ w, Calls Try.prog 12 #[ratV n d] w fun r w' => r = .returned (.bool (rightB n d)) ∧ Below w.heap.size w w')
    (rb : ∀ w, Calls Try.prog 12 #[ratV m e] w fun r w' => r = .returned (.bool (rightB m e)) ∧ Below w.heap.size w w')
    (rc : ∀ w, Calls Try.prog 12 #[ratV k f] w fun r w' => r = .returned (.bool (rightB k f)) ∧ Below w.heap.size w w')
    (h : rightB n d = false ∨ (rightB n d = true ∧ rightB m e = false) ∨ (rightB n d = true ∧ rightB m e = true ∧ rightB k f = false)) (w : World) :
    Calls Try.prog 5 #[ratV n d, ratV m e, ratV k f] w fun e w' => e = .returned (.bool true) ∧ Below w.heap.size w w' := by
  have L := (((Live.start w).box n d).boxAt m e (w.heap.size + 1) (by simp)).boxAt k f (w.heap.size + 1 + 1) (by simp)
  rcases h with h | ⟨h, g⟩ | ⟨h, g, q⟩
  · rw [h] at ra
    clear h
    go_enter Try.func5, Try.ntmps5
    go_wp2_with (first
      | (go_at_call 9; (with_reducible refine (awake_yes _).mono ?_); rintro e w1 ⟨rfl, hb⟩; have L := L.call hb; have a0 := L.n 2 rfl; have a1 := L.d 2 rfl)
      | (go_at_call 12; (with_reducible refine (ra _).mono ?_); rintro e w1 ⟨rfl, hb⟩; have L := L.call hb))
    go_ret
    exact ⟨rfl, L.below⟩
  · rw [h] at ra
    rw [g] at rb
    clear h g
    go_enter Try.func5, Try.ntmps5
    go_wp2_with (first
      | (go_at_call 9; (with_reducible refine (awake_yes _).mono ?_); rintro e w1 ⟨rfl, hb⟩; have L := L.call hb; have a0 := L.n 2 rfl; have a1 := L.d 2 rfl)
      | (go_at_call 12; (first | with_reducible refine (ra _).mono ?_ | with_reducible refine (rb _).mono ?_); rintro e w1 ⟨rfl, hb⟩; have L := L.call hb; have b0 := L.n 1 rfl; have b1 := L.d 1 rfl))
    go_ret
    exact ⟨rfl, L.below⟩
  · rw [h] at ra
    rw [g] at rb
    rw [q] at rc
    clear h g q
    go_enter Try.func5, Try.ntmps5
    go_wp2_with (first
      | (go_at_call 9; (with_reducible refine (awake_yes _).mono ?_); rintro e w1 ⟨rfl, hb⟩; have L := L.call hb; have a0 := L.n 2 rfl; have a1 := L.d 2 rfl)
      | (go_at_call 12; (first | with_reducible refine (ra _).mono ?_ | with_reducible refine (rb _).mono ?_ | with_reducible refine (rc _).mono ?_); rintro e w1 ⟨rfl, hb⟩; have L := L.call hb; have b0 := L.n 1 rfl; have b1 := L.d 1 rfl; have k0 := L.n 0 rfl; have k1 := L.d 0 rfl))
    go_ret
    exact ⟨rfl, L.below⟩

theorem order_any (n d m e k f : Int) (h1 : -9223372036854775808 ≤ n) (h2 : n ≤ 9223372036854775807) (h3 : -9223372036854775808 ≤ d) (h4 : d ≤ 9223372036854775807)
    (k1 : -9223372036854775808 ≤ m) (k2 : m ≤ 9223372036854775807) (k3 : -9223372036854775808 ≤ e) (k4 : e ≤ 9223372036854775807)
    (l1 : -9223372036854775808 ≤ k) (l2 : k ≤ 9223372036854775807) (l3 : -9223372036854775808 ≤ f) (l4 : f ≤ 9223372036854775807) (w : World) :
    Calls Try.prog 5 #[ratV n d, ratV m e, ratV k f] w fun e w' => e = .returned (.bool true) ∧ Below w.heap.size w w' := by
  have W := order_wrong n d m e k f (fun w => right_any n d w h1 h2 h3 h4) (fun w => right_any m e w k1 k2 k3 k4) (fun w => right_any k f w l1 l2 l3 l4)
  cases a : rightB n d
  · exact W (.inl a) w
  · cases b : rightB m e
    · exact W (.inr (.inl ⟨a, b⟩)) w
    · cases c : rightB k f
      · exact W (.inr (.inr ⟨a, b, c⟩)) w
      · obtain ⟨x, rfl, v⟩ := valid_of a h1 h2 h4
        obtain ⟨y, rfl, u⟩ := valid_of b k1 k2 k4
        obtain ⟨z, rfl, s⟩ := valid_of c l1 l2 l4
        exact order_right v u s w

set_option maxRecDepth 100000 in
theorem order_lifted (os : Os) (started : os.Started) (H : Type) (enc : TypeId × Value → H) :
    ReturnsInHanded {} Try.checked os 5 .any (Rows.ratOrderSpec.pre6 enc Try.prog Try.f5 Rows.ratOrderRow.domain false) (Rows.ratOrderSpec.post enc Try.prog Try.f5 false true false false) := by
  refine returnsInHanded_of_change (C := Try.checked) Try.own started (by kernel_rfl) Try.func5
    (ChangeSpec.witness6 (enc := enc) (C := Try.checked) false ⟨#[], #[.agg #[.int .i64 0, .int .i64 0], .agg #[.int .i64 0, .int .i64 0], .agg #[.int .i64 0, .int .i64 0]], []⟩ 8 (by kernel_rfl) (by kernel_rfl) (by kernel_rfl) (by kernel_rfl)) ?_
  intro W base args ds gs before hval0 hW _ _
  have hval : ∀ (j : Nat) t v, Try.f5.params[j]? = some t → args[j]? = some v → Value.okWide Try.prog W .any base t v := hval0
  have hW' := hW
  obtain ⟨p, q, hA0, hV, rfl, _, _⟩ := hW
  have hA : DataW.TrodAll enc Try.prog W 0 (fun _ => true) true Try.f5.params.toList args.toList ds p := hA0
  rw [Try.params5] at hA hval
  obtain ⟨v0, v1, v2, d0, d1, d2, p0, p1, p2, rfl, rfl, rfl, h0, h1, h2⟩ := trodAll_three hA
  obtain ⟨rfl, rfl⟩ := trodVars_none hV
  obtain ⟨n, d, rfl, rfl, rfl, ⟨n1, n2⟩, ⟨e1, e2⟩, sa⟩ := open_rat (hval 0 23 v0 rfl rfl) h0
  obtain ⟨m, e, rfl, rfl, rfl, ⟨m1, m2⟩, ⟨f1, f2⟩, sb⟩ := open_rat (hval 1 23 v1 rfl rfl) h1
  obtain ⟨k, f, rfl, rfl, rfl, ⟨k1, k2⟩, ⟨g1, g2⟩, sc⟩ := open_rat (hval 2 23 v2 rfl rfl) h2
  clear hA0 hval0
  simp only [List.append_nil] at hW'
  refine (order_any n d m e k f n1 n2 e1 e2 m1 m2 f1 f2 k1 k2 g1 g2 W).mono fun r W' ⟨he, hb⟩ => ?_
  subst he
  exact ⟨_, rfl, post_of_below (pa := []) (pv := []) hW' (fun _ _ _ => trodAll_mk1 (shut_bool Try.underlying4 _)) (fun sp _ => trodAll_mk3 (sa _ _ sp _) (sb _ _ sp _) (sc _ _ sp _)) (fun _ _ => rfl) rfl hb (ok_one (by kernel_rfl) rfl (okWide_bool_mk Try.underlying4 _))⟩

theorem order_holds : Rows.RatOrderSaid :=
  OpenClaim.holds_of_wide 5 Try.f5 rfl rfl rfl rfl rfl rfl rfl ⟨rfl, rfl, rfl, rfl, rfl⟩ rfl rfl rfl rfl rfl (by kernel_rfl) Try.func5 (by kernel_rfl)
    (of_decide_eq_true (by kernel_rfl)) (by unfold Func.isWrapper; first | (rw [if_pos (by decide +kernel)]; kernel_rfl) | (rw [if_neg (by decide +kernel)]; exact ⟨rfl, rfl⟩))
    (fun os started H enc _ => order_lifted os started H enc)
#print axioms order_holds
end Go.Proofs.Ytjgbiecfjjdogaa
