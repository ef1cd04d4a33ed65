/-
  For any two fractions, right or not, the law RatBetween answers true, and leaves its arguments as they were. No condition.
-/
import Derived.Test.YtjgbiecfjjdogaaRatL
namespace Go.Proofs.Ytjgbiecfjjdogaa
open Go.ChangeShapes Go.WideShapes Go.ChangeAt Go.RowKit

theorem half_below (n m d e sn sd hn hd : Int) (h1 : sn * (d * e) = (n * e + m * d) * sd) (h2 : hn * (sd * 2) = sn * 1 * hd) : 2 * sd * e * (n * hd - hn * d) = hd * sd * (n * e - m * d) := by grind
theorem half_above (n m d e sn sd hn hd : Int) (h1 : sn * (d * e) = (n * e + m * d) * sd) (h2 : hn * (sd * 2) = sn * 1 * hd) : 2 * sd * d * (hn * e - m * hd) = hd * sd * (n * e - m * d) := by grind

set_option maxRecDepth 100000 in
set_option maxHeartbeats 2000000 in
theorem between_right {n m : Int} {d e : Nat} (v : Valid n d) (u : Valid m e) (w : World) :
    Calls Try.prog 7 #[ratV n d, ratV m e] w fun e w' => e = .returned (.bool true) ∧ Below w.heap.size w w' := by
  have ra := fun w => right_yes v w
  have rb := fun w => right_yes u w
  have ad := fun w => add_valid v u w
  have L := ((Live.start w).box n d).boxAt m e (w.heap.size + 1) (by simp)
  rcases res_cases (n * e + m * d) (Nat.mul_pos v.pos u.pos) with ⟨sn, sd, hs, vs, hse⟩ | hs
  · rw [hs] at ad
    have mu : ∀ w, Calls Try.prog 15 #[ratV sn sd, ratV 1 2] w fun r w' => r = .returned (resV (sn * 1) (sd * 2)) ∧ Below w.heap.size w w' := fun w => mul_valid vs half w
    rcases res_cases (sn * 1) (Nat.mul_pos vs.pos (show 0 < 2 by decide)) with ⟨hn, hd, hh, vh, hhe⟩ | hh
    · rw [hh] at mu
      have pd := v.pos; have pe := u.pos; have ps := vs.pos; have ph := vh.pos
      have pq : (0 : Int) < (hd : Int) * (sd : Int) := Int.mul_pos (by omega) (by omega)
      have k1 : cmpV n hn d hd = cmpV n m d e := by
        refine cmp_eq (2 * sd * e) (hd * sd) (Int.mul_pos (by omega) (by omega)) pq ?_
        exact half_below n m d e sn sd hn hd (by rw [← hse]; push_cast; rfl) (by rw [← hhe]; push_cast; rfl)
      have k2 : cmpV hn m hd e = cmpV n m d e := by
        refine cmp_eq (2 * sd * d) (hd * sd) (Int.mul_pos (by omega) (by omega)) pq ?_
        exact half_above n m d e sn sd hn hd (by rw [← hse]; push_cast; rfl) (by rw [← hhe]; push_cast; rfl)
      have c1 := fun w => compare_valid v vh w
      have c2 := fun w => compare_valid v u w
      have c3 := fun w => compare_valid vh u w
      rw [k1] at c1
      rw [k2] at c3
      generalize cmpV n m d e = c at *
      clear v u vs vh pd pe ps ph pq k1 k2 hs hh hse hhe
      go_enter Try.func7, Try.ntmps7
      go_upto_region 3 with (first
        | (go_at_call 9; (with_reducible refine (awake_yes _).mono ?_); rintro e w1 ⟨rfl, hb⟩; have L := L.call hb; have a0 := L.n 1 rfl; have a1 := L.d 1 rfl)
        | (go_at_call 12; (first | with_reducible refine (ra _).mono ?_ | with_reducible refine (rb _).mono ?_); rintro e w1 ⟨rfl, hb⟩; have L := L.call hb; have a0 := L.n 1 rfl; have a1 := L.d 1 rfl; have b0 := L.n 0 rfl; have b1 := L.d 0 rfl))
      go_upto_region 6 with (go_at_call 13; (with_reducible refine (ad _).mono ?_); rintro e w2 ⟨rfl, hb⟩)
      have L := (L.call hb).box sn sd
      clear hb
      have s0 := L.n 0 rfl; have s1 := L.d 0 rfl
      go_upto_region 7 with (go_at_call 15; (with_reducible refine (mu _).mono ?_); rintro e w3 ⟨rfl, hb⟩)
      have L := (L.call hb).box hn hd
      clear hb
      go_region_held3 (fun w' => (w'.cell? ⟨w.heap.size, 0, none⟩ = some (.int .i64 n) ∧ w'.cell? ⟨w.heap.size, 1, none⟩ = some (.int .i64 d) ∧ w'.cell? ⟨w.heap.size + 1, 0, none⟩ = some (.int .i64 m) ∧ w'.cell? ⟨w.heap.size + 1, 1, none⟩ = some (.int .i64 e) ∧
          w'.cell? ⟨w3.heap.size, 0, none⟩ = some (.int .i64 hn) ∧ w'.cell? ⟨w3.heap.size, 1, none⟩ = some (.int .i64 hd)) ∧ Live w w' [(w3.heap.size, hn, hd), (w2.heap.size, sn, sd), (w.heap.size + 1, m, e), (w.heap.size, n, d)])
        (first
          | with_reducible assumption
          | with_reducible exact hold_three 3 2 0 rfl rfl rfl (by with_reducible assumption) (by with_reducible assumption)
          | exact (L.call (below_drew _)).three 3 2 0 rfl rfl rfl)
        (first
          | (go_at_call 17; (first | with_reducible refine (c1 _).mono ?_ | with_reducible refine (c2 _).mono ?_ | with_reducible refine (c3 _).mono ?_); rintro e w' ⟨rfl, hb⟩))
      go_wp2_with fail
      go_ret
      exact ⟨rfl, (live_of (by with_reducible assumption)).below⟩
    · rw [hh] at mu
      clear v u vs hs hh hse
      go_enter Try.func7, Try.ntmps7
      go_upto_region 3 with (first
        | (go_at_call 9; (with_reducible refine (awake_yes _).mono ?_); rintro e w1 ⟨rfl, hb⟩; have L := L.call hb; have a0 := L.n 1 rfl; have a1 := L.d 1 rfl)
        | (go_at_call 12; (first | with_reducible refine (ra _).mono ?_ | with_reducible refine (rb _).mono ?_); rintro e w1 ⟨rfl, hb⟩; have L := L.call hb; have a0 := L.n 1 rfl; have a1 := L.d 1 rfl; have b0 := L.n 0 rfl; have b1 := L.d 0 rfl))
      go_upto_region 6 with (go_at_call 13; (with_reducible refine (ad _).mono ?_); rintro e w2 ⟨rfl, hb⟩)
      have L := (L.call hb).box sn sd
      clear hb
      have s0 := L.n 0 rfl; have s1 := L.d 0 rfl
      go_upto_region 7 with (go_at_call 15; (with_reducible refine (mu _).mono ?_); rintro e w3 ⟨rfl, hb⟩)
      have L := (L.call hb).box 0 0
      clear hb
      go_quiet (fail)
      go_wp2_with fail
      go_ret
      exact ⟨rfl, L.below.trans ((below_drewN (Below.refl _ _) _).mono L.below.size)⟩
  · rw [hs] at ad
    clear v u hs
    go_enter Try.func7, Try.ntmps7
    go_upto_region 3 with (first
      | (go_at_call 9; (with_reducible refine (awake_yes _).mono ?_); rintro e w1 ⟨rfl, hb⟩; have L := L.call hb; have a0 := L.n 1 rfl; have a1 := L.d 1 rfl)
      | (go_at_call 12; (first | with_reducible refine (ra _).mono ?_ | with_reducible refine (rb _).mono ?_); rintro e w1 ⟨rfl, hb⟩; have L := L.call hb; have a0 := L.n 1 rfl; have a1 := L.d 1 rfl; have b0 := L.n 0 rfl; have b1 := L.d 0 rfl))
    go_wp2_with (go_at_call 13; (with_reducible refine (ad _).mono ?_); rintro e w2 ⟨rfl, hb⟩; have L := (L.call hb).box 0 0)
    go_ret
    exact ⟨rfl, L.below⟩

set_option maxHeartbeats 1000000 in
theorem between_wrong (n d m e : Int) (h1 : -9223372036854775808 ≤ n) (h2 : n ≤ 9223372036854775807) (h3 : -9223372036854775808 ≤ d) (h4 : d ≤ 9223372036854775807)
    (k1 : -9223372036854775808 ≤ m) (k2 : m ≤ 9223372036854775807) (k3 : -9223372036854775808 ≤ e) (k4 : e ≤ 9223372036854775807) (h : ¬ (rightB n d = true ∧ rightB m e = true)) (w : World) :
    Calls Try.prog 7 #[ratV n d, ratV m e] w fun e w' => e = .returned (.bool true) ∧ Below w.heap.size w w' := by
  have ra := fun w => right_any n d w h1 h2 h3 h4
  have rb := fun w => right_any m e w k1 k2 k3 k4
  have L := ((Live.start w).box n d).boxAt m e (w.heap.size + 1) (by simp)
  clear h1 h2 h3 h4 k1 k2 k3 k4
  cases ha : rightB n d
  · rw [ha] at ra
    clear ha h
    go_enter Try.func7, Try.ntmps7
    go_wp2_with (first
      | (go_at_call 9; (with_reducible refine (awake_yes _).mono ?_); rintro e w1 ⟨rfl, hb⟩; have L := L.call hb; have a0 := L.n 1 rfl; have a1 := L.d 1 rfl)
      | (go_at_call 12; (with_reducible refine (ra _).mono ?_); rintro e w1 ⟨rfl, hb⟩; have L := L.call hb))
    go_ret
    exact ⟨rfl, L.below⟩
  · cases hb' : rightB m e
    · rw [ha] at ra
      rw [hb'] at rb
      clear ha hb' h
      go_enter Try.func7, Try.ntmps7
      go_wp2_with (first
        | (go_at_call 9; (with_reducible refine (awake_yes _).mono ?_); rintro e w1 ⟨rfl, hb⟩; have L := L.call hb; have a0 := L.n 1 rfl; have a1 := L.d 1 rfl)
        | (go_at_call 12; (first | with_reducible refine (ra _).mono ?_ | with_reducible refine (rb _).mono ?_); rintro e w1 ⟨rfl, hb⟩; have L := L.call hb; have a0 := L.n 1 rfl; have a1 := L.d 1 rfl; have b0 := L.n 0 rfl; have b1 := L.d 0 rfl))
      go_ret
      exact ⟨rfl, L.below⟩
    · exact absurd ⟨ha, hb'⟩ h

theorem between_any (n d m e : Int) (h1 : -9223372036854775808 ≤ n) (h2 : n ≤ 9223372036854775807) (h3 : -9223372036854775808 ≤ d) (h4 : d ≤ 9223372036854775807)
    (k1 : -9223372036854775808 ≤ m) (k2 : m ≤ 9223372036854775807) (k3 : -9223372036854775808 ≤ e) (k4 : e ≤ 9223372036854775807) (w : World) :
    Calls Try.prog 7 #[ratV n d, ratV m e] w fun e w' => e = .returned (.bool true) ∧ Below w.heap.size w w' := by
  by_cases h : rightB n d = true ∧ rightB m e = true
  · obtain ⟨x, rfl, v⟩ := valid_of h.1 h1 h2 h4
    obtain ⟨y, rfl, u⟩ := valid_of h.2 k1 k2 k4
    exact between_right v u w
  · exact between_wrong n d m e h1 h2 h3 h4 k1 k2 k3 k4 h w

set_option maxRecDepth 100000 in
theorem between_lifted (os : Os) (started : os.Started) (H : Type) (enc : TypeId × Value → H) :
    ReturnsInHanded {} Try.checked os 7 .any (Rows.ratBetweenSpec.pre6 enc Try.prog Try.f7 Rows.ratBetweenRow.domain false) (Rows.ratBetweenSpec.post enc Try.prog Try.f7 false true false false) := by
  refine returnsInHanded_of_change (C := Try.checked) Try.own started (by kernel_rfl) Try.func7
    (ChangeSpec.witness6 (enc := enc) (C := Try.checked) false ⟨#[], #[.agg #[.int .i64 0, .int .i64 0], .agg #[.int .i64 0, .int .i64 0]], []⟩ 8 (by kernel_rfl) (by kernel_rfl) (by kernel_rfl) (by kernel_rfl)) ?_
  intro W base args ds gs before hval0 hW _ _
  have hval : ∀ (j : Nat) t v, Try.f7.params[j]? = some t → args[j]? = some v → Value.okWide Try.prog W .any base t v := hval0
  have hW' := hW
  obtain ⟨p, q, hA0, hV, rfl, _, _⟩ := hW
  have hA : DataW.TrodAll enc Try.prog W 0 (fun _ => true) true Try.f7.params.toList args.toList ds p := hA0
  rw [Try.params7] at hA hval
  obtain ⟨v0, v1, d0, d1, p0, p1, rfl, rfl, rfl, h0, h1⟩ := trodAll_two hA
  obtain ⟨rfl, rfl⟩ := trodVars_none hV
  obtain ⟨n, d, rfl, rfl, rfl, ⟨n1, n2⟩, ⟨e1, e2⟩, sa⟩ := open_rat (hval 0 23 v0 rfl rfl) h0
  obtain ⟨m, e, rfl, rfl, rfl, ⟨m1, m2⟩, ⟨f1, f2⟩, sb⟩ := open_rat (hval 1 23 v1 rfl rfl) h1
  clear hA0 hval0
  simp only [List.append_nil] at hW'
  refine (between_any n d m e n1 n2 e1 e2 m1 m2 f1 f2 W).mono fun r W' ⟨he, hb⟩ => ?_
  subst he
  exact ⟨_, rfl, post_of_below (pa := []) (pv := []) hW' (fun _ _ _ => trodAll_mk1 (shut_bool Try.underlying4 _)) (fun sp _ => trodAll_mk2 (sa _ _ sp _) (sb _ _ sp _)) (fun _ _ => rfl) rfl hb (ok_one (by kernel_rfl) rfl (okWide_bool_mk Try.underlying4 _))⟩

theorem between_holds : Rows.RatBetweenSaid :=
  OpenClaim.holds_of_wide 7 Try.f7 rfl rfl rfl rfl rfl rfl rfl ⟨rfl, rfl, rfl, rfl, rfl⟩ rfl rfl rfl rfl rfl (by kernel_rfl) Try.func7 (by kernel_rfl)
    (of_decide_eq_true (by kernel_rfl)) (by unfold Func.isWrapper; first | (rw [if_pos (by decide +kernel)]; kernel_rfl) | (rw [if_neg (by decide +kernel)]; exact ⟨rfl, rfl⟩))
    (fun os started H enc _ => between_lifted os started H enc)
#print axioms between_holds
end Go.Proofs.Ytjgbiecfjjdogaa
