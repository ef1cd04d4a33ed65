/-
  The walk of the law TermNoughts. (Template: by-name.py fills it; gen/genNoughts.py writes it.)
-/
import Derived.Test.YtkgndeiddjkhmaaDoorTermU
import Derived.Test.YtkgndeiddjkhmaaDoorTermI
import Derived.Test.YtkgndeiddjkhmaaDoorTermM
namespace Go.Proofs.YtkgndeiddjkhmaaDoor
open Go.RowKit

theorem termput_pair {w w1 : World} {l : List (Int × Int)} {kn kd : Int} {E : Int} {e : Ending} (h : TermPut w l (kn, kd) E e w1) :
    ∃ A c, e = .returned (.tuple #[.agg #[.slice A l.length c, .int .i64 kn, .int .i64 kd], .int .i64 E]) ∧ RatsAt w1 (.slice A l.length c) l ∧ Below w.heap.size w w1 := by
  obtain ⟨A, c, he, hr, hb, _⟩ := termput_parts h
  exact ⟨A, c, he, hr, hb⟩

theorem termput_none {w w1 : World} {kn kd : Int} {E : Int} {e : Ending} (h : TermPut w [] (kn, kd) E e w1) :
    ∃ A c, e = .returned (.tuple #[.agg #[.slice A 0 c, .int .i64 kn, .int .i64 kd], .int .i64 E]) ∧ RatsAt w1 (.slice A 0 c) [] ∧ Below w.heap.size w w1 := termput_pair h

theorem atL_none (k : Nat) : atL [] k = (0, 1) := atL_out (.inr (by simp))
theorem allOk_none : AllOk [] := fun x hx => by cases hx

/-- Nothing more. -/
theorem put_nothing {l : List (Int × Int)} {kx : Int × Int} (hl : AllOk l) (hx : OkR kx) : putT addH l [] kx (0, 1) = (trimL l, kx, 0) := by
  rw [putT_mk (addH_nought hx) (fun i _ => by rw [atL_none, addH_nought (hl.at i)])]
  have hc : combOk addH l [] (max l.length ([] : List (Int × Int)).length) := fun i _ => by rw [atL_none, addH_nought (hl.at i)]
  rw [trim_ext (combL_ok addH_ok hl allOk_none hc) hl fun k => ?_]
  rw [combL_at, atL_none, addH_nought (hl.at k)]
  split
  · rfl
  · rename_i g
    exact (atL_out (.inr (by simp at g; omega))).symm
/-- Once. -/
theorem put_once {l : List (Int × Int)} {kx : Int × Int} (hl : AllOk l) (hx : OkR kx) : putT (scaleH (1, 1)) l [] kx (0, 1) = (trimL l, kx, 0) := by
  have hc : combOk (scaleH (1, 1)) l [] (max l.length ([] : List (Int × Int)).length) := fun i _ => by unfold scaleH; rw [mulH_one (hl.at i)]
  rw [putT_mk (show scaleH (1, 1) kx (0, 1) = (kx, 0) from mulH_one hx) hc]
  rw [trim_ext (combL_ok (scaleH_ok okR_one) hl allOk_none hc) hl fun k => ?_]
  rw [combL_at]
  unfold scaleH
  rw [mulH_one (hl.at k)]
  split
  · rfl
  · rename_i g
    exact (atL_out (.inr (by simp at g; omega))).symm
/-- Less than nothing so many times. -/
theorem put_less {l : List (Int × Int)} {kn kd : Int} (hl : AllOk l) (hx : OkR (kn, kd)) (h8 : l.length ≤ 8) : ∃ m, putT (scaleH (-1, 1)) l [] (kn, kd) (0, 1) = (m, (-kn, kd), 0) ∧ AllOk m ∧ m.length ≤ 8 ∧ ∀ k : Nat, atL m k = (-(atL l k).1, (atL l k).2) := by
  have hc : combOk (scaleH (-1, 1)) l [] (max l.length ([] : List (Int × Int)).length) := fun i _ => by unfold scaleH; rw [mulH_less (hl.at i)]
  have ha := combL_ok (scaleH_ok okR_less) hl allOk_none hc
  refine ⟨_, putT_mk (show scaleH (-1, 1) (kn, kd) (0, 1) = ((-kn, kd), 0) from mulH_less hx) hc, ha.trim, ?_, fun k => ?_⟩
  · have := trimL_len (combL (scaleH (-1, 1)) l [])
    rw [combL_len] at this
    simp at this
    omega
  · rw [atL_trim ha, combL_at]
    unfold scaleH
    rw [mulH_less (hl.at k)]
    split
    · rfl
    · rename_i g
      rw [atL_out (l := l) (.inr (by simp at g; omega))]
      rfl
/-- A term less itself. -/
theorem put_gone {l m : List (Int × Int)} {kn kd : Int} (hl : AllOk l) (hm : AllOk m) (hx : OkR (kn, kd)) (h : ∀ k : Nat, atL m k = (-(atL l k).1, (atL l k).2)) : putT addH l m (kn, kd) (-kn, kd) = ([], (0, 1), 0) := by
  have hc : combOk addH l m (max l.length m.length) := fun i _ => by rw [h i, addH_neg (hl.at i)]
  rw [putT_mk (show addH (kn, kd) (-kn, kd) = ((0, 1), 0) from addH_neg hx) hc]
  rw [trim_ext (combL_ok addH_ok hl hm hc) allOk_none fun k => ?_]
  · rfl
  · rw [combL_at, h k, addH_neg (hl.at k), atL_none]
    split <;> rfl

set_option maxRecDepth 4000 in
set_option maxHeartbeats 4000000 in
theorem noughts_t_right (w : World) (ht : Pow10 w) (s : Value) (l : List (Int × Int)) (kn kd : Int) (h : RatsAt w s l) (hw : Wide l) (h1 : -9223372036854775808 ≤ kn) (h2 : kn ≤ 9223372036854775807) (h3 : -9223372036854775808 ≤ kd) (h4 : kd ≤ 9223372036854775807) (hr : rightT l kn kd = true) :
    Calls Tryd.prog 6 #[.agg #[s, .int .i64 kn, .int .i64 kd]] w fun r w' => r = .returned (.bool true) ∧ Below w.heap.size w w' := by
  obtain ⟨h8, hl, hx⟩ := right_parts hr hw h1 h2 h3 h4
  obtain ⟨m, pm, hm, hm8, hmk⟩ := put_less hl hx h8
  have rr := fun (w' : World) (h : RatsAt w' s l) => r2right_any w' s l kn kd h hw h1 h2 h3 h4
  rw [hr] at rr
  have sa := fun (w' : World) (h : RatsAt w' s l) => small_any w' s l kn kd h
  rw [decide_eq_true (show l.length ≤ 12 by omega)] at sa
  have a1 := fun (w' : World) (h : RatsAt w' s l) => tadd_right w' s (.slice none 0 0) l [] (kn, kd) (0, 1) h (RatsAt.nil w') hl allOk_none hx okR_nought h8 (by simp)
  rw [put_nothing hl hx] at a1
  have a2 := fun (w' : World) (h : RatsAt w' s l) => tscale_right w' s l (kn, kd) (-1, 1) h hl hx okR_less h8
  rw [pm] at a2
  have a3 := fun (w' : World) (v : Value) (h : RatsAt w' s l) (h' : RatsAt w' v m) => tadd_right w' s v l m (kn, kd) (-kn, kd) h h' hl hm hx hx.neg h8 hm8
  rw [put_gone hl hm hx hmk] at a3
  have a4 := fun (w' : World) (h : RatsAt w' s l) => tscale_right w' s l (kn, kd) (1, 1) h hl hx okR_one h8
  rw [put_once hl hx] at a4
  have sm := fun (w' : World) (v : Value) (hv : RatsAt w' v (trimL l)) (h : RatsAt w' s l) => same_right w' v s (trimL l) l kn kd hv (wide_trim hw) h hw h1 h2 h3 h4 (right_trim hr) hr
  rw [trimL_twice, decide_eq_true (rfl : trimL l = trimL l)] at sm
  have AW := Lib.hid (fun (w' : World) (hb : Below w.heap.size w w') => awake2_yes w' (pow10_on ht hb))
  have RR := Lib.hid rr; have SA := Lib.hid sa; have C1 := Lib.hid a1; have C2 := Lib.hid a2; have C3 := Lib.hid a3; have C4 := Lib.hid a4; have SM := Lib.hid sm
  have H := (LiveT.start w).box h kn kd 26
  obtain ⟨A, c, rfl⟩ := rats_shape h
  clear rr sa a1 a2 a3 a4 sm ht h hw h1 h2 h3 h4 hr h8 hl hx pm hm hm8 hmk
  dsimp only at C1 C2 C3 C4
  generalize l.length = k at *
  generalize trimL l = tl at *
  go_enter Tryd.func6, Tryd.ntmps6
  go_upto_region 3 with (first
    | (go_at_call 9; (with_reducible refine (AW.out _ H.below).mono ?_); rintro e w1 ⟨rfl, hb⟩; have H := H.call hb; have f00 := (H.f 0 rfl).k0; have f01 := (H.f 0 rfl).k1; have f02 := (H.f 0 rfl).k2; clear hb)
    | (go_at_call 10; (with_reducible refine (SA.out _ (H.r 0 rfl)).mono ?_); rintro e w2 ⟨rfl, hb⟩; have H := H.call hb; have f00 := (H.f 0 rfl).k0; have f01 := (H.f 0 rfl).k1; have f02 := (H.f 0 rfl).k2; clear hb)
    | (go_at_call 16; (with_reducible refine (RR.out _ (H.r 0 rfl)).mono ?_); rintro e w3 ⟨rfl, hb⟩; have H := H.call hb; have f00 := (H.f 0 rfl).k0; have f01 := (H.f 0 rfl).k1; have f02 := (H.f 0 rfl).k2; clear hb))
  go_upto_region 4 with (go_at_call 11; (with_reducible refine (C1.out _ (H.r 0 rfl)).mono ?_); rintro e w4 hp; obtain ⟨A4, c4, rfl, hv, hb⟩ := termput_pair hp; clear hp)
  have H := (H.call hb).box hv kn kd 26
  have f10 := (H.f 1 rfl).k0
  have f11 := (H.f 1 rfl).k1
  have f12 := (H.f 1 rfl).k2
  clear hb hv
  go_upto_region 5 with (go_at_call 13; (with_reducible refine (C2.out _ (H.r 1 rfl)).mono ?_); rintro e w5 hp; obtain ⟨A5, c5, rfl, hv, hb⟩ := termput_pair hp; clear hp)
  have H := (H.call hb).box hv (-kn) kd 26
  have f00 := (H.f 0 rfl).k0
  have f01 := (H.f 0 rfl).k1
  have f02 := (H.f 0 rfl).k2
  have f20 := (H.f 2 rfl).k0
  have f21 := (H.f 2 rfl).k1
  have f22 := (H.f 2 rfl).k2
  clear hb hv
  go_upto_region 6 with (go_at_call 11; (with_reducible refine (C3.out _ _ (H.r 2 rfl) (H.r 0 rfl)).mono ?_); rintro e w6 hp; obtain ⟨A6, c6, rfl, hv, hb⟩ := termput_none hp; clear hp)
  have H := (H.call hb).box hv 0 1 26
  have f30 := (H.f 3 rfl).k0
  have f31 := (H.f 3 rfl).k1
  have f32 := (H.f 3 rfl).k2
  clear hb hv
  go_upto_region 7 with (go_at_call 13; (with_reducible refine (C4.out _ (H.r 3 rfl)).mono ?_); rintro e w7 hp; obtain ⟨A7, c7, rfl, hv, hb⟩ := termput_pair hp; clear hp)
  have H := (H.call hb).box hv kn kd 26
  have f00 := (H.f 0 rfl).k0
  have f01 := (H.f 0 rfl).k1
  have f02 := (H.f 0 rfl).k2
  have f10 := (H.f 1 rfl).k0
  have f11 := (H.f 1 rfl).k1
  have f12 := (H.f 1 rfl).k2
  have f30 := (H.f 3 rfl).k0
  have f31 := (H.f 3 rfl).k1
  have f32 := (H.f 3 rfl).k2
  have f40 := (H.f 4 rfl).k0
  have f41 := (H.f 4 rfl).k1
  have f42 := (H.f 4 rfl).k2
  clear hb hv
  go_wp2_with (go_at_call 26; (first | with_reducible refine (SM.out _ _ (H.r 3 rfl) (H.r 4 rfl)).mono ?_ | with_reducible refine (SM.out _ _ (H.r 0 rfl) (H.r 4 rfl)).mono ?_); rintro e w8 ⟨rfl, hb⟩; have H := H.call hb; have f00 := (H.f 0 rfl).k0; have f01 := (H.f 0 rfl).k1; have f02 := (H.f 0 rfl).k2; have f10 := (H.f 1 rfl).k0; have f11 := (H.f 1 rfl).k1; have f12 := (H.f 1 rfl).k2; have f30 := (H.f 3 rfl).k0; have f31 := (H.f 3 rfl).k1; have f32 := (H.f 3 rfl).k2; have f40 := (H.f 4 rfl).k0; have f41 := (H.f 4 rfl).k1; have f42 := (H.f 4 rfl).k2; clear hb)
  go_ret
  exact ⟨rfl, H.below⟩

set_option maxRecDepth 4000 in
set_option maxHeartbeats 4000000 in
theorem noughts_t_wrong (w : World) (ht : Pow10 w) (s : Value) (l : List (Int × Int)) (kn kd : Int) (h : RatsAt w s l) (hw : Wide l) (h1 : -9223372036854775808 ≤ kn) (h2 : kn ≤ 9223372036854775807) (h3 : -9223372036854775808 ≤ kd) (h4 : kd ≤ 9223372036854775807) (hr : rightT l kn kd = false) :
    Calls Tryd.prog 6 #[.agg #[s, .int .i64 kn, .int .i64 kd]] w fun r w' => r = .returned (.bool true) ∧ Below w.heap.size w w' := by
  have rr := fun (w' : World) (h : RatsAt w' s l) => r2right_any w' s l kn kd h hw h1 h2 h3 h4
  rw [hr] at rr
  have sa := fun (w' : World) (h : RatsAt w' s l) => small_any w' s l kn kd h
  have AW := Lib.hid (fun (w' : World) (hb : Below w.heap.size w w') => awake2_yes w' (pow10_on ht hb))
  have H := (LiveT.start w).box h kn kd 26
  have RR := Lib.hid rr
  obtain ⟨A, c, rfl⟩ := rats_shape h
  by_cases hl : l.length ≤ 12
  · rw [decide_eq_true hl] at sa
    have SA := Lib.hid sa
    clear rr sa ht h hw h1 h2 h3 h4 hr hl
    generalize l.length = k at *
    go_enter Tryd.func6, Tryd.ntmps6
    go_upto_region 2 with (first
      | (go_at_call 9; (with_reducible refine (AW.out _ H.below).mono ?_); rintro e w1 ⟨rfl, hb⟩; have H := H.call hb; have f00 := (H.f 0 rfl).k0; have f01 := (H.f 0 rfl).k1; have f02 := (H.f 0 rfl).k2; clear hb)
      | (go_at_call 10; (with_reducible refine (SA.out _ (H.r 0 rfl)).mono ?_); rintro e w2 ⟨rfl, hb⟩; have H := H.call hb; have f00 := (H.f 0 rfl).k0; have f01 := (H.f 0 rfl).k1; have f02 := (H.f 0 rfl).k2; clear hb)
      | (go_at_call 16; (with_reducible refine (RR.out _ (H.r 0 rfl)).mono ?_); rintro e w3 ⟨rfl, hb⟩; have H := H.call hb; clear hb))
    go_wp2_with (go_at_call 9; (with_reducible refine (AW.out _ H.below).mono ?_); rintro e w4 ⟨rfl, hb⟩; have H := H.call hb; clear hb)
    go_ret
    exact ⟨rfl, H.below⟩
  · rw [decide_eq_false hl] at sa
    have SA := Lib.hid sa
    clear rr sa ht h hw h1 h2 h3 h4 hr hl
    generalize l.length = k at *
    go_enter Tryd.func6, Tryd.ntmps6
    go_upto_region 2 with (first
      | (go_at_call 9; (with_reducible refine (AW.out _ H.below).mono ?_); rintro e w1 ⟨rfl, hb⟩; have H := H.call hb; have f00 := (H.f 0 rfl).k0; have f01 := (H.f 0 rfl).k1; have f02 := (H.f 0 rfl).k2; clear hb)
      | (go_at_call 10; (with_reducible refine (SA.out _ (H.r 0 rfl)).mono ?_); rintro e w2 ⟨rfl, hb⟩; have H := H.call hb; clear hb))
    go_wp2_with (go_at_call 9; (with_reducible refine (AW.out _ H.below).mono ?_); rintro e w4 ⟨rfl, hb⟩; have H := H.call hb; clear hb)
    go_ret
    exact ⟨rfl, H.below⟩

theorem noughts_t_any (w : World) (ht : Pow10 w) (s : Value) (l : List (Int × Int)) (kn kd : Int) (h : RatsAt w s l) (hw : Wide l) (h1 : -9223372036854775808 ≤ kn) (h2 : kn ≤ 9223372036854775807) (h3 : -9223372036854775808 ≤ kd) (h4 : kd ≤ 9223372036854775807) :
    Calls Tryd.prog 6 #[.agg #[s, .int .i64 kn, .int .i64 kd]] w fun r w' => r = .returned (.bool true) ∧ Below w.heap.size w w' := by
  cases hr : rightT l kn kd
  · exact noughts_t_wrong w ht s l kn kd h hw h1 h2 h3 h4 hr
  · exact noughts_t_right w ht s l kn kd h hw h1 h2 h3 h4 hr
end Go.Proofs.YtkgndeiddjkhmaaDoor
