/-
  The walk of the law TermTurns. (Template: by-name.py fills it; gen/genTurns.py writes it.)
-/
import Derived.Test.YtkgndeiddjkhmaaDoorTermW
import Derived.Test.YtkgndeiddjkhmaaDoorTermN
namespace Go.Proofs.YtkgndeiddjkhmaaDoor
open Go.RowKit

set_option maxRecDepth 4000 in
set_option maxHeartbeats 8000000 in
theorem turns_small (w : World) (ht : Pow10 w) (sa : Value) (l : List (Int × Int)) (xn xd : Int) (ha : RatsAt w sa l) (hl : Wide l) (x1 : -9223372036854775808 ≤ xn) (x2 : xn ≤ 9223372036854775807) (x3 : -9223372036854775808 ≤ xd) (x4 : xd ≤ 9223372036854775807)
    (sb : Value) (m : List (Int × Int)) (yn yd : Int) (hb : RatsAt w sb m) (hm : Wide m) (y1 : -9223372036854775808 ≤ yn) (y2 : yn ≤ 9223372036854775807) (y3 : -9223372036854775808 ≤ yd) (y4 : yd ≤ 9223372036854775807)
    (bn bd : Int) (b1 : -9223372036854775808 ≤ bn) (b2 : bn ≤ 9223372036854775807) (b3 : -9223372036854775808 ≤ bd) (b4 : bd ≤ 9223372036854775807) (hl12 : l.length ≤ 12) (hm12 : m.length ≤ 12) :
    Calls Tryd.prog 7 #[.agg #[sa, .int .i64 xn, .int .i64 xd], .agg #[sb, .int .i64 yn, .int .i64 yd], ratV bn bd] w fun r w' => r = .returned (.bool true) ∧ Below w.heap.size w w' := by
  have hx : Bd (xn, xd) := ⟨⟨x1, x2⟩, x3, x4⟩
  have hy : Bd (yn, yd) := ⟨⟨y1, y2⟩, y3, y4⟩
  have hk : Bd (bn, bd) := ⟨⟨b1, b2⟩, b3, b4⟩
  have tu := turned hl hm hx hy hk
  obtain ⟨sw, sbd⟩ := sumT_wide hl hm hx hy
  obtain ⟨xw, xbd⟩ := timesT_wide sw sbd hk
  obtain ⟨yw, ybd⟩ := timesT_wide hl hx hk
  obtain ⟨zw, zbd⟩ := timesT_wide hm hy hk
  obtain ⟨vw, vbd⟩ := sumT_wide yw zw ybd zbd
  have c1 := fun (w' : World) (h : RatsAt w' sa l) (h' : RatsAt w' sb m) => tadd_any w' sa sb l m (xn, xd) (yn, yd) h h' hl hm hx hy
  have c2 := fun (w' : World) (h : RatsAt w' sb m) (h' : RatsAt w' sa l) => tadd_any w' sb sa m l (yn, yd) (xn, xd) h h' hm hl hy hx
  rw [← sumT_comm l m (xn, xd) (yn, yd)] at c2
  have c3 := fun (w' : World) (v : Value) (h : RatsAt w' v (sumT l m (xn, xd) (yn, yd)).1) => tscale_any w' v _ (sumT l m (xn, xd) (yn, yd)).2.1 (bn, bd) h sw sbd hk
  have c4 := fun (w' : World) (h : RatsAt w' sa l) => tscale_any w' sa l (xn, xd) (bn, bd) h hl hx hk
  have c5 := fun (w' : World) (h : RatsAt w' sb m) => tscale_any w' sb m (yn, yd) (bn, bd) h hm hy hk
  have c6 := fun (w' : World) (v v' : Value) (h : RatsAt w' v (timesT l (xn, xd) (bn, bd)).1) (h' : RatsAt w' v' (timesT m (yn, yd) (bn, bd)).1) => tadd_any w' v v' _ _ (timesT l (xn, xd) (bn, bd)).2.1 (timesT m (yn, yd) (bn, bd)).2.1 h h' yw zw ybd zbd
  have eq := fun (w' : World) (v v' : Value) (hv : RatsAt w' v (sumT l m (xn, xd) (yn, yd)).1) (hv' : RatsAt w' v' (sumT l m (xn, xd) (yn, yd)).1) => r2equal_same w' v v' (sumT l m (xn, xd) (yn, yd)).1 (sumT l m (xn, xd) (yn, yd)).2.1.1 (sumT l m (xn, xd) (yn, yd)).2.1.2 hv hv'
  have z1 := fun (w' : World) (h : RatsAt w' sa l) => small_any w' sa l xn xd h
  rw [decide_eq_true hl12] at z1
  have z2 := fun (w' : World) (h : RatsAt w' sb m) => small_any w' sb m yn yd h
  rw [decide_eq_true hm12] at z2
  dsimp only at tu
  generalize sumT l m (xn, xd) (yn, yd) = S at *
  generalize timesT S.1 S.2.1 (bn, bd) = X at *
  generalize timesT l (xn, xd) (bn, bd) = Y at *
  generalize timesT m (yn, yd) (bn, bd) = Z at *
  generalize sumT Y.1 Z.1 Y.2.1 Z.2.1 = V at *
  obtain ⟨L1, ⟨n1, d1⟩, e1⟩ := S
  obtain ⟨L2, ⟨n2, d2⟩, e2⟩ := X
  obtain ⟨L3, ⟨n3, d3⟩, e3⟩ := Y
  obtain ⟨L4, ⟨n4, d4⟩, e4⟩ := Z
  obtain ⟨L5, ⟨n5, d5⟩, e5⟩ := V
  dsimp only at *
  have sm : e1 = 0 → e2 = 0 → e3 = 0 → e4 = 0 → e5 = 0 → ∀ (w' : World) (v v' : Value), RatsAt w' v L2 → RatsAt w' v' L5 → Calls Tryd.prog 26 #[.agg #[v, .int .i64 n2, .int .i64 d2], .agg #[v', .int .i64 n5, .int .i64 d5]] w' fun r w2 => r = .returned (.bool true) ∧ Below w'.heap.size w' w2 := by
    intro h1 h2 h3 h4 h5 w' v v' hv hv'
    obtain ⟨p, q, r1, r2⟩ := tu h1 h2 h3 h4 h5
    cases q
    subst p
    have := same_right w' v v' L2 L2 n2 d2 hv xw hv' xw xbd.1.1 xbd.1.2 xbd.2.1 xbd.2.2 r1 r2
    rwa [decide_eq_true rfl] at this
  have C1 := Lib.hid c1; have C2 := Lib.hid c2; have C3 := Lib.hid c3; have C4 := Lib.hid c4; have C5 := Lib.hid c5; have C6 := Lib.hid c6; have EQ := Lib.hid eq; have Z1 := Lib.hid z1; have Z2 := Lib.hid z2; have SM := Lib.hid sm
  have AW := Lib.hid (fun (w' : World) (hb : Below w.heap.size w w') => awake2_yes w' (pow10_on ht hb))
  have H := ((LiveT.start w).box ha xn xd 26).box (hb.below (below_alloc1 w _)) yn yd 26
  have Q := RatAt.start ((w.alloc (.cells #[sa, .int .i64 xn, .int .i64 xd] 26)).alloc (.cells #[sb, .int .i64 yn, .int .i64 yd] 26)) bn bd 24
  rw [World.size_alloc, World.size_alloc] at Q
  have H := H.call (below_alloc1 _ (.cells #[.int .i64 bn, .int .i64 bd] 24))
  rw [World.size_alloc] at H
  obtain ⟨A, c, rfl⟩ := rats_shape ha
  obtain ⟨B, d, rfl⟩ := rats_shape hb
  clear ht ha hl hb hm x1 x2 x3 x4 y1 y2 y3 y4 b1 b2 b3 b4 hx hy hk tu sw sbd xw xbd yw ybd zw zbd vw vbd c1 c2 c3 c4 c5 c6 eq z1 z2 sm hl12 hm12
  generalize l.length = ll at *
  generalize m.length = lm at *
  go_enter Tryd.func7, Tryd.ntmps7
  go_upto_region 3 with (first
    | (go_at_call 9; (with_reducible refine (AW.out _ H.below).mono ?_); rintro e w1 ⟨rfl, hq⟩; have H := H.call hq; have Q := Q.keep hq; have f10 := (H.f 1 rfl).k0; have f11 := (H.f 1 rfl).k1; have f12 := (H.f 1 rfl).k2; clear hq)
    | (go_at_call 10; (first | (with_reducible refine (Z1.out _ (H.r 1 rfl)).mono ?_); rintro e w2 ⟨rfl, hq⟩; have H := H.call hq; have Q := Q.keep hq; have f00 := (H.f 0 rfl).k0; have f01 := (H.f 0 rfl).k1; have f02 := (H.f 0 rfl).k2; clear hq | (with_reducible refine (Z2.out _ (H.r 0 rfl)).mono ?_); rintro e w3 ⟨rfl, hq⟩; have H := H.call hq; have Q := Q.keep hq; have f00 := (H.f 0 rfl).k0; have f01 := (H.f 0 rfl).k1; have f02 := (H.f 0 rfl).k2; have f10 := (H.f 1 rfl).k0; have f11 := (H.f 1 rfl).k1; have f12 := (H.f 1 rfl).k2; clear hq)))
  go_upto_region 4 with (go_at_call 11; (with_reducible refine (C1.out _ (H.r 1 rfl) (H.r 0 rfl)).mono ?_); rintro e w4 hp; obtain ⟨A4, c4, rfl, hv, hq⟩ := termput_pair hp; clear hp)
  have Q := (Q.keep hq).keep (below_alloc1 w4 (.cells #[.slice A4 L1.length c4, .int .i64 n1, .int .i64 d1] 26))
  have H := (H.call hq).box hv n1 d1 26
  have f10 := (H.f 1 rfl).k0
  have f11 := (H.f 1 rfl).k1
  have f12 := (H.f 1 rfl).k2
  have f20 := (H.f 2 rfl).k0
  have f21 := (H.f 2 rfl).k1
  have f22 := (H.f 2 rfl).k2
  have q0 := Q.k0
  have q1 := Q.k1
  clear hq hv
  go_upto_region 5 with (go_at_call 11; (with_reducible refine (C2.out _ (H.r 1 rfl) (H.r 2 rfl)).mono ?_); rintro e w5 hp; obtain ⟨A5, c5, rfl, hv, hq⟩ := termput_pair hp; clear hp)
  have Q := (Q.keep hq).keep (below_alloc1 w5 (.cells #[.slice A5 L1.length c5, .int .i64 n1, .int .i64 d1] 26))
  have H := (H.call hq).box hv n1 d1 26
  have f00 := (H.f 0 rfl).k0
  have f01 := (H.f 0 rfl).k1
  have f02 := (H.f 0 rfl).k2
  have f10 := (H.f 1 rfl).k0
  have f11 := (H.f 1 rfl).k1
  have f12 := (H.f 1 rfl).k2
  have q0 := Q.k0
  have q1 := Q.k1
  clear hq hv
  have eqe : (e1 != e1) = false := by simp
  go_upto_region 7 with (go_at_call 14; (with_reducible refine (EQ.out _ _ _ (H.r 1 rfl) (H.r 0 rfl)).mono ?_); rintro e w6 ⟨rfl, hq⟩; have H := H.call hq; have Q := Q.keep hq; have f10 := (H.f 1 rfl).k0; have f11 := (H.f 1 rfl).k1; have f12 := (H.f 1 rfl).k2; have q0 := Q.k0; have q1 := Q.k1; clear hq)
  clear eqe
  go_upto_region 8 with (go_at_call 13; (with_reducible refine (C3.out _ _ (H.r 1 rfl)).mono ?_); rintro e w7 hp; obtain ⟨A7, c7, rfl, hv, hq⟩ := termput_pair hp; clear hp)
  have Q := (Q.keep hq).keep (below_alloc1 w7 (.cells #[.slice A7 L2.length c7, .int .i64 n2, .int .i64 d2] 26))
  have H := (H.call hq).box hv n2 d2 26
  have f40 := (H.f 4 rfl).k0
  have f41 := (H.f 4 rfl).k1
  have f42 := (H.f 4 rfl).k2
  have q0 := Q.k0
  have q1 := Q.k1
  clear hq hv
  go_upto_region 9 with (go_at_call 13; (with_reducible refine (C4.out _ (H.r 4 rfl)).mono ?_); rintro e w8 hp; obtain ⟨A8, c8, rfl, hv, hq⟩ := termput_pair hp; clear hp)
  have Q := (Q.keep hq).keep (below_alloc1 w8 (.cells #[.slice A8 L3.length c8, .int .i64 n3, .int .i64 d3] 26))
  have H := (H.call hq).box hv n3 d3 26
  have f40 := (H.f 4 rfl).k0
  have f41 := (H.f 4 rfl).k1
  have f42 := (H.f 4 rfl).k2
  have q0 := Q.k0
  have q1 := Q.k1
  clear hq hv
  go_upto_region 10 with (go_at_call 13; (with_reducible refine (C5.out _ (H.r 4 rfl)).mono ?_); rintro e w9 hp; obtain ⟨A9, c9, rfl, hv, hq⟩ := termput_pair hp; clear hp)
  have Q := (Q.keep hq).keep (below_alloc1 w9 (.cells #[.slice A9 L4.length c9, .int .i64 n4, .int .i64 d4] 26))
  have H := (H.call hq).box hv n4 d4 26
  have f00 := (H.f 0 rfl).k0
  have f01 := (H.f 0 rfl).k1
  have f02 := (H.f 0 rfl).k2
  have f10 := (H.f 1 rfl).k0
  have f11 := (H.f 1 rfl).k1
  have f12 := (H.f 1 rfl).k2
  have q0 := Q.k0
  have q1 := Q.k1
  clear hq hv
  go_upto_region 11 with (go_at_call 11; (with_reducible refine (C6.out _ _ _ (H.r 1 rfl) (H.r 0 rfl)).mono ?_); rintro e w10 hp; obtain ⟨A10, c10, rfl, hv, hq⟩ := termput_pair hp; clear hp)
  have Q := (Q.keep hq).keep (below_alloc1 w10 (.cells #[.slice A10 L5.length c10, .int .i64 n5, .int .i64 d5] 26))
  have H := (H.call hq).box hv n5 d5 26
  have f00 := (H.f 0 rfl).k0
  have f01 := (H.f 0 rfl).k1
  have f02 := (H.f 0 rfl).k2
  have f30 := (H.f 3 rfl).k0
  have f31 := (H.f 3 rfl).k1
  have f32 := (H.f 3 rfl).k2
  have q0 := Q.k0
  have q1 := Q.k1
  clear hq hv
  by_cases g1 : e1 = 0
  rotate_left
  · have o1 : (e1 != 0) = true := by simpa using g1
    clear g1
    go_wp2_with fail
    go_ret
    exact ⟨rfl, H.below⟩
  subst g1
  by_cases g2 : e2 = 0
  rotate_left
  · have o2 : (e2 != 0) = true := by simpa using g2
    clear g2
    go_wp2_with fail
    go_ret
    exact ⟨rfl, H.below⟩
  subst g2
  by_cases g3 : e3 = 0
  rotate_left
  · have o3 : (e3 != 0) = true := by simpa using g3
    clear g3
    go_wp2_with fail
    go_ret
    exact ⟨rfl, H.below⟩
  subst g3
  by_cases g4 : e4 = 0
  rotate_left
  · have o4 : (e4 != 0) = true := by simpa using g4
    clear g4
    go_wp2_with fail
    go_ret
    exact ⟨rfl, H.below⟩
  subst g4
  by_cases g5 : e5 = 0
  rotate_left
  · have o5 : (e5 != 0) = true := by simpa using g5
    clear g5
    go_wp2_with fail
    go_ret
    exact ⟨rfl, H.below⟩
  subst g5
  go_wp2_with (go_at_call 26; (with_reducible refine (SM.out rfl rfl rfl rfl rfl _ _ _ (H.r 3 rfl) (H.r 0 rfl)).mono ?_); rintro e w11 ⟨rfl, hq⟩; have H := H.call hq; clear hq)
  go_ret
  exact ⟨rfl, H.below⟩

set_option maxRecDepth 4000 in
set_option maxHeartbeats 4000000 in
theorem turns_big (w : World) (ht : Pow10 w) (sa : Value) (l : List (Int × Int)) (xn xd : Int) (ha : RatsAt w sa l) (sb : Value) (m : List (Int × Int)) (yn yd : Int) (hb : RatsAt w sb m) (bn bd : Int) (hbig : ¬ l.length ≤ 12 ∨ (l.length ≤ 12 ∧ ¬ m.length ≤ 12)) :
    Calls Tryd.prog 7 #[.agg #[sa, .int .i64 xn, .int .i64 xd], .agg #[sb, .int .i64 yn, .int .i64 yd], ratV bn bd] w fun r w' => r = .returned (.bool true) ∧ Below w.heap.size w w' := by
  have z1 := fun (w' : World) (h : RatsAt w' sa l) => small_any w' sa l xn xd h
  have z2 := fun (w' : World) (h : RatsAt w' sb m) => small_any w' sb m yn yd h
  have AW := Lib.hid (fun (w' : World) (hb : Below w.heap.size w w') => awake2_yes w' (pow10_on ht hb))
  have H := ((LiveT.start w).box ha xn xd 26).box (hb.below (below_alloc1 w _)) yn yd 26
  have Q := RatAt.start ((w.alloc (.cells #[sa, .int .i64 xn, .int .i64 xd] 26)).alloc (.cells #[sb, .int .i64 yn, .int .i64 yd] 26)) bn bd 24
  rw [World.size_alloc, World.size_alloc] at Q
  have H := H.call (below_alloc1 _ (.cells #[.int .i64 bn, .int .i64 bd] 24))
  rw [World.size_alloc] at H
  obtain ⟨A, c, rfl⟩ := rats_shape ha
  obtain ⟨B, d, rfl⟩ := rats_shape hb
  rcases hbig with hl12 | ⟨hl12, hm12⟩
  · rw [decide_eq_false hl12] at z1
    have Z1 := Lib.hid z1
    clear ht ha hb z1 z2 hl12
    generalize l.length = ll at *
    generalize m.length = lm at *
    go_enter Tryd.func7, Tryd.ntmps7
    go_upto_region 2 with (first
      | (go_at_call 9; (with_reducible refine (AW.out _ H.below).mono ?_); rintro e w1 ⟨rfl, hq⟩; have H := H.call hq; have Q := Q.keep hq; have f10 := (H.f 1 rfl).k0; have f11 := (H.f 1 rfl).k1; have f12 := (H.f 1 rfl).k2; clear hq)
      | (go_at_call 10; (with_reducible refine (Z1.out _ (H.r 1 rfl)).mono ?_); rintro e w2 ⟨rfl, hq⟩; have H := H.call hq; have Q := Q.keep hq; clear hq))
    go_wp2_with (go_at_call 9; (with_reducible refine (AW.out _ H.below).mono ?_); rintro e w4 ⟨rfl, hq⟩; have H := H.call hq; have Q := Q.keep hq; clear hq)
    go_ret
    exact ⟨rfl, H.below⟩
  · rw [decide_eq_true hl12] at z1
    rw [decide_eq_false hm12] at z2
    have Z1 := Lib.hid z1; have Z2 := Lib.hid z2
    clear ht ha hb z1 z2 hl12 hm12
    generalize l.length = ll at *
    generalize m.length = lm at *
    go_enter Tryd.func7, Tryd.ntmps7
    go_upto_region 2 with (first
      | (go_at_call 9; (with_reducible refine (AW.out _ H.below).mono ?_); rintro e w1 ⟨rfl, hq⟩; have H := H.call hq; have Q := Q.keep hq; have f10 := (H.f 1 rfl).k0; have f11 := (H.f 1 rfl).k1; have f12 := (H.f 1 rfl).k2; clear hq)
      | (go_at_call 10; (first | (with_reducible refine (Z1.out _ (H.r 1 rfl)).mono ?_); rintro e w2 ⟨rfl, hq⟩; have H := H.call hq; have Q := Q.keep hq; have f00 := (H.f 0 rfl).k0; have f01 := (H.f 0 rfl).k1; have f02 := (H.f 0 rfl).k2; clear hq | (with_reducible refine (Z2.out _ (H.r 0 rfl)).mono ?_); rintro e w3 ⟨rfl, hq⟩; have H := H.call hq; have Q := Q.keep hq; clear hq)))
    go_wp2_with (go_at_call 9; (with_reducible refine (AW.out _ H.below).mono ?_); rintro e w4 ⟨rfl, hq⟩; have H := H.call hq; have Q := Q.keep hq; clear hq)
    go_ret
    exact ⟨rfl, H.below⟩

theorem turns_any (w : World) (ht : Pow10 w) (sa : Value) (l : List (Int × Int)) (xn xd : Int) (ha : RatsAt w sa l) (hl : Wide l) (x1 : -9223372036854775808 ≤ xn) (x2 : xn ≤ 9223372036854775807) (x3 : -9223372036854775808 ≤ xd) (x4 : xd ≤ 9223372036854775807)
    (sb : Value) (m : List (Int × Int)) (yn yd : Int) (hb : RatsAt w sb m) (hm : Wide m) (y1 : -9223372036854775808 ≤ yn) (y2 : yn ≤ 9223372036854775807) (y3 : -9223372036854775808 ≤ yd) (y4 : yd ≤ 9223372036854775807)
    (bn bd : Int) (b1 : -9223372036854775808 ≤ bn) (b2 : bn ≤ 9223372036854775807) (b3 : -9223372036854775808 ≤ bd) (b4 : bd ≤ 9223372036854775807) :
    Calls Tryd.prog 7 #[.agg #[sa, .int .i64 xn, .int .i64 xd], .agg #[sb, .int .i64 yn, .int .i64 yd], ratV bn bd] w fun r w' => r = .returned (.bool true) ∧ Below w.heap.size w w' := by
  by_cases hl12 : l.length ≤ 12
  · by_cases hm12 : m.length ≤ 12
    · exact turns_small w ht sa l xn xd ha hl x1 x2 x3 x4 sb m yn yd hb hm y1 y2 y3 y4 bn bd b1 b2 b3 b4 hl12 hm12
    · exact turns_big w ht sa l xn xd ha sb m yn yd hb bn bd (.inr ⟨hl12, hm12⟩)
  · exact turns_big w ht sa l xn xd ha sb m yn yd hb bn bd (.inl hl12)
end Go.Proofs.YtkgndeiddjkhmaaDoor
