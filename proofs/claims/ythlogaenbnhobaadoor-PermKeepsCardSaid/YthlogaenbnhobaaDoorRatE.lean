/-
  The walk of package rat's sum. Conditions: the numbers lie in their kinds; the denominators are above 0. (Template: by-name.py fills it.)
-/
import Derived.Test.YthlogaenbnhobaaDoorRatD
namespace Go.Proofs.YthlogaenbnhobaaDoor
open Go.RowKit

/-- The two fractions lie in their boxes, the place of the result is free, all that is older is as it was. -/
structure Boxes (w w1 : World) (n d m e : Int) : Prop where
  c0 : w1.cell? ⟨w.heap.size, 0, none⟩ = some (.int .i64 n)
  c1 : w1.cell? ⟨w.heap.size, 1, none⟩ = some (.int .i64 d)
  c2 : w1.cell? ⟨w.heap.size + 1, 0, none⟩ = some (.int .i64 m)
  c3 : w1.cell? ⟨w.heap.size + 1, 1, none⟩ = some (.int .i64 e)
  i0 : w1.cell? ⟨w.heap.size + 1 + 1, 0, none⟩ = some (.int .i64 0)
  i1 : w1.cell? ⟨w.heap.size + 1 + 1, 1, none⟩ = some (.int .i64 0)
  j0 : w1.frozen? ⟨w.heap.size + 1 + 1, 0, none⟩ = false
  j1 : w1.frozen? ⟨w.heap.size + 1 + 1, 1, none⟩ = false
  size : w.heap.size + 2 < w1.heap.size
  below : Below w.heap.size w w1

theorem Boxes.start (w : World) (n d m e : Int) (k : Nat) (ty : TypeId) : Boxes w ((((w.alloc (.cells #[.int .i64 n, .int .i64 d] ty)).alloc (.cells #[.int .i64 m, .int .i64 e] ty)).alloc (.cells #[.int .i64 0, .int .i64 0] ty)).drewN k) n d m e where
  c0 := by go_simp
  c1 := by go_simp
  c2 := by go_simp
  c3 := by go_simp
  i0 := by go_simp
  i1 := by go_simp
  j0 := by go_simp
  j1 := by go_simp
  size := by simp
  below := below_box3 _ _ _ _ _

theorem Boxes.keep {w w1 w2 : World} {n d m e : Int} (h : Boxes w w1 n d m e) (hb : Below w1.heap.size w1 w2) : Boxes w w2 n d m e :=
  have s := h.size
  have z := hb.size
  { c0 := keep_cell hb (by omega) h.c0, c1 := keep_cell hb (by omega) h.c1, c2 := keep_cell hb (by omega) h.c2, c3 := keep_cell hb (by omega) h.c3
    i0 := keep_cell hb (by omega) h.i0, i1 := keep_cell hb (by omega) h.i1, j0 := keep_free hb (by omega) h.j0, j1 := keep_free hb (by omega) h.j1
    size := by omega, below := h.below.trans (hb.mono (by omega)) }

theorem below_alloc1 (w : World) (a : Obj) : Below w.heap.size w (w.alloc a) := (Below.refl _ _).alloc (Nat.le_refl _) _

/-- A number of 128 bits in its block. -/
structure WideAt (w1 : World) (b : Nat) (s : Bool) (m : Nat) : Prop where
  k0 : w1.cell? ⟨b, 0, none⟩ = some (.bool s)
  k1 : w1.cell? ⟨b, 1, none⟩ = some (.int .u64 (up m : Nat))
  k2 : w1.cell? ⟨b, 2, none⟩ = some (.int .u64 (lw m : Nat))
  lt : b < w1.heap.size

theorem WideAt.start (w : World) (s : Bool) (m : Nat) (ty : TypeId) : WideAt (w.alloc (.cells #[.bool s, .int .u64 (up m : Nat), .int .u64 (lw m : Nat)] ty)) w.heap.size s m where
  k0 := by go_simp
  k1 := by go_simp
  k2 := by go_simp
  lt := by simp

theorem WideAt.keep {w1 w2 : World} {b m : Nat} {s : Bool} (h : WideAt w1 b s m) (hb : Below w1.heap.size w1 w2) : WideAt w2 b s m :=
  have z := hb.size
  have l := h.lt
  { k0 := keep_cell hb l h.k0, k1 := keep_cell hb l h.k1, k2 := keep_cell hb l h.k2, lt := by omega }

set_option maxHeartbeats 4000000 in
theorem sum_any (n m : Int) (d e : Nat) (w : World) (hn1 : -9223372036854775807 ≤ n) (hn2 : n ≤ 9223372036854775807) (hm1 : -9223372036854775807 ≤ m) (hm2 : m ≤ 9223372036854775807)
    (hd0 : 0 < d) (hd : d ≤ 9223372036854775807) (he0 : 0 < e) (he : e ≤ 9223372036854775807) (g h T N D : Nat) (s : Bool) (hg : g = Nat.gcd d e)
    (hs : s = plusS (decide (n < 0)) (n.natAbs * (e / g)) (decide (m < 0)) (m.natAbs * (d / g))) (hT : T = plusM (decide (n < 0)) (n.natAbs * (e / g)) (decide (m < 0)) (m.natAbs * (d / g)))
    (hT2 : T < 340282366920938463463374607431768211456) (hh : h = Nat.gcd g (T % g)) (hN : N = T / h) (hD : D = d / g * (e / h)) :
    Calls Tryd.prog 26 #[ratV n d, ratV m e] w fun r w' => r = .returned (.tuple #[ratV (fitN s N D) (fitD N D), .int .i64 (fitE N D)]) ∧ Below w.heap.size w w' := by
  have hgp : 0 < g := by rw [hg]; exact Nat.gcd_pos_of_pos_right _ he0
  have hhp : 0 < h := by rw [hh]; exact Nat.gcd_pos_of_pos_left _ hgp
  have hgl : g ≤ 9223372036854775807 := by rw [hg]; exact Nat.le_trans (Nat.gcd_le_left _ hd0) hd
  have hhl : h ≤ 9223372036854775807 := by rw [hh]; exact Nat.le_trans (Nat.gcd_le_left _ hgp) hgl
  have s3 := fun w => size_nat d w hd
  have s4 := fun w => size_nat e w he
  have g1 := fun w => divisor_any d e w (by omega) (by omega)
  rw [← hg] at g1
  have ac := fun w => across_any n m d e g w hn1 hn2 hm1 hm2 hd he hgp (by omega)
  rw [← hs, ← hT] at ac
  have re := fun w => rest_any s T g w hT2 hgp (by omega)
  have rl : T % g < 18446744073709551616 := by have := Nat.mod_lt T hgp; omega
  have g2 := fun w => divisor_any g (T % g) w (by omega) rl
  rw [← hh] at g2
  have ov := fun w => over_any s T h w hhp (by omega)
  obtain ⟨q, hq⟩ : ∃ q, q = quoW T h := ⟨_, rfl⟩
  obtain ⟨ok, hok⟩ : ∃ ok, ok = fitsB T h := ⟨_, rfl⟩
  rw [← hq, ← hok] at ov
  unfold quoW at hq
  unfold fitsB at hok
  rw [← hN] at hq hok
  have q3 := first_digit d g (by omega)
  have q4 := first_digit e h (by omega)
  have l3 : d / g ≤ 9223372036854775807 := Nat.le_trans (Nat.div_le_self _ _) hd
  have l4 : e / h ≤ 9223372036854775807 := Nat.le_trans (Nat.div_le_self _ _) he
  have m2 := fun w => mul64 (d / g) (e / h) w (by omega) (by omega)
  rw [← hD] at m2
  obtain ⟨r, hr⟩ : ∃ r, r = T % g := ⟨_, rfl⟩
  obtain ⟨x3, hx3⟩ : ∃ x3, x3 = d / g := ⟨_, rfl⟩
  obtain ⟨x4, hx4⟩ : ∃ x4, x4 = e / h := ⟨_, rfl⟩
  rw [← hr] at re g2
  rw [← hx3] at q3 m2
  rw [← hx4] at q4 m2
  have hg0 : ¬ g = 0 := by omega
  have hh0 : ¬ h = 0 := by omega
  have hgi : (0 : Int) < (g : Int) := by omega
  have hhi : (0 : Int) < (h : Int) := by omega
  clear l3 l4 hx3 hx4 hN hD hg hs hT hT2 rl hr hh hgp hhp hgl hhl hn1 hn2 hm1 hm2 hd he hd0 he0
  by_cases a : N < 18446744073709551616
  · rw [if_pos a] at hq
    rw [decide_eq_true a] at hok
    by_cases b : up D = 0
    · obtain ⟨_, b2⟩ := up_zero b
      have fo := fun w => fit_any s N (lw D) w a (lw_lt D)
      rw [b2] at fo m2
      rw [b] at m2
      subst hq hok
      obtain ⟨F1, hF1⟩ : ∃ F1, F1 = fitN s q D := ⟨_, rfl⟩
      obtain ⟨F2, hF2⟩ : ∃ F2, F2 = fitD q D := ⟨_, rfl⟩
      obtain ⟨F3, hF3⟩ : ∃ F3, F3 = fitE q D := ⟨_, rfl⟩
      rw [← hF1, ← hF2, ← hF3] at fo ⊢
      clear a b b2 hF1 hF2 hF3
      simp only [Int.natCast_zero] at m2
      go_enter Tryd.func26, Tryd.ntmps26
      go_wp2_with fail
      go_quiet ((first
        | (go_at_call 38; first | (with_reducible exact quiet_left (s3 _)) | (with_reducible exact quiet_left (s4 _)))
        | (go_at_call 37; with_reducible exact Calls.quiet_of (g1 _))))
      go_upto_region 3 with (go_at_call 36; (with_reducible refine (ac _).mono ?_); rintro e w1 ⟨rfl, hb⟩)
      have B1 := Lib.hid ((Boxes.start w n d m e _ 25).keep hb)
      clear hb
      go_upto_region 4 with (first
        | (go_at_call 41; (with_reducible refine (re _).mono ?_); rintro e w2 ⟨rfl, hb⟩)
        | (go_at_call 37; (with_reducible refine (g2 _).mono ?_); rintro e w' ⟨rfl, nd, rfl⟩))
      have B2 := Lib.hid ((B1.out.keep (below_alloc1 _ _)).keep hb)
      have V2 := (WideAt.start w1 s T 71).keep hb
      have v0 := V2.k0
      have v1 := V2.k1
      have v2 := V2.k2
      have W2 := Lib.hid V2
      clear hb V2 B1
      go_upto_region 5 with (go_at_call 42; (with_reducible refine (ov _).mono ?_); rintro e w3 ⟨rfl, hb⟩)
      have B3 := Lib.hid (B2.out.keep ((below_drewN (Below.refl _ _) _).trans hb))
      have V3 := W2.out.keep ((below_drewN (Below.refl _ _) _).trans hb)
      clear v0 v1 v2 hb B2 W2
      have v0 := V3.k0
      have b0 := B3.out.c1
      have b1 := B3.out.c3
      clear V3
      go_quiet ((first
        | (go_at_call 38; first | (with_reducible exact quiet_left (s3 _)) | (with_reducible exact quiet_left (s4 _)))
        | (go_at_call 39; with_reducible exact quiet_left (m2 _))))
      go_wp2_with (go_at_call 40; (with_reducible refine (fo _).mono ?_); rintro e w4 ⟨rfl, hb⟩; have B4 := B3.out.keep ((below_drewN (Below.refl _ _) _).trans hb); have i0 := B4.i0; have i1 := B4.i1; have j0 := B4.j0; have j1 := B4.j1; have HB := Lib.hid B4.below; clear B4 B3 v0 b0 b1 hb)
      exact bodyPost_ret (v := .tuple #[ratV F1 F2, .int .i64 F3]) (by simp [results, Tryd.results26, go_sem, i0, i1]) rfl ⟨rfl, below_two HB.out⟩
    · have nb := up_pos b
      have E1 : fitE N D = 3 := by unfold fitE; rw [if_neg (by omega)]
      have E2 : fitD N D = 0 := by unfold fitD; rw [if_neg (by omega)]
      have E3 : fitN s N D = 0 := by unfold fitN; rw [if_neg (by omega)]
      rw [E1, E2, E3]
      subst hq hok
      obtain ⟨U, hU⟩ : ∃ U, U = up D := ⟨_, rfl⟩
      rw [← hU] at m2 b
      have b2 : ((U : Int) == 0) = false := by simp; omega
      have b3 : ((U : Int) != 0) = true := by simp; omega
      clear a b nb E1 E2 E3 hU
      go_enter Tryd.func26, Tryd.ntmps26
      go_wp2_with fail
      go_quiet ((first
        | (go_at_call 38; first | (with_reducible exact quiet_left (s3 _)) | (with_reducible exact quiet_left (s4 _)))
        | (go_at_call 37; with_reducible exact Calls.quiet_of (g1 _))))
      go_upto_region 3 with (go_at_call 36; (with_reducible refine (ac _).mono ?_); rintro e w1 ⟨rfl, hb⟩)
      have B1 := Lib.hid ((Boxes.start w n d m e _ 25).keep hb)
      clear hb
      go_upto_region 4 with (first
        | (go_at_call 41; (with_reducible refine (re _).mono ?_); rintro e w2 ⟨rfl, hb⟩)
        | (go_at_call 37; (with_reducible refine (g2 _).mono ?_); rintro e w' ⟨rfl, nd, rfl⟩))
      have B2 := Lib.hid ((B1.out.keep (below_alloc1 _ _)).keep hb)
      have V2 := (WideAt.start w1 s T 71).keep hb
      have v0 := V2.k0
      have v1 := V2.k1
      have v2 := V2.k2
      have W2 := Lib.hid V2
      clear hb V2 B1
      go_upto_region 5 with (go_at_call 42; (with_reducible refine (ov _).mono ?_); rintro e w3 ⟨rfl, hb⟩)
      have B3 := Lib.hid (B2.out.keep ((below_drewN (Below.refl _ _) _).trans hb))
      have V3 := W2.out.keep ((below_drewN (Below.refl _ _) _).trans hb)
      clear v0 v1 v2 hb B2 W2
      have v0 := V3.k0
      have b0 := B3.out.c1
      have b1 := B3.out.c3
      clear V3
      go_quiet ((first
        | (go_at_call 38; first | (with_reducible exact quiet_left (s3 _)) | (with_reducible exact quiet_left (s4 _)))
        | (go_at_call 39; with_reducible exact quiet_left (m2 _))))
      have i0 := B3.out.i0
      have i1 := B3.out.i1
      have j0 := B3.out.j0
      have j1 := B3.out.j1
      clear v0 b0 b1
      go_wp2_with fail
      exact bodyPost_ret (v := .tuple #[ratV 0 0, .int .i64 3]) (by simp [results, Tryd.results26, go_sem, i0, i1]) rfl ⟨rfl, below_two (below_drewN B3.out.below _)⟩
  · have E1 : fitE N D = 3 := by unfold fitE; rw [if_neg (by omega)]
    have E2 : fitD N D = 0 := by unfold fitD; rw [if_neg (by omega)]
    have E3 : fitN s N D = 0 := by unfold fitN; rw [if_neg (by omega)]
    rw [E1, E2, E3]
    rw [if_neg a] at hq
    rw [decide_eq_false a] at hok
    subst hq hok
    clear a E1 E2 E3
    simp only [Int.natCast_zero] at ov
    go_enter Tryd.func26, Tryd.ntmps26
    go_wp2_with fail
    go_quiet ((first
      | (go_at_call 38; first | (with_reducible exact quiet_left (s3 _)) | (with_reducible exact quiet_left (s4 _)))
      | (go_at_call 37; with_reducible exact Calls.quiet_of (g1 _))))
    go_upto_region 3 with (go_at_call 36; (with_reducible refine (ac _).mono ?_); rintro e w1 ⟨rfl, hb⟩)
    have B1 := Lib.hid ((Boxes.start w n d m e _ 25).keep hb)
    clear hb
    go_upto_region 4 with (first
      | (go_at_call 41; (with_reducible refine (re _).mono ?_); rintro e w2 ⟨rfl, hb⟩)
      | (go_at_call 37; (with_reducible refine (g2 _).mono ?_); rintro e w' ⟨rfl, nd, rfl⟩))
    have B2 := Lib.hid ((B1.out.keep (below_alloc1 _ _)).keep hb)
    have V2 := (WideAt.start w1 s T 71).keep hb
    have v0 := V2.k0
    have v1 := V2.k1
    have v2 := V2.k2
    have W2 := Lib.hid V2
    clear hb V2 B1
    go_upto_region 5 with (go_at_call 42; (with_reducible refine (ov _).mono ?_); rintro e w3 ⟨rfl, hb⟩)
    have B3 := Lib.hid (B2.out.keep ((below_drewN (Below.refl _ _) _).trans hb))
    have V3 := W2.out.keep ((below_drewN (Below.refl _ _) _).trans hb)
    clear v0 v1 v2 hb B2 W2
    have v0 := V3.k0
    have b0 := B3.out.c1
    have b1 := B3.out.c3
    clear V3
    go_quiet ((first
      | (go_at_call 38; first | (with_reducible exact quiet_left (s3 _)) | (with_reducible exact quiet_left (s4 _)))
      | (go_at_call 39; with_reducible exact quiet_left (m2 _))))
    have i0 := B3.out.i0
    have i1 := B3.out.i1
    have j0 := B3.out.j0
    have j1 := B3.out.j1
    clear v0 b0 b1
    go_wp2_with fail
    exact bodyPost_ret (v := .tuple #[ratV 0 0, .int .i64 3]) (by simp [results, Tryd.results26, go_sem, i0, i1]) rfl ⟨rfl, below_two (below_drewN B3.out.below _)⟩
end Go.Proofs.YthlogaenbnhobaaDoor
