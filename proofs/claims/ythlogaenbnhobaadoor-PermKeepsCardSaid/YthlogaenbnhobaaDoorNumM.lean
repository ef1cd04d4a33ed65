/-
  The reference's Do at operation 0. (Template: by-name.py fills it; gen/genL.py writes it.)
-/
import Derived.Test.YthlogaenbnhobaaDoorNumL
namespace Go.Proofs.YthlogaenbnhobaaDoor
open Go.RowKit

set_option maxRecDepth 4000 in
set_option maxHeartbeats 8000000 in
theorem do_add {n m : Int} {d e : Nat} (v : Valid n d) (u : Valid m e) (w : World) :
    Calls Tryd.prog 8 #[.int .i64 0, ratV n d, ratV m e] w fun r w' => r = .returned (toV (plusM (decide (n < 0)) (n.natAbs * (e : Int).natAbs) (decide (m < 0)) (m.natAbs * (d : Int).natAbs)) ((d : Int).natAbs * (e : Int).natAbs) (plusS (decide (n < 0)) (n.natAbs * (e : Int).natAbs) (decide (m < 0)) (m.natAbs * (d : Int).natAbs))) ∧ Below w.heap.size w w' := by
  have vn := v.n_le; have vd := v.d_le; have un := u.n_le; have ud := u.d_le
  have ra := fun w => rright_any n d w (by omega) (by omega) (by omega) (by omega)
  have rb := fun w => rright_any m e w (by omega) (by omega) (by omega) (by omega)
  rw [v.right] at ra
  rw [u.right] at rb
  have fa := Lib.hid (fun w => from_num n d w (by omega) (by omega) (by omega) (by omega))
  have fb := Lib.hid (fun w => from_num m e w (by omega) (by omega) (by omega) (by omega))
  have ln := Lib.hid (len_70 vn); have lm := Lib.hid (len_70 un)
  have ld := Lib.hid (len_70 (n := (d : Int).natAbs) (by simpa using vd)); have le := Lib.hid (len_70 (n := (e : Int).natAbs) (by simpa using ud))
  have dp := Lib.hid (Nat.mul_pos (show 0 < (d : Int).natAbs by simpa using v.pos) (show 0 < (e : Int).natAbs by simpa using u.pos))
  clear vn vd un ud
  generalize (e : Int) = E at *
  generalize (d : Int) = D at *
  go_enter Tryd.func8, Tryd.ntmps8
  go_upto_region 1 with fail
  have B := Boxes.start w n D m E 0 25
  go_upto_region 3 with (first
    | (go_at_call 16; (first | with_reducible refine (ra _).mono ?_ | with_reducible refine (rb _).mono ?_); rintro e w1 ⟨rfl, hb⟩; have B := B.keep hb; have c0 := B.c0; have c1 := B.c1; have c2 := B.c2; have c3 := B.c3))
  go_cut [8, 9] (fun v8 v9 wx => DoMid w n D m E v8 v9 wx)
  case first =>
    have BD0 := do_of B
    have BD := do_drew BD0
    have hz := do_sizes (do_of B)
    obtain ⟨z0, z1, z2⟩ := hz
    rename_i K0 hk0 J0 K1 hk1 hk2
    have Hk0 := Lib.hid hk0
    have Hk1 := Lib.hid hk1
    have Hk2 := Lib.hid hk2
    clear ra rb c0 c1 c2 c3 B hb hk0 hk1 hk2
    clear v u
    go_region_held3 (fun w' => (w'.cell? ⟨w.heap.size, 0, none⟩ = some (.int .i64 n) ∧ w'.cell? ⟨w.heap.size, 1, none⟩ = some (.int .i64 D) ∧ w'.cell? ⟨w.heap.size + 1, 0, none⟩ = some (.int .i64 m) ∧ w'.cell? ⟨w.heap.size + 1, 1, none⟩ = some (.int .i64 E) ∧ w'.cell? ⟨w.heap.size + 1 + 1, 0, none⟩ = some (.int .i64 0) ∧ w'.cell? ⟨w.heap.size + 1 + 1, 1, none⟩ = some (.int .i64 0)) ∧ w.heap.size + 2 < w'.heap.size ∧ Below w.heap.size w w' ∧ (w'.frozen? ⟨w.heap.size + 1 + 1, 0, none⟩ = false ∧ w'.frozen? ⟨w.heap.size + 1 + 1, 1, none⟩ = false))
      (((repeat (first | with_reducible refine do_set (by dsimp only; omega) _ ?_ | with_reducible refine keep_do (below_alloc1 _ _) ?_ | with_reducible refine do_drew ?_)); with_reducible assumption))
      (first
        | (go_at_call 17; (with_reducible refine (fa.out _).mono ?_); rintro e wa ⟨va, rfl, hva, hba⟩; obtain ⟨x1, x2, rfl, hx1, hx2, hx3, hx4⟩ := hva; have BA : (wa.cell? ⟨w.heap.size, 0, none⟩ = some (.int .i64 n) ∧ wa.cell? ⟨w.heap.size, 1, none⟩ = some (.int .i64 D) ∧ wa.cell? ⟨w.heap.size + 1, 0, none⟩ = some (.int .i64 m) ∧ wa.cell? ⟨w.heap.size + 1, 1, none⟩ = some (.int .i64 E) ∧ wa.cell? ⟨w.heap.size + 1 + 1, 0, none⟩ = some (.int .i64 0) ∧ wa.cell? ⟨w.heap.size + 1 + 1, 1, none⟩ = some (.int .i64 0)) ∧ w.heap.size + 2 < wa.heap.size ∧ Below w.heap.size w wa ∧ (wa.frozen? ⟨w.heap.size + 1 + 1, 0, none⟩ = false ∧ wa.frozen? ⟨w.heap.size + 1 + 1, 1, none⟩ = false) := keep_do hba (by with_reducible assumption)
           obtain ⟨A1, e1, rfl, hr1⟩ := id hx1; obtain ⟨A2, e2, rfl, hr2⟩ := id hx2; clear hr1 hr2; have hi1 := Lib.hid (hx1.inside hx3); have hi2 := Lib.hid (hx2.inside hx4); have Hx1 := Lib.hid hx1; have Hx2 := Lib.hid hx2; clear hx1 hx2 hx3 hx4
           obtain ⟨s0, s1, s2⟩ := do_sizes BA
           (first
            | (with_reducible have GG := box_two_out hba; obtain ⟨F1, F2⟩ := GG; obtain ⟨m0, m1, m2, m3, m4, m5, m6⟩ := id F1; obtain ⟨n0, n1, n2, n3, n4, n5, n6⟩ := id F2; have Fb := Lib.hid F1; have Fc := Lib.hid F2; clear F1 F2)
            | (with_reducible have F1 := box_one_out hba; obtain ⟨m0, m1, m2, m3, m4, m5, m6⟩ := id F1; have Fb := Lib.hid F1; clear F1)
            | (with_reducible have GG := box_two hba; obtain ⟨F1, F2⟩ := GG; obtain ⟨m0, m1, m2, m3, m4, m5, m6⟩ := id F1; obtain ⟨n0, n1, n2, n3, n4, n5, n6⟩ := id F2; have Fb := Lib.hid F1; have Fc := Lib.hid F2; clear F1 F2)
            | (with_reducible have F1 := box_one hba; obtain ⟨m0, m1, m2, m3, m4, m5, m6⟩ := id F1; have Fb := Lib.hid F1; clear F1)
            | skip)
           have Hba := Lib.hid hba; clear hba)
        | (go_at_call 17; (with_reducible refine (fb.out _).mono ?_); rintro e wb ⟨vb, rfl, hvb, hbb⟩; obtain ⟨y1, y2, rfl, hy1, hy2, hy3, hy4⟩ := hvb; have BB : (wb.cell? ⟨w.heap.size, 0, none⟩ = some (.int .i64 n) ∧ wb.cell? ⟨w.heap.size, 1, none⟩ = some (.int .i64 D) ∧ wb.cell? ⟨w.heap.size + 1, 0, none⟩ = some (.int .i64 m) ∧ wb.cell? ⟨w.heap.size + 1, 1, none⟩ = some (.int .i64 E) ∧ wb.cell? ⟨w.heap.size + 1 + 1, 0, none⟩ = some (.int .i64 0) ∧ wb.cell? ⟨w.heap.size + 1 + 1, 1, none⟩ = some (.int .i64 0)) ∧ w.heap.size + 2 < wb.heap.size ∧ Below w.heap.size w wb ∧ (wb.frozen? ⟨w.heap.size + 1 + 1, 0, none⟩ = false ∧ wb.frozen? ⟨w.heap.size + 1 + 1, 1, none⟩ = false) := keep_do hbb (by with_reducible assumption)
           obtain ⟨A3, e3, rfl, hr3⟩ := id hy1; obtain ⟨A4, e4, rfl, hr4⟩ := id hy2; clear hr3 hr4; have hj1 := Lib.hid (hy1.inside hy3); have hj2 := Lib.hid (hy2.inside hy4); have Hy1 := Lib.hid hy1; have Hy2 := Lib.hid hy2; clear hy1 hy2 hy3 hy4
           obtain ⟨t0, t1, t2⟩ := do_sizes BB
           (first
            | (with_reducible have GG := box_two hbb; obtain ⟨G1, G2⟩ := GG; obtain ⟨p0, p1, p2, p3, p4, p5, p6⟩ := id G1; obtain ⟨q0, q1, q2, q3, q4, q5, q6⟩ := id G2; have Gb := Lib.hid G1; have Gc := Lib.hid G2; clear G1 G2; have hbw := below_second hbb)
            | (with_reducible have G1 := box_one hbb; obtain ⟨p0, p1, p2, p3, p4, p5, p6⟩ := id G1; have Gb := Lib.hid G1; clear G1; have hbw := below_first hbb)
            | have hbw := id hbb)
           (first
            | (have F1 := Fb.out.keep hbw; have F2 := Fc.out.keep hbw; have hl6 := id m6; have hl7 := id n6; obtain ⟨p0, p1, p2, p3, p4, p5, p6⟩ := id F1; obtain ⟨q0, q1, q2, q3, q4, q5, q6⟩ := id F2; clear m0 m1 m2 m3 m4 m5 m6 n0 n1 n2 n3 n4 n5 n6 Fb Fc; have Fb := Lib.hid F1; have Fc := Lib.hid F2; clear F1 F2)
            | (have F1 := Fb.out.keep hbw; have hne := Nat.ne_of_lt m6; have hne' := Nat.ne_of_gt m6; have hl6 := id m6; clear m0 m1 m2 m3 m4 m5 m6 Fb; obtain ⟨m0, m1, m2, m3, m4, m5, m6⟩ := id F1; have Fb := Lib.hid F1; clear F1)
            | skip)
           have Hbb := Lib.hid hbw; clear hbb hbw))
    all_goals
      refine Hk2.out _ _ (Met.intro (Hk1.out _ _ ?_))
      (repeat apply Exists.intro)
      refine ⟨?_, rfl⟩
      clear Hk0 Hk1 Hk2
      have hzz : wa.heap.size ≤ wb.heap.size := Hbb.out.size
      refine ⟨_, _, .slice A1 (bitsOf n.natAbs).length e1, .slice A2 (bitsOf D.natAbs).length e2, .slice A3 (bitsOf m.natAbs).length e3, .slice A4 (bitsOf E.natAbs).length e4, rfl, rfl, ?_, ?_, ?_, ?_, ?_, ?_, ?_, ?_, ?_, ?_, ?_, ?_, ?_, ?_⟩
      · omega
      · omega
      · omega
      · (repeat (first | with_reducible exact FracBox.write Fb.out _ _ _ | with_reducible exact FracBox.write Fc.out _ _ _ | with_reducible exact FracBox.write Gb.out _ _ _ | with_reducible exact FracBox.write Gc.out _ _ _ | with_reducible exact FracBox.write (FracBox.other (FracBox.other (FracBox.other Fb.out (by dsimp only; omega) _) (by dsimp only; omega) _) (by dsimp only; omega) _) _ _ _ | with_reducible exact FracBox.write (FracBox.other (FracBox.other (FracBox.other Fc.out (by dsimp only; omega) _) (by dsimp only; omega) _) (by dsimp only; omega) _) _ _ _ | with_reducible exact FracBox.write (FracBox.other (FracBox.other (FracBox.other Gb.out (by dsimp only; omega) _) (by dsimp only; omega) _) (by dsimp only; omega) _) _ _ _ | with_reducible exact FracBox.write (FracBox.other (FracBox.other (FracBox.other Gc.out (by dsimp only; omega) _) (by dsimp only; omega) _) (by dsimp only; omega) _) _ _ _ | with_reducible exact FracBox.start_at (by simp only [World.size_setCell, World.size_alloc]) _ _ _ _ | with_reducible refine FracBox.other ?_ (by dsimp only; omega) _ | with_reducible refine FracBox.alloc ?_ _))
      · (repeat (first | with_reducible exact FracBox.write Fb.out _ _ _ | with_reducible exact FracBox.write Fc.out _ _ _ | with_reducible exact FracBox.write Gb.out _ _ _ | with_reducible exact FracBox.write Gc.out _ _ _ | with_reducible exact FracBox.write (FracBox.other (FracBox.other (FracBox.other Fb.out (by dsimp only; omega) _) (by dsimp only; omega) _) (by dsimp only; omega) _) _ _ _ | with_reducible exact FracBox.write (FracBox.other (FracBox.other (FracBox.other Fc.out (by dsimp only; omega) _) (by dsimp only; omega) _) (by dsimp only; omega) _) _ _ _ | with_reducible exact FracBox.write (FracBox.other (FracBox.other (FracBox.other Gb.out (by dsimp only; omega) _) (by dsimp only; omega) _) (by dsimp only; omega) _) _ _ _ | with_reducible exact FracBox.write (FracBox.other (FracBox.other (FracBox.other Gc.out (by dsimp only; omega) _) (by dsimp only; omega) _) (by dsimp only; omega) _) _ _ _ | with_reducible exact FracBox.start_at (by simp only [World.size_setCell, World.size_alloc]) _ _ _ _ | with_reducible refine FracBox.other ?_ (by dsimp only; omega) _ | with_reducible refine FracBox.alloc ?_ _))
      · (repeat (first | with_reducible exact (Hx1.out.below Hbb.out) | with_reducible refine NumAt.set_out ?_ hi1.out (by dsimp only; (try simp only [World.size_alloc, World.size_drew]); omega) _ | with_reducible refine NumAt.alloc_ ?_ _))
      · (repeat (first | with_reducible exact (Hx2.out.below Hbb.out) | with_reducible refine NumAt.set_out ?_ hi2.out (by dsimp only; (try simp only [World.size_alloc, World.size_drew]); omega) _ | with_reducible refine NumAt.alloc_ ?_ _))
      · (repeat (first | with_reducible exact Hy1.out | with_reducible refine NumAt.set_out ?_ hj1.out (by dsimp only; (try simp only [World.size_alloc]); omega) _ | with_reducible refine NumAt.alloc_ ?_ _))
      · (repeat (first | with_reducible exact Hy2.out | with_reducible refine NumAt.set_out ?_ hj2.out (by dsimp only; (try simp only [World.size_alloc]); omega) _ | with_reducible refine NumAt.alloc_ ?_ _))
      · exact boxes_of (by ((repeat (first | with_reducible refine do_set (by dsimp only; omega) _ ?_ | with_reducible refine keep_do (below_alloc1 _ _) ?_ | with_reducible refine do_drew ?_)); with_reducible assumption))
      · exact apart_of hi1.out (by (try simp only [World.size_alloc, World.size_drew]); omega)
      · exact apart_of hi2.out (by (try simp only [World.size_alloc, World.size_drew]); omega)
      · exact apart_of hj1.out (by (try simp only [World.size_alloc]); omega)
      · exact apart_of hj2.out (by (try simp only [World.size_alloc]); omega)
  case rest =>
    obtain ⟨b, c, x1, x2, y1, y2, rfl, rfl, hbc, hb, hc, F, G, h1, h2, h3, h4, BX, q1, q2, q3, q4⟩ := hcut
    obtain ⟨A1, e1, rfl, hr1⟩ := id h1
    obtain ⟨A2, e2, rfl, hr2⟩ := id h2
    obtain ⟨A3, e3, rfl, hr3⟩ := id h3
    obtain ⟨A4, e4, rfl, hr4⟩ := id h4
    clear hr1 hr2 hr3 hr4 ra rb c0 c1 c2 c3
    have fa0 := fa; have fb0 := fb
    obtain ⟨k0, k1, k2, k3, k4, k5, k6⟩ := id F
    obtain ⟨g0, g1, g2, g3, g4, g5, g6⟩ := id G
    have HF := Lib.hid F; have HG := Lib.hid G
    obtain ⟨T, hT⟩ : ∃ T, T = plusM (decide (n < 0)) (n.natAbs * E.natAbs) (decide (m < 0)) (m.natAbs * D.natAbs) := ⟨_, rfl⟩
    obtain ⟨S, hS⟩ : ∃ S, S = plusS (decide (n < 0)) (n.natAbs * E.natAbs) (decide (m < 0)) (m.natAbs * D.natAbs) := ⟨_, rfl⟩
    have sm := rsum_num wc 0 0 _ _ n.natAbs D.natAbs m.natAbs E.natAbs (decide (n < 0)) (decide (m < 0)) ⟨_, _, rfl, h1, h2, Fresh.any _, Fresh.any _⟩ ⟨_, _, rfl, h3, h4, Fresh.any _, Fresh.any _⟩ ln.out ld.out lm.out le.out
    have ll := Lib.hid (plus_len (s := decide (n < 0)) (t := decide (m < 0)) ln.out le.out lm.out ld.out)
    rw [← hT, ← hS] at sm
    rw [← hT] at ll
    have tt := fun (w' : World) (B : Nat) (v : Value) (h : FracAt w' B v T (D.natAbs * E.natAbs) S) => to_num w' B v T _ S h ll.out (mul_len ld.out le.out) dp.out
    obtain ⟨p1, p2, p3, hV⟩ : ∃ p1 p2 p3, toV T (D.natAbs * E.natAbs) S = .tuple #[ratV p1 p2, .int .i64 p3] := ⟨_, _, _, rfl⟩
    rw [hV] at tt
    have HE := Lib.hid hV.symm
    rw [hT, hS] at HE
    have H1 := Lib.hid h1; have H2 := Lib.hid h2; have H3 := Lib.hid h3; have H4 := Lib.hid h4
    have SM := Lib.hid sm; have TO := Lib.hid tt
    clear h1 h2 h3 h4 sm tt F G hT hS hV k3 k4 k5 g3 g4 g5
    go_wp2_with (first
      | (go_at_call 19; (with_reducible refine SM.out.mono ?_); rintro e wd ⟨v, rfl, hv, hbd⟩; have BX := BX.keep hbd; have HV := Lib.hid hv; clear hv)
      | (go_at_call 18; (with_reducible refine (TO.out _ _ _ HV.out).mono ?_); rintro e we ⟨rfl, hbe⟩; have BX := BX.keep hbe; obtain ⟨c0, c1, c2, c3, i0, i1, j0, j1, _, _⟩ := id BX))
    exact bodyPost_ret (v := .tuple #[ratV p1 p2, .int .i64 p3]) (by simp [results, Tryd.results8, go_sem, i0, i1]) rfl ⟨congrArg Ending.returned HE.out, (BX.below.setCell (by show w.heap.size ≤ w.heap.size + 1 + 1; omega) _).setCell (by show w.heap.size ≤ w.heap.size + 1 + 1; omega) _⟩
end Go.Proofs.YthlogaenbnhobaaDoor
