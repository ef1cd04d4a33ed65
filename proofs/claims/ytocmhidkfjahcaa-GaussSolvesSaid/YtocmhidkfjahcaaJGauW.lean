/-
  The walks of the reference's times and Less of terms. (Template: by-name.py fills it.)
-/
import Derived.Test.YtocmhidkfjahcaaJK
import Derived.Test.YtocmhidkfjahcaaJTermD2
namespace Go.Proofs.Ytocmhidkfjahcaa
open Go.RowKit

set_option maxRecDepth 10000 in
set_option maxHeartbeats 2000000 in
theorem rtimes_any (w : World) (va : Value) (l : List (Int × Int)) (kx kb : Int × Int) (ha : RatsAt w va l) (hl : Wide l) (hx : Bd kx) (hb : Bd kb) :
    Calls Try.prog 70 #[.agg #[va, .int .i64 kx.1, .int .i64 kx.2], ratV kb.1 kb.2] w (TermPut w (timesT l kx kb).1 (timesT l kx kb).2.1 (timesT l kx kb).2.2) := by
  have td := fun (w' : World) (h : Below w.heap.size w w') => rdo_times_any w' va l kx kb (ha.below h) hl hx hb
  generalize timesT l kx kb = P at *
  obtain ⟨L, ⟨p1, p2⟩, e⟩ := P
  obtain ⟨xn, xd⟩ := kx
  obtain ⟨bn, bd⟩ := kb
  dsimp only at *
  obtain ⟨A, c, rfl⟩ := rats_shape ha
  have TD := Lib.hid td
  clear td ha hl hx hb
  generalize l.length = n at *
  have H := ScS.start w (.slice A n c) xn xd bn bd 39 36
  have k0 := H.F.k0; have k1 := H.F.k1; have k2 := H.F.k2; have q0 := H.Q.k0; have q1 := H.Q.k1
  have HH := Lib.hid H
  clear H
  go_enter Try.func70, Try.ntmps70
  go_wp2_with (go_at_call 103; (with_reducible refine (TD.out _ HH.out.below).mono ?_); rintro e5 w1 ⟨v1, rfl, hv1, hb1, fr1⟩; obtain ⟨A1, cq, rfl⟩ := rats_shape hv1; have H1 := HH.out.keep hb1; have HV := Lib.hid (And.intro hv1 (And.intro (fr1.mono HH.out.sz : Fresh (w.heap.size + 1 + 1 + 1) _) H1)); clear k0 k1 k2 q0 q1 hv1 fr1; have e0 := H1.c0; have e1 := H1.c1; have e2 := H1.c2; have g0 := H1.l0; have g1 := H1.l1; have g2 := H1.l2; clear H1)
  obtain ⟨c0, c1, c2⟩ := HV.out.2.2.three (.slice A1 L.length cq) (.int .i64 p1) (.int .i64 p2)
  obtain ⟨r1, r2, r3⟩ := put_end (w := w) (b := w.heap.size + 1 + 1) (kn := p1) (kd := p2) HV.out.1 HV.out.2.2.below HV.out.2.1 (by omega) rfl
  exact bodyPost_ret (v := .tuple #[.agg #[.slice A1 L.length cq, .int .i64 p1, .int .i64 p2], .int .i64 e]) (by simp [results, Try.results70, go_sem, c0, c1, c2]) rfl ⟨_, rfl, r1, r2, r3⟩

/-- What Less answers. -/
def lessT (l : List (Int × Int)) (kx : Int × Int) (p : List (Int × Int)) (kp by_ : Int × Int) : List (Int × Int) × (Int × Int) × Int :=
  if (timesT p kp (negH by_)).2.2 = 0 then sumT l (timesT p kp (negH by_)).1 kx (timesT p kp (negH by_)).2.1 else ([], (0, 0), (timesT p kp (negH by_)).2.2)

/-- What stands in Less. -/
structure LesS (w wr : World) (s t : Value) (xn xd yn yd bn bd : Int) : Prop where
  F : FracBox wr w.heap.size s (.int .i64 xn) (.int .i64 xd)
  G : FracBox wr (w.heap.size + 1) t (.int .i64 yn) (.int .i64 yd)
  R : RatAt wr (w.heap.size + 1 + 1) bn bd
  E : FracBox wr (w.heap.size + 1 + 1 + 1) (.slice none 0 0) (.int .i64 0) (.int .i64 0)
  below : Below w.heap.size w wr
theorem LesS.keep {w wr w2 : World} {s t : Value} {xn xd yn yd bn bd : Int} (h : LesS w wr s t xn xd yn yd bn bd) (hb : Below wr.heap.size wr w2) : LesS w w2 s t xn xd yn yd bn bd :=
  ⟨h.F.keep hb, h.G.keep hb, h.R.keep hb, h.E.keep hb, h.below.trans (hb.mono h.below.size)⟩
theorem LesS.start (w : World) (s t : Value) (xn xd yn yd bn bd : Int) (ty ty' : TypeId) : LesS w ((((w.alloc (.cells #[s, .int .i64 xn, .int .i64 xd] ty)).alloc (.cells #[t, .int .i64 yn, .int .i64 yd] ty)).alloc (.cells #[.int .i64 bn, .int .i64 bd] ty')).alloc (.cells #[.slice none 0 0, .int .i64 0, .int .i64 0] ty)) s t xn xd yn yd bn bd := by
  have F := FracBox.start w s (.int .i64 xn) (.int .i64 xd) ty
  have G := FracBox.start (w.alloc (.cells #[s, .int .i64 xn, .int .i64 xd] ty)) t (.int .i64 yn) (.int .i64 yd) ty
  have R := RatAt.start ((w.alloc (.cells #[s, .int .i64 xn, .int .i64 xd] ty)).alloc (.cells #[t, .int .i64 yn, .int .i64 yd] ty)) bn bd ty'
  have E := FracBox.start (((w.alloc (.cells #[s, .int .i64 xn, .int .i64 xd] ty)).alloc (.cells #[t, .int .i64 yn, .int .i64 yd] ty)).alloc (.cells #[.int .i64 bn, .int .i64 bd] ty')) (.slice none 0 0) (.int .i64 0) (.int .i64 0) ty
  have a1 := below_alloc1 (w.alloc (.cells #[s, .int .i64 xn, .int .i64 xd] ty)) (.cells #[t, .int .i64 yn, .int .i64 yd] ty)
  have a2 := below_alloc1 ((w.alloc (.cells #[s, .int .i64 xn, .int .i64 xd] ty)).alloc (.cells #[t, .int .i64 yn, .int .i64 yd] ty)) (.cells #[.int .i64 bn, .int .i64 bd] ty')
  have a3 := below_alloc1 (((w.alloc (.cells #[s, .int .i64 xn, .int .i64 xd] ty)).alloc (.cells #[t, .int .i64 yn, .int .i64 yd] ty)).alloc (.cells #[.int .i64 bn, .int .i64 bd] ty')) (.cells #[.slice none 0 0, .int .i64 0, .int .i64 0] ty)
  rw [World.size_alloc] at G
  rw [World.size_alloc, World.size_alloc] at R
  rw [World.size_alloc, World.size_alloc, World.size_alloc] at E
  exact ⟨((F.keep a1).keep a2).keep a3, (G.keep a2).keep a3, R.keep a3, E, ((below_alloc2 w _ _).trans (a2.mono (by simp; omega))).trans (a3.mono (by simp; omega))⟩

set_option maxRecDepth 10000 in
set_option maxHeartbeats 4000000 in
theorem rless_any (w : World) (va vp : Value) (l p : List (Int × Int)) (kx kp kb : Int × Int) (ha : RatsAt w va l) (hp : RatsAt w vp p) (hl : Wide l) (hpw : Wide p) (hx : Bd kx) (hpk : Bd kp) (hq : OkR kb) :
    Calls Try.prog 71 #[.agg #[va, .int .i64 kx.1, .int .i64 kx.2], .agg #[vp, .int .i64 kp.1, .int .i64 kp.2], ratV kb.1 kb.2] w (TermPut w (lessT l kx p kp kb).1 (lessT l kx p kp kb).2.1 (lessT l kx p kp kb).2.2) := by
  have ts := fun (w' : World) (h : Below w.heap.size w w') => rtimes_any w' vp p kp (negH kb) (hp.below h) hpw hpk (okR_neg hq).wide
  have hw2 := timesT_wide (l := p) (kx := kp) (kb := negH kb) hpw hpk (okR_neg hq).wide
  have td := fun (w' : World) (h : Below w.heap.size w w') (v' : Value) (h' : RatsAt w' v' (timesT p kp (negH kb)).1) => rdo_sum_any w' va v' l (timesT p kp (negH kb)).1 kx (timesT p kp (negH kb)).2.1 (ha.below h) h' hl hw2.1 hx hw2.2
  have hT : lessT l kx p kp kb = if (timesT p kp (negH kb)).2.2 = 0 then sumT l (timesT p kp (negH kb)).1 kx (timesT p kp (negH kb)).2.1 else ([], (0, 0), (timesT p kp (negH kb)).2.2) := rfl
  generalize lessT l kx p kp kb = Z at *
  have wn : IntKind.i64.wrap (-kb.1) = -kb.1 := IntWalk.i64_in _ (by obtain ⟨d, _, v⟩ := hq; have := v.n_le; omega)
  unfold negH at *
  clear hw2 hq
  generalize timesT p kp (-kb.1, kb.2) = P at *
  generalize sumT l P.1 kx P.2.1 = U at *
  obtain ⟨L, ⟨p1, p2⟩, er⟩ := P
  obtain ⟨M, ⟨u1, u2⟩, eu⟩ := U
  obtain ⟨x1, x2⟩ := kb
  obtain ⟨xn, xd⟩ := kx
  obtain ⟨yn, yd⟩ := kp
  dsimp only at *
  obtain ⟨A, c, rfl⟩ := rats_shape ha
  obtain ⟨B, d, rfl⟩ := rats_shape hp
  generalize l.length = n at *
  generalize p.length = m at *
  have TS := Lib.hid ts; have TD := Lib.hid td; have HZ := Lib.hid hT
  clear hT ts td ha hl hx hp hpw hpk
  have H := LesS.start w (.slice A n c) (.slice B m d) xn xd yn yd x1 x2 39 36
  have k0 := H.F.k0; have k1 := H.F.k1; have k2 := H.F.k2; have m0 := H.G.k0; have m1 := H.G.k1; have m2 := H.G.k2; have q0 := H.R.k0; have q1 := H.R.k1
  have HH := Lib.hid H
  clear H
  go_enter Try.func71, Try.ntmps71
  go_upto_region 2 with (go_at_call 70; (with_reducible refine (TS.out _ HH.out.below).mono ?_); rintro e5 w1 ⟨v1, rfl, hv1, hb1, fr1⟩; obtain ⟨A1, c1, rfl⟩ := rats_shape hv1; have HH := Lib.hid (HH.out.keep hb1); have HV := Lib.hid hv1; clear hv1 fr1 hb1 k0 k1 k2 m0 m1 m2 q0 q1 wn)
  have a1 := below_alloc1 w1 (.cells #[.slice A1 L.length c1, .int .i64 p1, .int .i64 p2] 39)
  have O := FracBox.start w1 (.slice A1 L.length c1) (.int .i64 p1) (.int .i64 p2) 39
  have HH := Lib.hid (HH.out.keep a1)
  have HV := Lib.hid (HV.out.below a1)
  have o0 := O.k0; have o1 := O.k1; have o2 := O.k2
  have k0 := HH.out.F.k0; have k1 := HH.out.F.k1; have k2 := HH.out.F.k2
  clear a1 O
  generalize w1.alloc (.cells #[.slice A1 L.length c1, .int .i64 p1, .int .i64 p2] 39) = w3 at *
  by_cases g : er = 0
  · have g' : (er != 0) = false := by simpa using g
    have T0 := TD.out _ HH.out.below _ HV.out
    have hZ := HZ.out
    rw [if_pos g] at hZ
    subst hZ
    clear g HZ
    have TT := Lib.hid T0
    clear T0
    go_wp2_with (go_at_call 103; (with_reducible refine TT.out.mono ?_); rintro e6 w6 ⟨v6, rfl, hv6, hb, fr6⟩; obtain ⟨A6, c6, rfl⟩ := rats_shape hv6; have HV6 := Lib.hid (And.intro hv6 (fr6.mono HH.out.E.lt : Fresh (w.heap.size + 1 + 1 + 1 + 1) _)); have HH := Lib.hid (HH.out.keep hb); clear hv6 fr6 hb k0 k1 k2 o0 o1 o2; obtain ⟨e0, e1, e2, g0, g1, g2, _⟩ := HH.out.E)
    obtain ⟨c0, c1, c2⟩ := set_three (x := .slice A6 M.length c6) (y := .int .i64 u1) (z := .int .i64 u2) e0 e1 e2
    obtain ⟨r1, r2, r3⟩ := put_end (w := w) (b := w.heap.size + 1 + 1 + 1) (kn := u1) (kd := u2) HV6.out.1 HH.out.below HV6.out.2 (by omega) rfl
    exact bodyPost_ret (v := .tuple #[.agg #[.slice A6 M.length c6, .int .i64 u1, .int .i64 u2], .int .i64 eu]) (by simp [results, Try.results71, go_sem, c0, c1, c2]) rfl ⟨_, rfl, r1, r2, r3⟩
  · have hZ := HZ.out
    rw [if_neg g] at hZ
    subst hZ
    clear HZ
    have g' : (er != 0) = true := by simpa using g
    obtain ⟨e0, e1, e2, g0, g1, g2, _⟩ := HH.out.E
    clear g k0 k1 k2 o0 o1 o2
    go_wp2_with fail
    obtain ⟨c0, c1, c2⟩ := set_three (x := .slice none 0 0) (y := .int .i64 0) (z := .int .i64 0) e0 e1 e2
    obtain ⟨r1, r2, r3⟩ := put_end (w := w) (b := w.heap.size + 1 + 1 + 1) (kn := 0) (kd := 0) (RatsAt.nil w3) HH.out.below (Fresh.none_ _ _ _) (by omega) rfl
    exact bodyPost_ret (v := .tuple #[.agg #[.slice none 0 0, .int .i64 0, .int .i64 0], .int .i64 er]) (by simp [results, Try.results71, go_sem, c0, c1, c2]) rfl ⟨_, rfl, r1, r2, r3⟩
end Go.Proofs.Ytocmhidkfjahcaa
