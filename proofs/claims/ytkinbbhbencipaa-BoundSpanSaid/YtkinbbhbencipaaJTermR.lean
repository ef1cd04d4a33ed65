/-
  The walks of package term's Add and Scale. (Template: by-name.py fills it.)
-/
import Derived.Test.YtkinbbhbencipaaJTermQa
import Derived.Test.YtkinbbhbencipaaJTermQs
namespace Go.Proofs.Ytkinbbhbencipaa
open Go.RowKit

theorem rats_shape {w : World} {v : Value} {l : List (Int × Int)} (h : RatsAt w v l) : ∃ A c, v = .slice A l.length c := by
  obtain ⟨A, c, rfl, _⟩ := h
  exact ⟨A, c, rfl⟩

/-- What two terms put together come to: the row, the constant, the error. -/
def putT (h : How) (l m : List (Int × Int)) (kx ky : Int × Int) : List (Int × Int) × (Int × Int) × Int :=
  if (h kx ky).2 = 0 ∧ combOk h l m (max l.length m.length) then (trimL (combL h l m), (h kx ky).1, 0) else ([], (0, 0), 3)

theorem how_add (w : World) (x y : Int × Int) (hx : OkR x) (hy : OkR y) :
    Calls Try.prog 67 #[ratV x.1 x.2, ratV y.1 y.2] w fun r w2 => r = .returned (.tuple #[ratV (addH x y).1.1 (addH x y).1.2, .int .i64 (addH x y).2]) ∧ Below w.heap.size w w2 := by
  obtain ⟨d, e, v⟩ := hx
  obtain ⟨d', e', v'⟩ := hy
  have := add_valid v v' w
  unfold addH resT
  rw [e, e']
  exact this
theorem how_mul (w : World) (x y : Int × Int) (hx : OkR x) (hy : OkR y) :
    Calls Try.prog 59 #[ratV x.1 x.2, ratV y.1 y.2] w fun r w2 => r = .returned (.tuple #[ratV (mulH x y).1.1 (mulH x y).1.2, .int .i64 (mulH x y).2]) ∧ Below w.heap.size w w2 := by
  obtain ⟨d, e, v⟩ := hx
  obtain ⟨d', e', v'⟩ := hy
  have := mul_valid v v' w
  unfold mulH resT
  rw [e, e']
  exact this

set_option maxHeartbeats 1000000 in
/-- Scale's function value, where what it has captured is there. -/
theorem how_scale (w : World) (x y by_ : Int × Int) (q : Nat) (hx : OkR x) (hb : OkR by_) (hq : RatAt w q by_.1 by_.2) :
    Calls Try.prog 58 #[ratV x.1 x.2, ratV y.1 y.2, .pointer (some ⟨q, 0, none⟩)] w fun r w2 => r = .returned (.tuple #[ratV (scaleH by_ x y).1.1 (scaleH by_ x y).1.2, .int .i64 (scaleH by_ x y).2]) ∧ Below w.heap.size w w2 := by
  have mu := fun w => how_mul w x by_ hx hb
  unfold scaleH
  have HM := Lib.hid mu
  clear mu hx hb
  generalize (mulH x by_).1.1 = zn at *
  generalize (mulH x by_).1.2 = zd at *
  generalize (mulH x by_).2 = ze at *
  generalize x.1 = xn at *
  generalize x.2 = xd at *
  generalize y.1 = yn at *
  generalize y.2 = yd at *
  generalize by_.1 = bn at *
  generalize by_.2 = bd at *
  have B : Boxes w (((w.alloc (.cells #[.int .i64 xn, .int .i64 xd] 25)).alloc (.cells #[.int .i64 yn, .int .i64 yd] 25)).alloc (.cells #[.int .i64 0, .int .i64 0] 25)) xn xd yn yd := Boxes.start w xn xd yn yd 0 25
  have c0 := B.c0; have c1 := B.c1
  have a0 : Below w.heap.size w (((w.alloc (.cells #[.int .i64 xn, .int .i64 xd] 25)).alloc (.cells #[.int .i64 yn, .int .i64 yd] 25)).alloc (.cells #[.int .i64 0, .int .i64 0] 25)) := below_box3 w (.cells #[.int .i64 xn, .int .i64 xd] 25) (.cells #[.int .i64 yn, .int .i64 yd] 25) (.cells #[.int .i64 0, .int .i64 0] 25) 0
  have Q := hq.keep a0
  have k0 := Q.k0; have k1 := Q.k1
  go_enter Try.func58, Try.ntmps58
  go_wp2_with (go_at_call 59; (with_reducible refine (HM.out _).mono ?_); rintro e w1 ⟨rfl, hb⟩; have B := B.keep hb; have i0 := B.i0; have i1 := B.i1; have j0 := B.j0; have j1 := B.j1; have HB := Lib.hid B.below)
  exact bodyPost_ret (v := .tuple #[ratV zn zd, .int .i64 ze]) (by simp [results, Try.results58, go_sem, i0, i1]) rfl ⟨rfl, below_two HB.out⟩

/-- A term and an error, its row written out. -/
theorem termput_parts {w w1 : World} {l : List (Int × Int)} {k : Int × Int} {E : Int} {e : Ending} (h : TermPut w l k E e w1) :
    ∃ A c, e = .returned (.tuple #[.agg #[.slice A l.length c, .int .i64 k.1, .int .i64 k.2], .int .i64 E]) ∧ RatsAt w1 (.slice A l.length c) l ∧ Below w.heap.size w w1 ∧ Fresh w.heap.size (.slice A l.length c) := by
  obtain ⟨v, he, hr, hb, hf⟩ := h
  obtain ⟨A, c, rfl⟩ := rats_shape hr
  exact ⟨A, c, he, hr, hb, hf⟩

theorem put_end {w w1 f : World} {v : Value} {l : List (Int × Int)} {kn kd : Int} {b : Nat} (hr : RatsAt w1 v l) (hb : Below w.heap.size w w1) (hf : Fresh (b + 1) v) (hlt : w.heap.size ≤ b) (hfe : f = ((w1.setCell ⟨b, 0, none⟩ v).setCell ⟨b, 1, none⟩ (.int .i64 kn)).setCell ⟨b, 2, none⟩ (.int .i64 kd)) :
    RatsAt f v l ∧ Below w.heap.size w f ∧ Fresh w.heap.size v := by
  subst hfe
  exact ⟨((hr.setCell hf (Nat.lt_succ_self b) _).setCell hf (Nat.lt_succ_self b) _).setCell hf (Nat.lt_succ_self b) _, ((hb.setCell hlt _).setCell hlt _).setCell hlt _, hf.mono (by omega)⟩

set_option maxRecDepth 4000 in
set_option maxHeartbeats 4000000 in
theorem tadd_right (w : World) (va vb : Value) (l m : List (Int × Int)) (kx ky : Int × Int) (ha : RatsAt w va l) (hb : RatsAt w vb m) (hl : AllOk l) (hm : AllOk m) (hx : OkR kx) (hy : OkR ky) (h8 : l.length ≤ 8) (h8' : m.length ≤ 8) :
    Calls Try.prog 47 #[.agg #[va, .int .i64 kx.1, .int .i64 kx.2], .agg #[vb, .int .i64 ky.1, .int .i64 ky.2]] w (TermPut w (putT addH l m kx ky).1 (putT addH l m kx ky).2.1 (putT addH l m kx ky).2.2) := by
  have ra := fun (w' : World) (h : Below w.heap.size w w') => tright_any w' va l kx.1 kx.2 (ha.below h) hl.wide hx.wide.1.1 hx.wide.1.2 hx.wide.2.1 hx.wide.2.2
  rw [right_mk h8 hl hx] at ra
  have rb := fun (w' : World) (h : Below w.heap.size w w') => tright_any w' vb m ky.1 ky.2 (hb.below h) hm.wide hy.wide.1.1 hy.wide.1.2 hy.wide.2.1 hy.wide.2.2
  rw [right_mk h8' hm hy] at rb
  have co := fun (w' : World) (h : Below w.heap.size w w') => show Calls Try.prog 56 #[.agg #[va, .int .i64 kx.1, .int .i64 kx.2], .agg #[vb, .int .i64 ky.1, .int .i64 ky.2], .func (.func 67) #[] #[]] w' (TermPut w' (putT addH l m kx ky).1 (putT addH l m kx ky).2.1 (putT addH l m kx ky).2.2) by
    unfold putT
    split
    · rename_i g
      exact comb_add_ok w' va vb l m kx ky (ha.below h) (hb.below h) hl hm hx hy h8 h8' addH (fun w2 _ x y => how_add w2 x y) g.1 g.2
    · rename_i g
      exact comb_add_no w' va vb l m kx ky (ha.below h) (hb.below h) hl hm hx hy h8 h8' addH addH_ok (fun w2 _ x y => how_add w2 x y) g
  generalize putT addH l m kx ky = z at *
  obtain ⟨L, ⟨zn, zd⟩, ze⟩ := z
  dsimp only at *
  have RA := Lib.hid ra; have RB := Lib.hid rb; have CO := Lib.hid co
  obtain ⟨A, c, rfl⟩ := rats_shape ha
  obtain ⟨B, d, rfl⟩ := rats_shape hb
  clear ra rb co ha hb hl hm hx hy h8 h8'
  generalize l.length = ll at *
  generalize m.length = lm at *
  obtain ⟨xn, xd⟩ := kx
  obtain ⟨yn, yd⟩ := ky
  dsimp only at *
  obtain ⟨F, G, E, hb0⟩ := three_boxes w (.slice A ll c) (.int .i64 xn) (.int .i64 xd) (.slice B lm d) (.int .i64 yn) (.int .i64 yd) (.slice none 0 0) (.int .i64 0) (.int .i64 0) 27
  go_enter Try.func47, Try.ntmps47
  go_wp2_with (first
    | (go_at_call 33; (first
        | (with_reducible refine (RA.out _ hb0).mono ?_); rintro e w1 ⟨rfl, hb1⟩; have F := F.keep hb1; have G := G.keep hb1; have E := E.keep hb1; have b1 := hb0.trans (hb1.mono hb0.size); have k0 := F.k0; have k1 := F.k1; have k2 := F.k2; have m0 := G.k0; have m1 := G.k1; have m2 := G.k2
        | (with_reducible refine (RB.out _ b1).mono ?_); rintro e w2 ⟨rfl, hb2⟩; have F := F.keep hb2; have G := G.keep hb2; have E := E.keep hb2; have b2 := b1.trans (hb2.mono b1.size); have k0 := F.k0; have k1 := F.k1; have k2 := F.k2; have m0 := G.k0; have m1 := G.k1; have m2 := G.k2; have elt := E.lt))
    | (go_at_call 56; (with_reducible refine (CO.out _ b2).mono ?_); rintro e w3 hp3; obtain ⟨A3, c3, rfl, hv3, hb3, hf3⟩ := termput_parts hp3; clear hp3; have E := E.keep hb3; have b3 := b2.trans (hb3.mono b2.size); have e0 := E.k0; have e1 := E.k1; have e2 := E.k2; have l0 := E.l0; have l1 := E.l1; have l2 := E.l2; have HV := Lib.hid (And.intro hv3 (And.intro b3 (hf3.mono elt : Fresh (w.heap.size + 1 + 1 + 1) _))); clear hv3 hf3 hb3 b3))
  obtain ⟨c0, c1, c2⟩ := set_three (x := .slice A3 L.length c3) (y := .int .i64 zn) (z := .int .i64 zd) e0 e1 e2
  obtain ⟨r1, r2, r3⟩ := put_end (w := w) (kn := zn) (kd := zd) HV.out.1 HV.out.2.1 HV.out.2.2 (by omega) rfl
  exact bodyPost_ret (v := .tuple #[.agg #[.slice A3 L.length c3, .int .i64 zn, .int .i64 zd], .int .i64 ze]) (by simp [results, Try.results47, go_sem, c0, c1, c2]) rfl ⟨_, rfl, r1, r2, r3⟩
end Go.Proofs.Ytkinbbhbencipaa
