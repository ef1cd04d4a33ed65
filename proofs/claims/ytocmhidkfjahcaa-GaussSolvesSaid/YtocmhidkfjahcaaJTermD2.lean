/-
  The reference's Do at any terms. (Template: by-name.py fills it; gen/genDoes.py writes it.)
-/
import Derived.Test.YtocmhidkfjahcaaJTermZa
import Derived.Test.YtocmhidkfjahcaaJTermZm
import Derived.Test.YtocmhidkfjahcaaJD
namespace Go.Proofs.Ytocmhidkfjahcaa
open Go.RowKit

set_option maxRecDepth 4000 in
set_option maxHeartbeats 4000000 in
theorem rdo_wrong (op : Int) (w : World) (va vb : Value) (l m : List (Int × Int)) (xn xd yn yd : Int) (ha : RatsAt w va l) (hb : RatsAt w vb m) (hw : Wide l) (hw' : Wide m) (x1 : -9223372036854775808 ≤ xn) (x2 : xn ≤ 9223372036854775807) (x3 : -9223372036854775808 ≤ xd) (x4 : xd ≤ 9223372036854775807)
    (y1 : -9223372036854775808 ≤ yn) (y2 : yn ≤ 9223372036854775807) (y3 : -9223372036854775808 ≤ yd) (y4 : yd ≤ 9223372036854775807) (hr : rightT l xn xd = false ∨ (rightT l xn xd = true ∧ rightT m yn yd = false)) :
    Calls Try.prog 103 #[.int .i64 op, .agg #[va, .int .i64 xn, .int .i64 xd], .agg #[vb, .int .i64 yn, .int .i64 yd]] w (TermPut w [] (0, 0) 2) := by
  have ra := fun (w' : World) (h : Below w.heap.size w w') => r2right_any w' va l xn xd (ha.below h) hw x1 x2 x3 x4
  have rb := fun (w' : World) (h : Below w.heap.size w w') => r2right_any w' vb m yn yd (hb.below h) hw' y1 y2 y3 y4
  obtain ⟨A, c, rfl⟩ := rats_shape ha
  obtain ⟨B, d, rfl⟩ := rats_shape hb
  obtain ⟨F, G, E, hb0⟩ := three_boxes w (.slice A l.length c) (.int .i64 xn) (.int .i64 xd) (.slice B m.length d) (.int .i64 yn) (.int .i64 yd) (.slice none 0 0) (.int .i64 0) (.int .i64 0) 39
  rcases hr with hr | ⟨hr, hr'⟩
  · rw [hr] at ra
    have RA := Lib.hid ra
    clear ra rb ha hb hw hw' x1 x2 x3 x4 y1 y2 y3 y4 hr
    generalize l.length = ll at *
    generalize m.length = lm at *
    go_enter Try.func103, Try.ntmps103
    go_wp2_with (go_at_call 39; (with_reducible refine (RA.out _ hb0).mono ?_); rintro e w1 ⟨rfl, hb1⟩; have E := E.keep hb1; have b1 := Lib.hid (hb0.trans (hb1.mono hb0.size)); have e0 := E.k0; have e1 := E.k1; have e2 := E.k2; have l0 := E.l0; have l1 := E.l1; have l2 := E.l2)
    obtain ⟨c0, c1, c2⟩ := set_three (x := .slice none 0 0) (y := .int .i64 0) (z := .int .i64 0) e0 e1 e2
    obtain ⟨r1, r2, r3⟩ := put_end (w := w) (b := w.heap.size + 1 + 1) (kn := 0) (kd := 0) (RatsAt.nil w1) b1.out (Fresh.none_ _ _ _) (by omega) rfl
    exact bodyPost_ret (v := .tuple #[.agg #[.slice none 0 0, .int .i64 0, .int .i64 0], .int .i64 2]) (by simp [results, Try.results103, go_sem, c0, c1, c2]) rfl ⟨_, rfl, r1, r2, r3⟩
  · rw [hr] at ra
    rw [hr'] at rb
    have RA := Lib.hid ra; have RB := Lib.hid rb
    clear ra rb ha hb hw hw' x1 x2 x3 x4 y1 y2 y3 y4 hr hr'
    generalize l.length = ll at *
    generalize m.length = lm at *
    go_enter Try.func103, Try.ntmps103
    go_wp2_with (go_at_call 39; (first
        | (with_reducible refine (RA.out _ hb0).mono ?_); rintro e w1 ⟨rfl, hb1⟩; have G := G.keep hb1; have E := E.keep hb1; have b1 := hb0.trans (hb1.mono hb0.size); have m0 := G.k0; have m1 := G.k1; have m2 := G.k2
        | (with_reducible refine (RB.out _ b1).mono ?_); rintro e w2 ⟨rfl, hb2⟩; have E := E.keep hb2; have b2 := Lib.hid (b1.trans (hb2.mono b1.size)); have e0 := E.k0; have e1 := E.k1; have e2 := E.k2; have l0 := E.l0; have l1 := E.l1; have l2 := E.l2))
    obtain ⟨c0, c1, c2⟩ := set_three (x := .slice none 0 0) (y := .int .i64 0) (z := .int .i64 0) e0 e1 e2
    obtain ⟨r1, r2, r3⟩ := put_end (w := w) (b := w.heap.size + 1 + 1) (kn := 0) (kd := 0) (RatsAt.nil w2) b2.out (Fresh.none_ _ _ _) (by omega) rfl
    exact bodyPost_ret (v := .tuple #[.agg #[.slice none 0 0, .int .i64 0, .int .i64 0], .int .i64 2]) (by simp [results, Try.results103, go_sem, c0, c1, c2]) rfl ⟨_, rfl, r1, r2, r3⟩

theorem wrong_of {a b : Bool} (g : ¬ (a = true ∧ b = true)) : a = false ∨ (a = true ∧ b = false) := by
  cases a
  · exact .inl rfl
  · cases b
    · exact .inr ⟨rfl, rfl⟩
    · exact absurd ⟨rfl, rfl⟩ g
theorem rightT_none (kn kd : Int) : rightT [] kn kd = rightB kn kd := by
  unfold rightT allR
  simp

theorem rdo_sum_any (w : World) (va vb : Value) (l m : List (Int × Int)) (kx ky : Int × Int) (ha : RatsAt w va l) (hb : RatsAt w vb m) (hl : Wide l) (hm : Wide m) (hx : Bd kx) (hy : Bd ky) :
    Calls Try.prog 103 #[.int .i64 0, .agg #[va, .int .i64 kx.1, .int .i64 kx.2], .agg #[vb, .int .i64 ky.1, .int .i64 ky.2]] w (TermPut w (sumT l m kx ky).1 (sumT l m kx ky).2.1 (sumT l m kx ky).2.2) := by
  unfold sumT
  split
  · rename_i g
    obtain ⟨p, a, b⟩ := right_parts g.1 hl hx.1.1 hx.1.2 hx.2.1 hx.2.2
    obtain ⟨q, c, d⟩ := right_parts g.2 hm hy.1.1 hy.1.2 hy.2.1 hy.2.2
    unfold putT
    split
    · rename_i e
      exact rdo_sum_ok w va vb l m kx ky ha hb a c b d p q e.1 e.2
    · rename_i e
      exact rdo_sum_no w va vb l m kx ky ha hb a c b d p q e
  · rename_i g
    exact rdo_wrong 0 w va vb l m kx.1 kx.2 ky.1 ky.2 ha hb hl hm hx.1.1 hx.1.2 hx.2.1 hx.2.2 hy.1.1 hy.1.2 hy.2.1 hy.2.2 (wrong_of g)
theorem rdo_times_any (w : World) (va : Value) (l : List (Int × Int)) (kx kb : Int × Int) (ha : RatsAt w va l) (hl : Wide l) (hx : Bd kx) (hb : Bd kb) :
    Calls Try.prog 103 #[.int .i64 2, .agg #[va, .int .i64 kx.1, .int .i64 kx.2], .agg #[.slice none 0 0, .int .i64 kb.1, .int .i64 kb.2]] w (TermPut w (timesT l kx kb).1 (timesT l kx kb).2.1 (timesT l kx kb).2.2) := by
  unfold timesT
  split
  · rename_i g
    obtain ⟨p, a, b⟩ := right_parts g.1 hl hx.1.1 hx.1.2 hx.2.1 hx.2.2
    have c := okR_of g.2 hb
    unfold putT
    have e0 : max l.length ([] : List (Int × Int)).length = l.length := by simp
    rw [e0]
    split
    · rename_i e
      exact rdo_times_ok w va l kx kb ha a b c p e.1 e.2
    · rename_i e
      exact rdo_times_no w va l kx kb ha a b c p e
  · rename_i g
    rw [← rightT_none] at g
    exact rdo_wrong 2 w va (.slice none 0 0) l [] kx.1 kx.2 kb.1 kb.2 ha (RatsAt.nil w) hl (fun x hx => by cases hx) hx.1.1 hx.1.2 hx.2.1 hx.2.2 hb.1.1 hb.1.2 hb.2.1 hb.2.2 (wrong_of g)
end Go.Proofs.Ytocmhidkfjahcaa
