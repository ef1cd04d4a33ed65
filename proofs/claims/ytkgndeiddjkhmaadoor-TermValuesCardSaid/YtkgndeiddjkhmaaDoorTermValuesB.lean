/-
  What is proved: the statement TermValues, as its card: what a term comes to is as the document says, and of a sum it is the sum's, where nothing runs over. Its conditions are the row's own (the tables as they are laid).
  (Template: by-name.py fills it; gen/card.py writes it.)
-/
import Derived.Test.YtkgndeiddjkhmaaDoorTermV
import Derived.Test.YtkgndeiddjkhmaaDoorTermDoesA
import Derived.Deep.CutRange
import Derived.Test.YtkgndeiddjkhmaaDoorTermN
import Derived.Deep.LoopGhost
import Derived.Test.YtkgndeiddjkhmaaDoorCards
import Derived.Test.YtkgndeiddjkhmaaDoorTie
import Derived.OpenShut
import Derived.LaidMore
import Derived.Stop.Joined
import Derived.Stop.LaidErr
import Derived.Deep.DeepHandedRow
namespace Go.Proofs.YtkgndeiddjkhmaaDoor
open Go.RowKit

abbrev Bd (x : Int × Int) : Prop := (-9223372036854775808 ≤ x.1 ∧ x.1 ≤ 9223372036854775807) ∧ (-9223372036854775808 ≤ x.2 ∧ x.2 ≤ 9223372036854775807)

/-- What Add answers, whatever the terms. -/
def sumT (l m : List (Int × Int)) (kx ky : Int × Int) : List (Int × Int) × (Int × Int) × Int :=
  if rightT l kx.1 kx.2 = true ∧ rightT m ky.1 ky.2 = true then putT addH l m kx ky else ([], (0, 0), 2)
/-- What Scale answers. -/
def timesT (l : List (Int × Int)) (kx kb : Int × Int) : List (Int × Int) × (Int × Int) × Int :=
  if rightT l kx.1 kx.2 = true ∧ rightB kb.1 kb.2 = true then putT (scaleH kb) l [] kx (0, 1) else ([], (0, 0), 2)

theorem bd_nought : Bd (0, 0) := by decide
theorem putT_wide {h : How} (hh : HowOk h) {l m : List (Int × Int)} {kx ky : Int × Int} (hl : AllOk l) (hm : AllOk m) (hx : OkR kx) (hy : OkR ky) : Wide (putT h l m kx ky).1 ∧ Bd (putT h l m kx ky).2.1 := by
  unfold putT
  split
  · rename_i g
    exact ⟨(combL_ok hh hl hm g.2).trim.wide, (hh.ok _ _ hx hy g.1).wide⟩
  · exact ⟨fun x hx => (by cases hx), bd_nought⟩

theorem sumT_wide {l m : List (Int × Int)} {kx ky : Int × Int} (hl : Wide l) (hm : Wide m) (hx : Bd kx) (hy : Bd ky) : Wide (sumT l m kx ky).1 ∧ Bd (sumT l m kx ky).2.1 := by
  unfold sumT
  split
  · rename_i g
    obtain ⟨_, a, b⟩ := right_parts g.1 hl hx.1.1 hx.1.2 hx.2.1 hx.2.2
    obtain ⟨_, c, d⟩ := right_parts g.2 hm hy.1.1 hy.1.2 hy.2.1 hy.2.2
    exact putT_wide addH_ok a c b d
  · exact ⟨fun x hx => (by cases hx), bd_nought⟩
theorem timesT_wide {l : List (Int × Int)} {kx kb : Int × Int} (hl : Wide l) (hx : Bd kx) (hb : Bd kb) : Wide (timesT l kx kb).1 ∧ Bd (timesT l kx kb).2.1 := by
  unfold timesT
  split
  · rename_i g
    obtain ⟨_, a, b⟩ := right_parts g.1 hl hx.1.1 hx.1.2 hx.2.1 hx.2.2
    exact putT_wide (scaleH_ok (okR_of g.2 hb)) a allOk_none b okR_nought
  · exact ⟨fun x hx => (by cases hx), bd_nought⟩

theorem tadd_any (w : World) (va vb : Value) (l m : List (Int × Int)) (kx ky : Int × Int) (ha : RatsAt w va l) (hb : RatsAt w vb m) (hl : Wide l) (hm : Wide m) (hx : Bd kx) (hy : Bd ky) :
    Calls Tryd.prog 11 #[.agg #[va, .int .i64 kx.1, .int .i64 kx.2], .agg #[vb, .int .i64 ky.1, .int .i64 ky.2]] w (TermPut w (sumT l m kx ky).1 (sumT l m kx ky).2.1 (sumT l m kx ky).2.2) := by
  unfold sumT
  split
  · rename_i g
    obtain ⟨p, a, b⟩ := right_parts g.1 hl hx.1.1 hx.1.2 hx.2.1 hx.2.2
    obtain ⟨q, c, d⟩ := right_parts g.2 hm hy.1.1 hy.1.2 hy.2.1 hy.2.2
    exact tadd_right w va vb l m kx ky ha hb a c b d p q
  · rename_i g
    refine tadd_wrong w va vb l m kx.1 kx.2 ky.1 ky.2 ha hb hl hm hx.1.1 hx.1.2 hx.2.1 hx.2.2 hy.1.1 hy.1.2 hy.2.1 hy.2.2 ?_
    cases a : rightT l kx.1 kx.2
    · exact .inl rfl
    · cases b : rightT m ky.1 ky.2
      · exact .inr ⟨rfl, rfl⟩
      · exact absurd ⟨a, b⟩ g
theorem tscale_any (w : World) (va : Value) (l : List (Int × Int)) (kx kb : Int × Int) (ha : RatsAt w va l) (hl : Wide l) (hx : Bd kx) (hb : Bd kb) :
    Calls Tryd.prog 13 #[.agg #[va, .int .i64 kx.1, .int .i64 kx.2], ratV kb.1 kb.2] w (TermPut w (timesT l kx kb).1 (timesT l kx kb).2.1 (timesT l kx kb).2.2) := by
  unfold timesT
  split
  · rename_i g
    obtain ⟨p, a, b⟩ := right_parts g.1 hl hx.1.1 hx.1.2 hx.2.1 hx.2.2
    exact tscale_right w va l kx kb ha a b (okR_of g.2 hb) p
  · rename_i g
    refine tscale_wrong w va l kx.1 kx.2 kb.1 kb.2 ha hl hx.1.1 hx.1.2 hx.2.1 hx.2.2 hb.1.1 hb.1.2 hb.2.1 hb.2.2 ?_
    cases a : rightT l kx.1 kx.2
    · exact .inl rfl
    · cases b : rightB kb.1 kb.2
      · exact .inr ⟨rfl, rfl⟩
      · exact absurd ⟨a, b⟩ g

theorem sumT_comm (l m : List (Int × Int)) (kx ky : Int × Int) : sumT l m kx ky = sumT m l ky kx := by
  have e : putT addH l m kx ky = putT addH m l ky kx := by
    have c : combL addH l m = combL addH m l := by
      unfold combL
      rw [Nat.max_comm]
      exact List.map_congr_left fun i _ => by rw [addH_comm]
    have d : combOk addH l m (max l.length m.length) = combOk addH m l (max m.length l.length) := by
      unfold combOk
      rw [Nat.max_comm]
      exact propext ⟨fun h i hi => by rw [addH_comm]; exact h i hi, fun h i hi => by rw [addH_comm]; exact h i hi⟩
    unfold putT
    rw [c, addH_comm kx ky]
    simp only [d]
  unfold sumT
  rw [e]
  by_cases g : rightT l kx.1 kx.2 = true ∧ rightT m ky.1 ky.2 = true
  · rw [if_pos g, if_pos ⟨g.2, g.1⟩]
  · rw [if_neg g, if_neg (fun q => g ⟨q.2, q.1⟩)]

/-- .. where all went well, variable by variable. -/
structure Put (h : How) (l m : List (Int × Int)) (kx ky : Int × Int) (L : List (Int × Int)) (k : Int × Int) : Prop where
  ok : AllOk L
  len : L.length ≤ 8
  own : trimL L = L
  okk : OkR k
  k : (h kx ky).2 = 0 ∧ k = (h kx ky).1
  at_ : ∀ i : Nat, (h (atL l i) (atL m i)).2 = 0 ∧ atL L i = (h (atL l i) (atL m i)).1

theorem put_of {h : How} (hh : HowOk h) (h0 : h (0, 1) (0, 1) = ((0, 1), 0)) {l m : List (Int × Int)} {kx ky : Int × Int} (hl : AllOk l) (hm : AllOk m) (hx : OkR kx) (hy : OkR ky) (h8 : l.length ≤ 8) (h8' : m.length ≤ 8) (he : (putT h l m kx ky).2.2 = 0) :
    Put h l m kx ky (putT h l m kx ky).1 (putT h l m kx ky).2.1 := by
  obtain ⟨a, b, c, d, e, f⟩ := putT_ok hh hl hm hx hy h8 h8' he
  rw [c]
  refine ⟨d.trim, Nat.le_trans (trimL_len _) e, trimL_twice _, f, ⟨a, rfl⟩, fun i => ?_⟩
  rw [atL_trim d, combL_at]
  by_cases g : i < max l.length m.length
  · rw [if_pos g]
    exact ⟨b i g, rfl⟩
  · rw [if_neg g, atL_out (l := l) (.inr (by omega)), atL_out (l := m) (.inr (by omega)), h0]
    exact ⟨rfl, rfl⟩

theorem addH_00 : addH (0, 1) (0, 1) = ((0, 1), 0) := addH_nought okR_nought
theorem mulH_0 {k : Int × Int} (hk : OkR k) : mulH (0, 1) k = ((0, 1), 0) := mulH_of okR_nought hk okR_nought (by show 0 * (1 * k.2) = 0 * k.1 * 1; grind)

theorem sum_put {l m : List (Int × Int)} {kx ky : Int × Int} (hl : Wide l) (hm : Wide m) (hx : Bd kx) (hy : Bd ky) (he : (sumT l m kx ky).2.2 = 0) : AllOk l ∧ AllOk m ∧ OkR kx ∧ OkR ky ∧ l.length ≤ 8 ∧ m.length ≤ 8 ∧ Put addH l m kx ky (sumT l m kx ky).1 (sumT l m kx ky).2.1 := by
  by_cases g : rightT l kx.1 kx.2 = true ∧ rightT m ky.1 ky.2 = true
  · obtain ⟨p, a, b⟩ := right_parts g.1 hl hx.1.1 hx.1.2 hx.2.1 hx.2.2
    obtain ⟨q, c, d⟩ := right_parts g.2 hm hy.1.1 hy.1.2 hy.2.1 hy.2.2
    have e : sumT l m kx ky = putT addH l m kx ky := if_pos g
    rw [e] at he ⊢
    exact ⟨a, c, b, d, p, q, put_of addH_ok addH_00 a c b d p q he⟩
  · unfold sumT at he
    rw [if_neg g] at he
    cases he
theorem times_put {l : List (Int × Int)} {kx kb : Int × Int} (hl : Wide l) (hx : Bd kx) (hb : Bd kb) (he : (timesT l kx kb).2.2 = 0) : AllOk l ∧ OkR kx ∧ OkR kb ∧ l.length ≤ 8 ∧ Put (scaleH kb) l [] kx (0, 1) (timesT l kx kb).1 (timesT l kx kb).2.1 := by
  by_cases g : rightT l kx.1 kx.2 = true ∧ rightB kb.1 kb.2 = true
  · obtain ⟨p, a, b⟩ := right_parts g.1 hl hx.1.1 hx.1.2 hx.2.1 hx.2.2
    have c := okR_of g.2 hb
    have e : timesT l kx kb = putT (scaleH kb) l [] kx (0, 1) := if_pos g
    rw [e] at he ⊢
    exact ⟨a, b, c, p, put_of (scaleH_ok c) (mulH_0 c) a allOk_none b okR_nought p (by simp) he⟩
  · unfold timesT at he
    rw [if_neg g] at he
    cases he

theorem distr (a1 a2 c1 c2 b1 b2 s1 s2 x1 x2 y1 y2 z1 z2 w1 w2 : Int) (h1 : s1 * (a2 * c2) = (a1 * c2 + c1 * a2) * s2) (h2 : x1 * (s2 * b2) = s1 * b1 * x2) (h3 : y1 * (a2 * b2) = a1 * b1 * y2) (h4 : z1 * (c2 * b2) = c1 * b1 * z2)
    (h5 : w1 * (y2 * z2) = (y1 * z2 + z1 * y2) * w2) : x1 * w2 * (a2 * c2 * b2 * s2 * y2 * z2) = w1 * x2 * (a2 * c2 * b2 * s2 * y2 * z2) := by
  have e1 : x1 * w2 * (a2 * c2 * b2 * s2 * y2 * z2) = (x1 * (s2 * b2)) * (a2 * c2) * (y2 * z2) * w2 := by grind
  have e2 : w1 * x2 * (a2 * c2 * b2 * s2 * y2 * z2) = (w1 * (y2 * z2)) * (a2 * c2 * b2 * s2) * x2 := by grind
  have e3 : (y1 * z2 + z1 * y2) * (a2 * b2 * (c2 * b2)) = (y1 * (a2 * b2)) * z2 * (c2 * b2) + (z1 * (c2 * b2)) * y2 * (a2 * b2) := by grind
  grind

theorem OkR.same {x w : Int × Int} (hx : OkR x) (hw : OkR w) {D : Int} (hD : 0 < D) (h : x.1 * w.2 * D = w.1 * x.2 * D) : x = w :=
  hx.ext hw (Int.eq_of_mul_eq_mul_right (by omega) h)

theorem distr_ok {a c b s x y z w : Int × Int} (ha : OkR a) (hc : OkR c) (hb : OkR b) (e1 : (addH a c).2 = 0) (hs : s = (addH a c).1) (e2 : (mulH s b).2 = 0) (hx : x = (mulH s b).1) (e3 : (mulH a b).2 = 0) (hy : y = (mulH a b).1) (e4 : (mulH c b).2 = 0) (hz : z = (mulH c b).1)
    (e5 : (addH y z).2 = 0) (hw : w = (addH y z).1) : x = w := by
  obtain ⟨os, f1⟩ := addH_eq ha hc e1
  rw [← hs] at os f1
  obtain ⟨ox, f2⟩ := mulH_eq os hb e2
  rw [← hx] at ox f2
  obtain ⟨oy, f3⟩ := mulH_eq ha hb e3
  rw [← hy] at oy f3
  obtain ⟨oz, f4⟩ := mulH_eq hc hb e4
  rw [← hz] at oz f4
  obtain ⟨ow, f5⟩ := addH_eq oy oz e5
  rw [← hw] at ow f5
  exact ox.same ow (Int.mul_pos (Int.mul_pos (Int.mul_pos (Int.mul_pos (Int.mul_pos ha.den hc.den) hb.den) os.den) oy.den) oz.den) (distr _ _ _ _ _ _ _ _ _ _ _ _ _ _ _ _ f1 f2 f3 f4 f5)

/-- A sum so many times is the sum of both so many times, where nothing runs over. -/
theorem turned {l m : List (Int × Int)} {kx ky kb : Int × Int} (hl : Wide l) (hm : Wide m) (hx : Bd kx) (hy : Bd ky) (hb : Bd kb) (e1 : (sumT l m kx ky).2.2 = 0) (e2 : (timesT (sumT l m kx ky).1 (sumT l m kx ky).2.1 kb).2.2 = 0) (e3 : (timesT l kx kb).2.2 = 0) (e4 : (timesT m ky kb).2.2 = 0)
    (e5 : (sumT (timesT l kx kb).1 (timesT m ky kb).1 (timesT l kx kb).2.1 (timesT m ky kb).2.1).2.2 = 0) :
    let X := timesT (sumT l m kx ky).1 (sumT l m kx ky).2.1 kb
    let W := sumT (timesT l kx kb).1 (timesT m ky kb).1 (timesT l kx kb).2.1 (timesT m ky kb).2.1
    X.1 = W.1 ∧ X.2.1 = W.2.1 ∧ rightT X.1 X.2.1.1 X.2.1.2 = true ∧ rightT W.1 W.2.1.1 W.2.1.2 = true := by
  intro X W
  obtain ⟨sw, sb⟩ := sumT_wide hl hm hx hy
  obtain ⟨yw, yb⟩ := timesT_wide hl hx hb
  obtain ⟨zw, zb⟩ := timesT_wide hm hy hb
  obtain ⟨al, am, ox, oy, l8, m8, P1⟩ := sum_put hl hm hx hy e1
  obtain ⟨_, _, ob, _, P2⟩ := times_put sw sb hb e2
  obtain ⟨_, _, _, _, P3⟩ := times_put hl hx hb e3
  obtain ⟨_, _, _, _, P4⟩ := times_put hm hy hb e4
  obtain ⟨_, _, _, _, _, _, P5⟩ := sum_put yw zw yb zb e5
  refine ⟨?_, distr_ok ox oy ob P1.k.1 P1.k.2 P2.k.1 P2.k.2 P3.k.1 P3.k.2 P4.k.1 P4.k.2 P5.k.1 P5.k.2, right_mk P2.len P2.ok P2.okk, right_mk P5.len P5.ok P5.okk⟩
  rw [← P2.own, ← P5.own]
  exact trim_ext P2.ok P5.ok fun i => distr_ok (al.at i) (am.at i) ob (P1.at_ i).1 (P1.at_ i).2 (P2.at_ i).1 (P2.at_ i).2 (P3.at_ i).1 (P3.at_ i).2 (P4.at_ i).1 (P4.at_ i).2 (P5.at_ i).1 (P5.at_ i).2
end Go.Proofs.YtkgndeiddjkhmaaDoor

namespace Go.Proofs.YtkgndeiddjkhmaaDoor
open Go.RowKit

set_option maxRecDepth 4000 in
set_option maxHeartbeats 4000000 in
theorem rdo_wrong (op : Int) (w : World) (va vb : Value) (l m : List (Int × Int)) (xn xd yn yd : Int) (ha : RatsAt w va l) (hb : RatsAt w vb m) (hw : Wide l) (hw' : Wide m) (x1 : -9223372036854775808 ≤ xn) (x2 : xn ≤ 9223372036854775807) (x3 : -9223372036854775808 ≤ xd) (x4 : xd ≤ 9223372036854775807)
    (y1 : -9223372036854775808 ≤ yn) (y2 : yn ≤ 9223372036854775807) (y3 : -9223372036854775808 ≤ yd) (y4 : yd ≤ 9223372036854775807) (hr : rightT l xn xd = false ∨ (rightT l xn xd = true ∧ rightT m yn yd = false)) :
    Calls Tryd.prog 12 #[.int .i64 op, .agg #[va, .int .i64 xn, .int .i64 xd], .agg #[vb, .int .i64 yn, .int .i64 yd]] w (TermPut w [] (0, 0) 2) := by
  have ra := fun (w' : World) (h : Below w.heap.size w w') => r2right_any w' va l xn xd (ha.below h) hw x1 x2 x3 x4
  have rb := fun (w' : World) (h : Below w.heap.size w w') => r2right_any w' vb m yn yd (hb.below h) hw' y1 y2 y3 y4
  obtain ⟨A, c, rfl⟩ := rats_shape ha
  obtain ⟨B, d, rfl⟩ := rats_shape hb
  obtain ⟨F, G, E, hb0⟩ := three_boxes w (.slice A l.length c) (.int .i64 xn) (.int .i64 xd) (.slice B m.length d) (.int .i64 yn) (.int .i64 yd) (.slice none 0 0) (.int .i64 0) (.int .i64 0) 26
  rcases hr with hr | ⟨hr, hr'⟩
  · rw [hr] at ra
    have RA := Lib.hid ra
    clear ra rb ha hb hw hw' x1 x2 x3 x4 y1 y2 y3 y4 hr
    generalize l.length = ll at *
    generalize m.length = lm at *
    go_enter Tryd.func12, Tryd.ntmps12
    go_wp2_with (go_at_call 16; (with_reducible refine (RA.out _ hb0).mono ?_); rintro e w1 ⟨rfl, hb1⟩; have E := E.keep hb1; have b1 := Lib.hid (hb0.trans (hb1.mono hb0.size)); have e0 := E.k0; have e1 := E.k1; have e2 := E.k2; have l0 := E.l0; have l1 := E.l1; have l2 := E.l2)
    obtain ⟨c0, c1, c2⟩ := set_three (x := .slice none 0 0) (y := .int .i64 0) (z := .int .i64 0) e0 e1 e2
    obtain ⟨r1, r2, r3⟩ := put_end (w := w) (b := w.heap.size + 1 + 1) (kn := 0) (kd := 0) (RatsAt.nil w1) b1.out (Fresh.none_ _ _ _) (by omega) rfl
    exact bodyPost_ret (v := .tuple #[.agg #[.slice none 0 0, .int .i64 0, .int .i64 0], .int .i64 2]) (by simp [results, Tryd.results12, go_sem, c0, c1, c2]) rfl ⟨_, rfl, r1, r2, r3⟩
  · rw [hr] at ra
    rw [hr'] at rb
    have RA := Lib.hid ra; have RB := Lib.hid rb
    clear ra rb ha hb hw hw' x1 x2 x3 x4 y1 y2 y3 y4 hr hr'
    generalize l.length = ll at *
    generalize m.length = lm at *
    go_enter Tryd.func12, Tryd.ntmps12
    go_wp2_with (go_at_call 16; (first
        | (with_reducible refine (RA.out _ hb0).mono ?_); rintro e w1 ⟨rfl, hb1⟩; have G := G.keep hb1; have E := E.keep hb1; have b1 := hb0.trans (hb1.mono hb0.size); have m0 := G.k0; have m1 := G.k1; have m2 := G.k2
        | (with_reducible refine (RB.out _ b1).mono ?_); rintro e w2 ⟨rfl, hb2⟩; have E := E.keep hb2; have b2 := Lib.hid (b1.trans (hb2.mono b1.size)); have e0 := E.k0; have e1 := E.k1; have e2 := E.k2; have l0 := E.l0; have l1 := E.l1; have l2 := E.l2))
    obtain ⟨c0, c1, c2⟩ := set_three (x := .slice none 0 0) (y := .int .i64 0) (z := .int .i64 0) e0 e1 e2
    obtain ⟨r1, r2, r3⟩ := put_end (w := w) (b := w.heap.size + 1 + 1) (kn := 0) (kd := 0) (RatsAt.nil w2) b2.out (Fresh.none_ _ _ _) (by omega) rfl
    exact bodyPost_ret (v := .tuple #[.agg #[.slice none 0 0, .int .i64 0, .int .i64 0], .int .i64 2]) (by simp [results, Tryd.results12, go_sem, c0, c1, c2]) rfl ⟨_, rfl, r1, r2, r3⟩

theorem wrong_of {a b : Bool} (g : ¬ (a = true ∧ b = true)) : a = false ∨ (a = true ∧ b = false) := by
  cases a
  · exact .inl rfl
  · cases b
    · exact .inr ⟨rfl, rfl⟩
    · exact absurd ⟨rfl, rfl⟩ g
theorem rightT_none (kn kd : Int) : rightT [] kn kd = rightB kn kd := by
  unfold rightT allR
  simp

theorem rdo_sum_any (w : World) (va vb : Value) (l m : List (Int × Int)) (kx ky : Int × Int) (ha : RatsAt w va l) (hb : RatsAt w vb m) (hl : Wide l) (hm : Wide m) (hx : Bd kx) (hy : Bd ky) :
    Calls Tryd.prog 12 #[.int .i64 0, .agg #[va, .int .i64 kx.1, .int .i64 kx.2], .agg #[vb, .int .i64 ky.1, .int .i64 ky.2]] w (TermPut w (sumT l m kx ky).1 (sumT l m kx ky).2.1 (sumT l m kx ky).2.2) := by
  unfold sumT
  split
  · rename_i g
    obtain ⟨p, a, b⟩ := right_parts g.1 hl hx.1.1 hx.1.2 hx.2.1 hx.2.2
    obtain ⟨q, c, d⟩ := right_parts g.2 hm hy.1.1 hy.1.2 hy.2.1 hy.2.2
    unfold putT
    split
    · rename_i e
      exact rdo_sum_ok w va vb l m kx ky ha hb a c b d p q e.1 e.2
    · rename_i e
      exact rdo_sum_no w va vb l m kx ky ha hb a c b d p q e
  · rename_i g
    exact rdo_wrong 0 w va vb l m kx.1 kx.2 ky.1 ky.2 ha hb hl hm hx.1.1 hx.1.2 hx.2.1 hx.2.2 hy.1.1 hy.1.2 hy.2.1 hy.2.2 (wrong_of g)
theorem rdo_times_any (w : World) (va : Value) (l : List (Int × Int)) (kx kb : Int × Int) (ha : RatsAt w va l) (hl : Wide l) (hx : Bd kx) (hb : Bd kb) :
    Calls Tryd.prog 12 #[.int .i64 2, .agg #[va, .int .i64 kx.1, .int .i64 kx.2], .agg #[.slice none 0 0, .int .i64 kb.1, .int .i64 kb.2]] w (TermPut w (timesT l kx kb).1 (timesT l kx kb).2.1 (timesT l kx kb).2.2) := by
  unfold timesT
  split
  · rename_i g
    obtain ⟨p, a, b⟩ := right_parts g.1 hl hx.1.1 hx.1.2 hx.2.1 hx.2.2
    have c := okR_of g.2 hb
    unfold putT
    have e0 : max l.length ([] : List (Int × Int)).length = l.length := by simp
    rw [e0]
    split
    · rename_i e
      exact rdo_times_ok w va l kx kb ha a b c p e.1 e.2
    · rename_i e
      exact rdo_times_no w va l kx kb ha a b c p e
  · rename_i g
    rw [← rightT_none] at g
    exact rdo_wrong 2 w va (.slice none 0 0) l [] kx.1 kx.2 kb.1 kb.2 ha (RatsAt.nil w) hl (fun x hx => by cases hx) hx.1.1 hx.1.2 hx.2.1 hx.2.2 hb.1.1 hb.1.2 hb.2.1 hb.2.2 (wrong_of g)
end Go.Proofs.YtkgndeiddjkhmaaDoor

namespace Go.Proofs.YtkgndeiddjkhmaaDoor
open Go.RowKit

/-- A fraction as a rational number. -/
def q (x : Int × Int) : Rat := (x.1 : Rat) / (x.2 : Rat)

theorem OkR.ne {x : Int × Int} (h : OkR x) : (x.2 : Rat) ≠ 0 := by
  have := h.den
  exact_mod_cast (by omega : x.2 ≠ 0)
theorem OkR.inj {x y : Int × Int} (hx : OkR x) (hy : OkR y) (h : q x = q y) : x = y := by
  unfold q at h
  have a := hx.ne
  have b := hy.ne
  have : (x.1 : Rat) * y.2 = y.1 * x.2 := by grind
  exact hx.ext hy (by exact_mod_cast this)
theorem q_add {x y z : Int × Int} (hx : OkR x) (hy : OkR y) (hz : OkR z) (h : z.1 * (x.2 * y.2) = (x.1 * y.2 + y.1 * x.2) * z.2) : q z = q x + q y := by
  unfold q
  have a := hx.ne
  have b := hy.ne
  have c := hz.ne
  have : (z.1 : Rat) * (x.2 * y.2) = (x.1 * y.2 + y.1 * x.2) * z.2 := by exact_mod_cast h
  grind
theorem q_mul {x y z : Int × Int} (hx : OkR x) (hy : OkR y) (hz : OkR z) (h : z.1 * (x.2 * y.2) = x.1 * y.1 * z.2) : q z = q x * q y := by
  unfold q
  have a := hx.ne
  have b := hy.ne
  have c := hz.ne
  have : (z.1 : Rat) * (x.2 * y.2) = x.1 * y.1 * z.2 := by exact_mod_cast h
  grind
theorem addH_q {x y : Int × Int} (hx : OkR x) (hy : OkR y) (h : (addH x y).2 = 0) : OkR (addH x y).1 ∧ q (addH x y).1 = q x + q y := by
  obtain ⟨a, b⟩ := addH_eq hx hy h
  exact ⟨a, q_add hx hy a b⟩
theorem mulH_q {x y : Int × Int} (hx : OkR x) (hy : OkR y) (h : (mulH x y).2 = 0) : OkR (mulH x y).1 ∧ q (mulH x y).1 = q x * q y := by
  obtain ⟨a, b⟩ := mulH_eq hx hy h
  exact ⟨a, q_mul hx hy a b⟩

/-- The sum behind k products; none: it runs over. -/
def sumK (l m : List (Int × Int)) (kx : Int × Int) : Nat → Option (Int × Int)
  | 0 => some kx
  | k + 1 => (sumK l m kx k).bind fun s => if (mulH (atL l k) (atL m k)).2 = 0 ∧ (addH s (mulH (atL l k) (atL m k)).1).2 = 0 then some (addH s (mulH (atL l k) (atL m k)).1).1 else none

theorem sumK_ok {l m : List (Int × Int)} {kx : Int × Int} (hl : AllOk l) (hm : AllOk m) (hx : OkR kx) : ∀ (k : Nat) (s : Int × Int), sumK l m kx k = some s → OkR s
  | 0, s, h => by
    obtain rfl : kx = s := by simpa [sumK] using h
    exact hx
  | k + 1, s, h => by
    rw [sumK, Option.bind_eq_some_iff] at h
    obtain ⟨a, ha, hb⟩ := h
    split at hb
    · rename_i g
      obtain rfl : _ = s := Option.some.inj hb
      exact addH_ok.ok _ _ (sumK_ok hl hm hx k a ha) (mulH_ok.ok _ _ (hl.at k) (hm.at k) g.1) g.2
    · cases hb
/-- Behind the end of one of them nothing more comes. -/
theorem sumK_more {l m : List (Int × Int)} {kx : Int × Int} (hl : AllOk l) (hm : AllOk m) (hx : OkR kx) : ∀ d : Nat, sumK l m kx (min l.length m.length + d) = sumK l m kx (min l.length m.length)
  | 0 => rfl
  | d + 1 => by
    rw [← Nat.add_assoc, sumK, sumK_more hl hm hx d]
    cases e : sumK l m kx (min l.length m.length) with
    | none => rfl
    | some s =>
      have hs := sumK_ok hl hm hx _ _ e
      have hp : mulH (atL l ((min l.length m.length + d : Nat) : Int)) (atL m ((min l.length m.length + d : Nat) : Int)) = ((0, 1), 0) := by
        rcases Nat.le_total l.length m.length with g | g
        · rw [atL_out (l := l) (.inr (by omega))]
          exact mulH_0 (hm.at _)
        · rw [atL_out (l := m) (.inr (by omega))]
          exact mulH_of (hl.at _) okR_nought okR_nought (by show 0 * (_ * 1) = _ * 0 * 1; grind)
      show (if _ then _ else _) = _
      rw [hp, addH_nought hs]
      rfl
theorem sumK_to {l m : List (Int × Int)} {kx : Int × Int} (hl : AllOk l) (hm : AllOk m) (hx : OkR kx) (k : Nat) (h : min l.length m.length ≤ k) : sumK l m kx k = sumK l m kx (min l.length m.length) := by
  have := sumK_more hl hm hx (k - min l.length m.length)
  rwa [show min l.length m.length + (k - min l.length m.length) = k by omega] at this

/-- What Value answers. -/
def valT (l m : List (Int × Int)) (kx : Int × Int) : (Int × Int) × Int :=
  if rightT l kx.1 kx.2 = true ∧ allR (m.take 8) = true then
    match sumK l m kx (min l.length m.length) with
    | some s => (s, 0)
    | none => ((0, 0), 3)
  else ((0, 0), 2)

theorem atL_take {m : List (Int × Int)} {n : Nat} {k : Nat} (h : k < n) : atL (m.take n) k = atL m k := by
  unfold atL
  rw [if_pos (by omega), if_pos (by omega), Int.toNat_natCast, List.getElem?_take, if_pos h]
theorem sumK_take (l m : List (Int × Int)) (kx : Int × Int) : ∀ k : Nat, k ≤ 8 → sumK l (m.take 8) kx k = sumK l m kx k
  | 0, _ => rfl
  | k + 1, h => by rw [sumK, sumK, sumK_take l m kx k (by omega), atL_take (by omega)]

theorem valT_ok {l m : List (Int × Int)} {kx : Int × Int} (hl : Wide l) (hx : Bd kx) (hm : Wide m) (h : (valT l m kx).2 = 0) :
    AllOk l ∧ OkR kx ∧ AllOk (m.take 8) ∧ l.length ≤ 8 ∧ sumK l (m.take 8) kx 8 = some (valT l m kx).1 := by
  by_cases g : rightT l kx.1 kx.2 = true ∧ allR (m.take 8) = true
  · obtain ⟨p, a, b⟩ := right_parts g.1 hl hx.1.1 hx.1.2 hx.2.1 hx.2.2
    have c : AllOk (m.take 8) := allOk_of g.2 fun x hx => hm x (List.mem_of_mem_take hx)
    refine ⟨a, b, c, p, ?_⟩
    have e : min l.length (m.take 8).length = min l.length m.length := by rw [List.length_take]; omega
    rw [sumK_to a c b 8 (by omega), e, sumK_take l m kx _ (by omega)]
    unfold valT at h ⊢
    rw [if_pos g] at h ⊢
    cases q : sumK l m kx (min l.length m.length) with
    | none => rw [q] at h; cases h
    | some s => rfl
  · unfold valT at h
    rw [if_neg g] at h
    cases h

theorem sumK_lin {l m n at_ : List (Int × Int)} {kx ky kz : Int × Int} (hl : AllOk l) (hm : AllOk m) (hn : AllOk n) (ha : AllOk at_) (hx : OkR kx) (hy : OkR ky) (hz : OkR kz) (hk : q kz = q kx + q ky) (hc : ∀ i : Nat, q (atL n i) = q (atL l i) + q (atL m i)) :
    ∀ (k : Nat) (a b c : Int × Int), sumK l at_ kx k = some a → sumK m at_ ky k = some b → sumK n at_ kz k = some c → q c = q a + q b
  | 0, a, b, c, h1, h2, h3 => by
    obtain rfl : kx = a := by simpa [sumK] using h1
    obtain rfl : ky = b := by simpa [sumK] using h2
    obtain rfl : kz = c := by simpa [sumK] using h3
    exact hk
  | k + 1, a, b, c, h1, h2, h3 => by
    rw [sumK, Option.bind_eq_some_iff] at h1 h2 h3
    obtain ⟨a', ha', h1⟩ := h1
    obtain ⟨b', hb', h2⟩ := h2
    obtain ⟨c', hc', h3⟩ := h3
    have ih := sumK_lin hl hm hn ha hx hy hz hk hc k a' b' c' ha' hb' hc'
    split at h1
    · rename_i g1
      split at h2
      · rename_i g2
        split at h3
        · rename_i g3
          obtain rfl := Option.some.inj h1
          obtain rfl := Option.some.inj h2
          obtain rfl := Option.some.inj h3
          obtain ⟨o1, p1⟩ := mulH_q (hl.at k) (ha.at k) g1.1
          obtain ⟨o2, p2⟩ := mulH_q (hm.at k) (ha.at k) g2.1
          obtain ⟨o3, p3⟩ := mulH_q (hn.at k) (ha.at k) g3.1
          obtain ⟨_, s1⟩ := addH_q (sumK_ok hl ha hx k a' ha') o1 g1.2
          obtain ⟨_, s2⟩ := addH_q (sumK_ok hm ha hy k b' hb') o2 g2.2
          obtain ⟨_, s3⟩ := addH_q (sumK_ok hn ha hz k c' hc') o3 g3.2
          have e := hc k
          rw [s1, s2, s3, p1, p2, p3, e, ih]
          grind
        · cases h3
      · cases h2
    · cases h1

/-- Of a sum it is the sum's, where nothing runs over. -/
theorem val_sum {l m at_ : List (Int × Int)} {kx ky : Int × Int} (hl : Wide l) (hm : Wide m) (ha : Wide at_) (hx : Bd kx) (hy : Bd ky) (e1 : (valT l at_ kx).2 = 0) (e2 : (valT m at_ ky).2 = 0) (e3 : (sumT l m kx ky).2.2 = 0)
    (e4 : (valT (sumT l m kx ky).1 at_ (sumT l m kx ky).2.1).2 = 0) (e5 : (addH (valT l at_ kx).1 (valT m at_ ky).1).2 = 0) :
    OkR (valT l at_ kx).1 ∧ OkR (valT m at_ ky).1 ∧ (valT (sumT l m kx ky).1 at_ (sumT l m kx ky).2.1).1 = (addH (valT l at_ kx).1 (valT m at_ ky).1).1 := by
  obtain ⟨al, ox, aa, _, s1⟩ := valT_ok hl hx ha e1
  obtain ⟨am, oy, _, _, s2⟩ := valT_ok hm hy ha e2
  obtain ⟨sw, sb⟩ := sumT_wide hl hm hx hy
  obtain ⟨az, oz, _, _, s3⟩ := valT_ok sw sb ha e4
  obtain ⟨_, _, _, _, _, _, P⟩ := sum_put hl hm hx hy e3
  have o1 := sumK_ok al aa ox _ _ s1
  have o2 := sumK_ok am aa oy _ _ s2
  have o3 := sumK_ok az aa oz _ _ s3
  obtain ⟨o4, p4⟩ := addH_q o1 o2 e5
  refine ⟨o1, o2, o3.inj o4 ?_⟩
  rw [p4]
  refine sumK_lin al am az aa ox oy oz ?_ (fun i => ?_) 8 _ _ _ s1 s2 s3
  · rw [P.k.2]
    exact (addH_q ox oy P.k.1).2
  · rw [(P.at_ i).2]
    exact (addH_q (al.at i) (am.at i) (P.at_ i).1).2
end Go.Proofs.YtkgndeiddjkhmaaDoor

namespace Go.Proofs.YtkgndeiddjkhmaaDoor
open Go.RowKit

theorem sumK_none {l m : List (Int × Int)} {kx : Int × Int} {k : Nat} (h : sumK l m kx k = none) : ∀ n : Nat, k ≤ n → sumK l m kx n = none
  | 0, hn => by
    obtain rfl : k = 0 := by omega
    exact h
  | n + 1, hn => by
    rcases Nat.lt_or_ge n k with g | g
    · obtain rfl : k = n + 1 := by omega
      exact h
    · rw [sumK, sumK_none h n g]
      rfl
theorem sumK_okT {l m : List (Int × Int)} {kx : Int × Int} (hl : AllOk l) (hm : allR (m.take 8) = true) (hw : Wide m) (hx : OkR kx) (k : Nat) (s : Int × Int) (hk : k ≤ 8) (h : sumK l m kx k = some s) : OkR s := by
  rw [← sumK_take l m kx k hk] at h
  exact sumK_ok hl (allOk_of hm fun x hx => hw x (List.mem_of_mem_take hx)) hx k s h
theorem sumK_next {l m : List (Int × Int)} {kx s : Int × Int} {k : Nat} (h : sumK l m kx k = some s) (e1 : (mulH (atL l k) (atL m k)).2 = 0) (e2 : (addH s (mulH (atL l k) (atL m k)).1).2 = 0) : sumK l m kx (k + 1) = some (addH s (mulH (atL l k) (atL m k)).1).1 := by
  rw [sumK, h]
  show (if _ then _ else _) = _
  rw [if_pos ⟨e1, e2⟩]
theorem sumK_stop {l m : List (Int × Int)} {kx s : Int × Int} {k : Nat} (h : sumK l m kx k = some s) (e : ¬ ((mulH (atL l k) (atL m k)).2 = 0 ∧ (addH s (mulH (atL l k) (atL m k)).1).2 = 0)) : sumK l m kx (k + 1) = none := by
  rw [sumK, h]
  show (if _ then _ else _) = _
  rw [if_neg e]

/-- What stands in Value at the beginning: the term, the result's room. -/
structure BoxV (w wr : World) (s : Value) (xn xd : Int) : Prop where
  F : FracBox wr w.heap.size s (.int .i64 xn) (.int .i64 xd)
  E : RatAt wr (w.heap.size + 1) 0 0
  e0 : wr.frozen? ⟨w.heap.size + 1, 0, none⟩ = false
  e1 : wr.frozen? ⟨w.heap.size + 1, 1, none⟩ = false
  below : Below w.heap.size w wr
theorem BoxV.keep {w wr w2 : World} {s : Value} {xn xd : Int} (h : BoxV w wr s xn xd) (hb : Below wr.heap.size wr w2) : BoxV w w2 s xn xd :=
  ⟨h.F.keep hb, h.E.keep hb, keep_free hb h.E.lt h.e0, keep_free hb h.E.lt h.e1, h.below.trans (hb.mono h.below.size)⟩

/-- What stands in Value: the term, the result's room, the sum. -/
structure ValS (w wr : World) (b : Nat) (s : Value) (xn xd : Int) (sn sd : Int) : Prop where
  F : FracBox wr w.heap.size s (.int .i64 xn) (.int .i64 xd)
  E : RatAt wr (w.heap.size + 1) 0 0
  e0 : wr.frozen? ⟨w.heap.size + 1, 0, none⟩ = false
  e1 : wr.frozen? ⟨w.heap.size + 1, 1, none⟩ = false
  S : RatAt wr b sn sd
  s0 : wr.frozen? ⟨b, 0, none⟩ = false
  s1 : wr.frozen? ⟨b, 1, none⟩ = false
  lt : w.heap.size + 1 < b
  below : Below w.heap.size w wr
section
variable {w wr w2 : World} {b : Nat} {s : Value} {xn xd sn sd : Int}
theorem ValS.keep (h : ValS w wr b s xn xd sn sd) (hb : Below wr.heap.size wr w2) : ValS w w2 b s xn xd sn sd :=
  ⟨h.F.keep hb, h.E.keep hb, keep_free hb h.E.lt h.e0, keep_free hb h.E.lt h.e1, h.S.keep hb, keep_free hb h.S.lt h.s0, keep_free hb h.S.lt h.s1, h.lt, h.below.trans (hb.mono h.below.size)⟩
theorem ValS.store (h : ValS w wr b s xn xd sn sd) (p q : Int) : ValS w ((wr.setCell ⟨b, 0, none⟩ (.int .i64 p)).setCell ⟨b, 1, none⟩ (.int .i64 q)) b s xn xd p q := by
  have hl := h.lt
  have hb : Below b wr ((wr.setCell ⟨b, 0, none⟩ (.int .i64 p)).setCell ⟨b, 1, none⟩ (.int .i64 q)) := ((Below.refl b wr).setCell (p := ⟨b, 0, none⟩) (Nat.le_refl b) _).setCell (p := ⟨b, 1, none⟩) (Nat.le_refl b) _
  obtain ⟨c0, c1⟩ := set_pair (x := .int .i64 p) (y := .int .i64 q) h.S.k0 h.S.k1
  exact ⟨h.F.keepB hb (by omega), h.E.keepB hb (by omega), (hb.frozen (p := ⟨w.heap.size + 1, 0, none⟩) hl).trans h.e0, (hb.frozen (p := ⟨w.heap.size + 1, 1, none⟩) hl).trans h.e1, ⟨c0, c1, by rw [World.size_setCell, World.size_setCell]; exact h.S.lt⟩, by rw [World.frozen?_setCell, World.frozen?_setCell]; exact h.s0, by rw [World.frozen?_setCell, World.frozen?_setCell]; exact h.s1, hl, h.below.trans (hb.mono (by omega))⟩
theorem vals_of {A : Prop} (h : A ∧ ValS w wr b s xn xd sn sd) : ValS w wr b s xn xd sn sd := h.2
/-- .. with two fractions of rows that came in. -/
theorem hold_vals {p p' o o' : Addr} {x1 x2 y1 y2 : Value} {A : Prop} (hb : Below wr.heap.size wr w2)
    (h : (A ∧ (wr.cell? p = some x1 ∧ wr.cell? p' = some x2) ∧ (wr.cell? o = some y1 ∧ wr.cell? o' = some y2)) ∧ ValS w wr b s xn xd sn sd) :
    (w2.cell? ⟨w.heap.size, 0, none⟩ = some s ∧ (w2.cell? p = some x1 ∧ w2.cell? p' = some x2) ∧ (w2.cell? o = some y1 ∧ w2.cell? o' = some y2)) ∧ ValS w w2 b s xn xd sn sd := by
  obtain ⟨⟨_, ⟨a, b⟩, ⟨c, d⟩⟩, H⟩ := h
  have k : ∀ {p : Addr} {u : Value}, wr.cell? p = some u → w2.cell? p = some u := fun hc => (hb.cell (World.block_lt_of_cell? _ _ hc)).trans hc
  exact ⟨⟨(H.keep hb).F.k0, ⟨k a, k b⟩, ⟨k c, k d⟩⟩, H.keep hb⟩
end
/-- What the round's region leaves. -/
def ValMid (w : World) (b : Nat) (s : Value) (xn xd sn sd p q e : Int) (v8 v9 : Value) (wx : World) : Prop :=
  ∃ c, v8 = .pointer (some ⟨c, 0, none⟩) ∧ v9 = .int .i64 e ∧ RatAt wx c p q ∧ ValS w wx b s xn xd sn sd
theorem vmid_fill {w wA wr : World} {b c : Nat} {s : Value} {xn xd sn sd p q e : Int} (h : ValS w wA b s xn xd sn sd) (hc : HoleC wA wr c) :
    ValMid w b s xn xd sn sd p q e (.pointer (some ⟨c, 0, none⟩)) (.int .i64 e) ((wr.setCell ⟨c, 0, none⟩ (.int .i64 p)).setCell ⟨c, 1, none⟩ (.int .i64 q)) :=
  ⟨_, rfl, rfl, (hc.fill p q).2, h.keep (hc.fill p q).1⟩
theorem vmid_alloc {w wA : World} {b : Nat} {s : Value} {xn xd sn sd p q e : Int} (h : ValS w wA b s xn xd sn sd) (ty : TypeId) :
    ValMid w b s xn xd sn sd p q e (.pointer (some ⟨wA.heap.size, 0, none⟩)) (.int .i64 e) (wA.alloc (.cells #[.int .i64 p, .int .i64 q] ty)) :=
  ⟨_, rfl, rfl, RatAt.start wA p q ty, h.keep (below_alloc1 _ _)⟩
theorem vhole_of {w wA : World} {b : Nat} {s : Value} {xn xd sn sd : Int} {A : Prop} {ty : TypeId} (_ : A ∧ ValS w (wA.alloc (.cells #[.int .i64 0, .int .i64 0] ty)) b s xn xd sn sd) : HoleC wA (wA.alloc (.cells #[.int .i64 0, .int .i64 0] ty)) wA.heap.size := HoleC.start wA ty
theorem vhole_of2 {w wq : World} {b : Nat} {s : Value} {xn xd sn sd : Int} {A : Prop} {ty : TypeId} (_ : A ∧ ValS w (wq.alloc (.cells #[.int .i64 0, .int .i64 0] ty)).drew b s xn xd sn sd) : HoleC wq.drew (wq.alloc (.cells #[.int .i64 0, .int .i64 0] ty)).drew wq.heap.size := HoleC.start wq.drew ty

/-- The parameter's and the result's blocks. -/
theorem val_boxes (w : World) (x y z : Value) (ty ty' : TypeId) : FracBox ((w.alloc (.cells #[x, y, z] ty)).alloc (.cells #[.int .i64 0, .int .i64 0] ty')) w.heap.size x y z ∧ RatAt ((w.alloc (.cells #[x, y, z] ty)).alloc (.cells #[.int .i64 0, .int .i64 0] ty')) (w.heap.size + 1) 0 0 ∧
    (((w.alloc (.cells #[x, y, z] ty)).alloc (.cells #[.int .i64 0, .int .i64 0] ty')).frozen? ⟨w.heap.size + 1, 0, none⟩ = false ∧ ((w.alloc (.cells #[x, y, z] ty)).alloc (.cells #[.int .i64 0, .int .i64 0] ty')).frozen? ⟨w.heap.size + 1, 1, none⟩ = false) ∧
    Below w.heap.size w ((w.alloc (.cells #[x, y, z] ty)).alloc (.cells #[.int .i64 0, .int .i64 0] ty')) := by
  have h := RatAt.start (w.alloc (.cells #[x, y, z] ty)) 0 0 ty'
  rw [World.size_alloc] at h
  exact ⟨(FracBox.start w x y z ty).keep (below_alloc1 _ _), h, ⟨by go_simp, by go_simp⟩, below_alloc2 _ _ _⟩
theorem take_min (m : List (Int × Int)) : m.take (min m.length 8) = m.take 8 := by
  rcases Nat.le_total m.length 8 with h | h
  · rw [Nat.min_eq_left h, List.take_of_length_le (Nat.le_refl _), List.take_of_length_le h]
  · rw [Nat.min_eq_right h]
theorem valT_no {l m : List (Int × Int)} {kx : Int × Int} (h : ¬ (rightT l kx.1 kx.2 = true ∧ allR (m.take 8) = true)) : valT l m kx = ((0, 0), 2) := if_neg h
theorem valT_end {l m : List (Int × Int)} {kx s : Int × Int} (h : rightT l kx.1 kx.2 = true ∧ allR (m.take 8) = true) (e : sumK l m kx (min l.length m.length) = some s) : valT l m kx = (s, 0) := by
  unfold valT
  rw [if_pos h, e]
theorem valT_over {l m : List (Int × Int)} {kx : Int × Int} (h : rightT l kx.1 kx.2 = true ∧ allR (m.take 8) = true) (e : sumK l m kx (min l.length m.length) = none) : valT l m kx = ((0, 0), 3) := by
  unfold valT
  rw [if_pos h, e]
theorem take_right {m : List (Int × Int)} (h : allR (m.take 8) = true) (hm : Wide m) {k : Nat} (hk : k < 8) : OkR (atL m k) := by
  rw [← atL_take hk]
  exact (allOk_of h fun x hx => hm x (List.mem_of_mem_take hx)).at k
end Go.Proofs.YtkgndeiddjkhmaaDoor

namespace Go.Proofs.YtkgndeiddjkhmaaDoor
open Go.RowKit

set_option maxRecDepth 4000 in
set_option maxHeartbeats 4000000 in
theorem tval_wrong (w : World) (va vb : Value) (l m : List (Int × Int)) (xn xd : Int) (ha : RatsAt w va l) (hb : RatsAt w vb m) (hl : Wide l) (x1 : -9223372036854775808 ≤ xn) (x2 : xn ≤ 9223372036854775807) (x3 : -9223372036854775808 ≤ xd) (x4 : xd ≤ 9223372036854775807) (hr : rightT l xn xd = false) :
    Calls Tryd.prog 21 #[.agg #[va, .int .i64 xn, .int .i64 xd], vb] w fun r w' => r = .returned (.tuple #[ratV (valT l m (xn, xd)).1.1 (valT l m (xn, xd)).1.2, .int .i64 (valT l m (xn, xd)).2]) ∧ Below w.heap.size w w' := by
  have rt := fun (w' : World) (h : Below w.heap.size w w') => tright_any w' va l xn xd (ha.below h) hl x1 x2 x3 x4
  rw [hr] at rt
  have hv0 := valT_no (m := m) (kx := (xn, xd)) (l := l) (fun g => by rw [hr] at g; cases g.1)
  generalize valT l m (xn, xd) = V at *
  have HV0 := Lib.hid hv0
  have RT := Lib.hid rt
  obtain ⟨A, c, rfl⟩ := rats_shape ha
  obtain ⟨B, d, rfl, g2, g3, g4⟩ := hb
  unfold maxLen at g3
  clear rt ha hl x1 x2 x3 x4 hr hv0
  generalize l.length = ll at *
  obtain ⟨j, hj⟩ : ∃ j, j = min m.length 8 := ⟨_, rfl⟩
  have hnil : B = none → m.length = 0 := fun e => by
    rcases Nat.eq_zero_or_pos m.length with g | g
    · exact g
    · obtain ⟨_, e', _⟩ := g4.2 g
      rw [e] at e'; cases e'
  generalize m.length = n at *
  have hmin : min (n : Int) 8 = (j : Int) := by omega
  have j1 : (j : Int) ≤ (d : Int) := by omega
  have j2 : (0 : Int) ≤ (j : Int) := by omega
  have HNIL := Lib.hid (And.intro hnil hj)
  clear g4 hj hnil g2 g3
  rcases B with _ | ad
  · obtain rfl : n = 0 := HNIL.out.1 rfl
    obtain rfl : j = 0 := by have := HNIL.out.2; omega
    obtain ⟨F, E, ⟨f0, f1⟩, hb0⟩ := val_boxes w (.slice A ll c) (.int .i64 xn) (.int .i64 xd) 26 24
    go_enter Tryd.func21, Tryd.ntmps21
    go_wp2_with (go_at_call 15; (with_reducible refine (RT.out _ hb0).mono ?_); rintro e w1 ⟨rfl, hb1⟩; have E := E.keep hb1; have f0 := keep_free hb1 (by simp) f0; have f1 := keep_free hb1 (by simp) f1; have b1 := hb0.trans (hb1.mono hb0.size); have e0 := E.k0; have e1 := E.k1)
    obtain ⟨c0, c1⟩ := set_pair (x := .int .i64 0) (y := .int .i64 0) E.k0 E.k1
    exact bodyPost_ret (v := .tuple #[ratV 0 0, .int .i64 2]) (by simp [results, Tryd.results21, go_sem, c0, c1]) rfl ⟨by rw [HV0.out], (b1.setCell (by show w.heap.size ≤ w.heap.size + 1; omega) _).setCell (by show w.heap.size ≤ w.heap.size + 1; omega) _⟩
  · skip
    obtain ⟨F, E, ⟨f0, f1⟩, hb0⟩ := val_boxes w (.slice A ll c) (.int .i64 xn) (.int .i64 xd) 26 24
    go_enter Tryd.func21, Tryd.ntmps21
    go_wp2_with (go_at_call 15; (with_reducible refine (RT.out _ hb0).mono ?_); rintro e w1 ⟨rfl, hb1⟩; have E := E.keep hb1; have f0 := keep_free hb1 (by simp) f0; have f1 := keep_free hb1 (by simp) f1; have b1 := hb0.trans (hb1.mono hb0.size); have e0 := E.k0; have e1 := E.k1)
    obtain ⟨c0, c1⟩ := set_pair (x := .int .i64 0) (y := .int .i64 0) E.k0 E.k1
    exact bodyPost_ret (v := .tuple #[ratV 0 0, .int .i64 2]) (by simp [results, Tryd.results21, go_sem, c0, c1]) rfl ⟨by rw [HV0.out], (b1.setCell (by show w.heap.size ≤ w.heap.size + 1; omega) _).setCell (by show w.heap.size ≤ w.heap.size + 1; omega) _⟩

set_option maxRecDepth 4000 in
set_option maxHeartbeats 8000000 in
theorem tval_right (w : World) (va vb : Value) (l m : List (Int × Int)) (xn xd : Int) (ha : RatsAt w va l) (hb : RatsAt w vb m) (hl : Wide l) (hm : Wide m) (x1 : -9223372036854775808 ≤ xn) (x2 : xn ≤ 9223372036854775807) (x3 : -9223372036854775808 ≤ xd) (x4 : xd ≤ 9223372036854775807) (hr : rightT l xn xd = true) :
    Calls Tryd.prog 21 #[.agg #[va, .int .i64 xn, .int .i64 xd], vb] w fun r w' => r = .returned (.tuple #[ratV (valT l m (xn, xd)).1.1 (valT l m (xn, xd)).1.2, .int .i64 (valT l m (xn, xd)).2]) ∧ Below w.heap.size w w' := by
  obtain ⟨h8, al, ox⟩ := right_parts hr hl x1 x2 x3 x4
  have rt := fun (w' : World) (h : Below w.heap.size w w') => tright_any w' va l xn xd (ha.below h) hl x1 x2 x3 x4
  rw [hr] at rt
  have RT := Lib.hid rt
  have OKL := Lib.hid al; have OKX := Lib.hid ox
  have HM8 := Lib.hid (fun x hx => hm x (List.mem_of_mem_take hx) : Wide (m.take 8))
  obtain ⟨j, hj⟩ : ∃ j, j = min m.length 8 := ⟨_, rfl⟩
  obtain ⟨A, c, rfl, a2, a3, a4⟩ := ha
  obtain ⟨B, d, rfl, g2, g3, g4⟩ := id hb
  unfold maxLen at g3
  have hjt : (m.take j).length = j := by rw [List.length_take]; omega
  have ar := fun (w' : World) (h : Below w.heap.size w w') => allright_any w' (.slice B j d) (m.take 8) (by
    have := RatsAt.take (w := w) (k := j) rfl g2 (by unfold maxLen; omega) g4 (by omega)
    rw [hj, take_min, ← hj] at this
    exact this.below h) HM8.out
  obtain ⟨n, hn⟩ : ∃ n, n = min l.length m.length := ⟨_, rfl⟩
  have LN := Lib.hid (show n = min l.length m.length ∧ l.length ≤ 8 ∧ n ≤ 8 ∧ n = min l.length j ∧ j ≤ m.length ∧ j ≤ 8 from by omega)
  have G4 := Lib.hid a4; have B4 := Lib.hid g4
  have LE := Lib.hid (And.intro (fun (k : Nat) (h : k < l.length) => (⟨_, List.getElem?_eq_getElem h⟩ : ∃ x, l[k]? = some x)) (fun (k : Nat) (h : k < m.length) => (⟨_, List.getElem?_eq_getElem h⟩ : ∃ x, m[k]? = some x)))
  by_cases hma : allR (m.take 8) = true
  · have ve := fun (s : Int × Int) (e : sumK l m (xn, xd) n = some s) => valT_end (kx := (xn, xd)) (l := l) (m := m) (s := s) ⟨hr, hma⟩ (by rw [← hn]; exact e)
    have ov := fun (e : sumK l m (xn, xd) n = none) => valT_over (kx := (xn, xd)) (l := l) (m := m) ⟨hr, hma⟩ (by rw [← hn]; exact e)
    generalize valT l m (xn, xd) = V at *
    have VE := Lib.hid ve; have OV := Lib.hid ov
    have OKM := Lib.hid (And.intro hma hm)
    rw [hma] at ar
    have AR := Lib.hid ar
    have hmin : min (m.length : Int) 8 = (j : Int) := by omega
    have hmin2 : min (l.length : Int) (j : Int) = (n : Int) := by omega
    have j1 : (j : Int) ≤ (d : Int) := by omega
    have j2 : (0 : Int) ≤ (j : Int) := by omega
    clear ve ov rt al ox a2 a3 a4 g2 g3 g4 hb hl hm x1 x2 x3 x4 hr h8 hma hn ar hj hjt
    generalize l.length = ll at *
    generalize m.length = lm at *
    obtain ⟨F, E, ⟨f0, f1⟩, hb0⟩ := val_boxes w (.slice A ll c) (.int .i64 xn) (.int .i64 xd) 26 24
    go_enter Tryd.func21, Tryd.ntmps21
    go_upto_region 4 with (first
      | (go_at_call 15; (with_reducible refine (RT.out _ hb0).mono ?_); rintro e w1 ⟨rfl, hb1⟩; have F := F.keep hb1; have E := E.keep hb1; have f0 := keep_free hb1 (by simp) f0; have f1 := keep_free hb1 (by simp) f1; have b1 := hb0.trans (hb1.mono hb0.size))
      | (go_at_call 33; (with_reducible refine (AR.out _ b1).mono ?_); rintro e w2 ⟨rfl, hb2⟩; have F := F.keep hb2; have f0 := keep_free hb2 E.lt f0; have f1 := keep_free hb2 E.lt f1; have E := E.keep hb2; have b2 := b1.trans (hb2.mono b1.size)))
    clear hmin
    have k1 := F.k1; have k2 := F.k2
    go_upto_region 5 with fail
    clear k1 k2
    have a1 := below_alloc1 w2 (.cells #[.int .i64 xn, .int .i64 xd] 24)
    have e3 := E.lt
    have V0 : ValS w (w2.alloc (.cells #[.int .i64 xn, .int .i64 xd] 24)) w2.heap.size (.slice A ll c) xn xd xn xd :=
      ⟨F.keep a1, E.keep a1, keep_free a1 E.lt f0, keep_free a1 E.lt f1, RatAt.start w2 xn xd 24, by go_simp, by go_simp, e3, b2.trans (a1.mono b2.size)⟩
    have k0 := V0.F.k0
    have V0 := Lib.hid V0
    generalize w2.heap.size = b at *
    clear F E f0 f1 hb1 hb2 b1 b2 a1 e3 hb0
    go_wp2_with fail
    go_loopg [32] n (fun g v32 wr => ∃ (k : Nat) (s : Int × Int), v32 = .int .i64 k ∧ k ≤ n ∧ g = n - k ∧ sumK l m (xn, xd) k = some s ∧ ValS w wr b (.slice A ll c) xn xd s.1 s.2)
    case atStart => exact ⟨0, (xn, xd), rfl, Nat.zero_le _, rfl, rfl, V0.out⟩
    case round =>
      clear V0 k0
      obtain ⟨k, s, rfl, hk, hg, hs, H⟩ := hrel
      by_cases hkn : k = n
      · subst hkn
        have HV := Lib.hid (VE.out s hs)
        obtain ⟨s1, s2⟩ := s
        dsimp only at H
        have z0 := H.S.k0; have z1 := H.S.k1; have e0 := H.E.k0; have e1 := H.E.k1; have f0 := H.e0; have f1 := H.e1
        have HB := Lib.hid H.below
        clear hs hg hk H
        go_wp2_with fail
        obtain ⟨c0, c1⟩ := set_pair (x := .int .i64 s1) (y := .int .i64 s2) e0 e1
        exact bodyPost_ret (v := .tuple #[ratV s1 s2, .int .i64 0]) (by simp [results, Tryd.results21, go_sem, c0, c1]) rfl ⟨by rw [HV.out], (HB.out.setCell (by show w.heap.size ≤ w.heap.size + 1; omega) _).setCell (by show w.heap.size ≤ w.heap.size + 1; omega) _⟩
      · have hlt : k < n := by omega
        obtain ⟨x, hx⟩ := LE.out.1 k (by have := LN.out; omega)
        obtain ⟨y, hy⟩ := LE.out.2 k (by have := LN.out; omega)
        obtain ⟨ad, rfl, d1, d3⟩ := rats_cells G4.out H.below hx (by have := LN.out; omega)
        obtain ⟨bd, rfl, t1, t3⟩ := rats_cells B4.out H.below hy (by have := LN.out; omega)
        have hox : OkR (atL l k) := OKL.out.at k
        have hoy : OkR (atL m k) := take_right OKM.out.1 OKM.out.2 (by have := LN.out; omega)
        have ex : atL l k = x := atL_in hx
        have ey : atL m k = y := atL_in hy
        have hos : OkR s := sumK_okT OKL.out OKM.out.1 OKM.out.2 OKX.out k s (by have := LN.out; omega) hs
        have hm1 := fun (w' : World) => how_mul w' (atL l k) (atL m k) hox hoy
        have mno := mulH_ok.no (atL l k) (atL m k) hox hoy
        have nx := @sumK_next l m (xn, xd) s k hs
        have st := @sumK_stop l m (xn, xd) s k hs
        have ad1 := fun (w' : World) (h : (mulH (atL l k) (atL m k)).2 = 0) => how_add w' s (mulH (atL l k) (atL m k)).1 hos (mulH_ok.ok _ _ hox hoy h)
        have ano := fun (h : (mulH (atL l k) (atL m k)).2 = 0) => addH_ok.no s (mulH (atL l k) (atL m k)).1 hos (mulH_ok.ok _ _ hox hoy h)
        rw [ex, ey] at hm1 nx st ad1 mno ano
        obtain ⟨p1, p2⟩ := x
        obtain ⟨q1, q2⟩ := y
        obtain ⟨s1, s2⟩ := s
        dsimp only at hm1 d1 d3 t1 t3 H ad1 nx st mno ano
        have HS := hold_vals (A := True) (below_drew _) (And.intro (And.intro trivial (And.intro (And.intro d1 d3) (And.intro t1 t3))) H)
        generalize mulH (p1, p2) (q1, q2) = M at *
        obtain ⟨⟨m1, m2⟩, me⟩ := M
        dsimp only at hm1 ad1 nx st mno ano
        have HM := Lib.hid hm1; have NX := Lib.hid nx; have ST := Lib.hid st; have AD := Lib.hid ad1; have HLT := Lib.hid hlt; have HG := Lib.hid hg; have MNO := Lib.hid mno; have ANO := Lib.hid ano
        have i1 : (k : Int) < (ll : Int) := by have := LN.out; omega
        have i2 : (0 : Int) ≤ (k : Int) := by omega
        have i3 : (k : Int) < (j : Int) := by have := LN.out; omega
        have g1 : decide (k < ll) = true := decide_eq_true (by have := LN.out; omega)
        have g3 : decide (k < j) = true := decide_eq_true (by have := LN.out; omega)
        have k0 := H.F.k0
        clear hx hy hox hoy ex ey hos hm1 nx st ad1 hs hlt hg hk hkn mno ano
        go_upto_region 8 with fail
        clear k0 d1 d3 t1 t3
        go_cut [8, 9] from 33 to 62 (fun v8 v9 wx => ValMid w b (.slice (some ad) ll c) xn xd s1 s2 m1 m2 me v8 v9 wx)
        case first =>
          clear H
          refine wp_region_noPanic ?_
          refine wp_region_held_drew (S := (fun w' => (w'.cell? ⟨w.heap.size, 0, none⟩ = some (.slice (some ad) ll c) ∧ (w'.cell? (ad.add (k * 2)) = some (.int .i64 p1) ∧ w'.cell? ⟨(ad.add (k * 2)).block, (ad.add (k * 2)).off + 1, none⟩ = some (.int .i64 p2)) ∧ (w'.cell? (bd.add (k * 2)) = some (.int .i64 q1) ∧ w'.cell? ⟨(bd.add (k * 2)).block, (bd.add (k * 2)).off + 1, none⟩ = some (.int .i64 q2))) ∧ ValS w w' b (.slice (some ad) ll c) xn xd s1 s2)) (by kernel_rfl) HS (fun hHeld => ?_)
          clear HS
          refine wpAnyH_take (i := 0) (oi := _) (v := ?_) rfl (by kernel_rfl) (by kernel_rfl) (by kernel_rfl) (fun _ _ _ h => h) (Or.inl ⟨by rfl, ?_⟩) (by assumption) ?_
          rotate_left
          · intro ww hSw
            (try dsimp only at hSw)
            go_simp <;> with_reducible rfl
          (try simp only [List.getElem_toArray, List.getElem_cons_zero, Act.put, List.setIfInBounds_toArray, List.set_cons_zero, List.set_cons_succ])
          refine wpAnyH_take (i := 1) (oi := _) (v := ?_) rfl (by kernel_rfl) (by kernel_rfl) (by kernel_rfl) (fun _ _ _ h => h) (Or.inl ⟨by rfl, ?_⟩) (by assumption) ?_
          rotate_left
          · intro ww hSw
            (try dsimp only at hSw)
            go_simp <;> with_reducible rfl
          (try simp only [List.getElem_toArray, List.getElem_cons_succ, List.getElem_cons_zero, Act.put, List.setIfInBounds_toArray, List.set_cons_zero, List.set_cons_succ])
          refine wpAnyH_take (i := 2) (oi := _) (v := ?_) rfl (by kernel_rfl) (by kernel_rfl) (by kernel_rfl) (fun _ _ _ h => h) (Or.inl ⟨by rfl, ?_⟩) (by assumption) ?_
          rotate_left
          · intro ww hSw
            (try dsimp only at hSw)
            go_simp <;> with_reducible rfl
          (try simp only [List.getElem_toArray, List.getElem_cons_succ, List.getElem_cons_zero, Act.put, List.setIfInBounds_toArray, List.set_cons_zero, List.set_cons_succ])
          refine wpAnyH_take (i := 3) (oi := _) (v := ?_) rfl (by kernel_rfl) (by kernel_rfl) (by kernel_rfl) (fun _ _ _ h => h) (Or.inl ⟨by rfl, ?_⟩) (by assumption) ?_
          rotate_left
          · intro ww hSw
            (try dsimp only at hSw)
            go_simp <;> with_reducible rfl
          (try simp only [List.getElem_toArray, List.getElem_cons_succ, List.getElem_cons_zero, Act.put, List.setIfInBounds_toArray, List.set_cons_zero, List.set_cons_succ])
          refine wpAnyH_take (i := 4) (oi := _) (v := ?_) rfl (by kernel_rfl) (by kernel_rfl) (by kernel_rfl) (fun _ _ _ h => h) (Or.inl ⟨by rfl, ?_⟩) (by assumption) ?_
          rotate_left
          · intro ww hSw
            (try dsimp only at hSw)
            go_simp <;> with_reducible rfl
          (try simp only [List.getElem_toArray, List.getElem_cons_succ, List.getElem_cons_zero, Act.put, List.setIfInBounds_toArray, List.set_cons_zero, List.set_cons_succ])
          refine wpAnyH_take (i := 5) (oi := _) (v := ?_) rfl (by kernel_rfl) (by kernel_rfl) (by kernel_rfl) (fun _ _ _ h => h) (Or.inl ⟨by rfl, ?_⟩) (by assumption) ?_
          rotate_left
          · intro ww hSw
            (try dsimp only at hSw)
            go_simp <;> with_reducible rfl
          (try simp only [List.getElem_toArray, List.getElem_cons_succ, List.getElem_cons_zero, Act.put, List.setIfInBounds_toArray, List.set_cons_zero, List.set_cons_succ])
          refine wpAnyH_take (i := 6) (oi := _) (v := ?_) rfl (by kernel_rfl) (by kernel_rfl) (by kernel_rfl) (fun _ _ _ h => h) (Or.inl ⟨by rfl, ?_⟩) (by assumption) ?_
          rotate_left
          · intro ww hSw
            (try dsimp only at hSw)
            go_simp <;> with_reducible rfl
          (try simp only [List.getElem_toArray, List.getElem_cons_succ, List.getElem_cons_zero, Act.put, List.setIfInBounds_toArray, List.set_cons_zero, List.set_cons_succ])
          refine wpAnyH_take (i := 7) (oi := _) (v := ?_) rfl (by kernel_rfl) (by kernel_rfl) (by kernel_rfl) (fun _ _ _ h => h) (Or.inl ⟨by rfl, ?_⟩) (by assumption) ?_
          rotate_left
          · intro ww hSw
            (try dsimp only at hSw)
            go_simp <;> with_reducible rfl
          (try simp only [List.getElem_toArray, List.getElem_cons_succ, List.getElem_cons_zero, Act.put, List.setIfInBounds_toArray, List.set_cons_zero, List.set_cons_succ])
          refine wpAnyH_take (i := 8) (oi := _) (v := ?_) rfl (by kernel_rfl) (by kernel_rfl) (by kernel_rfl) (fun _ _ _ h => h) (Or.inl ⟨by rfl, ?_⟩) (by assumption) ?_
          rotate_left
          · intro ww hSw
            (try dsimp only at hSw)
            go_simp <;> with_reducible rfl
          (try simp only [List.getElem_toArray, List.getElem_cons_succ, List.getElem_cons_zero, Act.put, List.setIfInBounds_toArray, List.set_cons_zero, List.set_cons_succ])
          refine wpAnyH_ready (rs := [9, 13]) (by kernel_rfl) (by simp) ?_
          refine AllReadyH.cons (o := _) rfl (fun K hK => ?_) ?_
          · go_simp
            (go_at_call 32; (with_reducible refine (HM.out _).mono ?_); rintro e w6 ⟨rfl, hb⟩; (try (have HC := Lib.hid (HC.out.keep hb))))
            go_wp2_with fail
            refine hK.out _ _ (hold_vals (by with_reducible assumption) (by with_reducible assumption)) (fun hH2 => ?_)
            clear hK K hHeld hb
            have hHeld := hH2
            clear hH2
            (try simp only [List.getElem_toArray, List.getElem_cons_succ, List.getElem_cons_zero, Act.put, List.setIfInBounds_toArray, List.set_cons_zero, List.set_cons_succ])
            refine wpAnyH_take (i := 10) (oi := _) (v := ?_) rfl (by kernel_rfl) (by kernel_rfl) (by kernel_rfl) (fun _ _ _ h => h) (Or.inl ⟨by rfl, ?_⟩) (by assumption) ?_
            rotate_left
            · intro ww hSw
              (try dsimp only at hSw)
              go_simp <;> with_reducible rfl
            (try simp only [List.getElem_toArray, List.getElem_cons_succ, List.getElem_cons_zero, Act.put, List.setIfInBounds_toArray, List.set_cons_zero, List.set_cons_succ])
            refine wpAnyH_take (i := 11) (oi := _) (v := ?_) rfl (by kernel_rfl) (by kernel_rfl) (by kernel_rfl) (fun _ _ _ h => h) (Or.inl ⟨by rfl, ?_⟩) (by assumption) ?_
            rotate_left
            · intro ww hSw
              (try dsimp only at hSw)
              go_simp <;> with_reducible rfl
            (try simp only [List.getElem_toArray, List.getElem_cons_succ, List.getElem_cons_zero, Act.put, List.setIfInBounds_toArray, List.set_cons_zero, List.set_cons_succ])
            refine wpAnyH_take (i := 12) (oi := _) (v := ?_) rfl (by kernel_rfl) (by kernel_rfl) (by kernel_rfl) (fun _ _ _ h => h) (Or.inl ⟨by rfl, ?_⟩) (by assumption) ?_
            rotate_left
            · intro ww hSw
              (try dsimp only at hSw)
              go_simp <;> with_reducible rfl
            (try simp only [List.getElem_toArray, List.getElem_cons_succ, List.getElem_cons_zero, Act.put, List.setIfInBounds_toArray, List.set_cons_zero, List.set_cons_succ])
            refine wpAnyH_ready (rs := [13]) (by kernel_rfl) (by simp) ?_
            refine AllReadyH.cons (o := _) rfl (fun K hK => ?_) AllReadyH.nil
            go_simp
            refine hK.out _ _ (hold_vals (below_alloc1 _ _) (by with_reducible assumption)) (fun hH2 => ?_)
            clear hK K
            (first | have HC := Lib.hid (vhole_of hH2) | have HC := Lib.hid (vhole_of2 hH2))
            have hHeld0 := Lib.hid hHeld
            clear hHeld
            have hHeld := hH2
            clear hH2
            (try simp only [List.getElem_toArray, List.getElem_cons_succ, List.getElem_cons_zero, Act.put, List.setIfInBounds_toArray, List.set_cons_zero, List.set_cons_succ])
            refine wpAnyH_ready (rs := [14]) (by kernel_rfl) (by simp) ?_
            refine AllReadyH.cons (o := _) rfl (fun K hK => ?_) AllReadyH.nil
            obtain ⟨h6, h0, h1, h2, h3, h4, h5⟩ := HC.out
            clear h6
            go_simp
            clear h0 h1 h2 h3 h4 h5
            (first
              | refine hK.out _ _ (hold_vals (below_alloc1 _ _) hHeld0.out) (fun hH2 => ?_)
              | refine hK.out _ _ (hold_vals (HC.out.fill _ _).1 hHeld0.out) (fun hH2 => ?_))
            clear hK K hHeld
            have hHeld := hH2
            clear hH2
            (try simp only [List.getElem_toArray, List.getElem_cons_succ, List.getElem_cons_zero, Act.put, List.setIfInBounds_toArray, List.set_cons_zero, List.set_cons_succ])
            refine wpAnyH_take (i := 15) (oi := _) (v := ?_) rfl (by kernel_rfl) (by kernel_rfl) (by kernel_rfl) (fun _ _ _ h => h) (Or.inl ⟨by rfl, ?_⟩) (by assumption) ?_
            rotate_left
            · intro ww hSw
              (try dsimp only at hSw)
              go_simp <;> with_reducible rfl
            (try simp only [List.getElem_toArray, List.getElem_cons_succ, List.getElem_cons_zero, Act.put, List.setIfInBounds_toArray, List.set_cons_zero, List.set_cons_succ])
            refine wpAnyH_done (by kernel_rfl) ?_ _
            refine NoPanic.normal ?_
            go_wp2_with fail
            go_meet
            case rel => first | exact vmid_alloc (vals_of hHeld0.out) 24 | exact vmid_fill (vals_of hHeld0.out) HC.out
          refine AllReadyH.cons (o := _) rfl (fun K hK => ?_) AllReadyH.nil
          go_simp
          refine hK.out _ _ (hold_vals (below_alloc1 _ _) (by with_reducible assumption)) (fun hH2 => ?_)
          clear hK K
          (first | have HC := Lib.hid (vhole_of hH2) | have HC := Lib.hid (vhole_of2 hH2))
          have hHeld0 := Lib.hid hHeld
          clear hHeld
          have hHeld := hH2
          clear hH2
          (try simp only [List.getElem_toArray, List.getElem_cons_succ, List.getElem_cons_zero, Act.put, List.setIfInBounds_toArray, List.set_cons_zero, List.set_cons_succ])
          refine wpAnyH_ready (rs := [9]) (by kernel_rfl) (by simp) ?_
          refine AllReadyH.cons (o := _) rfl (fun K hK => ?_) AllReadyH.nil
          go_simp
          (go_at_call 32; (with_reducible refine (HM.out _).mono ?_); rintro e w6 ⟨rfl, hb⟩; (try (have HC := Lib.hid (HC.out.keep hb))))
          go_wp2_with fail
          refine hK.out _ _ (hold_vals (by with_reducible assumption) (by with_reducible assumption)) (fun hH2 => ?_)
          clear hK K hHeld hb
          have hHeld := hH2
          clear hH2
          (try simp only [List.getElem_toArray, List.getElem_cons_succ, List.getElem_cons_zero, Act.put, List.setIfInBounds_toArray, List.set_cons_zero, List.set_cons_succ])
          refine wpAnyH_take (i := 10) (oi := _) (v := ?_) rfl (by kernel_rfl) (by kernel_rfl) (by kernel_rfl) (fun _ _ _ h => h) (Or.inl ⟨by rfl, ?_⟩) (by assumption) ?_
          rotate_left
          · intro ww hSw
            (try dsimp only at hSw)
            go_simp <;> with_reducible rfl
          (try simp only [List.getElem_toArray, List.getElem_cons_succ, List.getElem_cons_zero, Act.put, List.setIfInBounds_toArray, List.set_cons_zero, List.set_cons_succ])
          refine wpAnyH_take (i := 11) (oi := _) (v := ?_) rfl (by kernel_rfl) (by kernel_rfl) (by kernel_rfl) (fun _ _ _ h => h) (Or.inl ⟨by rfl, ?_⟩) (by assumption) ?_
          rotate_left
          · intro ww hSw
            (try dsimp only at hSw)
            go_simp <;> with_reducible rfl
          (try simp only [List.getElem_toArray, List.getElem_cons_succ, List.getElem_cons_zero, Act.put, List.setIfInBounds_toArray, List.set_cons_zero, List.set_cons_succ])
          refine wpAnyH_take (i := 12) (oi := _) (v := ?_) rfl (by kernel_rfl) (by kernel_rfl) (by kernel_rfl) (fun _ _ _ h => h) (Or.inl ⟨by rfl, ?_⟩) (by assumption) ?_
          rotate_left
          · intro ww hSw
            (try dsimp only at hSw)
            go_simp <;> with_reducible rfl
          (try simp only [List.getElem_toArray, List.getElem_cons_succ, List.getElem_cons_zero, Act.put, List.setIfInBounds_toArray, List.set_cons_zero, List.set_cons_succ])
          refine wpAnyH_ready (rs := [14]) (by kernel_rfl) (by simp) ?_
          refine AllReadyH.cons (o := _) rfl (fun K hK => ?_) AllReadyH.nil
          obtain ⟨h6, h0, h1, h2, h3, h4, h5⟩ := HC.out
          clear h6
          go_simp
          clear h0 h1 h2 h3 h4 h5
          (first
            | refine hK.out _ _ (hold_vals (below_alloc1 _ _) hHeld0.out) (fun hH2 => ?_)
            | refine hK.out _ _ (hold_vals (HC.out.fill _ _).1 hHeld0.out) (fun hH2 => ?_))
          clear hK K hHeld
          have hHeld := hH2
          clear hH2
          (try simp only [List.getElem_toArray, List.getElem_cons_succ, List.getElem_cons_zero, Act.put, List.setIfInBounds_toArray, List.set_cons_zero, List.set_cons_succ])
          refine wpAnyH_take (i := 15) (oi := _) (v := ?_) rfl (by kernel_rfl) (by kernel_rfl) (by kernel_rfl) (fun _ _ _ h => h) (Or.inl ⟨by rfl, ?_⟩) (by assumption) ?_
          rotate_left
          · intro ww hSw
            (try dsimp only at hSw)
            go_simp <;> with_reducible rfl
          (try simp only [List.getElem_toArray, List.getElem_cons_succ, List.getElem_cons_zero, Act.put, List.setIfInBounds_toArray, List.set_cons_zero, List.set_cons_succ])
          refine wpAnyH_done (by kernel_rfl) ?_ _
          refine NoPanic.normal ?_
          go_wp2_with fail
          go_meet
          case rel => first | exact vmid_alloc (vals_of hHeld0.out) 24 | exact vmid_fill (vals_of hHeld0.out) HC.out
        case rest =>
          obtain ⟨cc, rfl, rfl, RC, H2⟩ := hcut
          clear H HS
          have B2 := Lib.hid H2.below
          by_cases hme : me = 0
          · subst hme
            have a2 := fun (w' : World) => AD.out w' rfl
            have k0 := RC.k0; have k1 := RC.k1; have z0 := H2.S.k0; have z1 := H2.S.k1
            have nx := NX.out rfl
            have st := ST.out
            have an := ANO.out rfl
            generalize addH (s1, s2) (m1, m2) = N at *
            obtain ⟨⟨n1, n2⟩, ne⟩ := N
            dsimp only at a2 nx st an
            have A2 := Lib.hid a2; have NX := Lib.hid nx; have ST := Lib.hid st; have AN := Lib.hid an
            clear a2 nx st AD an ANO MNO
            by_cases hne : ne = 0
            · subst hne
              have hgo : Hid (sumK l m (xn, xd) (k + 1) = some (n1, n2)) := NX.out rfl
              have wk : IntKind.i64.wrap ((k : Int) + 1) = (k : Int) + 1 := IntWalk.i64_in _ (by have := LN.out; have := HLT.out; omega)
              go_wp2_with (go_at_call 28; (with_reducible refine (A2.out _).mono ?_); rintro e w7 ⟨rfl, hb⟩; have H3 := H2.keep hb; have z0 := H3.S.k0; have z1 := H3.S.k1; have y0 := H3.s0; have y1 := H3.s1; have H3 := Lib.hid H3; clear hb)
              go_roundg (n - (k + 1))
              case measure => have := HG.out; have := HLT.out; omega
              case rel => exact ⟨k + 1, (n1, n2), by push_cast; rfl, by have := HLT.out; omega, rfl, hgo.out, H3.out.store n1 n2⟩
            · have HV : Hid (V = ((0, 0), 3)) := OV.out (sumK_none (ST.out (fun g => hne g.2)) _ (by have := HLT.out; omega))
              have hN := AN.out hne
              have a2 := A2.out
              obtain ⟨⟨rfl, rfl⟩, rfl⟩ : (n1 = 0 ∧ n2 = 0) ∧ ne = 3 := by simpa using hN
              clear A2 NX ST AN hne hN
              have A2 := Lib.hid a2
              clear a2
              go_wp2_with (go_at_call 28; (with_reducible refine (A2.out _).mono ?_); rintro e w7 ⟨rfl, hb⟩; have H3 := H2.keep hb; have z0 := H3.S.k0; have z1 := H3.S.k1; have y0 := H3.s0; have y1 := H3.s1; have H4 := H3.store 0 0; have e0 := H4.E.k0; have e1 := H4.E.k1; have f0 := H4.e0; have f1 := H4.e1; have H4 := Lib.hid H4; clear hb H3)
              obtain ⟨c0, c1⟩ := set_pair (x := .int .i64 0) (y := .int .i64 0) e0 e1
              exact bodyPost_ret (v := .tuple #[ratV 0 0, .int .i64 3]) (by simp [results, Tryd.results21, go_sem, c0, c1]) rfl ⟨by rw [HV.out], (H4.out.below.setCell (by show w.heap.size ≤ w.heap.size + 1; omega) _).setCell (by show w.heap.size ≤ w.heap.size + 1; omega) _⟩
          · have HV : Hid (V = ((0, 0), 3)) := OV.out (sumK_none (ST.out (fun g => hme g.1)) _ (by have := HLT.out; omega))
            have hN := MNO.out hme
            obtain ⟨⟨rfl, rfl⟩, rfl⟩ : (m1 = 0 ∧ m2 = 0) ∧ me = 3 := by simpa using hN
            have e0 := H2.E.k0; have e1 := H2.E.k1; have f0 := H2.e0; have f1 := H2.e1
            clear AD NX ST ANO MNO hme hN HM RC H2
            go_wp2_with fail
            obtain ⟨c0, c1⟩ := set_pair (x := .int .i64 0) (y := .int .i64 0) e0 e1
            exact bodyPost_ret (v := .tuple #[ratV 0 0, .int .i64 3]) (by simp [results, Tryd.results21, go_sem, c0, c1]) rfl ⟨by rw [HV.out], (B2.out.setCell (by show w.heap.size ≤ w.heap.size + 1; omega) _).setCell (by show w.heap.size ≤ w.heap.size + 1; omega) _⟩
  · have hma' : allR (m.take 8) = false := by simpa using hma
    rw [hma'] at ar
    have HV := Lib.hid (valT_no (l := l) (m := m) (kx := (xn, xd)) (fun g => hma g.2))
    generalize valT l m (xn, xd) = V at *
    have AR := Lib.hid ar
    have hmin : min (m.length : Int) 8 = (j : Int) := by omega
    have j1 : (j : Int) ≤ (d : Int) := by omega
    have j2 : (0 : Int) ≤ (j : Int) := by omega
    clear rt al ox a2 a3 a4 g2 g3 g4 hb hl hm x1 x2 x3 x4 hr h8 hma hma' hn ar hj hjt
    generalize l.length = ll at *
    generalize m.length = lm at *
    obtain ⟨F, E, ⟨f0, f1⟩, hb0⟩ := val_boxes w (.slice A ll c) (.int .i64 xn) (.int .i64 xd) 26 24
    go_enter Tryd.func21, Tryd.ntmps21
    go_wp2_with (first
      | (go_at_call 15; (with_reducible refine (RT.out _ hb0).mono ?_); rintro e w1 ⟨rfl, hb1⟩; have F := F.keep hb1; have E := E.keep hb1; have f0 := keep_free hb1 (by simp) f0; have f1 := keep_free hb1 (by simp) f1; have b1 := hb0.trans (hb1.mono hb0.size))
      | (go_at_call 33; (with_reducible refine (AR.out _ b1).mono ?_); rintro e w2 ⟨rfl, hb2⟩; have f0 := keep_free hb2 E.lt f0; have f1 := keep_free hb2 E.lt f1; have E := E.keep hb2; have b2 := Lib.hid (b1.trans (hb2.mono b1.size)); have e0 := E.k0; have e1 := E.k1))
    obtain ⟨c0, c1⟩ := set_pair (x := .int .i64 0) (y := .int .i64 0) e0 e1
    exact bodyPost_ret (v := .tuple #[ratV 0 0, .int .i64 2]) (by simp [results, Tryd.results21, go_sem, c0, c1]) rfl ⟨by rw [HV.out], (b2.out.setCell (by show w.heap.size ≤ w.heap.size + 1; omega) _).setCell (by show w.heap.size ≤ w.heap.size + 1; omega) _⟩
end Go.Proofs.YtkgndeiddjkhmaaDoor

namespace Go.Proofs.YtkgndeiddjkhmaaDoor
open Go.RowKit

set_option maxRecDepth 4000 in
set_option maxHeartbeats 4000000 in
theorem rval_wrong (w : World) (va vb : Value) (l m : List (Int × Int)) (xn xd : Int) (ha : RatsAt w va l) (hb : RatsAt w vb m) (hl : Wide l) (x1 : -9223372036854775808 ≤ xn) (x2 : xn ≤ 9223372036854775807) (x3 : -9223372036854775808 ≤ xd) (x4 : xd ≤ 9223372036854775807) (hr : rightT l xn xd = false) :
    Calls Tryd.prog 22 #[.agg #[va, .int .i64 xn, .int .i64 xd], vb] w fun r w' => r = .returned (.tuple #[ratV (valT l m (xn, xd)).1.1 (valT l m (xn, xd)).1.2, .int .i64 (valT l m (xn, xd)).2]) ∧ Below w.heap.size w w' := by
  have rt := fun (w' : World) (h : Below w.heap.size w w') => r2right_any w' va l xn xd (ha.below h) hl x1 x2 x3 x4
  rw [hr] at rt
  have hv0 := valT_no (m := m) (kx := (xn, xd)) (l := l) (fun g => by rw [hr] at g; cases g.1)
  generalize valT l m (xn, xd) = V at *
  have HV0 := Lib.hid hv0
  have RT := Lib.hid rt
  obtain ⟨A, c, rfl⟩ := rats_shape ha
  obtain ⟨B, d, rfl, g2, g3, g4⟩ := hb
  unfold maxLen at g3
  clear rt ha hl x1 x2 x3 x4 hr hv0
  generalize l.length = ll at *
  generalize m.length = n at *
  clear g4 g2 g3
  obtain ⟨F, E, ⟨f0, f1⟩, hb0⟩ := val_boxes w (.slice A ll c) (.int .i64 xn) (.int .i64 xd) 26 24
  go_enter Tryd.func22, Tryd.ntmps22
  go_wp2_with (go_at_call 16; (with_reducible refine (RT.out _ hb0).mono ?_); rintro e w1 ⟨rfl, hb1⟩; have E := E.keep hb1; have f0 := keep_free hb1 (by simp) f0; have f1 := keep_free hb1 (by simp) f1; have b1 := hb0.trans (hb1.mono hb0.size); have e0 := E.k0; have e1 := E.k1)
  obtain ⟨c0, c1⟩ := set_pair (x := .int .i64 0) (y := .int .i64 0) E.k0 E.k1
  exact bodyPost_ret (v := .tuple #[ratV 0 0, .int .i64 2]) (by simp [results, Tryd.results22, go_sem, c0, c1]) rfl ⟨by rw [HV0.out], (b1.setCell (by show w.heap.size ≤ w.heap.size + 1; omega) _).setCell (by show w.heap.size ≤ w.heap.size + 1; omega) _⟩

set_option maxRecDepth 4000 in
set_option maxHeartbeats 8000000 in
theorem rval_right (w : World) (va vb : Value) (l m : List (Int × Int)) (xn xd : Int) (ha : RatsAt w va l) (hb : RatsAt w vb m) (hl : Wide l) (hm : Wide m) (x1 : -9223372036854775808 ≤ xn) (x2 : xn ≤ 9223372036854775807) (x3 : -9223372036854775808 ≤ xd) (x4 : xd ≤ 9223372036854775807) (hr : rightT l xn xd = true) :
    Calls Tryd.prog 22 #[.agg #[va, .int .i64 xn, .int .i64 xd], vb] w fun r w' => r = .returned (.tuple #[ratV (valT l m (xn, xd)).1.1 (valT l m (xn, xd)).1.2, .int .i64 (valT l m (xn, xd)).2]) ∧ Below w.heap.size w w' := by
  obtain ⟨h8, al, ox⟩ := right_parts hr hl x1 x2 x3 x4
  have rt := fun (w' : World) (h : Below w.heap.size w w') => r2right_any w' va l xn xd (ha.below h) hl x1 x2 x3 x4
  rw [hr] at rt
  have RT := Lib.hid rt
  have OKL := Lib.hid al; have OKX := Lib.hid ox
  have HM8 := Lib.hid (fun x hx => hm x (List.mem_of_mem_take hx) : Wide (m.take 8))
  obtain ⟨A, c, rfl, a2, a3, a4⟩ := ha
  obtain ⟨B, d, rfl, g2, g3, g4⟩ := id hb
  unfold maxLen at g3
  obtain ⟨n, hn⟩ : ∃ n, n = min l.length m.length := ⟨_, rfl⟩
  have LN := Lib.hid (show n = min l.length m.length ∧ l.length ≤ 8 ∧ n ≤ 8 ∧ m.length ≤ 9223372036854775807 from by omega)
  have G4 := Lib.hid a4; have B4 := Lib.hid g4
  have LE := Lib.hid (And.intro (fun (k : Nat) (h : k < l.length) => (⟨_, List.getElem?_eq_getElem h⟩ : ∃ x, l[k]? = some x)) (fun (k : Nat) (h : k < m.length) => (⟨_, List.getElem?_eq_getElem h⟩ : ∃ x, m[k]? = some x)))
  have HR := Lib.hid hr
  have HMW := Lib.hid hm
  obtain ⟨V, hv0⟩ : ∃ V, V = valT l m (xn, xd) := ⟨_, rfl⟩
  rw [← hv0]
  have HV0 := Lib.hid hv0
  obtain ⟨j, hj⟩ : ∃ j, j = min m.length 8 := ⟨_, rfl⟩
  have JT := Lib.hid (show (j = min m.length 8 ∧ m.length ≤ 9223372036854775807) ∧ m.take j = m.take 8 from ⟨⟨hj, by omega⟩, by rw [hj, take_min]⟩)
  have LM := Lib.hid (And.intro (fun (hma : allR (m.take 8) = true) (s : Int × Int) (e : sumK l m (xn, xd) n = some s) => valT_end (kx := (xn, xd)) (l := l) (m := m) (s := s) ⟨hr, hma⟩ (by rw [← hn]; exact e)) (fun (hma : allR (m.take 8) = true) (e : sumK l m (xn, xd) n = none) => valT_over (kx := (xn, xd)) (l := l) (m := m) ⟨hr, hma⟩ (by rw [← hn]; exact e)))
  clear rt al ox a2 a3 a4 g2 g3 g4 hb hl hm x1 x2 x3 x4 hr h8 hn hv0 hj
  generalize l.length = ll at *
  generalize m.length = lm at *
  by_cases h8m : 8 < lm
  · skip
    obtain ⟨F, E, ⟨f0, f1⟩, hb0⟩ := val_boxes w (.slice A ll c) (.int .i64 xn) (.int .i64 xd) 26 24
    go_enter Tryd.func22, Tryd.ntmps22
    go_upto_region 3 with (go_at_call 16; (with_reducible refine (RT.out _ hb0).mono ?_); rintro e w1 ⟨rfl, hb1⟩; have H0 := Lib.hid ((BoxV.mk F E f0 f1 hb0).keep hb1))
    clear F E f0 f1 hb0 hb1
    go_wp2_with fail
    go_loopg [6] j (fun g v6 wr => ∃ k : Nat, v6 = .int .i64 k ∧ k ≤ j ∧ g = j - k ∧ allR (m.take k) = true ∧ BoxV w wr (.slice A ll c) xn xd)
    case atStart => exact ⟨0, rfl, Nat.zero_le _, rfl, by rw [List.take_zero]; rfl, H0.out⟩
    case round =>
      clear H0
      obtain ⟨k, rfl, hk, hg, hall, H⟩ := hrel
      by_cases hkj : k = j
      · subst hkj
        have hma : allR (m.take 8) = true := by rw [JT.out.2] at hall; exact hall
        have ve := fun (s : Int × Int) (e : sumK l m (xn, xd) n = some s) => HV0.out.trans (LM.out.1 hma s e)
        have ov := fun (e : sumK l m (xn, xd) n = none) => HV0.out.trans (LM.out.2 hma e)
        have VE := Lib.hid ve; have OV := Lib.hid ov
        have OKM := Lib.hid (And.intro hma HMW.out)
        have k1 := H.F.k1; have k2 := H.F.k2
        have HX := Lib.hid H
        obtain rfl : k = 8 := by have := JT.out; omega
        have x1 : decide (8 < lm) = true := decide_eq_true h8m
        have x2 : (8 : Int) < (lm : Int) := by omega
        clear ve ov hma hall hk hg H
        go_upto_region 9 with fail
        clear k1 k2 x1 x2
        have a1 := below_alloc1 wr (.cells #[.int .i64 xn, .int .i64 xd] 24)
        have e3 := HX.out.E.lt
        have H1 := HX.out.keep a1
        have V0 : ValS w (wr.alloc (.cells #[.int .i64 xn, .int .i64 xd] 24)) wr.heap.size (.slice A ll c) xn xd xn xd :=
          ⟨H1.F, H1.E, H1.e0, H1.e1, RatAt.start wr xn xd 24, by go_simp, by go_simp, e3, H1.below⟩
        have V0 := Lib.hid V0
        obtain ⟨w9, hw9⟩ : ∃ w9, w9 = wr.alloc (.cells #[.int .i64 xn, .int .i64 xd] 24) := ⟨_, rfl⟩
        rw [← hw9] at V0 ⊢
        generalize wr.heap.size = b at *
        clear a1 e3 H1 HX hw9
        go_wp2_with fail
        go_loopg [8] n (fun g v8 wr => ∃ (k : Nat) (s : Int × Int), v8 = .int .i64 k ∧ k ≤ n ∧ g = n - k ∧ sumK l m (xn, xd) k = some s ∧ ValS w wr b (.slice A ll c) xn xd s.1 s.2)
        case atStart => exact ⟨0, (xn, xd), rfl, Nat.zero_le _, rfl, rfl, V0.out⟩
        case round =>
          clear V0
          obtain ⟨k, s, rfl, hk, hg, hs, H⟩ := hrel
          by_cases hkn : k = n
          · subst hkn
            have HV := Lib.hid (VE.out s hs)
            obtain ⟨s1, s2⟩ := s
            dsimp only at H
            have z0 := H.S.k0; have z1 := H.S.k1; have e0 := H.E.k0; have e1 := H.E.k1; have f0 := H.e0; have f1 := H.e1; have k0 := H.F.k0
            have HB := Lib.hid H.below
            clear hs hg hk H
            by_cases hll : k < ll
            · have i1 : (k : Int) < (ll : Int) := by omega
              have i2 : decide (k < ll) = true := decide_eq_true hll
              have i3 : decide (k < lm) = false := decide_eq_false (by have := LN.out; omega)
              have i4 : lm ≤ k := by have := LN.out; omega
              go_wp2_with fail
              obtain ⟨c0, c1⟩ := set_pair (x := .int .i64 s1) (y := .int .i64 s2) e0 e1
              exact bodyPost_ret (v := .tuple #[ratV s1 s2, .int .i64 0]) (by simp [results, Tryd.results22, go_sem, c0, c1]) rfl ⟨by rw [HV.out], (HB.out.setCell (by show w.heap.size ≤ w.heap.size + 1; omega) _).setCell (by show w.heap.size ≤ w.heap.size + 1; omega) _⟩
            · have i2 : decide (k < ll) = false := decide_eq_false hll
              have i4 : ll ≤ k := by omega
              go_wp2_with fail
              obtain ⟨c0, c1⟩ := set_pair (x := .int .i64 s1) (y := .int .i64 s2) e0 e1
              exact bodyPost_ret (v := .tuple #[ratV s1 s2, .int .i64 0]) (by simp [results, Tryd.results22, go_sem, c0, c1]) rfl ⟨by rw [HV.out], (HB.out.setCell (by show w.heap.size ≤ w.heap.size + 1; omega) _).setCell (by show w.heap.size ≤ w.heap.size + 1; omega) _⟩
          · have hlt : k < n := by omega
            obtain ⟨x, hx⟩ := LE.out.1 k (by have := LN.out; omega)
            obtain ⟨y, hy⟩ := LE.out.2 k (by have := LN.out; omega)
            obtain ⟨ad, rfl, d1, d3⟩ := rats_cells G4.out H.below hx (by have := LN.out; omega)
            obtain ⟨bd, rfl, t1, t3⟩ := rats_cells B4.out H.below hy (by have := LN.out; omega)
            have hox : OkR (atL l k) := OKL.out.at k
            have hoy : OkR (atL m k) := take_right OKM.out.1 OKM.out.2 (by have := LN.out; omega)
            have ex : atL l k = x := atL_in hx
            have ey : atL m k = y := atL_in hy
            have hos : OkR s := sumK_okT OKL.out OKM.out.1 OKM.out.2 OKX.out k s (by have := LN.out; omega) hs
            have hm1 := fun (w' : World) => rdo_mul w' (atL l k) (atL m k) hox hoy
            have mno := mulH_ok.no (atL l k) (atL m k) hox hoy
            have nx := @sumK_next l m (xn, xd) s k hs
            have st := @sumK_stop l m (xn, xd) s k hs
            have ad1 := fun (w' : World) (h : (mulH (atL l k) (atL m k)).2 = 0) => rdo_add w' s (mulH (atL l k) (atL m k)).1 hos (mulH_ok.ok _ _ hox hoy h)
            have ano := fun (h : (mulH (atL l k) (atL m k)).2 = 0) => addH_ok.no s (mulH (atL l k) (atL m k)).1 hos (mulH_ok.ok _ _ hox hoy h)
            rw [ex, ey] at hm1 nx st ad1 mno ano
            obtain ⟨p1, p2⟩ := x
            obtain ⟨q1, q2⟩ := y
            obtain ⟨s1, s2⟩ := s
            dsimp only at hm1 d1 d3 t1 t3 H ad1 nx st mno ano
            have HS := hold_vals (A := True) (below_drew _) (And.intro (And.intro trivial (And.intro (And.intro d1 d3) (And.intro t1 t3))) H)
            generalize mulH (p1, p2) (q1, q2) = M at *
            obtain ⟨⟨m1, m2⟩, me⟩ := M
            dsimp only at hm1 ad1 nx st mno ano
            have HM := Lib.hid hm1; have NX := Lib.hid nx; have ST := Lib.hid st; have AD := Lib.hid ad1; have HLT := Lib.hid hlt; have HG := Lib.hid hg; have MNO := Lib.hid mno; have ANO := Lib.hid ano
            have i1 : (k : Int) < (ll : Int) := by have := LN.out; omega
            have i2 : (0 : Int) ≤ (k : Int) := by omega
            have i3 : (k : Int) < (lm : Int) := by have := LN.out; omega
            have g1 : decide (k < ll) = true := decide_eq_true (by have := LN.out; omega)
            have g3 : decide (k < lm) = true := decide_eq_true (by have := LN.out; omega)
            have k0 := H.F.k0
            clear hx hy hox hoy ex ey hos hm1 nx st ad1 hs hlt hg hk hkn mno ano
            go_upto_region 12 with fail
            clear k0 d1 d3 t1 t3
            go_cut [9, 10] from 34 to 73 (fun v8 v9 wx => ValMid w b (.slice (some ad) ll c) xn xd s1 s2 m1 m2 me v8 v9 wx)
            case first =>
              clear H
              refine wp_region_noPanic ?_
              refine wp_region_held_drew (S := (fun w' => (w'.cell? ⟨w.heap.size, 0, none⟩ = some (.slice (some ad) ll c) ∧ (w'.cell? (ad.add (k * 2)) = some (.int .i64 p1) ∧ w'.cell? ⟨(ad.add (k * 2)).block, (ad.add (k * 2)).off + 1, none⟩ = some (.int .i64 p2)) ∧ (w'.cell? (bd.add (k * 2)) = some (.int .i64 q1) ∧ w'.cell? ⟨(bd.add (k * 2)).block, (bd.add (k * 2)).off + 1, none⟩ = some (.int .i64 q2))) ∧ ValS w w' b (.slice (some ad) ll c) xn xd s1 s2)) (by kernel_rfl) HS (fun hHeld => ?_)
              clear HS
              refine wpAnyH_take (i := 0) (oi := _) (v := ?_) rfl (by kernel_rfl) (by kernel_rfl) (by kernel_rfl) (fun _ _ _ h => h) (Or.inl ⟨by rfl, ?_⟩) (by assumption) ?_
              rotate_left
              · intro ww hSw
                (try dsimp only at hSw)
                go_simp <;> with_reducible rfl
              (try simp only [List.getElem_toArray, List.getElem_cons_zero, Act.put, List.setIfInBounds_toArray, List.set_cons_zero, List.set_cons_succ])
              refine wpAnyH_take (i := 1) (oi := _) (v := ?_) rfl (by kernel_rfl) (by kernel_rfl) (by kernel_rfl) (fun _ _ _ h => h) (Or.inl ⟨by rfl, ?_⟩) (by assumption) ?_
              rotate_left
              · intro ww hSw
                (try dsimp only at hSw)
                go_simp <;> with_reducible rfl
              (try simp only [List.getElem_toArray, List.getElem_cons_succ, List.getElem_cons_zero, Act.put, List.setIfInBounds_toArray, List.set_cons_zero, List.set_cons_succ])
              refine wpAnyH_take (i := 2) (oi := _) (v := ?_) rfl (by kernel_rfl) (by kernel_rfl) (by kernel_rfl) (fun _ _ _ h => h) (Or.inl ⟨by rfl, ?_⟩) (by assumption) ?_
              rotate_left
              · intro ww hSw
                (try dsimp only at hSw)
                go_simp <;> with_reducible rfl
              (try simp only [List.getElem_toArray, List.getElem_cons_succ, List.getElem_cons_zero, Act.put, List.setIfInBounds_toArray, List.set_cons_zero, List.set_cons_succ])
              refine wpAnyH_take (i := 3) (oi := _) (v := ?_) rfl (by kernel_rfl) (by kernel_rfl) (by kernel_rfl) (fun _ _ _ h => h) (Or.inl ⟨by rfl, ?_⟩) (by assumption) ?_
              rotate_left
              · intro ww hSw
                (try dsimp only at hSw)
                go_simp <;> with_reducible rfl
              (try simp only [List.getElem_toArray, List.getElem_cons_succ, List.getElem_cons_zero, Act.put, List.setIfInBounds_toArray, List.set_cons_zero, List.set_cons_succ])
              refine wpAnyH_take (i := 4) (oi := _) (v := ?_) rfl (by kernel_rfl) (by kernel_rfl) (by kernel_rfl) (fun _ _ _ h => h) (Or.inl ⟨by rfl, ?_⟩) (by assumption) ?_
              rotate_left
              · intro ww hSw
                (try dsimp only at hSw)
                go_simp <;> with_reducible rfl
              (try simp only [List.getElem_toArray, List.getElem_cons_succ, List.getElem_cons_zero, Act.put, List.setIfInBounds_toArray, List.set_cons_zero, List.set_cons_succ])
              refine wpAnyH_take (i := 5) (oi := _) (v := ?_) rfl (by kernel_rfl) (by kernel_rfl) (by kernel_rfl) (fun _ _ _ h => h) (Or.inl ⟨by rfl, ?_⟩) (by assumption) ?_
              rotate_left
              · intro ww hSw
                (try dsimp only at hSw)
                go_simp <;> with_reducible rfl
              (try simp only [List.getElem_toArray, List.getElem_cons_succ, List.getElem_cons_zero, Act.put, List.setIfInBounds_toArray, List.set_cons_zero, List.set_cons_succ])
              refine wpAnyH_take (i := 6) (oi := _) (v := ?_) rfl (by kernel_rfl) (by kernel_rfl) (by kernel_rfl) (fun _ _ _ h => h) (Or.inl ⟨by rfl, ?_⟩) (by assumption) ?_
              rotate_left
              · intro ww hSw
                (try dsimp only at hSw)
                go_simp <;> with_reducible rfl
              (try simp only [List.getElem_toArray, List.getElem_cons_succ, List.getElem_cons_zero, Act.put, List.setIfInBounds_toArray, List.set_cons_zero, List.set_cons_succ])
              refine wpAnyH_take (i := 7) (oi := _) (v := ?_) rfl (by kernel_rfl) (by kernel_rfl) (by kernel_rfl) (fun _ _ _ h => h) (Or.inl ⟨by rfl, ?_⟩) (by assumption) ?_
              rotate_left
              · intro ww hSw
                (try dsimp only at hSw)
                go_simp <;> with_reducible rfl
              (try simp only [List.getElem_toArray, List.getElem_cons_succ, List.getElem_cons_zero, Act.put, List.setIfInBounds_toArray, List.set_cons_zero, List.set_cons_succ])
              refine wpAnyH_take (i := 8) (oi := _) (v := ?_) rfl (by kernel_rfl) (by kernel_rfl) (by kernel_rfl) (fun _ _ _ h => h) (Or.inl ⟨by rfl, ?_⟩) (by assumption) ?_
              rotate_left
              · intro ww hSw
                (try dsimp only at hSw)
                go_simp <;> with_reducible rfl
              (try simp only [List.getElem_toArray, List.getElem_cons_succ, List.getElem_cons_zero, Act.put, List.setIfInBounds_toArray, List.set_cons_zero, List.set_cons_succ])
              refine wpAnyH_ready (rs := [9, 13]) (by kernel_rfl) (by simp) ?_
              refine AllReadyH.cons (o := _) rfl (fun K hK => ?_) ?_
              · go_simp
                (go_at_call 23; (with_reducible refine (HM.out _).mono ?_); rintro e w6 ⟨rfl, hb⟩; (try (have HC := Lib.hid (HC.out.keep hb))))
                go_wp2_with fail
                refine hK.out _ _ (hold_vals (by with_reducible assumption) (by with_reducible assumption)) (fun hH2 => ?_)
                clear hK K hHeld hb
                have hHeld := hH2
                clear hH2
                (try simp only [List.getElem_toArray, List.getElem_cons_succ, List.getElem_cons_zero, Act.put, List.setIfInBounds_toArray, List.set_cons_zero, List.set_cons_succ])
                refine wpAnyH_take (i := 10) (oi := _) (v := ?_) rfl (by kernel_rfl) (by kernel_rfl) (by kernel_rfl) (fun _ _ _ h => h) (Or.inl ⟨by rfl, ?_⟩) (by assumption) ?_
                rotate_left
                · intro ww hSw
                  (try dsimp only at hSw)
                  go_simp <;> with_reducible rfl
                (try simp only [List.getElem_toArray, List.getElem_cons_succ, List.getElem_cons_zero, Act.put, List.setIfInBounds_toArray, List.set_cons_zero, List.set_cons_succ])
                refine wpAnyH_take (i := 11) (oi := _) (v := ?_) rfl (by kernel_rfl) (by kernel_rfl) (by kernel_rfl) (fun _ _ _ h => h) (Or.inl ⟨by rfl, ?_⟩) (by assumption) ?_
                rotate_left
                · intro ww hSw
                  (try dsimp only at hSw)
                  go_simp <;> with_reducible rfl
                (try simp only [List.getElem_toArray, List.getElem_cons_succ, List.getElem_cons_zero, Act.put, List.setIfInBounds_toArray, List.set_cons_zero, List.set_cons_succ])
                refine wpAnyH_take (i := 12) (oi := _) (v := ?_) rfl (by kernel_rfl) (by kernel_rfl) (by kernel_rfl) (fun _ _ _ h => h) (Or.inl ⟨by rfl, ?_⟩) (by assumption) ?_
                rotate_left
                · intro ww hSw
                  (try dsimp only at hSw)
                  go_simp <;> with_reducible rfl
                (try simp only [List.getElem_toArray, List.getElem_cons_succ, List.getElem_cons_zero, Act.put, List.setIfInBounds_toArray, List.set_cons_zero, List.set_cons_succ])
                refine wpAnyH_ready (rs := [13]) (by kernel_rfl) (by simp) ?_
                refine AllReadyH.cons (o := _) rfl (fun K hK => ?_) AllReadyH.nil
                go_simp
                refine hK.out _ _ (hold_vals (below_alloc1 _ _) (by with_reducible assumption)) (fun hH2 => ?_)
                clear hK K
                (first | have HC := Lib.hid (vhole_of hH2) | have HC := Lib.hid (vhole_of2 hH2))
                have hHeld0 := Lib.hid hHeld
                clear hHeld
                have hHeld := hH2
                clear hH2
                (try simp only [List.getElem_toArray, List.getElem_cons_succ, List.getElem_cons_zero, Act.put, List.setIfInBounds_toArray, List.set_cons_zero, List.set_cons_succ])
                refine wpAnyH_ready (rs := [14]) (by kernel_rfl) (by simp) ?_
                refine AllReadyH.cons (o := _) rfl (fun K hK => ?_) AllReadyH.nil
                obtain ⟨h6, h0, h1, h2, h3, h4, h5⟩ := HC.out
                clear h6
                go_simp
                clear h0 h1 h2 h3 h4 h5
                (first
                  | refine hK.out _ _ (hold_vals (below_alloc1 _ _) hHeld0.out) (fun hH2 => ?_)
                  | refine hK.out _ _ (hold_vals (HC.out.fill _ _).1 hHeld0.out) (fun hH2 => ?_))
                clear hK K hHeld
                have hHeld := hH2
                clear hH2
                (try simp only [List.getElem_toArray, List.getElem_cons_succ, List.getElem_cons_zero, Act.put, List.setIfInBounds_toArray, List.set_cons_zero, List.set_cons_succ])
                refine wpAnyH_take (i := 15) (oi := _) (v := ?_) rfl (by kernel_rfl) (by kernel_rfl) (by kernel_rfl) (fun _ _ _ h => h) (Or.inl ⟨by rfl, ?_⟩) (by assumption) ?_
                rotate_left
                · intro ww hSw
                  (try dsimp only at hSw)
                  go_simp <;> with_reducible rfl
                (try simp only [List.getElem_toArray, List.getElem_cons_succ, List.getElem_cons_zero, Act.put, List.setIfInBounds_toArray, List.set_cons_zero, List.set_cons_succ])
                refine wpAnyH_done (by kernel_rfl) ?_ _
                refine NoPanic.normal ?_
                go_wp2_with fail
                go_meet
                case rel => first | exact vmid_alloc (vals_of hHeld0.out) 24 | exact vmid_fill (vals_of hHeld0.out) HC.out
              refine AllReadyH.cons (o := _) rfl (fun K hK => ?_) AllReadyH.nil
              go_simp
              refine hK.out _ _ (hold_vals (below_alloc1 _ _) (by with_reducible assumption)) (fun hH2 => ?_)
              clear hK K
              (first | have HC := Lib.hid (vhole_of hH2) | have HC := Lib.hid (vhole_of2 hH2))
              have hHeld0 := Lib.hid hHeld
              clear hHeld
              have hHeld := hH2
              clear hH2
              (try simp only [List.getElem_toArray, List.getElem_cons_succ, List.getElem_cons_zero, Act.put, List.setIfInBounds_toArray, List.set_cons_zero, List.set_cons_succ])
              refine wpAnyH_ready (rs := [9]) (by kernel_rfl) (by simp) ?_
              refine AllReadyH.cons (o := _) rfl (fun K hK => ?_) AllReadyH.nil
              go_simp
              (go_at_call 23; (with_reducible refine (HM.out _).mono ?_); rintro e w6 ⟨rfl, hb⟩; (try (have HC := Lib.hid (HC.out.keep hb))))
              go_wp2_with fail
              refine hK.out _ _ (hold_vals (by with_reducible assumption) (by with_reducible assumption)) (fun hH2 => ?_)
              clear hK K hHeld hb
              have hHeld := hH2
              clear hH2
              (try simp only [List.getElem_toArray, List.getElem_cons_succ, List.getElem_cons_zero, Act.put, List.setIfInBounds_toArray, List.set_cons_zero, List.set_cons_succ])
              refine wpAnyH_take (i := 10) (oi := _) (v := ?_) rfl (by kernel_rfl) (by kernel_rfl) (by kernel_rfl) (fun _ _ _ h => h) (Or.inl ⟨by rfl, ?_⟩) (by assumption) ?_
              rotate_left
              · intro ww hSw
                (try dsimp only at hSw)
                go_simp <;> with_reducible rfl
              (try simp only [List.getElem_toArray, List.getElem_cons_succ, List.getElem_cons_zero, Act.put, List.setIfInBounds_toArray, List.set_cons_zero, List.set_cons_succ])
              refine wpAnyH_take (i := 11) (oi := _) (v := ?_) rfl (by kernel_rfl) (by kernel_rfl) (by kernel_rfl) (fun _ _ _ h => h) (Or.inl ⟨by rfl, ?_⟩) (by assumption) ?_
              rotate_left
              · intro ww hSw
                (try dsimp only at hSw)
                go_simp <;> with_reducible rfl
              (try simp only [List.getElem_toArray, List.getElem_cons_succ, List.getElem_cons_zero, Act.put, List.setIfInBounds_toArray, List.set_cons_zero, List.set_cons_succ])
              refine wpAnyH_take (i := 12) (oi := _) (v := ?_) rfl (by kernel_rfl) (by kernel_rfl) (by kernel_rfl) (fun _ _ _ h => h) (Or.inl ⟨by rfl, ?_⟩) (by assumption) ?_
              rotate_left
              · intro ww hSw
                (try dsimp only at hSw)
                go_simp <;> with_reducible rfl
              (try simp only [List.getElem_toArray, List.getElem_cons_succ, List.getElem_cons_zero, Act.put, List.setIfInBounds_toArray, List.set_cons_zero, List.set_cons_succ])
              refine wpAnyH_ready (rs := [14]) (by kernel_rfl) (by simp) ?_
              refine AllReadyH.cons (o := _) rfl (fun K hK => ?_) AllReadyH.nil
              obtain ⟨h6, h0, h1, h2, h3, h4, h5⟩ := HC.out
              clear h6
              go_simp
              clear h0 h1 h2 h3 h4 h5
              (first
                | refine hK.out _ _ (hold_vals (below_alloc1 _ _) hHeld0.out) (fun hH2 => ?_)
                | refine hK.out _ _ (hold_vals (HC.out.fill _ _).1 hHeld0.out) (fun hH2 => ?_))
              clear hK K hHeld
              have hHeld := hH2
              clear hH2
              (try simp only [List.getElem_toArray, List.getElem_cons_succ, List.getElem_cons_zero, Act.put, List.setIfInBounds_toArray, List.set_cons_zero, List.set_cons_succ])
              refine wpAnyH_take (i := 15) (oi := _) (v := ?_) rfl (by kernel_rfl) (by kernel_rfl) (by kernel_rfl) (fun _ _ _ h => h) (Or.inl ⟨by rfl, ?_⟩) (by assumption) ?_
              rotate_left
              · intro ww hSw
                (try dsimp only at hSw)
                go_simp <;> with_reducible rfl
              (try simp only [List.getElem_toArray, List.getElem_cons_succ, List.getElem_cons_zero, Act.put, List.setIfInBounds_toArray, List.set_cons_zero, List.set_cons_succ])
              refine wpAnyH_done (by kernel_rfl) ?_ _
              refine NoPanic.normal ?_
              go_wp2_with fail
              go_meet
              case rel => first | exact vmid_alloc (vals_of hHeld0.out) 24 | exact vmid_fill (vals_of hHeld0.out) HC.out
            case rest =>
              obtain ⟨cc, rfl, rfl, RC, H2⟩ := hcut
              clear H HS
              have B2 := Lib.hid H2.below
              by_cases hme : me = 0
              · subst hme
                have a2 := fun (w' : World) => AD.out w' rfl
                have k0 := RC.k0; have k1 := RC.k1; have z0 := H2.S.k0; have z1 := H2.S.k1
                have nx := NX.out rfl
                have st := ST.out
                have an := ANO.out rfl
                generalize addH (s1, s2) (m1, m2) = N at *
                obtain ⟨⟨n1, n2⟩, ne⟩ := N
                dsimp only at a2 nx st an
                have A2 := Lib.hid a2; have NX := Lib.hid nx; have ST := Lib.hid st; have AN := Lib.hid an
                clear a2 nx st AD an ANO MNO
                by_cases hne : ne = 0
                · subst hne
                  have hgo : Hid (sumK l m (xn, xd) (k + 1) = some (n1, n2)) := NX.out rfl
                  have wk : IntKind.i64.wrap ((k : Int) + 1) = (k : Int) + 1 := IntWalk.i64_in _ (by have := LN.out; have := HLT.out; omega)
                  go_wp2_with (go_at_call 23; (with_reducible refine (A2.out _).mono ?_); rintro e w7 ⟨rfl, hb⟩; have H3 := H2.keep hb; have z0 := H3.S.k0; have z1 := H3.S.k1; have y0 := H3.s0; have y1 := H3.s1; have H3 := Lib.hid H3; clear hb)
                  go_roundg (n - (k + 1))
                  case measure => have := HG.out; have := HLT.out; omega
                  case rel => exact ⟨k + 1, (n1, n2), by push_cast; rfl, by have := HLT.out; omega, rfl, hgo.out, H3.out.store n1 n2⟩
                · have HV : Hid (V = ((0, 0), 3)) := OV.out (sumK_none (ST.out (fun g => hne g.2)) _ (by have := HLT.out; omega))
                  have hN := AN.out hne
                  have a2 := A2.out
                  obtain ⟨⟨rfl, rfl⟩, rfl⟩ : (n1 = 0 ∧ n2 = 0) ∧ ne = 3 := by simpa using hN
                  clear A2 NX ST AN hne hN
                  have A2 := Lib.hid a2
                  clear a2
                  go_wp2_with (go_at_call 23; (with_reducible refine (A2.out _).mono ?_); rintro e w7 ⟨rfl, hb⟩; have H3 := H2.keep hb; have z0 := H3.S.k0; have z1 := H3.S.k1; have y0 := H3.s0; have y1 := H3.s1; have H4 := H3.store 0 0; have e0 := H4.E.k0; have e1 := H4.E.k1; have f0 := H4.e0; have f1 := H4.e1; have H4 := Lib.hid H4; clear hb H3)
                  obtain ⟨c0, c1⟩ := set_pair (x := .int .i64 0) (y := .int .i64 0) e0 e1
                  exact bodyPost_ret (v := .tuple #[ratV 0 0, .int .i64 3]) (by simp [results, Tryd.results22, go_sem, c0, c1]) rfl ⟨by rw [HV.out], (H4.out.below.setCell (by show w.heap.size ≤ w.heap.size + 1; omega) _).setCell (by show w.heap.size ≤ w.heap.size + 1; omega) _⟩
              · have HV : Hid (V = ((0, 0), 3)) := OV.out (sumK_none (ST.out (fun g => hme g.1)) _ (by have := HLT.out; omega))
                have hN := MNO.out hme
                obtain ⟨⟨rfl, rfl⟩, rfl⟩ : (m1 = 0 ∧ m2 = 0) ∧ me = 3 := by simpa using hN
                have e0 := H2.E.k0; have e1 := H2.E.k1; have f0 := H2.e0; have f1 := H2.e1
                clear AD NX ST ANO MNO hme hN HM RC H2
                go_wp2_with fail
                obtain ⟨c0, c1⟩ := set_pair (x := .int .i64 0) (y := .int .i64 0) e0 e1
                exact bodyPost_ret (v := .tuple #[ratV 0 0, .int .i64 3]) (by simp [results, Tryd.results22, go_sem, c0, c1]) rfl ⟨by rw [HV.out], (B2.out.setCell (by show w.heap.size ≤ w.heap.size + 1; omega) _).setCell (by show w.heap.size ≤ w.heap.size + 1; omega) _⟩
      · have hlt : k < j := by omega
        obtain ⟨y, hy⟩ := LE.out.2 k (by have := JT.out; omega)
        obtain ⟨bd, rfl, t1, t3⟩ := rats_cells B4.out H.below hy (by have := JT.out; omega)
        have hyw := HMW.out y (List.mem_of_getElem? hy)
        have rr := fun (w' : World) => rright_any y.1 y.2 w' hyw.1.1 hyw.1.2 hyw.2.1 hyw.2.2
        have nx := allR_take hy hall
        have hy8 : (m.take 8)[k]? = some y := by rw [List.getElem?_take, if_pos (by have := JT.out; omega)]; exact hy
        have bad := @allR_bad (m.take 8) k y hy8
        have i1 : (k : Int) < (lm : Int) := by have := JT.out; omega
        have i2 : (0 : Int) ≤ (k : Int) := by omega
        have i3 : decide (k < lm) = true := decide_eq_true (by have := JT.out; omega)
        have i4 : (k : Int) < 8 := by have := JT.out; omega
        have i5 : decide (k < 8) = true := decide_eq_true (by have := JT.out; omega)
        have wk : IntKind.i64.wrap ((k : Int) + 1) = (k : Int) + 1 := IntWalk.i64_in _ (by have := JT.out; omega)
        obtain ⟨y1, y2⟩ := y
        dsimp only at rr nx t1 t3 bad
        have HX := Lib.hid H
        have HG := Lib.hid (And.intro hlt hg)
        generalize rightB y1 y2 = rb at *
        have RR := Lib.hid rr; have NX := Lib.hid nx; have BAD := Lib.hid bad
        clear rr nx bad hy hy8 hyw hall hk hg hkj hlt H
        cases rb
        · have HV : Hid (V = ((0, 0), 2)) := HV0.out.trans (valT_no (fun g => by rw [BAD.out rfl] at g; cases g.2))
          go_wp2_with (go_at_call 34; (with_reducible refine (RR.out _).mono ?_); rintro e w3 ⟨rfl, hb⟩; have H3 := HX.out.keep hb; have e0 := H3.E.k0; have e1 := H3.E.k1; have f0 := H3.e0; have f1 := H3.e1; have B3 := Lib.hid H3.below; clear H3 hb)
          obtain ⟨c0, c1⟩ := set_pair (x := .int .i64 0) (y := .int .i64 0) e0 e1
          exact bodyPost_ret (v := .tuple #[ratV 0 0, .int .i64 2]) (by simp [results, Tryd.results22, go_sem, c0, c1]) rfl ⟨by rw [HV.out], (B3.out.setCell (by show w.heap.size ≤ w.heap.size + 1; omega) _).setCell (by show w.heap.size ≤ w.heap.size + 1; omega) _⟩
        · go_wp2_with (go_at_call 34; (with_reducible refine (RR.out _).mono ?_); rintro e w3 ⟨rfl, hb⟩; have H3 := Lib.hid (HX.out.keep hb); clear hb)
          go_roundg (j - (k + 1))
          case measure => have := HG.out; omega
          case rel => exact ⟨k + 1, by push_cast; rfl, by have := HG.out; omega, rfl, NX.out, H3.out⟩
  · skip
    obtain ⟨F, E, ⟨f0, f1⟩, hb0⟩ := val_boxes w (.slice A ll c) (.int .i64 xn) (.int .i64 xd) 26 24
    go_enter Tryd.func22, Tryd.ntmps22
    go_upto_region 3 with (go_at_call 16; (with_reducible refine (RT.out _ hb0).mono ?_); rintro e w1 ⟨rfl, hb1⟩; have H0 := Lib.hid ((BoxV.mk F E f0 f1 hb0).keep hb1))
    clear F E f0 f1 hb0 hb1
    go_wp2_with fail
    go_loopg [6] j (fun g v6 wr => ∃ k : Nat, v6 = .int .i64 k ∧ k ≤ j ∧ g = j - k ∧ allR (m.take k) = true ∧ BoxV w wr (.slice A ll c) xn xd)
    case atStart => exact ⟨0, rfl, Nat.zero_le _, rfl, by rw [List.take_zero]; rfl, H0.out⟩
    case round =>
      clear H0
      obtain ⟨k, rfl, hk, hg, hall, H⟩ := hrel
      by_cases hkj : k = j
      · subst hkj
        have hma : allR (m.take 8) = true := by rw [JT.out.2] at hall; exact hall
        have ve := fun (s : Int × Int) (e : sumK l m (xn, xd) n = some s) => HV0.out.trans (LM.out.1 hma s e)
        have ov := fun (e : sumK l m (xn, xd) n = none) => HV0.out.trans (LM.out.2 hma e)
        have VE := Lib.hid ve; have OV := Lib.hid ov
        have OKM := Lib.hid (And.intro hma HMW.out)
        have k1 := H.F.k1; have k2 := H.F.k2
        have HX := Lib.hid H
        have x1 : decide (k < lm) = false := decide_eq_false (by have := JT.out; omega)
        have x2 : lm ≤ k := by have := JT.out; omega
        clear ve ov hma hall hk hg H
        go_upto_region 9 with fail
        clear k1 k2 x1 x2
        have a1 := below_alloc1 wr (.cells #[.int .i64 xn, .int .i64 xd] 24)
        have e3 := HX.out.E.lt
        have H1 := HX.out.keep a1
        have V0 : ValS w (wr.alloc (.cells #[.int .i64 xn, .int .i64 xd] 24)) wr.heap.size (.slice A ll c) xn xd xn xd :=
          ⟨H1.F, H1.E, H1.e0, H1.e1, RatAt.start wr xn xd 24, by go_simp, by go_simp, e3, H1.below⟩
        have V0 := Lib.hid V0
        obtain ⟨w9, hw9⟩ : ∃ w9, w9 = wr.alloc (.cells #[.int .i64 xn, .int .i64 xd] 24) := ⟨_, rfl⟩
        rw [← hw9] at V0 ⊢
        generalize wr.heap.size = b at *
        clear a1 e3 H1 HX hw9
        go_wp2_with fail
        go_loopg [8] n (fun g v8 wr => ∃ (k : Nat) (s : Int × Int), v8 = .int .i64 k ∧ k ≤ n ∧ g = n - k ∧ sumK l m (xn, xd) k = some s ∧ ValS w wr b (.slice A ll c) xn xd s.1 s.2)
        case atStart => exact ⟨0, (xn, xd), rfl, Nat.zero_le _, rfl, rfl, V0.out⟩
        case round =>
          clear V0
          obtain ⟨k, s, rfl, hk, hg, hs, H⟩ := hrel
          by_cases hkn : k = n
          · subst hkn
            have HV := Lib.hid (VE.out s hs)
            obtain ⟨s1, s2⟩ := s
            dsimp only at H
            have z0 := H.S.k0; have z1 := H.S.k1; have e0 := H.E.k0; have e1 := H.E.k1; have f0 := H.e0; have f1 := H.e1; have k0 := H.F.k0
            have HB := Lib.hid H.below
            clear hs hg hk H
            by_cases hll : k < ll
            · have i1 : (k : Int) < (ll : Int) := by omega
              have i2 : decide (k < ll) = true := decide_eq_true hll
              have i3 : decide (k < lm) = false := decide_eq_false (by have := LN.out; omega)
              have i4 : lm ≤ k := by have := LN.out; omega
              go_wp2_with fail
              obtain ⟨c0, c1⟩ := set_pair (x := .int .i64 s1) (y := .int .i64 s2) e0 e1
              exact bodyPost_ret (v := .tuple #[ratV s1 s2, .int .i64 0]) (by simp [results, Tryd.results22, go_sem, c0, c1]) rfl ⟨by rw [HV.out], (HB.out.setCell (by show w.heap.size ≤ w.heap.size + 1; omega) _).setCell (by show w.heap.size ≤ w.heap.size + 1; omega) _⟩
            · have i2 : decide (k < ll) = false := decide_eq_false hll
              have i4 : ll ≤ k := by omega
              go_wp2_with fail
              obtain ⟨c0, c1⟩ := set_pair (x := .int .i64 s1) (y := .int .i64 s2) e0 e1
              exact bodyPost_ret (v := .tuple #[ratV s1 s2, .int .i64 0]) (by simp [results, Tryd.results22, go_sem, c0, c1]) rfl ⟨by rw [HV.out], (HB.out.setCell (by show w.heap.size ≤ w.heap.size + 1; omega) _).setCell (by show w.heap.size ≤ w.heap.size + 1; omega) _⟩
          · have hlt : k < n := by omega
            obtain ⟨x, hx⟩ := LE.out.1 k (by have := LN.out; omega)
            obtain ⟨y, hy⟩ := LE.out.2 k (by have := LN.out; omega)
            obtain ⟨ad, rfl, d1, d3⟩ := rats_cells G4.out H.below hx (by have := LN.out; omega)
            obtain ⟨bd, rfl, t1, t3⟩ := rats_cells B4.out H.below hy (by have := LN.out; omega)
            have hox : OkR (atL l k) := OKL.out.at k
            have hoy : OkR (atL m k) := take_right OKM.out.1 OKM.out.2 (by have := LN.out; omega)
            have ex : atL l k = x := atL_in hx
            have ey : atL m k = y := atL_in hy
            have hos : OkR s := sumK_okT OKL.out OKM.out.1 OKM.out.2 OKX.out k s (by have := LN.out; omega) hs
            have hm1 := fun (w' : World) => rdo_mul w' (atL l k) (atL m k) hox hoy
            have mno := mulH_ok.no (atL l k) (atL m k) hox hoy
            have nx := @sumK_next l m (xn, xd) s k hs
            have st := @sumK_stop l m (xn, xd) s k hs
            have ad1 := fun (w' : World) (h : (mulH (atL l k) (atL m k)).2 = 0) => rdo_add w' s (mulH (atL l k) (atL m k)).1 hos (mulH_ok.ok _ _ hox hoy h)
            have ano := fun (h : (mulH (atL l k) (atL m k)).2 = 0) => addH_ok.no s (mulH (atL l k) (atL m k)).1 hos (mulH_ok.ok _ _ hox hoy h)
            rw [ex, ey] at hm1 nx st ad1 mno ano
            obtain ⟨p1, p2⟩ := x
            obtain ⟨q1, q2⟩ := y
            obtain ⟨s1, s2⟩ := s
            dsimp only at hm1 d1 d3 t1 t3 H ad1 nx st mno ano
            have HS := hold_vals (A := True) (below_drew _) (And.intro (And.intro trivial (And.intro (And.intro d1 d3) (And.intro t1 t3))) H)
            generalize mulH (p1, p2) (q1, q2) = M at *
            obtain ⟨⟨m1, m2⟩, me⟩ := M
            dsimp only at hm1 ad1 nx st mno ano
            have HM := Lib.hid hm1; have NX := Lib.hid nx; have ST := Lib.hid st; have AD := Lib.hid ad1; have HLT := Lib.hid hlt; have HG := Lib.hid hg; have MNO := Lib.hid mno; have ANO := Lib.hid ano
            have i1 : (k : Int) < (ll : Int) := by have := LN.out; omega
            have i2 : (0 : Int) ≤ (k : Int) := by omega
            have i3 : (k : Int) < (lm : Int) := by have := LN.out; omega
            have g1 : decide (k < ll) = true := decide_eq_true (by have := LN.out; omega)
            have g3 : decide (k < lm) = true := decide_eq_true (by have := LN.out; omega)
            have k0 := H.F.k0
            clear hx hy hox hoy ex ey hos hm1 nx st ad1 hs hlt hg hk hkn mno ano
            go_upto_region 12 with fail
            clear k0 d1 d3 t1 t3
            go_cut [9, 10] from 34 to 73 (fun v8 v9 wx => ValMid w b (.slice (some ad) ll c) xn xd s1 s2 m1 m2 me v8 v9 wx)
            case first =>
              clear H
              refine wp_region_noPanic ?_
              refine wp_region_held_drew (S := (fun w' => (w'.cell? ⟨w.heap.size, 0, none⟩ = some (.slice (some ad) ll c) ∧ (w'.cell? (ad.add (k * 2)) = some (.int .i64 p1) ∧ w'.cell? ⟨(ad.add (k * 2)).block, (ad.add (k * 2)).off + 1, none⟩ = some (.int .i64 p2)) ∧ (w'.cell? (bd.add (k * 2)) = some (.int .i64 q1) ∧ w'.cell? ⟨(bd.add (k * 2)).block, (bd.add (k * 2)).off + 1, none⟩ = some (.int .i64 q2))) ∧ ValS w w' b (.slice (some ad) ll c) xn xd s1 s2)) (by kernel_rfl) HS (fun hHeld => ?_)
              clear HS
              refine wpAnyH_take (i := 0) (oi := _) (v := ?_) rfl (by kernel_rfl) (by kernel_rfl) (by kernel_rfl) (fun _ _ _ h => h) (Or.inl ⟨by rfl, ?_⟩) (by assumption) ?_
              rotate_left
              · intro ww hSw
                (try dsimp only at hSw)
                go_simp <;> with_reducible rfl
              (try simp only [List.getElem_toArray, List.getElem_cons_zero, Act.put, List.setIfInBounds_toArray, List.set_cons_zero, List.set_cons_succ])
              refine wpAnyH_take (i := 1) (oi := _) (v := ?_) rfl (by kernel_rfl) (by kernel_rfl) (by kernel_rfl) (fun _ _ _ h => h) (Or.inl ⟨by rfl, ?_⟩) (by assumption) ?_
              rotate_left
              · intro ww hSw
                (try dsimp only at hSw)
                go_simp <;> with_reducible rfl
              (try simp only [List.getElem_toArray, List.getElem_cons_succ, List.getElem_cons_zero, Act.put, List.setIfInBounds_toArray, List.set_cons_zero, List.set_cons_succ])
              refine wpAnyH_take (i := 2) (oi := _) (v := ?_) rfl (by kernel_rfl) (by kernel_rfl) (by kernel_rfl) (fun _ _ _ h => h) (Or.inl ⟨by rfl, ?_⟩) (by assumption) ?_
              rotate_left
              · intro ww hSw
                (try dsimp only at hSw)
                go_simp <;> with_reducible rfl
              (try simp only [List.getElem_toArray, List.getElem_cons_succ, List.getElem_cons_zero, Act.put, List.setIfInBounds_toArray, List.set_cons_zero, List.set_cons_succ])
              refine wpAnyH_take (i := 3) (oi := _) (v := ?_) rfl (by kernel_rfl) (by kernel_rfl) (by kernel_rfl) (fun _ _ _ h => h) (Or.inl ⟨by rfl, ?_⟩) (by assumption) ?_
              rotate_left
              · intro ww hSw
                (try dsimp only at hSw)
                go_simp <;> with_reducible rfl
              (try simp only [List.getElem_toArray, List.getElem_cons_succ, List.getElem_cons_zero, Act.put, List.setIfInBounds_toArray, List.set_cons_zero, List.set_cons_succ])
              refine wpAnyH_take (i := 4) (oi := _) (v := ?_) rfl (by kernel_rfl) (by kernel_rfl) (by kernel_rfl) (fun _ _ _ h => h) (Or.inl ⟨by rfl, ?_⟩) (by assumption) ?_
              rotate_left
              · intro ww hSw
                (try dsimp only at hSw)
                go_simp <;> with_reducible rfl
              (try simp only [List.getElem_toArray, List.getElem_cons_succ, List.getElem_cons_zero, Act.put, List.setIfInBounds_toArray, List.set_cons_zero, List.set_cons_succ])
              refine wpAnyH_take (i := 5) (oi := _) (v := ?_) rfl (by kernel_rfl) (by kernel_rfl) (by kernel_rfl) (fun _ _ _ h => h) (Or.inl ⟨by rfl, ?_⟩) (by assumption) ?_
              rotate_left
              · intro ww hSw
                (try dsimp only at hSw)
                go_simp <;> with_reducible rfl
              (try simp only [List.getElem_toArray, List.getElem_cons_succ, List.getElem_cons_zero, Act.put, List.setIfInBounds_toArray, List.set_cons_zero, List.set_cons_succ])
              refine wpAnyH_take (i := 6) (oi := _) (v := ?_) rfl (by kernel_rfl) (by kernel_rfl) (by kernel_rfl) (fun _ _ _ h => h) (Or.inl ⟨by rfl, ?_⟩) (by assumption) ?_
              rotate_left
              · intro ww hSw
                (try dsimp only at hSw)
                go_simp <;> with_reducible rfl
              (try simp only [List.getElem_toArray, List.getElem_cons_succ, List.getElem_cons_zero, Act.put, List.setIfInBounds_toArray, List.set_cons_zero, List.set_cons_succ])
              refine wpAnyH_take (i := 7) (oi := _) (v := ?_) rfl (by kernel_rfl) (by kernel_rfl) (by kernel_rfl) (fun _ _ _ h => h) (Or.inl ⟨by rfl, ?_⟩) (by assumption) ?_
              rotate_left
              · intro ww hSw
                (try dsimp only at hSw)
                go_simp <;> with_reducible rfl
              (try simp only [List.getElem_toArray, List.getElem_cons_succ, List.getElem_cons_zero, Act.put, List.setIfInBounds_toArray, List.set_cons_zero, List.set_cons_succ])
              refine wpAnyH_take (i := 8) (oi := _) (v := ?_) rfl (by kernel_rfl) (by kernel_rfl) (by kernel_rfl) (fun _ _ _ h => h) (Or.inl ⟨by rfl, ?_⟩) (by assumption) ?_
              rotate_left
              · intro ww hSw
                (try dsimp only at hSw)
                go_simp <;> with_reducible rfl
              (try simp only [List.getElem_toArray, List.getElem_cons_succ, List.getElem_cons_zero, Act.put, List.setIfInBounds_toArray, List.set_cons_zero, List.set_cons_succ])
              refine wpAnyH_ready (rs := [9, 13]) (by kernel_rfl) (by simp) ?_
              refine AllReadyH.cons (o := _) rfl (fun K hK => ?_) ?_
              · go_simp
                (go_at_call 23; (with_reducible refine (HM.out _).mono ?_); rintro e w6 ⟨rfl, hb⟩; (try (have HC := Lib.hid (HC.out.keep hb))))
                go_wp2_with fail
                refine hK.out _ _ (hold_vals (by with_reducible assumption) (by with_reducible assumption)) (fun hH2 => ?_)
                clear hK K hHeld hb
                have hHeld := hH2
                clear hH2
                (try simp only [List.getElem_toArray, List.getElem_cons_succ, List.getElem_cons_zero, Act.put, List.setIfInBounds_toArray, List.set_cons_zero, List.set_cons_succ])
                refine wpAnyH_take (i := 10) (oi := _) (v := ?_) rfl (by kernel_rfl) (by kernel_rfl) (by kernel_rfl) (fun _ _ _ h => h) (Or.inl ⟨by rfl, ?_⟩) (by assumption) ?_
                rotate_left
                · intro ww hSw
                  (try dsimp only at hSw)
                  go_simp <;> with_reducible rfl
                (try simp only [List.getElem_toArray, List.getElem_cons_succ, List.getElem_cons_zero, Act.put, List.setIfInBounds_toArray, List.set_cons_zero, List.set_cons_succ])
                refine wpAnyH_take (i := 11) (oi := _) (v := ?_) rfl (by kernel_rfl) (by kernel_rfl) (by kernel_rfl) (fun _ _ _ h => h) (Or.inl ⟨by rfl, ?_⟩) (by assumption) ?_
                rotate_left
                · intro ww hSw
                  (try dsimp only at hSw)
                  go_simp <;> with_reducible rfl
                (try simp only [List.getElem_toArray, List.getElem_cons_succ, List.getElem_cons_zero, Act.put, List.setIfInBounds_toArray, List.set_cons_zero, List.set_cons_succ])
                refine wpAnyH_take (i := 12) (oi := _) (v := ?_) rfl (by kernel_rfl) (by kernel_rfl) (by kernel_rfl) (fun _ _ _ h => h) (Or.inl ⟨by rfl, ?_⟩) (by assumption) ?_
                rotate_left
                · intro ww hSw
                  (try dsimp only at hSw)
                  go_simp <;> with_reducible rfl
                (try simp only [List.getElem_toArray, List.getElem_cons_succ, List.getElem_cons_zero, Act.put, List.setIfInBounds_toArray, List.set_cons_zero, List.set_cons_succ])
                refine wpAnyH_ready (rs := [13]) (by kernel_rfl) (by simp) ?_
                refine AllReadyH.cons (o := _) rfl (fun K hK => ?_) AllReadyH.nil
                go_simp
                refine hK.out _ _ (hold_vals (below_alloc1 _ _) (by with_reducible assumption)) (fun hH2 => ?_)
                clear hK K
                (first | have HC := Lib.hid (vhole_of hH2) | have HC := Lib.hid (vhole_of2 hH2))
                have hHeld0 := Lib.hid hHeld
                clear hHeld
                have hHeld := hH2
                clear hH2
                (try simp only [List.getElem_toArray, List.getElem_cons_succ, List.getElem_cons_zero, Act.put, List.setIfInBounds_toArray, List.set_cons_zero, List.set_cons_succ])
                refine wpAnyH_ready (rs := [14]) (by kernel_rfl) (by simp) ?_
                refine AllReadyH.cons (o := _) rfl (fun K hK => ?_) AllReadyH.nil
                obtain ⟨h6, h0, h1, h2, h3, h4, h5⟩ := HC.out
                clear h6
                go_simp
                clear h0 h1 h2 h3 h4 h5
                (first
                  | refine hK.out _ _ (hold_vals (below_alloc1 _ _) hHeld0.out) (fun hH2 => ?_)
                  | refine hK.out _ _ (hold_vals (HC.out.fill _ _).1 hHeld0.out) (fun hH2 => ?_))
                clear hK K hHeld
                have hHeld := hH2
                clear hH2
                (try simp only [List.getElem_toArray, List.getElem_cons_succ, List.getElem_cons_zero, Act.put, List.setIfInBounds_toArray, List.set_cons_zero, List.set_cons_succ])
                refine wpAnyH_take (i := 15) (oi := _) (v := ?_) rfl (by kernel_rfl) (by kernel_rfl) (by kernel_rfl) (fun _ _ _ h => h) (Or.inl ⟨by rfl, ?_⟩) (by assumption) ?_
                rotate_left
                · intro ww hSw
                  (try dsimp only at hSw)
                  go_simp <;> with_reducible rfl
                (try simp only [List.getElem_toArray, List.getElem_cons_succ, List.getElem_cons_zero, Act.put, List.setIfInBounds_toArray, List.set_cons_zero, List.set_cons_succ])
                refine wpAnyH_done (by kernel_rfl) ?_ _
                refine NoPanic.normal ?_
                go_wp2_with fail
                go_meet
                case rel => first | exact vmid_alloc (vals_of hHeld0.out) 24 | exact vmid_fill (vals_of hHeld0.out) HC.out
              refine AllReadyH.cons (o := _) rfl (fun K hK => ?_) AllReadyH.nil
              go_simp
              refine hK.out _ _ (hold_vals (below_alloc1 _ _) (by with_reducible assumption)) (fun hH2 => ?_)
              clear hK K
              (first | have HC := Lib.hid (vhole_of hH2) | have HC := Lib.hid (vhole_of2 hH2))
              have hHeld0 := Lib.hid hHeld
              clear hHeld
              have hHeld := hH2
              clear hH2
              (try simp only [List.getElem_toArray, List.getElem_cons_succ, List.getElem_cons_zero, Act.put, List.setIfInBounds_toArray, List.set_cons_zero, List.set_cons_succ])
              refine wpAnyH_ready (rs := [9]) (by kernel_rfl) (by simp) ?_
              refine AllReadyH.cons (o := _) rfl (fun K hK => ?_) AllReadyH.nil
              go_simp
              (go_at_call 23; (with_reducible refine (HM.out _).mono ?_); rintro e w6 ⟨rfl, hb⟩; (try (have HC := Lib.hid (HC.out.keep hb))))
              go_wp2_with fail
              refine hK.out _ _ (hold_vals (by with_reducible assumption) (by with_reducible assumption)) (fun hH2 => ?_)
              clear hK K hHeld hb
              have hHeld := hH2
              clear hH2
              (try simp only [List.getElem_toArray, List.getElem_cons_succ, List.getElem_cons_zero, Act.put, List.setIfInBounds_toArray, List.set_cons_zero, List.set_cons_succ])
              refine wpAnyH_take (i := 10) (oi := _) (v := ?_) rfl (by kernel_rfl) (by kernel_rfl) (by kernel_rfl) (fun _ _ _ h => h) (Or.inl ⟨by rfl, ?_⟩) (by assumption) ?_
              rotate_left
              · intro ww hSw
                (try dsimp only at hSw)
                go_simp <;> with_reducible rfl
              (try simp only [List.getElem_toArray, List.getElem_cons_succ, List.getElem_cons_zero, Act.put, List.setIfInBounds_toArray, List.set_cons_zero, List.set_cons_succ])
              refine wpAnyH_take (i := 11) (oi := _) (v := ?_) rfl (by kernel_rfl) (by kernel_rfl) (by kernel_rfl) (fun _ _ _ h => h) (Or.inl ⟨by rfl, ?_⟩) (by assumption) ?_
              rotate_left
              · intro ww hSw
                (try dsimp only at hSw)
                go_simp <;> with_reducible rfl
              (try simp only [List.getElem_toArray, List.getElem_cons_succ, List.getElem_cons_zero, Act.put, List.setIfInBounds_toArray, List.set_cons_zero, List.set_cons_succ])
              refine wpAnyH_take (i := 12) (oi := _) (v := ?_) rfl (by kernel_rfl) (by kernel_rfl) (by kernel_rfl) (fun _ _ _ h => h) (Or.inl ⟨by rfl, ?_⟩) (by assumption) ?_
              rotate_left
              · intro ww hSw
                (try dsimp only at hSw)
                go_simp <;> with_reducible rfl
              (try simp only [List.getElem_toArray, List.getElem_cons_succ, List.getElem_cons_zero, Act.put, List.setIfInBounds_toArray, List.set_cons_zero, List.set_cons_succ])
              refine wpAnyH_ready (rs := [14]) (by kernel_rfl) (by simp) ?_
              refine AllReadyH.cons (o := _) rfl (fun K hK => ?_) AllReadyH.nil
              obtain ⟨h6, h0, h1, h2, h3, h4, h5⟩ := HC.out
              clear h6
              go_simp
              clear h0 h1 h2 h3 h4 h5
              (first
                | refine hK.out _ _ (hold_vals (below_alloc1 _ _) hHeld0.out) (fun hH2 => ?_)
                | refine hK.out _ _ (hold_vals (HC.out.fill _ _).1 hHeld0.out) (fun hH2 => ?_))
              clear hK K hHeld
              have hHeld := hH2
              clear hH2
              (try simp only [List.getElem_toArray, List.getElem_cons_succ, List.getElem_cons_zero, Act.put, List.setIfInBounds_toArray, List.set_cons_zero, List.set_cons_succ])
              refine wpAnyH_take (i := 15) (oi := _) (v := ?_) rfl (by kernel_rfl) (by kernel_rfl) (by kernel_rfl) (fun _ _ _ h => h) (Or.inl ⟨by rfl, ?_⟩) (by assumption) ?_
              rotate_left
              · intro ww hSw
                (try dsimp only at hSw)
                go_simp <;> with_reducible rfl
              (try simp only [List.getElem_toArray, List.getElem_cons_succ, List.getElem_cons_zero, Act.put, List.setIfInBounds_toArray, List.set_cons_zero, List.set_cons_succ])
              refine wpAnyH_done (by kernel_rfl) ?_ _
              refine NoPanic.normal ?_
              go_wp2_with fail
              go_meet
              case rel => first | exact vmid_alloc (vals_of hHeld0.out) 24 | exact vmid_fill (vals_of hHeld0.out) HC.out
            case rest =>
              obtain ⟨cc, rfl, rfl, RC, H2⟩ := hcut
              clear H HS
              have B2 := Lib.hid H2.below
              by_cases hme : me = 0
              · subst hme
                have a2 := fun (w' : World) => AD.out w' rfl
                have k0 := RC.k0; have k1 := RC.k1; have z0 := H2.S.k0; have z1 := H2.S.k1
                have nx := NX.out rfl
                have st := ST.out
                have an := ANO.out rfl
                generalize addH (s1, s2) (m1, m2) = N at *
                obtain ⟨⟨n1, n2⟩, ne⟩ := N
                dsimp only at a2 nx st an
                have A2 := Lib.hid a2; have NX := Lib.hid nx; have ST := Lib.hid st; have AN := Lib.hid an
                clear a2 nx st AD an ANO MNO
                by_cases hne : ne = 0
                · subst hne
                  have hgo : Hid (sumK l m (xn, xd) (k + 1) = some (n1, n2)) := NX.out rfl
                  have wk : IntKind.i64.wrap ((k : Int) + 1) = (k : Int) + 1 := IntWalk.i64_in _ (by have := LN.out; have := HLT.out; omega)
                  go_wp2_with (go_at_call 23; (with_reducible refine (A2.out _).mono ?_); rintro e w7 ⟨rfl, hb⟩; have H3 := H2.keep hb; have z0 := H3.S.k0; have z1 := H3.S.k1; have y0 := H3.s0; have y1 := H3.s1; have H3 := Lib.hid H3; clear hb)
                  go_roundg (n - (k + 1))
                  case measure => have := HG.out; have := HLT.out; omega
                  case rel => exact ⟨k + 1, (n1, n2), by push_cast; rfl, by have := HLT.out; omega, rfl, hgo.out, H3.out.store n1 n2⟩
                · have HV : Hid (V = ((0, 0), 3)) := OV.out (sumK_none (ST.out (fun g => hne g.2)) _ (by have := HLT.out; omega))
                  have hN := AN.out hne
                  have a2 := A2.out
                  obtain ⟨⟨rfl, rfl⟩, rfl⟩ : (n1 = 0 ∧ n2 = 0) ∧ ne = 3 := by simpa using hN
                  clear A2 NX ST AN hne hN
                  have A2 := Lib.hid a2
                  clear a2
                  go_wp2_with (go_at_call 23; (with_reducible refine (A2.out _).mono ?_); rintro e w7 ⟨rfl, hb⟩; have H3 := H2.keep hb; have z0 := H3.S.k0; have z1 := H3.S.k1; have y0 := H3.s0; have y1 := H3.s1; have H4 := H3.store 0 0; have e0 := H4.E.k0; have e1 := H4.E.k1; have f0 := H4.e0; have f1 := H4.e1; have H4 := Lib.hid H4; clear hb H3)
                  obtain ⟨c0, c1⟩ := set_pair (x := .int .i64 0) (y := .int .i64 0) e0 e1
                  exact bodyPost_ret (v := .tuple #[ratV 0 0, .int .i64 3]) (by simp [results, Tryd.results22, go_sem, c0, c1]) rfl ⟨by rw [HV.out], (H4.out.below.setCell (by show w.heap.size ≤ w.heap.size + 1; omega) _).setCell (by show w.heap.size ≤ w.heap.size + 1; omega) _⟩
              · have HV : Hid (V = ((0, 0), 3)) := OV.out (sumK_none (ST.out (fun g => hme g.1)) _ (by have := HLT.out; omega))
                have hN := MNO.out hme
                obtain ⟨⟨rfl, rfl⟩, rfl⟩ : (m1 = 0 ∧ m2 = 0) ∧ me = 3 := by simpa using hN
                have e0 := H2.E.k0; have e1 := H2.E.k1; have f0 := H2.e0; have f1 := H2.e1
                clear AD NX ST ANO MNO hme hN HM RC H2
                go_wp2_with fail
                obtain ⟨c0, c1⟩ := set_pair (x := .int .i64 0) (y := .int .i64 0) e0 e1
                exact bodyPost_ret (v := .tuple #[ratV 0 0, .int .i64 3]) (by simp [results, Tryd.results22, go_sem, c0, c1]) rfl ⟨by rw [HV.out], (B2.out.setCell (by show w.heap.size ≤ w.heap.size + 1; omega) _).setCell (by show w.heap.size ≤ w.heap.size + 1; omega) _⟩
      · have hlt : k < j := by omega
        obtain ⟨y, hy⟩ := LE.out.2 k (by have := JT.out; omega)
        obtain ⟨bd, rfl, t1, t3⟩ := rats_cells B4.out H.below hy (by have := JT.out; omega)
        have hyw := HMW.out y (List.mem_of_getElem? hy)
        have rr := fun (w' : World) => rright_any y.1 y.2 w' hyw.1.1 hyw.1.2 hyw.2.1 hyw.2.2
        have nx := allR_take hy hall
        have hy8 : (m.take 8)[k]? = some y := by rw [List.getElem?_take, if_pos (by have := JT.out; omega)]; exact hy
        have bad := @allR_bad (m.take 8) k y hy8
        have i1 : (k : Int) < (lm : Int) := by have := JT.out; omega
        have i2 : (0 : Int) ≤ (k : Int) := by omega
        have i3 : decide (k < lm) = true := decide_eq_true (by have := JT.out; omega)
        have i4 : (k : Int) < 8 := by have := JT.out; omega
        have i5 : decide (k < 8) = true := decide_eq_true (by have := JT.out; omega)
        have wk : IntKind.i64.wrap ((k : Int) + 1) = (k : Int) + 1 := IntWalk.i64_in _ (by have := JT.out; omega)
        obtain ⟨y1, y2⟩ := y
        dsimp only at rr nx t1 t3 bad
        have HX := Lib.hid H
        have HG := Lib.hid (And.intro hlt hg)
        generalize rightB y1 y2 = rb at *
        have RR := Lib.hid rr; have NX := Lib.hid nx; have BAD := Lib.hid bad
        clear rr nx bad hy hy8 hyw hall hk hg hkj hlt H
        cases rb
        · have HV : Hid (V = ((0, 0), 2)) := HV0.out.trans (valT_no (fun g => by rw [BAD.out rfl] at g; cases g.2))
          go_wp2_with (go_at_call 34; (with_reducible refine (RR.out _).mono ?_); rintro e w3 ⟨rfl, hb⟩; have H3 := HX.out.keep hb; have e0 := H3.E.k0; have e1 := H3.E.k1; have f0 := H3.e0; have f1 := H3.e1; have B3 := Lib.hid H3.below; clear H3 hb)
          obtain ⟨c0, c1⟩ := set_pair (x := .int .i64 0) (y := .int .i64 0) e0 e1
          exact bodyPost_ret (v := .tuple #[ratV 0 0, .int .i64 2]) (by simp [results, Tryd.results22, go_sem, c0, c1]) rfl ⟨by rw [HV.out], (B3.out.setCell (by show w.heap.size ≤ w.heap.size + 1; omega) _).setCell (by show w.heap.size ≤ w.heap.size + 1; omega) _⟩
        · go_wp2_with (go_at_call 34; (with_reducible refine (RR.out _).mono ?_); rintro e w3 ⟨rfl, hb⟩; have H3 := Lib.hid (HX.out.keep hb); clear hb)
          go_roundg (j - (k + 1))
          case measure => have := HG.out; omega
          case rel => exact ⟨k + 1, by push_cast; rfl, by have := HG.out; omega, rfl, NX.out, H3.out⟩
end Go.Proofs.YtkgndeiddjkhmaaDoor

namespace Go.Proofs.YtkgndeiddjkhmaaDoor
open Go.RowKit Go.WideShapes

theorem tval_any (w : World) (va vb : Value) (l m : List (Int × Int)) (xn xd : Int) (ha : RatsAt w va l) (hb : RatsAt w vb m) (hl : Wide l) (hm : Wide m) (x1 : -9223372036854775808 ≤ xn) (x2 : xn ≤ 9223372036854775807) (x3 : -9223372036854775808 ≤ xd) (x4 : xd ≤ 9223372036854775807) :
    Calls Tryd.prog 21 #[.agg #[va, .int .i64 xn, .int .i64 xd], vb] w fun r w' => r = .returned (.tuple #[ratV (valT l m (xn, xd)).1.1 (valT l m (xn, xd)).1.2, .int .i64 (valT l m (xn, xd)).2]) ∧ Below w.heap.size w w' := by
  cases hr : rightT l xn xd
  · exact tval_wrong w va vb l m xn xd ha hb hl x1 x2 x3 x4 hr
  · exact tval_right w va vb l m xn xd ha hb hl hm x1 x2 x3 x4 hr
theorem rval_any (w : World) (va vb : Value) (l m : List (Int × Int)) (xn xd : Int) (ha : RatsAt w va l) (hb : RatsAt w vb m) (hl : Wide l) (hm : Wide m) (x1 : -9223372036854775808 ≤ xn) (x2 : xn ≤ 9223372036854775807) (x3 : -9223372036854775808 ≤ xd) (x4 : xd ≤ 9223372036854775807) :
    Calls Tryd.prog 22 #[.agg #[va, .int .i64 xn, .int .i64 xd], vb] w fun r w' => r = .returned (.tuple #[ratV (valT l m (xn, xd)).1.1 (valT l m (xn, xd)).1.2, .int .i64 (valT l m (xn, xd)).2]) ∧ Below w.heap.size w w' := by
  cases hr : rightT l xn xd
  · exact rval_wrong w va vb l m xn xd ha hb hl x1 x2 x3 x4 hr
  · exact rval_right w va vb l m xn xd ha hb hl hm x1 x2 x3 x4 hr
theorem valT_bd {l m : List (Int × Int)} {kx : Int × Int} (hl : Wide l) (hm : Wide m) (hx : Bd kx) : Bd (valT l m kx).1 := by
  by_cases g : rightT l kx.1 kx.2 = true ∧ allR (m.take 8) = true
  · obtain ⟨p, a, b⟩ := right_parts g.1 hl hx.1.1 hx.1.2 hx.2.1 hx.2.2
    cases e : sumK l m kx (min l.length m.length) with
    | none => rw [valT_over g e]; exact bd_nought
    | some s => rw [valT_end g e]; exact (sumK_okT a g.2 hm b _ s (by omega) e).wide
  · rw [valT_no g]; exact bd_nought

/-- What the reference's sum of two fractions answers. -/
def doT (x y : Int × Int) : (Int × Int) × Int := if rightB x.1 x.2 = true ∧ rightB y.1 y.2 = true then addH x y else ((0, 0), 2)
set_option maxHeartbeats 1000000 in
theorem rdo_bad (n d m e : Int) (w : World) (ra : ∀ w, Calls Tryd.prog 34 #[ratV n d] w fun r w' => r = .returned (.bool (rightB n d)) ∧ Below w.heap.size w w')
    (rb : ∀ w, Calls Tryd.prog 34 #[ratV m e] w fun r w' => r = .returned (.bool (rightB m e)) ∧ Below w.heap.size w w') (h : rightB n d = false ∨ (rightB n d = true ∧ rightB m e = false)) :
    Calls Tryd.prog 23 #[.int .i64 0, ratV n d, ratV m e] w fun r w' => r = .returned (.tuple #[ratV 0 0, .int .i64 2]) ∧ Below w.heap.size w w' := by
  rcases h with h | ⟨h, g⟩
  · rw [h] at ra
    clear h rb
    go_enter Tryd.func23, Tryd.ntmps23
    go_upto_region 1 with fail
    have B := Boxes.start w n d m e 0 24
    go_wp2_with (go_at_call 34; (with_reducible refine (ra _).mono ?_); rintro e w1 ⟨rfl, hb⟩; have B := B.keep hb; have i0 := B.i0; have i1 := B.i1; have j0 := B.j0; have j1 := B.j1)
    exact bodyPost_ret (v := .tuple #[ratV 0 0, .int .i64 2]) (by simp [results, Tryd.results23, go_sem, i0, i1]) rfl ⟨rfl, below_two B.below⟩
  · rw [h] at ra
    rw [g] at rb
    clear h g
    go_enter Tryd.func23, Tryd.ntmps23
    go_upto_region 1 with fail
    have B := Boxes.start w n d m e 0 24
    go_wp2_with (go_at_call 34; (first | with_reducible refine (ra _).mono ?_ | with_reducible refine (rb _).mono ?_); rintro e w1 ⟨rfl, hb⟩; have B := B.keep hb; have c2 := B.c2; have c3 := B.c3; have i0 := B.i0; have i1 := B.i1; have j0 := B.j0; have j1 := B.j1)
    exact bodyPost_ret (v := .tuple #[ratV 0 0, .int .i64 2]) (by simp [results, Tryd.results23, go_sem, i0, i1]) rfl ⟨rfl, below_two B.below⟩
theorem rdo_any (w : World) (x y : Int × Int) (hx : Bd x) (hy : Bd y) :
    Calls Tryd.prog 23 #[.int .i64 0, ratV x.1 x.2, ratV y.1 y.2] w fun r w' => r = .returned (.tuple #[ratV (doT x y).1.1 (doT x y).1.2, .int .i64 (doT x y).2]) ∧ Below w.heap.size w w' := by
  unfold doT
  split
  · rename_i g
    exact rdo_add w x y (okR_of g.1 hx) (okR_of g.2 hy)
  · rename_i g
    exact rdo_bad x.1 x.2 y.1 y.2 w (fun w => rright_any x.1 x.2 w hx.1.1 hx.1.2 hx.2.1 hx.2.2) (fun w => rright_any y.1 y.2 w hy.1.1 hy.1.2 hy.2.1 hy.2.2) (wrong_of g)

theorem val_sum2 {l m at_ : List (Int × Int)} {kx ky : Int × Int} (hl : Wide l) (hm : Wide m) (ha : Wide at_) (hx : Bd kx) (hy : Bd ky) (e1 : (valT l at_ kx).2 = 0) (e2 : (valT m at_ ky).2 = 0) (e3 : (sumT l m kx ky).2.2 = 0)
    (e4 : (valT (sumT l m kx ky).1 at_ (sumT l m kx ky).2.1).2 = 0) (e5 : (doT (valT l at_ kx).1 (valT m at_ ky).1).2 = 0) :
    (valT (sumT l m kx ky).1 at_ (sumT l m kx ky).2.1).1 = (doT (valT l at_ kx).1 (valT m at_ ky).1).1 := by
  unfold doT at e5 ⊢
  split at e5
  · rename_i g
    rw [if_pos g]
    exact (val_sum hl hm ha hx hy e1 e2 e3 e4 e5).2.2
  · cases e5

section
variable {H : Type} {enc : TypeId × Value → H} {w : World} {base : Nat} {spare : Nat → Bool} {held : Bool}
set_option maxRecDepth 10000 in
theorem open_ratslice {b0 : Nat} {r : Reach} {v : Value} {d : DataW H} {p : List MemPlace} (hv : Value.okWide Tryd.prog w r b0 22 v) (h : DataW.Trod enc Tryd.prog w base spare held 22 v d p) : ∃ l, RatsAt w v l ∧ Wide l := by
  obtain ⟨a, len, cap, rfl⟩ := okWide_slice Tryd.underlying22 hv
  obtain ⟨fuel, hf⟩ := h
  exact open_rats (by simpa [Value.cells] using hf)
end
end Go.Proofs.YtkgndeiddjkhmaaDoor

namespace Go.Proofs.YtkgndeiddjkhmaaDoor
open Go.RowKit

set_option maxRecDepth 4000 in
set_option maxHeartbeats 8000000 in
theorem values_small (w : World) (ht : Pow10 w) (sa : Value) (l : List (Int × Int)) (xn xd : Int) (ha : RatsAt w sa l) (hl : Wide l) (x1 : -9223372036854775808 ≤ xn) (x2 : xn ≤ 9223372036854775807) (x3 : -9223372036854775808 ≤ xd) (x4 : xd ≤ 9223372036854775807)
    (sb : Value) (m : List (Int × Int)) (yn yd : Int) (hb : RatsAt w sb m) (hm : Wide m) (y1 : -9223372036854775808 ≤ yn) (y2 : yn ≤ 9223372036854775807) (y3 : -9223372036854775808 ≤ yd) (y4 : yd ≤ 9223372036854775807)
    (sc : Value) (q : List (Int × Int)) (hc : RatsAt w sc q) (hq : Wide q) (hl12 : l.length ≤ 12) (hm12 : m.length ≤ 12) (hq12 : q.length ≤ 12) :
    Calls Tryd.prog 4 #[.agg #[sa, .int .i64 xn, .int .i64 xd], .agg #[sb, .int .i64 yn, .int .i64 yd], sc] w fun r w' => r = .returned (.bool true) ∧ Below w.heap.size w w' := by
  have hx : Bd (xn, xd) := ⟨⟨x1, x2⟩, x3, x4⟩
  have hy : Bd (yn, yd) := ⟨⟨y1, y2⟩, y3, y4⟩
  have vs := val_sum2 hl hm hq hx hy
  obtain ⟨sw, sbd⟩ := sumT_wide hl hm hx hy
  have v1b := valT_bd hl hq hx
  have v2b := valT_bd hm hq hy
  have c1 := fun (w' : World) (h : RatsAt w' sa l) (h' : RatsAt w' sc q) => tval_any w' sa sc l q xn xd h h' hl hq x1 x2 x3 x4
  have c2 := fun (w' : World) (h : RatsAt w' sa l) (h' : RatsAt w' sc q) => rval_any w' sa sc l q xn xd h h' hl hq x1 x2 x3 x4
  have c3 := fun (w' : World) (h : RatsAt w' sb m) (h' : RatsAt w' sc q) => tval_any w' sb sc m q yn yd h h' hm hq y1 y2 y3 y4
  have c4 := fun (w' : World) (h : RatsAt w' sa l) (h' : RatsAt w' sb m) => tadd_any w' sa sb l m (xn, xd) (yn, yd) h h' hl hm hx hy
  have c5 := fun (w' : World) (v : Value) (h : RatsAt w' v (sumT l m (xn, xd) (yn, yd)).1) (h' : RatsAt w' sc q) => tval_any w' v sc (sumT l m (xn, xd) (yn, yd)).1 q (sumT l m (xn, xd) (yn, yd)).2.1.1 (sumT l m (xn, xd) (yn, yd)).2.1.2 h h' sw hq sbd.1.1 sbd.1.2 sbd.2.1 sbd.2.2
  have c6 := fun (w' : World) => rdo_any w' (valT l q (xn, xd)).1 (valT m q (yn, yd)).1 v1b v2b
  have z1 := fun (w' : World) (h : RatsAt w' sa l) => small_any w' sa l xn xd h
  rw [decide_eq_true hl12] at z1
  have z2 := fun (w' : World) (h : RatsAt w' sb m) => small_any w' sb m yn yd h
  rw [decide_eq_true hm12] at z2
  dsimp only at vs c4
  have ec : ∀ z : Int × Int, (z.1, z.2) = z := fun z => rfl
  generalize sumT l m (xn, xd) (yn, yd) = Su at *
  obtain ⟨L1, ⟨n1, d1⟩, e3⟩ := Su
  dsimp only at *
  generalize valT L1 q (n1, d1) = X4 at *
  generalize valT l q (xn, xd) = X1 at *
  generalize valT m q (yn, yd) = X2 at *
  generalize doT X1.1 X2.1 = X5 at *
  obtain ⟨⟨p1, p2⟩, e1⟩ := X1
  obtain ⟨⟨p3, p4⟩, e2⟩ := X2
  obtain ⟨⟨p5, p6⟩, e4⟩ := X4
  obtain ⟨⟨p7, p8⟩, e5⟩ := X5
  dsimp only at *
  have C1 := Lib.hid c1; have C2 := Lib.hid c2; have C3 := Lib.hid c3; have C4 := Lib.hid c4; have C5 := Lib.hid c5; have C6 := Lib.hid c6; have Z1 := Lib.hid z1; have Z2 := Lib.hid z2; have VS := Lib.hid vs
  have AW := Lib.hid (fun (w' : World) (hb : Below w.heap.size w w') => awake2_yes w' (pow10_on ht hb))
  have HC := Lib.hid (fun (w' : World) (hb : Below w.heap.size w w') => hc.below hb)
  have H := ((LiveT.start w).box ha xn xd 26).box (hb.below (below_alloc1 w _)) yn yd 26
  have L := ((Live.start w).call (below_alloc1 w (.cells #[sa, .int .i64 xn, .int .i64 xd] 26))).call (below_alloc1 (w.alloc (.cells #[sa, .int .i64 xn, .int .i64 xd] 26)) (.cells #[sb, .int .i64 yn, .int .i64 yd] 26))
  rw [World.size_alloc] at H
  obtain ⟨A, c, rfl⟩ := rats_shape ha
  obtain ⟨B, d, rfl⟩ := rats_shape hb
  obtain ⟨Q, f, rfl⟩ := rats_shape hc
  have q12 : decide ((q.length : Int) > 12) = false := decide_eq_false (by omega)
  have q13 : ¬ (12 : Int) < (q.length : Int) := by omega
  have q14 : decide (12 < q.length) = false := decide_eq_false (by omega)
  clear ht ha hl hb hm hc hq x1 x2 x3 x4 y1 y2 y3 y4 hx hy vs sw sbd v1b v2b c1 c2 c3 c4 c5 c6 z1 z2 hl12 hm12 ec
  generalize l.length = ll at *
  generalize m.length = lm at *
  generalize q.length = lq at *
  go_enter Tryd.func4, Tryd.ntmps4
  go_upto_region 3 with (first
    | (go_at_call 9; (with_reducible refine (AW.out _ H.below).mono ?_); rintro e w1 ⟨rfl, hq1⟩; have H := H.call hq1; have L := L.call hq1; have f10 := (H.f 1 rfl).k0; have f11 := (H.f 1 rfl).k1; have f12 := (H.f 1 rfl).k2; clear hq1)
    | (go_at_call 10; (first | (with_reducible refine (Z1.out _ (H.r 1 rfl)).mono ?_); rintro e w2 ⟨rfl, hq1⟩; have H := H.call hq1; have L := L.call hq1; have f00 := (H.f 0 rfl).k0; have f01 := (H.f 0 rfl).k1; have f02 := (H.f 0 rfl).k2; clear hq1 | (with_reducible refine (Z2.out _ (H.r 0 rfl)).mono ?_); rintro e w3 ⟨rfl, hq1⟩; have H := H.call hq1; have L := L.call hq1; have f10 := (H.f 1 rfl).k0; have f11 := (H.f 1 rfl).k1; have f12 := (H.f 1 rfl).k2; clear hq1)))
  clear q12 q13 q14
  go_upto_region 4 with (go_at_call 21; (with_reducible refine (C1.out _ (H.r 1 rfl) (HC.out _ H.below)).mono ?_); rintro e w4 ⟨rfl, hq1⟩)
  have L := (L.call hq1).box p1 p2
  have H := (H.call hq1).call (below_alloc1 w4 (.cells #[.int .i64 p1, .int .i64 p2] 24))
  have f10 := (H.f 1 rfl).k0
  have f11 := (H.f 1 rfl).k1
  have f12 := (H.f 1 rfl).k2
  clear hq1
  go_upto_region 5 with (go_at_call 22; (with_reducible refine (C2.out _ (H.r 1 rfl) (HC.out _ H.below)).mono ?_); rintro e w5 ⟨rfl, hq1⟩)
  have L := (L.call hq1).box p1 p2
  have H := (H.call hq1).call (below_alloc1 w5 (.cells #[.int .i64 p1, .int .i64 p2] 24))
  have r00 := L.n 0 rfl
  have r01 := L.d 0 rfl
  have r10 := L.n 1 rfl
  have r11 := L.d 1 rfl
  have f00 := (H.f 0 rfl).k0
  have f01 := (H.f 0 rfl).k1
  have f02 := (H.f 0 rfl).k2
  clear hq1
  have ee : (e1 != e1) = false := by simp
  go_upto_region 7 with fail
  clear ee
  go_upto_region 8 with (go_at_call 21; (with_reducible refine (C3.out _ (H.r 0 rfl) (HC.out _ H.below)).mono ?_); rintro e w7 ⟨rfl, hq1⟩)
  have L := (L.call hq1).box p3 p4
  have H := (H.call hq1).call (below_alloc1 w7 (.cells #[.int .i64 p3, .int .i64 p4] 24))
  have f00 := (H.f 0 rfl).k0
  have f01 := (H.f 0 rfl).k1
  have f02 := (H.f 0 rfl).k2
  have f10 := (H.f 1 rfl).k0
  have f11 := (H.f 1 rfl).k1
  have f12 := (H.f 1 rfl).k2
  clear hq1
  go_upto_region 9 with (go_at_call 11; (with_reducible refine (C4.out _ (H.r 1 rfl) (H.r 0 rfl)).mono ?_); rintro e w8 hp; obtain ⟨A8, c8, rfl, hv, hq1⟩ := termput_pair hp; clear hp)
  have L := (L.call hq1).call (below_alloc1 w8 (.cells #[.slice A8 L1.length c8, .int .i64 n1, .int .i64 d1] 26))
  have H := (H.call hq1).box hv n1 d1 26
  have f00 := (H.f 0 rfl).k0
  have f01 := (H.f 0 rfl).k1
  have f02 := (H.f 0 rfl).k2
  clear hq1 hv
  go_upto_region 10 with (go_at_call 21; (with_reducible refine (C5.out _ _ (H.r 0 rfl) (HC.out _ H.below)).mono ?_); rintro e w9 ⟨rfl, hq1⟩)
  have L := (L.call hq1).box p5 p6
  have H := (H.call hq1).call (below_alloc1 w9 (.cells #[.int .i64 p5, .int .i64 p6] 24))
  have r10 := L.n 1 rfl
  have r11 := L.d 1 rfl
  have r30 := L.n 3 rfl
  have r31 := L.d 3 rfl
  clear hq1
  go_upto_region 11 with (go_at_call 23; (with_reducible refine (C6.out _).mono ?_); rintro e w10 ⟨rfl, hq1⟩)
  have L := (L.call hq1).box p7 p8
  have H := (H.call hq1).call (below_alloc1 w10 (.cells #[.int .i64 p7, .int .i64 p8] 24))
  have r00 := L.n 0 rfl
  have r01 := L.d 0 rfl
  have r10 := L.n 1 rfl
  have r11 := L.d 1 rfl
  clear hq1
  by_cases g1 : e1 = 0
  rotate_left
  · have o1 : (e1 != 0) = true := by simpa using g1
    clear g1
    go_wp2_with fail
    go_ret
    exact ⟨rfl, H.below⟩
  subst g1
  by_cases g2 : e2 = 0
  rotate_left
  · have o2 : (e2 != 0) = true := by simpa using g2
    clear g2
    go_wp2_with fail
    go_ret
    exact ⟨rfl, H.below⟩
  subst g2
  by_cases g3 : e3 = 0
  rotate_left
  · have o3 : (e3 != 0) = true := by simpa using g3
    clear g3
    go_wp2_with fail
    go_ret
    exact ⟨rfl, H.below⟩
  subst g3
  by_cases g4 : e4 = 0
  rotate_left
  · have o4 : (e4 != 0) = true := by simpa using g4
    clear g4
    go_wp2_with fail
    go_ret
    exact ⟨rfl, H.below⟩
  subst g4
  by_cases g5 : e5 = 0
  rotate_left
  · have o5 : (e5 != 0) = true := by simpa using g5
    clear g5
    go_wp2_with fail
    go_ret
    exact ⟨rfl, H.below⟩
  subst g5
  have ev := VS.out rfl rfl rfl rfl rfl
  injection ev with ev1 ev2
  subst ev1
  subst ev2
  go_wp2_with fail
  go_ret
  exact ⟨rfl, H.below⟩

set_option maxRecDepth 4000 in
set_option maxHeartbeats 4000000 in
theorem values_big (w : World) (ht : Pow10 w) (sa : Value) (l : List (Int × Int)) (xn xd : Int) (ha : RatsAt w sa l) (sb : Value) (m : List (Int × Int)) (yn yd : Int) (hb : RatsAt w sb m) (sc : Value) (q : List (Int × Int)) (hc : RatsAt w sc q) (hbig : ¬ l.length ≤ 12 ∨ (l.length ≤ 12 ∧ ¬ m.length ≤ 12) ∨ (l.length ≤ 12 ∧ m.length ≤ 12 ∧ ¬ q.length ≤ 12)) :
    Calls Tryd.prog 4 #[.agg #[sa, .int .i64 xn, .int .i64 xd], .agg #[sb, .int .i64 yn, .int .i64 yd], sc] w fun r w' => r = .returned (.bool true) ∧ Below w.heap.size w w' := by
  have z1 := fun (w' : World) (h : RatsAt w' sa l) => small_any w' sa l xn xd h
  have z2 := fun (w' : World) (h : RatsAt w' sb m) => small_any w' sb m yn yd h
  have AW := Lib.hid (fun (w' : World) (hb : Below w.heap.size w w') => awake2_yes w' (pow10_on ht hb))
  have H := ((LiveT.start w).box ha xn xd 26).box (hb.below (below_alloc1 w _)) yn yd 26
  have L := ((Live.start w).call (below_alloc1 w (.cells #[sa, .int .i64 xn, .int .i64 xd] 26))).call (below_alloc1 (w.alloc (.cells #[sa, .int .i64 xn, .int .i64 xd] 26)) (.cells #[sb, .int .i64 yn, .int .i64 yd] 26))
  rw [World.size_alloc] at H
  obtain ⟨A, c, rfl⟩ := rats_shape ha
  obtain ⟨B, d, rfl⟩ := rats_shape hb
  obtain ⟨Q, f, rfl⟩ := rats_shape hc
  rcases hbig with hl12 | ⟨hl12, hm12⟩ | ⟨hl12, hm12, hq12⟩
  · rw [decide_eq_false hl12] at z1
    have Z1 := Lib.hid z1
    clear ht ha hb hc z1 z2 hl12
    generalize l.length = ll at *
    generalize m.length = lm at *
    generalize q.length = lq at *
    go_enter Tryd.func4, Tryd.ntmps4
    go_upto_region 2 with (first
      | (go_at_call 9; (with_reducible refine (AW.out _ H.below).mono ?_); rintro e w1 ⟨rfl, hq1⟩; have H := H.call hq1; have L := L.call hq1; have f10 := (H.f 1 rfl).k0; have f11 := (H.f 1 rfl).k1; have f12 := (H.f 1 rfl).k2; clear hq1)
      | (go_at_call 10; (with_reducible refine (Z1.out _ (H.r 1 rfl)).mono ?_); rintro e w2 ⟨rfl, hq1⟩; have H := H.call hq1; have L := L.call hq1; clear hq1))
    go_wp2_with (go_at_call 9; (with_reducible refine (AW.out _ H.below).mono ?_); rintro e w4 ⟨rfl, hq1⟩; have H := H.call hq1; have L := L.call hq1; clear hq1)
    go_ret
    exact ⟨rfl, H.below⟩
  · rw [decide_eq_true hl12] at z1
    rw [decide_eq_false hm12] at z2
    have Z1 := Lib.hid z1; have Z2 := Lib.hid z2
    clear ht ha hb hc z1 z2 hl12 hm12
    generalize l.length = ll at *
    generalize m.length = lm at *
    generalize q.length = lq at *
    go_enter Tryd.func4, Tryd.ntmps4
    go_upto_region 2 with (first
      | (go_at_call 9; (with_reducible refine (AW.out _ H.below).mono ?_); rintro e w1 ⟨rfl, hq1⟩; have H := H.call hq1; have L := L.call hq1; have f10 := (H.f 1 rfl).k0; have f11 := (H.f 1 rfl).k1; have f12 := (H.f 1 rfl).k2; clear hq1)
      | (go_at_call 10; (first | (with_reducible refine (Z1.out _ (H.r 1 rfl)).mono ?_); rintro e w2 ⟨rfl, hq1⟩; have H := H.call hq1; have L := L.call hq1; have f00 := (H.f 0 rfl).k0; have f01 := (H.f 0 rfl).k1; have f02 := (H.f 0 rfl).k2; clear hq1 | (with_reducible refine (Z2.out _ (H.r 0 rfl)).mono ?_); rintro e w3 ⟨rfl, hq1⟩; have H := H.call hq1; have L := L.call hq1; clear hq1)))
    go_wp2_with (go_at_call 9; (with_reducible refine (AW.out _ H.below).mono ?_); rintro e w4 ⟨rfl, hq1⟩; have H := H.call hq1; have L := L.call hq1; clear hq1)
    go_ret
    exact ⟨rfl, H.below⟩
  · rw [decide_eq_true hl12] at z1
    rw [decide_eq_true hm12] at z2
    have Z1 := Lib.hid z1; have Z2 := Lib.hid z2
    have q12 : decide ((q.length : Int) > 12) = true := decide_eq_true (by omega)
    have q13 : (12 : Int) < (q.length : Int) := by omega
    have q14 : decide (12 < q.length) = true := decide_eq_true (by omega)
    clear ht ha hb hc z1 z2 hl12 hm12 hq12
    generalize l.length = ll at *
    generalize m.length = lm at *
    generalize q.length = lq at *
    go_enter Tryd.func4, Tryd.ntmps4
    go_upto_region 2 with (first
      | (go_at_call 9; (with_reducible refine (AW.out _ H.below).mono ?_); rintro e w1 ⟨rfl, hq1⟩; have H := H.call hq1; have L := L.call hq1; have f10 := (H.f 1 rfl).k0; have f11 := (H.f 1 rfl).k1; have f12 := (H.f 1 rfl).k2; clear hq1)
      | (go_at_call 10; (first | (with_reducible refine (Z1.out _ (H.r 1 rfl)).mono ?_); rintro e w2 ⟨rfl, hq1⟩; have H := H.call hq1; have L := L.call hq1; have f00 := (H.f 0 rfl).k0; have f01 := (H.f 0 rfl).k1; have f02 := (H.f 0 rfl).k2; clear hq1 | (with_reducible refine (Z2.out _ (H.r 0 rfl)).mono ?_); rintro e w3 ⟨rfl, hq1⟩; have H := H.call hq1; have L := L.call hq1; clear hq1)))
    go_wp2_with (go_at_call 9; (with_reducible refine (AW.out _ H.below).mono ?_); rintro e w4 ⟨rfl, hq1⟩; have H := H.call hq1; have L := L.call hq1; clear hq1)
    go_ret
    exact ⟨rfl, H.below⟩

theorem values_any (w : World) (ht : Pow10 w) (sa : Value) (l : List (Int × Int)) (xn xd : Int) (ha : RatsAt w sa l) (hl : Wide l) (x1 : -9223372036854775808 ≤ xn) (x2 : xn ≤ 9223372036854775807) (x3 : -9223372036854775808 ≤ xd) (x4 : xd ≤ 9223372036854775807)
    (sb : Value) (m : List (Int × Int)) (yn yd : Int) (hb : RatsAt w sb m) (hm : Wide m) (y1 : -9223372036854775808 ≤ yn) (y2 : yn ≤ 9223372036854775807) (y3 : -9223372036854775808 ≤ yd) (y4 : yd ≤ 9223372036854775807)
    (sc : Value) (q : List (Int × Int)) (hc : RatsAt w sc q) (hq : Wide q) :
    Calls Tryd.prog 4 #[.agg #[sa, .int .i64 xn, .int .i64 xd], .agg #[sb, .int .i64 yn, .int .i64 yd], sc] w fun r w' => r = .returned (.bool true) ∧ Below w.heap.size w w' := by
  by_cases hl12 : l.length ≤ 12
  · by_cases hm12 : m.length ≤ 12
    · by_cases hq12 : q.length ≤ 12
      · exact values_small w ht sa l xn xd ha hl x1 x2 x3 x4 sb m yn yd hb hm y1 y2 y3 y4 sc q hc hq hl12 hm12 hq12
      · exact values_big w ht sa l xn xd ha sb m yn yd hb sc q hc (.inr (.inr ⟨hl12, hm12, hq12⟩))
    · exact values_big w ht sa l xn xd ha sb m yn yd hb sc q hc (.inr (.inl ⟨hl12, hm12⟩))
  · exact values_big w ht sa l xn xd ha sb m yn yd hb sc q hc (.inl hl12)
end Go.Proofs.YtkgndeiddjkhmaaDoor

namespace Go.Proofs.YtkgndeiddjkhmaaDoor
open Go.ChangeShapes Go.WideShapes Go.ChangeAt Go.RowKit

theorem termvalues_gPow : Tryd.prog.globalNamed "internal/strconv.uint64pow10" = some 2 := by kernel_rfl
theorem termvalues_gPowType : (Tryd.prog.globals[2]?).map (·.type) = some 122 := by kernel_rfl
theorem termvalues_cellsPow : Tryd.prog.cellsOf 122 = 20 := by kernel_rfl
theorem termvalues_cellsU64 : Tryd.prog.cellsOf 69 = 1 := by kernel_rfl
theorem termvalues_laidOut : laidOutB Tryd.prog = true := by kernel_rfl

/-- What the row's list gives: the table of powers. -/
theorem termvalues_table {W : World} (h : laidMetH Tryd.prog Rows.termValuesRow.laid W) : Pow10 W := by
  rw [MakeChecks.laidMetH_plain _ _ _ (by kernel_rfl)] at h
  exact Lib.tabIs_of_head (rest := []) termvalues_gPow termvalues_gPowType Tryd.underlying122 Tryd.underlying69 termvalues_cellsU64 termvalues_cellsPow (laidMet.tail (laidMet.tail h))

set_option maxRecDepth 100000 in
theorem termvalues_contract (H : Type) (enc : TypeId × Value → H) (W : World) (base : Nat) (args : Array Value) (ds gs : List (DataW H)) (before : List MemPlace)
    (hval : ∀ (j : Nat) t v, Tryd.f4.params[j]? = some t → args[j]? = some v → Value.okWide Tryd.prog W .any base t v)
    (hW : DataW.Whole enc Tryd.prog Tryd.f4.params.toList Rows.termValuesSpec.vars false W args.toList ds gs before) (hL : laidMetH Tryd.prog Rows.termValuesRow.laid W) :
    Calls Tryd.prog 4 args W fun e W' => ∃ v, e = .returned v ∧ Rows.termValuesSpec.post enc Tryd.prog Tryd.f4 false true false false W args v W' := by
  have hW' := hW
  obtain ⟨p, q, hA0, hV, rfl, _, _⟩ := hW
  have hA : DataW.TrodAll enc Tryd.prog W 0 (fun _ => true) true Tryd.f4.params.toList args.toList ds p := hA0
  rw [Tryd.params4] at hA hval
  obtain ⟨v0, v1, v2, d0, d1, d2, p0, p1, p2, rfl, rfl, rfl, h0, h1, h2⟩ := trodAll_three hA
  obtain ⟨rfl, rfl⟩ := trodVars_none hV
  clear hA0
  simp only [List.append_nil] at hW'
  have g0 := h0
  obtain ⟨s0, l0, n0, e0, rfl, r0, w0, a0, b0⟩ := open_term (hval 0 26 v0 rfl rfl) h0
  have g1 := h1
  obtain ⟨s1, l1, n1, e1, rfl, r1, w1, a1, b1⟩ := open_term (hval 1 26 v1 rfl rfl) h1
  have g2 := h2
  obtain ⟨l2, r2, w2⟩ := open_ratslice (hval 2 22 v2 rfl rfl) h2
  refine (values_any W (termvalues_table hL) s0 l0 n0 e0 r0 w0 a0.1 a0.2 b0.1 b0.2 s1 l1 n1 e1 r1 w1 a1.1 a1.2 b1.1 b1.2 v2 l2 r2 w2).mono fun r W' ⟨he, hb⟩ => ?_
  subst he
  exact ⟨_, rfl, post_of_below (pa := p0 ++ (p1 ++ p2)) (pv := []) hW' (fun _ _ _ => trodAll_mk1 (shut_bool Tryd.underlying4 _)) (fun sp hs => trodAll_mk3 (WideElems.Trod_stays termvalues_laidOut (by kernel_rfl) (of_decide_eq_true (by kernel_rfl)) g0 (fun x hx => hb.same (hW'.lt x (by simp [hx]))) (fun x hx => hs x (by simp [hx]))) (WideElems.Trod_stays termvalues_laidOut (by kernel_rfl) (of_decide_eq_true (by kernel_rfl)) g1 (fun x hx => hb.same (hW'.lt x (by simp [hx]))) (fun x hx => hs x (by simp [hx]))) (WideElems.Trod_stays termvalues_laidOut (by kernel_rfl) (of_decide_eq_true (by kernel_rfl)) g2 (fun x hx => hb.same (hW'.lt x (by simp [hx]))) (fun x hx => hs x (by simp [hx])))) (fun _ _ => rfl) (by simp) hb (ok_one (by kernel_rfl) rfl (okWide_bool_mk Tryd.underlying4 _))⟩

set_option maxRecDepth 100000 in
theorem termvalues_laid_met (os : Os) : laidMet Tryd.prog Rows.termValuesRow.laid ((World.doorLaid Tryd.prog 400 os).forCall (fun _ _ => 0) ⟨#[], #[.agg #[.slice none 0 0, .int .i64 0, .int .i64 0], .agg #[.slice none 0 0, .int .i64 0, .int .i64 0], .slice none 0 0], []⟩).memory :=
  laidMet_of_run' 8 (by kernel_rfl) (by kernel_rfl)
set_option maxRecDepth 100000 in
theorem termvalues_reads (os : Os) {H : Type} (enc : TypeId × Value → H) : ∃ places, DataW.whole enc Tryd.prog ((World.doorLaid Tryd.prog 400 os).forCall (fun _ _ => 0) ⟨#[], #[.agg #[.slice none 0 0, .int .i64 0, .int .i64 0], .agg #[.slice none 0 0, .int .i64 0, .int .i64 0], .slice none 0 0], []⟩).memory Tryd.f4.params.toList Rows.termValuesSpec.vars false #[Value.agg #[.slice none 0 0, .int .i64 0, .int .i64 0], Value.agg #[.slice none 0 0, .int .i64 0, .int .i64 0], Value.slice none 0 0].toList 8 = some ([.agg [.nil, .agg [.lit (.int .i64 0), .lit (.int .i64 0)]], .agg [.nil, .agg [.lit (.int .i64 0), .lit (.int .i64 0)]], .nil], [], places) :=
  ⟨[], by kernel_rfl⟩

set_option maxRecDepth 100000 in
theorem termvalues_lifted (os : Os) (started : os.Started) (H : Type) (enc : TypeId × Value → H) (F : Stop.Interp) :
    ReturnsInHanded {} Tryd.checked os 4 .any ((OpenSpec.ofChange Rows.termValuesSpec).preRow enc Tryd.prog Tryd.f4 Rows.termValuesRow.domain false Rows.termValuesRow.laid) (((OpenSpec.ofChange Rows.termValuesSpec).at F).post enc Tryd.prog Tryd.f4 false true false false) := by
  obtain ⟨places, hx⟩ := termvalues_reads os enc
  refine returnsInHanded_of_row (C := Tryd.checked) (s := (OpenSpec.ofChange Rows.termValuesSpec)) Tryd.own started (by kernel_rfl) Tryd.func4
    (witness_row_at (enc := enc) (C := Tryd.checked) false (World.doorLaid Tryd.prog 400 os) #[.agg #[.slice none 0 0, .int .i64 0, .int .i64 0], .agg #[.slice none 0 0, .int .i64 0, .int .i64 0], .slice none 0 0] rfl (by kernel_rfl) (by kernel_rfl) (by kernel_rfl)
      (OpenSpec.preRow_of_cond 8 hx (by kernel_rfl) (fun k hk => by cases hk) (by kernel_rfl) (termvalues_laid_met os))) ?_
  intro W base args ds gs before hval hW _ _ _ hL _ _
  exact termvalues_contract H enc W base args ds gs before hval hW hL

theorem termvalues_said : Rows.TermValuesSaid :=
  OpenClaim.holds_of_cond 4 Tryd.f4 rfl rfl rfl rfl rfl rfl rfl ⟨rfl, rfl, rfl, rfl, rfl⟩ rfl rfl rfl rfl rfl (by kernel_rfl) Tryd.func4 (by kernel_rfl)
    (of_decide_eq_true (by kernel_rfl)) (by unfold Func.isWrapper; first | (rw [if_pos (by decide +kernel)]; kernel_rfl) | (rw [if_neg (by decide +kernel)]; exact ⟨rfl, rfl⟩))
    (fun os started H enc _ F => by rw [OpenClaim.pre_eq_preRow]; exact termvalues_lifted os started H enc F)

theorem termvalues_plain (f : FuncId) (fn : Func) (hf : Tryd.pinned.checked.prog.funcNamed "ballcock/ballcocklaw02.TermValues" = some f) (hfn : Tryd.pinned.checked.prog.funcs[f]? = some fn) :
    false = Tryd.pinned.checked.prog.looks [] ∧ ∀ (j : Nat) t, fn.params[j]? = some t → Tryd.pinned.checked.prog.wantsStandIn t = false := by
  obtain rfl : f = 4 := Option.some.inj ((show Tryd.prog.funcNamed "ballcock/ballcocklaw02.TermValues" = some 4 by kernel_rfl).symm.trans hf) |>.symm
  obtain rfl : fn = Tryd.f4 := (Option.some.inj (Tryd.func4.symm.trans hfn)).symm
  refine ⟨by kernel_rfl, fun j t ht => ?_⟩
  rw [Tryd.params4] at ht
  have hm : t = 26 ∨ t = 22 := by simpa using Array.mem_of_getElem? ht
  rcases hm with rfl | rfl
  · exact (show Tryd.prog.wantsStandIn 26 = false by kernel_rfl)
  · exact (show Tryd.prog.wantsStandIn 22 = false by kernel_rfl)

theorem termvalues_holds : Rows.TermValuesCardSaid :=
  Claim7.holds_tied_plain_at .later [] _ _ _ _ termvalues_said (fun _ h => by cases h) (by kernel_rfl) (fun _ h => by cases h) termValues_row_tie rfl ⟨rfl, rfl⟩ (by kernel_rfl) rfl termvalues_plain (by kernel_rfl)
#print axioms termvalues_holds
end Go.Proofs.YtkgndeiddjkhmaaDoor
