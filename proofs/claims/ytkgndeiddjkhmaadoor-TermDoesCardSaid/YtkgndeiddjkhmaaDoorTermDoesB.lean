/-
  What is proved: the statement TermDoes, as its card: sums and multiples of any terms, their own forms, and what each variable has, are as the document says. Its conditions are the row's own (the tables as they are laid).
  (Template: by-name.py fills it; gen/card.py writes it.)
-/
import Derived.Test.YtkgndeiddjkhmaaDoorTermV
import Derived.Test.YtkgndeiddjkhmaaDoorTermN
import Derived.Test.YtkgndeiddjkhmaaDoorTermDoesA
import Derived.Deep.LoopGhost
import Derived.Test.YtkgndeiddjkhmaaDoorCards
import Derived.Test.YtkgndeiddjkhmaaDoorTie
import Derived.OpenShut
import Derived.LaidMore
import Derived.Stop.Joined
import Derived.Stop.LaidErr
import Derived.Deep.DeepHandedRow
namespace Go.Proofs.YtkgndeiddjkhmaaDoor
open Go.RowKit

abbrev Bd (x : Int × Int) : Prop := (-9223372036854775808 ≤ x.1 ∧ x.1 ≤ 9223372036854775807) ∧ (-9223372036854775808 ≤ x.2 ∧ x.2 ≤ 9223372036854775807)

/-- What Add answers, whatever the terms. -/
def sumT (l m : List (Int × Int)) (kx ky : Int × Int) : List (Int × Int) × (Int × Int) × Int :=
  if rightT l kx.1 kx.2 = true ∧ rightT m ky.1 ky.2 = true then putT addH l m kx ky else ([], (0, 0), 2)
/-- What Scale answers. -/
def timesT (l : List (Int × Int)) (kx kb : Int × Int) : List (Int × Int) × (Int × Int) × Int :=
  if rightT l kx.1 kx.2 = true ∧ rightB kb.1 kb.2 = true then putT (scaleH kb) l [] kx (0, 1) else ([], (0, 0), 2)

theorem bd_nought : Bd (0, 0) := by decide
theorem putT_wide {h : How} (hh : HowOk h) {l m : List (Int × Int)} {kx ky : Int × Int} (hl : AllOk l) (hm : AllOk m) (hx : OkR kx) (hy : OkR ky) : Wide (putT h l m kx ky).1 ∧ Bd (putT h l m kx ky).2.1 := by
  unfold putT
  split
  · rename_i g
    exact ⟨(combL_ok hh hl hm g.2).trim.wide, (hh.ok _ _ hx hy g.1).wide⟩
  · exact ⟨fun x hx => (by cases hx), bd_nought⟩

theorem sumT_wide {l m : List (Int × Int)} {kx ky : Int × Int} (hl : Wide l) (hm : Wide m) (hx : Bd kx) (hy : Bd ky) : Wide (sumT l m kx ky).1 ∧ Bd (sumT l m kx ky).2.1 := by
  unfold sumT
  split
  · rename_i g
    obtain ⟨_, a, b⟩ := right_parts g.1 hl hx.1.1 hx.1.2 hx.2.1 hx.2.2
    obtain ⟨_, c, d⟩ := right_parts g.2 hm hy.1.1 hy.1.2 hy.2.1 hy.2.2
    exact putT_wide addH_ok a c b d
  · exact ⟨fun x hx => (by cases hx), bd_nought⟩
theorem timesT_wide {l : List (Int × Int)} {kx kb : Int × Int} (hl : Wide l) (hx : Bd kx) (hb : Bd kb) : Wide (timesT l kx kb).1 ∧ Bd (timesT l kx kb).2.1 := by
  unfold timesT
  split
  · rename_i g
    obtain ⟨_, a, b⟩ := right_parts g.1 hl hx.1.1 hx.1.2 hx.2.1 hx.2.2
    exact putT_wide (scaleH_ok (okR_of g.2 hb)) a allOk_none b okR_nought
  · exact ⟨fun x hx => (by cases hx), bd_nought⟩

theorem tadd_any (w : World) (va vb : Value) (l m : List (Int × Int)) (kx ky : Int × Int) (ha : RatsAt w va l) (hb : RatsAt w vb m) (hl : Wide l) (hm : Wide m) (hx : Bd kx) (hy : Bd ky) :
    Calls Tryd.prog 11 #[.agg #[va, .int .i64 kx.1, .int .i64 kx.2], .agg #[vb, .int .i64 ky.1, .int .i64 ky.2]] w (TermPut w (sumT l m kx ky).1 (sumT l m kx ky).2.1 (sumT l m kx ky).2.2) := by
  unfold sumT
  split
  · rename_i g
    obtain ⟨p, a, b⟩ := right_parts g.1 hl hx.1.1 hx.1.2 hx.2.1 hx.2.2
    obtain ⟨q, c, d⟩ := right_parts g.2 hm hy.1.1 hy.1.2 hy.2.1 hy.2.2
    exact tadd_right w va vb l m kx ky ha hb a c b d p q
  · rename_i g
    refine tadd_wrong w va vb l m kx.1 kx.2 ky.1 ky.2 ha hb hl hm hx.1.1 hx.1.2 hx.2.1 hx.2.2 hy.1.1 hy.1.2 hy.2.1 hy.2.2 ?_
    cases a : rightT l kx.1 kx.2
    · exact .inl rfl
    · cases b : rightT m ky.1 ky.2
      · exact .inr ⟨rfl, rfl⟩
      · exact absurd ⟨a, b⟩ g
theorem tscale_any (w : World) (va : Value) (l : List (Int × Int)) (kx kb : Int × Int) (ha : RatsAt w va l) (hl : Wide l) (hx : Bd kx) (hb : Bd kb) :
    Calls Tryd.prog 13 #[.agg #[va, .int .i64 kx.1, .int .i64 kx.2], ratV kb.1 kb.2] w (TermPut w (timesT l kx kb).1 (timesT l kx kb).2.1 (timesT l kx kb).2.2) := by
  unfold timesT
  split
  · rename_i g
    obtain ⟨p, a, b⟩ := right_parts g.1 hl hx.1.1 hx.1.2 hx.2.1 hx.2.2
    exact tscale_right w va l kx kb ha a b (okR_of g.2 hb) p
  · rename_i g
    refine tscale_wrong w va l kx.1 kx.2 kb.1 kb.2 ha hl hx.1.1 hx.1.2 hx.2.1 hx.2.2 hb.1.1 hb.1.2 hb.2.1 hb.2.2 ?_
    cases a : rightT l kx.1 kx.2
    · exact .inl rfl
    · cases b : rightB kb.1 kb.2
      · exact .inr ⟨rfl, rfl⟩
      · exact absurd ⟨a, b⟩ g

theorem sumT_comm (l m : List (Int × Int)) (kx ky : Int × Int) : sumT l m kx ky = sumT m l ky kx := by
  have e : putT addH l m kx ky = putT addH m l ky kx := by
    have c : combL addH l m = combL addH m l := by
      unfold combL
      rw [Nat.max_comm]
      exact List.map_congr_left fun i _ => by rw [addH_comm]
    have d : combOk addH l m (max l.length m.length) = combOk addH m l (max m.length l.length) := by
      unfold combOk
      rw [Nat.max_comm]
      exact propext ⟨fun h i hi => by rw [addH_comm]; exact h i hi, fun h i hi => by rw [addH_comm]; exact h i hi⟩
    unfold putT
    rw [c, addH_comm kx ky]
    simp only [d]
  unfold sumT
  rw [e]
  by_cases g : rightT l kx.1 kx.2 = true ∧ rightT m ky.1 ky.2 = true
  · rw [if_pos g, if_pos ⟨g.2, g.1⟩]
  · rw [if_neg g, if_neg (fun q => g ⟨q.2, q.1⟩)]

/-- .. where all went well, variable by variable. -/
structure Put (h : How) (l m : List (Int × Int)) (kx ky : Int × Int) (L : List (Int × Int)) (k : Int × Int) : Prop where
  ok : AllOk L
  len : L.length ≤ 8
  own : trimL L = L
  okk : OkR k
  k : (h kx ky).2 = 0 ∧ k = (h kx ky).1
  at_ : ∀ i : Nat, (h (atL l i) (atL m i)).2 = 0 ∧ atL L i = (h (atL l i) (atL m i)).1

theorem put_of {h : How} (hh : HowOk h) (h0 : h (0, 1) (0, 1) = ((0, 1), 0)) {l m : List (Int × Int)} {kx ky : Int × Int} (hl : AllOk l) (hm : AllOk m) (hx : OkR kx) (hy : OkR ky) (h8 : l.length ≤ 8) (h8' : m.length ≤ 8) (he : (putT h l m kx ky).2.2 = 0) :
    Put h l m kx ky (putT h l m kx ky).1 (putT h l m kx ky).2.1 := by
  obtain ⟨a, b, c, d, e, f⟩ := putT_ok hh hl hm hx hy h8 h8' he
  rw [c]
  refine ⟨d.trim, Nat.le_trans (trimL_len _) e, trimL_twice _, f, ⟨a, rfl⟩, fun i => ?_⟩
  rw [atL_trim d, combL_at]
  by_cases g : i < max l.length m.length
  · rw [if_pos g]
    exact ⟨b i g, rfl⟩
  · rw [if_neg g, atL_out (l := l) (.inr (by omega)), atL_out (l := m) (.inr (by omega)), h0]
    exact ⟨rfl, rfl⟩

theorem addH_00 : addH (0, 1) (0, 1) = ((0, 1), 0) := addH_nought okR_nought
theorem mulH_0 {k : Int × Int} (hk : OkR k) : mulH (0, 1) k = ((0, 1), 0) := mulH_of okR_nought hk okR_nought (by show 0 * (1 * k.2) = 0 * k.1 * 1; grind)

theorem sum_put {l m : List (Int × Int)} {kx ky : Int × Int} (hl : Wide l) (hm : Wide m) (hx : Bd kx) (hy : Bd ky) (he : (sumT l m kx ky).2.2 = 0) : AllOk l ∧ AllOk m ∧ OkR kx ∧ OkR ky ∧ l.length ≤ 8 ∧ m.length ≤ 8 ∧ Put addH l m kx ky (sumT l m kx ky).1 (sumT l m kx ky).2.1 := by
  by_cases g : rightT l kx.1 kx.2 = true ∧ rightT m ky.1 ky.2 = true
  · obtain ⟨p, a, b⟩ := right_parts g.1 hl hx.1.1 hx.1.2 hx.2.1 hx.2.2
    obtain ⟨q, c, d⟩ := right_parts g.2 hm hy.1.1 hy.1.2 hy.2.1 hy.2.2
    have e : sumT l m kx ky = putT addH l m kx ky := if_pos g
    rw [e] at he ⊢
    exact ⟨a, c, b, d, p, q, put_of addH_ok addH_00 a c b d p q he⟩
  · unfold sumT at he
    rw [if_neg g] at he
    cases he
theorem times_put {l : List (Int × Int)} {kx kb : Int × Int} (hl : Wide l) (hx : Bd kx) (hb : Bd kb) (he : (timesT l kx kb).2.2 = 0) : AllOk l ∧ OkR kx ∧ OkR kb ∧ l.length ≤ 8 ∧ Put (scaleH kb) l [] kx (0, 1) (timesT l kx kb).1 (timesT l kx kb).2.1 := by
  by_cases g : rightT l kx.1 kx.2 = true ∧ rightB kb.1 kb.2 = true
  · obtain ⟨p, a, b⟩ := right_parts g.1 hl hx.1.1 hx.1.2 hx.2.1 hx.2.2
    have c := okR_of g.2 hb
    have e : timesT l kx kb = putT (scaleH kb) l [] kx (0, 1) := if_pos g
    rw [e] at he ⊢
    exact ⟨a, b, c, p, put_of (scaleH_ok c) (mulH_0 c) a allOk_none b okR_nought p (by simp) he⟩
  · unfold timesT at he
    rw [if_neg g] at he
    cases he

theorem distr (a1 a2 c1 c2 b1 b2 s1 s2 x1 x2 y1 y2 z1 z2 w1 w2 : Int) (h1 : s1 * (a2 * c2) = (a1 * c2 + c1 * a2) * s2) (h2 : x1 * (s2 * b2) = s1 * b1 * x2) (h3 : y1 * (a2 * b2) = a1 * b1 * y2) (h4 : z1 * (c2 * b2) = c1 * b1 * z2)
    (h5 : w1 * (y2 * z2) = (y1 * z2 + z1 * y2) * w2) : x1 * w2 * (a2 * c2 * b2 * s2 * y2 * z2) = w1 * x2 * (a2 * c2 * b2 * s2 * y2 * z2) := by
  have e1 : x1 * w2 * (a2 * c2 * b2 * s2 * y2 * z2) = (x1 * (s2 * b2)) * (a2 * c2) * (y2 * z2) * w2 := by grind
  have e2 : w1 * x2 * (a2 * c2 * b2 * s2 * y2 * z2) = (w1 * (y2 * z2)) * (a2 * c2 * b2 * s2) * x2 := by grind
  have e3 : (y1 * z2 + z1 * y2) * (a2 * b2 * (c2 * b2)) = (y1 * (a2 * b2)) * z2 * (c2 * b2) + (z1 * (c2 * b2)) * y2 * (a2 * b2) := by grind
  grind

theorem OkR.same {x w : Int × Int} (hx : OkR x) (hw : OkR w) {D : Int} (hD : 0 < D) (h : x.1 * w.2 * D = w.1 * x.2 * D) : x = w :=
  hx.ext hw (Int.eq_of_mul_eq_mul_right (by omega) h)

theorem distr_ok {a c b s x y z w : Int × Int} (ha : OkR a) (hc : OkR c) (hb : OkR b) (e1 : (addH a c).2 = 0) (hs : s = (addH a c).1) (e2 : (mulH s b).2 = 0) (hx : x = (mulH s b).1) (e3 : (mulH a b).2 = 0) (hy : y = (mulH a b).1) (e4 : (mulH c b).2 = 0) (hz : z = (mulH c b).1)
    (e5 : (addH y z).2 = 0) (hw : w = (addH y z).1) : x = w := by
  obtain ⟨os, f1⟩ := addH_eq ha hc e1
  rw [← hs] at os f1
  obtain ⟨ox, f2⟩ := mulH_eq os hb e2
  rw [← hx] at ox f2
  obtain ⟨oy, f3⟩ := mulH_eq ha hb e3
  rw [← hy] at oy f3
  obtain ⟨oz, f4⟩ := mulH_eq hc hb e4
  rw [← hz] at oz f4
  obtain ⟨ow, f5⟩ := addH_eq oy oz e5
  rw [← hw] at ow f5
  exact ox.same ow (Int.mul_pos (Int.mul_pos (Int.mul_pos (Int.mul_pos (Int.mul_pos ha.den hc.den) hb.den) os.den) oy.den) oz.den) (distr _ _ _ _ _ _ _ _ _ _ _ _ _ _ _ _ f1 f2 f3 f4 f5)

/-- A sum so many times is the sum of both so many times, where nothing runs over. -/
theorem turned {l m : List (Int × Int)} {kx ky kb : Int × Int} (hl : Wide l) (hm : Wide m) (hx : Bd kx) (hy : Bd ky) (hb : Bd kb) (e1 : (sumT l m kx ky).2.2 = 0) (e2 : (timesT (sumT l m kx ky).1 (sumT l m kx ky).2.1 kb).2.2 = 0) (e3 : (timesT l kx kb).2.2 = 0) (e4 : (timesT m ky kb).2.2 = 0)
    (e5 : (sumT (timesT l kx kb).1 (timesT m ky kb).1 (timesT l kx kb).2.1 (timesT m ky kb).2.1).2.2 = 0) :
    let X := timesT (sumT l m kx ky).1 (sumT l m kx ky).2.1 kb
    let W := sumT (timesT l kx kb).1 (timesT m ky kb).1 (timesT l kx kb).2.1 (timesT m ky kb).2.1
    X.1 = W.1 ∧ X.2.1 = W.2.1 ∧ rightT X.1 X.2.1.1 X.2.1.2 = true ∧ rightT W.1 W.2.1.1 W.2.1.2 = true := by
  intro X W
  obtain ⟨sw, sb⟩ := sumT_wide hl hm hx hy
  obtain ⟨yw, yb⟩ := timesT_wide hl hx hb
  obtain ⟨zw, zb⟩ := timesT_wide hm hy hb
  obtain ⟨al, am, ox, oy, l8, m8, P1⟩ := sum_put hl hm hx hy e1
  obtain ⟨_, _, ob, _, P2⟩ := times_put sw sb hb e2
  obtain ⟨_, _, _, _, P3⟩ := times_put hl hx hb e3
  obtain ⟨_, _, _, _, P4⟩ := times_put hm hy hb e4
  obtain ⟨_, _, _, _, _, _, P5⟩ := sum_put yw zw yb zb e5
  refine ⟨?_, distr_ok ox oy ob P1.k.1 P1.k.2 P2.k.1 P2.k.2 P3.k.1 P3.k.2 P4.k.1 P4.k.2 P5.k.1 P5.k.2, right_mk P2.len P2.ok P2.okk, right_mk P5.len P5.ok P5.okk⟩
  rw [← P2.own, ← P5.own]
  exact trim_ext P2.ok P5.ok fun i => distr_ok (al.at i) (am.at i) ob (P1.at_ i).1 (P1.at_ i).2 (P2.at_ i).1 (P2.at_ i).2 (P3.at_ i).1 (P3.at_ i).2 (P4.at_ i).1 (P4.at_ i).2 (P5.at_ i).1 (P5.at_ i).2
end Go.Proofs.YtkgndeiddjkhmaaDoor

namespace Go.Proofs.YtkgndeiddjkhmaaDoor
open Go.RowKit

set_option maxRecDepth 4000 in
set_option maxHeartbeats 8000000 in
theorem turns_small (w : World) (ht : Pow10 w) (sa : Value) (l : List (Int × Int)) (xn xd : Int) (ha : RatsAt w sa l) (hl : Wide l) (x1 : -9223372036854775808 ≤ xn) (x2 : xn ≤ 9223372036854775807) (x3 : -9223372036854775808 ≤ xd) (x4 : xd ≤ 9223372036854775807)
    (sb : Value) (m : List (Int × Int)) (yn yd : Int) (hb : RatsAt w sb m) (hm : Wide m) (y1 : -9223372036854775808 ≤ yn) (y2 : yn ≤ 9223372036854775807) (y3 : -9223372036854775808 ≤ yd) (y4 : yd ≤ 9223372036854775807)
    (bn bd : Int) (b1 : -9223372036854775808 ≤ bn) (b2 : bn ≤ 9223372036854775807) (b3 : -9223372036854775808 ≤ bd) (b4 : bd ≤ 9223372036854775807) (hl12 : l.length ≤ 12) (hm12 : m.length ≤ 12) :
    Calls Tryd.prog 7 #[.agg #[sa, .int .i64 xn, .int .i64 xd], .agg #[sb, .int .i64 yn, .int .i64 yd], ratV bn bd] w fun r w' => r = .returned (.bool true) ∧ Below w.heap.size w w' := by
  have hx : Bd (xn, xd) := ⟨⟨x1, x2⟩, x3, x4⟩
  have hy : Bd (yn, yd) := ⟨⟨y1, y2⟩, y3, y4⟩
  have hk : Bd (bn, bd) := ⟨⟨b1, b2⟩, b3, b4⟩
  have tu := turned hl hm hx hy hk
  obtain ⟨sw, sbd⟩ := sumT_wide hl hm hx hy
  obtain ⟨xw, xbd⟩ := timesT_wide sw sbd hk
  obtain ⟨yw, ybd⟩ := timesT_wide hl hx hk
  obtain ⟨zw, zbd⟩ := timesT_wide hm hy hk
  obtain ⟨vw, vbd⟩ := sumT_wide yw zw ybd zbd
  have c1 := fun (w' : World) (h : RatsAt w' sa l) (h' : RatsAt w' sb m) => tadd_any w' sa sb l m (xn, xd) (yn, yd) h h' hl hm hx hy
  have c2 := fun (w' : World) (h : RatsAt w' sb m) (h' : RatsAt w' sa l) => tadd_any w' sb sa m l (yn, yd) (xn, xd) h h' hm hl hy hx
  rw [← sumT_comm l m (xn, xd) (yn, yd)] at c2
  have c3 := fun (w' : World) (v : Value) (h : RatsAt w' v (sumT l m (xn, xd) (yn, yd)).1) => tscale_any w' v _ (sumT l m (xn, xd) (yn, yd)).2.1 (bn, bd) h sw sbd hk
  have c4 := fun (w' : World) (h : RatsAt w' sa l) => tscale_any w' sa l (xn, xd) (bn, bd) h hl hx hk
  have c5 := fun (w' : World) (h : RatsAt w' sb m) => tscale_any w' sb m (yn, yd) (bn, bd) h hm hy hk
  have c6 := fun (w' : World) (v v' : Value) (h : RatsAt w' v (timesT l (xn, xd) (bn, bd)).1) (h' : RatsAt w' v' (timesT m (yn, yd) (bn, bd)).1) => tadd_any w' v v' _ _ (timesT l (xn, xd) (bn, bd)).2.1 (timesT m (yn, yd) (bn, bd)).2.1 h h' yw zw ybd zbd
  have eq := fun (w' : World) (v v' : Value) (hv : RatsAt w' v (sumT l m (xn, xd) (yn, yd)).1) (hv' : RatsAt w' v' (sumT l m (xn, xd) (yn, yd)).1) => r2equal_same w' v v' (sumT l m (xn, xd) (yn, yd)).1 (sumT l m (xn, xd) (yn, yd)).2.1.1 (sumT l m (xn, xd) (yn, yd)).2.1.2 hv hv'
  have z1 := fun (w' : World) (h : RatsAt w' sa l) => small_any w' sa l xn xd h
  rw [decide_eq_true hl12] at z1
  have z2 := fun (w' : World) (h : RatsAt w' sb m) => small_any w' sb m yn yd h
  rw [decide_eq_true hm12] at z2
  dsimp only at tu
  generalize sumT l m (xn, xd) (yn, yd) = S at *
  generalize timesT S.1 S.2.1 (bn, bd) = X at *
  generalize timesT l (xn, xd) (bn, bd) = Y at *
  generalize timesT m (yn, yd) (bn, bd) = Z at *
  generalize sumT Y.1 Z.1 Y.2.1 Z.2.1 = V at *
  obtain ⟨L1, ⟨n1, d1⟩, e1⟩ := S
  obtain ⟨L2, ⟨n2, d2⟩, e2⟩ := X
  obtain ⟨L3, ⟨n3, d3⟩, e3⟩ := Y
  obtain ⟨L4, ⟨n4, d4⟩, e4⟩ := Z
  obtain ⟨L5, ⟨n5, d5⟩, e5⟩ := V
  dsimp only at *
  have sm : e1 = 0 → e2 = 0 → e3 = 0 → e4 = 0 → e5 = 0 → ∀ (w' : World) (v v' : Value), RatsAt w' v L2 → RatsAt w' v' L5 → Calls Tryd.prog 26 #[.agg #[v, .int .i64 n2, .int .i64 d2], .agg #[v', .int .i64 n5, .int .i64 d5]] w' fun r w2 => r = .returned (.bool true) ∧ Below w'.heap.size w' w2 := by
    intro h1 h2 h3 h4 h5 w' v v' hv hv'
    obtain ⟨p, q, r1, r2⟩ := tu h1 h2 h3 h4 h5
    cases q
    subst p
    have := same_right w' v v' L2 L2 n2 d2 hv xw hv' xw xbd.1.1 xbd.1.2 xbd.2.1 xbd.2.2 r1 r2
    rwa [decide_eq_true rfl] at this
  have C1 := Lib.hid c1; have C2 := Lib.hid c2; have C3 := Lib.hid c3; have C4 := Lib.hid c4; have C5 := Lib.hid c5; have C6 := Lib.hid c6; have EQ := Lib.hid eq; have Z1 := Lib.hid z1; have Z2 := Lib.hid z2; have SM := Lib.hid sm
  have AW := Lib.hid (fun (w' : World) (hb : Below w.heap.size w w') => awake2_yes w' (pow10_on ht hb))
  have H := ((LiveT.start w).box ha xn xd 26).box (hb.below (below_alloc1 w _)) yn yd 26
  have Q := RatAt.start ((w.alloc (.cells #[sa, .int .i64 xn, .int .i64 xd] 26)).alloc (.cells #[sb, .int .i64 yn, .int .i64 yd] 26)) bn bd 24
  rw [World.size_alloc, World.size_alloc] at Q
  have H := H.call (below_alloc1 _ (.cells #[.int .i64 bn, .int .i64 bd] 24))
  rw [World.size_alloc] at H
  obtain ⟨A, c, rfl⟩ := rats_shape ha
  obtain ⟨B, d, rfl⟩ := rats_shape hb
  clear ht ha hl hb hm x1 x2 x3 x4 y1 y2 y3 y4 b1 b2 b3 b4 hx hy hk tu sw sbd xw xbd yw ybd zw zbd vw vbd c1 c2 c3 c4 c5 c6 eq z1 z2 sm hl12 hm12
  generalize l.length = ll at *
  generalize m.length = lm at *
  go_enter Tryd.func7, Tryd.ntmps7
  go_upto_region 3 with (first
    | (go_at_call 9; (with_reducible refine (AW.out _ H.below).mono ?_); rintro e w1 ⟨rfl, hq⟩; have H := H.call hq; have Q := Q.keep hq; have f10 := (H.f 1 rfl).k0; have f11 := (H.f 1 rfl).k1; have f12 := (H.f 1 rfl).k2; clear hq)
    | (go_at_call 10; (first | (with_reducible refine (Z1.out _ (H.r 1 rfl)).mono ?_); rintro e w2 ⟨rfl, hq⟩; have H := H.call hq; have Q := Q.keep hq; have f00 := (H.f 0 rfl).k0; have f01 := (H.f 0 rfl).k1; have f02 := (H.f 0 rfl).k2; clear hq | (with_reducible refine (Z2.out _ (H.r 0 rfl)).mono ?_); rintro e w3 ⟨rfl, hq⟩; have H := H.call hq; have Q := Q.keep hq; have f00 := (H.f 0 rfl).k0; have f01 := (H.f 0 rfl).k1; have f02 := (H.f 0 rfl).k2; have f10 := (H.f 1 rfl).k0; have f11 := (H.f 1 rfl).k1; have f12 := (H.f 1 rfl).k2; clear hq)))
  go_upto_region 4 with (go_at_call 11; (with_reducible refine (C1.out _ (H.r 1 rfl) (H.r 0 rfl)).mono ?_); rintro e w4 hp; obtain ⟨A4, c4, rfl, hv, hq⟩ := termput_pair hp; clear hp)
  have Q := (Q.keep hq).keep (below_alloc1 w4 (.cells #[.slice A4 L1.length c4, .int .i64 n1, .int .i64 d1] 26))
  have H := (H.call hq).box hv n1 d1 26
  have f10 := (H.f 1 rfl).k0
  have f11 := (H.f 1 rfl).k1
  have f12 := (H.f 1 rfl).k2
  have f20 := (H.f 2 rfl).k0
  have f21 := (H.f 2 rfl).k1
  have f22 := (H.f 2 rfl).k2
  have q0 := Q.k0
  have q1 := Q.k1
  clear hq hv
  go_upto_region 5 with (go_at_call 11; (with_reducible refine (C2.out _ (H.r 1 rfl) (H.r 2 rfl)).mono ?_); rintro e w5 hp; obtain ⟨A5, c5, rfl, hv, hq⟩ := termput_pair hp; clear hp)
  have Q := (Q.keep hq).keep (below_alloc1 w5 (.cells #[.slice A5 L1.length c5, .int .i64 n1, .int .i64 d1] 26))
  have H := (H.call hq).box hv n1 d1 26
  have f00 := (H.f 0 rfl).k0
  have f01 := (H.f 0 rfl).k1
  have f02 := (H.f 0 rfl).k2
  have f10 := (H.f 1 rfl).k0
  have f11 := (H.f 1 rfl).k1
  have f12 := (H.f 1 rfl).k2
  have q0 := Q.k0
  have q1 := Q.k1
  clear hq hv
  have eqe : (e1 != e1) = false := by simp
  go_upto_region 7 with (go_at_call 14; (with_reducible refine (EQ.out _ _ _ (H.r 1 rfl) (H.r 0 rfl)).mono ?_); rintro e w6 ⟨rfl, hq⟩; have H := H.call hq; have Q := Q.keep hq; have f10 := (H.f 1 rfl).k0; have f11 := (H.f 1 rfl).k1; have f12 := (H.f 1 rfl).k2; have q0 := Q.k0; have q1 := Q.k1; clear hq)
  clear eqe
  go_upto_region 8 with (go_at_call 13; (with_reducible refine (C3.out _ _ (H.r 1 rfl)).mono ?_); rintro e w7 hp; obtain ⟨A7, c7, rfl, hv, hq⟩ := termput_pair hp; clear hp)
  have Q := (Q.keep hq).keep (below_alloc1 w7 (.cells #[.slice A7 L2.length c7, .int .i64 n2, .int .i64 d2] 26))
  have H := (H.call hq).box hv n2 d2 26
  have f40 := (H.f 4 rfl).k0
  have f41 := (H.f 4 rfl).k1
  have f42 := (H.f 4 rfl).k2
  have q0 := Q.k0
  have q1 := Q.k1
  clear hq hv
  go_upto_region 9 with (go_at_call 13; (with_reducible refine (C4.out _ (H.r 4 rfl)).mono ?_); rintro e w8 hp; obtain ⟨A8, c8, rfl, hv, hq⟩ := termput_pair hp; clear hp)
  have Q := (Q.keep hq).keep (below_alloc1 w8 (.cells #[.slice A8 L3.length c8, .int .i64 n3, .int .i64 d3] 26))
  have H := (H.call hq).box hv n3 d3 26
  have f40 := (H.f 4 rfl).k0
  have f41 := (H.f 4 rfl).k1
  have f42 := (H.f 4 rfl).k2
  have q0 := Q.k0
  have q1 := Q.k1
  clear hq hv
  go_upto_region 10 with (go_at_call 13; (with_reducible refine (C5.out _ (H.r 4 rfl)).mono ?_); rintro e w9 hp; obtain ⟨A9, c9, rfl, hv, hq⟩ := termput_pair hp; clear hp)
  have Q := (Q.keep hq).keep (below_alloc1 w9 (.cells #[.slice A9 L4.length c9, .int .i64 n4, .int .i64 d4] 26))
  have H := (H.call hq).box hv n4 d4 26
  have f00 := (H.f 0 rfl).k0
  have f01 := (H.f 0 rfl).k1
  have f02 := (H.f 0 rfl).k2
  have f10 := (H.f 1 rfl).k0
  have f11 := (H.f 1 rfl).k1
  have f12 := (H.f 1 rfl).k2
  have q0 := Q.k0
  have q1 := Q.k1
  clear hq hv
  go_upto_region 11 with (go_at_call 11; (with_reducible refine (C6.out _ _ _ (H.r 1 rfl) (H.r 0 rfl)).mono ?_); rintro e w10 hp; obtain ⟨A10, c10, rfl, hv, hq⟩ := termput_pair hp; clear hp)
  have Q := (Q.keep hq).keep (below_alloc1 w10 (.cells #[.slice A10 L5.length c10, .int .i64 n5, .int .i64 d5] 26))
  have H := (H.call hq).box hv n5 d5 26
  have f00 := (H.f 0 rfl).k0
  have f01 := (H.f 0 rfl).k1
  have f02 := (H.f 0 rfl).k2
  have f30 := (H.f 3 rfl).k0
  have f31 := (H.f 3 rfl).k1
  have f32 := (H.f 3 rfl).k2
  have q0 := Q.k0
  have q1 := Q.k1
  clear hq hv
  by_cases g1 : e1 = 0
  rotate_left
  · have o1 : (e1 != 0) = true := by simpa using g1
    clear g1
    go_wp2_with fail
    go_ret
    exact ⟨rfl, H.below⟩
  subst g1
  by_cases g2 : e2 = 0
  rotate_left
  · have o2 : (e2 != 0) = true := by simpa using g2
    clear g2
    go_wp2_with fail
    go_ret
    exact ⟨rfl, H.below⟩
  subst g2
  by_cases g3 : e3 = 0
  rotate_left
  · have o3 : (e3 != 0) = true := by simpa using g3
    clear g3
    go_wp2_with fail
    go_ret
    exact ⟨rfl, H.below⟩
  subst g3
  by_cases g4 : e4 = 0
  rotate_left
  · have o4 : (e4 != 0) = true := by simpa using g4
    clear g4
    go_wp2_with fail
    go_ret
    exact ⟨rfl, H.below⟩
  subst g4
  by_cases g5 : e5 = 0
  rotate_left
  · have o5 : (e5 != 0) = true := by simpa using g5
    clear g5
    go_wp2_with fail
    go_ret
    exact ⟨rfl, H.below⟩
  subst g5
  go_wp2_with (go_at_call 26; (with_reducible refine (SM.out rfl rfl rfl rfl rfl _ _ _ (H.r 3 rfl) (H.r 0 rfl)).mono ?_); rintro e w11 ⟨rfl, hq⟩; have H := H.call hq; clear hq)
  go_ret
  exact ⟨rfl, H.below⟩

set_option maxRecDepth 4000 in
set_option maxHeartbeats 4000000 in
theorem turns_big (w : World) (ht : Pow10 w) (sa : Value) (l : List (Int × Int)) (xn xd : Int) (ha : RatsAt w sa l) (sb : Value) (m : List (Int × Int)) (yn yd : Int) (hb : RatsAt w sb m) (bn bd : Int) (hbig : ¬ l.length ≤ 12 ∨ (l.length ≤ 12 ∧ ¬ m.length ≤ 12)) :
    Calls Tryd.prog 7 #[.agg #[sa, .int .i64 xn, .int .i64 xd], .agg #[sb, .int .i64 yn, .int .i64 yd], ratV bn bd] w fun r w' => r = .returned (.bool true) ∧ Below w.heap.size w w' := by
  have z1 := fun (w' : World) (h : RatsAt w' sa l) => small_any w' sa l xn xd h
  have z2 := fun (w' : World) (h : RatsAt w' sb m) => small_any w' sb m yn yd h
  have AW := Lib.hid (fun (w' : World) (hb : Below w.heap.size w w') => awake2_yes w' (pow10_on ht hb))
  have H := ((LiveT.start w).box ha xn xd 26).box (hb.below (below_alloc1 w _)) yn yd 26
  have Q := RatAt.start ((w.alloc (.cells #[sa, .int .i64 xn, .int .i64 xd] 26)).alloc (.cells #[sb, .int .i64 yn, .int .i64 yd] 26)) bn bd 24
  rw [World.size_alloc, World.size_alloc] at Q
  have H := H.call (below_alloc1 _ (.cells #[.int .i64 bn, .int .i64 bd] 24))
  rw [World.size_alloc] at H
  obtain ⟨A, c, rfl⟩ := rats_shape ha
  obtain ⟨B, d, rfl⟩ := rats_shape hb
  rcases hbig with hl12 | ⟨hl12, hm12⟩
  · rw [decide_eq_false hl12] at z1
    have Z1 := Lib.hid z1
    clear ht ha hb z1 z2 hl12
    generalize l.length = ll at *
    generalize m.length = lm at *
    go_enter Tryd.func7, Tryd.ntmps7
    go_upto_region 2 with (first
      | (go_at_call 9; (with_reducible refine (AW.out _ H.below).mono ?_); rintro e w1 ⟨rfl, hq⟩; have H := H.call hq; have Q := Q.keep hq; have f10 := (H.f 1 rfl).k0; have f11 := (H.f 1 rfl).k1; have f12 := (H.f 1 rfl).k2; clear hq)
      | (go_at_call 10; (with_reducible refine (Z1.out _ (H.r 1 rfl)).mono ?_); rintro e w2 ⟨rfl, hq⟩; have H := H.call hq; have Q := Q.keep hq; clear hq))
    go_wp2_with (go_at_call 9; (with_reducible refine (AW.out _ H.below).mono ?_); rintro e w4 ⟨rfl, hq⟩; have H := H.call hq; have Q := Q.keep hq; clear hq)
    go_ret
    exact ⟨rfl, H.below⟩
  · rw [decide_eq_true hl12] at z1
    rw [decide_eq_false hm12] at z2
    have Z1 := Lib.hid z1; have Z2 := Lib.hid z2
    clear ht ha hb z1 z2 hl12 hm12
    generalize l.length = ll at *
    generalize m.length = lm at *
    go_enter Tryd.func7, Tryd.ntmps7
    go_upto_region 2 with (first
      | (go_at_call 9; (with_reducible refine (AW.out _ H.below).mono ?_); rintro e w1 ⟨rfl, hq⟩; have H := H.call hq; have Q := Q.keep hq; have f10 := (H.f 1 rfl).k0; have f11 := (H.f 1 rfl).k1; have f12 := (H.f 1 rfl).k2; clear hq)
      | (go_at_call 10; (first | (with_reducible refine (Z1.out _ (H.r 1 rfl)).mono ?_); rintro e w2 ⟨rfl, hq⟩; have H := H.call hq; have Q := Q.keep hq; have f00 := (H.f 0 rfl).k0; have f01 := (H.f 0 rfl).k1; have f02 := (H.f 0 rfl).k2; clear hq | (with_reducible refine (Z2.out _ (H.r 0 rfl)).mono ?_); rintro e w3 ⟨rfl, hq⟩; have H := H.call hq; have Q := Q.keep hq; clear hq)))
    go_wp2_with (go_at_call 9; (with_reducible refine (AW.out _ H.below).mono ?_); rintro e w4 ⟨rfl, hq⟩; have H := H.call hq; have Q := Q.keep hq; clear hq)
    go_ret
    exact ⟨rfl, H.below⟩

theorem turns_any (w : World) (ht : Pow10 w) (sa : Value) (l : List (Int × Int)) (xn xd : Int) (ha : RatsAt w sa l) (hl : Wide l) (x1 : -9223372036854775808 ≤ xn) (x2 : xn ≤ 9223372036854775807) (x3 : -9223372036854775808 ≤ xd) (x4 : xd ≤ 9223372036854775807)
    (sb : Value) (m : List (Int × Int)) (yn yd : Int) (hb : RatsAt w sb m) (hm : Wide m) (y1 : -9223372036854775808 ≤ yn) (y2 : yn ≤ 9223372036854775807) (y3 : -9223372036854775808 ≤ yd) (y4 : yd ≤ 9223372036854775807)
    (bn bd : Int) (b1 : -9223372036854775808 ≤ bn) (b2 : bn ≤ 9223372036854775807) (b3 : -9223372036854775808 ≤ bd) (b4 : bd ≤ 9223372036854775807) :
    Calls Tryd.prog 7 #[.agg #[sa, .int .i64 xn, .int .i64 xd], .agg #[sb, .int .i64 yn, .int .i64 yd], ratV bn bd] w fun r w' => r = .returned (.bool true) ∧ Below w.heap.size w w' := by
  by_cases hl12 : l.length ≤ 12
  · by_cases hm12 : m.length ≤ 12
    · exact turns_small w ht sa l xn xd ha hl x1 x2 x3 x4 sb m yn yd hb hm y1 y2 y3 y4 bn bd b1 b2 b3 b4 hl12 hm12
    · exact turns_big w ht sa l xn xd ha sb m yn yd hb bn bd (.inr ⟨hl12, hm12⟩)
  · exact turns_big w ht sa l xn xd ha sb m yn yd hb bn bd (.inl hl12)
end Go.Proofs.YtkgndeiddjkhmaaDoor

namespace Go.Proofs.YtkgndeiddjkhmaaDoor
open Go.RowKit

set_option maxRecDepth 4000 in
set_option maxHeartbeats 4000000 in
theorem rdo_wrong (op : Int) (w : World) (va vb : Value) (l m : List (Int × Int)) (xn xd yn yd : Int) (ha : RatsAt w va l) (hb : RatsAt w vb m) (hw : Wide l) (hw' : Wide m) (x1 : -9223372036854775808 ≤ xn) (x2 : xn ≤ 9223372036854775807) (x3 : -9223372036854775808 ≤ xd) (x4 : xd ≤ 9223372036854775807)
    (y1 : -9223372036854775808 ≤ yn) (y2 : yn ≤ 9223372036854775807) (y3 : -9223372036854775808 ≤ yd) (y4 : yd ≤ 9223372036854775807) (hr : rightT l xn xd = false ∨ (rightT l xn xd = true ∧ rightT m yn yd = false)) :
    Calls Tryd.prog 12 #[.int .i64 op, .agg #[va, .int .i64 xn, .int .i64 xd], .agg #[vb, .int .i64 yn, .int .i64 yd]] w (TermPut w [] (0, 0) 2) := by
  have ra := fun (w' : World) (h : Below w.heap.size w w') => r2right_any w' va l xn xd (ha.below h) hw x1 x2 x3 x4
  have rb := fun (w' : World) (h : Below w.heap.size w w') => r2right_any w' vb m yn yd (hb.below h) hw' y1 y2 y3 y4
  obtain ⟨A, c, rfl⟩ := rats_shape ha
  obtain ⟨B, d, rfl⟩ := rats_shape hb
  obtain ⟨F, G, E, hb0⟩ := three_boxes w (.slice A l.length c) (.int .i64 xn) (.int .i64 xd) (.slice B m.length d) (.int .i64 yn) (.int .i64 yd) (.slice none 0 0) (.int .i64 0) (.int .i64 0) 26
  rcases hr with hr | ⟨hr, hr'⟩
  · rw [hr] at ra
    have RA := Lib.hid ra
    clear ra rb ha hb hw hw' x1 x2 x3 x4 y1 y2 y3 y4 hr
    generalize l.length = ll at *
    generalize m.length = lm at *
    go_enter Tryd.func12, Tryd.ntmps12
    go_wp2_with (go_at_call 16; (with_reducible refine (RA.out _ hb0).mono ?_); rintro e w1 ⟨rfl, hb1⟩; have E := E.keep hb1; have b1 := Lib.hid (hb0.trans (hb1.mono hb0.size)); have e0 := E.k0; have e1 := E.k1; have e2 := E.k2; have l0 := E.l0; have l1 := E.l1; have l2 := E.l2)
    obtain ⟨c0, c1, c2⟩ := set_three (x := .slice none 0 0) (y := .int .i64 0) (z := .int .i64 0) e0 e1 e2
    obtain ⟨r1, r2, r3⟩ := put_end (w := w) (b := w.heap.size + 1 + 1) (kn := 0) (kd := 0) (RatsAt.nil w1) b1.out (Fresh.none_ _ _ _) (by omega) rfl
    exact bodyPost_ret (v := .tuple #[.agg #[.slice none 0 0, .int .i64 0, .int .i64 0], .int .i64 2]) (by simp [results, Tryd.results12, go_sem, c0, c1, c2]) rfl ⟨_, rfl, r1, r2, r3⟩
  · rw [hr] at ra
    rw [hr'] at rb
    have RA := Lib.hid ra; have RB := Lib.hid rb
    clear ra rb ha hb hw hw' x1 x2 x3 x4 y1 y2 y3 y4 hr hr'
    generalize l.length = ll at *
    generalize m.length = lm at *
    go_enter Tryd.func12, Tryd.ntmps12
    go_wp2_with (go_at_call 16; (first
        | (with_reducible refine (RA.out _ hb0).mono ?_); rintro e w1 ⟨rfl, hb1⟩; have G := G.keep hb1; have E := E.keep hb1; have b1 := hb0.trans (hb1.mono hb0.size); have m0 := G.k0; have m1 := G.k1; have m2 := G.k2
        | (with_reducible refine (RB.out _ b1).mono ?_); rintro e w2 ⟨rfl, hb2⟩; have E := E.keep hb2; have b2 := Lib.hid (b1.trans (hb2.mono b1.size)); have e0 := E.k0; have e1 := E.k1; have e2 := E.k2; have l0 := E.l0; have l1 := E.l1; have l2 := E.l2))
    obtain ⟨c0, c1, c2⟩ := set_three (x := .slice none 0 0) (y := .int .i64 0) (z := .int .i64 0) e0 e1 e2
    obtain ⟨r1, r2, r3⟩ := put_end (w := w) (b := w.heap.size + 1 + 1) (kn := 0) (kd := 0) (RatsAt.nil w2) b2.out (Fresh.none_ _ _ _) (by omega) rfl
    exact bodyPost_ret (v := .tuple #[.agg #[.slice none 0 0, .int .i64 0, .int .i64 0], .int .i64 2]) (by simp [results, Tryd.results12, go_sem, c0, c1, c2]) rfl ⟨_, rfl, r1, r2, r3⟩

theorem wrong_of {a b : Bool} (g : ¬ (a = true ∧ b = true)) : a = false ∨ (a = true ∧ b = false) := by
  cases a
  · exact .inl rfl
  · cases b
    · exact .inr ⟨rfl, rfl⟩
    · exact absurd ⟨rfl, rfl⟩ g
theorem rightT_none (kn kd : Int) : rightT [] kn kd = rightB kn kd := by
  unfold rightT allR
  simp

theorem rdo_sum_any (w : World) (va vb : Value) (l m : List (Int × Int)) (kx ky : Int × Int) (ha : RatsAt w va l) (hb : RatsAt w vb m) (hl : Wide l) (hm : Wide m) (hx : Bd kx) (hy : Bd ky) :
    Calls Tryd.prog 12 #[.int .i64 0, .agg #[va, .int .i64 kx.1, .int .i64 kx.2], .agg #[vb, .int .i64 ky.1, .int .i64 ky.2]] w (TermPut w (sumT l m kx ky).1 (sumT l m kx ky).2.1 (sumT l m kx ky).2.2) := by
  unfold sumT
  split
  · rename_i g
    obtain ⟨p, a, b⟩ := right_parts g.1 hl hx.1.1 hx.1.2 hx.2.1 hx.2.2
    obtain ⟨q, c, d⟩ := right_parts g.2 hm hy.1.1 hy.1.2 hy.2.1 hy.2.2
    unfold putT
    split
    · rename_i e
      exact rdo_sum_ok w va vb l m kx ky ha hb a c b d p q e.1 e.2
    · rename_i e
      exact rdo_sum_no w va vb l m kx ky ha hb a c b d p q e
  · rename_i g
    exact rdo_wrong 0 w va vb l m kx.1 kx.2 ky.1 ky.2 ha hb hl hm hx.1.1 hx.1.2 hx.2.1 hx.2.2 hy.1.1 hy.1.2 hy.2.1 hy.2.2 (wrong_of g)
theorem rdo_times_any (w : World) (va : Value) (l : List (Int × Int)) (kx kb : Int × Int) (ha : RatsAt w va l) (hl : Wide l) (hx : Bd kx) (hb : Bd kb) :
    Calls Tryd.prog 12 #[.int .i64 2, .agg #[va, .int .i64 kx.1, .int .i64 kx.2], .agg #[.slice none 0 0, .int .i64 kb.1, .int .i64 kb.2]] w (TermPut w (timesT l kx kb).1 (timesT l kx kb).2.1 (timesT l kx kb).2.2) := by
  unfold timesT
  split
  · rename_i g
    obtain ⟨p, a, b⟩ := right_parts g.1 hl hx.1.1 hx.1.2 hx.2.1 hx.2.2
    have c := okR_of g.2 hb
    unfold putT
    have e0 : max l.length ([] : List (Int × Int)).length = l.length := by simp
    rw [e0]
    split
    · rename_i e
      exact rdo_times_ok w va l kx kb ha a b c p e.1 e.2
    · rename_i e
      exact rdo_times_no w va l kx kb ha a b c p e
  · rename_i g
    rw [← rightT_none] at g
    exact rdo_wrong 2 w va (.slice none 0 0) l [] kx.1 kx.2 kb.1 kb.2 ha (RatsAt.nil w) hl (fun x hx => by cases hx) hx.1.1 hx.1.2 hx.2.1 hx.2.2 hb.1.1 hb.1.2 hb.2.1 hb.2.2 (wrong_of g)
end Go.Proofs.YtkgndeiddjkhmaaDoor

namespace Go.Proofs.YtkgndeiddjkhmaaDoor
open Go.RowKit

section
variable {w wr w2 : World} {b0 b1 b2 b3 b4 b5 : Nat} {v0 v1 v2 v3 v4 v5 : Value} {n0 d0 n1 d1 n2 d2 n3 d3 n4 d4 n5 d5 : Int} {l0 l1 l2 l3 l4 l5 : List (Int × Int)}
theorem LiveT.does (h : LiveT w wr [⟨b0, v0, n0, d0, l0⟩, ⟨b1, v1, n1, d1, l1⟩, ⟨b2, v2, n2, d2, l2⟩, ⟨b3, v3, n3, d3, l3⟩, ⟨b4, v4, n4, d4, l4⟩, ⟨b5, v5, n5, d5, l5⟩]) : ((wr.cell? ⟨b0, 0, none⟩ = some v0 ∧ wr.cell? ⟨b0, 1, none⟩ = some (.int .i64 n0) ∧ wr.cell? ⟨b0, 2, none⟩ = some (.int .i64 d0)) ∧ (wr.cell? ⟨b1, 0, none⟩ = some v1 ∧ wr.cell? ⟨b1, 1, none⟩ = some (.int .i64 n1) ∧ wr.cell? ⟨b1, 2, none⟩ = some (.int .i64 d1)) ∧ (wr.cell? ⟨b2, 0, none⟩ = some v2 ∧ wr.cell? ⟨b2, 1, none⟩ = some (.int .i64 n2) ∧ wr.cell? ⟨b2, 2, none⟩ = some (.int .i64 d2)) ∧ (wr.cell? ⟨b3, 0, none⟩ = some v3 ∧ wr.cell? ⟨b3, 1, none⟩ = some (.int .i64 n3) ∧ wr.cell? ⟨b3, 2, none⟩ = some (.int .i64 d3)) ∧ (wr.cell? ⟨b5, 0, none⟩ = some v5 ∧ wr.cell? ⟨b5, 1, none⟩ = some (.int .i64 n5) ∧ wr.cell? ⟨b5, 2, none⟩ = some (.int .i64 d5))) ∧ LiveT w wr [⟨b0, v0, n0, d0, l0⟩, ⟨b1, v1, n1, d1, l1⟩, ⟨b2, v2, n2, d2, l2⟩, ⟨b3, v3, n3, d3, l3⟩, ⟨b4, v4, n4, d4, l4⟩, ⟨b5, v5, n5, d5, l5⟩] :=
  ⟨⟨⟨(h.f 0 rfl).k0, (h.f 0 rfl).k1, (h.f 0 rfl).k2⟩, ⟨(h.f 1 rfl).k0, (h.f 1 rfl).k1, (h.f 1 rfl).k2⟩, ⟨(h.f 2 rfl).k0, (h.f 2 rfl).k1, (h.f 2 rfl).k2⟩, ⟨(h.f 3 rfl).k0, (h.f 3 rfl).k1, (h.f 3 rfl).k2⟩, ⟨(h.f 5 rfl).k0, (h.f 5 rfl).k1, (h.f 5 rfl).k2⟩⟩, h⟩
theorem hold_does {A : Prop} (hb : Below wr.heap.size wr w2) (h : A ∧ LiveT w wr [⟨b0, v0, n0, d0, l0⟩, ⟨b1, v1, n1, d1, l1⟩, ⟨b2, v2, n2, d2, l2⟩, ⟨b3, v3, n3, d3, l3⟩, ⟨b4, v4, n4, d4, l4⟩, ⟨b5, v5, n5, d5, l5⟩]) : ((w2.cell? ⟨b0, 0, none⟩ = some v0 ∧ w2.cell? ⟨b0, 1, none⟩ = some (.int .i64 n0) ∧ w2.cell? ⟨b0, 2, none⟩ = some (.int .i64 d0)) ∧ (w2.cell? ⟨b1, 0, none⟩ = some v1 ∧ w2.cell? ⟨b1, 1, none⟩ = some (.int .i64 n1) ∧ w2.cell? ⟨b1, 2, none⟩ = some (.int .i64 d1)) ∧ (w2.cell? ⟨b2, 0, none⟩ = some v2 ∧ w2.cell? ⟨b2, 1, none⟩ = some (.int .i64 n2) ∧ w2.cell? ⟨b2, 2, none⟩ = some (.int .i64 d2)) ∧ (w2.cell? ⟨b3, 0, none⟩ = some v3 ∧ w2.cell? ⟨b3, 1, none⟩ = some (.int .i64 n3) ∧ w2.cell? ⟨b3, 2, none⟩ = some (.int .i64 d3)) ∧ (w2.cell? ⟨b5, 0, none⟩ = some v5 ∧ w2.cell? ⟨b5, 1, none⟩ = some (.int .i64 n5) ∧ w2.cell? ⟨b5, 2, none⟩ = some (.int .i64 d5))) ∧ LiveT w w2 [⟨b0, v0, n0, d0, l0⟩, ⟨b1, v1, n1, d1, l1⟩, ⟨b2, v2, n2, d2, l2⟩, ⟨b3, v3, n3, d3, l3⟩, ⟨b4, v4, n4, d4, l4⟩, ⟨b5, v5, n5, d5, l5⟩] := (h.2.call hb).does
theorem hold_does1 {A : Prop} (hb : Below wr.heap.size wr w2) (h : A ∧ LiveT w wr [⟨b0, v0, n0, d0, l0⟩, ⟨b1, v1, n1, d1, l1⟩, ⟨b2, v2, n2, d2, l2⟩, ⟨b3, v3, n3, d3, l3⟩, ⟨b4, v4, n4, d4, l4⟩, ⟨b5, v5, n5, d5, l5⟩]) : ((w2.cell? ⟨b5, 0, none⟩ = some v5 ∧ w2.cell? ⟨b5, 1, none⟩ = some (.int .i64 n5) ∧ w2.cell? ⟨b5, 2, none⟩ = some (.int .i64 d5))) ∧ LiveT w w2 [⟨b0, v0, n0, d0, l0⟩, ⟨b1, v1, n1, d1, l1⟩, ⟨b2, v2, n2, d2, l2⟩, ⟨b3, v3, n3, d3, l3⟩, ⟨b4, v4, n4, d4, l4⟩, ⟨b5, v5, n5, d5, l5⟩] := ⟨(hold_does hb h).1.2.2.2.2, h.2.call hb⟩
end
theorem livet_of {w w1 : World} {xs : List TB} {A : Prop} (h : A ∧ LiveT w w1 xs) : LiveT w w1 xs := h.2

theorem termnew_two {w w1 : World} {l : List (Int × Int)} {kn kd : Int} {e : Ending} (h : TermNew w l kn kd e w1) : ∃ A c, e = .returned (.agg #[.slice A l.length c, .int .i64 kn, .int .i64 kd]) ∧ RatsAt w1 (.slice A l.length c) l ∧ Below w.heap.size w w1 := by
  obtain ⟨v, he, hr, hb, _⟩ := h
  obtain ⟨A, c, rfl⟩ := rats_shape hr
  exact ⟨A, c, he, hr, hb⟩

set_option maxRecDepth 4000 in
set_option maxHeartbeats 8000000 in
theorem does_small (w : World) (ht : Pow10 w) (sa : Value) (l : List (Int × Int)) (xn xd : Int) (ha : RatsAt w sa l) (hl : Wide l) (x1 : -9223372036854775808 ≤ xn) (x2 : xn ≤ 9223372036854775807) (x3 : -9223372036854775808 ≤ xd) (x4 : xd ≤ 9223372036854775807)
    (sb : Value) (m : List (Int × Int)) (yn yd : Int) (hb : RatsAt w sb m) (hm : Wide m) (y1 : -9223372036854775808 ≤ yn) (y2 : yn ≤ 9223372036854775807) (y3 : -9223372036854775808 ≤ yd) (y4 : yd ≤ 9223372036854775807)
    (bn bd : Int) (b1 : -9223372036854775808 ≤ bn) (b2 : bn ≤ 9223372036854775807) (b3 : -9223372036854775808 ≤ bd) (b4 : bd ≤ 9223372036854775807) (hl12 : l.length ≤ 12) (hm12 : m.length ≤ 12)
    (L3 : List (Int × Int)) (n3 d3 : Int) (r : Bool) (hr : rightT l xn xd = r) (ow : ∀ w', RatsAt w' sa l → Calls Tryd.prog 17 #[.agg #[sa, .int .i64 xn, .int .i64 xd]] w' (TermNew w' L3 n3 d3)) (rw_ : ∀ w', RatsAt w' sa l → Calls Tryd.prog 18 #[.agg #[sa, .int .i64 xn, .int .i64 xd]] w' (TermNew w' L3 n3 d3)) :
    Calls Tryd.prog 3 #[.agg #[sa, .int .i64 xn, .int .i64 xd], .agg #[sb, .int .i64 yn, .int .i64 yd], ratV bn bd] w fun r w' => r = .returned (.bool true) ∧ Below w.heap.size w w' := by
  have hx : Bd (xn, xd) := ⟨⟨x1, x2⟩, x3, x4⟩
  have hy : Bd (yn, yd) := ⟨⟨y1, y2⟩, y3, y4⟩
  have hk : Bd (bn, bd) := ⟨⟨b1, b2⟩, b3, b4⟩
  have c1 := fun (w' : World) (h : RatsAt w' sa l) (h' : RatsAt w' sb m) => tadd_any w' sa sb l m (xn, xd) (yn, yd) h h' hl hm hx hy
  have c2 := fun (w' : World) (h : RatsAt w' sa l) (h' : RatsAt w' sb m) => rdo_sum_any w' sa sb l m (xn, xd) (yn, yd) h h' hl hm hx hy
  have c3 := fun (w' : World) (h : RatsAt w' sa l) => tscale_any w' sa l (xn, xd) (bn, bd) h hl hx hk
  have c4 := fun (w' : World) (h : RatsAt w' sa l) => rdo_times_any w' sa l (xn, xd) (bn, bd) h hl hx hk
  have z1 := fun (w' : World) (h : RatsAt w' sa l) => small_any w' sa l xn xd h
  rw [decide_eq_true hl12] at z1
  have z2 := fun (w' : World) (h : RatsAt w' sb m) => small_any w' sb m yn yd h
  rw [decide_eq_true hm12] at z2
  have r1 := fun (w' : World) (h : RatsAt w' sa l) => tright_any w' sa l xn xd h hl x1 x2 x3 x4
  have r2 := fun (w' : World) (h : RatsAt w' sa l) => r2right_any w' sa l xn xd h hl x1 x2 x3 x4
  rw [hr] at r1 r2
  have t1 := fun (w' : World) (i : Int) (h : RatsAt w' sa l) => tat_any w' sa l xn xd i h
  have t2 := fun (w' : World) (i : Int) (h : RatsAt w' sa l) => rat_any w' sa l xn xd i h
  dsimp only at c1 c2 c3 c4
  generalize sumT l m (xn, xd) (yn, yd) = Su at *
  generalize timesT l (xn, xd) (bn, bd) = Y at *
  obtain ⟨L1, ⟨n1, d1⟩, e1⟩ := Su
  obtain ⟨L2, ⟨n2, d2⟩, e2⟩ := Y
  dsimp only at *
  have EQ1 := Lib.hid (fun (w' : World) (v v' : Value) (hv : RatsAt w' v L1) (hv' : RatsAt w' v' L1) => r2equal_same w' v v' L1 n1 d1 hv hv')
  have EQ2 := Lib.hid (fun (w' : World) (v v' : Value) (hv : RatsAt w' v L2) (hv' : RatsAt w' v' L2) => r2equal_same w' v v' L2 n2 d2 hv hv')
  have EQ3 := Lib.hid (fun (w' : World) (v v' : Value) (hv : RatsAt w' v L3) (hv' : RatsAt w' v' L3) => r2equal_same w' v v' L3 n3 d3 hv hv')
  have C1 := Lib.hid c1; have C2 := Lib.hid c2; have C3 := Lib.hid c3; have C4 := Lib.hid c4; have Z1 := Lib.hid z1; have Z2 := Lib.hid z2; have R1 := Lib.hid r1; have R2 := Lib.hid r2; have OW := Lib.hid ow; have RW := Lib.hid rw_; have T1 := Lib.hid t1; have T2 := Lib.hid t2
  have AW := Lib.hid (fun (w' : World) (hb : Below w.heap.size w w') => awake2_yes w' (pow10_on ht hb))
  have H := ((LiveT.start w).box ha xn xd 26).box (hb.below (below_alloc1 w _)) yn yd 26
  have Q := RatAt.start ((w.alloc (.cells #[sa, .int .i64 xn, .int .i64 xd] 26)).alloc (.cells #[sb, .int .i64 yn, .int .i64 yd] 26)) bn bd 24
  rw [World.size_alloc, World.size_alloc] at Q
  have H := H.call (below_alloc1 _ (.cells #[.int .i64 bn, .int .i64 bd] 24))
  rw [World.size_alloc] at H
  have HLL := Lib.hid hl12
  obtain ⟨A, c, rfl⟩ := rats_shape ha
  obtain ⟨B, d, rfl⟩ := rats_shape hb
  clear ht ha hl hb hm x1 x2 x3 x4 y1 y2 y3 y4 b1 b2 b3 b4 hx hy hk c1 c2 c3 c4 z1 z2 r1 r2 ow rw_ t1 t2 hl12 hm12 hr
  generalize l.length = ll at *
  generalize m.length = lm at *
  go_enter Tryd.func3, Tryd.ntmps3
  go_upto_region 3 with (first
    | (go_at_call 9; (with_reducible refine (AW.out _ H.below).mono ?_); rintro e w1 ⟨rfl, hq⟩; have H := H.call hq; have Q := Q.keep hq; have f10 := (H.f 1 rfl).k0; have f11 := (H.f 1 rfl).k1; have f12 := (H.f 1 rfl).k2; clear hq)
    | (go_at_call 10; (first | (with_reducible refine (Z1.out _ (H.r 1 rfl)).mono ?_); rintro e w2 ⟨rfl, hq⟩; have H := H.call hq; have Q := Q.keep hq; have f00 := (H.f 0 rfl).k0; have f01 := (H.f 0 rfl).k1; have f02 := (H.f 0 rfl).k2; clear hq | (with_reducible refine (Z2.out _ (H.r 0 rfl)).mono ?_); rintro e w3 ⟨rfl, hq⟩; have H := H.call hq; have Q := Q.keep hq; have f00 := (H.f 0 rfl).k0; have f01 := (H.f 0 rfl).k1; have f02 := (H.f 0 rfl).k2; have f10 := (H.f 1 rfl).k0; have f11 := (H.f 1 rfl).k1; have f12 := (H.f 1 rfl).k2; clear hq)))
  go_upto_region 4 with (go_at_call 11; (with_reducible refine (C1.out _ (H.r 1 rfl) (H.r 0 rfl)).mono ?_); rintro e w4 hp; obtain ⟨A4, c4, rfl, hv, hq⟩ := termput_pair hp; clear hp)
  have Q := (Q.keep hq).keep (below_alloc1 w4 (.cells #[.slice A4 L1.length c4, .int .i64 n1, .int .i64 d1] 26))
  have H := (H.call hq).box hv n1 d1 26
  have f10 := (H.f 1 rfl).k0
  have f11 := (H.f 1 rfl).k1
  have f12 := (H.f 1 rfl).k2
  have f20 := (H.f 2 rfl).k0
  have f21 := (H.f 2 rfl).k1
  have f22 := (H.f 2 rfl).k2
  have q0 := Q.k0
  have q1 := Q.k1
  clear hq hv
  go_upto_region 5 with (go_at_call 12; (with_reducible refine (C2.out _ (H.r 2 rfl) (H.r 1 rfl)).mono ?_); rintro e w5 hp; obtain ⟨A5, c5, rfl, hv, hq⟩ := termput_pair hp; clear hp)
  have Q := (Q.keep hq).keep (below_alloc1 w5 (.cells #[.slice A5 L1.length c5, .int .i64 n1, .int .i64 d1] 26))
  have H := (H.call hq).box hv n1 d1 26
  have f30 := (H.f 3 rfl).k0
  have f31 := (H.f 3 rfl).k1
  have f32 := (H.f 3 rfl).k2
  have q0 := Q.k0
  have q1 := Q.k1
  clear hq hv
  go_upto_region 6 with (go_at_call 13; (with_reducible refine (C3.out _ (H.r 3 rfl)).mono ?_); rintro e w7 hp; obtain ⟨A7, c7, rfl, hv, hq⟩ := termput_pair hp; clear hp)
  have Q := (Q.keep hq).keep (below_alloc1 w7 (.cells #[.slice A7 L2.length c7, .int .i64 n2, .int .i64 d2] 26))
  have H := (H.call hq).box hv n2 d2 26
  have f40 := (H.f 4 rfl).k0
  have f41 := (H.f 4 rfl).k1
  have f42 := (H.f 4 rfl).k2
  have q0 := Q.k0
  have q1 := Q.k1
  clear hq hv
  go_upto_region 7 with (go_at_call 12; (with_reducible refine (C4.out _ (H.r 4 rfl)).mono ?_); rintro e w8 hp; obtain ⟨A8, c8, rfl, hv, hq⟩ := termput_pair hp; clear hp)
  have Q := (Q.keep hq).keep (below_alloc1 w8 (.cells #[.slice A8 L2.length c8, .int .i64 n2, .int .i64 d2] 26))
  have H := (H.call hq).box hv n2 d2 26
  have f50 := (H.f 5 rfl).k0
  have f51 := (H.f 5 rfl).k1
  have f52 := (H.f 5 rfl).k2
  have q0 := Q.k0
  have q1 := Q.k1
  clear hq hv
  have ee1 : (e1 != e1) = false := by simp
  have ee2 : (e2 != e2) = false := by simp
  have HS := hold_does (A := True) (below_drew _) (And.intro trivial H)
  clear H Q f50 f51 f52 q0 q1
  refine wp_region_noPanic ?_
  refine wp_region_held_drew (S := (fun w' => ((w'.cell? ⟨w8.heap.size, 0, none⟩ = some (.slice A8 L2.length c8) ∧ w'.cell? ⟨w8.heap.size, 1, none⟩ = some (.int .i64 n2) ∧ w'.cell? ⟨w8.heap.size, 2, none⟩ = some (.int .i64 d2)) ∧ (w'.cell? ⟨w7.heap.size, 0, none⟩ = some (.slice A7 L2.length c7) ∧ w'.cell? ⟨w7.heap.size, 1, none⟩ = some (.int .i64 n2) ∧ w'.cell? ⟨w7.heap.size, 2, none⟩ = some (.int .i64 d2)) ∧ (w'.cell? ⟨w5.heap.size, 0, none⟩ = some (.slice A5 L1.length c5) ∧ w'.cell? ⟨w5.heap.size, 1, none⟩ = some (.int .i64 n1) ∧ w'.cell? ⟨w5.heap.size, 2, none⟩ = some (.int .i64 d1)) ∧ (w'.cell? ⟨w4.heap.size, 0, none⟩ = some (.slice A4 L1.length c4) ∧ w'.cell? ⟨w4.heap.size, 1, none⟩ = some (.int .i64 n1) ∧ w'.cell? ⟨w4.heap.size, 2, none⟩ = some (.int .i64 d1)) ∧ (w'.cell? ⟨w.heap.size, 0, none⟩ = some (.slice A ll c) ∧ w'.cell? ⟨w.heap.size, 1, none⟩ = some (.int .i64 xn) ∧ w'.cell? ⟨w.heap.size, 2, none⟩ = some (.int .i64 xd))) ∧ LiveT w w' [⟨w8.heap.size, (.slice A8 L2.length c8), n2, d2, L2⟩, ⟨w7.heap.size, (.slice A7 L2.length c7), n2, d2, L2⟩, ⟨w5.heap.size, (.slice A5 L1.length c5), n1, d1, L1⟩, ⟨w4.heap.size, (.slice A4 L1.length c4), n1, d1, L1⟩, ⟨w.heap.size + 1, (.slice B lm d), yn, yd, m⟩, ⟨w.heap.size, (.slice A ll c), xn, xd, l⟩])) (by kernel_rfl) HS (fun hHeld => ?_)
  clear HS
  refine wpAnyH_take (i := 0) (oi := _) (v := ?_) rfl (by kernel_rfl) (by kernel_rfl) (by kernel_rfl) (fun _ _ _ h => h) (Or.inl ⟨by rfl, ?_⟩) (by assumption) ?_
  rotate_left
  · intro ww hSw
    (try dsimp only at hSw)
    go_simp <;> with_reducible rfl
  (try simp only [List.getElem_toArray, List.getElem_cons_zero, Act.put, List.setIfInBounds_toArray, List.set_cons_zero, List.set_cons_succ])
  refine wpAnyH_take (i := 1) (oi := _) (v := ?_) rfl (by kernel_rfl) (by kernel_rfl) (by kernel_rfl) (fun _ _ _ h => h) (Or.inl ⟨by rfl, ?_⟩) (by assumption) ?_
  rotate_left
  · intro ww hSw
    (try dsimp only at hSw)
    go_simp <;> with_reducible rfl
  (try simp only [List.getElem_toArray, List.getElem_cons_succ, List.getElem_cons_zero, Act.put, List.setIfInBounds_toArray, List.set_cons_zero, List.set_cons_succ])
  refine wpAnyH_ready (rs := [2]) (by kernel_rfl) (by simp) ?_
  refine AllReadyH.cons (o := _) rfl (fun K hK => ?_) AllReadyH.nil
  go_simp
  (first
    | (go_at_call 14; (first
      | with_reducible refine (EQ1.out _ _ _ ((livet_of (by with_reducible assumption)).r 3 rfl) ((livet_of (by with_reducible assumption)).r 2 rfl)).mono ?_
      | with_reducible refine (EQ2.out _ _ _ ((livet_of (by with_reducible assumption)).r 1 rfl) ((livet_of (by with_reducible assumption)).r 0 rfl)).mono ?_
      | with_reducible refine (EQ3.out _ _ _ HVA.out HVB.out).mono ?_); rintro e w9 ⟨rfl, hb⟩)
    | (go_at_call 15; (with_reducible refine (R1.out _ ((livet_of (by with_reducible assumption)).r 5 rfl)).mono ?_); rintro e w10 ⟨rfl, hb⟩)
    | (go_at_call 16; (with_reducible refine (R2.out _ ((livet_of (by with_reducible assumption)).r 5 rfl)).mono ?_); rintro e w11 ⟨rfl, hb⟩)
    | (go_at_call 17; (with_reducible refine (OW.out _ ((livet_of (by with_reducible assumption)).r 5 rfl)).mono ?_); rintro e w12 hT; obtain ⟨Aa, ca, rfl, hva, hb⟩ := termnew_two hT; clear hT; have HVA := Lib.hid hva; clear hva)
    | (go_at_call 18; (with_reducible refine (RW.out _ ((livet_of (by with_reducible assumption)).r 5 rfl)).mono ?_); rintro e w13 hT; obtain ⟨Ab, cb, rfl, hvb, hb⟩ := termnew_two hT; clear hT; have HVA := Lib.hid (HVA.out.below hb); have HVB := Lib.hid hvb; clear hvb))
  go_wp2_with fail
  refine hK.out _ _ (hold_does (by with_reducible assumption) (by with_reducible assumption)) (fun hH2 => ?_)
  clear hK K hHeld hb
  have hHeld := hH2
  clear hH2
  (try simp only [List.getElem_toArray, List.getElem_cons_succ, List.getElem_cons_zero, Act.put, List.setIfInBounds_toArray, List.set_cons_zero, List.set_cons_succ])
  refine wpAnyH_take (i := 3) (oi := _) (v := ?_) rfl (by kernel_rfl) (by kernel_rfl) (by kernel_rfl) (fun _ _ _ h => h) (Or.inl ⟨by rfl, ?_⟩) (by assumption) ?_
  rotate_left
  · intro ww hSw
    (try dsimp only at hSw)
    go_simp <;> with_reducible rfl
  (try simp only [List.getElem_toArray, List.getElem_cons_succ, List.getElem_cons_zero, Act.put, List.setIfInBounds_toArray, List.set_cons_zero, List.set_cons_succ])
  refine wpAnyH_take (i := 4) (oi := _) (v := ?_) rfl (by kernel_rfl) (by kernel_rfl) (by kernel_rfl) (fun _ _ _ h => h) (Or.inl ⟨by rfl, ?_⟩) (by assumption) ?_
  rotate_left
  · intro ww hSw
    (try dsimp only at hSw)
    go_simp <;> with_reducible rfl
  (try simp only [List.getElem_toArray, List.getElem_cons_succ, List.getElem_cons_zero, Act.put, List.setIfInBounds_toArray, List.set_cons_zero, List.set_cons_succ])
  refine wpAnyH_take (i := 5) (oi := _) (v := ?_) rfl (by kernel_rfl) (by kernel_rfl) (by kernel_rfl) (fun _ _ _ h => h) (Or.inl ⟨by rfl, ?_⟩) (by assumption) ?_
  rotate_left
  · intro ww hSw
    (try dsimp only at hSw)
    go_simp <;> with_reducible rfl
  (try simp only [List.getElem_toArray, List.getElem_cons_succ, List.getElem_cons_zero, Act.put, List.setIfInBounds_toArray, List.set_cons_zero, List.set_cons_succ])
  refine wpAnyH_take (i := 6) (oi := _) (v := ?_) rfl (by kernel_rfl) (by kernel_rfl) (by kernel_rfl) (fun _ _ _ h => h) (Or.inl ⟨by rfl, ?_⟩) (by assumption) ?_
  rotate_left
  · intro ww hSw
    (try dsimp only at hSw)
    go_simp <;> with_reducible rfl
  (try simp only [List.getElem_toArray, List.getElem_cons_succ, List.getElem_cons_zero, Act.put, List.setIfInBounds_toArray, List.set_cons_zero, List.set_cons_succ])
  refine wpAnyH_take (i := 7) (oi := _) (v := ?_) rfl (by kernel_rfl) (by kernel_rfl) (by kernel_rfl) (fun _ _ _ h => h) (Or.inl ⟨by rfl, ?_⟩) (by assumption) ?_
  rotate_left
  · intro ww hSw
    (try dsimp only at hSw)
    go_simp <;> with_reducible rfl
  (try simp only [List.getElem_toArray, List.getElem_cons_succ, List.getElem_cons_zero, Act.put, List.setIfInBounds_toArray, List.set_cons_zero, List.set_cons_succ])
  refine wpAnyH_take (i := 8) (oi := _) (v := ?_) rfl (by kernel_rfl) (by kernel_rfl) (by kernel_rfl) (fun _ _ _ h => h) (Or.inl ⟨by rfl, ?_⟩) (by assumption) ?_
  rotate_left
  · intro ww hSw
    (try dsimp only at hSw)
    go_simp <;> with_reducible rfl
  (try simp only [List.getElem_toArray, List.getElem_cons_succ, List.getElem_cons_zero, Act.put, List.setIfInBounds_toArray, List.set_cons_zero, List.set_cons_succ])
  refine wpAnyH_take (i := 9) (oi := _) (v := ?_) rfl (by kernel_rfl) (by kernel_rfl) (by kernel_rfl) (fun _ _ _ h => h) (Or.inl ⟨by rfl, ?_⟩) (by assumption) ?_
  rotate_left
  · intro ww hSw
    (try dsimp only at hSw)
    go_simp <;> with_reducible rfl
  (try simp only [List.getElem_toArray, List.getElem_cons_succ, List.getElem_cons_zero, Act.put, List.setIfInBounds_toArray, List.set_cons_zero, List.set_cons_succ])
  refine wpAnyH_take (i := 10) (oi := _) (v := ?_) rfl (by kernel_rfl) (by kernel_rfl) (by kernel_rfl) (fun _ _ _ h => h) (Or.inl ⟨by rfl, ?_⟩) (by assumption) ?_
  rotate_left
  · intro ww hSw
    (try dsimp only at hSw)
    go_simp <;> with_reducible rfl
  (try simp only [List.getElem_toArray, List.getElem_cons_succ, List.getElem_cons_zero, Act.put, List.setIfInBounds_toArray, List.set_cons_zero, List.set_cons_succ])
  refine wpAnyH_take (i := 11) (oi := _) (v := ?_) rfl (by kernel_rfl) (by kernel_rfl) (by kernel_rfl) (fun _ _ _ h => h) (Or.inl ⟨by rfl, ?_⟩) (by assumption) ?_
  rotate_left
  · intro ww hSw
    (try dsimp only at hSw)
    go_simp <;> with_reducible rfl
  (try simp only [List.getElem_toArray, List.getElem_cons_succ, List.getElem_cons_zero, Act.put, List.setIfInBounds_toArray, List.set_cons_zero, List.set_cons_succ])
  refine wpAnyH_ready (rs := [12]) (by kernel_rfl) (by simp) ?_
  refine AllReadyH.cons (o := _) rfl (fun K hK => ?_) AllReadyH.nil
  go_simp
  (first
    | (go_at_call 14; (first
      | with_reducible refine (EQ1.out _ _ _ ((livet_of (by with_reducible assumption)).r 3 rfl) ((livet_of (by with_reducible assumption)).r 2 rfl)).mono ?_
      | with_reducible refine (EQ2.out _ _ _ ((livet_of (by with_reducible assumption)).r 1 rfl) ((livet_of (by with_reducible assumption)).r 0 rfl)).mono ?_
      | with_reducible refine (EQ3.out _ _ _ HVA.out HVB.out).mono ?_); rintro e w9 ⟨rfl, hb⟩)
    | (go_at_call 15; (with_reducible refine (R1.out _ ((livet_of (by with_reducible assumption)).r 5 rfl)).mono ?_); rintro e w10 ⟨rfl, hb⟩)
    | (go_at_call 16; (with_reducible refine (R2.out _ ((livet_of (by with_reducible assumption)).r 5 rfl)).mono ?_); rintro e w11 ⟨rfl, hb⟩)
    | (go_at_call 17; (with_reducible refine (OW.out _ ((livet_of (by with_reducible assumption)).r 5 rfl)).mono ?_); rintro e w12 hT; obtain ⟨Aa, ca, rfl, hva, hb⟩ := termnew_two hT; clear hT; have HVA := Lib.hid hva; clear hva)
    | (go_at_call 18; (with_reducible refine (RW.out _ ((livet_of (by with_reducible assumption)).r 5 rfl)).mono ?_); rintro e w13 hT; obtain ⟨Ab, cb, rfl, hvb, hb⟩ := termnew_two hT; clear hT; have HVA := Lib.hid (HVA.out.below hb); have HVB := Lib.hid hvb; clear hvb))
  go_wp2_with fail
  refine hK.out _ _ (hold_does (by with_reducible assumption) (by with_reducible assumption)) (fun hH2 => ?_)
  clear hK K hHeld hb
  have hHeld := hH2
  clear hH2
  (try simp only [List.getElem_toArray, List.getElem_cons_succ, List.getElem_cons_zero, Act.put, List.setIfInBounds_toArray, List.set_cons_zero, List.set_cons_succ])
  refine wpAnyH_take (i := 13) (oi := _) (v := ?_) rfl (by kernel_rfl) (by kernel_rfl) (by kernel_rfl) (fun _ _ _ h => h) (Or.inl ⟨by rfl, ?_⟩) (by assumption) ?_
  rotate_left
  · intro ww hSw
    (try dsimp only at hSw)
    go_simp <;> with_reducible rfl
  (try simp only [List.getElem_toArray, List.getElem_cons_succ, List.getElem_cons_zero, Act.put, List.setIfInBounds_toArray, List.set_cons_zero, List.set_cons_succ])
  refine wpAnyH_take (i := 14) (oi := _) (v := ?_) rfl (by kernel_rfl) (by kernel_rfl) (by kernel_rfl) (fun _ _ _ h => h) (Or.inl ⟨by rfl, ?_⟩) (by assumption) ?_
  rotate_left
  · intro ww hSw
    (try dsimp only at hSw)
    go_simp <;> with_reducible rfl
  (try simp only [List.getElem_toArray, List.getElem_cons_succ, List.getElem_cons_zero, Act.put, List.setIfInBounds_toArray, List.set_cons_zero, List.set_cons_succ])
  refine wpAnyH_take (i := 15) (oi := _) (v := ?_) rfl (by kernel_rfl) (by kernel_rfl) (by kernel_rfl) (fun _ _ _ h => h) (Or.inl ⟨by rfl, ?_⟩) (by assumption) ?_
  rotate_left
  · intro ww hSw
    (try dsimp only at hSw)
    go_simp <;> with_reducible rfl
  (try simp only [List.getElem_toArray, List.getElem_cons_succ, List.getElem_cons_zero, Act.put, List.setIfInBounds_toArray, List.set_cons_zero, List.set_cons_succ])
  refine wpAnyH_take (i := 16) (oi := _) (v := ?_) rfl (by kernel_rfl) (by kernel_rfl) (by kernel_rfl) (fun _ _ _ h => h) (Or.inl ⟨by rfl, ?_⟩) (by assumption) ?_
  rotate_left
  · intro ww hSw
    (try dsimp only at hSw)
    go_simp <;> with_reducible rfl
  (try simp only [List.getElem_toArray, List.getElem_cons_succ, List.getElem_cons_zero, Act.put, List.setIfInBounds_toArray, List.set_cons_zero, List.set_cons_succ])
  refine wpAnyH_take (i := 17) (oi := _) (v := ?_) rfl (by kernel_rfl) (by kernel_rfl) (by kernel_rfl) (fun _ _ _ h => h) (Or.inl ⟨by rfl, ?_⟩) (by assumption) ?_
  rotate_left
  · intro ww hSw
    (try dsimp only at hSw)
    go_simp <;> with_reducible rfl
  (try simp only [List.getElem_toArray, List.getElem_cons_succ, List.getElem_cons_zero, Act.put, List.setIfInBounds_toArray, List.set_cons_zero, List.set_cons_succ])
  refine wpAnyH_take (i := 18) (oi := _) (v := ?_) rfl (by kernel_rfl) (by kernel_rfl) (by kernel_rfl) (fun _ _ _ h => h) (Or.inl ⟨by rfl, ?_⟩) (by assumption) ?_
  rotate_left
  · intro ww hSw
    (try dsimp only at hSw)
    go_simp <;> with_reducible rfl
  (try simp only [List.getElem_toArray, List.getElem_cons_succ, List.getElem_cons_zero, Act.put, List.setIfInBounds_toArray, List.set_cons_zero, List.set_cons_succ])
  refine wpAnyH_take (i := 19) (oi := _) (v := ?_) rfl (by kernel_rfl) (by kernel_rfl) (by kernel_rfl) (fun _ _ _ h => h) (Or.inl ⟨by rfl, ?_⟩) (by assumption) ?_
  rotate_left
  · intro ww hSw
    (try dsimp only at hSw)
    go_simp <;> with_reducible rfl
  (try simp only [List.getElem_toArray, List.getElem_cons_succ, List.getElem_cons_zero, Act.put, List.setIfInBounds_toArray, List.set_cons_zero, List.set_cons_succ])
  refine wpAnyH_take (i := 20) (oi := _) (v := ?_) rfl (by kernel_rfl) (by kernel_rfl) (by kernel_rfl) (fun _ _ _ h => h) (Or.inl ⟨by rfl, ?_⟩) (by assumption) ?_
  rotate_left
  · intro ww hSw
    (try dsimp only at hSw)
    go_simp <;> with_reducible rfl
  (try simp only [List.getElem_toArray, List.getElem_cons_succ, List.getElem_cons_zero, Act.put, List.setIfInBounds_toArray, List.set_cons_zero, List.set_cons_succ])
  refine wpAnyH_take (i := 21) (oi := _) (v := ?_) rfl (by kernel_rfl) (by kernel_rfl) (by kernel_rfl) (fun _ _ _ h => h) (Or.inl ⟨by rfl, ?_⟩) (by assumption) ?_
  rotate_left
  · intro ww hSw
    (try dsimp only at hSw)
    go_simp <;> with_reducible rfl
  (try simp only [List.getElem_toArray, List.getElem_cons_succ, List.getElem_cons_zero, Act.put, List.setIfInBounds_toArray, List.set_cons_zero, List.set_cons_succ])
  refine wpAnyH_take (i := 23) (oi := _) (v := ?_) rfl (by kernel_rfl) (by kernel_rfl) (by kernel_rfl) (fun _ _ _ h => h) (Or.inl ⟨by rfl, ?_⟩) (by assumption) ?_
  rotate_left
  · intro ww hSw
    (try dsimp only at hSw)
    go_simp <;> with_reducible rfl
  (try simp only [List.getElem_toArray, List.getElem_cons_succ, List.getElem_cons_zero, Act.put, List.setIfInBounds_toArray, List.set_cons_zero, List.set_cons_succ])
  refine wpAnyH_ready (rs := [22]) (by kernel_rfl) (by simp) ?_
  refine AllReadyH.cons (o := _) rfl (fun K hK => ?_) AllReadyH.nil
  go_simp
  (first
    | (go_at_call 14; (first
      | with_reducible refine (EQ1.out _ _ _ ((livet_of (by with_reducible assumption)).r 3 rfl) ((livet_of (by with_reducible assumption)).r 2 rfl)).mono ?_
      | with_reducible refine (EQ2.out _ _ _ ((livet_of (by with_reducible assumption)).r 1 rfl) ((livet_of (by with_reducible assumption)).r 0 rfl)).mono ?_
      | with_reducible refine (EQ3.out _ _ _ HVA.out HVB.out).mono ?_); rintro e w9 ⟨rfl, hb⟩)
    | (go_at_call 15; (with_reducible refine (R1.out _ ((livet_of (by with_reducible assumption)).r 5 rfl)).mono ?_); rintro e w10 ⟨rfl, hb⟩)
    | (go_at_call 16; (with_reducible refine (R2.out _ ((livet_of (by with_reducible assumption)).r 5 rfl)).mono ?_); rintro e w11 ⟨rfl, hb⟩)
    | (go_at_call 17; (with_reducible refine (OW.out _ ((livet_of (by with_reducible assumption)).r 5 rfl)).mono ?_); rintro e w12 hT; obtain ⟨Aa, ca, rfl, hva, hb⟩ := termnew_two hT; clear hT; have HVA := Lib.hid hva; clear hva)
    | (go_at_call 18; (with_reducible refine (RW.out _ ((livet_of (by with_reducible assumption)).r 5 rfl)).mono ?_); rintro e w13 hT; obtain ⟨Ab, cb, rfl, hvb, hb⟩ := termnew_two hT; clear hT; have HVA := Lib.hid (HVA.out.below hb); have HVB := Lib.hid hvb; clear hvb))
  go_wp2_with fail
  refine hK.out _ _ (hold_does (by with_reducible assumption) (by with_reducible assumption)) (fun hH2 => ?_)
  clear hK K hHeld hb
  have hHeld := hH2
  clear hH2
  (try simp only [List.getElem_toArray, List.getElem_cons_succ, List.getElem_cons_zero, Act.put, List.setIfInBounds_toArray, List.set_cons_zero, List.set_cons_succ])
  refine wpAnyH_ready (rs := [24]) (by kernel_rfl) (by simp) ?_
  refine AllReadyH.cons (o := _) rfl (fun K hK => ?_) AllReadyH.nil
  go_simp
  (first
    | (go_at_call 14; (first
      | with_reducible refine (EQ1.out _ _ _ ((livet_of (by with_reducible assumption)).r 3 rfl) ((livet_of (by with_reducible assumption)).r 2 rfl)).mono ?_
      | with_reducible refine (EQ2.out _ _ _ ((livet_of (by with_reducible assumption)).r 1 rfl) ((livet_of (by with_reducible assumption)).r 0 rfl)).mono ?_
      | with_reducible refine (EQ3.out _ _ _ HVA.out HVB.out).mono ?_); rintro e w9 ⟨rfl, hb⟩)
    | (go_at_call 15; (with_reducible refine (R1.out _ ((livet_of (by with_reducible assumption)).r 5 rfl)).mono ?_); rintro e w10 ⟨rfl, hb⟩)
    | (go_at_call 16; (with_reducible refine (R2.out _ ((livet_of (by with_reducible assumption)).r 5 rfl)).mono ?_); rintro e w11 ⟨rfl, hb⟩)
    | (go_at_call 17; (with_reducible refine (OW.out _ ((livet_of (by with_reducible assumption)).r 5 rfl)).mono ?_); rintro e w12 hT; obtain ⟨Aa, ca, rfl, hva, hb⟩ := termnew_two hT; clear hT; have HVA := Lib.hid hva; clear hva)
    | (go_at_call 18; (with_reducible refine (RW.out _ ((livet_of (by with_reducible assumption)).r 5 rfl)).mono ?_); rintro e w13 hT; obtain ⟨Ab, cb, rfl, hvb, hb⟩ := termnew_two hT; clear hT; have HVA := Lib.hid (HVA.out.below hb); have HVB := Lib.hid hvb; clear hvb))
  go_wp2_with fail
  refine hK.out _ _ (hold_does (by with_reducible assumption) (by with_reducible assumption)) (fun hH2 => ?_)
  clear hK K hHeld hb
  have hHeld := hH2
  clear hH2
  (try simp only [List.getElem_toArray, List.getElem_cons_succ, List.getElem_cons_zero, Act.put, List.setIfInBounds_toArray, List.set_cons_zero, List.set_cons_succ])
  refine wpAnyH_take (i := 25) (oi := _) (v := ?_) rfl (by kernel_rfl) (by kernel_rfl) (by kernel_rfl) (fun _ _ _ h => h) (Or.inl ⟨by rfl, ?_⟩) (by assumption) ?_
  rotate_left
  · intro ww hSw
    (try dsimp only at hSw)
    go_simp <;> with_reducible rfl
  (try simp only [List.getElem_toArray, List.getElem_cons_succ, List.getElem_cons_zero, Act.put, List.setIfInBounds_toArray, List.set_cons_zero, List.set_cons_succ])
  refine wpAnyH_take (i := 26) (oi := _) (v := ?_) rfl (by kernel_rfl) (by kernel_rfl) (by kernel_rfl) (fun _ _ _ h => h) (Or.inl ⟨by rfl, ?_⟩) (by assumption) ?_
  rotate_left
  · intro ww hSw
    (try dsimp only at hSw)
    go_simp <;> with_reducible rfl
  (try simp only [List.getElem_toArray, List.getElem_cons_succ, List.getElem_cons_zero, Act.put, List.setIfInBounds_toArray, List.set_cons_zero, List.set_cons_succ])
  refine wpAnyH_take (i := 27) (oi := _) (v := ?_) rfl (by kernel_rfl) (by kernel_rfl) (by kernel_rfl) (fun _ _ _ h => h) (Or.inl ⟨by rfl, ?_⟩) (by assumption) ?_
  rotate_left
  · intro ww hSw
    (try dsimp only at hSw)
    go_simp <;> with_reducible rfl
  (try simp only [List.getElem_toArray, List.getElem_cons_succ, List.getElem_cons_zero, Act.put, List.setIfInBounds_toArray, List.set_cons_zero, List.set_cons_succ])
  refine wpAnyH_take (i := 28) (oi := _) (v := ?_) rfl (by kernel_rfl) (by kernel_rfl) (by kernel_rfl) (fun _ _ _ h => h) (Or.inl ⟨by rfl, ?_⟩) (by assumption) ?_
  rotate_left
  · intro ww hSw
    (try dsimp only at hSw)
    go_simp <;> with_reducible rfl
  (try simp only [List.getElem_toArray, List.getElem_cons_succ, List.getElem_cons_zero, Act.put, List.setIfInBounds_toArray, List.set_cons_zero, List.set_cons_succ])
  refine wpAnyH_take (i := 30) (oi := _) (v := ?_) rfl (by kernel_rfl) (by kernel_rfl) (by kernel_rfl) (fun _ _ _ h => h) (Or.inl ⟨by rfl, ?_⟩) (by assumption) ?_
  rotate_left
  · intro ww hSw
    (try dsimp only at hSw)
    go_simp <;> with_reducible rfl
  (try simp only [List.getElem_toArray, List.getElem_cons_succ, List.getElem_cons_zero, Act.put, List.setIfInBounds_toArray, List.set_cons_zero, List.set_cons_succ])
  refine wpAnyH_ready (rs := [29]) (by kernel_rfl) (by simp) ?_
  refine AllReadyH.cons (o := _) rfl (fun K hK => ?_) AllReadyH.nil
  go_simp
  (first
    | (go_at_call 14; (first
      | with_reducible refine (EQ1.out _ _ _ ((livet_of (by with_reducible assumption)).r 3 rfl) ((livet_of (by with_reducible assumption)).r 2 rfl)).mono ?_
      | with_reducible refine (EQ2.out _ _ _ ((livet_of (by with_reducible assumption)).r 1 rfl) ((livet_of (by with_reducible assumption)).r 0 rfl)).mono ?_
      | with_reducible refine (EQ3.out _ _ _ HVA.out HVB.out).mono ?_); rintro e w9 ⟨rfl, hb⟩)
    | (go_at_call 15; (with_reducible refine (R1.out _ ((livet_of (by with_reducible assumption)).r 5 rfl)).mono ?_); rintro e w10 ⟨rfl, hb⟩)
    | (go_at_call 16; (with_reducible refine (R2.out _ ((livet_of (by with_reducible assumption)).r 5 rfl)).mono ?_); rintro e w11 ⟨rfl, hb⟩)
    | (go_at_call 17; (with_reducible refine (OW.out _ ((livet_of (by with_reducible assumption)).r 5 rfl)).mono ?_); rintro e w12 hT; obtain ⟨Aa, ca, rfl, hva, hb⟩ := termnew_two hT; clear hT; have HVA := Lib.hid hva; clear hva)
    | (go_at_call 18; (with_reducible refine (RW.out _ ((livet_of (by with_reducible assumption)).r 5 rfl)).mono ?_); rintro e w13 hT; obtain ⟨Ab, cb, rfl, hvb, hb⟩ := termnew_two hT; clear hT; have HVA := Lib.hid (HVA.out.below hb); have HVB := Lib.hid hvb; clear hvb))
  go_wp2_with fail
  refine hK.out _ _ (hold_does (by with_reducible assumption) (by with_reducible assumption)) (fun hH2 => ?_)
  clear hK K hHeld hb
  have hHeld := hH2
  clear hH2
  (try simp only [List.getElem_toArray, List.getElem_cons_succ, List.getElem_cons_zero, Act.put, List.setIfInBounds_toArray, List.set_cons_zero, List.set_cons_succ])
  refine wpAnyH_ready (rs := [31]) (by kernel_rfl) (by simp) ?_
  refine AllReadyH.cons (o := _) rfl (fun K hK => ?_) AllReadyH.nil
  go_simp
  (first
    | (go_at_call 14; (first
      | with_reducible refine (EQ1.out _ _ _ ((livet_of (by with_reducible assumption)).r 3 rfl) ((livet_of (by with_reducible assumption)).r 2 rfl)).mono ?_
      | with_reducible refine (EQ2.out _ _ _ ((livet_of (by with_reducible assumption)).r 1 rfl) ((livet_of (by with_reducible assumption)).r 0 rfl)).mono ?_
      | with_reducible refine (EQ3.out _ _ _ HVA.out HVB.out).mono ?_); rintro e w9 ⟨rfl, hb⟩)
    | (go_at_call 15; (with_reducible refine (R1.out _ ((livet_of (by with_reducible assumption)).r 5 rfl)).mono ?_); rintro e w10 ⟨rfl, hb⟩)
    | (go_at_call 16; (with_reducible refine (R2.out _ ((livet_of (by with_reducible assumption)).r 5 rfl)).mono ?_); rintro e w11 ⟨rfl, hb⟩)
    | (go_at_call 17; (with_reducible refine (OW.out _ ((livet_of (by with_reducible assumption)).r 5 rfl)).mono ?_); rintro e w12 hT; obtain ⟨Aa, ca, rfl, hva, hb⟩ := termnew_two hT; clear hT; have HVA := Lib.hid hva; clear hva)
    | (go_at_call 18; (with_reducible refine (RW.out _ ((livet_of (by with_reducible assumption)).r 5 rfl)).mono ?_); rintro e w13 hT; obtain ⟨Ab, cb, rfl, hvb, hb⟩ := termnew_two hT; clear hT; have HVA := Lib.hid (HVA.out.below hb); have HVB := Lib.hid hvb; clear hvb))
  go_wp2_with fail
  refine hK.out _ _ (hold_does (by with_reducible assumption) (by with_reducible assumption)) (fun hH2 => ?_)
  clear hK K hHeld hb
  have hHeld := hH2
  clear hH2
  (try simp only [List.getElem_toArray, List.getElem_cons_succ, List.getElem_cons_zero, Act.put, List.setIfInBounds_toArray, List.set_cons_zero, List.set_cons_succ])
  refine wpAnyH_ready (rs := [32]) (by kernel_rfl) (by simp) ?_
  refine AllReadyH.cons (o := _) rfl (fun K hK => ?_) AllReadyH.nil
  go_simp
  (first
    | (go_at_call 14; (first
      | with_reducible refine (EQ1.out _ _ _ ((livet_of (by with_reducible assumption)).r 3 rfl) ((livet_of (by with_reducible assumption)).r 2 rfl)).mono ?_
      | with_reducible refine (EQ2.out _ _ _ ((livet_of (by with_reducible assumption)).r 1 rfl) ((livet_of (by with_reducible assumption)).r 0 rfl)).mono ?_
      | with_reducible refine (EQ3.out _ _ _ HVA.out HVB.out).mono ?_); rintro e w9 ⟨rfl, hb⟩)
    | (go_at_call 15; (with_reducible refine (R1.out _ ((livet_of (by with_reducible assumption)).r 5 rfl)).mono ?_); rintro e w10 ⟨rfl, hb⟩)
    | (go_at_call 16; (with_reducible refine (R2.out _ ((livet_of (by with_reducible assumption)).r 5 rfl)).mono ?_); rintro e w11 ⟨rfl, hb⟩)
    | (go_at_call 17; (with_reducible refine (OW.out _ ((livet_of (by with_reducible assumption)).r 5 rfl)).mono ?_); rintro e w12 hT; obtain ⟨Aa, ca, rfl, hva, hb⟩ := termnew_two hT; clear hT; have HVA := Lib.hid hva; clear hva)
    | (go_at_call 18; (with_reducible refine (RW.out _ ((livet_of (by with_reducible assumption)).r 5 rfl)).mono ?_); rintro e w13 hT; obtain ⟨Ab, cb, rfl, hvb, hb⟩ := termnew_two hT; clear hT; have HVA := Lib.hid (HVA.out.below hb); have HVB := Lib.hid hvb; clear hvb))
  go_wp2_with fail
  refine hK.out _ _ (hold_does (by with_reducible assumption) (by with_reducible assumption)) (fun hH2 => ?_)
  clear hK K hHeld hb
  have hHeld := hH2
  clear hH2
  (try simp only [List.getElem_toArray, List.getElem_cons_succ, List.getElem_cons_zero, Act.put, List.setIfInBounds_toArray, List.set_cons_zero, List.set_cons_succ])
  refine wpAnyH_take (i := 33) (oi := _) (v := ?_) rfl (by kernel_rfl) (by kernel_rfl) (by kernel_rfl) (fun _ _ _ h => h) (Or.inl ⟨by rfl, ?_⟩) (by assumption) ?_
  rotate_left
  · intro ww hSw
    (try dsimp only at hSw)
    go_simp <;> with_reducible rfl
  (try simp only [List.getElem_toArray, List.getElem_cons_succ, List.getElem_cons_zero, Act.put, List.setIfInBounds_toArray, List.set_cons_zero, List.set_cons_succ])
  refine wpAnyH_take (i := 34) (oi := _) (v := ?_) rfl (by kernel_rfl) (by kernel_rfl) (by kernel_rfl) (fun _ _ _ h => h) (Or.inl ⟨by rfl, ?_⟩) (by assumption) ?_
  rotate_left
  · intro ww hSw
    (try dsimp only at hSw)
    go_simp <;> with_reducible rfl
  (try simp only [List.getElem_toArray, List.getElem_cons_succ, List.getElem_cons_zero, Act.put, List.setIfInBounds_toArray, List.set_cons_zero, List.set_cons_succ])
  refine wpAnyH_done (by kernel_rfl) ?_ _
  refine NoPanic.normal ?_
  have H0 := Lib.hid (livet_of hHeld)
  clear hHeld ee1 ee2
  go_wp2_with fail
  go_loopg [15] (ll + 2) (fun g v15 wr => ∃ i : Int, v15 = .int .i64 i ∧ -1 ≤ i ∧ i ≤ ll + 1 ∧ g = (ll + 1 - i).toNat ∧ LiveT w wr [⟨w8.heap.size, (.slice A8 L2.length c8), n2, d2, L2⟩, ⟨w7.heap.size, (.slice A7 L2.length c7), n2, d2, L2⟩, ⟨w5.heap.size, (.slice A5 L1.length c5), n1, d1, L1⟩, ⟨w4.heap.size, (.slice A4 L1.length c4), n1, d1, L1⟩, ⟨w.heap.size + 1, (.slice B lm d), yn, yd, m⟩, ⟨w.heap.size, (.slice A ll c), xn, xd, l⟩])
  case atStart => exact ⟨-1, rfl, by omega, by omega, by omega, H0.out⟩
  case round =>
    clear H0
    obtain ⟨i, rfl, hi1, hi2, hg, H⟩ := hrel
    have f0 := (H.f 5 rfl).k0
    have hl12 := HLL.out
    by_cases hil : i ≤ (ll : Int)
    · have hd : decide (i ≤ (ll : Int)) = true := decide_eq_true hil
      have wk : IntKind.i64.wrap (i + 1) = i + 1 := IntWalk.i64_in _ (by omega)
      have HG := Lib.hid (And.intro hg (And.intro hi1 hil))
      have HS := hold_does1 (A := True) (below_drew _) (And.intro trivial H)
      have t1 := fun (w' : World) (h : RatsAt w' (.slice A ll c) l) => T1.out w' i h
      have t2 := fun (w' : World) (h : RatsAt w' (.slice A ll c) l) => T2.out w' i h
      generalize atL l i = x at t1 t2
      obtain ⟨p1, p2⟩ := x
      dsimp only at t1 t2
      have T3 := Lib.hid t1; have T4 := Lib.hid t2
      clear t1 t2
      clear H hg hl12
      go_upto_region 12 with fail
      clear f0
      refine wp_region_noPanic ?_
      refine wp_region_held_drew (S := (fun w' => ((w'.cell? ⟨w.heap.size, 0, none⟩ = some (.slice A ll c) ∧ w'.cell? ⟨w.heap.size, 1, none⟩ = some (.int .i64 xn) ∧ w'.cell? ⟨w.heap.size, 2, none⟩ = some (.int .i64 xd))) ∧ LiveT w w' [⟨w8.heap.size, (.slice A8 L2.length c8), n2, d2, L2⟩, ⟨w7.heap.size, (.slice A7 L2.length c7), n2, d2, L2⟩, ⟨w5.heap.size, (.slice A5 L1.length c5), n1, d1, L1⟩, ⟨w4.heap.size, (.slice A4 L1.length c4), n1, d1, L1⟩, ⟨w.heap.size + 1, (.slice B lm d), yn, yd, m⟩, ⟨w.heap.size, (.slice A ll c), xn, xd, l⟩])) (by kernel_rfl) HS (fun hHeld => ?_)
      clear HS
      refine wpAnyH_take (i := 0) (oi := _) (v := ?_) rfl (by kernel_rfl) (by kernel_rfl) (by kernel_rfl) (fun _ _ _ h => h) (Or.inl ⟨by rfl, ?_⟩) (by assumption) ?_
      rotate_left
      · intro ww hSw
        (try dsimp only at hSw)
        go_simp <;> with_reducible rfl
      (try simp only [List.getElem_toArray, List.getElem_cons_zero, Act.put, List.setIfInBounds_toArray, List.set_cons_zero, List.set_cons_succ])
      refine wpAnyH_take (i := 1) (oi := _) (v := ?_) rfl (by kernel_rfl) (by kernel_rfl) (by kernel_rfl) (fun _ _ _ h => h) (Or.inl ⟨by rfl, ?_⟩) (by assumption) ?_
      rotate_left
      · intro ww hSw
        (try dsimp only at hSw)
        go_simp <;> with_reducible rfl
      (try simp only [List.getElem_toArray, List.getElem_cons_succ, List.getElem_cons_zero, Act.put, List.setIfInBounds_toArray, List.set_cons_zero, List.set_cons_succ])
      refine wpAnyH_take (i := 3) (oi := _) (v := ?_) rfl (by kernel_rfl) (by kernel_rfl) (by kernel_rfl) (fun _ _ _ h => h) (Or.inl ⟨by rfl, ?_⟩) (by assumption) ?_
      rotate_left
      · intro ww hSw
        (try dsimp only at hSw)
        go_simp <;> with_reducible rfl
      (try simp only [List.getElem_toArray, List.getElem_cons_succ, List.getElem_cons_zero, Act.put, List.setIfInBounds_toArray, List.set_cons_zero, List.set_cons_succ])
      refine wpAnyH_take (i := 4) (oi := _) (v := ?_) rfl (by kernel_rfl) (by kernel_rfl) (by kernel_rfl) (fun _ _ _ h => h) (Or.inl ⟨by rfl, ?_⟩) (by assumption) ?_
      rotate_left
      · intro ww hSw
        (try dsimp only at hSw)
        go_simp <;> with_reducible rfl
      (try simp only [List.getElem_toArray, List.getElem_cons_succ, List.getElem_cons_zero, Act.put, List.setIfInBounds_toArray, List.set_cons_zero, List.set_cons_succ])
      refine wpAnyH_ready (rs := [2]) (by kernel_rfl) (by simp) ?_
      refine AllReadyH.cons (o := _) rfl (fun K hK => ?_) AllReadyH.nil
      go_simp
      (first
        | (go_at_call 19; (with_reducible refine (T3.out _ ((livet_of (by with_reducible assumption)).r 5 rfl)).mono ?_); rintro e w14 ⟨rfl, hb⟩)
        | (go_at_call 20; (with_reducible refine (T4.out _ ((livet_of (by with_reducible assumption)).r 5 rfl)).mono ?_); rintro e w15 ⟨rfl, hb⟩))
      go_wp2_with fail
      refine hK.out _ _ (hold_does1 (by with_reducible assumption) (by with_reducible assumption)) (fun hH2 => ?_)
      clear hK K hHeld hb
      have hHeld := hH2
      clear hH2
      (try simp only [List.getElem_toArray, List.getElem_cons_succ, List.getElem_cons_zero, Act.put, List.setIfInBounds_toArray, List.set_cons_zero, List.set_cons_succ])
      refine wpAnyH_ready (rs := [5]) (by kernel_rfl) (by simp) ?_
      refine AllReadyH.cons (o := _) rfl (fun K hK => ?_) AllReadyH.nil
      go_simp
      (first
        | (go_at_call 19; (with_reducible refine (T3.out _ ((livet_of (by with_reducible assumption)).r 5 rfl)).mono ?_); rintro e w14 ⟨rfl, hb⟩)
        | (go_at_call 20; (with_reducible refine (T4.out _ ((livet_of (by with_reducible assumption)).r 5 rfl)).mono ?_); rintro e w15 ⟨rfl, hb⟩))
      go_wp2_with fail
      refine hK.out _ _ (hold_does1 (by with_reducible assumption) (by with_reducible assumption)) (fun hH2 => ?_)
      clear hK K hHeld hb
      have hHeld := hH2
      clear hH2
      (try simp only [List.getElem_toArray, List.getElem_cons_succ, List.getElem_cons_zero, Act.put, List.setIfInBounds_toArray, List.set_cons_zero, List.set_cons_succ])
      refine wpAnyH_take (i := 6) (oi := _) (v := ?_) rfl (by kernel_rfl) (by kernel_rfl) (by kernel_rfl) (fun _ _ _ h => h) (Or.inl ⟨by rfl, ?_⟩) (by assumption) ?_
      rotate_left
      · intro ww hSw
        (try dsimp only at hSw)
        go_simp <;> with_reducible rfl
      (try simp only [List.getElem_toArray, List.getElem_cons_succ, List.getElem_cons_zero, Act.put, List.setIfInBounds_toArray, List.set_cons_zero, List.set_cons_succ])
      refine wpAnyH_done (by kernel_rfl) ?_ _
      refine NoPanic.normal ?_
      have H0 := Lib.hid (livet_of hHeld)
      clear hHeld
      go_wp2_with fail
      go_roundg (ll + 1 - (i + 1)).toNat
      case measure => have := HG.out; omega
      case rel => exact ⟨i + 1, rfl, by have := HG.out; omega, by have := HG.out; omega, rfl, H0.out⟩
    · have hd : decide (i ≤ (ll : Int)) = false := decide_eq_false hil
      go_wp2_with fail
      go_ret
      exact ⟨rfl, H.below⟩

set_option maxRecDepth 4000 in
set_option maxHeartbeats 4000000 in
theorem does_big (w : World) (ht : Pow10 w) (sa : Value) (l : List (Int × Int)) (xn xd : Int) (ha : RatsAt w sa l) (sb : Value) (m : List (Int × Int)) (yn yd : Int) (hb : RatsAt w sb m) (bn bd : Int) (hbig : ¬ l.length ≤ 12 ∨ (l.length ≤ 12 ∧ ¬ m.length ≤ 12)) :
    Calls Tryd.prog 3 #[.agg #[sa, .int .i64 xn, .int .i64 xd], .agg #[sb, .int .i64 yn, .int .i64 yd], ratV bn bd] w fun r w' => r = .returned (.bool true) ∧ Below w.heap.size w w' := by
  have z1 := fun (w' : World) (h : RatsAt w' sa l) => small_any w' sa l xn xd h
  have z2 := fun (w' : World) (h : RatsAt w' sb m) => small_any w' sb m yn yd h
  have AW := Lib.hid (fun (w' : World) (hb : Below w.heap.size w w') => awake2_yes w' (pow10_on ht hb))
  have H := ((LiveT.start w).box ha xn xd 26).box (hb.below (below_alloc1 w _)) yn yd 26
  have Q := RatAt.start ((w.alloc (.cells #[sa, .int .i64 xn, .int .i64 xd] 26)).alloc (.cells #[sb, .int .i64 yn, .int .i64 yd] 26)) bn bd 24
  rw [World.size_alloc, World.size_alloc] at Q
  have H := H.call (below_alloc1 _ (.cells #[.int .i64 bn, .int .i64 bd] 24))
  rw [World.size_alloc] at H
  obtain ⟨A, c, rfl⟩ := rats_shape ha
  obtain ⟨B, d, rfl⟩ := rats_shape hb
  rcases hbig with hl12 | ⟨hl12, hm12⟩
  · rw [decide_eq_false hl12] at z1
    have Z1 := Lib.hid z1
    clear ht ha hb z1 z2 hl12
    generalize l.length = ll at *
    generalize m.length = lm at *
    go_enter Tryd.func3, Tryd.ntmps3
    go_upto_region 2 with (first
      | (go_at_call 9; (with_reducible refine (AW.out _ H.below).mono ?_); rintro e w1 ⟨rfl, hq⟩; have H := H.call hq; have Q := Q.keep hq; have f10 := (H.f 1 rfl).k0; have f11 := (H.f 1 rfl).k1; have f12 := (H.f 1 rfl).k2; clear hq)
      | (go_at_call 10; (with_reducible refine (Z1.out _ (H.r 1 rfl)).mono ?_); rintro e w2 ⟨rfl, hq⟩; have H := H.call hq; have Q := Q.keep hq; clear hq))
    go_wp2_with (go_at_call 9; (with_reducible refine (AW.out _ H.below).mono ?_); rintro e w4 ⟨rfl, hq⟩; have H := H.call hq; have Q := Q.keep hq; clear hq)
    go_ret
    exact ⟨rfl, H.below⟩
  · rw [decide_eq_true hl12] at z1
    rw [decide_eq_false hm12] at z2
    have Z1 := Lib.hid z1; have Z2 := Lib.hid z2
    clear ht ha hb z1 z2 hl12 hm12
    generalize l.length = ll at *
    generalize m.length = lm at *
    go_enter Tryd.func3, Tryd.ntmps3
    go_upto_region 2 with (first
      | (go_at_call 9; (with_reducible refine (AW.out _ H.below).mono ?_); rintro e w1 ⟨rfl, hq⟩; have H := H.call hq; have Q := Q.keep hq; have f10 := (H.f 1 rfl).k0; have f11 := (H.f 1 rfl).k1; have f12 := (H.f 1 rfl).k2; clear hq)
      | (go_at_call 10; (first | (with_reducible refine (Z1.out _ (H.r 1 rfl)).mono ?_); rintro e w2 ⟨rfl, hq⟩; have H := H.call hq; have Q := Q.keep hq; have f00 := (H.f 0 rfl).k0; have f01 := (H.f 0 rfl).k1; have f02 := (H.f 0 rfl).k2; clear hq | (with_reducible refine (Z2.out _ (H.r 0 rfl)).mono ?_); rintro e w3 ⟨rfl, hq⟩; have H := H.call hq; have Q := Q.keep hq; clear hq)))
    go_wp2_with (go_at_call 9; (with_reducible refine (AW.out _ H.below).mono ?_); rintro e w4 ⟨rfl, hq⟩; have H := H.call hq; have Q := Q.keep hq; clear hq)
    go_ret
    exact ⟨rfl, H.below⟩

theorem does_any2 (w : World) (ht : Pow10 w) (sa : Value) (l : List (Int × Int)) (xn xd : Int) (ha : RatsAt w sa l) (hl : Wide l) (x1 : -9223372036854775808 ≤ xn) (x2 : xn ≤ 9223372036854775807) (x3 : -9223372036854775808 ≤ xd) (x4 : xd ≤ 9223372036854775807)
    (sb : Value) (m : List (Int × Int)) (yn yd : Int) (hb : RatsAt w sb m) (hm : Wide m) (y1 : -9223372036854775808 ≤ yn) (y2 : yn ≤ 9223372036854775807) (y3 : -9223372036854775808 ≤ yd) (y4 : yd ≤ 9223372036854775807)
    (bn bd : Int) (b1 : -9223372036854775808 ≤ bn) (b2 : bn ≤ 9223372036854775807) (b3 : -9223372036854775808 ≤ bd) (b4 : bd ≤ 9223372036854775807) :
    Calls Tryd.prog 3 #[.agg #[sa, .int .i64 xn, .int .i64 xd], .agg #[sb, .int .i64 yn, .int .i64 yd], ratV bn bd] w fun r w' => r = .returned (.bool true) ∧ Below w.heap.size w w' := by
  by_cases hl12 : l.length ≤ 12
  · by_cases hm12 : m.length ≤ 12
    · cases hr : rightT l xn xd
      · exact does_small w ht sa l xn xd ha hl x1 x2 x3 x4 sb m yn yd hb hm y1 y2 y3 y4 bn bd b1 b2 b3 b4 hl12 hm12 [] 0 1 false hr (fun w' h => own_wrong w' sa l xn xd h hl x1 x2 x3 x4 hr) (fun w' h => rown_wrong w' sa l xn xd h hl x1 x2 x3 x4 hr)
      · exact does_small w ht sa l xn xd ha hl x1 x2 x3 x4 sb m yn yd hb hm y1 y2 y3 y4 bn bd b1 b2 b3 b4 hl12 hm12 (trimL l) xn xd true hr (fun w' h => own_right w' sa l xn xd h hl x1 x2 x3 x4 hr) (fun w' h => rown_right w' sa l xn xd h hl x1 x2 x3 x4 hr)
    · exact does_big w ht sa l xn xd ha sb m yn yd hb bn bd (.inr ⟨hl12, hm12⟩)
  · exact does_big w ht sa l xn xd ha sb m yn yd hb bn bd (.inl hl12)
end Go.Proofs.YtkgndeiddjkhmaaDoor

namespace Go.Proofs.YtkgndeiddjkhmaaDoor
open Go.ChangeShapes Go.WideShapes Go.ChangeAt Go.RowKit

theorem termdoes_gPow : Tryd.prog.globalNamed "internal/strconv.uint64pow10" = some 2 := by kernel_rfl
theorem termdoes_gPowType : (Tryd.prog.globals[2]?).map (·.type) = some 122 := by kernel_rfl
theorem termdoes_cellsPow : Tryd.prog.cellsOf 122 = 20 := by kernel_rfl
theorem termdoes_cellsU64 : Tryd.prog.cellsOf 69 = 1 := by kernel_rfl
theorem termdoes_laidOut : laidOutB Tryd.prog = true := by kernel_rfl

/-- What the row's list gives: the table of powers. -/
theorem termdoes_table {W : World} (h : laidMetH Tryd.prog Rows.termDoesRow.laid W) : Pow10 W := by
  rw [MakeChecks.laidMetH_plain _ _ _ (by kernel_rfl)] at h
  exact Lib.tabIs_of_head (rest := []) termdoes_gPow termdoes_gPowType Tryd.underlying122 Tryd.underlying69 termdoes_cellsU64 termdoes_cellsPow (laidMet.tail (laidMet.tail h))

set_option maxRecDepth 100000 in
theorem termdoes_contract (H : Type) (enc : TypeId × Value → H) (W : World) (base : Nat) (args : Array Value) (ds gs : List (DataW H)) (before : List MemPlace)
    (hval : ∀ (j : Nat) t v, Tryd.f3.params[j]? = some t → args[j]? = some v → Value.okWide Tryd.prog W .any base t v)
    (hW : DataW.Whole enc Tryd.prog Tryd.f3.params.toList Rows.termDoesSpec.vars false W args.toList ds gs before) (hL : laidMetH Tryd.prog Rows.termDoesRow.laid W) :
    Calls Tryd.prog 3 args W fun e W' => ∃ v, e = .returned v ∧ Rows.termDoesSpec.post enc Tryd.prog Tryd.f3 false true false false W args v W' := by
  have hW' := hW
  obtain ⟨p, q, hA0, hV, rfl, _, _⟩ := hW
  have hA : DataW.TrodAll enc Tryd.prog W 0 (fun _ => true) true Tryd.f3.params.toList args.toList ds p := hA0
  rw [Tryd.params3] at hA hval
  obtain ⟨v0, v1, v2, d0, d1, d2, p0, p1, p2, rfl, rfl, rfl, h0, h1, h2⟩ := trodAll_three hA
  obtain ⟨rfl, rfl⟩ := trodVars_none hV
  clear hA0
  simp only [List.append_nil] at hW'
  have g0 := h0
  obtain ⟨s0, l0, n0, e0, rfl, r0, w0, a0, b0⟩ := open_term (hval 0 26 v0 rfl rfl) h0
  have g1 := h1
  obtain ⟨s1, l1, n1, e1, rfl, r1, w1, a1, b1⟩ := open_term (hval 1 26 v1 rfl rfl) h1
  obtain ⟨n2, e2, rfl, rfl, rfl, a2, b2, sh2⟩ := open_rat (hval 2 24 v2 rfl rfl) h2
  refine (does_any2 W (termdoes_table hL) s0 l0 n0 e0 r0 w0 a0.1 a0.2 b0.1 b0.2 s1 l1 n1 e1 r1 w1 a1.1 a1.2 b1.1 b1.2 n2 e2 a2.1 a2.2 b2.1 b2.2).mono fun r W' ⟨he, hb⟩ => ?_
  subst he
  exact ⟨_, rfl, post_of_below (pa := p0 ++ (p1 ++ [])) (pv := []) hW' (fun _ _ _ => trodAll_mk1 (shut_bool Tryd.underlying4 _)) (fun sp hs => trodAll_mk3 (WideElems.Trod_stays termdoes_laidOut (by kernel_rfl) (of_decide_eq_true (by kernel_rfl)) g0 (fun x hx => hb.same (hW'.lt x (by simp [hx]))) (fun x hx => hs x (by simp [hx]))) (WideElems.Trod_stays termdoes_laidOut (by kernel_rfl) (of_decide_eq_true (by kernel_rfl)) g1 (fun x hx => hb.same (hW'.lt x (by simp [hx]))) (fun x hx => hs x (by simp [hx]))) (sh2 _ _ sp _)) (fun _ _ => rfl) (by simp) hb (ok_one (by kernel_rfl) rfl (okWide_bool_mk Tryd.underlying4 _))⟩

set_option maxRecDepth 100000 in
theorem termdoes_laid_met (os : Os) : laidMet Tryd.prog Rows.termDoesRow.laid ((World.doorLaid Tryd.prog 400 os).forCall (fun _ _ => 0) ⟨#[], #[.agg #[.slice none 0 0, .int .i64 0, .int .i64 0], .agg #[.slice none 0 0, .int .i64 0, .int .i64 0], .agg #[.int .i64 0, .int .i64 0]], []⟩).memory :=
  laidMet_of_run' 8 (by kernel_rfl) (by kernel_rfl)
set_option maxRecDepth 100000 in
theorem termdoes_reads (os : Os) {H : Type} (enc : TypeId × Value → H) : ∃ places, DataW.whole enc Tryd.prog ((World.doorLaid Tryd.prog 400 os).forCall (fun _ _ => 0) ⟨#[], #[.agg #[.slice none 0 0, .int .i64 0, .int .i64 0], .agg #[.slice none 0 0, .int .i64 0, .int .i64 0], .agg #[.int .i64 0, .int .i64 0]], []⟩).memory Tryd.f3.params.toList Rows.termDoesSpec.vars false #[Value.agg #[.slice none 0 0, .int .i64 0, .int .i64 0], Value.agg #[.slice none 0 0, .int .i64 0, .int .i64 0], Value.agg #[.int .i64 0, .int .i64 0]].toList 8 = some ([.agg [.nil, .agg [.lit (.int .i64 0), .lit (.int .i64 0)]], .agg [.nil, .agg [.lit (.int .i64 0), .lit (.int .i64 0)]], .agg [.lit (.int .i64 0), .lit (.int .i64 0)]], [], places) :=
  ⟨[], by kernel_rfl⟩

set_option maxRecDepth 100000 in
theorem termdoes_lifted (os : Os) (started : os.Started) (H : Type) (enc : TypeId × Value → H) (F : Stop.Interp) :
    ReturnsInHanded {} Tryd.checked os 3 .any ((OpenSpec.ofChange Rows.termDoesSpec).preRow enc Tryd.prog Tryd.f3 Rows.termDoesRow.domain false Rows.termDoesRow.laid) (((OpenSpec.ofChange Rows.termDoesSpec).at F).post enc Tryd.prog Tryd.f3 false true false false) := by
  obtain ⟨places, hx⟩ := termdoes_reads os enc
  refine returnsInHanded_of_row (C := Tryd.checked) (s := (OpenSpec.ofChange Rows.termDoesSpec)) Tryd.own started (by kernel_rfl) Tryd.func3
    (witness_row_at (enc := enc) (C := Tryd.checked) false (World.doorLaid Tryd.prog 400 os) #[.agg #[.slice none 0 0, .int .i64 0, .int .i64 0], .agg #[.slice none 0 0, .int .i64 0, .int .i64 0], .agg #[.int .i64 0, .int .i64 0]] rfl (by kernel_rfl) (by kernel_rfl) (by kernel_rfl)
      (OpenSpec.preRow_of_cond 8 hx (by kernel_rfl) (fun k hk => by cases hk) (by kernel_rfl) (termdoes_laid_met os))) ?_
  intro W base args ds gs before hval hW _ _ _ hL _ _
  exact termdoes_contract H enc W base args ds gs before hval hW hL

theorem termdoes_said : Rows.TermDoesSaid :=
  OpenClaim.holds_of_cond 3 Tryd.f3 rfl rfl rfl rfl rfl rfl rfl ⟨rfl, rfl, rfl, rfl, rfl⟩ rfl rfl rfl rfl rfl (by kernel_rfl) Tryd.func3 (by kernel_rfl)
    (of_decide_eq_true (by kernel_rfl)) (by unfold Func.isWrapper; first | (rw [if_pos (by decide +kernel)]; kernel_rfl) | (rw [if_neg (by decide +kernel)]; exact ⟨rfl, rfl⟩))
    (fun os started H enc _ F => by rw [OpenClaim.pre_eq_preRow]; exact termdoes_lifted os started H enc F)

theorem termdoes_plain (f : FuncId) (fn : Func) (hf : Tryd.pinned.checked.prog.funcNamed "ballcock/ballcocklaw02.TermDoes" = some f) (hfn : Tryd.pinned.checked.prog.funcs[f]? = some fn) :
    false = Tryd.pinned.checked.prog.looks [] ∧ ∀ (j : Nat) t, fn.params[j]? = some t → Tryd.pinned.checked.prog.wantsStandIn t = false := by
  obtain rfl : f = 3 := Option.some.inj ((show Tryd.prog.funcNamed "ballcock/ballcocklaw02.TermDoes" = some 3 by kernel_rfl).symm.trans hf) |>.symm
  obtain rfl : fn = Tryd.f3 := (Option.some.inj (Tryd.func3.symm.trans hfn)).symm
  refine ⟨by kernel_rfl, fun j t ht => ?_⟩
  rw [Tryd.params3] at ht
  have hm : t = 26 ∨ t = 24 := by simpa using Array.mem_of_getElem? ht
  rcases hm with rfl | rfl
  · exact (show Tryd.prog.wantsStandIn 26 = false by kernel_rfl)
  · exact (show Tryd.prog.wantsStandIn 24 = false by kernel_rfl)

theorem termdoes_holds : Rows.TermDoesCardSaid :=
  Claim7.holds_tied_plain_at .later [] _ _ _ _ termdoes_said (fun _ h => by cases h) (by kernel_rfl) (fun _ h => by cases h) termDoes_row_tie rfl ⟨rfl, rfl⟩ (by kernel_rfl) rfl termdoes_plain (by kernel_rfl)
#print axioms termdoes_holds
end Go.Proofs.YtkgndeiddjkhmaaDoor
