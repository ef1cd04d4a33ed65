/-
  Add and Scale at any arguments; plain: sums turned round, a sum so many times. (Template: by-name.py fills it; gen/genTurns.py writes it.)
-/
import Derived.Test.YtkgndeiddjkhmaaDoorTermV
namespace Go.Proofs.YtkgndeiddjkhmaaDoor
open Go.RowKit

abbrev Bd (x : Int × Int) : Prop := (-9223372036854775808 ≤ x.1 ∧ x.1 ≤ 9223372036854775807) ∧ (-9223372036854775808 ≤ x.2 ∧ x.2 ≤ 9223372036854775807)

/-- What Add answers, whatever the terms. -/
def sumT (l m : List (Int × Int)) (kx ky : Int × Int) : List (Int × Int) × (Int × Int) × Int :=
  if rightT l kx.1 kx.2 = true ∧ rightT m ky.1 ky.2 = true then putT addH l m kx ky else ([], (0, 0), 2)
/-- What Scale answers. -/
def timesT (l : List (Int × Int)) (kx kb : Int × Int) : List (Int × Int) × (Int × Int) × Int :=
  if rightT l kx.1 kx.2 = true ∧ rightB kb.1 kb.2 = true then putT (scaleH kb) l [] kx (0, 1) else ([], (0, 0), 2)

theorem bd_nought : Bd (0, 0) := by decide
theorem putT_wide {h : How} (hh : HowOk h) {l m : List (Int × Int)} {kx ky : Int × Int} (hl : AllOk l) (hm : AllOk m) (hx : OkR kx) (hy : OkR ky) : Wide (putT h l m kx ky).1 ∧ Bd (putT h l m kx ky).2.1 := by
  unfold putT
  split
  · rename_i g
    exact ⟨(combL_ok hh hl hm g.2).trim.wide, (hh.ok _ _ hx hy g.1).wide⟩
  · exact ⟨fun x hx => (by cases hx), bd_nought⟩

theorem sumT_wide {l m : List (Int × Int)} {kx ky : Int × Int} (hl : Wide l) (hm : Wide m) (hx : Bd kx) (hy : Bd ky) : Wide (sumT l m kx ky).1 ∧ Bd (sumT l m kx ky).2.1 := by
  unfold sumT
  split
  · rename_i g
    obtain ⟨_, a, b⟩ := right_parts g.1 hl hx.1.1 hx.1.2 hx.2.1 hx.2.2
    obtain ⟨_, c, d⟩ := right_parts g.2 hm hy.1.1 hy.1.2 hy.2.1 hy.2.2
    exact putT_wide addH_ok a c b d
  · exact ⟨fun x hx => (by cases hx), bd_nought⟩
theorem timesT_wide {l : List (Int × Int)} {kx kb : Int × Int} (hl : Wide l) (hx : Bd kx) (hb : Bd kb) : Wide (timesT l kx kb).1 ∧ Bd (timesT l kx kb).2.1 := by
  unfold timesT
  split
  · rename_i g
    obtain ⟨_, a, b⟩ := right_parts g.1 hl hx.1.1 hx.1.2 hx.2.1 hx.2.2
    exact putT_wide (scaleH_ok (okR_of g.2 hb)) a allOk_none b okR_nought
  · exact ⟨fun x hx => (by cases hx), bd_nought⟩

theorem tadd_any (w : World) (va vb : Value) (l m : List (Int × Int)) (kx ky : Int × Int) (ha : RatsAt w va l) (hb : RatsAt w vb m) (hl : Wide l) (hm : Wide m) (hx : Bd kx) (hy : Bd ky) :
    Calls Tryd.prog 11 #[.agg #[va, .int .i64 kx.1, .int .i64 kx.2], .agg #[vb, .int .i64 ky.1, .int .i64 ky.2]] w (TermPut w (sumT l m kx ky).1 (sumT l m kx ky).2.1 (sumT l m kx ky).2.2) := by
  unfold sumT
  split
  · rename_i g
    obtain ⟨p, a, b⟩ := right_parts g.1 hl hx.1.1 hx.1.2 hx.2.1 hx.2.2
    obtain ⟨q, c, d⟩ := right_parts g.2 hm hy.1.1 hy.1.2 hy.2.1 hy.2.2
    exact tadd_right w va vb l m kx ky ha hb a c b d p q
  · rename_i g
    refine tadd_wrong w va vb l m kx.1 kx.2 ky.1 ky.2 ha hb hl hm hx.1.1 hx.1.2 hx.2.1 hx.2.2 hy.1.1 hy.1.2 hy.2.1 hy.2.2 ?_
    cases a : rightT l kx.1 kx.2
    · exact .inl rfl
    · cases b : rightT m ky.1 ky.2
      · exact .inr ⟨rfl, rfl⟩
      · exact absurd ⟨a, b⟩ g
theorem tscale_any (w : World) (va : Value) (l : List (Int × Int)) (kx kb : Int × Int) (ha : RatsAt w va l) (hl : Wide l) (hx : Bd kx) (hb : Bd kb) :
    Calls Tryd.prog 13 #[.agg #[va, .int .i64 kx.1, .int .i64 kx.2], ratV kb.1 kb.2] w (TermPut w (timesT l kx kb).1 (timesT l kx kb).2.1 (timesT l kx kb).2.2) := by
  unfold timesT
  split
  · rename_i g
    obtain ⟨p, a, b⟩ := right_parts g.1 hl hx.1.1 hx.1.2 hx.2.1 hx.2.2
    exact tscale_right w va l kx kb ha a b (okR_of g.2 hb) p
  · rename_i g
    refine tscale_wrong w va l kx.1 kx.2 kb.1 kb.2 ha hl hx.1.1 hx.1.2 hx.2.1 hx.2.2 hb.1.1 hb.1.2 hb.2.1 hb.2.2 ?_
    cases a : rightT l kx.1 kx.2
    · exact .inl rfl
    · cases b : rightB kb.1 kb.2
      · exact .inr ⟨rfl, rfl⟩
      · exact absurd ⟨a, b⟩ g

theorem sumT_comm (l m : List (Int × Int)) (kx ky : Int × Int) : sumT l m kx ky = sumT m l ky kx := by
  have e : putT addH l m kx ky = putT addH m l ky kx := by
    have c : combL addH l m = combL addH m l := by
      unfold combL
      rw [Nat.max_comm]
      exact List.map_congr_left fun i _ => by rw [addH_comm]
    have d : combOk addH l m (max l.length m.length) = combOk addH m l (max m.length l.length) := by
      unfold combOk
      rw [Nat.max_comm]
      exact propext ⟨fun h i hi => by rw [addH_comm]; exact h i hi, fun h i hi => by rw [addH_comm]; exact h i hi⟩
    unfold putT
    rw [c, addH_comm kx ky]
    simp only [d]
  unfold sumT
  rw [e]
  by_cases g : rightT l kx.1 kx.2 = true ∧ rightT m ky.1 ky.2 = true
  · rw [if_pos g, if_pos ⟨g.2, g.1⟩]
  · rw [if_neg g, if_neg (fun q => g ⟨q.2, q.1⟩)]

/-- .. where all went well, variable by variable. -/
structure Put (h : How) (l m : List (Int × Int)) (kx ky : Int × Int) (L : List (Int × Int)) (k : Int × Int) : Prop where
  ok : AllOk L
  len : L.length ≤ 8
  own : trimL L = L
  okk : OkR k
  k : (h kx ky).2 = 0 ∧ k = (h kx ky).1
  at_ : ∀ i : Nat, (h (atL l i) (atL m i)).2 = 0 ∧ atL L i = (h (atL l i) (atL m i)).1

theorem put_of {h : How} (hh : HowOk h) (h0 : h (0, 1) (0, 1) = ((0, 1), 0)) {l m : List (Int × Int)} {kx ky : Int × Int} (hl : AllOk l) (hm : AllOk m) (hx : OkR kx) (hy : OkR ky) (h8 : l.length ≤ 8) (h8' : m.length ≤ 8) (he : (putT h l m kx ky).2.2 = 0) :
    Put h l m kx ky (putT h l m kx ky).1 (putT h l m kx ky).2.1 := by
  obtain ⟨a, b, c, d, e, f⟩ := putT_ok hh hl hm hx hy h8 h8' he
  rw [c]
  refine ⟨d.trim, Nat.le_trans (trimL_len _) e, trimL_twice _, f, ⟨a, rfl⟩, fun i => ?_⟩
  rw [atL_trim d, combL_at]
  by_cases g : i < max l.length m.length
  · rw [if_pos g]
    exact ⟨b i g, rfl⟩
  · rw [if_neg g, atL_out (l := l) (.inr (by omega)), atL_out (l := m) (.inr (by omega)), h0]
    exact ⟨rfl, rfl⟩

theorem addH_00 : addH (0, 1) (0, 1) = ((0, 1), 0) := addH_nought okR_nought
theorem mulH_0 {k : Int × Int} (hk : OkR k) : mulH (0, 1) k = ((0, 1), 0) := mulH_of okR_nought hk okR_nought (by show 0 * (1 * k.2) = 0 * k.1 * 1; grind)

theorem sum_put {l m : List (Int × Int)} {kx ky : Int × Int} (hl : Wide l) (hm : Wide m) (hx : Bd kx) (hy : Bd ky) (he : (sumT l m kx ky).2.2 = 0) : AllOk l ∧ AllOk m ∧ OkR kx ∧ OkR ky ∧ l.length ≤ 8 ∧ m.length ≤ 8 ∧ Put addH l m kx ky (sumT l m kx ky).1 (sumT l m kx ky).2.1 := by
  by_cases g : rightT l kx.1 kx.2 = true ∧ rightT m ky.1 ky.2 = true
  · obtain ⟨p, a, b⟩ := right_parts g.1 hl hx.1.1 hx.1.2 hx.2.1 hx.2.2
    obtain ⟨q, c, d⟩ := right_parts g.2 hm hy.1.1 hy.1.2 hy.2.1 hy.2.2
    have e : sumT l m kx ky = putT addH l m kx ky := if_pos g
    rw [e] at he ⊢
    exact ⟨a, c, b, d, p, q, put_of addH_ok addH_00 a c b d p q he⟩
  · unfold sumT at he
    rw [if_neg g] at he
    cases he
theorem times_put {l : List (Int × Int)} {kx kb : Int × Int} (hl : Wide l) (hx : Bd kx) (hb : Bd kb) (he : (timesT l kx kb).2.2 = 0) : AllOk l ∧ OkR kx ∧ OkR kb ∧ l.length ≤ 8 ∧ Put (scaleH kb) l [] kx (0, 1) (timesT l kx kb).1 (timesT l kx kb).2.1 := by
  by_cases g : rightT l kx.1 kx.2 = true ∧ rightB kb.1 kb.2 = true
  · obtain ⟨p, a, b⟩ := right_parts g.1 hl hx.1.1 hx.1.2 hx.2.1 hx.2.2
    have c := okR_of g.2 hb
    have e : timesT l kx kb = putT (scaleH kb) l [] kx (0, 1) := if_pos g
    rw [e] at he ⊢
    exact ⟨a, b, c, p, put_of (scaleH_ok c) (mulH_0 c) a allOk_none b okR_nought p (by simp) he⟩
  · unfold timesT at he
    rw [if_neg g] at he
    cases he

theorem distr (a1 a2 c1 c2 b1 b2 s1 s2 x1 x2 y1 y2 z1 z2 w1 w2 : Int) (h1 : s1 * (a2 * c2) = (a1 * c2 + c1 * a2) * s2) (h2 : x1 * (s2 * b2) = s1 * b1 * x2) (h3 : y1 * (a2 * b2) = a1 * b1 * y2) (h4 : z1 * (c2 * b2) = c1 * b1 * z2)
    (h5 : w1 * (y2 * z2) = (y1 * z2 + z1 * y2) * w2) : x1 * w2 * (a2 * c2 * b2 * s2 * y2 * z2) = w1 * x2 * (a2 * c2 * b2 * s2 * y2 * z2) := by
  have e1 : x1 * w2 * (a2 * c2 * b2 * s2 * y2 * z2) = (x1 * (s2 * b2)) * (a2 * c2) * (y2 * z2) * w2 := by grind
  have e2 : w1 * x2 * (a2 * c2 * b2 * s2 * y2 * z2) = (w1 * (y2 * z2)) * (a2 * c2 * b2 * s2) * x2 := by grind
  have e3 : (y1 * z2 + z1 * y2) * (a2 * b2 * (c2 * b2)) = (y1 * (a2 * b2)) * z2 * (c2 * b2) + (z1 * (c2 * b2)) * y2 * (a2 * b2) := by grind
  grind

theorem OkR.same {x w : Int × Int} (hx : OkR x) (hw : OkR w) {D : Int} (hD : 0 < D) (h : x.1 * w.2 * D = w.1 * x.2 * D) : x = w :=
  hx.ext hw (Int.eq_of_mul_eq_mul_right (by omega) h)

theorem distr_ok {a c b s x y z w : Int × Int} (ha : OkR a) (hc : OkR c) (hb : OkR b) (e1 : (addH a c).2 = 0) (hs : s = (addH a c).1) (e2 : (mulH s b).2 = 0) (hx : x = (mulH s b).1) (e3 : (mulH a b).2 = 0) (hy : y = (mulH a b).1) (e4 : (mulH c b).2 = 0) (hz : z = (mulH c b).1)
    (e5 : (addH y z).2 = 0) (hw : w = (addH y z).1) : x = w := by
  obtain ⟨os, f1⟩ := addH_eq ha hc e1
  rw [← hs] at os f1
  obtain ⟨ox, f2⟩ := mulH_eq os hb e2
  rw [← hx] at ox f2
  obtain ⟨oy, f3⟩ := mulH_eq ha hb e3
  rw [← hy] at oy f3
  obtain ⟨oz, f4⟩ := mulH_eq hc hb e4
  rw [← hz] at oz f4
  obtain ⟨ow, f5⟩ := addH_eq oy oz e5
  rw [← hw] at ow f5
  exact ox.same ow (Int.mul_pos (Int.mul_pos (Int.mul_pos (Int.mul_pos (Int.mul_pos ha.den hc.den) hb.den) os.den) oy.den) oz.den) (distr _ _ _ _ _ _ _ _ _ _ _ _ _ _ _ _ f1 f2 f3 f4 f5)

/-- A sum so many times is the sum of both so many times, where nothing runs over. -/
theorem turned {l m : List (Int × Int)} {kx ky kb : Int × Int} (hl : Wide l) (hm : Wide m) (hx : Bd kx) (hy : Bd ky) (hb : Bd kb) (e1 : (sumT l m kx ky).2.2 = 0) (e2 : (timesT (sumT l m kx ky).1 (sumT l m kx ky).2.1 kb).2.2 = 0) (e3 : (timesT l kx kb).2.2 = 0) (e4 : (timesT m ky kb).2.2 = 0)
    (e5 : (sumT (timesT l kx kb).1 (timesT m ky kb).1 (timesT l kx kb).2.1 (timesT m ky kb).2.1).2.2 = 0) :
    let X := timesT (sumT l m kx ky).1 (sumT l m kx ky).2.1 kb
    let W := sumT (timesT l kx kb).1 (timesT m ky kb).1 (timesT l kx kb).2.1 (timesT m ky kb).2.1
    X.1 = W.1 ∧ X.2.1 = W.2.1 ∧ rightT X.1 X.2.1.1 X.2.1.2 = true ∧ rightT W.1 W.2.1.1 W.2.1.2 = true := by
  intro X W
  obtain ⟨sw, sb⟩ := sumT_wide hl hm hx hy
  obtain ⟨yw, yb⟩ := timesT_wide hl hx hb
  obtain ⟨zw, zb⟩ := timesT_wide hm hy hb
  obtain ⟨al, am, ox, oy, l8, m8, P1⟩ := sum_put hl hm hx hy e1
  obtain ⟨_, _, ob, _, P2⟩ := times_put sw sb hb e2
  obtain ⟨_, _, _, _, P3⟩ := times_put hl hx hb e3
  obtain ⟨_, _, _, _, P4⟩ := times_put hm hy hb e4
  obtain ⟨_, _, _, _, _, _, P5⟩ := sum_put yw zw yb zb e5
  refine ⟨?_, distr_ok ox oy ob P1.k.1 P1.k.2 P2.k.1 P2.k.2 P3.k.1 P3.k.2 P4.k.1 P4.k.2 P5.k.1 P5.k.2, right_mk P2.len P2.ok P2.okk, right_mk P5.len P5.ok P5.okk⟩
  rw [← P2.own, ← P5.own]
  exact trim_ext P2.ok P5.ok fun i => distr_ok (al.at i) (am.at i) ob (P1.at_ i).1 (P1.at_ i).2 (P2.at_ i).1 (P2.at_ i).2 (P3.at_ i).1 (P3.at_ i).2 (P4.at_ i).1 (P4.at_ i).2 (P5.at_ i).1 (P5.at_ i).2
end Go.Proofs.YtkgndeiddjkhmaaDoor
