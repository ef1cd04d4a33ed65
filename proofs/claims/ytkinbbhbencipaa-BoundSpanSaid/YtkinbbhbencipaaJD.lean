/-
  Add and Scale at any arguments; plain: sums turned round, a sum so many times. (Template: by-name.py fills it; gen/genTurns.py writes it.)
-/
import Derived.Test.YtkinbbhbencipaaJTermS
import Derived.Test.YtkinbbhbencipaaJC
namespace Go.Proofs.Ytkinbbhbencipaa
open Go.RowKit

theorem resT_of {P : Int} {Q : Nat} {y : Int × Int} (hQ : 0 < Q) (hy : OkR y) (h : y.1 * (Q : Int) = P * y.2) : resT P Q = (y, 0) := by
  obtain ⟨d, e, v⟩ := hy
  obtain ⟨a, b, c⟩ := res_of (P := P) hQ v (by rw [h, e])
  unfold resT
  rw [a, b, c]
  exact Prod.ext (Prod.ext rfl e.symm) rfl
theorem resT_eq {P : Int} {Q : Nat} (hQ : 0 < Q) (h : (resT P Q).2 = 0) : OkR (resT P Q).1 ∧ (resT P Q).1.1 * (Q : Int) = P * (resT P Q).1.2 := by
  obtain ⟨d, h1, h2, h3⟩ := res_ok hQ h
  refine ⟨⟨d, h1, h2⟩, ?_⟩
  show resN P Q * (Q : Int) = P * resD P Q
  rw [h1]
  exact h3
theorem OkR.ext {x y : Int × Int} (hx : OkR x) (hy : OkR y) (h : x.1 * y.2 = y.1 * x.2) : x = y := by
  obtain ⟨d, e, v⟩ := hx
  obtain ⟨d', e', v'⟩ := hy
  rw [e, e'] at h
  obtain ⟨a, b⟩ := v.unique v' h
  exact Prod.ext a (by rw [e, e', b])
theorem OkR.zero {x : Int × Int} (hx : OkR x) (h : x.1 = 0) : x = (0, 1) := hx.ext okR_nought (by rw [h]; simp)
theorem OkR.neg {x : Int × Int} (hx : OkR x) : OkR (-x.1, x.2) := by
  obtain ⟨d, e, v⟩ := hx
  exact ⟨d, e, ⟨v.pos, v.d_le, by show (-x.1).natAbs ≤ _; rw [Int.natAbs_neg]; exact v.n_le, by show Nat.gcd (-x.1).natAbs d = 1; rw [Int.natAbs_neg]; exact v.low⟩⟩
theorem OkR.den {x : Int × Int} (hx : OkR x) : 0 < x.2 := by
  have := hx.pos
  omega
theorem okR_one : OkR (1, 1) := ⟨1, rfl, by decide, by decide, by decide, by decide⟩
theorem okR_less : OkR (-1, 1) := ⟨1, rfl, by decide, by decide, by decide, by decide⟩

theorem addH_eq {x y : Int × Int} (hx : OkR x) (hy : OkR y) (h : (addH x y).2 = 0) : OkR (addH x y).1 ∧ (addH x y).1.1 * (x.2 * y.2) = (x.1 * y.2 + y.1 * x.2) * (addH x y).1.2 := by
  have := resT_eq (Nat.mul_pos hx.pos hy.pos) h
  rw [Int.natCast_mul, ← hx.eta.1, ← hy.eta.1] at this
  exact this
theorem mulH_eq {x y : Int × Int} (hx : OkR x) (hy : OkR y) (h : (mulH x y).2 = 0) : OkR (mulH x y).1 ∧ (mulH x y).1.1 * (x.2 * y.2) = x.1 * y.1 * (mulH x y).1.2 := by
  have := resT_eq (Nat.mul_pos hx.pos hy.pos) h
  rw [Int.natCast_mul, ← hx.eta.1, ← hy.eta.1] at this
  exact this
theorem addH_of {x y z : Int × Int} (hx : OkR x) (hy : OkR y) (hz : OkR z) (h : z.1 * (x.2 * y.2) = (x.1 * y.2 + y.1 * x.2) * z.2) : addH x y = (z, 0) :=
  resT_of (Nat.mul_pos hx.pos hy.pos) hz (by rw [Int.natCast_mul, ← hx.eta.1, ← hy.eta.1]; exact h)
theorem mulH_of {x y z : Int × Int} (hx : OkR x) (hy : OkR y) (hz : OkR z) (h : z.1 * (x.2 * y.2) = x.1 * y.1 * z.2) : mulH x y = (z, 0) :=
  resT_of (Nat.mul_pos hx.pos hy.pos) hz (by rw [Int.natCast_mul, ← hx.eta.1, ← hy.eta.1]; exact h)
theorem addH_nought {x : Int × Int} (hx : OkR x) : addH x (0, 1) = (x, 0) := addH_of hx okR_nought hx (by show x.1 * (x.2 * 1) = (x.1 * 1 + 0 * x.2) * x.2; grind)
theorem nought_addH {x : Int × Int} (hx : OkR x) : addH (0, 1) x = (x, 0) := addH_of okR_nought hx hx (by show x.1 * (1 * x.2) = (0 * x.2 + x.1 * 1) * x.2; grind)
theorem mulH_one {x : Int × Int} (hx : OkR x) : mulH x (1, 1) = (x, 0) := mulH_of hx okR_one hx (by show x.1 * (x.2 * 1) = x.1 * 1 * x.2; grind)
theorem mulH_less {x : Int × Int} (hx : OkR x) : mulH x (-1, 1) = ((-x.1, x.2), 0) := mulH_of hx okR_less hx.neg (by show -x.1 * (x.2 * 1) = x.1 * (-1) * x.2; grind)
theorem addH_neg {x : Int × Int} (hx : OkR x) : addH x (-x.1, x.2) = ((0, 1), 0) := addH_of hx hx.neg okR_nought (by show 0 * (x.2 * x.2) = (x.1 * x.2 + -x.1 * x.2) * 1; grind)
theorem addH_comm (x y : Int × Int) : addH x y = addH y x := by
  unfold addH
  rw [Int.add_comm, Nat.mul_comm]

/-! ### Rows by their variables -/
theorem atL_trim {l : List (Int × Int)} (h : AllOk l) (i : Int) : atL (trimL l) i = atL l i := by
  have key : ∀ (n : Nat) (a : List (Int × Int)), a.length = n → AllOk a → atL (trimL a) i = atL a i := by
    intro n
    induction n with
    | zero =>
      intro a ha _
      obtain rfl := List.eq_nil_of_length_eq_zero ha
      rfl
    | succ n ih =>
      intro a ha hok
      have hne : a ≠ [] := by intro e; rw [e] at ha; cases ha
      obtain ⟨b, x, rfl⟩ : ∃ b x, a = b ++ [x] := ⟨a.dropLast, a.getLast hne, (List.dropLast_concat_getLast hne).symm⟩
      rw [trimL_snoc]
      split
      · rename_i hz
        have hx : x = (0, 1) := (hok x (by simp)).zero hz
        rw [ih b (by simpa using ha) (fun y hy => hok y (by simp [hy]))]
        unfold atL
        split
        · by_cases g : i.toNat < b.length
          · rw [List.getElem?_append_left g]
          · rw [List.getElem?_eq_none (by omega)]
            by_cases g2 : i.toNat = b.length
            · rw [g2, List.getElem?_append_right (Nat.le_refl _)]
              simp [hx]
            · rw [List.getElem?_eq_none (by simp; omega)]
        · rfl
      · rfl
  exact key l.length l rfl h

theorem combL_at (h : How) (l m : List (Int × Int)) (k : Nat) : atL (combL h l m) k = if k < max l.length m.length then (h (atL l k) (atL m k)).1 else (0, 1) := by
  unfold atL combL
  rw [if_pos (by omega), Int.toNat_natCast, List.getElem?_map]
  split
  · rename_i g
    rw [List.getElem?_range g]
    unfold atL
    rfl
  · rename_i g
    rw [List.getElem?_eq_none (by simpa using g)]
    rfl

/-- Rows are the same in their own forms if they have the same variables. -/
theorem trim_ext {l m : List (Int × Int)} (hl : AllOk l) (hm : AllOk m) (h : ∀ k : Nat, atL l k = atL m k) : trimL l = trimL m := by
  have hlen : (trimL l).length = (trimL m).length := by
    have half : ∀ (a b : List (Int × Int)), AllOk a → AllOk b → (∀ k : Nat, atL a k = atL b k) → (trimL a).length ≤ (trimL b).length := by
      intro a b ha hb hk
      rcases Nat.lt_or_ge (trimL b).length (trimL a).length with g | g
      · exfalso
        obtain ⟨x, hx⟩ : ∃ x, (trimL a)[(trimL a).length - 1]? = some x := ⟨_, List.getElem?_eq_getElem (by omega)⟩
        have hne := trimL_last a x hx (by omega)
        have e1 : atL (trimL a) (((trimL a).length - 1 : Nat) : Int) = x := atL_in hx
        have e2 : atL (trimL b) (((trimL a).length - 1 : Nat) : Int) = (0, 1) := atL_out (.inr (by omega))
        rw [atL_trim ha] at e1
        rw [atL_trim hb, ← hk, e1] at e2
        rw [e2] at hne
        exact hne rfl
      · exact g
    exact Nat.le_antisymm (half l m hl hm h) (half m l hm hl fun k => (h k).symm)
  apply List.ext_getElem?
  intro i
  by_cases g : i < (trimL l).length
  · have e1 : atL (trimL l) (i : Int) = (trimL l)[i] := atL_in (List.getElem?_eq_getElem g)
    have e2 : atL (trimL m) (i : Int) = (trimL m)[i] := atL_in (List.getElem?_eq_getElem (by omega))
    rw [atL_trim hl] at e1
    rw [atL_trim hm] at e2
    rw [List.getElem?_eq_getElem g, List.getElem?_eq_getElem (show i < (trimL m).length by omega), ← e1, ← e2, h i]
  · rw [List.getElem?_eq_none (by omega), List.getElem?_eq_none (by omega)]

/-! ### What a term put together is -/
theorem putT_ok {h : How} (hh : HowOk h) {l m : List (Int × Int)} {kx ky : Int × Int} (hl : AllOk l) (hm : AllOk m) (hx : OkR kx) (hy : OkR ky) (h8 : l.length ≤ 8) (h8' : m.length ≤ 8) (he : (putT h l m kx ky).2.2 = 0) :
    (h kx ky).2 = 0 ∧ combOk h l m (max l.length m.length) ∧ putT h l m kx ky = (trimL (combL h l m), (h kx ky).1, 0) ∧ AllOk (combL h l m) ∧ (combL h l m).length ≤ 8 ∧ OkR (h kx ky).1 := by
  unfold putT at *
  split at he
  · rename_i g
    rw [if_pos g]
    exact ⟨g.1, g.2, rfl, combL_ok hh hl hm g.2, by rw [combL_len]; omega, hh.ok _ _ hx hy g.1⟩
  · cases he
theorem putT_mk {h : How} {l m : List (Int × Int)} {kx ky kz : Int × Int} (hk : h kx ky = (kz, 0)) (hc : combOk h l m (max l.length m.length)) : putT h l m kx ky = (trimL (combL h l m), kz, 0) := by
  unfold putT
  rw [if_pos ⟨by rw [hk], hc⟩, hk]

/-! ### Boxes of terms in a law's walk -/
structure TB where
  b : Nat
  v : Value
  kn : Int
  kd : Int
  l : List (Int × Int)
structure LiveT (w wr : World) (xs : List TB) : Prop where
  below : Below w.heap.size w wr
  all : ∀ x, x ∈ xs → FracBox wr x.b x.v (.int .i64 x.kn) (.int .i64 x.kd) ∧ RatsAt wr x.v x.l

section
variable {w wr w2 : World} {xs : List TB}
theorem LiveT.start (w : World) : LiveT w w [] := ⟨Below.refl _ _, fun x hx => by cases hx⟩
theorem LiveT.call (h : LiveT w wr xs) (hb : Below wr.heap.size wr w2) : LiveT w w2 xs :=
  ⟨h.below.trans (hb.mono h.below.size), fun x hx => ⟨(h.all x hx).1.keep hb, (h.all x hx).2.below hb⟩⟩
theorem LiveT.box (h : LiveT w wr xs) {v : Value} {l : List (Int × Int)} (hr : RatsAt wr v l) (kn kd : Int) (ty : TypeId) : LiveT w (wr.alloc (.cells #[v, .int .i64 kn, .int .i64 kd] ty)) (⟨wr.heap.size, v, kn, kd, l⟩ :: xs) := by
  have a := below_alloc1 wr (.cells #[v, .int .i64 kn, .int .i64 kd] ty)
  refine ⟨(h.call a).below, fun x hx => ?_⟩
  rcases List.mem_cons.1 hx with rfl | hx
  · exact ⟨FracBox.start wr v (.int .i64 kn) (.int .i64 kd) ty, hr.below a⟩
  · exact (h.call a).all x hx
theorem LiveT.f (h : LiveT w wr xs) (i : Nat) {x : TB} (hi : xs[i]? = some x) : FracBox wr x.b x.v (.int .i64 x.kn) (.int .i64 x.kd) := (h.all x (List.mem_of_getElem? hi)).1
theorem LiveT.r (h : LiveT w wr xs) (i : Nat) {x : TB} (hi : xs[i]? = some x) : RatsAt wr x.v x.l := (h.all x (List.mem_of_getElem? hi)).2
end
end Go.Proofs.Ytkinbbhbencipaa

namespace Go.Proofs.Ytkinbbhbencipaa
open Go.RowKit

theorem termput_pair {w w1 : World} {l : List (Int × Int)} {kn kd : Int} {E : Int} {e : Ending} (h : TermPut w l (kn, kd) E e w1) :
    ∃ A c, e = .returned (.tuple #[.agg #[.slice A l.length c, .int .i64 kn, .int .i64 kd], .int .i64 E]) ∧ RatsAt w1 (.slice A l.length c) l ∧ Below w.heap.size w w1 := by
  obtain ⟨A, c, he, hr, hb, _⟩ := termput_parts h
  exact ⟨A, c, he, hr, hb⟩

theorem termput_none {w w1 : World} {kn kd : Int} {E : Int} {e : Ending} (h : TermPut w [] (kn, kd) E e w1) :
    ∃ A c, e = .returned (.tuple #[.agg #[.slice A 0 c, .int .i64 kn, .int .i64 kd], .int .i64 E]) ∧ RatsAt w1 (.slice A 0 c) [] ∧ Below w.heap.size w w1 := termput_pair h

theorem atL_none (k : Nat) : atL [] k = (0, 1) := atL_out (.inr (by simp))
theorem allOk_none : AllOk [] := fun x hx => by cases hx

/-- Nothing more. -/
theorem put_nothing {l : List (Int × Int)} {kx : Int × Int} (hl : AllOk l) (hx : OkR kx) : putT addH l [] kx (0, 1) = (trimL l, kx, 0) := by
  rw [putT_mk (addH_nought hx) (fun i _ => by rw [atL_none, addH_nought (hl.at i)])]
  have hc : combOk addH l [] (max l.length ([] : List (Int × Int)).length) := fun i _ => by rw [atL_none, addH_nought (hl.at i)]
  rw [trim_ext (combL_ok addH_ok hl allOk_none hc) hl fun k => ?_]
  rw [combL_at, atL_none, addH_nought (hl.at k)]
  split
  · rfl
  · rename_i g
    exact (atL_out (.inr (by simp at g; omega))).symm
/-- Once. -/
theorem put_once {l : List (Int × Int)} {kx : Int × Int} (hl : AllOk l) (hx : OkR kx) : putT (scaleH (1, 1)) l [] kx (0, 1) = (trimL l, kx, 0) := by
  have hc : combOk (scaleH (1, 1)) l [] (max l.length ([] : List (Int × Int)).length) := fun i _ => by unfold scaleH; rw [mulH_one (hl.at i)]
  rw [putT_mk (show scaleH (1, 1) kx (0, 1) = (kx, 0) from mulH_one hx) hc]
  rw [trim_ext (combL_ok (scaleH_ok okR_one) hl allOk_none hc) hl fun k => ?_]
  rw [combL_at]
  unfold scaleH
  rw [mulH_one (hl.at k)]
  split
  · rfl
  · rename_i g
    exact (atL_out (.inr (by simp at g; omega))).symm
/-- Less than nothing so many times. -/
theorem put_less {l : List (Int × Int)} {kn kd : Int} (hl : AllOk l) (hx : OkR (kn, kd)) (h8 : l.length ≤ 8) : ∃ m, putT (scaleH (-1, 1)) l [] (kn, kd) (0, 1) = (m, (-kn, kd), 0) ∧ AllOk m ∧ m.length ≤ 8 ∧ ∀ k : Nat, atL m k = (-(atL l k).1, (atL l k).2) := by
  have hc : combOk (scaleH (-1, 1)) l [] (max l.length ([] : List (Int × Int)).length) := fun i _ => by unfold scaleH; rw [mulH_less (hl.at i)]
  have ha := combL_ok (scaleH_ok okR_less) hl allOk_none hc
  refine ⟨_, putT_mk (show scaleH (-1, 1) (kn, kd) (0, 1) = ((-kn, kd), 0) from mulH_less hx) hc, ha.trim, ?_, fun k => ?_⟩
  · have := trimL_len (combL (scaleH (-1, 1)) l [])
    rw [combL_len] at this
    simp at this
    omega
  · rw [atL_trim ha, combL_at]
    unfold scaleH
    rw [mulH_less (hl.at k)]
    split
    · rfl
    · rename_i g
      rw [atL_out (l := l) (.inr (by simp at g; omega))]
      rfl
/-- A term less itself. -/
theorem put_gone {l m : List (Int × Int)} {kn kd : Int} (hl : AllOk l) (hm : AllOk m) (hx : OkR (kn, kd)) (h : ∀ k : Nat, atL m k = (-(atL l k).1, (atL l k).2)) : putT addH l m (kn, kd) (-kn, kd) = ([], (0, 1), 0) := by
  have hc : combOk addH l m (max l.length m.length) := fun i _ => by rw [h i, addH_neg (hl.at i)]
  rw [putT_mk (show addH (kn, kd) (-kn, kd) = ((0, 1), 0) from addH_neg hx) hc]
  rw [trim_ext (combL_ok addH_ok hl hm hc) allOk_none fun k => ?_]
  · rfl
  · rw [combL_at, h k, addH_neg (hl.at k), atL_none]
    split <;> rfl



end Go.Proofs.Ytkinbbhbencipaa

namespace Go.Proofs.Ytkinbbhbencipaa
open Go.RowKit

abbrev Bd (x : Int × Int) : Prop := (-9223372036854775808 ≤ x.1 ∧ x.1 ≤ 9223372036854775807) ∧ (-9223372036854775808 ≤ x.2 ∧ x.2 ≤ 9223372036854775807)

/-- What Add answers, whatever the terms. -/
def sumT (l m : List (Int × Int)) (kx ky : Int × Int) : List (Int × Int) × (Int × Int) × Int :=
  if rightT l kx.1 kx.2 = true ∧ rightT m ky.1 ky.2 = true then putT addH l m kx ky else ([], (0, 0), 2)
/-- What Scale answers. -/
def timesT (l : List (Int × Int)) (kx kb : Int × Int) : List (Int × Int) × (Int × Int) × Int :=
  if rightT l kx.1 kx.2 = true ∧ rightB kb.1 kb.2 = true then putT (scaleH kb) l [] kx (0, 1) else ([], (0, 0), 2)

theorem bd_nought : Bd (0, 0) := by decide
theorem putT_wide {h : How} (hh : HowOk h) {l m : List (Int × Int)} {kx ky : Int × Int} (hl : AllOk l) (hm : AllOk m) (hx : OkR kx) (hy : OkR ky) : Wide (putT h l m kx ky).1 ∧ Bd (putT h l m kx ky).2.1 := by
  unfold putT
  split
  · rename_i g
    exact ⟨(combL_ok hh hl hm g.2).trim.wide, (hh.ok _ _ hx hy g.1).wide⟩
  · exact ⟨fun x hx => (by cases hx), bd_nought⟩

theorem sumT_wide {l m : List (Int × Int)} {kx ky : Int × Int} (hl : Wide l) (hm : Wide m) (hx : Bd kx) (hy : Bd ky) : Wide (sumT l m kx ky).1 ∧ Bd (sumT l m kx ky).2.1 := by
  unfold sumT
  split
  · rename_i g
    obtain ⟨_, a, b⟩ := right_parts g.1 hl hx.1.1 hx.1.2 hx.2.1 hx.2.2
    obtain ⟨_, c, d⟩ := right_parts g.2 hm hy.1.1 hy.1.2 hy.2.1 hy.2.2
    exact putT_wide addH_ok a c b d
  · exact ⟨fun x hx => (by cases hx), bd_nought⟩
theorem timesT_wide {l : List (Int × Int)} {kx kb : Int × Int} (hl : Wide l) (hx : Bd kx) (hb : Bd kb) : Wide (timesT l kx kb).1 ∧ Bd (timesT l kx kb).2.1 := by
  unfold timesT
  split
  · rename_i g
    obtain ⟨_, a, b⟩ := right_parts g.1 hl hx.1.1 hx.1.2 hx.2.1 hx.2.2
    exact putT_wide (scaleH_ok (okR_of g.2 hb)) a allOk_none b okR_nought
  · exact ⟨fun x hx => (by cases hx), bd_nought⟩

theorem tadd_any (w : World) (va vb : Value) (l m : List (Int × Int)) (kx ky : Int × Int) (ha : RatsAt w va l) (hb : RatsAt w vb m) (hl : Wide l) (hm : Wide m) (hx : Bd kx) (hy : Bd ky) :
    Calls Try.prog 47 #[.agg #[va, .int .i64 kx.1, .int .i64 kx.2], .agg #[vb, .int .i64 ky.1, .int .i64 ky.2]] w (TermPut w (sumT l m kx ky).1 (sumT l m kx ky).2.1 (sumT l m kx ky).2.2) := by
  unfold sumT
  split
  · rename_i g
    obtain ⟨p, a, b⟩ := right_parts g.1 hl hx.1.1 hx.1.2 hx.2.1 hx.2.2
    obtain ⟨q, c, d⟩ := right_parts g.2 hm hy.1.1 hy.1.2 hy.2.1 hy.2.2
    exact tadd_right w va vb l m kx ky ha hb a c b d p q
  · rename_i g
    refine tadd_wrong w va vb l m kx.1 kx.2 ky.1 ky.2 ha hb hl hm hx.1.1 hx.1.2 hx.2.1 hx.2.2 hy.1.1 hy.1.2 hy.2.1 hy.2.2 ?_
    cases a : rightT l kx.1 kx.2
    · exact .inl rfl
    · cases b : rightT m ky.1 ky.2
      · exact .inr ⟨rfl, rfl⟩
      · exact absurd ⟨a, b⟩ g
theorem tscale_any (w : World) (va : Value) (l : List (Int × Int)) (kx kb : Int × Int) (ha : RatsAt w va l) (hl : Wide l) (hx : Bd kx) (hb : Bd kb) :
    Calls Try.prog 25 #[.agg #[va, .int .i64 kx.1, .int .i64 kx.2], ratV kb.1 kb.2] w (TermPut w (timesT l kx kb).1 (timesT l kx kb).2.1 (timesT l kx kb).2.2) := by
  unfold timesT
  split
  · rename_i g
    obtain ⟨p, a, b⟩ := right_parts g.1 hl hx.1.1 hx.1.2 hx.2.1 hx.2.2
    exact tscale_right w va l kx kb ha a b (okR_of g.2 hb) p
  · rename_i g
    refine tscale_wrong w va l kx.1 kx.2 kb.1 kb.2 ha hl hx.1.1 hx.1.2 hx.2.1 hx.2.2 hb.1.1 hb.1.2 hb.2.1 hb.2.2 ?_
    cases a : rightT l kx.1 kx.2
    · exact .inl rfl
    · cases b : rightB kb.1 kb.2
      · exact .inr ⟨rfl, rfl⟩
      · exact absurd ⟨a, b⟩ g

theorem sumT_comm (l m : List (Int × Int)) (kx ky : Int × Int) : sumT l m kx ky = sumT m l ky kx := by
  have e : putT addH l m kx ky = putT addH m l ky kx := by
    have c : combL addH l m = combL addH m l := by
      unfold combL
      rw [Nat.max_comm]
      exact List.map_congr_left fun i _ => by rw [addH_comm]
    have d : combOk addH l m (max l.length m.length) = combOk addH m l (max m.length l.length) := by
      unfold combOk
      rw [Nat.max_comm]
      exact propext ⟨fun h i hi => by rw [addH_comm]; exact h i hi, fun h i hi => by rw [addH_comm]; exact h i hi⟩
    unfold putT
    rw [c, addH_comm kx ky]
    simp only [d]
  unfold sumT
  rw [e]
  by_cases g : rightT l kx.1 kx.2 = true ∧ rightT m ky.1 ky.2 = true
  · rw [if_pos g, if_pos ⟨g.2, g.1⟩]
  · rw [if_neg g, if_neg (fun q => g ⟨q.2, q.1⟩)]

/-- .. where all went well, variable by variable. -/
structure Put (h : How) (l m : List (Int × Int)) (kx ky : Int × Int) (L : List (Int × Int)) (k : Int × Int) : Prop where
  ok : AllOk L
  len : L.length ≤ 8
  own : trimL L = L
  okk : OkR k
  k : (h kx ky).2 = 0 ∧ k = (h kx ky).1
  at_ : ∀ i : Nat, (h (atL l i) (atL m i)).2 = 0 ∧ atL L i = (h (atL l i) (atL m i)).1

theorem put_of {h : How} (hh : HowOk h) (h0 : h (0, 1) (0, 1) = ((0, 1), 0)) {l m : List (Int × Int)} {kx ky : Int × Int} (hl : AllOk l) (hm : AllOk m) (hx : OkR kx) (hy : OkR ky) (h8 : l.length ≤ 8) (h8' : m.length ≤ 8) (he : (putT h l m kx ky).2.2 = 0) :
    Put h l m kx ky (putT h l m kx ky).1 (putT h l m kx ky).2.1 := by
  obtain ⟨a, b, c, d, e, f⟩ := putT_ok hh hl hm hx hy h8 h8' he
  rw [c]
  refine ⟨d.trim, Nat.le_trans (trimL_len _) e, trimL_twice _, f, ⟨a, rfl⟩, fun i => ?_⟩
  rw [atL_trim d, combL_at]
  by_cases g : i < max l.length m.length
  · rw [if_pos g]
    exact ⟨b i g, rfl⟩
  · rw [if_neg g, atL_out (l := l) (.inr (by omega)), atL_out (l := m) (.inr (by omega)), h0]
    exact ⟨rfl, rfl⟩

theorem addH_00 : addH (0, 1) (0, 1) = ((0, 1), 0) := addH_nought okR_nought
theorem mulH_0 {k : Int × Int} (hk : OkR k) : mulH (0, 1) k = ((0, 1), 0) := mulH_of okR_nought hk okR_nought (by show 0 * (1 * k.2) = 0 * k.1 * 1; grind)

theorem sum_put {l m : List (Int × Int)} {kx ky : Int × Int} (hl : Wide l) (hm : Wide m) (hx : Bd kx) (hy : Bd ky) (he : (sumT l m kx ky).2.2 = 0) : AllOk l ∧ AllOk m ∧ OkR kx ∧ OkR ky ∧ l.length ≤ 8 ∧ m.length ≤ 8 ∧ Put addH l m kx ky (sumT l m kx ky).1 (sumT l m kx ky).2.1 := by
  by_cases g : rightT l kx.1 kx.2 = true ∧ rightT m ky.1 ky.2 = true
  · obtain ⟨p, a, b⟩ := right_parts g.1 hl hx.1.1 hx.1.2 hx.2.1 hx.2.2
    obtain ⟨q, c, d⟩ := right_parts g.2 hm hy.1.1 hy.1.2 hy.2.1 hy.2.2
    have e : sumT l m kx ky = putT addH l m kx ky := if_pos g
    rw [e] at he ⊢
    exact ⟨a, c, b, d, p, q, put_of addH_ok addH_00 a c b d p q he⟩
  · unfold sumT at he
    rw [if_neg g] at he
    cases he
theorem times_put {l : List (Int × Int)} {kx kb : Int × Int} (hl : Wide l) (hx : Bd kx) (hb : Bd kb) (he : (timesT l kx kb).2.2 = 0) : AllOk l ∧ OkR kx ∧ OkR kb ∧ l.length ≤ 8 ∧ Put (scaleH kb) l [] kx (0, 1) (timesT l kx kb).1 (timesT l kx kb).2.1 := by
  by_cases g : rightT l kx.1 kx.2 = true ∧ rightB kb.1 kb.2 = true
  · obtain ⟨p, a, b⟩ := right_parts g.1 hl hx.1.1 hx.1.2 hx.2.1 hx.2.2
    have c := okR_of g.2 hb
    have e : timesT l kx kb = putT (scaleH kb) l [] kx (0, 1) := if_pos g
    rw [e] at he ⊢
    exact ⟨a, b, c, p, put_of (scaleH_ok c) (mulH_0 c) a allOk_none b okR_nought p (by simp) he⟩
  · unfold timesT at he
    rw [if_neg g] at he
    cases he

theorem distr (a1 a2 c1 c2 b1 b2 s1 s2 x1 x2 y1 y2 z1 z2 w1 w2 : Int) (h1 : s1 * (a2 * c2) = (a1 * c2 + c1 * a2) * s2) (h2 : x1 * (s2 * b2) = s1 * b1 * x2) (h3 : y1 * (a2 * b2) = a1 * b1 * y2) (h4 : z1 * (c2 * b2) = c1 * b1 * z2)
    (h5 : w1 * (y2 * z2) = (y1 * z2 + z1 * y2) * w2) : x1 * w2 * (a2 * c2 * b2 * s2 * y2 * z2) = w1 * x2 * (a2 * c2 * b2 * s2 * y2 * z2) := by
  have e1 : x1 * w2 * (a2 * c2 * b2 * s2 * y2 * z2) = (x1 * (s2 * b2)) * (a2 * c2) * (y2 * z2) * w2 := by grind
  have e2 : w1 * x2 * (a2 * c2 * b2 * s2 * y2 * z2) = (w1 * (y2 * z2)) * (a2 * c2 * b2 * s2) * x2 := by grind
  have e3 : (y1 * z2 + z1 * y2) * (a2 * b2 * (c2 * b2)) = (y1 * (a2 * b2)) * z2 * (c2 * b2) + (z1 * (c2 * b2)) * y2 * (a2 * b2) := by grind
  grind

theorem OkR.same {x w : Int × Int} (hx : OkR x) (hw : OkR w) {D : Int} (hD : 0 < D) (h : x.1 * w.2 * D = w.1 * x.2 * D) : x = w :=
  hx.ext hw (Int.eq_of_mul_eq_mul_right (by omega) h)

theorem distr_ok {a c b s x y z w : Int × Int} (ha : OkR a) (hc : OkR c) (hb : OkR b) (e1 : (addH a c).2 = 0) (hs : s = (addH a c).1) (e2 : (mulH s b).2 = 0) (hx : x = (mulH s b).1) (e3 : (mulH a b).2 = 0) (hy : y = (mulH a b).1) (e4 : (mulH c b).2 = 0) (hz : z = (mulH c b).1)
    (e5 : (addH y z).2 = 0) (hw : w = (addH y z).1) : x = w := by
  obtain ⟨os, f1⟩ := addH_eq ha hc e1
  rw [← hs] at os f1
  obtain ⟨ox, f2⟩ := mulH_eq os hb e2
  rw [← hx] at ox f2
  obtain ⟨oy, f3⟩ := mulH_eq ha hb e3
  rw [← hy] at oy f3
  obtain ⟨oz, f4⟩ := mulH_eq hc hb e4
  rw [← hz] at oz f4
  obtain ⟨ow, f5⟩ := addH_eq oy oz e5
  rw [← hw] at ow f5
  exact ox.same ow (Int.mul_pos (Int.mul_pos (Int.mul_pos (Int.mul_pos (Int.mul_pos ha.den hc.den) hb.den) os.den) oy.den) oz.den) (distr _ _ _ _ _ _ _ _ _ _ _ _ _ _ _ _ f1 f2 f3 f4 f5)

/-- A sum so many times is the sum of both so many times, where nothing runs over. -/
theorem turned {l m : List (Int × Int)} {kx ky kb : Int × Int} (hl : Wide l) (hm : Wide m) (hx : Bd kx) (hy : Bd ky) (hb : Bd kb) (e1 : (sumT l m kx ky).2.2 = 0) (e2 : (timesT (sumT l m kx ky).1 (sumT l m kx ky).2.1 kb).2.2 = 0) (e3 : (timesT l kx kb).2.2 = 0) (e4 : (timesT m ky kb).2.2 = 0)
    (e5 : (sumT (timesT l kx kb).1 (timesT m ky kb).1 (timesT l kx kb).2.1 (timesT m ky kb).2.1).2.2 = 0) :
    let X := timesT (sumT l m kx ky).1 (sumT l m kx ky).2.1 kb
    let W := sumT (timesT l kx kb).1 (timesT m ky kb).1 (timesT l kx kb).2.1 (timesT m ky kb).2.1
    X.1 = W.1 ∧ X.2.1 = W.2.1 ∧ rightT X.1 X.2.1.1 X.2.1.2 = true ∧ rightT W.1 W.2.1.1 W.2.1.2 = true := by
  intro X W
  obtain ⟨sw, sb⟩ := sumT_wide hl hm hx hy
  obtain ⟨yw, yb⟩ := timesT_wide hl hx hb
  obtain ⟨zw, zb⟩ := timesT_wide hm hy hb
  obtain ⟨al, am, ox, oy, l8, m8, P1⟩ := sum_put hl hm hx hy e1
  obtain ⟨_, _, ob, _, P2⟩ := times_put sw sb hb e2
  obtain ⟨_, _, _, _, P3⟩ := times_put hl hx hb e3
  obtain ⟨_, _, _, _, P4⟩ := times_put hm hy hb e4
  obtain ⟨_, _, _, _, _, _, P5⟩ := sum_put yw zw yb zb e5
  refine ⟨?_, distr_ok ox oy ob P1.k.1 P1.k.2 P2.k.1 P2.k.2 P3.k.1 P3.k.2 P4.k.1 P4.k.2 P5.k.1 P5.k.2, right_mk P2.len P2.ok P2.okk, right_mk P5.len P5.ok P5.okk⟩
  rw [← P2.own, ← P5.own]
  exact trim_ext P2.ok P5.ok fun i => distr_ok (al.at i) (am.at i) ob (P1.at_ i).1 (P1.at_ i).2 (P2.at_ i).1 (P2.at_ i).2 (P3.at_ i).1 (P3.at_ i).2 (P4.at_ i).1 (P4.at_ i).2 (P5.at_ i).1 (P5.at_ i).2
end Go.Proofs.Ytkinbbhbencipaa
