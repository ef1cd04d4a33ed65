/-
  Plain: what terms put together come to; term boxes in a law's walk. (Template: by-name.py fills it.)
-/
import Derived.Test.YtkgndeiddjkhmaaDoorTermS
namespace Go.Proofs.YtkgndeiddjkhmaaDoor
open Go.RowKit

theorem resT_of {P : Int} {Q : Nat} {y : Int × Int} (hQ : 0 < Q) (hy : OkR y) (h : y.1 * (Q : Int) = P * y.2) : resT P Q = (y, 0) := by
  obtain ⟨d, e, v⟩ := hy
  obtain ⟨a, b, c⟩ := res_of (P := P) hQ v (by rw [h, e])
  unfold resT
  rw [a, b, c]
  exact Prod.ext (Prod.ext rfl e.symm) rfl
theorem resT_eq {P : Int} {Q : Nat} (hQ : 0 < Q) (h : (resT P Q).2 = 0) : OkR (resT P Q).1 ∧ (resT P Q).1.1 * (Q : Int) = P * (resT P Q).1.2 := by
  obtain ⟨d, h1, h2, h3⟩ := res_ok hQ h
  refine ⟨⟨d, h1, h2⟩, ?_⟩
  show resN P Q * (Q : Int) = P * resD P Q
  rw [h1]
  exact h3
theorem OkR.ext {x y : Int × Int} (hx : OkR x) (hy : OkR y) (h : x.1 * y.2 = y.1 * x.2) : x = y := by
  obtain ⟨d, e, v⟩ := hx
  obtain ⟨d', e', v'⟩ := hy
  rw [e, e'] at h
  obtain ⟨a, b⟩ := v.unique v' h
  exact Prod.ext a (by rw [e, e', b])
theorem OkR.zero {x : Int × Int} (hx : OkR x) (h : x.1 = 0) : x = (0, 1) := hx.ext okR_nought (by rw [h]; simp)
theorem OkR.neg {x : Int × Int} (hx : OkR x) : OkR (-x.1, x.2) := by
  obtain ⟨d, e, v⟩ := hx
  exact ⟨d, e, ⟨v.pos, v.d_le, by show (-x.1).natAbs ≤ _; rw [Int.natAbs_neg]; exact v.n_le, by show Nat.gcd (-x.1).natAbs d = 1; rw [Int.natAbs_neg]; exact v.low⟩⟩
theorem OkR.den {x : Int × Int} (hx : OkR x) : 0 < x.2 := by
  have := hx.pos
  omega
theorem okR_one : OkR (1, 1) := ⟨1, rfl, by decide, by decide, by decide, by decide⟩
theorem okR_less : OkR (-1, 1) := ⟨1, rfl, by decide, by decide, by decide, by decide⟩

theorem addH_eq {x y : Int × Int} (hx : OkR x) (hy : OkR y) (h : (addH x y).2 = 0) : OkR (addH x y).1 ∧ (addH x y).1.1 * (x.2 * y.2) = (x.1 * y.2 + y.1 * x.2) * (addH x y).1.2 := by
  have := resT_eq (Nat.mul_pos hx.pos hy.pos) h
  rw [Int.natCast_mul, ← hx.eta.1, ← hy.eta.1] at this
  exact this
theorem mulH_eq {x y : Int × Int} (hx : OkR x) (hy : OkR y) (h : (mulH x y).2 = 0) : OkR (mulH x y).1 ∧ (mulH x y).1.1 * (x.2 * y.2) = x.1 * y.1 * (mulH x y).1.2 := by
  have := resT_eq (Nat.mul_pos hx.pos hy.pos) h
  rw [Int.natCast_mul, ← hx.eta.1, ← hy.eta.1] at this
  exact this
theorem addH_of {x y z : Int × Int} (hx : OkR x) (hy : OkR y) (hz : OkR z) (h : z.1 * (x.2 * y.2) = (x.1 * y.2 + y.1 * x.2) * z.2) : addH x y = (z, 0) :=
  resT_of (Nat.mul_pos hx.pos hy.pos) hz (by rw [Int.natCast_mul, ← hx.eta.1, ← hy.eta.1]; exact h)
theorem mulH_of {x y z : Int × Int} (hx : OkR x) (hy : OkR y) (hz : OkR z) (h : z.1 * (x.2 * y.2) = x.1 * y.1 * z.2) : mulH x y = (z, 0) :=
  resT_of (Nat.mul_pos hx.pos hy.pos) hz (by rw [Int.natCast_mul, ← hx.eta.1, ← hy.eta.1]; exact h)
theorem addH_nought {x : Int × Int} (hx : OkR x) : addH x (0, 1) = (x, 0) := addH_of hx okR_nought hx (by show x.1 * (x.2 * 1) = (x.1 * 1 + 0 * x.2) * x.2; grind)
theorem nought_addH {x : Int × Int} (hx : OkR x) : addH (0, 1) x = (x, 0) := addH_of okR_nought hx hx (by show x.1 * (1 * x.2) = (0 * x.2 + x.1 * 1) * x.2; grind)
theorem mulH_one {x : Int × Int} (hx : OkR x) : mulH x (1, 1) = (x, 0) := mulH_of hx okR_one hx (by show x.1 * (x.2 * 1) = x.1 * 1 * x.2; grind)
theorem mulH_less {x : Int × Int} (hx : OkR x) : mulH x (-1, 1) = ((-x.1, x.2), 0) := mulH_of hx okR_less hx.neg (by show -x.1 * (x.2 * 1) = x.1 * (-1) * x.2; grind)
theorem addH_neg {x : Int × Int} (hx : OkR x) : addH x (-x.1, x.2) = ((0, 1), 0) := addH_of hx hx.neg okR_nought (by show 0 * (x.2 * x.2) = (x.1 * x.2 + -x.1 * x.2) * 1; grind)
theorem addH_comm (x y : Int × Int) : addH x y = addH y x := by
  unfold addH
  rw [Int.add_comm, Nat.mul_comm]

/-! ### Rows by their variables -/
theorem atL_trim {l : List (Int × Int)} (h : AllOk l) (i : Int) : atL (trimL l) i = atL l i := by
  have key : ∀ (n : Nat) (a : List (Int × Int)), a.length = n → AllOk a → atL (trimL a) i = atL a i := by
    intro n
    induction n with
    | zero =>
      intro a ha _
      obtain rfl := List.eq_nil_of_length_eq_zero ha
      rfl
    | succ n ih =>
      intro a ha hok
      have hne : a ≠ [] := by intro e; rw [e] at ha; cases ha
      obtain ⟨b, x, rfl⟩ : ∃ b x, a = b ++ [x] := ⟨a.dropLast, a.getLast hne, (List.dropLast_concat_getLast hne).symm⟩
      rw [trimL_snoc]
      split
      · rename_i hz
        have hx : x = (0, 1) := (hok x (by simp)).zero hz
        rw [ih b (by simpa using ha) (fun y hy => hok y (by simp [hy]))]
        unfold atL
        split
        · by_cases g : i.toNat < b.length
          · rw [List.getElem?_append_left g]
          · rw [List.getElem?_eq_none (by omega)]
            by_cases g2 : i.toNat = b.length
            · rw [g2, List.getElem?_append_right (Nat.le_refl _)]
              simp [hx]
            · rw [List.getElem?_eq_none (by simp; omega)]
        · rfl
      · rfl
  exact key l.length l rfl h

theorem combL_at (h : How) (l m : List (Int × Int)) (k : Nat) : atL (combL h l m) k = if k < max l.length m.length then (h (atL l k) (atL m k)).1 else (0, 1) := by
  unfold atL combL
  rw [if_pos (by omega), Int.toNat_natCast, List.getElem?_map]
  split
  · rename_i g
    rw [List.getElem?_range g]
    unfold atL
    rfl
  · rename_i g
    rw [List.getElem?_eq_none (by simpa using g)]
    rfl

/-- Rows are the same in their own forms if they have the same variables. -/
theorem trim_ext {l m : List (Int × Int)} (hl : AllOk l) (hm : AllOk m) (h : ∀ k : Nat, atL l k = atL m k) : trimL l = trimL m := by
  have hlen : (trimL l).length = (trimL m).length := by
    have half : ∀ (a b : List (Int × Int)), AllOk a → AllOk b → (∀ k : Nat, atL a k = atL b k) → (trimL a).length ≤ (trimL b).length := by
      intro a b ha hb hk
      rcases Nat.lt_or_ge (trimL b).length (trimL a).length with g | g
      · exfalso
        obtain ⟨x, hx⟩ : ∃ x, (trimL a)[(trimL a).length - 1]? = some x := ⟨_, List.getElem?_eq_getElem (by omega)⟩
        have hne := trimL_last a x hx (by omega)
        have e1 : atL (trimL a) (((trimL a).length - 1 : Nat) : Int) = x := atL_in hx
        have e2 : atL (trimL b) (((trimL a).length - 1 : Nat) : Int) = (0, 1) := atL_out (.inr (by omega))
        rw [atL_trim ha] at e1
        rw [atL_trim hb, ← hk, e1] at e2
        rw [e2] at hne
        exact hne rfl
      · exact g
    exact Nat.le_antisymm (half l m hl hm h) (half m l hm hl fun k => (h k).symm)
  apply List.ext_getElem?
  intro i
  by_cases g : i < (trimL l).length
  · have e1 : atL (trimL l) (i : Int) = (trimL l)[i] := atL_in (List.getElem?_eq_getElem g)
    have e2 : atL (trimL m) (i : Int) = (trimL m)[i] := atL_in (List.getElem?_eq_getElem (by omega))
    rw [atL_trim hl] at e1
    rw [atL_trim hm] at e2
    rw [List.getElem?_eq_getElem g, List.getElem?_eq_getElem (show i < (trimL m).length by omega), ← e1, ← e2, h i]
  · rw [List.getElem?_eq_none (by omega), List.getElem?_eq_none (by omega)]

/-! ### What a term put together is -/
theorem putT_ok {h : How} (hh : HowOk h) {l m : List (Int × Int)} {kx ky : Int × Int} (hl : AllOk l) (hm : AllOk m) (hx : OkR kx) (hy : OkR ky) (h8 : l.length ≤ 8) (h8' : m.length ≤ 8) (he : (putT h l m kx ky).2.2 = 0) :
    (h kx ky).2 = 0 ∧ combOk h l m (max l.length m.length) ∧ putT h l m kx ky = (trimL (combL h l m), (h kx ky).1, 0) ∧ AllOk (combL h l m) ∧ (combL h l m).length ≤ 8 ∧ OkR (h kx ky).1 := by
  unfold putT at *
  split at he
  · rename_i g
    rw [if_pos g]
    exact ⟨g.1, g.2, rfl, combL_ok hh hl hm g.2, by rw [combL_len]; omega, hh.ok _ _ hx hy g.1⟩
  · cases he
theorem putT_mk {h : How} {l m : List (Int × Int)} {kx ky kz : Int × Int} (hk : h kx ky = (kz, 0)) (hc : combOk h l m (max l.length m.length)) : putT h l m kx ky = (trimL (combL h l m), kz, 0) := by
  unfold putT
  rw [if_pos ⟨by rw [hk], hc⟩, hk]

/-! ### Boxes of terms in a law's walk -/
structure TB where
  b : Nat
  v : Value
  kn : Int
  kd : Int
  l : List (Int × Int)
structure LiveT (w wr : World) (xs : List TB) : Prop where
  below : Below w.heap.size w wr
  all : ∀ x, x ∈ xs → FracBox wr x.b x.v (.int .i64 x.kn) (.int .i64 x.kd) ∧ RatsAt wr x.v x.l

section
variable {w wr w2 : World} {xs : List TB}
theorem LiveT.start (w : World) : LiveT w w [] := ⟨Below.refl _ _, fun x hx => by cases hx⟩
theorem LiveT.call (h : LiveT w wr xs) (hb : Below wr.heap.size wr w2) : LiveT w w2 xs :=
  ⟨h.below.trans (hb.mono h.below.size), fun x hx => ⟨(h.all x hx).1.keep hb, (h.all x hx).2.below hb⟩⟩
theorem LiveT.box (h : LiveT w wr xs) {v : Value} {l : List (Int × Int)} (hr : RatsAt wr v l) (kn kd : Int) (ty : TypeId) : LiveT w (wr.alloc (.cells #[v, .int .i64 kn, .int .i64 kd] ty)) (⟨wr.heap.size, v, kn, kd, l⟩ :: xs) := by
  have a := below_alloc1 wr (.cells #[v, .int .i64 kn, .int .i64 kd] ty)
  refine ⟨(h.call a).below, fun x hx => ?_⟩
  rcases List.mem_cons.1 hx with rfl | hx
  · exact ⟨FracBox.start wr v (.int .i64 kn) (.int .i64 kd) ty, hr.below a⟩
  · exact (h.call a).all x hx
theorem LiveT.f (h : LiveT w wr xs) (i : Nat) {x : TB} (hi : xs[i]? = some x) : FracBox wr x.b x.v (.int .i64 x.kn) (.int .i64 x.kd) := (h.all x (List.mem_of_getElem? hi)).1
theorem LiveT.r (h : LiveT w wr xs) (i : Nat) {x : TB} (hi : xs[i]? = some x) : RatsAt wr x.v x.l := (h.all x (List.mem_of_getElem? hi)).2
end
end Go.Proofs.YtkgndeiddjkhmaaDoor
