/-
  Plain: two terms put together, variable by variable. (Template: by-name.py fills it.)
-/
import Derived.Test.YtkgndeiddjkhmaaDoorTermL
namespace Go.Proofs.YtkgndeiddjkhmaaDoor
open Go.RowKit

/-- A right fraction. -/
def OkR (x : Int × Int) : Prop := ∃ d : Nat, x.2 = d ∧ Valid x.1 d
def AllOk (l : List (Int × Int)) : Prop := ∀ x, x ∈ l → OkR x

theorem okR_of {x : Int × Int} (h : rightB x.1 x.2 = true) (hx : (-9223372036854775808 ≤ x.1 ∧ x.1 ≤ 9223372036854775807) ∧ (-9223372036854775808 ≤ x.2 ∧ x.2 ≤ 9223372036854775807)) : OkR x :=
  valid_of h hx.1.1 hx.1.2 hx.2.2
theorem OkR.right {x : Int × Int} (h : OkR x) : rightB x.1 x.2 = true := by
  obtain ⟨d, e, v⟩ := h
  rw [e]
  exact v.right
theorem OkR.wide {x : Int × Int} (h : OkR x) : (-9223372036854775808 ≤ x.1 ∧ x.1 ≤ 9223372036854775807) ∧ (-9223372036854775808 ≤ x.2 ∧ x.2 ≤ 9223372036854775807) := by
  obtain ⟨d, e, v⟩ := h
  have := v.pos; have := v.n_le; have := v.d_le
  omega
theorem OkR.pos {x : Int × Int} (h : OkR x) : 0 < x.2.toNat := by
  obtain ⟨d, e, v⟩ := h
  have := v.pos
  omega
theorem OkR.eta {x : Int × Int} (h : OkR x) : x.2 = (x.2.toNat : Int) ∧ Valid x.1 x.2.toNat := by
  obtain ⟨d, e, v⟩ := h
  rw [e]
  exact ⟨rfl, v⟩
theorem okR_nought : OkR (0, 1) := ⟨1, rfl, by decide, by decide, by decide, by decide⟩
theorem allOk_of {l : List (Int × Int)} (h : allR l = true) (hw : Wide l) : AllOk l := fun x hx => okR_of (List.all_eq_true.1 h x hx) (hw x hx)
theorem AllOk.all {l : List (Int × Int)} (h : AllOk l) : allR l = true := List.all_eq_true.2 fun x hx => (h x hx).right
theorem AllOk.wide {l : List (Int × Int)} (h : AllOk l) : Wide l := fun x hx => (h x hx).wide
theorem AllOk.at {l : List (Int × Int)} (h : AllOk l) (i : Int) : OkR (atL l i) := by
  unfold atL
  split
  · cases e : l[i.toNat]? with
    | none => exact okR_nought
    | some x => exact h x (List.mem_of_getElem? e)
  · exact okR_nought
theorem AllOk.trim {l : List (Int × Int)} (h : AllOk l) : AllOk (trimL l) := fun x hx => h x (trimL_sub l x hx)
theorem right_parts {l : List (Int × Int)} {kn kd : Int} (h : rightT l kn kd = true) (hw : Wide l) (h1 : -9223372036854775808 ≤ kn) (h2 : kn ≤ 9223372036854775807) (h3 : -9223372036854775808 ≤ kd) (h4 : kd ≤ 9223372036854775807) : l.length ≤ 8 ∧ AllOk l ∧ OkR (kn, kd) := by
  unfold rightT at h
  simp only [Bool.and_eq_true, decide_eq_true_eq] at h
  exact ⟨h.1.1, allOk_of h.2 hw, okR_of h.1.2 ⟨⟨h1, h2⟩, h3, h4⟩⟩
theorem right_mk {l : List (Int × Int)} {kn kd : Int} (h : l.length ≤ 8) (ha : AllOk l) (hk : OkR (kn, kd)) : rightT l kn kd = true := by
  unfold rightT
  rw [ha.all, decide_eq_true h, hk.right]
  rfl

/-- A result: the fraction, and the error. -/
def resT (P : Int) (Q : Nat) : (Int × Int) × Int := ((resN P Q, resD P Q), resE P Q)
theorem resT_ok {P : Int} {Q : Nat} (hQ : 0 < Q) (h : (resT P Q).2 = 0) : OkR (resT P Q).1 := by
  obtain ⟨d, h1, h2, _⟩ := res_ok hQ h
  exact ⟨d, h1, h2⟩
theorem resT_no {P : Int} {Q : Nat} (h : (resT P Q).2 ≠ 0) : resT P Q = ((0, 0), 3) := by
  obtain ⟨a, b, c⟩ := res_no h
  unfold resT
  rw [a, b, c]

/-- How two fractions are put together. -/
abbrev How := (Int × Int) → (Int × Int) → (Int × Int) × Int
structure HowOk (h : How) : Prop where
  ok : ∀ x y, OkR x → OkR y → (h x y).2 = 0 → OkR (h x y).1
  no : ∀ x y, OkR x → OkR y → (h x y).2 ≠ 0 → h x y = ((0, 0), 3)
def addH : How := fun x y => resT (x.1 * y.2 + y.1 * x.2) (x.2.toNat * y.2.toNat)
def mulH : How := fun x y => resT (x.1 * y.1) (x.2.toNat * y.2.toNat)
def scaleH (k : Int × Int) : How := fun x _ => mulH x k
theorem addH_ok : HowOk addH := ⟨fun _ _ hx hy h => resT_ok (Nat.mul_pos hx.pos hy.pos) h, fun _ _ _ _ h => resT_no h⟩
theorem mulH_ok : HowOk mulH := ⟨fun _ _ hx hy h => resT_ok (Nat.mul_pos hx.pos hy.pos) h, fun _ _ _ _ h => resT_no h⟩
theorem scaleH_ok {k : Int × Int} (hk : OkR k) : HowOk (scaleH k) := ⟨fun x _ hx _ h => mulH_ok.ok x k hx hk h, fun x _ hx _ h => mulH_ok.no x k hx hk h⟩

/-- The first k are done, the others still 0, 0. -/
def rowK (h : How) (l m : List (Int × Int)) (n k : Nat) : List (Int × Int) := (List.range n).map fun i : Nat => if i < k then (h (atL l i) (atL m i)).1 else (0, 0)
def combL (h : How) (l m : List (Int × Int)) : List (Int × Int) := (List.range (max l.length m.length)).map fun i : Nat => (h (atL l i) (atL m i)).1
def combOk (h : How) (l m : List (Int × Int)) (k : Nat) : Prop := ∀ i : Nat, i < k → (h (atL l i) (atL m i)).2 = 0

theorem rowK_len (h : How) (l m : List (Int × Int)) (n k : Nat) : (rowK h l m n k).length = n := by simp [rowK]
theorem combL_len (h : How) (l m : List (Int × Int)) : (combL h l m).length = max l.length m.length := by simp [combL]
theorem rowK_end (h : How) (l m : List (Int × Int)) : rowK h l m (max l.length m.length) (max l.length m.length) = combL h l m := by
  unfold rowK combL
  refine List.map_congr_left fun i hi => ?_
  rw [if_pos (List.mem_range.1 hi)]
theorem rowK_next (h : How) (l m : List (Int × Int)) (n k : Nat) : rowK h l m n (k + 1) = (rowK h l m n k).set k (h (atL l k) (atL m k)).1 := by
  apply List.ext_getElem?
  intro i
  rw [List.getElem?_set]
  simp only [rowK_len]
  by_cases hi : i < n
  · rw [rowK, rowK, List.getElem?_map, List.getElem?_map, List.getElem?_range hi]
    simp only [Option.map_some]
    by_cases e : k = i
    · subst e
      rw [if_pos rfl, if_pos hi, if_pos (by omega)]
    · rw [if_neg e]
      by_cases g : i < k
      · rw [if_pos g, if_pos (by omega)]
      · rw [if_neg g, if_neg (by omega)]
  · rw [List.getElem?_eq_none (by rw [rowK_len]; omega), List.getElem?_eq_none (by rw [rowK_len]; omega)]
    by_cases e : k = i
    · rw [if_pos e, if_neg (by omega)]
    · rw [if_neg e]
theorem ratCells_set : ∀ (l : List (Int × Int)) (k : Nat) (x : Int × Int), ratCells (l.set k x) = ((ratCells l).set (k * 2) (.int .i64 x.1)).set (k * 2 + 1) (.int .i64 x.2)
  | [], k, x => by simp [ratCells]
  | y :: r, 0, x => by simp [ratCells]
  | y :: r, k + 1, x => by
    rw [List.set_cons_succ, ratCells, ratCells, ratCells_set r k x, show (k + 1) * 2 = k * 2 + 1 + 1 by omega, show k * 2 + 1 + 1 + 1 = (k * 2 + 1) + 1 + 1 by omega]
    simp only [List.set_cons_succ]
theorem rowK_start (h : How) (l m : List (Int × Int)) (n : Nat) : (madeCells (.agg #[.int .i64 0, .int .i64 0] : Value).cells (n * 2)).toList = ratCells (rowK h l m n 0) := by
  apply List.ext_getElem?
  intro j
  have hl : (ratCells (rowK h l m n 0)).length = n * 2 := by rw [ratCells_length, rowK_len]
  by_cases hj : j < n * 2
  · have a : (madeCells (.agg #[.int .i64 0, .int .i64 0] : Value).cells (n * 2)).toList[j]? = some (.int .i64 0) := by
      rw [Array.getElem?_toList]
      unfold madeCells
      rw [Array.getElem?_map, Array.getElem?_range, if_pos hj]
      simp only [Option.map_some, Value.cells]
      rcases Nat.mod_two_eq_zero_or_one j with e | e <;> simp [e]
    rw [a]
    have : j < (ratCells (rowK h l m n 0)).length := by omega
    obtain ⟨u, hu⟩ : ∃ u, (ratCells (rowK h l m n 0))[j]? = some u := ⟨_, List.getElem?_eq_getElem this⟩
    rw [hu]
    have key : ∀ (q : List (Int × Int)), (∀ x, x ∈ q → x = (0, 0)) → ∀ (j : Nat) (u : Value), (ratCells q)[j]? = some u → u = Value.int .i64 0 := by
      intro q
      induction q with
      | nil => intro _ j u hu; simp [ratCells] at hu
      | cons y r ih =>
        intro hq j u hu
        obtain rfl := hq y (by simp)
        match j, hu with
        | 0, hu => simpa [ratCells] using hu.symm
        | 1, hu => simpa [ratCells] using hu.symm
        | j + 2, hu => exact ih (fun x hx => hq x (by simp [hx])) j u (by simpa [ratCells] using hu)
    rw [key _ (fun x hx => by
      unfold rowK at hx
      obtain ⟨i, _, rfl⟩ := List.mem_map.1 hx
      rw [if_neg (by omega)]) j u hu]
  · rw [List.getElem?_eq_none (by rw [Array.length_toList, size_madeCells]; omega), List.getElem?_eq_none (by omega)]
theorem combL_ok {h : How} (hh : HowOk h) {l m : List (Int × Int)} (hl : AllOk l) (hm : AllOk m) (hc : combOk h l m (max l.length m.length)) : AllOk (combL h l m) := by
  intro x hx
  unfold combL at hx
  obtain ⟨i, hi, rfl⟩ := List.mem_map.1 hx
  exact hh.ok _ _ (hl.at i) (hm.at i) (hc i (List.mem_range.1 hi))
end Go.Proofs.YtkgndeiddjkhmaaDoor
