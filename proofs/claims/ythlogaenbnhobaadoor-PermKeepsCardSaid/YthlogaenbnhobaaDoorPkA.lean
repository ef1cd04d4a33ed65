/-
  Plain: what is split off a handle, part after part. (Template: by-name.py fills it.)
-/
import Derived.Test.YthlogaenbnhobaaDoorPmD
namespace Go.Proofs.YthlogaenbnhobaaDoor
open Go.RowKit

/-- A part: its kind, its fraction 1 / 2^e, its set. -/
abbrev Pt := Int × Nat × Int
/-- The denominator. -/
def pwI (e : Nat) : Int := ((2 ^ e : Nat) : Int)
def ptCells : List Pt → List Value
  | [] => []
  | x :: r => .int .i64 x.1 :: .int .i64 1 :: .int .i64 (pwI x.2.1) :: .int .i64 (-1) :: .int .u32 x.2.2 :: ptCells r
theorem ptCells_length : ∀ l : List Pt, (ptCells l).length = l.length * 5
  | [] => rfl
  | x :: r => by simp only [ptCells, List.length_cons, ptCells_length r]; omega
theorem ptCells_append : ∀ l m : List Pt, ptCells (l ++ m) = ptCells l ++ ptCells m
  | [], _ => rfl
  | x :: r, m => by rw [List.cons_append, ptCells, ptCells, ptCells_append r m]; rfl
theorem ptCells_at : ∀ (l : List Pt) (k : Nat) (x : Pt), l[k]? = some x → (ptCells l)[k * 5]? = some (.int .i64 x.1) ∧ (ptCells l)[k * 5 + 1]? = some (.int .i64 1) ∧ (ptCells l)[k * 5 + 2]? = some (.int .i64 (pwI x.2.1)) ∧ (ptCells l)[k * 5 + 3]? = some (.int .i64 (-1)) ∧ (ptCells l)[k * 5 + 4]? = some (.int .u32 x.2.2)
  | [], k, x, h => by simp at h
  | y :: r, 0, x, h => by
    obtain rfl : y = x := by simpa using h
    exact ⟨rfl, rfl, rfl, rfl, rfl⟩
  | y :: r, k + 1, x, h => by
    rw [List.getElem?_cons_succ] at h
    obtain ⟨a, b, c, d, e⟩ := ptCells_at r k x h
    exact ⟨by rw [show (k + 1) * 5 = k * 5 + 1 + 1 + 1 + 1 + 1 by omega]; exact a, by rw [show (k + 1) * 5 + 1 = k * 5 + 1 + 1 + 1 + 1 + 1 + 1 by omega]; exact b, by rw [show (k + 1) * 5 + 2 = k * 5 + 2 + 1 + 1 + 1 + 1 + 1 by omega]; exact c, by rw [show (k + 1) * 5 + 3 = k * 5 + 3 + 1 + 1 + 1 + 1 + 1 by omega]; exact d, by rw [show (k + 1) * 5 + 4 = k * 5 + 4 + 1 + 1 + 1 + 1 + 1 by omega]; exact e⟩
theorem ptCells_set : ∀ (l : List Pt) (k : Nat) (x : Pt), k < l.length → ptCells (l.set k x) = (((((ptCells l).set (k * 5) (.int .i64 x.1)).set (k * 5 + 1) (.int .i64 1)).set (k * 5 + 2) (.int .i64 (pwI x.2.1))).set (k * 5 + 3) (.int .i64 (-1))).set (k * 5 + 4) (.int .u32 x.2.2)
  | [], k, x, h => by simp at h
  | y :: r, 0, x, h => rfl
  | y :: r, k + 1, x, h => by
    have := ptCells_set r k x (by simpa using h)
    rw [List.set_cons_succ, ptCells, this]
    rw [show (k + 1) * 5 = k * 5 + 1 + 1 + 1 + 1 + 1 by omega]
    rfl

def setOf (x : Pt) (p : Int) : Int := if givenB x.1 p then 3 else 0
theorem kept_yes (x : Pt) (p : Int) : keptB x.1 p (setOf x p) = true := by
  unfold keptB setOf
  cases givenB x.1 p <;> rfl
/-- What one more split leaves. -/
def stepP (l : List Pt) (a : Nat) (x : Pt) (p : Int) : List Pt :=
  if restK x.1 p = -1 then l else l.set a (restK x.1 p, x.2.1 + 1, keptS x.1 x.2.2 p (setOf x p)) ++ [(p, x.2.1 + 1, keptS x.1 x.2.2 p (setOf x p))]

def wtP : List Pt → Nat
  | [] => 0
  | x :: r => 2 ^ (12 - x.2.1) + wtP r
theorem wtP_append : ∀ l m : List Pt, wtP (l ++ m) = wtP l + wtP m
  | [], m => by simp [wtP]
  | x :: r, m => by rw [List.cons_append, wtP, wtP, wtP_append r m]; omega
theorem wtP_set : ∀ (l : List Pt) (a : Nat) (x y : Pt), l[a]? = some x → wtP (l.set a y) + 2 ^ (12 - x.2.1) = wtP l + 2 ^ (12 - y.2.1)
  | [], a, x, y, h => by simp at h
  | z :: r, 0, x, y, h => by
    obtain rfl : z = x := by simpa using h
    rw [List.set_cons_zero, wtP, wtP]; omega
  | z :: r, a + 1, x, y, h => by
    have := wtP_set r a x y (by simpa using h)
    rw [List.set_cons_succ, wtP, wtP]; omega

/-- Which kinds stand beside each other. -/
def Cfg (l : List Pt) : Prop :=
  (∃ x, l = [x] ∧ x.1 = 0) ∨ ((∀ x ∈ l, x.1 = 1 ∨ x.1 = 4) ∧ l.countP (fun x => x.1 == 1) = 1) ∨ (∀ x ∈ l, x.1 = 2 ∨ x.1 = 4) ∨ (∀ x ∈ l, x.1 = 3)
structure InvP (l : List Pt) (n : Nat) : Prop where
  ne : 0 < l.length
  len : l.length ≤ n + 1
  low : ∀ x ∈ l, x.2.1 ≤ n
  sum : wtP l = 4096
  cfg : Cfg l

theorem InvP.start : InvP [(0, 0, 0)] 0 := ⟨by decide, by decide, by simp, by decide, .inl ⟨_, rfl, rfl⟩⟩

theorem all_set {Q : Pt → Prop} {l : List Pt} {a : Nat} {y z : Pt} (h : ∀ x ∈ l, Q x) (hy : Q y) (hz : Q z) : ∀ x ∈ l.set a y ++ [z], Q x := by
  intro x hx
  rcases List.mem_append.1 hx with g | g
  · rcases List.mem_or_eq_of_mem_set g with g | rfl
    · exact h x g
    · exact hy
  · rw [List.mem_singleton] at g; subst g; exact hz

theorem count_set {l : List Pt} {a : Nat} {x y z : Pt} (h : l[a]? = some x) : (l.set a y ++ [z]).countP (fun x => x.1 == 1) + (if x.1 == 1 then 1 else 0) = l.countP (fun x => x.1 == 1) + (if y.1 == 1 then 1 else 0) + (if z.1 == 1 then 1 else 0) := by
  induction l generalizing a with
  | nil => simp at h
  | cons u r ih =>
    cases a with
    | zero =>
      obtain rfl : u = x := by simpa using h
      simp only [List.set_cons_zero, List.countP_append, List.countP_cons, List.countP_nil]
      omega
    | succ a =>
      have := ih (a := a) (by simpa using h)
      simp only [List.set_cons_succ, List.cons_append, List.countP_cons] at this ⊢
      omega

theorem step_cfg {l : List Pt} {a : Nat} {x : Pt} {p s : Int} {e : Nat} (h : Cfg l) (hx : l[a]? = some x) (hp : p = 0 ∨ p = 1 ∨ p = 2 ∨ p = 3 ∨ p = 4) (hr : restK x.1 p ≠ -1) : Cfg (l.set a (restK x.1 p, e, s) ++ [(p, e, s)]) := by
  have hm := List.mem_of_getElem? hx
  have hc := fun y z => count_set (y := y) (z := z) hx
  rcases h with ⟨y, rfl, hy⟩ | ⟨h, h1⟩ | h | h
  · obtain rfl : a = 0 := by
      have := (List.getElem?_eq_some_iff.1 hx).1
      simpa using this
    obtain rfl : y = x := by simpa using hx
    rw [hy] at hr ⊢
    rcases hp with rfl | rfl | rfl | rfl | rfl
    · exact absurd rfl hr
    · exact .inr (.inl ⟨by simp [show restK 0 1 = 4 by decide], by simp [show restK 0 1 = 4 by decide]⟩)
    · exact .inr (.inr (.inl (by simp [show restK 0 2 = 2 by decide])))
    · exact .inr (.inr (.inr (by simp [show restK 0 3 = 3 by decide])))
    · exact .inr (.inl ⟨by simp [show restK 0 4 = 1 by decide], by simp [show restK 0 4 = 1 by decide]⟩)
  · rcases h x hm with k | k <;> rw [k] at hr hc ⊢ <;> rcases hp with rfl | rfl | rfl | rfl | rfl
    · exact absurd rfl hr
    · exact .inr (.inl ⟨all_set h (.inr rfl) (.inl rfl), by have := hc (restK 1 1, e, s) (1, e, s); simp [show restK 1 1 = 4 by decide, h1] at this ⊢; omega⟩)
    · exact absurd rfl hr
    · exact absurd rfl hr
    · exact .inr (.inl ⟨all_set h (.inl rfl) (.inr rfl), by have := hc (restK 1 4, e, s) (4, e, s); simp [show restK 1 4 = 1 by decide, h1] at this ⊢; omega⟩)
    · exact absurd rfl hr
    · exact absurd rfl hr
    · exact absurd rfl hr
    · exact absurd rfl hr
    · exact .inr (.inl ⟨all_set h (.inr rfl) (.inr rfl), by have := hc (restK 4 4, e, s) (4, e, s); simp [show restK 4 4 = 4 by decide, h1] at this ⊢; omega⟩)
  · rcases h x hm with k | k <;> rw [k] at hr ⊢ <;> rcases hp with rfl | rfl | rfl | rfl | rfl
    · exact absurd rfl hr
    · exact absurd rfl hr
    · exact .inr (.inr (.inl (all_set h (.inl rfl) (.inl rfl))))
    · exact absurd rfl hr
    · exact .inr (.inr (.inl (all_set h (.inl rfl) (.inr rfl))))
    · exact absurd rfl hr
    · exact absurd rfl hr
    · exact absurd rfl hr
    · exact absurd rfl hr
    · exact .inr (.inr (.inl (all_set h (.inr rfl) (.inr rfl))))
  · rw [h x hm] at hr ⊢
    rcases hp with rfl | rfl | rfl | rfl | rfl
    · exact absurd rfl hr
    · exact absurd rfl hr
    · exact absurd rfl hr
    · exact .inr (.inr (.inr (all_set h rfl rfl)))
    · exact absurd rfl hr

theorem InvP.step {l : List Pt} {n a : Nat} {x : Pt} {p : Int} (h : InvP l n) (hn : n < 12) (hx : l[a]? = some x) (hp : p = 0 ∨ p = 1 ∨ p = 2 ∨ p = 3 ∨ p = 4) : InvP (stepP l a x p) (n + 1) := by
  unfold stepP
  split
  · exact ⟨h.ne, Nat.le_trans h.len (by omega), fun y hy => Nat.le_trans (h.low y hy) (by omega), h.sum, h.cfg⟩
  · rename_i hr
    have hl := h.low x (List.mem_of_getElem? hx)
    refine ⟨by simp, by have := h.len; simp; omega, all_set (Q := fun y => y.2.1 ≤ n + 1) (fun y hy => Nat.le_trans (h.low y hy) (by omega)) (by show x.2.1 + 1 ≤ _; omega) (by show x.2.1 + 1 ≤ _; omega), ?_, step_cfg h.cfg hx hp hr⟩
    rw [wtP_append]
    have hs := wtP_set l a x (restK x.1 p, x.2.1 + 1, keptS x.1 x.2.2 p (setOf x p)) hx
    have h2 : 2 ^ (12 - x.2.1) = 2 * 2 ^ (12 - (x.2.1 + 1)) := by
      rw [show 12 - x.2.1 = (12 - (x.2.1 + 1)) + 1 by omega, Nat.pow_succ, Nat.mul_comm]
    have := h.sum
    simp only [wtP]
    dsimp only at hs
    omega
end Go.Proofs.YthlogaenbnhobaaDoor
