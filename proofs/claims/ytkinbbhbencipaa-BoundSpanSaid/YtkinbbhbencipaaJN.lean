/-
  Plain: terms times numbers and their sums, as far as they fit; rows without a variable. (Template: by-name.py fills it.)
-/
import Derived.Test.YtkinbbhbencipaaJH
namespace Go.Proofs.Ytkinbbhbencipaa

/-- A bound: strict or not. -/
def below_ (s : Bool) (a b : Rat) : Prop := if s then a < b else a ≤ b
theorem below_le {s : Bool} {a b : Rat} (h : below_ s a b) : a ≤ b := by
  cases s
  · exact h
  · exact Rat.le_of_lt h
theorem max_of : ∀ (l : List (Bool × Rat)), l ≠ [] → ∃ m ∈ l, ∀ a ∈ l, a.2 ≤ m.2
  | [], h => absurd rfl h
  | [a], _ => ⟨a, by simp, fun b hb => by
    obtain rfl := List.mem_singleton.1 hb
    exact Rat.le_refl⟩
  | a :: b :: r, _ => by
    obtain ⟨m, hm, h⟩ := max_of (b :: r) (by simp)
    rcases Rat.le_total (a := a.2) (b := m.2) with g | g
    · refine ⟨m, List.mem_cons_of_mem _ hm, fun c hc => ?_⟩
      rcases List.mem_cons.1 hc with rfl | hc
      · exact g
      · exact h c hc
    · refine ⟨a, by simp, fun c hc => ?_⟩
      rcases List.mem_cons.1 hc with rfl | hc
      · exact Rat.le_refl
      · exact Rat.le_trans (h c hc) g
theorem min_of : ∀ (l : List (Bool × Rat)), l ≠ [] → ∃ m ∈ l, ∀ a ∈ l, m.2 ≤ a.2
  | [], h => absurd rfl h
  | [a], _ => ⟨a, by simp, fun b hb => by
    obtain rfl := List.mem_singleton.1 hb
    exact Rat.le_refl⟩
  | a :: b :: r, _ => by
    obtain ⟨m, hm, h⟩ := min_of (b :: r) (by simp)
    rcases Rat.le_total (a := m.2) (b := a.2) with g | g
    · refine ⟨m, List.mem_cons_of_mem _ hm, fun c hc => ?_⟩
      rcases List.mem_cons.1 hc with rfl | hc
      · exact g
      · exact h c hc
    · refine ⟨a, by simp, fun c hc => ?_⟩
      rcases List.mem_cons.1 hc with rfl | hc
      · exact Rat.le_refl
      · exact Rat.le_trans g (h c hc)

theorem lt_below {s : Bool} {a b : Rat} (h : a < b) : below_ s a b := by
  cases s
  · exact Rat.le_of_lt h
  · exact h
/-- A number between all lower and all upper bounds. -/
theorem between_exists (lo hi : List (Bool × Rat)) (h : ∀ a ∈ lo, ∀ b ∈ hi, below_ (a.1 || b.1) a.2 b.2) : ∃ x, (∀ a ∈ lo, below_ a.1 a.2 x) ∧ ∀ b ∈ hi, below_ b.1 x b.2 := by
  by_cases hl : lo = []
  · subst hl
    by_cases hh : hi = []
    · subst hh
      exact ⟨0, fun a ha => (by cases ha), fun b hb => (by cases hb)⟩
    · obtain ⟨m, _, hm⟩ := min_of hi hh
      exact ⟨m.2 - 1, fun a ha => (by cases ha), fun b hb => lt_below (by have := hm b hb; grind)⟩
  · obtain ⟨M, hM, hm⟩ := max_of lo hl
    by_cases hh : hi = []
    · subst hh
      exact ⟨M.2 + 1, fun a ha => lt_below (by have := hm a ha; grind), fun b hb => (by cases hb)⟩
    · obtain ⟨N, hN, hn⟩ := min_of hi hh
      have hMN := below_le (h M hM N hN)
      by_cases e : M.2 = N.2
      · refine ⟨M.2, fun a ha => ?_, fun b hb => ?_⟩
        · have := h a ha N hN
          rw [← e] at this
          cases q : a.1 with
          | false => exact hm a ha
          | true => rw [q] at this; exact this
        · have := h M hM b hb
          cases q : b.1 with
          | false => rw [e]; exact hn b hb
          | true => rw [q, Bool.or_true] at this; exact this
      · have lt : M.2 < N.2 := by grind
        exact ⟨(M.2 + N.2) / 2, fun a ha => lt_below (by have := hm a ha; grind), fun b hb => lt_below (by have := hn b hb; grind)⟩

/-- A sum's coefficients and its constant. -/
abbrev Lin := (Nat → Rat) × Rat
def lv (c ρ : Nat → Rat) : Nat → Rat
  | 0 => 0
  | n + 1 => lv c ρ n + c n * ρ n
def lval (f : Lin) (ρ : Nat → Rat) : Rat := lv f.1 ρ 8 + f.2
def upd (ρ : Nat → Rat) (v : Nat) (x : Rat) : Nat → Rat := fun i => if i = v then x else ρ i
theorem lv_upd (c ρ : Nat → Rat) (v : Nat) (x : Rat) : ∀ n : Nat, lv c (upd ρ v x) n = lv c ρ n + if v < n then c v * (x - ρ v) else 0
  | 0 => by simp only [lv, Nat.not_lt_zero, if_false]; grind
  | n + 1 => by
    rw [lv, lv, lv_upd c ρ v x n]
    unfold upd
    by_cases h : n = v
    · subst h
      rw [if_pos rfl, if_neg (by omega), if_pos (by omega)]
      grind
    · rw [if_neg h]
      by_cases g : v < n
      · rw [if_pos g, if_pos (by omega)]; grind
      · rw [if_neg g, if_neg (by omega)]; grind
theorem lval_upd (f : Lin) (ρ : Nat → Rat) {v : Nat} (hv : v < 8) (x : Rat) : lval f (upd ρ v x) = lval f ρ + f.1 v * (x - ρ v) := by
  unfold lval
  rw [lv_upd, if_pos hv]
  grind
theorem lv_add (a b c ρ : Nat → Rat) (h : ∀ i, c i = a i + b i) : ∀ n, lv c ρ n = lv a ρ n + lv b ρ n
  | 0 => by simp only [lv]; grind
  | n + 1 => by rw [lv, lv, lv, lv_add a b c ρ h n, h n]; grind
theorem lv_mul (a c ρ : Nat → Rat) (k : Rat) (h : ∀ i, c i = a i * k) : ∀ n, lv c ρ n = lv a ρ n * k
  | 0 => by simp only [lv]; grind
  | n + 1 => by rw [lv, lv, lv_mul a c ρ k h n, h n]; grind
theorem lval_add {a b c : Lin} (h : ∀ i, c.1 i = a.1 i + b.1 i) (hk : c.2 = a.2 + b.2) (ρ : Nat → Rat) : lval c ρ = lval a ρ + lval b ρ := by
  unfold lval
  rw [lv_add a.1 b.1 c.1 ρ h, hk]
  grind
theorem lval_mul {a c : Lin} {k : Rat} (h : ∀ i, c.1 i = a.1 i * k) (hk : c.2 = a.2 * k) (ρ : Nat → Rat) : lval c ρ = lval a ρ * k := by
  unfold lval
  rw [lv_mul a.1 c.1 ρ k h, hk]
  grind

/-- Is a row so? -/
def satL (r : Bool × Lin) (ρ : Nat → Rat) : Prop := below_ r.1 0 (lval r.2 ρ)
theorem satL_upd_out {r : Bool × Lin} {ρ : Nat → Rat} {v : Nat} (hv : v < 8) (h : r.2.1 v = 0) (x : Rat) : satL r (upd ρ v x) ↔ satL r ρ := by
  unfold satL
  rw [lval_upd _ _ hv, h, show lval r.2 ρ + 0 * (x - ρ v) = lval r.2 ρ by grind]
/-- One variable goes: where the rows without it and the sums of each lower and each upper row are so, a value of it makes all rows so. -/
theorem fm_exists {O Lo Up : List (Bool × Lin)} {ρ : Nat → Rat} {v : Nat} (hv : v < 8) (hO : ∀ r ∈ O, r.2.1 v = 0) (hL : ∀ r ∈ Lo, r.2.1 v = 1) (hU : ∀ r ∈ Up, r.2.1 v = -1)
    (h1 : ∀ r ∈ O, satL r ρ) (h2 : ∀ a ∈ Lo, ∀ b ∈ Up, below_ (a.1 || b.1) 0 (lval a.2 ρ + lval b.2 ρ)) : ∃ x, (∀ r ∈ O, satL r (upd ρ v x)) ∧ (∀ r ∈ Lo, satL r (upd ρ v x)) ∧ ∀ r ∈ Up, satL r (upd ρ v x) := by
  obtain ⟨x, hx, hy⟩ := between_exists (Lo.map fun r => (r.1, ρ v - lval r.2 ρ)) (Up.map fun r => (r.1, ρ v + lval r.2 ρ)) (fun a ha b hb => by
    obtain ⟨r, hr, rfl⟩ := List.mem_map.1 ha
    obtain ⟨t, ht, rfl⟩ := List.mem_map.1 hb
    have := h2 r hr t ht
    unfold below_ at this ⊢
    dsimp only
    split
    · rename_i g; rw [if_pos g] at this; grind
    · rename_i g; rw [if_neg g] at this; grind)
  refine ⟨x, fun r hr => (satL_upd_out hv (hO r hr) x).2 (h1 r hr), fun r hr => ?_, fun r hr => ?_⟩
  · have := hx _ (List.mem_map_of_mem hr)
    unfold satL
    rw [lval_upd _ _ hv, hL r hr]
    unfold below_ at this ⊢
    dsimp only at this
    split
    · rename_i g; rw [if_pos g] at this; grind
    · rename_i g; rw [if_neg g] at this; grind
  · have := hy _ (List.mem_map_of_mem hr)
    unfold satL
    rw [lval_upd _ _ hv, hU r hr]
    unfold below_ at this ⊢
    dsimp only at this
    split
    · rename_i g; rw [if_pos g] at this; grind
    · rename_i g; rw [if_neg g] at this; grind
/-- What is so of both rows is so of their sum. -/
theorem fm_sound {a b : Bool × Lin} {ρ : Nat → Rat} (ha : satL a ρ) (hb : satL b ρ) : below_ (a.1 || b.1) 0 (lval a.2 ρ + lval b.2 ρ) := by
  unfold satL below_ at *
  cases qa : a.1 <;> cases qb : b.1 <;> simp only [qa, qb, Bool.or_true, Bool.or_false, if_true, Bool.false_eq_true, if_false] at * <;> grind
/-- A row times a number above 0. -/
theorem satL_mul {r t : Bool × Lin} {k : Rat} (hk : 0 < k) (h1 : t.1 = r.1) (h2 : ∀ i, t.2.1 i = r.2.1 i * k) (h3 : t.2.2 = r.2.2 * k) (ρ : Nat → Rat) : satL t ρ ↔ satL r ρ := by
  unfold satL below_
  rw [h1, lval_mul h2 h3]
  split
  · constructor
    · intro h
      rcases Rat.le_total (a := lval r.2 ρ) (b := 0) with g | g
      · exfalso
        have : lval r.2 ρ * k ≤ 0 := by
          have := Rat.mul_le_mul_of_nonneg_right g (Rat.le_of_lt hk)
          grind
        grind
      · by_cases e : lval r.2 ρ = 0
        · rw [e] at h; grind
        · grind
    · intro h
      exact Rat.mul_pos h hk
  · constructor
    · intro h
      rcases Rat.le_total (a := 0) (b := lval r.2 ρ) with g | g
      · exact g
      · by_cases e : lval r.2 ρ = 0
        · rw [e]; exact Rat.le_refl
        · exfalso
          have : 0 < (- lval r.2 ρ) * k := Rat.mul_pos (by grind) hk
          grind
    · intro h
      exact Rat.mul_nonneg h (Rat.le_of_lt hk)
end Go.Proofs.Ytkinbbhbencipaa

namespace Go.Proofs.Ytkinbbhbencipaa
open Go.RowKit

/-- A term so many times; none: it runs over. -/
def scaleO (t : Trm) (b : Int × Int) : Option Trm := if (timesT t.1 t.2 b).2.2 = 0 then some ((timesT t.1 t.2 b).1, (timesT t.1 t.2 b).2.1) else none
/-- The sum of two terms; none: it runs over. -/
def addO (t u : Trm) : Option Trm := if (sumT t.1 u.1 t.2 u.2).2.2 = 0 then some ((sumT t.1 u.1 t.2 u.2).1, (sumT t.1 u.1 t.2 u.2).2.1) else none

theorem all_at (f : Int → Rat) (g : Int → Rat) (h1 : ∀ i, i < 0 → f i = g i) (h2 : ∀ n : Nat, f n = g n) : ∀ i, f i = g i := fun i => by
  rcases int_lt i 0 with hi | hi
  · exact h1 i hi
  · obtain ⟨n, rfl⟩ : ∃ n : Nat, i = n := ⟨i.toNat, by omega⟩
    exact h2 n
theorem scaleO_q {t u : Trm} {b : Int × Int} (ht : TrmOk t) (hb : OkR b) (h : scaleO t b = some u) : (∀ i : Int, co u i = co t i * q b) ∧ q u.2 = q t.2 * q b := by
  unfold scaleO at h
  split at h
  · rename_i g
    obtain rfl := Option.some.inj h
    obtain ⟨_, _, _, _, P⟩ := times_put ht.ok.wide ht.k.wide hb.wide g
    have part : ∀ (x m : Int × Int), OkR x → (mulH x b).2 = 0 → m = (mulH x b).1 → q m = q x * q b := by
      intro x m ox e1 e2
      obtain ⟨_, qm⟩ := mulH_q ox hb e1
      rw [e2, qm]
    refine ⟨all_at _ _ (fun i hi => ?_) fun n => part _ _ (ht.ok.at n) (P.at_ n).1 (P.at_ n).2, part _ _ ht.k P.k.1 P.k.2⟩
    rw [co_out hi, co_out hi]
    grind
  · cases h
theorem addO_q {t u r : Trm} (ht : TrmOk t) (hu : TrmOk u) (h : addO t u = some r) : (∀ i : Int, co r i = co t i + co u i) ∧ q r.2 = q t.2 + q u.2 := by
  unfold addO at h
  split at h
  · rename_i g
    obtain rfl := Option.some.inj h
    obtain ⟨_, _, _, _, _, _, P⟩ := sum_put ht.ok.wide hu.ok.wide ht.k.wide hu.k.wide g
    have part : ∀ (x y m : Int × Int), OkR x → OkR y → (addH x y).2 = 0 → m = (addH x y).1 → q m = q x + q y := by
      intro x y m ox oy e1 e2
      obtain ⟨_, qm⟩ := addH_q ox oy e1
      rw [e2, qm]
    refine ⟨all_at _ _ (fun i hi => ?_) fun n => part _ _ _ (ht.ok.at n) (hu.ok.at n) (P.at_ n).1 (P.at_ n).2, part _ _ _ ht.k hu.k P.k.1 P.k.2⟩
    rw [co_out hi, co_out hi, co_out hi]
    grind
  · cases h
end Go.Proofs.Ytkinbbhbencipaa
