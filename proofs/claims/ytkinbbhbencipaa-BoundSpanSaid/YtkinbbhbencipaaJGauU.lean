/-
  Plain: what is solved hangs on the solutions alone. (Template: by-name.py fills it.)
-/
import Derived.Test.YtkinbbhbencipaaJI
namespace Go.Proofs.Ytkinbbhbencipaa
open Go.RowKit

theorem sumQ_at (n : Nat) (c : Rat) : ∀ k : Nat, sumQ (fun i => if i = n then c else 0) k = if n < k then c else 0
  | 0 => by simp [sumQ]
  | k + 1 => by
    unfold sumQ
    rw [sumQ_at n c k]
    by_cases h : k = n
    · subst h
      rw [if_neg (by omega), if_pos rfl, if_pos (by omega)]
      grind
    · rw [if_neg h]
      by_cases g : n < k
      · rw [if_pos g, if_pos (by omega)]
        grind
      · rw [if_neg g, if_neg (by omega)]
        grind
theorem sumQ_congr (f g : Nat → Rat) : ∀ k : Nat, (∀ i, i < k → f i = g i) → sumQ f k = sumQ g k
  | 0, _ => rfl
  | k + 1, h => by
    unfold sumQ
    rw [sumQ_congr f g k fun i hi => h i (by omega), h k (by omega)]

/-- The variables that aren't taken, in a term. -/
def sfree (p : List Int) (u : Trm) (x : Nat → Rat) : Rat := sumQ (fun k => if p.contains (k : Int) = true then 0 else co u k * x k) 8

/-- What a solved system is. -/
structure Solved (a : List Trm) (p : List Int) : Prop where
  po : PivOk a p
  ok : ∀ t ∈ a, TrmOk t
  own : ∀ t ∈ a, trimL t.1 = t.1
  unit : ∀ (i j : Nat) (x : Int) (u : Trm), p[i]? = some x → a[j]? = some u → co u x = if i = j then 1 else 0
  lead : ∀ (j : Nat) (x : Int) (u : Trm), p[j]? = some x → a[j]? = some u → ∀ v : Int, v < x → co u v = 0
theorem solved_of {ts a : List Trm} {p : List Int} (hw : ∀ t ∈ ts, Wide t.1 ∧ Bd t.2) (h : solveT ts = ((a, p), 0)) : Solved a p := by
  obtain ⟨hok, l, hk, _⟩ := solveT_sat hw h
  obtain ⟨so, E⟩ := ech_all hok 8 _ hk
  exact ⟨piv_ok hw h, so.q, E.own, E.unit, E.lead⟩

section
variable {a b : List Trm} {p p' : List Int}
theorem ev_free (S : Solved a p) {i : Nat} {n : Int} {u : Trm} (hn : p[i]? = some n) (hu : a[i]? = some u) (x : Nat → Rat) : ev u x = q u.2 + (x n.toNat + sfree p u x) := by
  have hr := S.po.rng i n hn
  have e := sumQ_add (fun k => co u k * x k) (fun k => if p.contains (k : Int) = true then 0 else co u k * x k) (fun k => if k = n.toNat then x n.toNat else 0) 1 (fun k => by
    by_cases h : p.contains (k : Int) = true
    · rw [if_pos h]
      obtain ⟨j, hj⟩ := List.mem_iff_getElem?.1 (show (k : Int) ∈ p by simpa using h)
      have un := S.unit j i k u hj hu
      by_cases g : k = n.toNat
      · rw [if_pos g]
        have : j = i := by
          rcases Nat.lt_trichotomy j i with q | q | q
          · have := S.po.inc j i _ _ q hj hn; omega
          · exact q
          · have := S.po.inc i j _ _ q hn hj; omega
        rw [un, if_pos this, g]
        grind
      · rw [if_neg g]
        have : j ≠ i := fun e => by
          subst e
          rw [hn] at hj
          have := Option.some.inj hj
          omega
        rw [un, if_neg this]
        grind
    · rw [if_neg h]
      have : k ≠ n.toNat := fun e => by
        apply h
        rw [e, show ((n.toNat : Nat) : Int) = n by omega]
        simpa using List.mem_of_getElem? hn
      rw [if_neg this]
      grind) 8
  rw [sumQ_at, if_pos (by omega)] at e
  unfold ev sfree
  grind

/-- A solution that has these values where nothing is taken. -/
def solF (a : List Trm) (p : List Int) (y : Nat → Rat) (n : Nat) : Rat :=
  match p.findIdx? (fun x => x == (n : Int)) with
  | some i => match a[i]? with
    | some u => -(q u.2 + sfree p u y)
    | none => y n
  | none => y n
theorem solF_free {y : Nat → Rat} {n : Nat} (h : p.contains (n : Int) = false) : solF a p y n = y n := by
  have : p.findIdx? (fun x => x == (n : Int)) = none := by
    rw [List.findIdx?_eq_none_iff]
    intro x hx
    rw [beq_eq_false_iff_ne]
    intro e
    subst e
    rw [show p.contains (n : Int) = true by simpa using hx] at h
    cases h
  unfold solF
  rw [this]
theorem solF_piv (S : Solved a p) {y : Nat → Rat} {i : Nat} {n : Int} {u : Trm} (hn : p[i]? = some n) (hu : a[i]? = some u) : solF a p y n.toNat = -(q u.2 + sfree p u y) := by
  have hr := S.po.rng i n hn
  have hl := get_lt hn
  have : p.findIdx? (fun x => x == ((n.toNat : Nat) : Int)) = some i := by
    rw [show ((n.toNat : Nat) : Int) = n by omega]
    refine List.findIdx?_eq_some_iff_getElem.2 ⟨hl, ?_, fun j hj => ?_⟩
    · rw [List.getElem?_eq_getElem hl] at hn
      rw [Option.some.inj hn]
      simp
    · have hjl : j < p.length := by omega
      have := S.po.inc j i _ _ hj (List.getElem?_eq_getElem hjl) hn
      simp
      omega
  unfold solF
  rw [this]
  dsimp only
  rw [hu]
theorem sfree_sol {y : Nat → Rat} (u : Trm) : sfree p u (solF a p y) = sfree p u y := by
  unfold sfree
  refine sumQ_congr _ _ 8 fun k _ => ?_
  cases h : p.contains (k : Int)
  · rw [if_neg (by decide), if_neg (by decide), solF_free h]
  · rw [if_pos rfl, if_pos rfl]
theorem solF_solves (S : Solved a p) (y : Nat → Rat) : ∀ t ∈ a, ev t (solF a p y) = 0 := by
  intro u hu
  obtain ⟨i, hi⟩ := List.mem_iff_getElem?.1 hu
  have hl := get_lt hi
  rw [S.po.len] at hl
  have hn := List.getElem?_eq_getElem hl
  rw [ev_free S hn hi, solF_piv S hn hi, sfree_sol]
  grind
theorem sol_at (S : Solved a p) {x : Nat → Rat} (hx : ∀ t ∈ a, ev t x = 0) {i : Nat} {n : Int} {u : Trm} (hn : p[i]? = some n) (hu : a[i]? = some u) : x n.toNat = -(q u.2 + sfree p u x) := by
  have := hx u (List.mem_of_getElem? hu)
  rw [ev_free S hn hu] at this
  grind

/-- One at one place. -/
def oneAt (n : Nat) (k : Nat) : Rat := if k = n then 1 else 0
theorem sfree_one {u : Trm} {n : Nat} (h : p.contains (n : Int) = false) (h8 : n < 8) : sfree p u (oneAt n) = co u n := by
  have : sfree p u (oneAt n) = sumQ (fun i => if i = n then co u n else 0) 8 := by
    unfold sfree
    refine sumQ_congr _ _ 8 fun k _ => ?_
    unfold oneAt
    by_cases g : k = n
    · subst g
      rw [if_neg (by rw [h]; decide), if_pos rfl, if_pos rfl]
      grind
    · rw [if_neg g, if_neg g]
      split <;> grind
  rw [this, sumQ_at, if_pos h8]
theorem sfree_none {u : Trm} : sfree p u (fun _ => 0) = 0 := by
  unfold sfree
  exact sumQ_zero _ 8 fun i _ => by split <;> grind

/-- What is taken by one is taken by the other. -/
theorem taken_sub (S : Solved a p) (T : Solved b p') (h : ∀ x : Nat → Rat, (∀ t ∈ a, ev t x = 0) → ∀ t ∈ b, ev t x = 0) (n : Int) (hn : n ∈ p') : n ∈ p := by
  rcases Classical.em (n ∈ p) with g | g
  · exact g
  exfalso
  obtain ⟨j, hj⟩ := List.mem_iff_getElem?.1 hn
  have hr := T.po.rng j n hj
  have hjl := get_lt hj
  rw [← T.po.len] at hjl
  have hu := List.getElem?_eq_getElem hjl
  have hc : p.contains ((n.toNat : Nat) : Int) = false := by
    rw [show ((n.toNat : Nat) : Int) = n by omega]
    cases e : p.contains n
    · rfl
    · exact absurd (by simpa using e) g
  have x0 := sol_at T (h _ (solF_solves S fun _ => 0)) hj hu
  have x1 := sol_at T (h _ (solF_solves S (oneAt n.toNat))) hj hu
  rw [solF_free hc] at x0 x1
  have same : sfree p' b[j] (solF a p (oneAt n.toNat)) = sfree p' b[j] (solF a p fun _ => 0) := by
    unfold sfree
    refine sumQ_congr _ _ 8 fun k hk => ?_
    by_cases q1 : p'.contains (k : Int) = true
    · rw [if_pos q1, if_pos q1]
    rw [if_neg q1, if_neg q1]
    rcases Nat.lt_trichotomy k n.toNat with q | q | q
    · rw [T.lead j n _ hj hu k (by omega)]
      grind
    · subst q
      exfalso
      apply q1
      rw [show ((n.toNat : Nat) : Int) = n by omega]
      simpa using hn
    · cases e : p.contains (k : Int)
      · rw [solF_free e, solF_free e]
        unfold oneAt
        rw [if_neg (by omega)]
      · obtain ⟨i, hi⟩ := List.mem_iff_getElem?.1 (show (k : Int) ∈ p by simpa using e)
        have hil := get_lt hi
        rw [← S.po.len] at hil
        have hw := List.getElem?_eq_getElem hil
        have e1 := solF_piv S (y := oneAt n.toNat) hi hw
        have e2 := solF_piv S (y := fun _ => 0) hi hw
        rw [Int.toNat_natCast] at e1 e2
        rw [e1, e2, sfree_one hc (by omega), sfree_none, show ((n.toNat : Nat) : Int) = n by omega, S.lead i k _ hi hw n (by omega)]
  rw [same] at x1
  unfold oneAt at x1
  rw [if_pos rfl] at x1
  grind

/-- The taken ones up to k, in order. -/
def takenK (p : List Int) : Nat → List Int
  | 0 => []
  | k + 1 => if p.contains (k : Int) = true then takenK p k ++ [(k : Int)] else takenK p k
theorem taken_all (po : PivOk a p) : takenK p 8 = p := by
  have key : ∀ k : Nat, ∃ m, m ≤ p.length ∧ (∀ (i : Nat) (x : Int), p[i]? = some x → (i < m ↔ x < k)) ∧ takenK p k = p.take m := by
    intro k
    induction k with
    | zero => exact ⟨0, Nat.zero_le _, fun i x hx => ⟨fun h => absurd h (Nat.not_lt_zero i), fun h => by have := po.rng i x hx; omega⟩, rfl⟩
    | succ k ih =>
      obtain ⟨m, hm, hi, hc⟩ := ih
      have un : takenK p (k + 1) = if p.contains (k : Int) = true then takenK p k ++ [(k : Int)] else takenK p k := rfl
      by_cases h : (k : Int) ∈ p
      · obtain ⟨j, hj⟩ := List.mem_iff_getElem?.1 h
        have hjl := get_lt hj
        have hjm : j = m := by
          have h1 : ¬ j < m := fun g => by have := (hi j k hj).1 g; omega
          rcases Nat.lt_or_ge m j with g | g
          · have hml : m < p.length := by omega
            have := po.inc m j _ _ g (List.getElem?_eq_getElem hml) hj
            have := (hi m _ (List.getElem?_eq_getElem hml)).2 this
            omega
          · omega
        subst hjm
        refine ⟨j + 1, hjl, fun i x hx => ⟨fun g => ?_, fun g => ?_⟩, ?_⟩
        · rcases Nat.lt_or_ge i j with q | q
          · have := (hi i x hx).1 q
            omega
          · obtain rfl : i = j := by omega
            rw [hj] at hx
            have := Option.some.inj hx
            omega
        · rcases Nat.lt_or_ge j i with q | q
          · have := po.inc j i _ x q hj hx
            omega
          · omega
        · rw [un, if_pos (by simpa using h), hc, List.take_add_one, hj]
          rfl
      · refine ⟨m, hm, fun i x hx => ⟨fun g => by have := (hi i x hx).1 g; omega, fun g => ?_⟩, ?_⟩
        · rcases int_lt x k with q | q
          · exact (hi i x hx).2 q
          · obtain rfl : x = k := by omega
            exact absurd (List.mem_of_getElem? hx) h
        · rw [un, if_neg (by simpa using h)]
          exact hc
  obtain ⟨m, hm, hi, hc⟩ := key 8
  have e : m = p.length := by
    rcases Nat.lt_or_ge m p.length with g | g
    · have := (hi m _ (List.getElem?_eq_getElem g)).2 (po.rng m _ (List.getElem?_eq_getElem g)).2
      omega
    · omega
  rw [hc, e, List.take_length]
theorem taken_same (h : ∀ n : Int, n ∈ p ↔ n ∈ p') : ∀ k, takenK p k = takenK p' k
  | 0 => rfl
  | k + 1 => by
    have e : p.contains (k : Int) = p'.contains (k : Int) := by
      rw [Bool.eq_iff_iff]
      simpa using h k
    unfold takenK
    rw [e, taken_same h k]

/-- Two solved systems with the same solutions are the same. -/
theorem solved_same (S : Solved a p) (T : Solved b p') (h : ∀ x : Nat → Rat, (∀ t ∈ a, ev t x = 0) ↔ ∀ t ∈ b, ev t x = 0) : p = p' ∧ a = b := by
  have hp : p = p' := by
    rw [← taken_all S.po, ← taken_all T.po]
    exact taken_same (fun n => ⟨fun g => taken_sub T S (fun x => (h x).2) n g, fun g => taken_sub S T (fun x => (h x).1) n g⟩) 8
  subst hp
  refine ⟨rfl, List.ext_getElem (by rw [S.po.len, T.po.len]) fun i h1 h2 => ?_⟩
  have hil : i < p.length := by rw [S.po.len] at h1; exact h1
  have hn := List.getElem?_eq_getElem hil
  have hu := List.getElem?_eq_getElem h1
  have hw := List.getElem?_eq_getElem h2
  have oku := S.ok _ (List.mem_of_getElem? hu)
  have okw := T.ok _ (List.mem_of_getElem? hw)
  have hk : q (a[i]).2 = q (b[i]).2 := by
    have e1 := sol_at S (solF_solves S fun _ => 0) hn hu
    have e2 := sol_at T ((h _).1 (solF_solves S fun _ => 0)) hn hw
    rw [sfree_sol, sfree_none] at e1 e2
    grind
  have hc : ∀ k : Nat, atL (a[i]).1 k = atL (b[i]).1 k := by
    intro k
    refine (oku.ok.at k).inj (okw.ok.at k) ?_
    show co _ _ = co _ _
    rcases Nat.lt_or_ge k 8 with g | g
    · cases e : p.contains (k : Int)
      · have e1 := sol_at S (solF_solves S (oneAt k)) hn hu
        have e2 := sol_at T ((h _).1 (solF_solves S (oneAt k))) hn hw
        rw [sfree_sol, sfree_one e g] at e1 e2
        grind
      · obtain ⟨j, hj⟩ := List.mem_iff_getElem?.1 (show (k : Int) ∈ p by simpa using e)
        rw [S.unit j i k _ hj hu, T.unit j i k _ hj hw]
    · unfold co
      rw [atL_out (l := (a[i]).1) (.inr (by have := oku.len; omega)), atL_out (l := (b[i]).1) (.inr (by have := okw.len; omega))]
  refine Prod.ext ?_ (oku.k.inj okw.k hk)
  rw [← S.own _ (List.mem_of_getElem? hu), ← T.own _ (List.mem_of_getElem? hw)]
  exact trim_ext oku.ok okw.ok hc
end

theorem solve_order {ts us : List Trm} (hw : ∀ t ∈ ts, Wide t.1 ∧ Bd t.2) (hm : ∀ t, t ∈ us ↔ t ∈ ts) (h1 : (solveT ts).2 ≠ 2) (h2 : (solveT us).2 ≠ 2) : solveT ts = solveT us := by
  have hu : ∀ t ∈ us, Wide t.1 ∧ Bd t.2 := fun t ht => hw t ((hm t).1 ht)
  have hsol : ∀ x : Nat → Rat, (∀ t ∈ ts, ev t x = 0) ↔ ∀ t ∈ us, ev t x = 0 := fun x => ⟨fun g t ht => g t ((hm t).1 ht), fun g t ht => g t ((hm t).2 ht)⟩
  have c1 := solveT_code ts
  have c2 := solveT_code us
  generalize e1 : solveT ts = r1 at *
  generalize e2 : solveT us = r2 at *
  obtain ⟨⟨a, p⟩, z⟩ := r1
  obtain ⟨⟨b, p'⟩, z'⟩ := r2
  dsimp only at *
  rcases c1 with rfl | ⟨rfl, c1⟩ | ⟨rfl, _⟩
  · rcases c2 with rfl | ⟨rfl, _⟩ | ⟨rfl, _⟩
    · obtain ⟨rfl, rfl⟩ := solved_same (solved_of hw e1) (solved_of hu e2) fun x => (keeps_sat hw e1 x).symm.trans ((hsol x).trans (keeps_sat hu e2 x))
      rfl
    · exact absurd ((hsol _).1 ((keeps_sat hw e1 _).2 (solF_solves (solved_of hw e1) fun _ => 0))) (keeps_unsat hu e2 _)
    · exact absurd rfl h2
  · rcases c2 with rfl | ⟨rfl, c2⟩ | ⟨rfl, _⟩
    · exact absurd ((hsol _).2 ((keeps_sat hu e2 _).2 (solF_solves (solved_of hu e2) fun _ => 0))) (keeps_unsat hw e1 _)
    · rw [c1, c2]
    · exact absurd rfl h2
  · exact absurd rfl h1
end Go.Proofs.Ytkinbbhbencipaa
