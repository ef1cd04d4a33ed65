/-
  The walk of GaussOrder. (Template: by-name.py fills it; gen/genGauV.py writes it.)
-/
import Derived.Test.YtocmhidkfjahcaaJI
namespace Go.Proofs.Ytocmhidkfjahcaa
open Go.RowKit

theorem sumQ_at (n : Nat) (c : Rat) : ∀ k : Nat, sumQ (fun i => if i = n then c else 0) k = if n < k then c else 0
  | 0 => by simp [sumQ]
  | k + 1 => by
    unfold sumQ
    rw [sumQ_at n c k]
    by_cases h : k = n
    · subst h
      rw [if_neg (by omega), if_pos rfl, if_pos (by omega)]
      grind
    · rw [if_neg h]
      by_cases g : n < k
      · rw [if_pos g, if_pos (by omega)]
        grind
      · rw [if_neg g, if_neg (by omega)]
        grind
theorem sumQ_congr (f g : Nat → Rat) : ∀ k : Nat, (∀ i, i < k → f i = g i) → sumQ f k = sumQ g k
  | 0, _ => rfl
  | k + 1, h => by
    unfold sumQ
    rw [sumQ_congr f g k fun i hi => h i (by omega), h k (by omega)]

/-- The variables that aren't taken, in a term. -/
def sfree (p : List Int) (u : Trm) (x : Nat → Rat) : Rat := sumQ (fun k => if p.contains (k : Int) = true then 0 else co u k * x k) 8

/-- What a solved system is. -/
structure Solved (a : List Trm) (p : List Int) : Prop where
  po : PivOk a p
  ok : ∀ t ∈ a, TrmOk t
  own : ∀ t ∈ a, trimL t.1 = t.1
  unit : ∀ (i j : Nat) (x : Int) (u : Trm), p[i]? = some x → a[j]? = some u → co u x = if i = j then 1 else 0
  lead : ∀ (j : Nat) (x : Int) (u : Trm), p[j]? = some x → a[j]? = some u → ∀ v : Int, v < x → co u v = 0
theorem solved_of {ts a : List Trm} {p : List Int} (hw : ∀ t ∈ ts, Wide t.1 ∧ Bd t.2) (h : solveT ts = ((a, p), 0)) : Solved a p := by
  obtain ⟨hok, l, hk, _⟩ := solveT_sat hw h
  obtain ⟨so, E⟩ := ech_all hok 8 _ hk
  exact ⟨piv_ok hw h, so.q, E.own, E.unit, E.lead⟩

section
variable {a b : List Trm} {p p' : List Int}
theorem ev_free (S : Solved a p) {i : Nat} {n : Int} {u : Trm} (hn : p[i]? = some n) (hu : a[i]? = some u) (x : Nat → Rat) : ev u x = q u.2 + (x n.toNat + sfree p u x) := by
  have hr := S.po.rng i n hn
  have e := sumQ_add (fun k => co u k * x k) (fun k => if p.contains (k : Int) = true then 0 else co u k * x k) (fun k => if k = n.toNat then x n.toNat else 0) 1 (fun k => by
    by_cases h : p.contains (k : Int) = true
    · rw [if_pos h]
      obtain ⟨j, hj⟩ := List.mem_iff_getElem?.1 (show (k : Int) ∈ p by simpa using h)
      have un := S.unit j i k u hj hu
      by_cases g : k = n.toNat
      · rw [if_pos g]
        have : j = i := by
          rcases Nat.lt_trichotomy j i with q | q | q
          · have := S.po.inc j i _ _ q hj hn; omega
          · exact q
          · have := S.po.inc i j _ _ q hn hj; omega
        rw [un, if_pos this, g]
        grind
      · rw [if_neg g]
        have : j ≠ i := fun e => by
          subst e
          rw [hn] at hj
          have := Option.some.inj hj
          omega
        rw [un, if_neg this]
        grind
    · rw [if_neg h]
      have : k ≠ n.toNat := fun e => by
        apply h
        rw [e, show ((n.toNat : Nat) : Int) = n by omega]
        simpa using List.mem_of_getElem? hn
      rw [if_neg this]
      grind) 8
  rw [sumQ_at, if_pos (by omega)] at e
  unfold ev sfree
  grind

/-- A solution that has these values where nothing is taken. -/
def solF (a : List Trm) (p : List Int) (y : Nat → Rat) (n : Nat) : Rat :=
  match p.findIdx? (fun x => x == (n : Int)) with
  | some i => match a[i]? with
    | some u => -(q u.2 + sfree p u y)
    | none => y n
  | none => y n
theorem solF_free {y : Nat → Rat} {n : Nat} (h : p.contains (n : Int) = false) : solF a p y n = y n := by
  have : p.findIdx? (fun x => x == (n : Int)) = none := by
    rw [List.findIdx?_eq_none_iff]
    intro x hx
    rw [beq_eq_false_iff_ne]
    intro e
    subst e
    rw [show p.contains (n : Int) = true by simpa using hx] at h
    cases h
  unfold solF
  rw [this]
theorem solF_piv (S : Solved a p) {y : Nat → Rat} {i : Nat} {n : Int} {u : Trm} (hn : p[i]? = some n) (hu : a[i]? = some u) : solF a p y n.toNat = -(q u.2 + sfree p u y) := by
  have hr := S.po.rng i n hn
  have hl := get_lt hn
  have : p.findIdx? (fun x => x == ((n.toNat : Nat) : Int)) = some i := by
    rw [show ((n.toNat : Nat) : Int) = n by omega]
    refine List.findIdx?_eq_some_iff_getElem.2 ⟨hl, ?_, fun j hj => ?_⟩
    · rw [List.getElem?_eq_getElem hl] at hn
      rw [Option.some.inj hn]
      simp
    · have hjl : j < p.length := by omega
      have := S.po.inc j i _ _ hj (List.getElem?_eq_getElem hjl) hn
      simp
      omega
  unfold solF
  rw [this]
  dsimp only
  rw [hu]
theorem sfree_sol {y : Nat → Rat} (u : Trm) : sfree p u (solF a p y) = sfree p u y := by
  unfold sfree
  refine sumQ_congr _ _ 8 fun k _ => ?_
  cases h : p.contains (k : Int)
  · rw [if_neg (by decide), if_neg (by decide), solF_free h]
  · rw [if_pos rfl, if_pos rfl]
theorem solF_solves (S : Solved a p) (y : Nat → Rat) : ∀ t ∈ a, ev t (solF a p y) = 0 := by
  intro u hu
  obtain ⟨i, hi⟩ := List.mem_iff_getElem?.1 hu
  have hl := get_lt hi
  rw [S.po.len] at hl
  have hn := List.getElem?_eq_getElem hl
  rw [ev_free S hn hi, solF_piv S hn hi, sfree_sol]
  grind
theorem sol_at (S : Solved a p) {x : Nat → Rat} (hx : ∀ t ∈ a, ev t x = 0) {i : Nat} {n : Int} {u : Trm} (hn : p[i]? = some n) (hu : a[i]? = some u) : x n.toNat = -(q u.2 + sfree p u x) := by
  have := hx u (List.mem_of_getElem? hu)
  rw [ev_free S hn hu] at this
  grind

/-- One at one place. -/
def oneAt (n : Nat) (k : Nat) : Rat := if k = n then 1 else 0
theorem sfree_one {u : Trm} {n : Nat} (h : p.contains (n : Int) = false) (h8 : n < 8) : sfree p u (oneAt n) = co u n := by
  have : sfree p u (oneAt n) = sumQ (fun i => if i = n then co u n else 0) 8 := by
    unfold sfree
    refine sumQ_congr _ _ 8 fun k _ => ?_
    unfold oneAt
    by_cases g : k = n
    · subst g
      rw [if_neg (by rw [h]; decide), if_pos rfl, if_pos rfl]
      grind
    · rw [if_neg g, if_neg g]
      split <;> grind
  rw [this, sumQ_at, if_pos h8]
theorem sfree_none {u : Trm} : sfree p u (fun _ => 0) = 0 := by
  unfold sfree
  exact sumQ_zero _ 8 fun i _ => by split <;> grind

/-- What is taken by one is taken by the other. -/
theorem taken_sub (S : Solved a p) (T : Solved b p') (h : ∀ x : Nat → Rat, (∀ t ∈ a, ev t x = 0) → ∀ t ∈ b, ev t x = 0) (n : Int) (hn : n ∈ p') : n ∈ p := by
  rcases Classical.em (n ∈ p) with g | g
  · exact g
  exfalso
  obtain ⟨j, hj⟩ := List.mem_iff_getElem?.1 hn
  have hr := T.po.rng j n hj
  have hjl := get_lt hj
  rw [← T.po.len] at hjl
  have hu := List.getElem?_eq_getElem hjl
  have hc : p.contains ((n.toNat : Nat) : Int) = false := by
    rw [show ((n.toNat : Nat) : Int) = n by omega]
    cases e : p.contains n
    · rfl
    · exact absurd (by simpa using e) g
  have x0 := sol_at T (h _ (solF_solves S fun _ => 0)) hj hu
  have x1 := sol_at T (h _ (solF_solves S (oneAt n.toNat))) hj hu
  rw [solF_free hc] at x0 x1
  have same : sfree p' b[j] (solF a p (oneAt n.toNat)) = sfree p' b[j] (solF a p fun _ => 0) := by
    unfold sfree
    refine sumQ_congr _ _ 8 fun k hk => ?_
    by_cases q1 : p'.contains (k : Int) = true
    · rw [if_pos q1, if_pos q1]
    rw [if_neg q1, if_neg q1]
    rcases Nat.lt_trichotomy k n.toNat with q | q | q
    · rw [T.lead j n _ hj hu k (by omega)]
      grind
    · subst q
      exfalso
      apply q1
      rw [show ((n.toNat : Nat) : Int) = n by omega]
      simpa using hn
    · cases e : p.contains (k : Int)
      · rw [solF_free e, solF_free e]
        unfold oneAt
        rw [if_neg (by omega)]
      · obtain ⟨i, hi⟩ := List.mem_iff_getElem?.1 (show (k : Int) ∈ p by simpa using e)
        have hil := get_lt hi
        rw [← S.po.len] at hil
        have hw := List.getElem?_eq_getElem hil
        have e1 := solF_piv S (y := oneAt n.toNat) hi hw
        have e2 := solF_piv S (y := fun _ => 0) hi hw
        rw [Int.toNat_natCast] at e1 e2
        rw [e1, e2, sfree_one hc (by omega), sfree_none, show ((n.toNat : Nat) : Int) = n by omega, S.lead i k _ hi hw n (by omega)]
  rw [same] at x1
  unfold oneAt at x1
  rw [if_pos rfl] at x1
  grind

/-- The taken ones up to k, in order. -/
def takenK (p : List Int) : Nat → List Int
  | 0 => []
  | k + 1 => if p.contains (k : Int) = true then takenK p k ++ [(k : Int)] else takenK p k
theorem taken_all (po : PivOk a p) : takenK p 8 = p := by
  have key : ∀ k : Nat, ∃ m, m ≤ p.length ∧ (∀ (i : Nat) (x : Int), p[i]? = some x → (i < m ↔ x < k)) ∧ takenK p k = p.take m := by
    intro k
    induction k with
    | zero => exact ⟨0, Nat.zero_le _, fun i x hx => ⟨fun h => absurd h (Nat.not_lt_zero i), fun h => by have := po.rng i x hx; omega⟩, rfl⟩
    | succ k ih =>
      obtain ⟨m, hm, hi, hc⟩ := ih
      have un : takenK p (k + 1) = if p.contains (k : Int) = true then takenK p k ++ [(k : Int)] else takenK p k := rfl
      by_cases h : (k : Int) ∈ p
      · obtain ⟨j, hj⟩ := List.mem_iff_getElem?.1 h
        have hjl := get_lt hj
        have hjm : j = m := by
          have h1 : ¬ j < m := fun g => by have := (hi j k hj).1 g; omega
          rcases Nat.lt_or_ge m j with g | g
          · have hml : m < p.length := by omega
            have := po.inc m j _ _ g (List.getElem?_eq_getElem hml) hj
            have := (hi m _ (List.getElem?_eq_getElem hml)).2 this
            omega
          · omega
        subst hjm
        refine ⟨j + 1, hjl, fun i x hx => ⟨fun g => ?_, fun g => ?_⟩, ?_⟩
        · rcases Nat.lt_or_ge i j with q | q
          · have := (hi i x hx).1 q
            omega
          · obtain rfl : i = j := by omega
            rw [hj] at hx
            have := Option.some.inj hx
            omega
        · rcases Nat.lt_or_ge j i with q | q
          · have := po.inc j i _ x q hj hx
            omega
          · omega
        · rw [un, if_pos (by simpa using h), hc, List.take_add_one, hj]
          rfl
      · refine ⟨m, hm, fun i x hx => ⟨fun g => by have := (hi i x hx).1 g; omega, fun g => ?_⟩, ?_⟩
        · rcases int_lt x k with q | q
          · exact (hi i x hx).2 q
          · obtain rfl : x = k := by omega
            exact absurd (List.mem_of_getElem? hx) h
        · rw [un, if_neg (by simpa using h)]
          exact hc
  obtain ⟨m, hm, hi, hc⟩ := key 8
  have e : m = p.length := by
    rcases Nat.lt_or_ge m p.length with g | g
    · have := (hi m _ (List.getElem?_eq_getElem g)).2 (po.rng m _ (List.getElem?_eq_getElem g)).2
      omega
    · omega
  rw [hc, e, List.take_length]
theorem taken_same (h : ∀ n : Int, n ∈ p ↔ n ∈ p') : ∀ k, takenK p k = takenK p' k
  | 0 => rfl
  | k + 1 => by
    have e : p.contains (k : Int) = p'.contains (k : Int) := by
      rw [Bool.eq_iff_iff]
      simpa using h k
    unfold takenK
    rw [e, taken_same h k]

/-- Two solved systems with the same solutions are the same. -/
theorem solved_same (S : Solved a p) (T : Solved b p') (h : ∀ x : Nat → Rat, (∀ t ∈ a, ev t x = 0) ↔ ∀ t ∈ b, ev t x = 0) : p = p' ∧ a = b := by
  have hp : p = p' := by
    rw [← taken_all S.po, ← taken_all T.po]
    exact taken_same (fun n => ⟨fun g => taken_sub T S (fun x => (h x).2) n g, fun g => taken_sub S T (fun x => (h x).1) n g⟩) 8
  subst hp
  refine ⟨rfl, List.ext_getElem (by rw [S.po.len, T.po.len]) fun i h1 h2 => ?_⟩
  have hil : i < p.length := by rw [S.po.len] at h1; exact h1
  have hn := List.getElem?_eq_getElem hil
  have hu := List.getElem?_eq_getElem h1
  have hw := List.getElem?_eq_getElem h2
  have oku := S.ok _ (List.mem_of_getElem? hu)
  have okw := T.ok _ (List.mem_of_getElem? hw)
  have hk : q (a[i]).2 = q (b[i]).2 := by
    have e1 := sol_at S (solF_solves S fun _ => 0) hn hu
    have e2 := sol_at T ((h _).1 (solF_solves S fun _ => 0)) hn hw
    rw [sfree_sol, sfree_none] at e1 e2
    grind
  have hc : ∀ k : Nat, atL (a[i]).1 k = atL (b[i]).1 k := by
    intro k
    refine (oku.ok.at k).inj (okw.ok.at k) ?_
    show co _ _ = co _ _
    rcases Nat.lt_or_ge k 8 with g | g
    · cases e : p.contains (k : Int)
      · have e1 := sol_at S (solF_solves S (oneAt k)) hn hu
        have e2 := sol_at T ((h _).1 (solF_solves S (oneAt k))) hn hw
        rw [sfree_sol, sfree_one e g] at e1 e2
        grind
      · obtain ⟨j, hj⟩ := List.mem_iff_getElem?.1 (show (k : Int) ∈ p by simpa using e)
        rw [S.unit j i k _ hj hu, T.unit j i k _ hj hw]
    · unfold co
      rw [atL_out (l := (a[i]).1) (.inr (by have := oku.len; omega)), atL_out (l := (b[i]).1) (.inr (by have := okw.len; omega))]
  refine Prod.ext ?_ (oku.k.inj okw.k hk)
  rw [← S.own _ (List.mem_of_getElem? hu), ← T.own _ (List.mem_of_getElem? hw)]
  exact trim_ext oku.ok okw.ok hc
end

theorem solve_order {ts us : List Trm} (hw : ∀ t ∈ ts, Wide t.1 ∧ Bd t.2) (hm : ∀ t, t ∈ us ↔ t ∈ ts) (h1 : (solveT ts).2 ≠ 2) (h2 : (solveT us).2 ≠ 2) : solveT ts = solveT us := by
  have hu : ∀ t ∈ us, Wide t.1 ∧ Bd t.2 := fun t ht => hw t ((hm t).1 ht)
  have hsol : ∀ x : Nat → Rat, (∀ t ∈ ts, ev t x = 0) ↔ ∀ t ∈ us, ev t x = 0 := fun x => ⟨fun g t ht => g t ((hm t).1 ht), fun g t ht => g t ((hm t).2 ht)⟩
  have c1 := solveT_code ts
  have c2 := solveT_code us
  generalize e1 : solveT ts = r1 at *
  generalize e2 : solveT us = r2 at *
  obtain ⟨⟨a, p⟩, z⟩ := r1
  obtain ⟨⟨b, p'⟩, z'⟩ := r2
  dsimp only at *
  rcases c1 with rfl | ⟨rfl, c1⟩ | ⟨rfl, _⟩
  · rcases c2 with rfl | ⟨rfl, _⟩ | ⟨rfl, _⟩
    · obtain ⟨rfl, rfl⟩ := solved_same (solved_of hw e1) (solved_of hu e2) fun x => (keeps_sat hw e1 x).symm.trans ((hsol x).trans (keeps_sat hu e2 x))
      rfl
    · exact absurd ((hsol _).1 ((keeps_sat hw e1 _).2 (solF_solves (solved_of hw e1) fun _ => 0))) (keeps_unsat hu e2 _)
    · exact absurd rfl h2
  · rcases c2 with rfl | ⟨rfl, c2⟩ | ⟨rfl, _⟩
    · exact absurd ((hsol _).2 ((keeps_sat hu e2 _).2 (solF_solves (solved_of hu e2) fun _ => 0))) (keeps_unsat hw e1 _)
    · rw [c1, c2]
    · exact absurd rfl h2
  · exact absurd rfl h1
end Go.Proofs.Ytocmhidkfjahcaa

namespace Go.Proofs.Ytocmhidkfjahcaa
open Go.RowKit

theorem own_base {w : World} {base base' size n : Nat} {e : TypeId} {v : Value} {xs : List Value} (h : w.ownsRow base e size v n xs) (hb : base' ≤ base) : w.ownsRow base' e size v n xs := by
  refine ⟨h.1, ?_⟩
  rcases h.2 with q | ⟨g, cap, cur, e, hg, rest⟩
  · exact .inl q
  · exact .inr ⟨g, cap, cur, e, Nat.le_trans hb hg, rest⟩
/-- A list of terms, its beginning put behind its end. -/
def rotT (ts : List Trm) (k : Nat) : List Trm := ts.drop k ++ ts.take k
theorem terms_rot {w w' : World} {base n k : Nat} {v : Value} {rs : List (Value × Trm)} {ts : List Trm} (hk : k ≤ n) (h1 : rs.map (·.2) = ts) (h2 : rs.length = n) (h3 : ∀ x ∈ rs, RatsAt w x.1 x.2.1) (hb : Below w.heap.size w w') (h : w'.ownsRow base 39 3 v (n - k + k) (termCells (rs.drop k) ++ termCells (rs.take k))) :
    ∃ A c, v = .slice A (rotT ts k).length c ∧ TermsAt w' (.slice A (rotT ts k).length c) (rotT ts k) := by
  rw [← termCells_append] at h
  have e : (rs.drop k ++ rs.take k).map (·.2) = rotT ts k := by rw [List.map_append, List.map_drop, List.map_take, h1]; rfl
  have el : (rotT ts k).length = n - k + k := by rw [← e, List.length_map, List.length_append, List.length_drop, List.length_take, h2]; omega
  have hT : TermsAt w' v (rotT ts k) := by
    have o : OwnT w' base v (rotT ts k) (fun _ => False) := ⟨_, e, by rw [el]; exact h, fun x hx => ⟨(h3 x (by
      rcases List.mem_append.1 hx with g | g
      · exact List.mem_of_mem_drop g
      · exact List.mem_of_mem_take g)).below hb, fun _ _ _ q => q⟩⟩
    exact o.terms
  obtain ⟨A, c, _, e, _⟩ := id hT
  exact ⟨A, c, e, e ▸ hT⟩
theorem rot_mem (ts : List Trm) (k : Nat) (t : Trm) : t ∈ rotT ts k ↔ t ∈ ts := by
  unfold rotT
  rw [List.mem_append, Or.comm, ← List.mem_append, List.take_append_drop]
theorem u8_bd {n : Int} (h : (Lit.int .u8 n).wf = true) : 0 ≤ n ∧ n ≤ 255 := by
  simp only [Lit.wf, Bool.and_eq_true, decide_eq_true_eq] at h
  exact h

set_option maxRecDepth 10000 in
set_option maxHeartbeats 2000000 in
theorem order_out (w : World) (v : Value) (ts : List Trm) (at_ : Int) (h : TermsAt w v ts) (hs : smallT ts = false) :
    Calls Try.prog 7 #[v, .int .u8 at_] w fun e w' => e = .returned (.bool true) ∧ Below w.heap.size w w' := by
  have sm := fun (w' : World) (hb : Below w.heap.size w w') => smalls_any w' v ts (h.below hb)
  rw [hs] at sm
  have SM := Lib.hid sm
  have B0 := Lib.hid (Below.refl w.heap.size w)
  clear sm h hs
  go_enter Try.func7, Try.ntmps7
  go_wp2_with (first
    | (go_at_call 12; (with_reducible refine (awake3_yes _).mono ?_); rintro e w1 ⟨rfl, hb⟩; have B0 := Lib.hid (B0.out.trans (hb.mono B0.out.size)); clear hb)
    | (go_at_call 13; (with_reducible refine (SM.out _ B0.out).mono ?_); rintro e w2 ⟨rfl, hb⟩; have B0 := Lib.hid (B0.out.trans (hb.mono B0.out.size)); clear hb))
  go_ret
  exact ⟨rfl, B0.out⟩

set_option maxRecDepth 10000 in
set_option maxHeartbeats 2000000 in
theorem order_none (w : World) (v : Value) (at_ : Int) (h : TermsAt w v []) :
    Calls Try.prog 7 #[v, .int .u8 at_] w fun e w' => e = .returned (.bool true) ∧ Below w.heap.size w w' := by
  have sm := fun (w' : World) (hb : Below w.heap.size w w') => smalls_any w' v [] (h.below hb)
  rw [show smallT [] = true from rfl] at sm
  have SM := Lib.hid sm
  have B0 := Lib.hid (Below.refl w.heap.size w)
  obtain ⟨A, c, rs, e, _⟩ := h
  obtain rfl : v = .slice A 0 c := e
  clear sm
  go_enter Try.func7, Try.ntmps7
  go_wp2_with (first
    | (go_at_call 12; (with_reducible refine (awake3_yes _).mono ?_); rintro e w1 ⟨rfl, hb⟩; have B0 := Lib.hid (B0.out.trans (hb.mono B0.out.size)); clear hb)
    | (go_at_call 13; (with_reducible refine (SM.out _ B0.out).mono ?_); rintro e w2 ⟨rfl, hb⟩; have B0 := Lib.hid (B0.out.trans (hb.mono B0.out.size)); clear hb))
  go_ret
  exact ⟨rfl, B0.out⟩

set_option maxRecDepth 100000 in
set_option maxHeartbeats 8000000 in
theorem order_big (w : World) (v : Value) (ts : List Trm) (h : TermsAt w v ts) (hw : ∀ t ∈ ts, Wide t.1 ∧ Bd t.2) (at_ : Int) (wa : (Lit.int .u8 at_).wf = true) (hs : smallT ts = true) (hne : 0 < ts.length) :
    Calls Try.prog 7 #[v, .int .u8 at_] w fun e w' => e = .returned (.bool true) ∧ Below w.heap.size w w' := by
  obtain ⟨ba1, ba2⟩ := u8_bd wa
  obtain ⟨iT, hiT, zT0, zT1, zT2⟩ := info_parts infoT
  obtain ⟨k, hk⟩ : ∃ k : Nat, (k : Int) = at_.tmod (ts.length : Int) := ⟨(at_.tmod (ts.length : Int)).toNat, by have := Int.tmod_nonneg (ts.length : Int) ba1; omega⟩
  have hkn : k < ts.length := by
    have := Int.tmod_lt_of_pos at_ (show (0 : Int) < (ts.length : Int) by omega)
    omega
  have sml : ts.length ≤ 12 := by
    unfold smallT at hs
    rw [Bool.and_eq_true] at hs
    exact of_decide_eq_true hs.2
  have g1 := fun (w' : World) (hb : Below w.heap.size w w') => gsolve_any w' v ts (h.below hb) hw
  have hwr : ∀ t ∈ rotT ts k, Wide t.1 ∧ Bd t.2 := fun t ht => hw t ((rot_mem ts k t).1 ht)
  have g2 := fun (w' : World) (s : Value) (hs : TermsAt w' s (rotT ts k)) => gsolve_any w' s (rotT ts k) hs hwr
  have hord := solve_order (us := rotT ts k) hw (rot_mem ts k)
  have sm := fun (w' : World) (hb : Below w.heap.size w w') => smalls_any w' v ts (h.below hb)
  rw [hs] at sm
  have B0 := Lib.hid (Below.refl w.heap.size w)
  obtain ⟨A, c, rs, rfl, h2, h3, h4, h5, h6⟩ := h
  have hrn : rs.length = ts.length := by rw [← h4, List.length_map]
  obtain ⟨n, hn⟩ : ∃ n, n = ts.length := ⟨_, rfl⟩
  rw [← hn] at h2 h5 hkn sml hrn hk hne sm g1 ⊢
  have SM := Lib.hid sm
  obtain ⟨ad, rfl, hadb, hadc⟩ := h5.2 hne
  have hck : ¬ c = k := by omega
  have r1 : Reads w w.heap.size 3 (some (ad.add (k * 3))) (n - k) (termCells (rs.drop k)) := by
    have := h5.cut (k := k) (cap := c) (by omega) h2
    rw [if_neg hck, ← termCells_drop] at this
    exact this
  have r2 : Reads w w.heap.size 3 (some ad) k (termCells (rs.take k)) := by
    refine ⟨by rw [termCells_length, List.length_take, hrn]; omega, fun _ => ⟨ad, rfl, hadb, fun j u hu => hadc j u ?_⟩⟩
    rw [termCells_take, List.getElem?_take] at hu
    split at hu
    · exact hu
    · cases hu
  have RD := Lib.hid (And.intro r1 r2)
  have one := termCells_one rs fun x hx => by
    obtain ⟨A', c', e⟩ := rats_shape (h6 x hx)
    exact ⟨_, _, _, e⟩
  have ON := Lib.hid (And.intro (fun u hu => one u (by rw [termCells_drop] at hu; exact List.mem_of_mem_drop hu) : ∀ u ∈ termCells (rs.drop k), u.oneCell' = true) (fun u hu => one u (by rw [termCells_take] at hu; exact List.mem_of_mem_take hu) : ∀ u ∈ termCells (rs.take k), u.oneCell' = true))
  have LN := Lib.hid (And.intro (by unfold maxLen; omega : 0 + (n - k) ≤ maxLen) (And.intro (by omega : (0 + (n - k)) * 40 ≤ 140737488355328) (And.intro (by unfold maxLen; omega : n - k + k ≤ maxLen) (by omega : (n - k + k) * 40 ≤ 140737488355328))))
  have RS := Lib.hid (And.intro h4 (And.intro hrn h6))
  generalize solveT ts = q1 at g1 hord
  generalize solveT (rotT ts k) = q2 at g2 hord
  obtain ⟨⟨a, p⟩, z⟩ := q1
  obtain ⟨⟨b, p'⟩, z'⟩ := q2
  dsimp only at *
  have G1 := Lib.hid g1
  have G2 := Lib.hid g2
  have j1 : ((n : Int) == 0) = false := by rw [beq_eq_false_iff_ne]; omega
  have j2 : ¬ (n : Int) = 0 := by omega
  have j3 : at_.tmod (n : Int) = (k : Int) := hk.symm
  have j4 : IntKind.i64.wrap at_ = at_ := IntWalk.i64_in _ (by omega)
  have j5 : (k : Int) ≤ (n : Int) := by omega
  have j6 : (0 : Int) ≤ (k : Int) := by omega
  have j7 : (k : Int) ≤ (c : Int) := by omega
  have j8 : (n : Int) ≤ (c : Int) := by omega
  have j9 : k ≤ n := by omega
  have j10 : k ≤ c := by omega
  clear sm g1 g2 hs h2 h3 h4 h5 h6 r1 r2 one hadc hadb hn hk wa ba1 ba2 hwr hw sml
  go_enter Try.func7, Try.ntmps7
  go_upto_region 4 with (first
    | (go_at_call 12; (with_reducible refine (awake3_yes _).mono ?_); rintro e w1 ⟨rfl, hb⟩; have B0 := Lib.hid (B0.out.trans (hb.mono B0.out.size)); clear hb)
    | (go_at_call 13; (with_reducible refine (SM.out _ B0.out).mono ?_); rintro e w2 ⟨rfl, hb⟩; have HSX := Lib.hid (B0.out.trans (hb.mono B0.out.size)); clear hb))
  have HSY := HSX.out.drew
  refine wp_region_noPanic ?_
  refine wp_region_held_drew (S := (fun w' => Below w.heap.size w w')) (by kernel_rfl) HSY (fun hHeld => ?_)
  refine wpAnyH_take (i := 1) (oi := _) (v := ?_) rfl (by kernel_rfl) (by kernel_rfl) (by kernel_rfl) (fun _ _ _ h => h) (Or.inl ⟨by rfl, ?_⟩) (by assumption) ?_
  rotate_left
  · intro ww hSw
    (try dsimp only at hSw)
    go_simp <;> with_reducible rfl
  (try simp only [List.getElem_toArray, List.getElem_cons_succ, List.getElem_cons_zero, Act.put, List.setIfInBounds_toArray, List.set_cons_zero, List.set_cons_succ])
  refine wpAnyH_take (i := 2) (oi := _) (v := ?_) rfl (by kernel_rfl) (by kernel_rfl) (by kernel_rfl) (fun _ _ _ h => h) (Or.inl ⟨by rfl, ?_⟩) (by assumption) ?_
  rotate_left
  · intro ww hSw
    (try dsimp only at hSw)
    go_simp <;> with_reducible rfl
  (try simp only [List.getElem_toArray, List.getElem_cons_succ, List.getElem_cons_zero, Act.put, List.setIfInBounds_toArray, List.set_cons_zero, List.set_cons_succ])
  refine wpAnyH_take (i := 3) (oi := _) (v := ?_) rfl (by kernel_rfl) (by kernel_rfl) (by kernel_rfl) (fun _ _ _ h => h) (Or.inl ⟨by rfl, ?_⟩) (by assumption) ?_
  rotate_left
  · intro ww hSw
    (try dsimp only at hSw)
    go_simp <;> with_reducible rfl
  (try simp only [List.getElem_toArray, List.getElem_cons_succ, List.getElem_cons_zero, Act.put, List.setIfInBounds_toArray, List.set_cons_zero, List.set_cons_succ])
  refine wpAnyH_take (i := 5) (oi := _) (v := ?_) rfl (by kernel_rfl) (by kernel_rfl) (by kernel_rfl) (fun _ _ _ h => h) (Or.inl ⟨by rfl, ?_⟩) (by assumption) ?_
  rotate_left
  · intro ww hSw
    (try dsimp only at hSw)
    go_simp <;> with_reducible rfl
  (try simp only [List.getElem_toArray, List.getElem_cons_succ, List.getElem_cons_zero, Act.put, List.setIfInBounds_toArray, List.set_cons_zero, List.set_cons_succ])
  refine wpAnyH_take (i := 6) (oi := _) (v := ?_) rfl (by kernel_rfl) (by kernel_rfl) (by kernel_rfl) (fun _ _ _ h => h) (Or.inl ⟨by rfl, ?_⟩) (by assumption) ?_
  rotate_left
  · intro ww hSw
    (try dsimp only at hSw)
    go_simp <;> with_reducible rfl
  (try simp only [List.getElem_toArray, List.getElem_cons_succ, List.getElem_cons_zero, Act.put, List.setIfInBounds_toArray, List.set_cons_zero, List.set_cons_succ])
  refine wpAnyH_take (i := 7) (oi := _) (v := ?_) rfl (by kernel_rfl) (by kernel_rfl) (by kernel_rfl) (fun _ _ _ h => h) (Or.inl ⟨by rfl, ?_⟩) (by assumption) ?_
  rotate_left
  · intro ww hSw
    (try dsimp only at hSw)
    go_simp <;> with_reducible rfl
  (try simp only [List.getElem_toArray, List.getElem_cons_succ, List.getElem_cons_zero, Act.put, List.setIfInBounds_toArray, List.set_cons_zero, List.set_cons_succ])
  refine wpAnyH_ready (rs := [0]) (by kernel_rfl) (by simp) ?_
  refine AllReadyH.cons (o := _) rfl (fun K hK => ?_) AllReadyH.nil
  go_simp
  (first | refine hK.out _ _ ((HSX.out.alloc HSX.out.size _).drew) (fun hH2 => ?_) | refine hK.out _ _ ((HSX.out.drew).alloc HSX.out.size _) (fun hH2 => ?_))
  clear hK K hHeld
  have hHeld := hH2
  clear hH2
  (try simp only [List.getElem_toArray, List.getElem_cons_zero, Act.put, List.setIfInBounds_toArray, List.set_cons_zero, List.set_cons_succ])
  refine wpAnyH_ready (rs := [4]) (by kernel_rfl) (by simp) ?_
  refine AllReadyH.cons (o := _) rfl (fun K hK => ?_) AllReadyH.nil
  refine step_append_any _ rfl _ _ 22 rfl w.heap.size 39 iT (.agg #[.slice none 0 0, .int .i64 0, .int .i64 0]) 3 40 Try.underlying22 hiT zT0 zT1 zT2 rfl (by decide) _ 0 [] rfl (own_base (own_emptyT w2.drew) HSX.out.size) w.heap.size (some (ad.add (k * 3))) (n - k) (c - k) (termCells (rs.drop k)) rfl (RD.out.1.below hHeld) ON.out.1 LN.out.1 LN.out.2.1 (by have := HSX.out.size; simp; omega) (fun v4 w4 hown hgrow hat => ?_)
  have ow4 := Lib.hid (show w4.ownsRow w.heap.size 39 3 v4 (n - k) (termCells (rs.drop k)) by simpa using hown)
  have b4 : Below w.heap.size w w4 := hHeld.grown hgrow hHeld.size (fun q hq => by have e : w2.heap.size = q := Option.some.inj (show some w2.heap.size = some q from hq); have := HSX.out.size; omega)
  refine hK.out _ _ b4 (fun hH2 => ?_)
  clear hK K hHeld hown hgrow hat b4
  have hHeld := hH2
  clear hH2
  (try simp only [List.getElem_toArray, List.getElem_cons_succ, List.getElem_cons_zero, Act.put, List.setIfInBounds_toArray, List.set_cons_zero, List.set_cons_succ])
  refine wpAnyH_ready (rs := [8]) (by kernel_rfl) (by simp) ?_
  refine AllReadyH.cons (o := _) rfl (fun K hK => ?_) AllReadyH.nil
  refine step_append_any _ rfl _ _ 22 rfl w.heap.size 39 iT (.agg #[.slice none 0 0, .int .i64 0, .int .i64 0]) 3 40 Try.underlying22 hiT zT0 zT1 zT2 rfl (by decide) _ (n - k) (termCells (rs.drop k)) rfl ow4.out w.heap.size (some ad) k c (termCells (rs.take k)) rfl (RD.out.2.below hHeld) ON.out.2 LN.out.2.2.1 LN.out.2.2.2 hHeld.size (fun v8 w8 hown hgrow hat => ?_)
  have b8 : Below w.heap.size w w8 := hHeld.grown hgrow hHeld.size (fun q hq => (ow4.out.lt q hq).1)
  have HROT := Lib.hid (terms_rot (by have := LN.out.2.2.1; omega) RS.out.1 RS.out.2.1 RS.out.2.2 b8 hown)
  refine hK.out _ _ b8 (fun hH2 => ?_)
  clear hK K hHeld hown hgrow hat b8
  have hHeld := hH2
  clear hH2
  (try simp only [List.getElem_toArray, List.getElem_cons_succ, List.getElem_cons_zero, Act.put, List.setIfInBounds_toArray, List.set_cons_zero, List.set_cons_succ])
  refine wpAnyH_take (i := 9) (oi := _) (v := ?_) rfl (by kernel_rfl) (by kernel_rfl) (by kernel_rfl) (fun _ _ _ h => h) (Or.inl ⟨by rfl, ?_⟩) (by assumption) ?_
  rotate_left
  · intro ww hSw
    (try dsimp only at hSw)
    go_simp <;> with_reducible rfl
  (try simp only [List.getElem_toArray, List.getElem_cons_succ, List.getElem_cons_zero, Act.put, List.setIfInBounds_toArray, List.set_cons_zero, List.set_cons_succ])
  refine wpAnyH_done (by kernel_rfl) ?_ _
  refine NoPanic.normal ?_
  obtain ⟨A8, c8, rfl, hT8⟩ := HROT.out
  have HT8 := Lib.hid hT8
  have B8 := Lib.hid hHeld
  have ORD := Lib.hid hord
  clear hHeld HROT hT8 ow4 HSX HSY RD ON LN RS SM j1 j2 j3 j4 j5 j6 j7 j8 j9 j10 hord hck hne hrn hkn
  have SAM := Lib.hid (fun (w' : World) (s s' : Value) (hs : TermsAt w' s a) (hs' : TermsAt w' s' a) => (rsame_any w' s s' a a hs hs').mono fun e w2 (q : e = .returned (.bool (decide (a = a))) ∧ Below w'.heap.size w' w2) => (⟨by rw [q.1]; simp, q.2⟩ : e = .returned (.bool true) ∧ Below w'.heap.size w' w2))
  have INT := Lib.hid (fun (w' : World) (s s' : Value) (hs : IntsAt w' s p) (hs' : IntsAt w' s' p) => (rints_any w' s s' p p hs hs').mono fun e w2 (q : e = .returned (.bool (decide (p = p))) ∧ Below w'.heap.size w' w2) => (⟨by rw [q.1]; simp, q.2⟩ : e = .returned (.bool true) ∧ Below w'.heap.size w' w2))
  go_upto_region 7 with (go_at_call 14; (first
      | (with_reducible refine (G1.out _ B8.out).mono ?_); rintro e w9 ⟨A9, c9, B9, d9, rfl, hT, hI, hb⟩; have HT8 := Lib.hid (HT8.out.below hb); have B9 := Lib.hid (B8.out.trans (hb.mono B8.out.size)); have HT := Lib.hid hT; have HI := Lib.hid hI; clear hb hT hI B8
      | (with_reducible refine (G2.out _ _ HT8.out).mono ?_); rintro e w10 ⟨A10, c10, B10, d10, rfl, hT, hI, hb⟩; have HT := Lib.hid (HT.out.below hb); have HI := Lib.hid (HI.out.below hb); have B10 := Lib.hid (B9.out.trans (hb.mono B9.out.size)); have HT10 := Lib.hid hT; have HI10 := Lib.hid hI; clear hb hT hI))
  by_cases hz : z = 2
  · have e1 : (z == 2) = true := by simpa using hz
    clear hz
    go_wp2_with fail
    go_ret
    exact ⟨rfl, B10.out⟩
  by_cases hz' : z' = 2
  · have e1 : (z == 2) = false := by simpa using hz
    have e2 : (z' == 2) = true := by simpa using hz'
    clear hz hz'
    go_wp2_with fail
    go_ret
    exact ⟨rfl, B10.out⟩
  have e1 : (z == 2) = false := by simpa using hz
  have e2 : (z' == 2) = false := by simpa using hz'
  have eq := ORD.out hz hz'
  simp only [Prod.mk.injEq] at eq
  obtain ⟨⟨rfl, rfl⟩, rfl⟩ := eq
  have e3 : (z == z) = true := by simp
  clear hz hz'
  go_wp2_with (first
    | (go_at_call 17; (with_reducible refine (INT.out _ _ _ HI.out HI10.out).mono ?_); rintro e w11 ⟨rfl, hb⟩; have HT := Lib.hid (HT.out.below hb); have HT10 := Lib.hid (HT10.out.below hb); have B11 := Lib.hid (B10.out.trans (hb.mono B10.out.size)); clear hb)
    | (go_at_call 16; (with_reducible refine (SAM.out _ _ _ HT.out HT10.out).mono ?_); rintro e w12 ⟨rfl, hb⟩; have B12 := Lib.hid (B11.out.trans (hb.mono B11.out.size)); clear hb))
  go_ret
  exact ⟨rfl, B12.out⟩

theorem order_any (w : World) (v : Value) (ts : List Trm) (h : TermsAt w v ts) (hw : ∀ t ∈ ts, Wide t.1 ∧ Bd t.2) (at_ : Int) (wa : (Lit.int .u8 at_).wf = true) :
    Calls Try.prog 7 #[v, .int .u8 at_] w fun e w' => e = .returned (.bool true) ∧ Below w.heap.size w w' := by
  cases hs : smallT ts
  · exact order_out w v ts at_ h hs
  · rcases Nat.eq_zero_or_pos ts.length with g | g
    · obtain rfl := List.eq_nil_of_length_eq_zero g
      exact order_none w v at_ h
    · exact order_big w v ts h hw at_ wa hs g
end Go.Proofs.Ytocmhidkfjahcaa
