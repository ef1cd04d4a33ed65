/-
  What a solvable system's answer is; the walk of GaussPivots. (Template: by-name.py fills it; gen/genGauQ.py writes it.)
-/
import Derived.Test.YtkinbbhbencipaaJG
import Derived.Test.YtkinbbhbencipaaJH
import Derived.Test.YtkinbbhbencipaaJS
namespace Go.Proofs.Ytkinbbhbencipaa
open Go.RowKit

theorem trms_ok {ts : List Trm} (hw : ∀ t ∈ ts, Wide t.1 ∧ Bd t.2) (h : ts.any prWrong = false) : ∀ t ∈ ts, TrmOk t := fun t ht => by
  have q : prWrong t = false := by
    cases e : prWrong t
    · rfl
    · have := List.any_eq_true.2 ⟨t, ht, e⟩
      rw [h] at this
      cases this
  unfold prWrong at q
  obtain ⟨p, a, b⟩ := right_parts (by simpa using q) (hw t ht).1 (hw t ht).2.1.1 (hw t ht).2.1.2 (hw t ht).2.2.1 (hw t ht).2.2.2
  exact ⟨a, b, p⟩
theorem solveT_sat {ts a : List Trm} {p : List Int} (hw : ∀ t ∈ ts, Wide t.1 ∧ Bd t.2) (h : solveT ts = ((a, p), 0)) : (∀ t ∈ ts, TrmOk t) ∧ ∃ l, solveK ts 8 = some (l, a, p) ∧ l.any prK = false := by
  unfold solveT at h
  split at h
  · rename_i g
    refine ⟨trms_ok hw g.2, ?_⟩
    split at h
    · simp at h
    · rename_i s hs
      split at h
      · simp at h
      · rename_i hq
        obtain ⟨l, a', p'⟩ := s
        simp only [Prod.mk.injEq, and_true] at h
        obtain ⟨rfl, rfl⟩ := h
        exact ⟨l, hs, by simpa using hq⟩
  · simp at h
theorem solveT_code (ts : List Trm) : (solveT ts).2 = 0 ∨ ((solveT ts).2 = 1 ∧ (solveT ts).1 = ([], [])) ∨ ((solveT ts).2 = 2 ∧ (solveT ts).1 = ([], [])) := by
  unfold solveT
  split
  · split
    · exact .inr (.inr ⟨rfl, rfl⟩)
    · split
      · exact .inr (.inl ⟨rfl, rfl⟩)
      · exact .inl rfl
  · exact .inr (.inr ⟨rfl, rfl⟩)

/-- A variable that is taken stands once. -/
structure PivOk (a : List Trm) (p : List Int) : Prop where
  len : a.length = p.length
  rng : ∀ (i : Nat) (x : Int), p[i]? = some x → 0 ≤ x ∧ x < 8
  inc : ∀ (i j : Nat) (x y : Int), i < j → p[i]? = some x → p[j]? = some y → x < y
  at_ : ∀ (i k : Nat) (x : Int) (t : Trm), p[i]? = some x → a[k]? = some t → atL t.1 x = if k = i then (1, 1) else (0, 1)
theorem piv_ok {ts a : List Trm} {p : List Int} (hw : ∀ t ∈ ts, Wide t.1 ∧ Bd t.2) (h : solveT ts = ((a, p), 0)) : PivOk a p := by
  obtain ⟨hok, l, hk, _⟩ := solveT_sat hw h
  obtain ⟨so, E⟩ := ech_all hok 8 _ hk
  refine ⟨so.ql, E.rng, E.inc, fun i k x t hx ht => ?_⟩
  have u := E.unit i k x t hx ht
  have ok := (so.q t (List.mem_of_getElem? ht)).ok.at x
  by_cases g : k = i
  · rw [if_pos g]
    rw [if_pos g.symm] at u
    exact ok.inj okR_one (by rw [q_one]; exact u)
  · rw [if_neg g]
    rw [if_neg (fun e => g e.symm)] at u
    exact ok.inj okR_nought (by rw [q_zero]; exact u)

/-- What stands in memory in the inner round. -/
structure PivS (w3 wr : World) (b8 : Nat) (q1 : Int) : Prop where
  b : Below w3.heap.size w3 wr
  k0 : wr.cell? ⟨b8, 0, none⟩ = some (.int .i64 q1)
  k1 : wr.cell? ⟨b8, 1, none⟩ = some (.int .i64 1)
theorem PivS.keep {w3 wr w2 : World} {b8 : Nat} {q1 : Int} (h : PivS w3 wr b8 q1) (hb : Below wr.heap.size wr w2) : PivS w3 w2 b8 q1 :=
  ⟨h.b.trans (hb.mono h.b.size), keep_cell hb (World.block_lt_of_cell? _ _ h.k0) h.k0, keep_cell hb (World.block_lt_of_cell? _ _ h.k1) h.k1⟩
abbrev PivC (w' : World) (ad bd : Addr) (k i b8 : Nat) (x0 : Value) (x1 x2 y q1 : Int) : Prop :=
  (w'.cell? (ad.add (k * 3)) = some x0 ∧ w'.cell? ⟨(ad.add (k * 3)).block, (ad.add (k * 3)).off + 1, none⟩ = some (.int .i64 x1) ∧ w'.cell? ⟨(ad.add (k * 3)).block, (ad.add (k * 3)).off + 2, none⟩ = some (.int .i64 x2)) ∧ w'.cell? (bd.add i) = some (.int .i64 y) ∧ w'.cell? ⟨b8, 0, none⟩ = some (.int .i64 q1) ∧ w'.cell? ⟨b8, 1, none⟩ = some (.int .i64 1)
abbrev PivD (w' : World) (ad bd : Addr) (k i : Nat) (x0 : Value) (x1 x2 y : Int) : Prop :=
  (w'.cell? (ad.add (k * 3)) = some x0 ∧ w'.cell? ⟨(ad.add (k * 3)).block, (ad.add (k * 3)).off + 1, none⟩ = some (.int .i64 x1) ∧ w'.cell? ⟨(ad.add (k * 3)).block, (ad.add (k * 3)).off + 2, none⟩ = some (.int .i64 x2)) ∧ w'.cell? (bd.add i) = some (.int .i64 y)
theorem hold_piv {w3 wr w2 : World} {ad bd : Addr} {k i b8 : Nat} {x0 : Value} {x1 x2 y q1 : Int} {C : Prop} (CE : ∀ w', Below w3.heap.size w3 w' → PivD w' ad bd k i x0 x1 x2 y) (hb : Below wr.heap.size wr w2) (h : C ∧ PivS w3 wr b8 q1) : PivC w2 ad bd k i b8 x0 x1 x2 y q1 ∧ PivS w3 w2 b8 q1 :=
  have s := h.2.keep hb
  have c := CE w2 s.b
  ⟨⟨c.1, c.2, s.k0, s.k1⟩, s⟩
theorem piv_of {w3 wr : World} {b8 : Nat} {q1 : Int} {C : Prop} (h : C ∧ PivS w3 wr b8 q1) : PivS w3 wr b8 q1 := h.2



end Go.Proofs.Ytkinbbhbencipaa
