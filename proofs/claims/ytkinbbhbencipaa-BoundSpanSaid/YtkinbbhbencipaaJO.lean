/-
  Plain: one variable goes out of a system, and all variables; substitution. (Template: by-name.py fills it.)
-/
import Derived.Test.YtkinbbhbencipaaJN
import Derived.Test.YtkinbbhbencipaaJL
namespace Go.Proofs.Ytkinbbhbencipaa
open Go.RowKit

theorem scaleO_ok {t u : Trm} {b : Int × Int} (ht : TrmOk t) (hb : OkR b) (h : scaleO t b = some u) : TrmOk u := by
  unfold scaleO at h
  split at h
  · rename_i g
    obtain rfl := Option.some.inj h
    obtain ⟨_, _, _, _, P⟩ := times_put ht.ok.wide ht.k.wide hb.wide g
    exact ⟨P.ok, P.okk, P.len⟩
  · cases h
theorem addO_ok {t u r : Trm} (ht : TrmOk t) (hu : TrmOk u) (h : addO t u = some r) : TrmOk r := by
  unfold addO at h
  split at h
  · rename_i g
    obtain rfl := Option.some.inj h
    obtain ⟨_, _, _, _, _, _, P⟩ := sum_put ht.ok.wide hu.ok.wide ht.k.wide hu.k.wide g
    exact ⟨P.ok, P.okk, P.len⟩
  · cases h

/-- One by the size of a number. -/
def invA (x : Int × Int) : Int × Int := (x.2, (x.1.natAbs : Int))
theorem okR_invA {x : Int × Int} (h : OkR x) (hn : x.1 ≠ 0) : OkR (invA x) := by
  have := okR_inv h hn
  obtain ⟨d, e, v⟩ := h
  refine ⟨x.1.natAbs, rfl, by omega, ?_, ?_, ?_⟩
  · have := v.n_le; omega
  · unfold invA; have := v.d_le; rw [e]; omega
  · unfold invA
    show Nat.gcd x.2.natAbs x.1.natAbs = 1
    have := v.low
    rw [e, Int.natAbs_natCast, Nat.gcd_comm]
    exact this
theorem rat_div_pos {a b : Rat} (ha : 0 < a) (hb : 0 < b) : 0 < a / b := (Rat.lt_div_iff hb).2 (by grind)
theorem q_invA_pos {x : Int × Int} (h : OkR x) (hn : 0 < x.1) : q (invA x) * q x = 1 ∧ 0 < q (invA x) ∧ 0 < q x := by
  obtain ⟨d, e, v⟩ := id h
  have a := h.ne
  have hd : 0 < (x.2 : Rat) := by rw [e]; exact_mod_cast v.pos
  have hx : 0 < (x.1 : Rat) := by exact_mod_cast hn
  have ee : ((x.1.natAbs : Int) : Rat) = (x.1 : Rat) := by
    have : (x.1.natAbs : Int) = x.1 := by omega
    rw [this]
  have p1 : 0 < q x := by unfold q; exact rat_div_pos hx hd
  have p2 : 0 < q (invA x) := by unfold q invA; dsimp only; rw [ee]; exact rat_div_pos hd hx
  refine ⟨?_, p2, p1⟩
  unfold q invA
  dsimp only
  rw [ee]
  grind
theorem q_invA_neg {x : Int × Int} (h : OkR x) (hn : x.1 < 0) : q x * q (invA x) = -1 ∧ 0 < q (invA x) ∧ q x < 0 := by
  obtain ⟨d, e, v⟩ := id h
  have a := h.ne
  have hd : 0 < (x.2 : Rat) := by rw [e]; exact_mod_cast v.pos
  have hx : 0 < -(x.1 : Rat) := by
    have : 0 < -x.1 := by omega
    have : (0 : Rat) < ((-x.1 : Int) : Rat) := by exact_mod_cast this
    push_cast at this
    exact this
  have ee : ((x.1.natAbs : Int) : Rat) = -(x.1 : Rat) := by
    have : (x.1.natAbs : Int) = -x.1 := by omega
    rw [this]
    push_cast
    rfl
  have p1 : 0 < -(q x) := by
    have := rat_div_pos hx hd
    unfold q
    grind
  have p2 : 0 < q (invA x) := by unfold q invA; dsimp only; rw [ee]; exact rat_div_pos hd hx
  refine ⟨?_, p2, by grind⟩
  unfold q invA
  dsimp only
  rw [ee]
  grind

abbrev Sorted := List Rw × List Rw × List Rw
def sortStep (v : Int) (s : Sorted) (r : Rw) : Option Sorted :=
  if (atL r.2.1 v).1 = 0 then some (s.1 ++ [r], s.2.1, s.2.2)
  else match scaleO r.2 (invA (atL r.2.1 v)) with
    | none => none
    | some t => if 0 < (atL r.2.1 v).1 then some (s.1, s.2.1 ++ [(r.1, t)], s.2.2) else some (s.1, s.2.1, s.2.2 ++ [(r.1, t)])
def sortO (v : Int) : Sorted → List Rw → Option Sorted
  | s, [] => some s
  | s, r :: l => (sortStep v s r).bind fun s' => sortO v s' l
theorem sortO_snoc (v : Int) (r : Rw) : ∀ (l : List Rw) (s : Sorted), sortO v s (l ++ [r]) = (sortO v s l).bind fun s' => sortStep v s' r
  | [], s => by simp only [List.nil_append, sortO, Option.bind_some]; cases sortStep v s r <;> rfl
  | x :: l, s => by
    rw [List.cons_append, sortO, sortO]
    cases sortStep v s x with
    | none => rfl
    | some s' => exact sortO_snoc v r l s'

/-- The row t is the row r, so many times. -/
def Scaled (r t : Rw) : Prop := t.1 = r.1 ∧ TrmOk t.2 ∧ ∃ k : Rat, 0 < k ∧ (∀ i, co t.2 i = co r.2 i * k) ∧ q t.2.2 = q r.2.2 * k
structure SortIs (v : Int) (s s' : Sorted) (l : List Rw) : Prop where
  o : ∀ r, r ∈ s'.1 ↔ r ∈ s.1 ∨ (r ∈ l ∧ co r.2 v = 0)
  lo : ∀ t ∈ s'.2.1, t ∈ s.2.1 ∨ ∃ r ∈ l, Scaled r t ∧ co t.2 v = 1
  lo' : (∀ t ∈ s.2.1, t ∈ s'.2.1) ∧ ∀ r ∈ l, 0 < co r.2 v → ∃ t ∈ s'.2.1, Scaled r t
  up : ∀ t ∈ s'.2.2, t ∈ s.2.2 ∨ ∃ r ∈ l, Scaled r t ∧ co t.2 v = -1
  up' : (∀ t ∈ s.2.2, t ∈ s'.2.2) ∧ ∀ r ∈ l, co r.2 v < 0 → ∃ t ∈ s'.2.2, Scaled r t
theorem sort_is (v : Int) : ∀ (l : List Rw) (s s' : Sorted), (∀ r ∈ l, TrmOk r.2) → sortO v s l = some s' → SortIs v s s' l
  | [], s, s', _, h => by
    obtain rfl := Option.some.inj h
    exact ⟨fun r => by simp, fun t ht => .inl ht, ⟨fun t ht => ht, fun r hr => by cases hr⟩, fun t ht => .inl ht, ⟨fun t ht => ht, fun r hr => by cases hr⟩⟩
  | r :: l, s, s', hl, h => by
    have hr := hl r (by simp)
    have hl' := fun x hx => hl x (List.mem_cons_of_mem r hx)
    have hat := hr.ok.at v
    rw [sortO] at h
    by_cases hz : (atL r.2.1 v).1 = 0
    · have e : sortStep v s r = some (s.1 ++ [r], s.2.1, s.2.2) := if_pos hz
      rw [e] at h
      have I := sort_is v l _ s' hl' h
      have cz : co r.2 v = 0 := (q_eq hat).2 hz
      refine ⟨fun t => ?_, fun t ht => ?_, ⟨I.lo'.1, fun t ht hp => ?_⟩, fun t ht => ?_, ⟨I.up'.1, fun t ht hp => ?_⟩⟩
      · rw [I.o t]
        simp only [List.mem_append, List.mem_cons, List.not_mem_nil, or_false]
        constructor
        · rintro ((a | rfl) | ⟨a, b⟩)
          · exact .inl a
          · exact .inr ⟨.inl rfl, cz⟩
          · exact .inr ⟨.inr a, b⟩
        · rintro (a | ⟨rfl | a, b⟩)
          · exact .inl (.inl a)
          · exact .inl (.inr rfl)
          · exact .inr ⟨a, b⟩
      · rcases I.lo t ht with a | ⟨x, hx, a⟩
        · exact .inl a
        · exact .inr ⟨x, List.mem_cons_of_mem _ hx, a⟩
      · rcases List.mem_cons.1 ht with rfl | ht
        · rw [cz] at hp; grind
        · exact I.lo'.2 t ht hp
      · rcases I.up t ht with a | ⟨x, hx, a⟩
        · exact .inl a
        · exact .inr ⟨x, List.mem_cons_of_mem _ hx, a⟩
      · rcases List.mem_cons.1 ht with rfl | ht
        · rw [cz] at hp; grind
        · exact I.up'.2 t ht hp
    · have cz : co r.2 v ≠ 0 := fun e => hz ((q_eq hat).1 e)
      cases hu : scaleO r.2 (invA (atL r.2.1 v)) with
      | none =>
        have e : sortStep v s r = none := by unfold sortStep; rw [if_neg hz, hu]
        rw [e] at h
        cases h
      | some u =>
        have oi := okR_invA hat hz
        obtain ⟨c1, c2⟩ := scaleO_q hr oi hu
        have ok := scaleO_ok hr oi hu
        by_cases hp : 0 < (atL r.2.1 v).1
        · have e : sortStep v s r = some (s.1, s.2.1 ++ [(r.1, u)], s.2.2) := by unfold sortStep; rw [if_neg hz, hu]; exact if_pos hp
          rw [e] at h
          have I := sort_is v l _ s' hl' h
          obtain ⟨q1, q2, q3⟩ := q_invA_pos hat hp
          have sc : Scaled r (r.1, u) := ⟨rfl, ok, _, q2, c1, c2⟩
          have one : co u v = 1 := by rw [c1 v]; unfold co; grind
          have pos : 0 < co r.2 v := q3
          refine ⟨fun t => ?_, fun t ht => ?_, ⟨fun t ht => I.lo'.1 t (by simp [ht]), fun t ht hp => ?_⟩, fun t ht => ?_, ⟨I.up'.1, fun t ht hp => ?_⟩⟩
          · rw [I.o t]
            constructor
            · rintro (a | ⟨a, b⟩)
              · exact .inl a
              · exact .inr ⟨List.mem_cons_of_mem _ a, b⟩
            · rintro (a | ⟨a, b⟩)
              · exact .inl a
              · rcases List.mem_cons.1 a with rfl | a
                · exact absurd b cz
                · exact .inr ⟨a, b⟩
          · rcases I.lo t ht with a | ⟨x, hx, a⟩
            · rcases List.mem_append.1 a with a | a
              · exact .inl a
              · obtain rfl := List.mem_singleton.1 a
                exact .inr ⟨r, by simp, sc, one⟩
            · exact .inr ⟨x, List.mem_cons_of_mem _ hx, a⟩
          · rcases List.mem_cons.1 ht with rfl | ht
            · exact ⟨_, I.lo'.1 _ (by simp), sc⟩
            · exact I.lo'.2 t ht hp
          · rcases I.up t ht with a | ⟨x, hx, a⟩
            · exact .inl a
            · exact .inr ⟨x, List.mem_cons_of_mem _ hx, a⟩
          · rcases List.mem_cons.1 ht with rfl | ht
            · grind
            · exact I.up'.2 t ht hp
        · have e : sortStep v s r = some (s.1, s.2.1, s.2.2 ++ [(r.1, u)]) := by unfold sortStep; rw [if_neg hz, hu]; exact if_neg hp
          rw [e] at h
          have I := sort_is v l _ s' hl' h
          obtain ⟨q1, q2, q3⟩ := q_invA_neg hat (by omega)
          have sc : Scaled r (r.1, u) := ⟨rfl, ok, _, q2, c1, c2⟩
          have one : co u v = -1 := by rw [c1 v]; exact q1
          have neg : co r.2 v < 0 := q3
          refine ⟨fun t => ?_, fun t ht => ?_, ⟨I.lo'.1, fun t ht hp => ?_⟩, fun t ht => ?_, ⟨fun t ht => I.up'.1 t (by simp [ht]), fun t ht hp => ?_⟩⟩
          · rw [I.o t]
            constructor
            · rintro (a | ⟨a, b⟩)
              · exact .inl a
              · exact .inr ⟨List.mem_cons_of_mem _ a, b⟩
            · rintro (a | ⟨a, b⟩)
              · exact .inl a
              · rcases List.mem_cons.1 a with rfl | a
                · exact absurd b cz
                · exact .inr ⟨a, b⟩
          · rcases I.lo t ht with a | ⟨x, hx, a⟩
            · exact .inl a
            · exact .inr ⟨x, List.mem_cons_of_mem _ hx, a⟩
          · rcases List.mem_cons.1 ht with rfl | ht
            · grind
            · exact I.lo'.2 t ht hp
          · rcases I.up t ht with a | ⟨x, hx, a⟩
            · rcases List.mem_append.1 a with a | a
              · exact .inl a
              · obtain rfl := List.mem_singleton.1 a
                exact .inr ⟨r, by simp, sc, one⟩
            · exact .inr ⟨x, List.mem_cons_of_mem _ hx, a⟩
          · rcases List.mem_cons.1 ht with rfl | ht
            · exact ⟨_, I.up'.1 _ (by simp), sc⟩
            · exact I.up'.2 t ht hp
end Go.Proofs.Ytkinbbhbencipaa

namespace Go.Proofs.Ytkinbbhbencipaa
open Go.RowKit

def sumOp (a b : Rw) : Int := if a.1 = 2 ∨ b.1 = 2 then 2 else 1
def rowSum (a b : Rw) : Option Rw := (addO a.2 b.2).map fun t => (sumOp a b, t)
def sumsA (a : Rw) : List Rw → List Rw → Option (List Rw)
  | acc, [] => some acc
  | acc, b :: r => (rowSum a b).bind fun t => sumsA a (acc ++ [t]) r
def sumsO : List Rw → List Rw → List Rw → Option (List Rw)
  | acc, [], _ => some acc
  | acc, a :: r, up => (sumsA a acc up).bind fun acc' => sumsO acc' r up
/-- The rows without a variable, and the sums. -/
def withO (s : Sorted) : Option (List Rw) := if 400 < s.1.length + s.2.1.length * s.2.2.length then none else sumsO s.1 s.2.1 s.2.2

theorem sumsA_is (a : Rw) : ∀ (up acc res : List Rw), sumsA a acc up = some res → (∀ t, t ∈ res ↔ t ∈ acc ∨ ∃ b ∈ up, rowSum a b = some t) ∧ ∀ b ∈ up, ∃ t, rowSum a b = some t
  | [], acc, res, h => by
    obtain rfl := Option.some.inj h
    exact ⟨fun t => by simp, fun b hb => by cases hb⟩
  | b :: r, acc, res, h => by
    rw [sumsA] at h
    cases e : rowSum a b with
    | none => rw [e] at h; cases h
    | some u =>
      rw [e] at h
      obtain ⟨i1, i2⟩ := sumsA_is a r _ res h
      refine ⟨fun t => ?_, fun c hc => ?_⟩
      · rw [i1 t]
        simp only [List.mem_append, List.mem_cons, List.not_mem_nil, or_false]
        constructor
        · rintro ((x | rfl) | ⟨c, hc, x⟩)
          · exact .inl x
          · exact .inr ⟨b, .inl rfl, e⟩
          · exact .inr ⟨c, .inr hc, x⟩
        · rintro (x | ⟨c, rfl | hc, x⟩)
          · exact .inl (.inl x)
          · rw [e] at x
            exact .inl (.inr (Option.some.inj x).symm)
          · exact .inr ⟨c, hc, x⟩
      · rcases List.mem_cons.1 hc with rfl | hc
        · exact ⟨u, e⟩
        · exact i2 c hc
theorem sumsO_is (up : List Rw) : ∀ (lo acc res : List Rw), sumsO acc lo up = some res → (∀ t, t ∈ res ↔ t ∈ acc ∨ ∃ a ∈ lo, ∃ b ∈ up, rowSum a b = some t) ∧ ∀ a ∈ lo, ∀ b ∈ up, ∃ t, rowSum a b = some t
  | [], acc, res, h => by
    obtain rfl := Option.some.inj h
    exact ⟨fun t => by simp, fun b hb => by cases hb⟩
  | a :: r, acc, res, h => by
    rw [sumsO] at h
    cases e : sumsA a acc up with
    | none => rw [e] at h; cases h
    | some u =>
      rw [e] at h
      obtain ⟨j1, j2⟩ := sumsA_is a up acc u e
      obtain ⟨i1, i2⟩ := sumsO_is up r u res h
      refine ⟨fun t => ?_, fun c hc => ?_⟩
      · rw [i1 t, j1 t]
        simp only [List.mem_cons]
        constructor
        · rintro ((x | ⟨b, hb, x⟩) | ⟨c, hc, x⟩)
          · exact .inl x
          · exact .inr ⟨a, .inl rfl, b, hb, x⟩
          · exact .inr ⟨c, .inr hc, x⟩
        · rintro (x | ⟨c, rfl | hc, x⟩)
          · exact .inl (.inl x)
          · exact .inl (.inr x)
          · exact .inr ⟨c, hc, x⟩
      · rcases List.mem_cons.1 hc with rfl | hc
        · exact j2
        · exact i2 c hc

/-- A term's numbers. -/
def linOf (t : Trm) : Lin := (fun i : Nat => co t i, q t.2)
def rowL (r : Rw) : Bool × Lin := (r.1 == 2, linOf r.2)
/-- Is a row (not an equation) so? -/
def satR (r : Rw) (ρ : Nat → Rat) : Prop := satL (rowL r) ρ
def Good (l : List Rw) : Prop := ∀ r ∈ l, TrmOk r.2 ∧ (r.1 = 1 ∨ r.1 = 2)

theorem scaled_sat {r t : Rw} (h : Scaled r t) (ρ : Nat → Rat) : satR t ρ ↔ satR r ρ := by
  obtain ⟨h1, _, k, hk, h2, h3⟩ := h
  exact satL_mul hk (by unfold rowL; dsimp only; rw [h1]) (fun i => h2 i) h3 ρ
theorem sumOp_eq (a b : Rw) : (sumOp a b == 2) = (a.1 == 2 || b.1 == 2) := by
  unfold sumOp
  split
  · rename_i h
    rcases h with h | h <;> simp [h]
  · rename_i h
    simp only [not_or] at h
    simp [h.1, h.2]
theorem rowSum_is {a b t : Rw} (ha : TrmOk a.2) (hb : TrmOk b.2) (h : rowSum a b = some t) : TrmOk t.2 ∧ (t.1 = 1 ∨ t.1 = 2) ∧ (∀ i, co t.2 i = co a.2 i + co b.2 i) ∧ (t.1 == 2) = (a.1 == 2 || b.1 == 2) ∧ ∀ ρ, lval (linOf t.2) ρ = lval (linOf a.2) ρ + lval (linOf b.2) ρ := by
  unfold rowSum at h
  cases e : addO a.2 b.2 with
  | none => rw [e] at h; cases h
  | some u =>
    rw [e] at h
    obtain rfl := Option.some.inj h
    obtain ⟨c1, c2⟩ := addO_q ha hb e
    refine ⟨addO_ok ha hb e, ?_, c1, sumOp_eq a b, fun ρ => lval_add (fun i => c1 i) c2 ρ⟩
    dsimp only
    unfold sumOp
    split
    · exact .inr rfl
    · exact .inl rfl

theorem elim_step {v : Nat} (hv : v < 8) {rows rows' : List Rw} {s : Sorted} (hg : Good rows) (hs : sortO v ([], [], []) rows = some s) (hw : withO s = some rows') :
    Good rows' ∧ (∀ r ∈ rows', co r.2 v = 0) ∧ (∀ w : Int, (∀ r ∈ rows, co r.2 w = 0) → ∀ r ∈ rows', co r.2 w = 0) ∧ (∀ ρ, (∀ r ∈ rows, satR r ρ) → ∀ r ∈ rows', satR r ρ) ∧
    ∀ ρ, (∀ r ∈ rows', satR r ρ) → ∃ x, ∀ r ∈ rows, satR r (upd ρ v x) := by
  have I := sort_is v rows _ s (fun r hr => (hg r hr).1) hs
  unfold withO at hw
  split at hw
  · cases hw
  obtain ⟨m1, m2⟩ := sumsO_is s.2.2 s.2.1 s.1 rows' hw
  have o_in : ∀ r ∈ s.1, r ∈ rows ∧ co r.2 v = 0 := fun r hr => by
    rcases (I.o r).1 hr with a | a
    · cases a
    · exact a
  have lo_in : ∀ t ∈ s.2.1, ∃ r ∈ rows, Scaled r t ∧ co t.2 v = 1 := fun t ht => by
    rcases I.lo t ht with a | a
    · cases a
    · exact a
  have up_in : ∀ t ∈ s.2.2, ∃ r ∈ rows, Scaled r t ∧ co t.2 v = -1 := fun t ht => by
    rcases I.up t ht with a | a
    · cases a
    · exact a
  have ok_lo : ∀ t ∈ s.2.1, TrmOk t.2 := fun t ht => by obtain ⟨r, _, a, _⟩ := lo_in t ht; exact a.2.1
  have ok_up : ∀ t ∈ s.2.2, TrmOk t.2 := fun t ht => by obtain ⟨r, _, a, _⟩ := up_in t ht; exact a.2.1
  refine ⟨fun t ht => ?_, fun t ht => ?_, fun w hz t ht => ?_, fun ρ h t ht => ?_, fun ρ h => ?_⟩
  · rcases (m1 t).1 ht with a | ⟨a, ha, b, hb, e⟩
    · exact hg t (o_in t a).1
    · obtain ⟨k1, k2, _⟩ := rowSum_is (ok_lo a ha) (ok_up b hb) e
      exact ⟨k1, k2⟩
  · rcases (m1 t).1 ht with a | ⟨a, ha, b, hb, e⟩
    · exact (o_in t a).2
    · obtain ⟨_, _, k3, _⟩ := rowSum_is (ok_lo a ha) (ok_up b hb) e
      obtain ⟨_, _, _, x⟩ := lo_in a ha
      obtain ⟨_, _, _, y⟩ := up_in b hb
      rw [k3 v, x, y]
      grind
  · rcases (m1 t).1 ht with a | ⟨a, ha, b, hb, e⟩
    · exact hz t (o_in t a).1
    · obtain ⟨_, _, k3, _⟩ := rowSum_is (ok_lo a ha) (ok_up b hb) e
      obtain ⟨r1, h1, ⟨_, _, c1, _, x, _⟩, _⟩ := lo_in a ha
      obtain ⟨r2, h2, ⟨_, _, c2, _, y, _⟩, _⟩ := up_in b hb
      rw [k3 w, x w, y w, hz r1 h1, hz r2 h2]
      grind
  · rcases (m1 t).1 ht with a | ⟨a, ha, b, hb, e⟩
    · exact h t (o_in t a).1
    · obtain ⟨_, _, _, k4, k5⟩ := rowSum_is (ok_lo a ha) (ok_up b hb) e
      obtain ⟨r1, h1, s1, _⟩ := lo_in a ha
      obtain ⟨r2, h2, s2, _⟩ := up_in b hb
      have := fm_sound ((scaled_sat s1 ρ).2 (h r1 h1)) ((scaled_sat s2 ρ).2 (h r2 h2))
      unfold satR satL rowL
      dsimp only
      rw [k4, k5 ρ]
      exact this
  · obtain ⟨x, x1, x2, x3⟩ := fm_exists (O := s.1.map rowL) (Lo := s.2.1.map rowL) (Up := s.2.2.map rowL) (ρ := ρ) hv
      (fun r hr => by obtain ⟨t, ht, rfl⟩ := List.mem_map.1 hr; exact (o_in t ht).2)
      (fun r hr => by obtain ⟨t, ht, rfl⟩ := List.mem_map.1 hr; obtain ⟨_, _, _, y⟩ := lo_in t ht; exact y)
      (fun r hr => by obtain ⟨t, ht, rfl⟩ := List.mem_map.1 hr; obtain ⟨_, _, _, y⟩ := up_in t ht; exact y)
      (fun r hr => by obtain ⟨t, ht, rfl⟩ := List.mem_map.1 hr; exact h t ((m1 t).2 (.inl ht)))
      (fun a0 ha0 b0 hb0 => by
        obtain ⟨a, ha, rfl⟩ := List.mem_map.1 ha0
        obtain ⟨b, hb, rfl⟩ := List.mem_map.1 hb0
        obtain ⟨t, e⟩ := m2 a ha b hb
        obtain ⟨_, _, _, k4, k5⟩ := rowSum_is (ok_lo a ha) (ok_up b hb) e
        have := h t ((m1 t).2 (.inr ⟨a, ha, b, hb, e⟩))
        unfold satR satL rowL at this
        dsimp only at this
        rw [k4, k5 ρ] at this
        exact this)
    refine ⟨x, fun r hr => ?_⟩
    by_cases z : co r.2 v = 0
    · exact x1 _ (List.mem_map_of_mem ((I.o r).2 (.inr ⟨hr, z⟩)))
    · rcases Rat.le_total (a := 0) (b := co r.2 v) with g | g
      · obtain ⟨t, ht, sc⟩ := I.lo'.2 r hr (by grind)
        exact (scaled_sat sc _).1 (x2 _ (List.mem_map_of_mem ht))
      · obtain ⟨t, ht, sc⟩ := I.up'.2 r hr (by grind)
        exact (scaled_sat sc _).1 (x3 _ (List.mem_map_of_mem ht))

abbrev Choice := Int × List Rw × List Rw
/-- All given variables go. -/
def elimR : List Int → List Rw → List Choice → Option (List Rw × List Choice)
  | [], rows, ch => some (rows, ch)
  | v :: vs, rows, ch => (sortO v ([], [], []) rows).bind fun s => (withO s).bind fun rows' => elimR vs rows' (ch ++ [(v, s.2.1, s.2.2)])

theorem elimR_is : ∀ (vs : List Int) (rows : List Rw) (ch : List Choice) (res : List Rw × List Choice), (∀ v ∈ vs, ∃ n : Nat, v = n ∧ n < 8) → Good rows → elimR vs rows ch = some res →
    Good res.1 ∧ (∀ w : Int, (w ∈ vs ∨ ∀ r ∈ rows, co r.2 w = 0) → ∀ r ∈ res.1, co r.2 w = 0) ∧ (∀ ρ, (∀ r ∈ rows, satR r ρ) → ∀ r ∈ res.1, satR r ρ) ∧
    ∀ ρ, (∀ r ∈ res.1, satR r ρ) → ∃ ρ' : Nat → Rat, (∀ i : Nat, (i : Int) ∉ vs → ρ' i = ρ i) ∧ ∀ r ∈ rows, satR r ρ'
  | [], rows, ch, res, _, hg, h => by
    obtain rfl := Option.some.inj h
    exact ⟨hg, fun w hw => by rcases hw with a | a; (· cases a); (· exact a), fun ρ a => a, fun ρ a => ⟨ρ, fun i _ => rfl, a⟩⟩
  | v :: vs, rows, ch, res, hv, hg, h => by
    rw [elimR] at h
    cases e : sortO v ([], [], []) rows with
    | none => rw [e] at h; cases h
    | some s =>
      rw [e] at h
      simp only [Option.bind_some] at h
      cases e2 : withO s with
      | none => rw [e2] at h; cases h
      | some rows' =>
        rw [e2] at h
        simp only [Option.bind_some] at h
        obtain ⟨n, rfl, hn⟩ := hv v (by simp)
        obtain ⟨g1, g2, g3, g4, g5⟩ := elim_step hn hg e e2
        obtain ⟨i1, i2, i3, i4⟩ := elimR_is vs rows' _ res (fun u hu => hv u (List.mem_cons_of_mem _ hu)) g1 h
        refine ⟨i1, fun w hw => ?_, fun ρ a => i3 ρ (g4 ρ a), fun ρ a => ?_⟩
        · rcases hw with hw | hw
          · rcases List.mem_cons.1 hw with rfl | hw
            · exact i2 _ (.inr g2)
            · exact i2 w (.inl hw)
          · exact i2 w (.inr (g3 w hw))
        · obtain ⟨ρ', k1, k2⟩ := i4 ρ a
          obtain ⟨x, hx⟩ := g5 ρ' k2
          refine ⟨upd ρ' n x, fun i hi => ?_, hx⟩
          have hne : i ≠ n := fun q => hi (by simp [q])
          unfold upd
          rw [if_neg hne]
          exact k1 i fun q => hi (List.mem_cons_of_mem _ q)
end Go.Proofs.Ytkinbbhbencipaa
