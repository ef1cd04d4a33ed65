/-
  What terms come to, as rational numbers; the walk of layer 3's zeros. (Template: by-name.py fills it; gen/genGauS.py writes it.)
-/
import Derived.Test.YtkinbbhbencipaaJGauQ
import Derived.Test.YtkinbbhbencipaaJD
import Derived.Test.YtkinbbhbencipaaJU
namespace Go.Proofs.Ytkinbbhbencipaa
open Go.RowKit

theorem divT_same {t : Trm} {v : Int} (h : TrmOk t) (ho : trimL t.1 = t.1) (h1 : atL t.1 v = (1, 1)) : divT t v = (t.1, t.2, 0) := by
  unfold divT
  rw [h1, show invH (1, 1) = (1, 1) from rfl]
  unfold timesT
  rw [if_pos ⟨right_mk h.len h.ok h.k, by decide⟩, put_once h.ok h.k, ho]
theorem elim_same {p t : Trm} {v : Int} (h : (atL t.1 v).1 = 0) : elimO p v t = some t := by
  unfold elimO
  have e : elimT t.1 t.2 p.1 p.2 v = (t.1, t.2, 0) := if_pos h
  rw [e]
  rfl
theorem mapE_same {f : Trm → Option Trm} : ∀ {l : List Trm}, (∀ t ∈ l, f t = some t) → mapE f l = some l
  | [], _ => rfl
  | x :: r, h => by
    rw [mapE, h x (by simp), Option.bind_some, mapE_same fun t ht => h t (by simp [ht])]
    rfl
theorem drop_get {α : Type} {l : List α} {m : Nat} {u : α} (h : u ∈ l.drop m) : ∃ j, m ≤ j ∧ l[j]? = some u := by
  obtain ⟨i, hi⟩ := List.mem_iff_getElem?.1 h
  rw [List.getElem?_drop] at hi
  exact ⟨m + i, by omega, hi⟩
theorem take_get {α : Type} {l : List α} {m : Nat} {u : α} (h : u ∈ l.take m) : ∃ j, j < m ∧ l[j]? = some u := by
  obtain ⟨i, hi⟩ := List.mem_iff_getElem?.1 h
  rw [List.getElem?_take] at hi
  split at hi
  · exact ⟨i, by assumption, hi⟩
  · cases hi

theorem twice_step {a : List Trm} {p : List Int} {n : Nat} (so : SolOk n 8 (([] : List Trm), a, p)) (po : PivOk a p) (E : Ech 8 (([] : List Trm), a, p)) : ∀ k : Nat, k ≤ 8 →
    ∃ m, m ≤ p.length ∧ (∀ (i : Nat) (x : Int), p[i]? = some x → (i < m ↔ x < k)) ∧ solveK a k = some (a.drop m, a.take m, p.take m)
  | 0, _ => ⟨0, Nat.zero_le _, fun i x hx => ⟨fun h => absurd h (Nat.not_lt_zero i), fun h => by have := po.rng i x hx; omega⟩, rfl⟩
  | k + 1, hk => by
    obtain ⟨m, hm, hi, hs⟩ := twice_step so po E k (by omega)
    rw [solveK, hs, Option.bind_some]
    by_cases hc : p[m]? = some (k : Int)
    · have hmp := get_lt hc
      have hma : m < a.length := by rw [po.len]; exact hmp
      obtain ⟨t, ht⟩ : ∃ t, a[m]? = some t := ⟨_, List.getElem?_eq_getElem hma⟩
      have tok := so.q t (List.mem_of_getElem? ht)
      have t1 := po.at_ m m (k : Int) t hc ht
      rw [if_pos rfl] at t1
      have hd := divT_same tok (E.own t (List.mem_of_getElem? ht)) t1
      have d0 : (a.drop m)[0]? = some t := by rw [List.getElem?_drop]; exact ht
      have hidx : (a.drop m).findIdx? (prHas k) = some 0 := idx_some d0 (by unfold prHas; rw [t1]; rfl) rfl
      have same : ∀ (j : Nat) (u : Trm), j ≠ m → a[j]? = some u → elimO t k u = some u := fun j u hj hu => elim_same (by rw [po.at_ m j (k : Int) u hc hu, if_neg hj])
      refine ⟨m + 1, hmp, fun i x hx => ?_, ?_⟩
      · constructor
        · intro h
          rcases Nat.lt_or_ge i m with g | g
          · have := (hi i x hx).1 g
            omega
          · obtain rfl : i = m := by omega
            rw [hc] at hx
            have := Option.some.inj hx
            omega
        · intro h
          rcases Nat.lt_or_ge m i with g | g
          · have := po.inc m i (k : Int) x g hc hx
            omega
          · omega
      · unfold solveStep
        dsimp only
        rw [hidx]
        dsimp only
        rw [d0, Option.bind_some, hd]
        dsimp only
        rw [if_pos rfl, show (a.drop m).eraseIdx 0 = a.drop (m + 1) by rw [List.eraseIdx_zero, List.tail_drop]]
        have m1 : mapE (elimO (t.1, t.2) k) (a.drop (m + 1)) = some (a.drop (m + 1)) := mapE_same fun u hu => by
          obtain ⟨j, h1, h2⟩ := drop_get hu
          exact same j u (by omega) h2
        have m2 : mapE (elimO (t.1, t.2) k) (a.take m) = some (a.take m) := mapE_same fun u hu => by
          obtain ⟨j, h1, h2⟩ := take_get hu
          exact same j u (by omega) h2
        rw [m1, Option.bind_some, m2, Option.map_some, List.take_add_one, ht, List.take_add_one, hc]
        rfl
    · have far : ∀ (j : Nat) (x : Int), m ≤ j → p[j]? = some x → (k : Int) < x := by
        intro j x hj hx
        have h1 : ¬ x < k := fun g => by have := (hi j x hx).2 g; omega
        have h2 : x ≠ k := fun g => by
          subst g
          rcases Nat.lt_or_ge m j with q | q
          · have hml : m < p.length := by have := get_lt hx; omega
            have := po.inc m j _ _ q (List.getElem?_eq_getElem hml) hx
            have := (hi m _ (List.getElem?_eq_getElem hml)).2 this
            omega
          · obtain rfl : j = m := by omega
            exact hc hx
        omega
      refine ⟨m, hm, fun i x hx => ⟨fun h => by have := (hi i x hx).1 h; omega, fun h => ?_⟩, ?_⟩
      · rcases Nat.lt_or_ge i m with g | g
        · exact g
        · have := far i x g hx
          omega
      · have hno : (a.drop m).findIdx? (prHas k) = none := by
          rw [List.findIdx?_eq_none_iff]
          intro u hu
          obtain ⟨j, h1, h2⟩ := drop_get hu
          have hjl : j < p.length := by have := get_lt h2; rw [po.len] at this; exact this
          have z := E.lead j _ u (List.getElem?_eq_getElem hjl) h2 k (far j _ h1 (List.getElem?_eq_getElem hjl))
          have nz := mt (has_co (so.q u (List.mem_of_getElem? h2))).1 (fun g => g z)
          simpa using nz
        unfold solveStep
        dsimp only
        rw [hno]

theorem solve_twice {ts a : List Trm} {p : List Int} (hw : ∀ t ∈ ts, Wide t.1 ∧ Bd t.2) (h : solveT ts = ((a, p), 0)) : solveT a = ((a, p), 0) ∧ ∀ t ∈ a, Wide t.1 ∧ Bd t.2 := by
  have po := piv_ok hw h
  obtain ⟨hok, l, hk, _⟩ := solveT_sat hw h
  obtain ⟨so, E⟩ := ech_all hok 8 _ hk
  have E' : Ech 8 (([] : List Trm), a, p) := ⟨(fun _ ht => by cases ht), E.rng, E.inc, E.unit, E.lead, E.own⟩
  have so' : SolOk a.length 8 (([] : List Trm), a, p) := ⟨(fun _ ht => by cases ht), so.q, by simp, so.ql, so.k⟩
  obtain ⟨m, hm, hi, hs⟩ := twice_step so' po E' 8 (Nat.le_refl _)
  have e : m = p.length := by
    rcases Nat.lt_or_ge m p.length with g | g
    · have := (hi m _ (List.getElem?_eq_getElem g)).2 (po.rng m _ (List.getElem?_eq_getElem g)).2
      omega
    · omega
  rw [e, List.drop_of_length_le (by rw [po.len]; exact Nat.le_refl _), List.take_of_length_le (by rw [po.len]; exact Nat.le_refl _), List.take_length] at hs
  have aok : ∀ t ∈ a, TrmOk t := so.q
  refine ⟨?_, fun t ht => ⟨(aok t ht).ok.wide, (aok t ht).k.wide⟩⟩
  have hany : a.any prWrong = false := by
    rw [List.any_eq_false]
    intro t ht
    unfold prWrong
    rw [right_mk (aok t ht).len (aok t ht).ok (aok t ht).k]
    decide
  have hlen : a.length ≤ 400 := by
    have h1 : a.length = p.length := po.len
    have h2 : p.length ≤ 8 := so.k
    omega
  unfold solveT
  rw [if_pos ⟨hlen, hany⟩, hs]
  rfl



end Go.Proofs.Ytkinbbhbencipaa

namespace Go.Proofs.Ytkinbbhbencipaa
open Go.RowKit


def sumQ (f : Nat → Rat) : Nat → Rat
  | 0 => 0
  | k + 1 => sumQ f k + f k
theorem sumQ_add (f g h : Nat → Rat) (c : Rat) (e : ∀ k, f k = g k + c * h k) : ∀ k, sumQ f k = sumQ g k + c * sumQ h k
  | 0 => by unfold sumQ; grind
  | k + 1 => by
    have := sumQ_add f g h c e k
    have := e k
    unfold sumQ
    grind
theorem sumQ_zero (f : Nat → Rat) : ∀ k : Nat, (∀ i, i < k → f i = 0) → sumQ f k = 0
  | 0, _ => rfl
  | k + 1, h => by
    have := sumQ_zero f k fun i hi => h i (by omega)
    have := h k (by omega)
    unfold sumQ
    grind
/-- What a term comes to. -/
def ev (t : Trm) (x : Nat → Rat) : Rat := q t.2 + sumQ (fun k => co t k * x k) 8

theorem sumK_q {l m : List (Int × Int)} {kx : Int × Int} (hl : AllOk l) (hm : AllOk m) (hx : OkR kx) : ∀ (k : Nat) (s : Int × Int), sumK l m kx k = some s → q s = q kx + sumQ (fun i => q (atL l i) * q (atL m i)) k
  | 0, s, h => by
    obtain rfl : kx = s := by simpa [sumK] using h
    unfold sumQ
    grind
  | k + 1, s, h => by
    rw [sumK, Option.bind_eq_some_iff] at h
    obtain ⟨a, ha, hb⟩ := h
    have ih := sumK_q hl hm hx k a ha
    split at hb
    · rename_i g
      obtain rfl : _ = s := Option.some.inj hb
      obtain ⟨om, qm⟩ := mulH_q (hl.at k) (hm.at k) g.1
      obtain ⟨_, qs⟩ := addH_q (sumK_ok hl hm hx k a ha) om g.2
      rw [qs, qm, ih]
      show _ = q kx + (sumQ (fun i => q (atL l i) * q (atL m i)) k + q (atL l k) * q (atL m k))
      grind
    · cases hb
theorem val_ev {t : Trm} {m : List (Int × Int)} (hl : Wide t.1) (hx : Bd t.2) (hm : Wide m) (h : (valT t.1 m t.2).2 = 0) : OkR (valT t.1 m t.2).1 ∧ q (valT t.1 m t.2).1 = ev t (fun k => q (atL (m.take 8) k)) := by
  obtain ⟨a, b, c, _, e⟩ := valT_ok hl hx hm h
  exact ⟨sumK_ok a c b _ _ e, sumK_q a c b 8 _ e⟩
theorem val_nought {t : Trm} {m : List (Int × Int)} (hl : Wide t.1) (hx : Bd t.2) (hm : Wide m) (h : (valT t.1 m t.2).2 = 0) : ((valT t.1 m t.2).1.1 == 0) = decide (ev t (fun k => q (atL (m.take 8) k)) = 0) := by
  obtain ⟨a, b⟩ := val_ev hl hx hm h
  have z := q_eq a
  rw [b] at z
  rw [Bool.eq_iff_iff, decide_eq_true_iff, z, beq_iff_eq]

theorem ev_elim {p t u : Trm} {v : Int} (hp : TrmOk p) (ht : TrmOk t) (h : elimO p v t = some u) (x : Nat → Rat) : ev u x = ev t x - co t v * ev p x := by
  obtain ⟨a, b⟩ := elim_q hp ht h
  have := sumQ_add (fun k => co u k * x k) (fun k => co t k * x k) (fun k => co p k * x k) (- co t v) (fun k => by have := a k; grind) 8
  unfold ev
  grind
theorem ev_div {t : Trm} {v : Int} (ht : TrmOk t) (hv : prHas v t = true) (e : (divT t v).2.2 = 0) (x : Nat → Rat) : ev ((divT t v).1, (divT t v).2.1) x * co t v = ev t x := by
  obtain ⟨a, b, _⟩ := div_q ht hv e
  have := sumQ_add (fun k => co t k * x k) (fun _ => 0) (fun k => co ((divT t v).1, (divT t v).2.1) k * x k) (co t v) (fun k => by have := a k; grind) 8
  have z := sumQ_zero (fun _ => 0) 8 (fun _ _ => rfl)
  unfold ev
  dsimp only
  grind

/-- All are 0. -/
def ZeroS (x : Nat → Rat) (s : SolT) : Prop := (∀ t ∈ s.1, ev t x = 0) ∧ ∀ t ∈ s.2.1, ev t x = 0

theorem mem_erase {L : List Trm} {i : Nat} {t u : Trm} (ht : L[i]? = some t) (hu : u ∈ L) : u = t ∨ u ∈ L.eraseIdx i := by
  obtain ⟨j, hj⟩ := List.mem_iff_getElem?.1 hu
  rcases Nat.lt_trichotomy j i with g | g | g
  · exact .inr (List.mem_iff_getElem?.2 ⟨j, by rw [List.getElem?_eraseIdx_of_lt g]; exact hj⟩)
  · subst g
    rw [ht] at hj
    exact .inl (Option.some.inj hj).symm
  · exact .inr (List.mem_iff_getElem?.2 ⟨j - 1, by rw [List.getElem?_eraseIdx_of_ge (by omega), show j - 1 + 1 = j by omega]; exact hj⟩)

theorem zero_step {n k : Nat} {s r : SolT} {x : Nat → Rat} (so : SolOk n k s) (e : solveStep s k = some r) : ZeroS x s ↔ ZeroS x r := by
  obtain ⟨L, Q, P⟩ := s
  unfold solveStep at e
  dsimp only at e
  split at e
  · obtain rfl := Option.some.inj e
    exact Iff.rfl
  · rename_i i hi
    obtain ⟨t, ht, hp⟩ := findIdx_some hi
    rw [ht, Option.bind_some] at e
    split at e
    · rename_i he
      rw [Option.bind_eq_some_iff] at e
      obtain ⟨l, hl, e⟩ := e
      obtain ⟨q', hq, rfl⟩ := Option.map_eq_some_iff.1 e
      have tm := List.mem_of_getElem? ht
      have tok := so.l t tm
      have pok := div_ok tok hp he
      have dv := ev_div tok hp he x
      have tk := (has_co tok).1 hp
      generalize ((divT t k).1, (divT t k).2.1) = p at *
      constructor
      · intro ⟨h1, h2⟩
        have pz : ev p x = 0 := by have := h1 t tm; grind
        refine ⟨fun u hu => ?_, fun u hu => ?_⟩
        · obtain ⟨t', ht', et⟩ := mapE_mem hl u hu
          have t'm := List.mem_of_mem_eraseIdx ht'
          have := ev_elim pok (so.l t' t'm) et x
          have := h1 t' t'm
          grind
        · rcases List.mem_append.1 hu with g | g
          · obtain ⟨t', ht', et⟩ := mapE_mem hq u g
            have := ev_elim pok (so.q t' ht') et x
            have := h2 t' ht'
            grind
          · rw [List.mem_singleton] at g
            rw [g]
            exact pz
      · intro ⟨h1, h2⟩
        have pz : ev p x = 0 := h2 p (by simp)
        refine ⟨fun u hu => ?_, fun u hu => ?_⟩
        · rcases mem_erase ht hu with rfl | g
          · grind
          · obtain ⟨j, hj⟩ := List.mem_iff_getElem?.1 g
            obtain ⟨u', hu', eu⟩ := mapE_at hl j u hj
            have := ev_elim pok (so.l u hu) eu x
            have := h1 u' (List.mem_of_getElem? hu')
            grind
        · obtain ⟨j, hj⟩ := List.mem_iff_getElem?.1 hu
          obtain ⟨u', hu', eu⟩ := mapE_at hq j u hj
          have := ev_elim pok (so.q u hu) eu x
          have := h2 u' (by simp [List.mem_of_getElem? hu'])
          grind
    · cases e
theorem zero_all {ts : List Trm} (h : ∀ t ∈ ts, TrmOk t) (x : Nat → Rat) : ∀ (k : Nat) (s : SolT), solveK ts k = some s → ((∀ t ∈ ts, ev t x = 0) ↔ ZeroS x s)
  | 0, s, e => by
    obtain rfl := Option.some.inj e
    exact ⟨fun q => ⟨q, fun _ ht => by cases ht⟩, fun q => q.1⟩
  | k + 1, s, e => by
    rw [solveK, Option.bind_eq_some_iff] at e
    obtain ⟨r, hr, e⟩ := e
    exact (zero_all h x k r hr).trans (zero_step (solveK_ok h k r hr) e)
theorem left_ev {l a : List Trm} {p : List Int} (E : Ech 8 (l, a, p)) {t : Trm} (ht : t ∈ l) (x : Nat → Rat) : ev t x = q t.2 := by
  unfold ev
  rw [sumQ_zero _ 8 fun i hi => by rw [E.left t ht i (by omega)]; grind]
  grind

/-- Values that make the terms 0, and those that make the solved ones 0. -/
theorem keeps_sat {ts a : List Trm} {p : List Int} (hw : ∀ t ∈ ts, Wide t.1 ∧ Bd t.2) (h : solveT ts = ((a, p), 0)) (x : Nat → Rat) : (∀ t ∈ ts, ev t x = 0) ↔ ∀ t ∈ a, ev t x = 0 := by
  obtain ⟨hok, l, hk, hl⟩ := solveT_sat hw h
  obtain ⟨so, E⟩ := ech_all hok 8 _ hk
  refine (zero_all hok x 8 _ hk).trans ⟨fun q => q.2, fun q => ⟨fun t ht => ?_, q⟩⟩
  rw [left_ev E ht x]
  have tk : t.2.1 = 0 := by
    have := List.any_eq_false.1 hl t ht
    unfold prK at this
    simpa using this
  exact (q_eq (so.l t ht).k).2 tk
theorem solveT_unsat {ts : List Trm} {r : List Trm × List Int} (hw : ∀ t ∈ ts, Wide t.1 ∧ Bd t.2) (h : solveT ts = (r, 1)) : r = ([], []) ∧ (∀ t ∈ ts, TrmOk t) ∧ ∃ s, solveK ts 8 = some s ∧ s.1.any prK = true := by
  unfold solveT at h
  split at h
  · rename_i g
    split at h
    · simp at h
    · rename_i s hs
      split at h
      · rename_i hq
        simp only [Prod.mk.injEq, and_true] at h
        exact ⟨h.symm, trms_ok hw g.2, s, hs, hq⟩
      · simp at h
  · simp at h
theorem keeps_unsat {ts : List Trm} {r : List Trm × List Int} (hw : ∀ t ∈ ts, Wide t.1 ∧ Bd t.2) (h : solveT ts = (r, 1)) (x : Nat → Rat) : ¬ ∀ t ∈ ts, ev t x = 0 := by
  obtain ⟨_, hok, ⟨l, a, p⟩, hk, hl⟩ := solveT_unsat hw h
  obtain ⟨so, E⟩ := ech_all hok 8 _ hk
  intro q0
  have Z := (zero_all hok x 8 _ hk).1 q0
  obtain ⟨t, ht, hp⟩ := List.any_eq_true.1 hl
  have := Z.1 t ht
  rw [left_ev E ht x, q_eq (so.l t ht).k] at this
  unfold prK at hp
  rw [this] at hp
  cases hp
theorem free_count {a : List Trm} {p : List Int} (po : PivOk a p) : (freeK p 8).length + p.length = 8 := by
  have key : ∀ k : Nat, ∃ m, m ≤ p.length ∧ (∀ (i : Nat) (x : Int), p[i]? = some x → (i < m ↔ x < k)) ∧ (freeK p k).length + m = k := by
    intro k
    induction k with
    | zero => exact ⟨0, Nat.zero_le _, fun i x hx => ⟨fun h => absurd h (Nat.not_lt_zero i), fun h => by have := po.rng i x hx; omega⟩, rfl⟩
    | succ k ih =>
      obtain ⟨m, hm, hi, hc⟩ := ih
      have un : freeK p (k + 1) = if p.contains (k : Int) = true then freeK p k else freeK p k ++ [(k : Int)] := rfl
      by_cases h : (k : Int) ∈ p
      · obtain ⟨j, hj⟩ := List.mem_iff_getElem?.1 h
        have hjl := get_lt hj
        have hjm : j = m := by
          have h1 : ¬ j < m := fun g => by have := (hi j k hj).1 g; omega
          rcases Nat.lt_or_ge m j with g | g
          · have hml : m < p.length := by omega
            have := po.inc m j _ _ g (List.getElem?_eq_getElem hml) hj
            have := (hi m _ (List.getElem?_eq_getElem hml)).2 this
            omega
          · omega
        subst hjm
        refine ⟨j + 1, hjl, fun i x hx => ⟨fun g => ?_, fun g => ?_⟩, ?_⟩
        · rcases Nat.lt_or_ge i j with q | q
          · have := (hi i x hx).1 q
            omega
          · obtain rfl : i = j := by omega
            rw [hj] at hx
            have := Option.some.inj hx
            omega
        · rcases Nat.lt_or_ge j i with q | q
          · have := po.inc j i _ x q hj hx
            omega
          · omega
        · rw [un, if_pos (by simpa using h)]
          omega
      · refine ⟨m, hm, fun i x hx => ⟨fun g => by have := (hi i x hx).1 g; omega, fun g => ?_⟩, ?_⟩
        · rcases int_lt x k with q | q
          · exact (hi i x hx).2 q
          · obtain rfl : x = k := by omega
            exact absurd (List.mem_of_getElem? hx) h
        · rw [un, if_neg (by simpa using h), List.length_append, List.length_singleton]
          omega
  obtain ⟨m, hm, hi, hc⟩ := key 8
  have e : m = p.length := by
    rcases Nat.lt_or_ge m p.length with g | g
    · have := (hi m _ (List.getElem?_eq_getElem g)).2 (po.rng m _ (List.getElem?_eq_getElem g)).2
      omega
    · omega
  omega

/-! ### zeros -/
def okV (m : List (Int × Int)) (t : Trm) : Bool := (valT t.1 m t.2).2 == 0
def zV (m : List (Int × Int)) (t : Trm) : Bool := (valT t.1 m t.2).1.1 == 0
/-- What zeros answers. -/
def zerosT (m : List (Int × Int)) (ts : List Trm) : Bool × Bool := if ts.all (okV m) = true then (ts.all (zV m), true) else (false, false)

theorem all_next {f : Trm → Bool} {l : List Trm} {k : Nat} {x : Trm} (hk : l[k]? = some x) : (l.take (k + 1)).all f = ((l.take k).all f && f x) := by
  rw [List.take_add_one, hk, List.all_append]
  simp
end Go.Proofs.Ytkinbbhbencipaa
