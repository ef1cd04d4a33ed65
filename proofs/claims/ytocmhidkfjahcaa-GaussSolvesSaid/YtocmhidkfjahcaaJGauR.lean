/-
  What is solved is solved; the walk of GaussTwice. (Template: by-name.py fills it; gen/genGauR.py writes it.)
-/
import Derived.Test.YtocmhidkfjahcaaJGauQ
import Derived.Test.YtocmhidkfjahcaaJD
namespace Go.Proofs.Ytocmhidkfjahcaa
open Go.RowKit

theorem divT_same {t : Trm} {v : Int} (h : TrmOk t) (ho : trimL t.1 = t.1) (h1 : atL t.1 v = (1, 1)) : divT t v = (t.1, t.2, 0) := by
  unfold divT
  rw [h1, show invH (1, 1) = (1, 1) from rfl]
  unfold timesT
  rw [if_pos ⟨right_mk h.len h.ok h.k, by decide⟩, put_once h.ok h.k, ho]
theorem elim_same {p t : Trm} {v : Int} (h : (atL t.1 v).1 = 0) : elimO p v t = some t := by
  unfold elimO
  have e : elimT t.1 t.2 p.1 p.2 v = (t.1, t.2, 0) := if_pos h
  rw [e]
  rfl
theorem mapE_same {f : Trm → Option Trm} : ∀ {l : List Trm}, (∀ t ∈ l, f t = some t) → mapE f l = some l
  | [], _ => rfl
  | x :: r, h => by
    rw [mapE, h x (by simp), Option.bind_some, mapE_same fun t ht => h t (by simp [ht])]
    rfl
theorem drop_get {α : Type} {l : List α} {m : Nat} {u : α} (h : u ∈ l.drop m) : ∃ j, m ≤ j ∧ l[j]? = some u := by
  obtain ⟨i, hi⟩ := List.mem_iff_getElem?.1 h
  rw [List.getElem?_drop] at hi
  exact ⟨m + i, by omega, hi⟩
theorem take_get {α : Type} {l : List α} {m : Nat} {u : α} (h : u ∈ l.take m) : ∃ j, j < m ∧ l[j]? = some u := by
  obtain ⟨i, hi⟩ := List.mem_iff_getElem?.1 h
  rw [List.getElem?_take] at hi
  split at hi
  · exact ⟨i, by assumption, hi⟩
  · cases hi

theorem twice_step {a : List Trm} {p : List Int} {n : Nat} (so : SolOk n 8 (([] : List Trm), a, p)) (po : PivOk a p) (E : Ech 8 (([] : List Trm), a, p)) : ∀ k : Nat, k ≤ 8 →
    ∃ m, m ≤ p.length ∧ (∀ (i : Nat) (x : Int), p[i]? = some x → (i < m ↔ x < k)) ∧ solveK a k = some (a.drop m, a.take m, p.take m)
  | 0, _ => ⟨0, Nat.zero_le _, fun i x hx => ⟨fun h => absurd h (Nat.not_lt_zero i), fun h => by have := po.rng i x hx; omega⟩, rfl⟩
  | k + 1, hk => by
    obtain ⟨m, hm, hi, hs⟩ := twice_step so po E k (by omega)
    rw [solveK, hs, Option.bind_some]
    by_cases hc : p[m]? = some (k : Int)
    · have hmp := get_lt hc
      have hma : m < a.length := by rw [po.len]; exact hmp
      obtain ⟨t, ht⟩ : ∃ t, a[m]? = some t := ⟨_, List.getElem?_eq_getElem hma⟩
      have tok := so.q t (List.mem_of_getElem? ht)
      have t1 := po.at_ m m (k : Int) t hc ht
      rw [if_pos rfl] at t1
      have hd := divT_same tok (E.own t (List.mem_of_getElem? ht)) t1
      have d0 : (a.drop m)[0]? = some t := by rw [List.getElem?_drop]; exact ht
      have hidx : (a.drop m).findIdx? (prHas k) = some 0 := idx_some d0 (by unfold prHas; rw [t1]; rfl) rfl
      have same : ∀ (j : Nat) (u : Trm), j ≠ m → a[j]? = some u → elimO t k u = some u := fun j u hj hu => elim_same (by rw [po.at_ m j (k : Int) u hc hu, if_neg hj])
      refine ⟨m + 1, hmp, fun i x hx => ?_, ?_⟩
      · constructor
        · intro h
          rcases Nat.lt_or_ge i m with g | g
          · have := (hi i x hx).1 g
            omega
          · obtain rfl : i = m := by omega
            rw [hc] at hx
            have := Option.some.inj hx
            omega
        · intro h
          rcases Nat.lt_or_ge m i with g | g
          · have := po.inc m i (k : Int) x g hc hx
            omega
          · omega
      · unfold solveStep
        dsimp only
        rw [hidx]
        dsimp only
        rw [d0, Option.bind_some, hd]
        dsimp only
        rw [if_pos rfl, show (a.drop m).eraseIdx 0 = a.drop (m + 1) by rw [List.eraseIdx_zero, List.tail_drop]]
        have m1 : mapE (elimO (t.1, t.2) k) (a.drop (m + 1)) = some (a.drop (m + 1)) := mapE_same fun u hu => by
          obtain ⟨j, h1, h2⟩ := drop_get hu
          exact same j u (by omega) h2
        have m2 : mapE (elimO (t.1, t.2) k) (a.take m) = some (a.take m) := mapE_same fun u hu => by
          obtain ⟨j, h1, h2⟩ := take_get hu
          exact same j u (by omega) h2
        rw [m1, Option.bind_some, m2, Option.map_some, List.take_add_one, ht, List.take_add_one, hc]
        rfl
    · have far : ∀ (j : Nat) (x : Int), m ≤ j → p[j]? = some x → (k : Int) < x := by
        intro j x hj hx
        have h1 : ¬ x < k := fun g => by have := (hi j x hx).2 g; omega
        have h2 : x ≠ k := fun g => by
          subst g
          rcases Nat.lt_or_ge m j with q | q
          · have hml : m < p.length := by have := get_lt hx; omega
            have := po.inc m j _ _ q (List.getElem?_eq_getElem hml) hx
            have := (hi m _ (List.getElem?_eq_getElem hml)).2 this
            omega
          · obtain rfl : j = m := by omega
            exact hc hx
        omega
      refine ⟨m, hm, fun i x hx => ⟨fun h => by have := (hi i x hx).1 h; omega, fun h => ?_⟩, ?_⟩
      · rcases Nat.lt_or_ge i m with g | g
        · exact g
        · have := far i x g hx
          omega
      · have hno : (a.drop m).findIdx? (prHas k) = none := by
          rw [List.findIdx?_eq_none_iff]
          intro u hu
          obtain ⟨j, h1, h2⟩ := drop_get hu
          have hjl : j < p.length := by have := get_lt h2; rw [po.len] at this; exact this
          have z := E.lead j _ u (List.getElem?_eq_getElem hjl) h2 k (far j _ h1 (List.getElem?_eq_getElem hjl))
          have nz := mt (has_co (so.q u (List.mem_of_getElem? h2))).1 (fun g => g z)
          simpa using nz
        unfold solveStep
        dsimp only
        rw [hno]

theorem solve_twice {ts a : List Trm} {p : List Int} (hw : ∀ t ∈ ts, Wide t.1 ∧ Bd t.2) (h : solveT ts = ((a, p), 0)) : solveT a = ((a, p), 0) ∧ ∀ t ∈ a, Wide t.1 ∧ Bd t.2 := by
  have po := piv_ok hw h
  obtain ⟨hok, l, hk, _⟩ := solveT_sat hw h
  obtain ⟨so, E⟩ := ech_all hok 8 _ hk
  have E' : Ech 8 (([] : List Trm), a, p) := ⟨(fun _ ht => by cases ht), E.rng, E.inc, E.unit, E.lead, E.own⟩
  have so' : SolOk a.length 8 (([] : List Trm), a, p) := ⟨(fun _ ht => by cases ht), so.q, by simp, so.ql, so.k⟩
  obtain ⟨m, hm, hi, hs⟩ := twice_step so' po E' 8 (Nat.le_refl _)
  have e : m = p.length := by
    rcases Nat.lt_or_ge m p.length with g | g
    · have := (hi m _ (List.getElem?_eq_getElem g)).2 (po.rng m _ (List.getElem?_eq_getElem g)).2
      omega
    · omega
  rw [e, List.drop_of_length_le (by rw [po.len]; exact Nat.le_refl _), List.take_of_length_le (by rw [po.len]; exact Nat.le_refl _), List.take_length] at hs
  have aok : ∀ t ∈ a, TrmOk t := so.q
  refine ⟨?_, fun t ht => ⟨(aok t ht).ok.wide, (aok t ht).k.wide⟩⟩
  have hany : a.any prWrong = false := by
    rw [List.any_eq_false]
    intro t ht
    unfold prWrong
    rw [right_mk (aok t ht).len (aok t ht).ok (aok t ht).k]
    decide
  have hlen : a.length ≤ 400 := by
    have h1 : a.length = p.length := po.len
    have h2 : p.length ≤ 8 := so.k
    omega
  unfold solveT
  rw [if_pos ⟨hlen, hany⟩, hs]
  rfl

set_option maxRecDepth 10000 in
set_option maxHeartbeats 2000000 in
theorem twice_out (w : World) (v : Value) (ts : List Trm) (h : TermsAt w v ts) (hs : smallT ts = false) :
    Calls Try.prog 5 #[v] w fun e w' => e = .returned (.bool true) ∧ Below w.heap.size w w' := by
  have sm := fun (w' : World) (hb : Below w.heap.size w w') => smalls_any w' v ts (h.below hb)
  rw [hs] at sm
  have SM := Lib.hid sm
  have B0 := Lib.hid (Below.refl w.heap.size w)
  clear sm h hs
  go_enter Try.func5, Try.ntmps5
  go_wp2_with (first
    | (go_at_call 12; (with_reducible refine (awake3_yes _).mono ?_); rintro e w1 ⟨rfl, hb⟩; have B0 := Lib.hid (B0.out.trans (hb.mono B0.out.size)); clear hb)
    | (go_at_call 13; (with_reducible refine (SM.out _ B0.out).mono ?_); rintro e w2 ⟨rfl, hb⟩; have B0 := Lib.hid (B0.out.trans (hb.mono B0.out.size)); clear hb))
  go_ret
  exact ⟨rfl, B0.out⟩

set_option maxRecDepth 100000 in
set_option maxHeartbeats 4000000 in
theorem twice_big (w : World) (v : Value) (ts : List Trm) (h : TermsAt w v ts) (hw : ∀ t ∈ ts, Wide t.1 ∧ Bd t.2) (hs : smallT ts = true) :
    Calls Try.prog 5 #[v] w fun e w' => e = .returned (.bool true) ∧ Below w.heap.size w w' := by
  have sm := fun (w' : World) (hb : Below w.heap.size w w') => smalls_any w' v ts (h.below hb)
  rw [hs] at sm
  have SM := Lib.hid sm
  have gs := fun (w' : World) (hb : Below w.heap.size w w') => gsolve_any w' v ts (h.below hb) hw
  obtain ⟨⟨⟨a, p⟩, z⟩, hG⟩ : ∃ r, solveT ts = r := ⟨_, rfl⟩
  rw [hG] at gs
  have G := Lib.hid gs
  have B0 := Lib.hid (Below.refl w.heap.size w)
  clear sm gs h hs
  by_cases hz : z = 0
  rotate_left
  · have z1 : (z != 0) = true := by simpa using hz
    have hap : a = [] ∧ p = [] := by
      have := solveT_code ts
      rw [hG] at this
      rcases this with q | ⟨_, q⟩ | ⟨_, q⟩
      · exact absurd q hz
      · simpa using q
      · simpa using q
    obtain ⟨rfl, rfl⟩ := hap
    clear hz hG
    go_enter Try.func5, Try.ntmps5
    go_wp2_with (first
    | (go_at_call 12; (with_reducible refine (awake3_yes _).mono ?_); rintro e w1 ⟨rfl, hb⟩; have B0 := Lib.hid (B0.out.trans (hb.mono B0.out.size)); clear hb)
    | (go_at_call 13; (with_reducible refine (SM.out _ B0.out).mono ?_); rintro e w2 ⟨rfl, hb⟩; have b2 := Lib.hid (B0.out.trans (hb.mono B0.out.size)); clear hb)
    | (go_at_call 14; (with_reducible refine (G.out _ b2.out).mono ?_); rintro e w3 ⟨A, c, B, d, rfl, hT, hI, hb⟩; have b3 := Lib.hid (b2.out.trans (hb.mono b2.out.size)); have HT := Lib.hid hT; have HI := Lib.hid hI; clear hb hT hI))
    go_ret
    exact ⟨rfl, b3.out⟩
  subst hz
  obtain ⟨h2, hwa⟩ := solve_twice hw hG
  have g2 := fun (w' : World) (s : Value) (hs : TermsAt w' s a) => gsolve_any w' s a hs hwa
  rw [h2] at g2
  have G2 := Lib.hid g2
  have SAM := Lib.hid (fun (w' : World) (s s' : Value) (hs : TermsAt w' s a) (hs' : TermsAt w' s' a) => (rsame_any w' s s' a a hs hs').mono fun e w2 (q : e = .returned (.bool (decide (a = a))) ∧ Below w'.heap.size w' w2) => (⟨by rw [q.1]; simp, q.2⟩ : e = .returned (.bool true) ∧ Below w'.heap.size w' w2))
  have INT := Lib.hid (fun (w' : World) (s s' : Value) (hs : IntsAt w' s p) (hs' : IntsAt w' s' p) => (rints_any w' s s' p p hs hs').mono fun e w2 (q : e = .returned (.bool (decide (p = p))) ∧ Below w'.heap.size w' w2) => (⟨by rw [q.1]; simp, q.2⟩ : e = .returned (.bool true) ∧ Below w'.heap.size w' w2))
  clear hG hw h2 g2 hwa
  go_enter Try.func5, Try.ntmps5
  go_upto_region 4 with (first
    | (go_at_call 12; (with_reducible refine (awake3_yes _).mono ?_); rintro e w1 ⟨rfl, hb⟩; have B0 := Lib.hid (B0.out.trans (hb.mono B0.out.size)); clear hb)
    | (go_at_call 13; (with_reducible refine (SM.out _ B0.out).mono ?_); rintro e w2 ⟨rfl, hb⟩; have b2 := Lib.hid (B0.out.trans (hb.mono B0.out.size)); clear hb)
    | (go_at_call 14; (with_reducible refine (G.out _ b2.out).mono ?_); rintro e w3 ⟨A, c, B, d, rfl, hT, hI, hb⟩; have b3 := Lib.hid (b2.out.trans (hb.mono b2.out.size)); have HT := Lib.hid hT; have HI := Lib.hid hI; clear hb hT hI))
  clear B0 b2
  go_wp2_with (first
    | (go_at_call 14; (with_reducible refine (G2.out _ _ HT.out).mono ?_); rintro e w4 ⟨A4, c4, B4, d4, rfl, hT4, hI4, hb⟩; have HT := Lib.hid (HT.out.below hb); have HI := Lib.hid (HI.out.below hb); have b3 := Lib.hid (b3.out.trans (hb.mono b3.out.size)); have HT4 := Lib.hid hT4; have HI4 := Lib.hid hI4; clear hb hT4 hI4)
    | (go_at_call 16; (with_reducible refine (SAM.out _ _ _ HT.out HT4.out).mono ?_); rintro e w5 ⟨rfl, hb⟩; have HI := Lib.hid (HI.out.below hb); have HI4 := Lib.hid (HI4.out.below hb); have b3 := Lib.hid (b3.out.trans (hb.mono b3.out.size)); clear hb)
    | (go_at_call 17; (with_reducible refine (INT.out _ _ _ HI.out HI4.out).mono ?_); rintro e w6 ⟨rfl, hb⟩; have b3 := Lib.hid (b3.out.trans (hb.mono b3.out.size)); clear hb))
  go_ret
  exact ⟨rfl, b3.out⟩

theorem twice_any (w : World) (v : Value) (ts : List Trm) (h : TermsAt w v ts) (hw : ∀ t ∈ ts, Wide t.1 ∧ Bd t.2) :
    Calls Try.prog 5 #[v] w fun e w' => e = .returned (.bool true) ∧ Below w.heap.size w w' := by
  cases hs : smallT ts
  · exact twice_out w v ts h hs
  · exact twice_big w v ts h hw hs
end Go.Proofs.Ytocmhidkfjahcaa
