/-
  The same solutions; the walk of GaussKeeps. (Template: by-name.py fills it; gen/genGauS.py writes it.)
-/
import Derived.Test.YtocmhidkfjahcaaJGauR
import Derived.Test.YtocmhidkfjahcaaJValD
namespace Go.Proofs.Ytocmhidkfjahcaa
open Go.RowKit

theorem gval_any (w : World) (va vb : Value) (l m : List (Int × Int)) (xn xd : Int) (ha : RatsAt w va l) (hb : RatsAt w vb m) (hl : Wide l) (hm : Wide m) (hx : Bd (xn, xd)) :
    Calls Try.prog 44 #[.agg #[va, .int .i64 xn, .int .i64 xd], vb] w fun r w' => r = .returned (.tuple #[ratV (valT l m (xn, xd)).1.1 (valT l m (xn, xd)).1.2, .int .i64 (valT l m (xn, xd)).2]) ∧ Below w.heap.size w w' := by
  cases hr : rightT l xn xd
  · exact rval_wrong w va vb l m xn xd ha hb hl hx.1.1 hx.1.2 hx.2.1 hx.2.2 hr
  · exact rval_right w va vb l m xn xd ha hb hl hm hx.1.1 hx.1.2 hx.2.1 hx.2.2 hr

/-! ### In rational numbers -/
def sumQ (f : Nat → Rat) : Nat → Rat
  | 0 => 0
  | k + 1 => sumQ f k + f k
theorem sumQ_add (f g h : Nat → Rat) (c : Rat) (e : ∀ k, f k = g k + c * h k) : ∀ k, sumQ f k = sumQ g k + c * sumQ h k
  | 0 => by unfold sumQ; grind
  | k + 1 => by
    have := sumQ_add f g h c e k
    have := e k
    unfold sumQ
    grind
theorem sumQ_zero (f : Nat → Rat) : ∀ k : Nat, (∀ i, i < k → f i = 0) → sumQ f k = 0
  | 0, _ => rfl
  | k + 1, h => by
    have := sumQ_zero f k fun i hi => h i (by omega)
    have := h k (by omega)
    unfold sumQ
    grind
/-- What a term comes to. -/
def ev (t : Trm) (x : Nat → Rat) : Rat := q t.2 + sumQ (fun k => co t k * x k) 8

theorem sumK_q {l m : List (Int × Int)} {kx : Int × Int} (hl : AllOk l) (hm : AllOk m) (hx : OkR kx) : ∀ (k : Nat) (s : Int × Int), sumK l m kx k = some s → q s = q kx + sumQ (fun i => q (atL l i) * q (atL m i)) k
  | 0, s, h => by
    obtain rfl : kx = s := by simpa [sumK] using h
    unfold sumQ
    grind
  | k + 1, s, h => by
    rw [sumK, Option.bind_eq_some_iff] at h
    obtain ⟨a, ha, hb⟩ := h
    have ih := sumK_q hl hm hx k a ha
    split at hb
    · rename_i g
      obtain rfl : _ = s := Option.some.inj hb
      obtain ⟨om, qm⟩ := mulH_q (hl.at k) (hm.at k) g.1
      obtain ⟨_, qs⟩ := addH_q (sumK_ok hl hm hx k a ha) om g.2
      rw [qs, qm, ih]
      show _ = q kx + (sumQ (fun i => q (atL l i) * q (atL m i)) k + q (atL l k) * q (atL m k))
      grind
    · cases hb
theorem val_ev {t : Trm} {m : List (Int × Int)} (hl : Wide t.1) (hx : Bd t.2) (hm : Wide m) (h : (valT t.1 m t.2).2 = 0) : OkR (valT t.1 m t.2).1 ∧ q (valT t.1 m t.2).1 = ev t (fun k => q (atL (m.take 8) k)) := by
  obtain ⟨a, b, c, _, e⟩ := valT_ok hl hx hm h
  exact ⟨sumK_ok a c b _ _ e, sumK_q a c b 8 _ e⟩
theorem val_nought {t : Trm} {m : List (Int × Int)} (hl : Wide t.1) (hx : Bd t.2) (hm : Wide m) (h : (valT t.1 m t.2).2 = 0) : ((valT t.1 m t.2).1.1 == 0) = decide (ev t (fun k => q (atL (m.take 8) k)) = 0) := by
  obtain ⟨a, b⟩ := val_ev hl hx hm h
  have z := q_eq a
  rw [b] at z
  rw [Bool.eq_iff_iff, decide_eq_true_iff, z, beq_iff_eq]

theorem ev_elim {p t u : Trm} {v : Int} (hp : TrmOk p) (ht : TrmOk t) (h : elimO p v t = some u) (x : Nat → Rat) : ev u x = ev t x - co t v * ev p x := by
  obtain ⟨a, b⟩ := elim_q hp ht h
  have := sumQ_add (fun k => co u k * x k) (fun k => co t k * x k) (fun k => co p k * x k) (- co t v) (fun k => by have := a k; grind) 8
  unfold ev
  grind
theorem ev_div {t : Trm} {v : Int} (ht : TrmOk t) (hv : prHas v t = true) (e : (divT t v).2.2 = 0) (x : Nat → Rat) : ev ((divT t v).1, (divT t v).2.1) x * co t v = ev t x := by
  obtain ⟨a, b, _⟩ := div_q ht hv e
  have := sumQ_add (fun k => co t k * x k) (fun _ => 0) (fun k => co ((divT t v).1, (divT t v).2.1) k * x k) (co t v) (fun k => by have := a k; grind) 8
  have z := sumQ_zero (fun _ => 0) 8 (fun _ _ => rfl)
  unfold ev
  dsimp only
  grind

/-- All are 0. -/
def ZeroS (x : Nat → Rat) (s : SolT) : Prop := (∀ t ∈ s.1, ev t x = 0) ∧ ∀ t ∈ s.2.1, ev t x = 0

theorem mem_erase {L : List Trm} {i : Nat} {t u : Trm} (ht : L[i]? = some t) (hu : u ∈ L) : u = t ∨ u ∈ L.eraseIdx i := by
  obtain ⟨j, hj⟩ := List.mem_iff_getElem?.1 hu
  rcases Nat.lt_trichotomy j i with g | g | g
  · exact .inr (List.mem_iff_getElem?.2 ⟨j, by rw [List.getElem?_eraseIdx_of_lt g]; exact hj⟩)
  · subst g
    rw [ht] at hj
    exact .inl (Option.some.inj hj).symm
  · exact .inr (List.mem_iff_getElem?.2 ⟨j - 1, by rw [List.getElem?_eraseIdx_of_ge (by omega), show j - 1 + 1 = j by omega]; exact hj⟩)

theorem zero_step {n k : Nat} {s r : SolT} {x : Nat → Rat} (so : SolOk n k s) (e : solveStep s k = some r) : ZeroS x s ↔ ZeroS x r := by
  obtain ⟨L, Q, P⟩ := s
  unfold solveStep at e
  dsimp only at e
  split at e
  · obtain rfl := Option.some.inj e
    exact Iff.rfl
  · rename_i i hi
    obtain ⟨t, ht, hp⟩ := findIdx_some hi
    rw [ht, Option.bind_some] at e
    split at e
    · rename_i he
      rw [Option.bind_eq_some_iff] at e
      obtain ⟨l, hl, e⟩ := e
      obtain ⟨q', hq, rfl⟩ := Option.map_eq_some_iff.1 e
      have tm := List.mem_of_getElem? ht
      have tok := so.l t tm
      have pok := div_ok tok hp he
      have dv := ev_div tok hp he x
      have tk := (has_co tok).1 hp
      generalize ((divT t k).1, (divT t k).2.1) = p at *
      constructor
      · intro ⟨h1, h2⟩
        have pz : ev p x = 0 := by have := h1 t tm; grind
        refine ⟨fun u hu => ?_, fun u hu => ?_⟩
        · obtain ⟨t', ht', et⟩ := mapE_mem hl u hu
          have t'm := List.mem_of_mem_eraseIdx ht'
          have := ev_elim pok (so.l t' t'm) et x
          have := h1 t' t'm
          grind
        · rcases List.mem_append.1 hu with g | g
          · obtain ⟨t', ht', et⟩ := mapE_mem hq u g
            have := ev_elim pok (so.q t' ht') et x
            have := h2 t' ht'
            grind
          · rw [List.mem_singleton] at g
            rw [g]
            exact pz
      · intro ⟨h1, h2⟩
        have pz : ev p x = 0 := h2 p (by simp)
        refine ⟨fun u hu => ?_, fun u hu => ?_⟩
        · rcases mem_erase ht hu with rfl | g
          · grind
          · obtain ⟨j, hj⟩ := List.mem_iff_getElem?.1 g
            obtain ⟨u', hu', eu⟩ := mapE_at hl j u hj
            have := ev_elim pok (so.l u hu) eu x
            have := h1 u' (List.mem_of_getElem? hu')
            grind
        · obtain ⟨j, hj⟩ := List.mem_iff_getElem?.1 hu
          obtain ⟨u', hu', eu⟩ := mapE_at hq j u hj
          have := ev_elim pok (so.q u hu) eu x
          have := h2 u' (by simp [List.mem_of_getElem? hu'])
          grind
    · cases e
theorem zero_all {ts : List Trm} (h : ∀ t ∈ ts, TrmOk t) (x : Nat → Rat) : ∀ (k : Nat) (s : SolT), solveK ts k = some s → ((∀ t ∈ ts, ev t x = 0) ↔ ZeroS x s)
  | 0, s, e => by
    obtain rfl := Option.some.inj e
    exact ⟨fun q => ⟨q, fun _ ht => by cases ht⟩, fun q => q.1⟩
  | k + 1, s, e => by
    rw [solveK, Option.bind_eq_some_iff] at e
    obtain ⟨r, hr, e⟩ := e
    exact (zero_all h x k r hr).trans (zero_step (solveK_ok h k r hr) e)
theorem left_ev {l a : List Trm} {p : List Int} (E : Ech 8 (l, a, p)) {t : Trm} (ht : t ∈ l) (x : Nat → Rat) : ev t x = q t.2 := by
  unfold ev
  rw [sumQ_zero _ 8 fun i hi => by rw [E.left t ht i (by omega)]; grind]
  grind

/-- Values that make the terms 0, and those that make the solved ones 0. -/
theorem keeps_sat {ts a : List Trm} {p : List Int} (hw : ∀ t ∈ ts, Wide t.1 ∧ Bd t.2) (h : solveT ts = ((a, p), 0)) (x : Nat → Rat) : (∀ t ∈ ts, ev t x = 0) ↔ ∀ t ∈ a, ev t x = 0 := by
  obtain ⟨hok, l, hk, hl⟩ := solveT_sat hw h
  obtain ⟨so, E⟩ := ech_all hok 8 _ hk
  refine (zero_all hok x 8 _ hk).trans ⟨fun q => q.2, fun q => ⟨fun t ht => ?_, q⟩⟩
  rw [left_ev E ht x]
  have tk : t.2.1 = 0 := by
    have := List.any_eq_false.1 hl t ht
    unfold prK at this
    simpa using this
  exact (q_eq (so.l t ht).k).2 tk
theorem solveT_unsat {ts : List Trm} {r : List Trm × List Int} (hw : ∀ t ∈ ts, Wide t.1 ∧ Bd t.2) (h : solveT ts = (r, 1)) : r = ([], []) ∧ (∀ t ∈ ts, TrmOk t) ∧ ∃ s, solveK ts 8 = some s ∧ s.1.any prK = true := by
  unfold solveT at h
  split at h
  · rename_i g
    split at h
    · simp at h
    · rename_i s hs
      split at h
      · rename_i hq
        simp only [Prod.mk.injEq, and_true] at h
        exact ⟨h.symm, trms_ok hw g.2, s, hs, hq⟩
      · simp at h
  · simp at h
theorem keeps_unsat {ts : List Trm} {r : List Trm × List Int} (hw : ∀ t ∈ ts, Wide t.1 ∧ Bd t.2) (h : solveT ts = (r, 1)) (x : Nat → Rat) : ¬ ∀ t ∈ ts, ev t x = 0 := by
  obtain ⟨_, hok, ⟨l, a, p⟩, hk, hl⟩ := solveT_unsat hw h
  obtain ⟨so, E⟩ := ech_all hok 8 _ hk
  intro q0
  have Z := (zero_all hok x 8 _ hk).1 q0
  obtain ⟨t, ht, hp⟩ := List.any_eq_true.1 hl
  have := Z.1 t ht
  rw [left_ev E ht x, q_eq (so.l t ht).k] at this
  unfold prK at hp
  rw [this] at hp
  cases hp
theorem free_count {a : List Trm} {p : List Int} (po : PivOk a p) : (freeK p 8).length + p.length = 8 := by
  have key : ∀ k : Nat, ∃ m, m ≤ p.length ∧ (∀ (i : Nat) (x : Int), p[i]? = some x → (i < m ↔ x < k)) ∧ (freeK p k).length + m = k := by
    intro k
    induction k with
    | zero => exact ⟨0, Nat.zero_le _, fun i x hx => ⟨fun h => absurd h (Nat.not_lt_zero i), fun h => by have := po.rng i x hx; omega⟩, rfl⟩
    | succ k ih =>
      obtain ⟨m, hm, hi, hc⟩ := ih
      have un : freeK p (k + 1) = if p.contains (k : Int) = true then freeK p k else freeK p k ++ [(k : Int)] := rfl
      by_cases h : (k : Int) ∈ p
      · obtain ⟨j, hj⟩ := List.mem_iff_getElem?.1 h
        have hjl := get_lt hj
        have hjm : j = m := by
          have h1 : ¬ j < m := fun g => by have := (hi j k hj).1 g; omega
          rcases Nat.lt_or_ge m j with g | g
          · have hml : m < p.length := by omega
            have := po.inc m j _ _ g (List.getElem?_eq_getElem hml) hj
            have := (hi m _ (List.getElem?_eq_getElem hml)).2 this
            omega
          · omega
        subst hjm
        refine ⟨j + 1, hjl, fun i x hx => ⟨fun g => ?_, fun g => ?_⟩, ?_⟩
        · rcases Nat.lt_or_ge i j with q | q
          · have := (hi i x hx).1 q
            omega
          · obtain rfl : i = j := by omega
            rw [hj] at hx
            have := Option.some.inj hx
            omega
        · rcases Nat.lt_or_ge j i with q | q
          · have := po.inc j i _ x q hj hx
            omega
          · omega
        · rw [un, if_pos (by simpa using h)]
          omega
      · refine ⟨m, hm, fun i x hx => ⟨fun g => by have := (hi i x hx).1 g; omega, fun g => ?_⟩, ?_⟩
        · rcases int_lt x k with q | q
          · exact (hi i x hx).2 q
          · obtain rfl : x = k := by omega
            exact absurd (List.mem_of_getElem? hx) h
        · rw [un, if_neg (by simpa using h), List.length_append, List.length_singleton]
          omega
  obtain ⟨m, hm, hi, hc⟩ := key 8
  have e : m = p.length := by
    rcases Nat.lt_or_ge m p.length with g | g
    · have := (hi m _ (List.getElem?_eq_getElem g)).2 (po.rng m _ (List.getElem?_eq_getElem g)).2
      omega
    · omega
  omega

/-! ### zeros -/
def okV (m : List (Int × Int)) (t : Trm) : Bool := (valT t.1 m t.2).2 == 0
def zV (m : List (Int × Int)) (t : Trm) : Bool := (valT t.1 m t.2).1.1 == 0
/-- What zeros answers. -/
def zerosT (m : List (Int × Int)) (ts : List Trm) : Bool × Bool := if ts.all (okV m) = true then (ts.all (zV m), true) else (false, false)

theorem all_next {f : Trm → Bool} {l : List Trm} {k : Nat} {x : Trm} (hk : l[k]? = some x) : (l.take (k + 1)).all f = ((l.take k).all f && f x) := by
  rw [List.take_add_one, hk, List.all_append]
  simp
set_option maxRecDepth 10000 in
set_option maxHeartbeats 2000000 in
theorem zeros_any (w : World) (v vb : Value) (ts : List Trm) (m : List (Int × Int)) (h : TermsAt w v ts) (hw : ∀ t ∈ ts, Wide t.1 ∧ Bd t.2) (hb0 : RatsAt w vb m) (hm : Wide m) :
    Calls Try.prog 18 #[v, vb] w fun r w' => r = .returned (.tuple #[.bool (zerosT m ts).1, .bool (zerosT m ts).2]) ∧ Below w.heap.size w w' := by
  obtain ⟨A, c, rs, rfl, h2, h3, h4, h5, h6⟩ := h
  obtain ⟨n, hn⟩ : ∃ n, n = ts.length := ⟨_, rfl⟩
  have hrn : rs.length = n := by rw [hn, ← h4, List.length_map]
  have hmx : n ≤ 9223372036854775807 := by unfold maxLen at h3; omega
  rw [← hn] at h2 h5 ⊢
  obtain ⟨V, hV⟩ : ∃ V, V = zerosT m ts := ⟨_, rfl⟩
  rw [← hV]
  have HN := Lib.hid (And.intro hrn (And.intro h4 (And.intro hmx (And.intro h6 (And.intro hn (And.intro hw (And.intro hb0 hm)))))))
  have H5 := Lib.hid h5
  have HV := Lib.hid hV
  clear hn hrn h2 h3 h4 h5 h6 hmx hw hb0 hm hV
  go_enter Try.func18, Try.ntmps18
  go_wp2_with fail
  go_loopg [6, 7] n (fun g v6 v7 wr => ∃ k : Nat, v6 = .bool ((ts.take k).all (zV m)) ∧ v7 = .int .i64 k ∧ k ≤ n ∧ g = n - k ∧ (ts.take k).all (okV m) = true ∧ Below w.heap.size w wr)
  case atStart => exact ⟨0, rfl, rfl, Nat.zero_le _, rfl, rfl, Below.refl _ _⟩
  case round =>
    obtain ⟨k, rfl, rfl, hk, hg, hall, hb⟩ := hrel
    by_cases hkn : k = n
    · have e : ts.take k = ts := by rw [hkn, HN.out.2.2.2.2.1]; exact List.take_length
      rw [e] at hall ⊢
      obtain rfl : V = (ts.all (zV m), true) := HV.out.trans (if_pos hall)
      have HB := Lib.hid hb
      subst hkn
      clear hk hg hall hb e HV
      go_wp2_with fail
      go_ret2
      exact ⟨rfl, HB.out⟩
    · have hlt : k < n := by omega
      obtain ⟨x, hx⟩ : ∃ x, rs[k]? = some x := ⟨_, List.getElem?_eq_getElem (by have := HN.out.1; omega)⟩
      obtain ⟨ad, rfl, d0, d1, d2⟩ := terms_cells H5.out hb hx (by omega)
      have hr := (HN.out.2.2.2.1 x (List.mem_of_getElem? hx)).below hb
      have hxt : ts[k]? = some x.2 := by rw [← HN.out.2.1, List.getElem?_map, hx]; rfl
      have htm := List.mem_of_getElem? hxt
      have hwx := HN.out.2.2.2.2.2.1 x.2 htm
      have vl := gval_any wr x.1 vb x.2.1 m x.2.2.1 x.2.2.2 hr (HN.out.2.2.2.2.2.2.1.below hb) hwx.1 HN.out.2.2.2.2.2.2.2 hwx.2
      have n1 := all_next (f := okV m) hxt
      have n2 := all_next (f := zV m) hxt
      rw [hall, Bool.true_and] at n1
      have bad : okV m x.2 = false → V = (false, false) := fun e => HV.out.trans (if_neg (by rw [all_bad hxt e]; decide))
      have e1 : okV m x.2 = ((valT x.2.1 m (x.2.2.1, x.2.2.2)).2 == 0) := rfl
      have e2 : zV m x.2 = ((valT x.2.1 m (x.2.2.1, x.2.2.2)).1.1 == 0) := rfl
      rw [e1] at n1 bad
      rw [e2] at n2
      have i1 : (k : Int) < (n : Int) := by omega
      have i2 : (0 : Int) ≤ (k : Int) := by omega
      have wk : IntKind.i64.wrap ((k : Int) + 1) = (k : Int) + 1 := IntWalk.i64_in _ (by have := HN.out.2.2.1; omega)
      clear e1 e2
      generalize valT x.2.1 m (x.2.2.1, x.2.2.2) = R at *
      obtain ⟨⟨r1, r2⟩, re⟩ := R
      obtain ⟨A1, c1, e⟩ := rats_shape HN.out.2.2.2.2.2.2.1
      subst e
      obtain ⟨A2, c2, e⟩ := rats_shape hr
      obtain ⟨x1, x2, x3, x4⟩ := x
      dsimp only at *
      subst e
      have HB := Lib.hid hb
      have HK := Lib.hid (And.intro hlt hg)
      have VL := Lib.hid vl
      have NX := Lib.hid (And.intro n1 (And.intro n2 bad))
      generalize (ts.take k).all (zV m) = Y at *
      clear hr hxt htm hwx vl n1 n2 bad hx hkn hlt hk hg hall hb
      by_cases he : re = 0
      rotate_left
      · have ne : (re != 0) = true := by simpa using he
        obtain rfl := NX.out.2.2 (by simpa using he)
        clear he
        go_wp2_with (go_at_call 44; (with_reducible refine VL.out.mono ?_); rintro e w1 ⟨rfl, hb1⟩)
        go_ret2
        exact ⟨rfl, (HB.out.trans (hb1.mono HB.out.size)).alloc (by have := hb1.size; have := HB.out.size; omega) _⟩
      · subst he
        have NY := Lib.hid (And.intro (NX.out.1.trans (by rfl : ((0 : Int) == 0) = true)) NX.out.2.1)
        clear NX HV
        cases Y
        · go_wp2_with (go_at_call 44; (with_reducible refine VL.out.mono ?_); rintro e w1 ⟨rfl, hb1⟩)
          go_roundg (n - (k + 1))
          case measure => have := HK.out; omega
          case rel => exact ⟨k + 1, by rw [NY.out.2]; rfl, by push_cast; rfl, by have := HK.out; omega, rfl, NY.out.1, (HB.out.trans (hb1.mono HB.out.size)).alloc (by have := hb1.size; have := HB.out.size; omega) _⟩
        · go_wp2_with (go_at_call 44; (with_reducible refine VL.out.mono ?_); rintro e w1 ⟨rfl, hb1⟩)
          go_roundg (n - (k + 1))
          case measure => have := HK.out; omega
          case rel => exact ⟨k + 1, by rw [NY.out.2]; rfl, by push_cast; rfl, by have := HK.out; omega, rfl, NY.out.1, (HB.out.trans (hb1.mono HB.out.size)).alloc (by have := hb1.size; have := HB.out.size; omega) _⟩
end Go.Proofs.Ytocmhidkfjahcaa

namespace Go.Proofs.Ytocmhidkfjahcaa
open Go.RowKit Go.WideShapes Go.ChangeShapes Go.ChangeAt Go.Joins Go.Deep

section
variable {H : Type} {enc : TypeId × Value → H} {w : World} {base : Nat} {spare : Nat → Bool} {held : Bool}
set_option maxRecDepth 10000 in
theorem open_ratslice {b0 : Nat} {r : Reach} {v : Value} {d : DataW H} {p : List MemPlace} (hv : Value.okWide Try.prog w r b0 30 v) (h : DataW.Trod enc Try.prog w base spare held 30 v d p) : ∃ l, RatsAt w v l ∧ Wide l := by
  obtain ⟨a, len, cap, rfl⟩ := okWide_slice Try.underlying30 hv
  obtain ⟨fuel, hf⟩ := h
  exact open_rats (by simpa [Value.cells] using hf)
end

theorem zeros_ev {ts : List Trm} {m : List (Int × Int)} (hw : ∀ t ∈ ts, Wide t.1 ∧ Bd t.2) (hm : Wide m) (h : (zerosT m ts).2 = true) : (zerosT m ts).1 = decide (∀ t ∈ ts, ev t (fun k => q (atL (m.take 8) k)) = 0) := by
  unfold zerosT at h ⊢
  split at h
  · rename_i g
    rw [if_pos g]
    dsimp only
    rw [Bool.eq_iff_iff, List.all_eq_true, decide_eq_true_iff]
    have each : ∀ t ∈ ts, (zV m t = true ↔ ev t (fun k => q (atL (m.take 8) k)) = 0) := fun t ht => by
      have ok := List.all_eq_true.1 g t ht
      unfold okV at ok
      unfold zV
      rw [val_nought (hw t ht).1 (hw t ht).2 hm (by simpa using ok), decide_eq_true_iff]
    exact ⟨fun q t ht => (each t ht).1 (q t ht), fun q t ht => (each t ht).2 (q t ht)⟩
  · cases h

theorem keeps_facts {ts a : List Trm} {p : List Int} {z : Int} {m : List (Int × Int)} (hw : ∀ t ∈ ts, Wide t.1 ∧ Bd t.2) (hm : Wide m) (hG : solveT ts = ((a, p), z)) :
    (∀ t ∈ a, Wide t.1 ∧ Bd t.2) ∧ (z = 0 ∨ z = 1 ∨ z = 2) ∧ (z = 1 → (zerosT m ts).2 = true → (zerosT m ts).1 = false) ∧ (z = 0 → (freeK p 8).length + p.length = 8 ∧ ((zerosT m ts).2 = true → (zerosT m a).2 = true → (zerosT m ts).1 = (zerosT m a).1)) := by
  have code := solveT_code ts
  rw [hG] at code
  have hz : z = 0 ∨ z = 1 ∨ z = 2 := by
    rcases code with q | q | q
    · exact .inl q
    · exact .inr (.inl q.1)
    · exact .inr (.inr q.1)
  have ha : ∀ t ∈ a, Wide t.1 ∧ Bd t.2 := by
    rcases code with q | ⟨_, q⟩ | ⟨_, q⟩
    · obtain rfl : z = 0 := q
      exact (solve_twice hw hG).2
    · obtain ⟨rfl, rfl⟩ : a = [] ∧ p = [] := by simpa using q
      exact fun t ht => by cases ht
    · obtain ⟨rfl, rfl⟩ : a = [] ∧ p = [] := by simpa using q
      exact fun t ht => by cases ht
  refine ⟨ha, hz, fun h1 e => ?_, fun h0 => ?_⟩
  · subst h1
    rw [zeros_ev hw hm e]
    exact decide_eq_false (keeps_unsat hw hG _)
  · subst h0
    refine ⟨free_count (piv_ok hw hG), fun e f => ?_⟩
    rw [zeros_ev hw hm e, zeros_ev ha hm f]
    exact decide_eq_decide.2 (keeps_sat hw hG _)

set_option maxRecDepth 10000 in
set_option maxHeartbeats 2000000 in
theorem keeps_out (w : World) (v : Value) (ts : List Trm) (vb : Value) (h : TermsAt w v ts) (hs : smallT ts = false) :
    Calls Try.prog 4 #[v, vb] w fun e w' => e = .returned (.bool true) ∧ Below w.heap.size w w' := by
  have sm := fun (w' : World) (hb : Below w.heap.size w w') => smalls_any w' v ts (h.below hb)
  rw [hs] at sm
  have SM := Lib.hid sm
  have B0 := Lib.hid (Below.refl w.heap.size w)
  clear sm h hs
  go_enter Try.func4, Try.ntmps4
  go_wp2_with (first
    | (go_at_call 12; (with_reducible refine (awake3_yes _).mono ?_); rintro e w1 ⟨rfl, hb⟩; have B0 := Lib.hid (B0.out.trans (hb.mono B0.out.size)); clear hb)
    | (go_at_call 13; (with_reducible refine (SM.out _ B0.out).mono ?_); rintro e w2 ⟨rfl, hb⟩; have B0 := Lib.hid (B0.out.trans (hb.mono B0.out.size)); clear hb))
  go_ret
  exact ⟨rfl, B0.out⟩

set_option maxRecDepth 10000 in
set_option maxHeartbeats 2000000 in
theorem keeps_many (w : World) (v vb : Value) (ts : List Trm) (m : List (Int × Int)) (h : TermsAt w v ts) (hb0 : RatsAt w vb m) (hs : smallT ts = true) (hl : 12 < m.length) :
    Calls Try.prog 4 #[v, vb] w fun e w' => e = .returned (.bool true) ∧ Below w.heap.size w w' := by
  have sm := fun (w' : World) (hb : Below w.heap.size w w') => smalls_any w' v ts (h.below hb)
  rw [hs] at sm
  have SM := Lib.hid sm
  have B0 := Lib.hid (Below.refl w.heap.size w)
  obtain ⟨A, c, rfl⟩ := rats_shape hb0
  have i1 : (12 : Int) < (m.length : Int) := by omega
  clear sm h hs hb0
  generalize m.length = n at *
  go_enter Try.func4, Try.ntmps4
  go_wp2_with (first
    | (go_at_call 12; (with_reducible refine (awake3_yes _).mono ?_); rintro e w1 ⟨rfl, hb⟩; have B0 := Lib.hid (B0.out.trans (hb.mono B0.out.size)); clear hb)
    | (go_at_call 13; (with_reducible refine (SM.out _ B0.out).mono ?_); rintro e w2 ⟨rfl, hb⟩; have B0 := Lib.hid (B0.out.trans (hb.mono B0.out.size)); clear hb))
  go_ret
  exact ⟨rfl, B0.out⟩

set_option maxRecDepth 100000 in
set_option maxHeartbeats 8000000 in
theorem keeps_big (w : World) (v vb : Value) (ts : List Trm) (m : List (Int × Int)) (h : TermsAt w v ts) (hw : ∀ t ∈ ts, Wide t.1 ∧ Bd t.2) (hb0 : RatsAt w vb m) (hm : Wide m) (hs : smallT ts = true) (hl : ¬ 12 < m.length) :
    Calls Try.prog 4 #[v, vb] w fun e w' => e = .returned (.bool true) ∧ Below w.heap.size w w' := by
  have z1 := fun (w' : World) (hb : Below w.heap.size w w') => zeros_any w' v vb ts m (h.below hb) hw (hb0.below hb) hm
  have sm := fun (w' : World) (hb : Below w.heap.size w w') => smalls_any w' v ts (h.below hb)
  rw [hs] at sm
  have SM := Lib.hid sm
  have gs := fun (w' : World) (hb : Below w.heap.size w w') => gsolve_any w' v ts (h.below hb) hw
  obtain ⟨⟨⟨a, p⟩, z⟩, hG⟩ : ∃ r, solveT ts = r := ⟨_, rfl⟩
  rw [hG] at gs
  have G := Lib.hid gs
  have B0 := Lib.hid (Below.refl w.heap.size w)
  clear sm gs h hs
  obtain ⟨hwa, hz, f1, f0⟩ := keeps_facts (m := m) hw hm hG
  have z2 := fun (w' : World) (s : Value) (hs : TermsAt w' s a) (hb : Below w.heap.size w w') => zeros_any w' s vb a m hs hwa (hb0.below hb) hm
  have FRE := Lib.hid (fun (w' : World) (s : Value) (hs : IntsAt w' s p) => free_any w' s p hs)
  obtain ⟨A0, c0, rfl⟩ := rats_shape hb0
  have i1 : ¬ (12 : Int) < (m.length : Int) := by omega
  have i2 : ¬ 12 < m.length := hl
  generalize zerosT m ts = X at *
  generalize zerosT m a = Y at *
  obtain ⟨x, e⟩ := X
  obtain ⟨y, f⟩ := Y
  dsimp only at *
  have Z1 := Lib.hid z1
  have Z2 := Lib.hid z2
  clear z1 z2 hw hwa hG hb0 hm hl
  generalize m.length = n at *
  by_cases h2 : z = 2
  · subst h2
    clear f1 f0 hz
    go_enter Try.func4, Try.ntmps4
    go_wp2_with (first
    | (go_at_call 12; (with_reducible refine (awake3_yes _).mono ?_); rintro e w1 ⟨rfl, hb⟩; have B0 := Lib.hid (B0.out.trans (hb.mono B0.out.size)); clear hb)
    | (go_at_call 13; (with_reducible refine (SM.out _ B0.out).mono ?_); rintro e w2 ⟨rfl, hb⟩; have b2 := Lib.hid (B0.out.trans (hb.mono B0.out.size)); clear hb)
    | (go_at_call 14; (with_reducible refine (G.out _ b2.out).mono ?_); rintro e w3 ⟨A, c, B, d, rfl, hT, hI, hb⟩; have b3 := Lib.hid (b2.out.trans (hb.mono b2.out.size)); have HT := Lib.hid hT; have HI := Lib.hid hI; clear hb hT hI)
    | (go_at_call 18; (first
      | (with_reducible refine (Z1.out _ b3.out).mono ?_); rintro e w4 ⟨rfl, hb⟩; have b4 := Lib.hid (b3.out.trans (hb.mono b3.out.size)); have HT := Lib.hid (HT.out.below hb); have HI := Lib.hid (HI.out.below hb); clear hb b3
      | (with_reducible refine (Z2.out _ _ HT.out b4.out).mono ?_); rintro e w5 ⟨rfl, hb⟩; have b5 := Lib.hid (b4.out.trans (hb.mono b4.out.size)); have HI := Lib.hid (HI.out.below hb); clear hb)))
    go_ret
    exact ⟨rfl, b3.out⟩
  have n2 : (z == 2) = false := by simpa using h2
  cases e
  · clear f1 f0 hz h2
    go_enter Try.func4, Try.ntmps4
    go_wp2_with (first
    | (go_at_call 12; (with_reducible refine (awake3_yes _).mono ?_); rintro e w1 ⟨rfl, hb⟩; have B0 := Lib.hid (B0.out.trans (hb.mono B0.out.size)); clear hb)
    | (go_at_call 13; (with_reducible refine (SM.out _ B0.out).mono ?_); rintro e w2 ⟨rfl, hb⟩; have b2 := Lib.hid (B0.out.trans (hb.mono B0.out.size)); clear hb)
    | (go_at_call 14; (with_reducible refine (G.out _ b2.out).mono ?_); rintro e w3 ⟨A, c, B, d, rfl, hT, hI, hb⟩; have b3 := Lib.hid (b2.out.trans (hb.mono b2.out.size)); have HT := Lib.hid hT; have HI := Lib.hid hI; clear hb hT hI)
    | (go_at_call 18; (first
      | (with_reducible refine (Z1.out _ b3.out).mono ?_); rintro e w4 ⟨rfl, hb⟩; have b4 := Lib.hid (b3.out.trans (hb.mono b3.out.size)); have HT := Lib.hid (HT.out.below hb); have HI := Lib.hid (HI.out.below hb); clear hb b3
      | (with_reducible refine (Z2.out _ _ HT.out b4.out).mono ?_); rintro e w5 ⟨rfl, hb⟩; have b5 := Lib.hid (b4.out.trans (hb.mono b4.out.size)); have HI := Lib.hid (HI.out.below hb); clear hb)))
    go_ret
    exact ⟨rfl, b5.out⟩
  cases f
  · clear f1 f0 hz h2
    go_enter Try.func4, Try.ntmps4
    go_wp2_with (first
    | (go_at_call 12; (with_reducible refine (awake3_yes _).mono ?_); rintro e w1 ⟨rfl, hb⟩; have B0 := Lib.hid (B0.out.trans (hb.mono B0.out.size)); clear hb)
    | (go_at_call 13; (with_reducible refine (SM.out _ B0.out).mono ?_); rintro e w2 ⟨rfl, hb⟩; have b2 := Lib.hid (B0.out.trans (hb.mono B0.out.size)); clear hb)
    | (go_at_call 14; (with_reducible refine (G.out _ b2.out).mono ?_); rintro e w3 ⟨A, c, B, d, rfl, hT, hI, hb⟩; have b3 := Lib.hid (b2.out.trans (hb.mono b2.out.size)); have HT := Lib.hid hT; have HI := Lib.hid hI; clear hb hT hI)
    | (go_at_call 18; (first
      | (with_reducible refine (Z1.out _ b3.out).mono ?_); rintro e w4 ⟨rfl, hb⟩; have b4 := Lib.hid (b3.out.trans (hb.mono b3.out.size)); have HT := Lib.hid (HT.out.below hb); have HI := Lib.hid (HI.out.below hb); clear hb b3
      | (with_reducible refine (Z2.out _ _ HT.out b4.out).mono ?_); rintro e w5 ⟨rfl, hb⟩; have b5 := Lib.hid (b4.out.trans (hb.mono b4.out.size)); have HI := Lib.hid (HI.out.below hb); clear hb)))
    go_ret
    exact ⟨rfl, b5.out⟩
  rcases hz with rfl | rfl | rfl
  · obtain ⟨fc, fx⟩ := f0 rfl
    obtain rfl : x = y := fx rfl rfl
    have hsum : (((freeK p 8).length : Nat) : Int) + ((p.length : Nat) : Int) = 8 := by omega
    have hs2 : IntKind.i64.wrap ((((freeK p 8).length : Nat) : Int) + ((p.length : Nat) : Int)) = 8 := by rw [hsum]; rfl
    clear f1 f0 fx h2 n2 fc hsum
    cases x
    · go_enter Try.func4, Try.ntmps4
      go_wp2_with (first
    | (go_at_call 12; (with_reducible refine (awake3_yes _).mono ?_); rintro e w1 ⟨rfl, hb⟩; have B0 := Lib.hid (B0.out.trans (hb.mono B0.out.size)); clear hb)
    | (go_at_call 13; (with_reducible refine (SM.out _ B0.out).mono ?_); rintro e w2 ⟨rfl, hb⟩; have b2 := Lib.hid (B0.out.trans (hb.mono B0.out.size)); clear hb)
    | (go_at_call 14; (with_reducible refine (G.out _ b2.out).mono ?_); rintro e w3 ⟨A, c, B, d, rfl, hT, hI, hb⟩; have b3 := Lib.hid (b2.out.trans (hb.mono b2.out.size)); have HT := Lib.hid hT; have HI := Lib.hid hI; clear hb hT hI)
    | (go_at_call 18; (first
      | (with_reducible refine (Z1.out _ b3.out).mono ?_); rintro e w4 ⟨rfl, hb⟩; have b4 := Lib.hid (b3.out.trans (hb.mono b3.out.size)); have HT := Lib.hid (HT.out.below hb); have HI := Lib.hid (HI.out.below hb); clear hb b3
      | (with_reducible refine (Z2.out _ _ HT.out b4.out).mono ?_); rintro e w5 ⟨rfl, hb⟩; have b5 := Lib.hid (b4.out.trans (hb.mono b4.out.size)); have HI := Lib.hid (HI.out.below hb); clear hb))
    | (go_at_call 19; (with_reducible refine (FRE.out _ _ HI.out).mono ?_); rintro e w6 ⟨A6, c6, rfl, hI6, hb⟩; have b5 := Lib.hid (b5.out.trans (hb.mono b5.out.size)); clear hb hI6))
      go_ret
      exact ⟨rfl, b5.out⟩
    · go_enter Try.func4, Try.ntmps4
      go_wp2_with (first
    | (go_at_call 12; (with_reducible refine (awake3_yes _).mono ?_); rintro e w1 ⟨rfl, hb⟩; have B0 := Lib.hid (B0.out.trans (hb.mono B0.out.size)); clear hb)
    | (go_at_call 13; (with_reducible refine (SM.out _ B0.out).mono ?_); rintro e w2 ⟨rfl, hb⟩; have b2 := Lib.hid (B0.out.trans (hb.mono B0.out.size)); clear hb)
    | (go_at_call 14; (with_reducible refine (G.out _ b2.out).mono ?_); rintro e w3 ⟨A, c, B, d, rfl, hT, hI, hb⟩; have b3 := Lib.hid (b2.out.trans (hb.mono b2.out.size)); have HT := Lib.hid hT; have HI := Lib.hid hI; clear hb hT hI)
    | (go_at_call 18; (first
      | (with_reducible refine (Z1.out _ b3.out).mono ?_); rintro e w4 ⟨rfl, hb⟩; have b4 := Lib.hid (b3.out.trans (hb.mono b3.out.size)); have HT := Lib.hid (HT.out.below hb); have HI := Lib.hid (HI.out.below hb); clear hb b3
      | (with_reducible refine (Z2.out _ _ HT.out b4.out).mono ?_); rintro e w5 ⟨rfl, hb⟩; have b5 := Lib.hid (b4.out.trans (hb.mono b4.out.size)); have HI := Lib.hid (HI.out.below hb); clear hb))
    | (go_at_call 19; (with_reducible refine (FRE.out _ _ HI.out).mono ?_); rintro e w6 ⟨A6, c6, rfl, hI6, hb⟩; have b5 := Lib.hid (b5.out.trans (hb.mono b5.out.size)); clear hb hI6))
      go_ret
      exact ⟨rfl, b5.out⟩
  · obtain rfl : x = false := f1 rfl rfl
    clear f1 f0 h2 n2
    go_enter Try.func4, Try.ntmps4
    go_wp2_with (first
    | (go_at_call 12; (with_reducible refine (awake3_yes _).mono ?_); rintro e w1 ⟨rfl, hb⟩; have B0 := Lib.hid (B0.out.trans (hb.mono B0.out.size)); clear hb)
    | (go_at_call 13; (with_reducible refine (SM.out _ B0.out).mono ?_); rintro e w2 ⟨rfl, hb⟩; have b2 := Lib.hid (B0.out.trans (hb.mono B0.out.size)); clear hb)
    | (go_at_call 14; (with_reducible refine (G.out _ b2.out).mono ?_); rintro e w3 ⟨A, c, B, d, rfl, hT, hI, hb⟩; have b3 := Lib.hid (b2.out.trans (hb.mono b2.out.size)); have HT := Lib.hid hT; have HI := Lib.hid hI; clear hb hT hI)
    | (go_at_call 18; (first
      | (with_reducible refine (Z1.out _ b3.out).mono ?_); rintro e w4 ⟨rfl, hb⟩; have b4 := Lib.hid (b3.out.trans (hb.mono b3.out.size)); have HT := Lib.hid (HT.out.below hb); have HI := Lib.hid (HI.out.below hb); clear hb b3
      | (with_reducible refine (Z2.out _ _ HT.out b4.out).mono ?_); rintro e w5 ⟨rfl, hb⟩; have b5 := Lib.hid (b4.out.trans (hb.mono b4.out.size)); have HI := Lib.hid (HI.out.below hb); clear hb)))
    go_ret
    exact ⟨rfl, b5.out⟩
  · exact absurd rfl h2

theorem keeps_any (w : World) (v : Value) (ts : List Trm) (h : TermsAt w v ts) (hw : ∀ t ∈ ts, Wide t.1 ∧ Bd t.2) (vb : Value) (m : List (Int × Int)) (hb0 : RatsAt w vb m) (hm : Wide m) :
    Calls Try.prog 4 #[v, vb] w fun e w' => e = .returned (.bool true) ∧ Below w.heap.size w w' := by
  cases hs : smallT ts
  · exact keeps_out w v ts vb h hs
  · by_cases hl : 12 < m.length
    · exact keeps_many w v vb ts m h hb0 hs hl
    · exact keeps_big w v vb ts m h hw hb0 hm hs hl
end Go.Proofs.Ytocmhidkfjahcaa
