/-
  Plain: what the steps of a system's solution come to, in rational numbers. (Template: by-name.py fills it.)
-/
import Derived.Test.YtkinbbhbencipaaJD
import Derived.Test.YtkinbbhbencipaaJF
namespace Go.Proofs.Ytkinbbhbencipaa
open Go.RowKit

/-- A fraction as a rational number. -/
def q (x : Int × Int) : Rat := (x.1 : Rat) / (x.2 : Rat)

theorem OkR.ne {x : Int × Int} (h : OkR x) : (x.2 : Rat) ≠ 0 := by
  have := h.den
  exact_mod_cast (by omega : x.2 ≠ 0)
theorem OkR.inj {x y : Int × Int} (hx : OkR x) (hy : OkR y) (h : q x = q y) : x = y := by
  unfold q at h
  have a := hx.ne
  have b := hy.ne
  have : (x.1 : Rat) * y.2 = y.1 * x.2 := by grind
  exact hx.ext hy (by exact_mod_cast this)
theorem q_add {x y z : Int × Int} (hx : OkR x) (hy : OkR y) (hz : OkR z) (h : z.1 * (x.2 * y.2) = (x.1 * y.2 + y.1 * x.2) * z.2) : q z = q x + q y := by
  unfold q
  have a := hx.ne
  have b := hy.ne
  have c := hz.ne
  have : (z.1 : Rat) * (x.2 * y.2) = (x.1 * y.2 + y.1 * x.2) * z.2 := by exact_mod_cast h
  grind
theorem q_mul {x y z : Int × Int} (hx : OkR x) (hy : OkR y) (hz : OkR z) (h : z.1 * (x.2 * y.2) = x.1 * y.1 * z.2) : q z = q x * q y := by
  unfold q
  have a := hx.ne
  have b := hy.ne
  have c := hz.ne
  have : (z.1 : Rat) * (x.2 * y.2) = x.1 * y.1 * z.2 := by exact_mod_cast h
  grind
theorem addH_q {x y : Int × Int} (hx : OkR x) (hy : OkR y) (h : (addH x y).2 = 0) : OkR (addH x y).1 ∧ q (addH x y).1 = q x + q y := by
  obtain ⟨a, b⟩ := addH_eq hx hy h
  exact ⟨a, q_add hx hy a b⟩
theorem mulH_q {x y : Int × Int} (hx : OkR x) (hy : OkR y) (h : (mulH x y).2 = 0) : OkR (mulH x y).1 ∧ q (mulH x y).1 = q x * q y := by
  obtain ⟨a, b⟩ := mulH_eq hx hy h
  exact ⟨a, q_mul hx hy a b⟩

/-- The sum behind k products; none: it runs over. -/
def sumK (l m : List (Int × Int)) (kx : Int × Int) : Nat → Option (Int × Int)
  | 0 => some kx
  | k + 1 => (sumK l m kx k).bind fun s => if (mulH (atL l k) (atL m k)).2 = 0 ∧ (addH s (mulH (atL l k) (atL m k)).1).2 = 0 then some (addH s (mulH (atL l k) (atL m k)).1).1 else none

theorem sumK_ok {l m : List (Int × Int)} {kx : Int × Int} (hl : AllOk l) (hm : AllOk m) (hx : OkR kx) : ∀ (k : Nat) (s : Int × Int), sumK l m kx k = some s → OkR s
  | 0, s, h => by
    obtain rfl : kx = s := by simpa [sumK] using h
    exact hx
  | k + 1, s, h => by
    rw [sumK, Option.bind_eq_some_iff] at h
    obtain ⟨a, ha, hb⟩ := h
    split at hb
    · rename_i g
      obtain rfl : _ = s := Option.some.inj hb
      exact addH_ok.ok _ _ (sumK_ok hl hm hx k a ha) (mulH_ok.ok _ _ (hl.at k) (hm.at k) g.1) g.2
    · cases hb
/-- Behind the end of one of them nothing more comes. -/
theorem sumK_more {l m : List (Int × Int)} {kx : Int × Int} (hl : AllOk l) (hm : AllOk m) (hx : OkR kx) : ∀ d : Nat, sumK l m kx (min l.length m.length + d) = sumK l m kx (min l.length m.length)
  | 0 => rfl
  | d + 1 => by
    rw [← Nat.add_assoc, sumK, sumK_more hl hm hx d]
    cases e : sumK l m kx (min l.length m.length) with
    | none => rfl
    | some s =>
      have hs := sumK_ok hl hm hx _ _ e
      have hp : mulH (atL l ((min l.length m.length + d : Nat) : Int)) (atL m ((min l.length m.length + d : Nat) : Int)) = ((0, 1), 0) := by
        rcases Nat.le_total l.length m.length with g | g
        · rw [atL_out (l := l) (.inr (by omega))]
          exact mulH_0 (hm.at _)
        · rw [atL_out (l := m) (.inr (by omega))]
          exact mulH_of (hl.at _) okR_nought okR_nought (by show 0 * (_ * 1) = _ * 0 * 1; grind)
      show (if _ then _ else _) = _
      rw [hp, addH_nought hs]
      rfl
theorem sumK_to {l m : List (Int × Int)} {kx : Int × Int} (hl : AllOk l) (hm : AllOk m) (hx : OkR kx) (k : Nat) (h : min l.length m.length ≤ k) : sumK l m kx k = sumK l m kx (min l.length m.length) := by
  have := sumK_more hl hm hx (k - min l.length m.length)
  rwa [show min l.length m.length + (k - min l.length m.length) = k by omega] at this

/-- What Value answers. -/
def valT (l m : List (Int × Int)) (kx : Int × Int) : (Int × Int) × Int :=
  if rightT l kx.1 kx.2 = true ∧ allR (m.take 8) = true then
    match sumK l m kx (min l.length m.length) with
    | some s => (s, 0)
    | none => ((0, 0), 3)
  else ((0, 0), 2)

theorem atL_take {m : List (Int × Int)} {n : Nat} {k : Nat} (h : k < n) : atL (m.take n) k = atL m k := by
  unfold atL
  rw [if_pos (by omega), if_pos (by omega), Int.toNat_natCast, List.getElem?_take, if_pos h]
theorem sumK_take (l m : List (Int × Int)) (kx : Int × Int) : ∀ k : Nat, k ≤ 8 → sumK l (m.take 8) kx k = sumK l m kx k
  | 0, _ => rfl
  | k + 1, h => by rw [sumK, sumK, sumK_take l m kx k (by omega), atL_take (by omega)]

theorem valT_ok {l m : List (Int × Int)} {kx : Int × Int} (hl : Wide l) (hx : Bd kx) (hm : Wide m) (h : (valT l m kx).2 = 0) :
    AllOk l ∧ OkR kx ∧ AllOk (m.take 8) ∧ l.length ≤ 8 ∧ sumK l (m.take 8) kx 8 = some (valT l m kx).1 := by
  by_cases g : rightT l kx.1 kx.2 = true ∧ allR (m.take 8) = true
  · obtain ⟨p, a, b⟩ := right_parts g.1 hl hx.1.1 hx.1.2 hx.2.1 hx.2.2
    have c : AllOk (m.take 8) := allOk_of g.2 fun x hx => hm x (List.mem_of_mem_take hx)
    refine ⟨a, b, c, p, ?_⟩
    have e : min l.length (m.take 8).length = min l.length m.length := by rw [List.length_take]; omega
    rw [sumK_to a c b 8 (by omega), e, sumK_take l m kx _ (by omega)]
    unfold valT at h ⊢
    rw [if_pos g] at h ⊢
    cases q : sumK l m kx (min l.length m.length) with
    | none => rw [q] at h; cases h
    | some s => rfl
  · unfold valT at h
    rw [if_neg g] at h
    cases h

theorem sumK_lin {l m n at_ : List (Int × Int)} {kx ky kz : Int × Int} (hl : AllOk l) (hm : AllOk m) (hn : AllOk n) (ha : AllOk at_) (hx : OkR kx) (hy : OkR ky) (hz : OkR kz) (hk : q kz = q kx + q ky) (hc : ∀ i : Nat, q (atL n i) = q (atL l i) + q (atL m i)) :
    ∀ (k : Nat) (a b c : Int × Int), sumK l at_ kx k = some a → sumK m at_ ky k = some b → sumK n at_ kz k = some c → q c = q a + q b
  | 0, a, b, c, h1, h2, h3 => by
    obtain rfl : kx = a := by simpa [sumK] using h1
    obtain rfl : ky = b := by simpa [sumK] using h2
    obtain rfl : kz = c := by simpa [sumK] using h3
    exact hk
  | k + 1, a, b, c, h1, h2, h3 => by
    rw [sumK, Option.bind_eq_some_iff] at h1 h2 h3
    obtain ⟨a', ha', h1⟩ := h1
    obtain ⟨b', hb', h2⟩ := h2
    obtain ⟨c', hc', h3⟩ := h3
    have ih := sumK_lin hl hm hn ha hx hy hz hk hc k a' b' c' ha' hb' hc'
    split at h1
    · rename_i g1
      split at h2
      · rename_i g2
        split at h3
        · rename_i g3
          obtain rfl := Option.some.inj h1
          obtain rfl := Option.some.inj h2
          obtain rfl := Option.some.inj h3
          obtain ⟨o1, p1⟩ := mulH_q (hl.at k) (ha.at k) g1.1
          obtain ⟨o2, p2⟩ := mulH_q (hm.at k) (ha.at k) g2.1
          obtain ⟨o3, p3⟩ := mulH_q (hn.at k) (ha.at k) g3.1
          obtain ⟨_, s1⟩ := addH_q (sumK_ok hl ha hx k a' ha') o1 g1.2
          obtain ⟨_, s2⟩ := addH_q (sumK_ok hm ha hy k b' hb') o2 g2.2
          obtain ⟨_, s3⟩ := addH_q (sumK_ok hn ha hz k c' hc') o3 g3.2
          have e := hc k
          rw [s1, s2, s3, p1, p2, p3, e, ih]
          grind
        · cases h3
      · cases h2
    · cases h1

/-- Of a sum it is the sum's, where nothing runs over. -/
theorem val_sum {l m at_ : List (Int × Int)} {kx ky : Int × Int} (hl : Wide l) (hm : Wide m) (ha : Wide at_) (hx : Bd kx) (hy : Bd ky) (e1 : (valT l at_ kx).2 = 0) (e2 : (valT m at_ ky).2 = 0) (e3 : (sumT l m kx ky).2.2 = 0)
    (e4 : (valT (sumT l m kx ky).1 at_ (sumT l m kx ky).2.1).2 = 0) (e5 : (addH (valT l at_ kx).1 (valT m at_ ky).1).2 = 0) :
    OkR (valT l at_ kx).1 ∧ OkR (valT m at_ ky).1 ∧ (valT (sumT l m kx ky).1 at_ (sumT l m kx ky).2.1).1 = (addH (valT l at_ kx).1 (valT m at_ ky).1).1 := by
  obtain ⟨al, ox, aa, _, s1⟩ := valT_ok hl hx ha e1
  obtain ⟨am, oy, _, _, s2⟩ := valT_ok hm hy ha e2
  obtain ⟨sw, sb⟩ := sumT_wide hl hm hx hy
  obtain ⟨az, oz, _, _, s3⟩ := valT_ok sw sb ha e4
  obtain ⟨_, _, _, _, _, _, P⟩ := sum_put hl hm hx hy e3
  have o1 := sumK_ok al aa ox _ _ s1
  have o2 := sumK_ok am aa oy _ _ s2
  have o3 := sumK_ok az aa oz _ _ s3
  obtain ⟨o4, p4⟩ := addH_q o1 o2 e5
  refine ⟨o1, o2, o3.inj o4 ?_⟩
  rw [p4]
  refine sumK_lin al am az aa ox oy oz ?_ (fun i => ?_) 8 _ _ _ s1 s2 s3
  · rw [P.k.2]
    exact (addH_q ox oy P.k.1).2
  · rw [(P.at_ i).2]
    exact (addH_q (al.at i) (am.at i) (P.at_ i).1).2
end Go.Proofs.Ytkinbbhbencipaa

namespace Go.Proofs.Ytkinbbhbencipaa
open Go.RowKit

/-- A term's coefficient. -/
def co (t : Trm) (x : Int) : Rat := q (atL t.1 x)

theorem q_zero : q (0, 1) = 0 := by unfold q; grind
theorem q_one : q (1, 1) = 1 := by unfold q; grind
theorem q_eq {x : Int × Int} (h : OkR x) : q x = 0 ↔ x.1 = 0 := by
  have := h.ne
  unfold q
  constructor
  · intro e
    have : (x.1 : Rat) = 0 := by grind
    exact_mod_cast this
  · intro e
    rw [e]
    grind
theorem neg_q (x : Int × Int) : q (negH x) = - q x := by
  unfold q negH
  push_cast
  grind
theorem inv_q {x : Int × Int} (h : OkR x) (hn : x.1 ≠ 0) : q (invH x) * q x = 1 := by
  have a := h.ne
  have b : (x.1 : Rat) ≠ 0 := by exact_mod_cast hn
  unfold q invH
  by_cases g : x.1 < 0
  · rw [if_pos g]
    have e : ((x.1.natAbs : Int) : Rat) = -(x.1 : Rat) := by
      have : (x.1.natAbs : Int) = -x.1 := by omega
      rw [this]
      push_cast
      rfl
    show ((-x.2 : Int) : Rat) / ((x.1.natAbs : Int) : Rat) * ((x.1 : Rat) / (x.2 : Rat)) = 1
    rw [e]
    push_cast
    grind
  · rw [if_neg g]
    have e : ((x.1.natAbs : Int) : Rat) = (x.1 : Rat) := by
      have : (x.1.natAbs : Int) = x.1 := by omega
      rw [this]
    show (x.2 : Rat) / ((x.1.natAbs : Int) : Rat) * ((x.1 : Rat) / (x.2 : Rat)) = 1
    rw [e]
    grind

theorem int_lt (a b : Int) : a < b ∨ b ≤ a := by omega
theorem co_out {t : Trm} {x : Int} (h : x < 0) : co t x = 0 := by
  unfold co
  rw [atL_out (.inl h), q_zero]

theorem elim_q {p t u : Trm} {v : Int} (hp : TrmOk p) (ht : TrmOk t) (h : elimO p v t = some u) : (∀ i : Int, co u i = co t i - co t v * co p i) ∧ q u.2 = q t.2 - co t v * q p.2 := by
  unfold elimO at h
  split at h
  · rename_i g
    obtain rfl := Option.some.inj h
    by_cases hz : (atL t.1 v).1 = 0
    · have e : elimT t.1 t.2 p.1 p.2 v = (t.1, t.2, 0) := if_pos hz
      have z : co t v = 0 := (q_eq (ht.ok.at v)).2 hz
      rw [e, z]
      exact ⟨fun i => by unfold co; grind, by grind⟩
    · have hn : OkR (negH (atL t.1 v)) := okR_neg (ht.ok.at v)
      have hw := timesT_wide (l := p.1) (kx := p.2) (kb := negH (atL t.1 v)) hp.ok.wide hp.k.wide hn.wide
      by_cases g2 : (timesT p.1 p.2 (negH (atL t.1 v))).2.2 = 0
      · have e : elimT t.1 t.2 p.1 p.2 v = sumT t.1 (timesT p.1 p.2 (negH (atL t.1 v))).1 t.2 (timesT p.1 p.2 (negH (atL t.1 v))).2.1 := by
          unfold elimT
          rw [if_neg hz, if_pos g2]
        rw [e] at g ⊢
        obtain ⟨_, _, _, _, P1⟩ := times_put hp.ok.wide hp.k.wide hn.wide g2
        obtain ⟨_, _, _, _, _, _, P2⟩ := sum_put ht.ok.wide hw.1 ht.k.wide hw.2 g
        have part : ∀ (x y m s : Int × Int), OkR x → OkR y → (mulH y (negH (atL t.1 v))).2 = 0 → m = (mulH y (negH (atL t.1 v))).1 → (addH x m).2 = 0 → s = (addH x m).1 → q s = q x - co t v * q y := by
          intro x y m s ox oy e1 e2 e3 e4
          obtain ⟨om, qm⟩ := mulH_q oy hn e1
          rw [← e2] at om qm
          obtain ⟨_, qs⟩ := addH_q ox om e3
          rw [e4, qs, qm, neg_q]
          unfold co
          grind
        refine ⟨fun i => ?_, part _ _ _ _ ht.k hp.k P1.k.1 P1.k.2 P2.k.1 P2.k.2⟩
        rcases int_lt i 0 with hi | hi
        · rw [co_out hi, co_out hi, co_out hi]
          grind
        · obtain ⟨n, rfl⟩ : ∃ n : Nat, i = n := ⟨i.toNat, by omega⟩
          exact part _ _ _ _ (ht.ok.at n) (hp.ok.at n) (P1.at_ n).1 (P1.at_ n).2 (P2.at_ n).1 (P2.at_ n).2
      · unfold elimT at g
        rw [if_neg hz, if_neg g2] at g
        exact absurd g g2
  · cases h

theorem div_q {t : Trm} {v : Int} (ht : TrmOk t) (hv : prHas v t = true) (e : (divT t v).2.2 = 0) : (∀ i : Int, co ((divT t v).1, (divT t v).2.1) i * co t v = co t i) ∧ q (divT t v).2.1 * co t v = q t.2 ∧ trimL (divT t v).1 = (divT t v).1 := by
  have hn : (atL t.1 v).1 ≠ 0 := by unfold prHas at hv; simpa using hv
  have oi := okR_inv (ht.ok.at v) hn
  obtain ⟨_, _, _, _, P⟩ := times_put ht.ok.wide ht.k.wide oi.wide e
  have iq := inv_q (ht.ok.at v) hn
  have part : ∀ (x m : Int × Int), OkR x → (mulH x (invH (atL t.1 v))).2 = 0 → m = (mulH x (invH (atL t.1 v))).1 → q m * co t v = q x := by
    intro x m ox e1 e2
    obtain ⟨_, qm⟩ := mulH_q ox oi e1
    rw [e2, qm]
    unfold co
    grind
  refine ⟨fun i => ?_, part _ _ ht.k P.k.1 P.k.2, P.own⟩
  rcases int_lt i 0 with hi | hi
  · rw [co_out hi, co_out hi]
    grind
  · obtain ⟨n, rfl⟩ : ∃ n : Nat, i = n := ⟨i.toNat, by omega⟩
    exact part _ _ (ht.ok.at n) (P.at_ n).1 (P.at_ n).2
theorem elim_own {p t u : Trm} {v : Int} (hp : TrmOk p) (ht : TrmOk t) (ho : trimL t.1 = t.1) (h : elimO p v t = some u) : trimL u.1 = u.1 := by
  unfold elimO at h
  split at h
  · rename_i g
    obtain rfl := Option.some.inj h
    by_cases hz : (atL t.1 v).1 = 0
    · have e : elimT t.1 t.2 p.1 p.2 v = (t.1, t.2, 0) := if_pos hz
      rw [e]
      exact ho
    · have hn : OkR (negH (atL t.1 v)) := okR_neg (ht.ok.at v)
      have hw := timesT_wide (l := p.1) (kx := p.2) (kb := negH (atL t.1 v)) hp.ok.wide hp.k.wide hn.wide
      by_cases g2 : (timesT p.1 p.2 (negH (atL t.1 v))).2.2 = 0
      · have e : elimT t.1 t.2 p.1 p.2 v = sumT t.1 (timesT p.1 p.2 (negH (atL t.1 v))).1 t.2 (timesT p.1 p.2 (negH (atL t.1 v))).2.1 := by
          unfold elimT
          rw [if_neg hz, if_pos g2]
        rw [e] at g ⊢
        exact (sum_put ht.ok.wide hw.1 ht.k.wide hw.2 g).2.2.2.2.2.2.own
      · unfold elimT at g
        rw [if_neg hz, if_neg g2] at g
        exact absurd g g2
  · cases h
theorem has_co {t : Trm} {v : Int} (ht : TrmOk t) : prHas v t = true ↔ co t v ≠ 0 := by
  unfold prHas co
  rw [Ne, q_eq (ht.ok.at v)]
  simp

/-- What holds behind k variables. -/
structure Ech (k : Nat) (s : SolT) : Prop where
  left : ∀ t ∈ s.1, ∀ v : Int, v < k → co t v = 0
  rng : ∀ (i : Nat) (x : Int), s.2.2[i]? = some x → 0 ≤ x ∧ x < k
  inc : ∀ (i j : Nat) (x y : Int), i < j → s.2.2[i]? = some x → s.2.2[j]? = some y → x < y
  unit : ∀ (i j : Nat) (x : Int) (u : Trm), s.2.2[i]? = some x → s.2.1[j]? = some u → co u x = if i = j then 1 else 0
  lead : ∀ (j : Nat) (x : Int) (u : Trm), s.2.2[j]? = some x → s.2.1[j]? = some u → ∀ v : Int, v < x → co u v = 0
  own : ∀ t ∈ s.2.1, trimL t.1 = t.1

theorem get_snoc {α : Type} {l : List α} {a x : α} {i : Nat} (h : (l ++ [a])[i]? = some x) : l[i]? = some x ∨ (i = l.length ∧ x = a) := by
  rcases Nat.lt_or_ge i l.length with g | g
  · rw [List.getElem?_append_left g] at h
    exact .inl h
  · rw [List.getElem?_append_right g] at h
    have e : i - l.length = 0 := by
      rcases Nat.eq_zero_or_pos (i - l.length) with q | q
      · exact q
      · rw [List.getElem?_eq_none (by simp; omega)] at h
        cases h
    rw [e] at h
    exact .inr ⟨by omega, by simpa using h.symm⟩
theorem get_lt {α : Type} {l : List α} {x : α} {i : Nat} (h : l[i]? = some x) : i < l.length := by
  rcases Nat.lt_or_ge i l.length with g | g
  · exact g
  · rw [List.getElem?_eq_none g] at h; cases h
theorem mapE_mem {f : Trm → Option Trm} : ∀ {l us : List Trm}, mapE f l = some us → ∀ u ∈ us, ∃ t ∈ l, f t = some u
  | [], us, h, u, hu => by
    obtain rfl : [] = us := by simpa [mapE] using h
    cases hu
  | x :: r, us, h, u, hu => by
    rw [mapE, Option.bind_eq_some_iff] at h
    obtain ⟨a, ha, hb⟩ := h
    obtain ⟨b, hc, rfl⟩ := Option.map_eq_some_iff.1 hb
    rcases List.mem_cons.1 hu with rfl | hu
    · exact ⟨x, by simp, ha⟩
    · obtain ⟨t, ht, e⟩ := mapE_mem hc u hu
      exact ⟨t, by simp [ht], e⟩
/-- Backwards: what stands at a place came from what stood there. -/
theorem mapE_from {f : Trm → Option Trm} {l us : List Trm} (h : mapE f l = some us) {k : Nat} {u : Trm} (hk : us[k]? = some u) : ∃ t, l[k]? = some t ∧ f t = some u := by
  have hl : k < l.length := by have := get_lt hk; rw [mapE_len h] at this; exact this
  obtain ⟨u', e1, e2⟩ := mapE_at h k l[k] (List.getElem?_eq_getElem hl)
  rw [hk] at e1
  obtain rfl := Option.some.inj e1
  exact ⟨_, List.getElem?_eq_getElem hl, e2⟩

theorem ech_step {n k : Nat} {s r : SolT} (so : SolOk n k s) (h : Ech k s) (e : solveStep s k = some r) : Ech (k + 1) r := by
  obtain ⟨L, Q, P⟩ := s
  unfold solveStep at e
  dsimp only at e
  split at e
  · rename_i hno
    obtain rfl := Option.some.inj e
    rw [List.findIdx?_eq_none_iff] at hno
    refine ⟨fun t ht v hv => ?_, fun i x hx => ?_, h.inc, h.unit, h.lead, h.own⟩
    · rcases int_lt v k with g | g
      · exact h.left t ht v g
      · obtain rfl : v = k := by omega
        have := hno t ht
        rcases Classical.em (co t k = 0) with z | z
        · exact z
        · rw [(has_co (so.l t ht)).2 z] at this
          cases this
    · have := h.rng i x hx
      omega
  · rename_i i hi
    obtain ⟨t, ht, hp⟩ := findIdx_some hi
    rw [ht, Option.bind_some] at e
    split at e
    · rename_i he
      rw [Option.bind_eq_some_iff] at e
      obtain ⟨l, hl, e⟩ := e
      obtain ⟨q', hq, rfl⟩ := Option.map_eq_some_iff.1 e
      have tm := List.mem_of_getElem? ht
      have tok := so.l t tm
      have pok := div_ok tok hp he
      obtain ⟨dq, _, down⟩ := div_q tok hp he
      have tk := (has_co tok).1 hp
      have eL := fun u (hu : u ∈ l) => mapE_mem hl u hu
      generalize hpv : ((divT t k).1, (divT t k).2.1) = p at *
      have p1 : co p k = 1 := by have := dq k; grind
      have p0 : ∀ v : Int, v < k → co p v = 0 := fun v hv => by
        have := dq v
        have z := h.left t tm v hv
        grind
      have pown : trimL p.1 = p.1 := by rw [← hpv]; exact down
      have qlen := mapE_len hq
      have ql : Q.length = P.length := so.ql
      refine ⟨fun u hu v hv => ?_, fun j x hx => ?_, fun a b x y hab hx hy => ?_, fun a b x u hx hu => ?_, fun j x u hx hu v hv => ?_, fun u hu => ?_⟩
      · obtain ⟨t', ht', et⟩ := eL u hu
        have t'm := List.mem_of_mem_eraseIdx ht'
        have := (elim_q pok (so.l t' t'm) et).1 v
        rcases int_lt v k with g | g
        · have z := h.left t' t'm v g
          have z2 := p0 v g
          grind
        · obtain rfl : v = k := by omega
          grind
      · rcases get_snoc hx with g | ⟨_, rfl⟩
        · have := h.rng j x g
          omega
        · omega
      · rcases get_snoc hx with g | ⟨g, rfl⟩
        · rcases get_snoc hy with g2 | ⟨_, rfl⟩
          · exact h.inc a b x y hab g g2
          · exact (h.rng a x g).2
        · have hlen := get_lt hy
          simp at hlen
          omega
      · rcases get_snoc hx with g | ⟨g, rfl⟩
        · have xr := h.rng a x g
          rcases get_snoc hu with g2 | ⟨g2, rfl⟩
          · obtain ⟨u', hu', eu⟩ := mapE_from hq g2
            have := (elim_q pok (so.q u' (List.mem_of_getElem? hu')) eu).1 x
            have z := p0 x xr.2
            have := h.unit a b x u' g hu'
            grind
          · have z := p0 x xr.2
            rw [z, if_neg (by have := get_lt g; rw [qlen] at g2; omega)]
        · rcases get_snoc hu with g2 | ⟨g2, rfl⟩
          · obtain ⟨u', hu', eu⟩ := mapE_from hq g2
            have := (elim_q pok (so.q u' (List.mem_of_getElem? hu')) eu).1 k
            rw [if_neg (by have := get_lt hu'; omega)]
            grind
          · rw [p1, if_pos (by rw [qlen] at g2; omega)]
      · rcases get_snoc hx with g | ⟨g, rfl⟩
        · have xr := h.rng j x g
          rcases get_snoc hu with g2 | ⟨g2, rfl⟩
          · obtain ⟨u', hu', eu⟩ := mapE_from hq g2
            have := (elim_q pok (so.q u' (List.mem_of_getElem? hu')) eu).1 v
            have z := p0 v (by omega)
            have := h.lead j x u' g hu' v hv
            grind
          · exact p0 v (by omega)
        · rcases get_snoc hu with g2 | ⟨g2, rfl⟩
          · have := get_lt g2
            rw [qlen] at this
            omega
          · exact p0 v hv
      · rcases List.mem_append.1 hu with g | g
        · obtain ⟨u', hu', eu⟩ := mapE_mem hq u g
          exact elim_own pok (so.q u' hu') (h.own u' hu') eu
        · rw [List.mem_singleton] at g
          rw [g]
          exact pown
    · cases e

theorem ech_all {ts : List Trm} (h : ∀ t ∈ ts, TrmOk t) : ∀ (k : Nat) (s : SolT), solveK ts k = some s → SolOk ts.length k s ∧ Ech k s
  | 0, s, e => by
    refine ⟨solveK_ok h 0 s e, ?_⟩
    obtain rfl := Option.some.inj e
    exact ⟨fun t _ v hv => co_out (by omega), fun i x hx => by simp at hx, fun i j x y _ hx => by simp at hx, fun i j x u hx => by simp at hx, fun j x u hx => by simp at hx, fun t ht => by cases ht⟩
  | k + 1, s, e => by
    refine ⟨solveK_ok h (k + 1) s e, ?_⟩
    rw [solveK, Option.bind_eq_some_iff] at e
    obtain ⟨r, hr, e⟩ := e
    obtain ⟨a, b⟩ := ech_all h k r hr
    exact ech_step a b e
end Go.Proofs.Ytkinbbhbencipaa
