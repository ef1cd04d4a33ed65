/-
  The walks of the reference's Of, Less, Add, Sub. (Template: by-name.py fills it.)
-/
import Derived.Test.YthlogaenbnhobaaDoorNumB
import Derived.Test.YthlogaenbnhobaaDoorRatG
namespace Go.Proofs.YthlogaenbnhobaaDoor
open Go.RowKit

theorem infoB : (Tryd.prog.info? 4).map (fun i => (i.zero, i.size, i.bytes)) = some (some (.bool false), 1, 1) := by kernel_rfl

/-- A row of the call's own is a number. -/
theorem own_num {w : World} {base : Nat} {l : List Bool} {v : Value} (h : w.ownsRow base 4 1 v l.length (l.map Value.bool)) : NumAt w v l := by
  have h0 := h
  rcases h.2 with ⟨rfl, hn⟩ | ⟨g, cap, cur, rfl, _, hh, hnc, hrest⟩
  · have : l = [] := List.eq_nil_of_length_eq_zero (by simpa using hn)
    subst this
    exact NumAt.nil w
  · exact ⟨some _, cap, rfl, hnc, hrest.1, Reads.of_own h0⟩

/-- A row that lies in a block from B on, if it lies anywhere. -/
def Fresh (B : Nat) (v : Value) : Prop := ∀ k, v.ownBlock = some k → B ≤ k

theorem Fresh.none_ (B n c : Nat) : Fresh B (.slice none n c) := fun _ h => by cases h
theorem Fresh.mono {B B' : Nat} {v : Value} (h : Fresh B v) (hB : B' ≤ B) : Fresh B' v := fun k hk => Nat.le_trans hB (h k hk)
theorem Fresh.of_eq {B : Nat} {v u : Value} (h : Fresh B v) (e : u.ownBlock = v.ownBlock) : Fresh B u := fun k hk => h k (e.symm.trans hk)

/-- A number that a call answers, in its own memory, in a world where all that is older is as it was. -/
def NumNew (w : World) (l : List Bool) (e : Ending) (w' : World) : Prop := ∃ v', e = .returned v' ∧ NumAt w' v' l ∧ Below w.heap.size w w' ∧ Fresh w.heap.size v'

theorem own_ge {w : World} {base k n : Nat} {v : Value} {xs : List Value} (h : w.ownsRow base 4 1 v n xs) (hk : v.ownBlock = some k) : base ≤ k := by
  rcases h.2 with ⟨rfl, _⟩ | ⟨g, cap, cur, rfl, hg, _⟩
  · cases hk
  · have : g = k := by simpa [Value.ownBlock] using hk
    omega

theorem own_fresh {w : World} {base n : Nat} {v : Value} {xs : List Value} (h : w.ownsRow base 4 1 v n xs) : Fresh base v := fun _ hk => own_ge h hk

theorem own_push {w : World} {base : Nat} {v : Value} {l : List Bool} {b : Bool} (h : w.ownsRow base 4 1 v (l.length + 1) (l.map Value.bool ++ [.bool b])) : w.ownsRow base 4 1 v (l ++ [b]).length ((l ++ [b]).map Value.bool) := by
  rw [List.length_append, List.map_append]; exact h

theorem below_push {w0 w w1 : World} {n : Nat} {v : Value} {xs : List Value} {o : Obj} (hb : Below w0.heap.size w0 w) (hown : w.ownsRow w0.heap.size 4 1 v n xs) (hg : (w.alloc o).grownBy w1 v.ownBlock) : Below w0.heap.size w0 w1 :=
  (hb.alloc hb.size o).grown hg (by have := hb.size; simp; omega) (fun _ hk => own_ge hown hk)

theorem one_bit {w : World} {b : Bool} : ∀ (j : Nat) (u : Value), [Value.bool b][j]? = some u → (w.alloc (.cells #[.bool b] 4)).cell? ((⟨w.heap.size, 0, none⟩ : Addr).add j) = some u := by
  intro j u h
  rcases j with _ | j
  · have : Value.bool b = u := by simpa using h
    subst this
    show (w.alloc (.cells #[.bool b] 4)).cell? ⟨w.heap.size, 0, none⟩ = _
    go_simp
  · simp at h

/-- What holds at the head of the loop of Of. -/
def OfRel (n : Nat) (w : World) (g : Nat) (v0 v3 : Value) (wr : World) : Prop := ∃ (m : Nat) (l : List Bool), v0 = .int .u64 m ∧ g = m ∧ m ≤ n ∧ l ++ bitsOf m = bitsOf n ∧ wr.ownsRow w.heap.size 4 1 v3 l.length (l.map Value.bool) ∧ Below w.heap.size w wr

set_option maxRecDepth 4000 in
set_option maxHeartbeats 1000000 in
theorem of_any (n : Nat) (w : World) (hn : n < 18446744073709551616) :
    Calls Tryd.prog 43 #[.int .u64 n] w (NumNew w (bitsOf n)) := by
  obtain ⟨i0, hi, hz0, hz1, hz2⟩ := info_parts infoB
  have hlen := bitsOf_length n 64 hn
  have HN := Lib.hid hn
  have HL := Lib.hid hlen
  clear hn hlen
  go_enter Tryd.func43, Tryd.ntmps43
  go_wp2_with fail
  go_loopg [0, 3] n (fun g v0 v3 wr => OfRel n w g v0 v3 wr)
  case atStart => exact ⟨n, [], rfl, rfl, Nat.le_refl _, rfl, ⟨rfl, .inl ⟨rfl, rfl⟩⟩, Below.refl _ _⟩
  case round =>
    obtain ⟨m, l, rfl, rfl, hm, hb, hown, hbelow⟩ := hrel
    have HB := Lib.hid hb
    have HM := Lib.hid hm
    clear hb hm
    by_cases h0 : gk = 0
    · subst h0
      have hl : l = bitsOf n := by have := HB.out; rw [bitsOf_zero, List.append_nil] at this; exact this
      subst hl
      go_wp2_with fail
      go_ret
      exact ⟨_, rfl, own_num hown, hbelow, own_fresh hown⟩
    · have hpos : (0 : Int) < (gk : Int) := by omega
      have hl : l.length + (bitsOf gk).length ≤ 64 := by have := HL.out; rw [← HB.out, List.length_append] at this; exact this
      have hl2 : l.length < 64 := by rw [bitsOf_pos h0, List.length_cons] at hl; omega
      have e1 : (gk : Int) % 2 = ((gk % 2 : Nat) : Int) := by omega
      obtain ⟨r, hr⟩ : ∃ r, r = gk % 2 := ⟨_, rfl⟩
      rw [← hr] at e1
      have hrb : ((r : Int) == 1) = (gk % 2 == 1) := by rw [hr, Bool.eq_iff_iff]; simp; omega
      have wq : IntKind.u64.wrap ((gk : Int) / 2) = ((gk / 2 : Nat) : Int) := by have := HM.out; have := HN.out; rw [IntWalk.u64_in _ (by omega)]; omega
      have H0 := Lib.hid h0
      have HR := Lib.hid hr
      have HRB := Lib.hid hrb
      have HX := Lib.hid (And.intro hl hl2)
      clear hr h0 hl hl2 hrb
      go_wp2_with (at_builtin; refine wpList_append_own _ rfl _ _ 50 rfl w.heap.size 4 i0 (.bool false) 1 1 Tryd.underlying50 hi hz0 hz1 hz2 rfl (by decide) _ _ _ rfl (hown.alloc _) ⟨wr.heap.size, 0, none⟩ 1 1 [.bool ((r : Int) == 1)] rfl rfl ?c1 ?c2 ?c3 ?c4 ?c5 ?_)
      case c1 => exact one_bit
      case c2 => intro u hu; simp at hu; subst hu; rfl
      case c3 => have := HX.out; unfold maxLen; omega
      case c4 => have := HX.out; omega
      case c5 => have := hbelow.size; simp; omega
      intro v' w1 hown' hgrow _
      have L1 := Lib.hid (below_push hbelow hown hgrow)
      have O1 := Lib.hid (own_push hown')
      clear hown hown' hgrow hbelow
      go_wp2_with fail
      go_roundg (gk / 2)
      case measure => omega
      case rel => exact ⟨gk / 2, l ++ [(r : Int) == 1], by rfl, rfl, by have := HM.out; omega, by rw [HRB.out, List.append_assoc, ← HB.out, bitsOf_pos H0.out]; rfl, O1.out, L1.out⟩

set_option maxHeartbeats 2000000 in
theorem less_any (w : World) (x y : Value) (a b : Nat) (hx : NumAt w x (bitsOf a)) (hy : NumAt w y (bitsOf b)) :
    Calls Tryd.prog 33 #[x, y] w (Drawn w (.bool (decide (a < b)))) := by
  obtain ⟨A, c, rfl, h2, h3, h4⟩ := hx
  obtain ⟨B, d, rfl, k2, k3, k4⟩ := hy
  unfold maxLen at h3 k3
  obtain ⟨n, hn⟩ : ∃ n, n = (bitsOf a).length := ⟨_, rfl⟩
  obtain ⟨m, hm⟩ : ∃ m, m = (bitsOf b).length := ⟨_, rfl⟩
  obtain ⟨r, hr⟩ : ∃ r, r = decide (a < b) := ⟨_, rfl⟩
  rw [← hn] at h2 h4 ⊢
  rw [← hm] at k2 k4 ⊢
  rw [← hr]
  have hn6 : n ≤ 9223372036854775807 := by omega
  have hm6 : m ≤ 9223372036854775807 := by omega
  have HR := Lib.hid hr
  have HN := Lib.hid hn
  have HM := Lib.hid hm
  by_cases hnm : n = m
  · subst hnm
    have HC := Lib.hid (And.intro h2 k2)
    clear hr hn hm h2 k2 h3 k3 hm6
    go_enter Tryd.func33, Tryd.ntmps33
    go_wp2_with fail
    go_loopg [5] n (fun g v5 wx => ∃ (k q : Nat) (z : Int), k ≤ n ∧ g = k ∧ z = (k : Int) - 1 ∧ v5 = .int .i64 z ∧ natOf ((bitsOf a).drop k) = natOf ((bitsOf b).drop k) ∧ wx = w.drewN q)
    case atStart => exact ⟨n, 0, _, Nat.le_refl _, rfl, rfl, rfl, by rw [List.drop_eq_nil_of_le (Nat.le_of_eq HN.out.symm), List.drop_eq_nil_of_le (Nat.le_of_eq HM.out.symm)], rfl⟩
    case round =>
      obtain ⟨k, q, z, hk, hg, hz, rfl, hd, rfl⟩ := hrel
      have HD := Lib.hid hd
      have HG := Lib.hid hg
      clear hd hg
      by_cases hk0 : k = 0
      · obtain rfl : z = -1 := by omega
        have hab : a = b := by
          have := HD.out
          rw [hk0, List.drop_zero, List.drop_zero, natOf_bitsOf, natOf_bitsOf] at this
          exact this
        obtain rfl : r = false := by rw [HR.out]; exact decide_eq_false (by omega)
        clear hz hk hab hk0
        go_wp2_with fail
        go_ret
        exact ⟨rfl, _, rfl⟩
      · obtain ⟨j, hj⟩ : ∃ j, j = k - 1 := ⟨_, rfl⟩
        obtain rfl : z = (j : Int) := by omega
        have hjn : j < n := by omega
        have hj1 : j + 1 = k := by omega
        have hd := HD.out
        rw [← hj1] at hd
        obtain ⟨ad, rfl, c1⟩ := NumAt.bit HN.out.symm h4 hjn
        obtain ⟨bd, rfl, c2⟩ := NumAt.bit HM.out.symm k4 hjn
        have wj : IntKind.i64.wrap ((j : Int) - 1) = (j : Int) - 1 := IntWalk.i64_in _ (by omega)
        have i1 : (j : Int) < (n : Int) := by omega
        have i2 : (0 : Int) ≤ (j : Int) := by omega
        by_cases hb : bitAt (bitsOf a) j = bitAt (bitsOf b) j
        · have nx := natOf_drop_eq hd hb
          rw [hb] at c1
          generalize bitAt (bitsOf b) j = bb at *
          have NX := Lib.hid nx
          have HJ := Lib.hid (And.intro hj hj1)
          clear nx hb hd hj hj1 hz hk hk0
          go_upto_region 6 with fail
          go_quiet (fail)
          go_wp2_with fail
          go_roundg j
          case measure => have := HG.out; have := HJ.out; omega
          case rel => exact ⟨j, _, _, by omega, rfl, rfl, rfl, NX.out, rfl⟩
        · have dec := lt_at j hd hb
          rw [natOf_bitsOf, natOf_bitsOf] at dec
          rw [← HR.out] at dec
          subst dec
          have hne : (bitAt (bitsOf a) j == bitAt (bitsOf b) j) = false := by simpa using hb
          generalize bitAt (bitsOf a) j = ab at *
          generalize bitAt (bitsOf b) j = bb at *
          have HB := Lib.hid hb
          clear hb hd hj hj1 hz hk hk0 HR
          go_upto_region 6 with fail
          go_quiet (fail)
          go_wp2_with fail
          go_ret
          exact ⟨rfl, _, rfl⟩
  · have e1 : ((n : Int) == (m : Int)) = false := by simp; omega
    have e2 : ((n : Int) != (m : Int)) = true := by simp; omega
    obtain rfl : r = decide (n < m) := by
      rw [hr]
      rcases Nat.lt_or_ge n m with g | g
      · rw [decide_eq_true g]; exact decide_eq_true (lt_of_length (by omega))
      · rw [show decide (n < m) = false from decide_eq_false (by omega)]
        exact decide_eq_false (by have := lt_of_length (a := b) (b := a) (by omega); omega)
    clear hr hn hm h2 k2 h3 k3 hnm HR HN HM h4 k4
    go_enter Tryd.func33, Tryd.ntmps33
    go_wp2_with fail
    go_ret
    exact ⟨rfl, 0, rfl⟩

/-- What holds at the head of the loop of Add. -/
def AddRel (la lb : List Bool) (w : World) (g : Nat) (v5 v6 v7 : Value) (wr : World) : Prop := ∃ (k cy : Nat) (z : Int) (l : List Bool), g = 500 - k ∧ cy ≤ 1 ∧ z = (cy : Int) ∧ v6 = .int .i64 z ∧ v7 = .int .i64 k ∧ l.length = k ∧
  natOf l + 2 ^ k * (cy + natOf (la.drop k) + natOf (lb.drop k)) = natOf la + natOf lb ∧ (k ≤ max la.length lb.length + 1 ∧ (k = max la.length lb.length + 1 → cy = 0)) ∧ wr.ownsRow w.heap.size 4 1 v5 l.length (l.map Value.bool) ∧ Below w.heap.size w wr

theorem bitAt_beyond {l : List Bool} {k : Nat} (h : ¬ k < l.length) : bitAt l k = false := by
  unfold bitAt
  rw [List.getD_eq_getElem?_getD, List.getElem?_eq_none (by omega)]; rfl

/-- One round of Add. -/
theorem add_round {la lb l : List Bool} {k cy : Nat} (hl : l.length = k) (hs : natOf l + 2 ^ k * (cy + natOf (la.drop k) + natOf (lb.drop k)) = natOf la + natOf lb) (p q : Bool) (hp : bitAt la k = p) (hq : bitAt lb k = q)
    (bt : Bool) (c2 : Nat) (ht : cy + p.toNat + q.toNat = bt.toNat + 2 * c2) :
    natOf (l ++ [bt]) + 2 ^ (k + 1) * (c2 + natOf (la.drop (k + 1)) + natOf (lb.drop (k + 1))) = natOf la + natOf lb := by
  rw [natOf_drop la k, natOf_drop lb k, hp, hq] at hs
  rw [natOf_snoc, hl, ← hs, Nat.pow_succ, Nat.mul_assoc, Nat.add_assoc, ← Nat.mul_add]
  congr 2
  omega

set_option maxHeartbeats 2000000 in
theorem add_num (w : World) (x y : Value) (a b : Nat) (hx : NumAt w x (bitsOf a)) (hy : NumAt w y (bitsOf b)) (ha : (bitsOf a).length ≤ 300) (hb : (bitsOf b).length ≤ 300) :
    Calls Tryd.prog 32 #[x, y] w (NumNew w (bitsOf (a + b))) := by
  have bx := fun (wr : World) (hw : Below w.heap.size w wr) (i : Nat) => bit_any wr x (bitsOf a) (hx.below hw) i
  have by_ := fun (wr : World) (hw : Below w.heap.size w wr) (i : Nat) => bit_any wr y (bitsOf b) (hy.below hw) i
  obtain ⟨i0, hi, hz0, hz1, hz2⟩ := info_parts infoB
  obtain ⟨A, c, rfl, h2, h3, h4⟩ := hx
  obtain ⟨B, d, rfl, k2, k3, k4⟩ := hy
  have na : natOf (bitsOf a) = a := natOf_bitsOf a
  have nb : natOf (bitsOf b) = b := natOf_bitsOf b
  obtain ⟨la, hla⟩ : ∃ la, la = bitsOf a := ⟨_, rfl⟩
  obtain ⟨lb, hlb⟩ : ∃ lb, lb = bitsOf b := ⟨_, rfl⟩
  rw [← hla] at bx ha na ⊢
  rw [← hlb] at by_ hb nb ⊢
  obtain ⟨n, hn⟩ : ∃ n, n = la.length := ⟨_, rfl⟩
  obtain ⟨m, hm⟩ : ∃ m, m = lb.length := ⟨_, rfl⟩
  rw [← hn] at bx ha ⊢
  rw [← hm] at by_ hb ⊢
  have HA := Lib.hid (And.intro na (And.intro nb (And.intro hn hm)))
  have HL := Lib.hid (And.intro ha hb)
  clear h2 h3 h4 k2 k3 k4 na nb hla hlb hn hm
  go_enter Tryd.func32, Tryd.ntmps32
  go_wp2_with fail
  go_loopg [5, 6, 7] 500 (fun g v5 v6 v7 wr => AddRel la lb w g v5 v6 v7 wr)
  case atStart => exact ⟨0, 0, 0, [], rfl, by omega, rfl, rfl, rfl, rfl, by simp [natOf], ⟨by omega, fun _ => rfl⟩, ⟨rfl, .inl ⟨rfl, rfl⟩⟩, Below.refl _ _⟩
  case round =>
    obtain ⟨k, cy, z, l, hg, hc, hz, rfl, rfl, hl, hsum, hor, hown, hbelow⟩ := hrel
    have hnm : n = la.length ∧ m = lb.length := HA.out.2.2
    have hk : k ≤ 301 := by have := HL.out; omega
    by_cases hgo : k < n ∨ k < m ∨ 0 < cy
    · have hk2 : k + 1 ≤ max la.length lb.length + 1 ∧ (k + 1 = max la.length lb.length + 1 → ¬ k < n ∧ ¬ k < m) := by omega
      have T : (∃ b1, decide (k < n) = b1 ∧ b1 = true) ∨ (decide (k < n) = false ∧ decide (k < m) = true) ∨ (decide (k < n) = false ∧ decide (k < m) = false ∧ cy = 1) := by
        by_cases g1 : k < n
        · exact .inl ⟨_, rfl, decide_eq_true g1⟩
        · by_cases g2 : k < m
          · exact .inr (.inl ⟨decide_eq_false g1, decide_eq_true g2⟩)
          · exact .inr (.inr ⟨decide_eq_false g1, decide_eq_false g2, by omega⟩)
      have nxt : ∀ (p q bt : Bool) (c2 : Nat), bitAt la k = p → bitAt lb k = q → cy + p.toNat + q.toNat = bt.toNat + 2 * c2 → c2 ≤ 1 ∧ natOf (l ++ [bt]) + 2 ^ (k + 1) * (c2 + natOf (la.drop (k + 1)) + natOf (lb.drop (k + 1))) = natOf la + natOf lb ∧ (k + 1 ≤ max la.length lb.length + 1 ∧ (k + 1 = max la.length lb.length + 1 → c2 = 0)) := by
        intro p q bt c2 hp hq ht
        have p1 := toNat_le p
        have q1 := toNat_le q
        refine ⟨by omega, add_round hl hsum p q hp hq bt c2 ht, hk2.1, fun e => ?_⟩
        obtain ⟨x1, x2⟩ := hk2.2 e
        rw [bitAt_beyond (by omega)] at hp
        rw [bitAt_beyond (by omega)] at hq
        subst hp hq
        have z0 : false.toNat = 0 := rfl
        omega
      have wk : IntKind.i64.wrap ((k : Int) + 1) = ((k + 1 : Nat) : Int) := by rw [IntWalk.i64_in _ (by omega)]; omega
      have bxk := bx wr hbelow k
      have byk := by_ wr hbelow k
      have NX := Lib.hid nxt
      have HG := Lib.hid (And.intro hg (And.intro hl hk))
      have hcs : (z = 0 ∧ cy = 0) ∨ (z = 1 ∧ cy = 1) := by omega
      generalize hpa : bitAt la k = pa at *
      generalize hpb : bitAt lb k = pb at *
      have HP := Lib.hid (And.intro hpa hpb)
      clear nxt hsum hor hg hl hk hk2 hgo hnm hc hz hpa hpb bx by_
      go_upto_region 4 with fail
      go_cut [21] (fun v wx => v = .bool true ∧ wr = wx)
      case first =>
        rcases T with ⟨b1, t1, rfl⟩ | ⟨t1, t2⟩ | ⟨t1, t2, t3⟩
        · go_wp2_with fail
          go_meet
          exact ⟨rfl, rfl⟩
        · go_wp2_with fail
          go_meet
          exact ⟨rfl, rfl⟩
        · obtain rfl : z = 1 := by omega
          go_wp2_with fail
          go_meet
          exact ⟨rfl, rfl⟩
      case rest =>
        obtain ⟨rfl, rfl⟩ := hcut
        clear T
        rcases hcs with ⟨rfl, rfl⟩ | ⟨rfl, rfl⟩ <;> cases pa <;> cases pb
        all_goals
          go_wp2_with (first
            | (go_at_call 44; (first | with_reducible refine bxk.mono ?_ | with_reducible refine byk.mono ?_); rintro e w' ⟨rfl, rfl⟩)
            | (at_builtin; first
                | refine wpList_append_own _ rfl _ _ 50 rfl w.heap.size 4 i0 (.bool false) 1 1 Tryd.underlying50 hi hz0 hz1 hz2 rfl (by decide) _ _ _ rfl (hown.alloc _) ⟨wr.heap.size, 0, none⟩ 1 1 [.bool false] rfl rfl (one_bit (b := false)) ?c2 ?c3 ?c4 ?c5 ?_
                | refine wpList_append_own _ rfl _ _ 50 rfl w.heap.size 4 i0 (.bool false) 1 1 Tryd.underlying50 hi hz0 hz1 hz2 rfl (by decide) _ _ _ rfl (hown.alloc _) ⟨wr.heap.size, 0, none⟩ 1 1 [.bool true] rfl rfl (one_bit (b := true)) ?c2 ?c3 ?c4 ?c5 ?_))
          case c2 => intro u hu; simp at hu; subst hu; rfl
          case c3 => have := HG.out; unfold maxLen; omega
          case c4 => have := HG.out; omega
          case c5 => have := hbelow.size; simp; omega
          intro v' w1 hown' hgrow _
          have L1 := Lib.hid (below_push hbelow hown hgrow)
          have O1 := Lib.hid (own_push hown')
          clear hown hown' hgrow hbelow
          go_wp2_with fail
          go_roundg (500 - (k + 1))
          case measure => have := HG.out; omega
          case rel =>
            first
              | (obtain ⟨r1, r2, r3⟩ := NX.out _ _ false 0 rfl rfl (by decide); exact ⟨k + 1, 0, _, l ++ [false], rfl, r1, rfl, rfl, by go_num, by rw [List.length_append, HG.out.2.1]; rfl, r2, r3, O1.out, L1.out⟩)
              | (obtain ⟨r1, r2, r3⟩ := NX.out _ _ false 1 rfl rfl (by decide); exact ⟨k + 1, 1, _, l ++ [false], rfl, r1, rfl, rfl, by go_num, by rw [List.length_append, HG.out.2.1]; rfl, r2, r3, O1.out, L1.out⟩)
              | (obtain ⟨r1, r2, r3⟩ := NX.out _ _ true 0 rfl rfl (by decide); exact ⟨k + 1, 0, _, l ++ [true], rfl, r1, rfl, rfl, by go_num, by rw [List.length_append, HG.out.2.1]; rfl, r2, r3, O1.out, L1.out⟩)
              | (obtain ⟨r1, r2, r3⟩ := NX.out _ _ true 1 rfl rfl (by decide); exact ⟨k + 1, 1, _, l ++ [true], rfl, r1, rfl, rfl, by go_num, by rw [List.length_append, HG.out.2.1]; rfl, r2, r3, O1.out, L1.out⟩)
    · have hcy : cy = 0 := by omega
      obtain rfl : z = 0 := by omega
      have hfin : natOf l = a + b := by
        rw [List.drop_eq_nil_of_le (show la.length ≤ k by omega), List.drop_eq_nil_of_le (show lb.length ≤ k by omega), hcy] at hsum
        have := HA.out
        simp [natOf] at hsum
        omega
      have d1 : decide (k < n) = false := decide_eq_false (by omega)
      have d2 : decide (k < m) = false := decide_eq_false (by omega)
      have ht := trim_any wr _ l (own_num hown)
      have hfr := own_fresh hown
      rw [hfin] at ht
      clear hg hc hz hl hsum hor hown hnm hk hgo hcy hfin bx by_
      go_wp2_with (go_at_call 35; (with_reducible refine ht.mono ?_); rintro e w' ⟨v', rfl, hv, rfl, ho⟩; have HV := Lib.hid (And.intro hv (hfr.of_eq ho)); clear hv ho)
      go_ret
      exact ⟨_, rfl, HV.out.1, hbelow, HV.out.2⟩
end Go.Proofs.YthlogaenbnhobaaDoor
