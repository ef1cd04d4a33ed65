/-
  The walk of the reference's Divide, by a divisor that is not 0. (Template: by-name.py fills it.)
-/
import Derived.Test.YthlogaenbnhobaaDoorNumE
namespace Go.Proofs.YthlogaenbnhobaaDoor
open Go.RowKit

theorem NumAt.drewN {w : World} {v : Value} {l : List Bool} (h : NumAt w v l) (n : Nat) : NumAt (w.drewN n) v l := h
theorem Below.drewN_ {B : Nat} {a w : World} (h : Below B a w) (n : Nat) : Below B a (w.drewN n) := ⟨h.os, h.tape, h.output, h.size, h.block⟩

/-- Two numbers that a call answers, in a world where all that is older is as it was. -/
def TwoNew (w : World) (p q : Nat) (e : Ending) (w' : World) : Prop := ∃ v u, e = .returned (.tuple #[v, u]) ∧ NumAt w' v (bitsOf p) ∧ NumAt w' u (bitsOf q) ∧ Below w.heap.size w w' ∧ Fresh w.heap.size v ∧ Fresh w.heap.size u

/-- What holds at the head of the loop of Divide. -/
def DivRel (la : List Bool) (b : Nat) (w : World) (g : Nat) (v6 v7 v8 : Value) (wr : World) : Prop := ∃ (k p r : Nat) (z : Int) (l : List Bool), k ≤ la.length ∧ g = k ∧ z = (k : Int) - 1 ∧ v8 = .int .i64 z ∧
  p = natOf (la.drop k) ∧ r = p % b ∧ l.length + k = la.length ∧ natOf l = p / b ∧ NumAt wr v6 l ∧ NumAt wr v7 (bitsOf r) ∧ Below w.heap.size w wr ∧ Fresh w.heap.size v6 ∧ Fresh w.heap.size v7

theorem div_round {b p r c t q : Nat} (hb : 0 < b) (hr : r = p % b) (hq : q = p / b) (hc : c ≤ 1) (ht : t = c + 2 * r) :
    (t < b → (c + 2 * p) % b = t ∧ (c + 2 * p) / b = 2 * q) ∧ (b ≤ t → (c + 2 * p) % b = t - b ∧ (c + 2 * p) / b = 1 + 2 * q) := by
  have h1 := Nat.div_add_mod p b
  have h2 := Nat.mod_lt p hb
  have e : c + 2 * p = b * (2 * q) + t := by rw [ht, hq, hr, Nat.mul_left_comm]; omega
  refine ⟨fun h => ?_, fun h => ?_⟩
  · rw [e, Nat.mul_add_mod, Nat.mod_eq_of_lt h, Nat.mul_add_div hb, Nat.div_eq_of_lt h]; exact ⟨rfl, rfl⟩
  · have h3 : t - b < b := by omega
    rw [e, show b * (2 * q) + t = b * (1 + 2 * q) + (t - b) by rw [Nat.mul_add]; omega, Nat.mul_add_mod, Nat.mod_eq_of_lt h3, Nat.mul_add_div hb, Nat.div_eq_of_lt h3]; exact ⟨rfl, rfl⟩

theorem len_le {n m : Nat} (h : n ≤ m) : (bitsOf n).length ≤ (bitsOf m).length := by
  have h1 := natOf_lt (bitsOf m)
  rw [natOf_bitsOf] at h1
  exact bitsOf_length _ _ (by omega)

set_option maxHeartbeats 2000000 in
theorem div_num (w : World) (x y : Value) (a b : Nat) (hx : NumAt w x (bitsOf a)) (hy : NumAt w y (bitsOf b)) (ha : (bitsOf a).length ≤ 298) (hb : (bitsOf b).length ≤ 298) (hb0 : 0 < b) :
    Calls Tryd.prog 30 #[x, y] w (TwoNew w (a / b) (a % b)) := by
  obtain ⟨i0, hi, hz0, hz1, hz2⟩ := info_parts infoB
  have HY := Lib.hid hy
  have na : natOf (bitsOf a) = a := natOf_bitsOf a
  obtain ⟨A, d, rfl, k2, k3, k4⟩ := hx
  obtain ⟨B, e, rfl, _, _, _⟩ := hy
  obtain ⟨la, hla⟩ : ∃ la, la = bitsOf a := ⟨_, rfl⟩
  rw [← hla] at k2 k4 ha na ⊢
  obtain ⟨n, hn⟩ : ∃ n, n = la.length := ⟨_, rfl⟩
  obtain ⟨m, hm⟩ : ∃ m, m = (bitsOf b).length := ⟨_, rfl⟩
  rw [← hn] at k2 k4 ha ⊢
  rw [← hm] at HY hb ⊢
  have hm0 : 0 < m := by rw [hm, bitsOf_pos (by omega), List.length_cons]; omega
  have e0 : ((m : Int) == 0) = false := by simp; omega
  have HA := Lib.hid (And.intro na (And.intro hn (And.intro hm hb0)))
  have HL := Lib.hid (And.intro ha (And.intro hb hm0))
  clear k2 k3 na hla hn hm ha hb hb0 hm0
  go_enter Tryd.func30, Tryd.ntmps30
  go_wp2_with fail
  go_loopg [6, 7, 8, 9] n (fun g v6 v7 v8 v9 wr => DivRel la b w g v6 v7 v8 wr)
  case atStart =>
    have e2 := HL.out.1
    have hw : wrap64 ((n : Int) - 1) = (n : Int) - 1 := IntWalk.wrap64_in _ (by omega)
    have e := HA.out.2.1
    refine ⟨n, 0, 0, _, [], Nat.le_of_eq e, rfl, rfl, by first | rw [hw] | exact congrArg (Value.int .i64) hw, by rw [List.drop_eq_nil_of_le (Nat.le_of_eq e.symm)]; rfl, by simp, by simpa using e, by simp [natOf], NumAt.nil w, by rw [bitsOf_zero]; exact NumAt.nil w, Below.refl _ _, Fresh.none_ _ _ _, Fresh.none_ _ _ _⟩
  case round =>
    obtain ⟨k, p, r, z, l, hk, hg, hz, rfl, hp, hr, hl, hq, nq, nr, hbelow, fq, fr⟩ := hrel
    have HK := Lib.hid (And.intro hk (And.intro hg (And.intro hp (And.intro hr (And.intro hl hq)))))
    by_cases hk0 : k = 0
    · obtain rfl : z = -1 := by omega
      have hpa : p = a := by rw [hp, hk0, List.drop_zero, HA.out.1]
      have ht := trim_any wr _ l nq
      rw [hq, hpa] at ht
      rw [hr, hpa] at nr
      clear hk hg hz hp hk0 hr hl hq hpa
      go_wp2_with (go_at_call 35; (with_reducible refine ht.mono ?_); rintro e w' ⟨v', rfl, hv, rfl, ho⟩)
      exact bodyPost_ret (v := .tuple #[v', _]) (by simp [results, Tryd.results30, go_sem]) rfl ⟨_, _, rfl, hv, nr, hbelow, fq.of_eq ho, fr⟩
    · obtain ⟨j, rfl⟩ : ∃ j, k = j + 1 := ⟨k - 1, by omega⟩
      obtain rfl : z = (j : Int) := by omega
      have hjn : j < n := by have := HA.out.2.1; omega
      obtain ⟨bd, rfl, c2⟩ := NumAt.bit HA.out.2.1.symm k4 hjn
      have wj : IntKind.i64.wrap ((j : Int) - 1) = (j : Int) - 1 := IntWalk.i64_in _ (by have := HL.out; omega)
      have i1 : (j : Int) < (n : Int) := by omega
      have i2 : (0 : Int) ≤ (j : Int) := by omega
      have i3 : decide ((0 : Int) ≤ (j : Int)) = true := decide_eq_true i2
      have hdj := natOf_drop la j
      rw [← hp] at hdj
      obtain ⟨bt, hbt⟩ : ∃ bt, bt = bitAt la j := ⟨_, rfl⟩
      rw [← hbt] at hdj c2
      obtain ⟨t, ht⟩ : ∃ t, t = bt.toNat + 2 * r := ⟨_, rfl⟩
      have step := div_round HA.out.2.2.2 hr hq (toNat_le bt) ht
      rw [← hdj] at step
      have hr2 : (bitsOf r).length ≤ 298 := by
        have := Nat.mod_lt p HA.out.2.2.2
        have := len_le (n := r) (m := b) (by omega)
        have := HL.out; have := HA.out; omega
      have ht2 : (bitsOf t).length ≤ 299 := by rw [ht]; exact len_twice hr2 (toNat_le bt)
      have ST := Lib.hid step
      have c3 : wr.cell? (bd.add j) = some (.bool bt) := (hbelow.cell (p := bd.add j) (by obtain ⟨_, e, hb, _⟩ := k4.2 (by omega); injection e with e; subst e; rw [block_of_add]; exact hb)).trans c2
      have hl3 : l.length ≤ 298 := by have := HA.out.2.1; have := HL.out; omega
      obtain ⟨C, c, rfl, h2, h3, h4⟩ := nr
      obtain ⟨Q, qc, rfl, m2, m3, m4⟩ := nq
      have HJ := Lib.hid (And.intro hr2 (And.intro ht2 (And.intro hjn (And.intro ht hl3))))
      have hy1 := HY.out
      clear hk hg hz hp hk0 hr hl hq hdj hbt step c2 hr2 ht2 hjn ht hl3
      go_wp2_with (at_builtin; refine wpList_append_any _ rfl _ _ 50 rfl wr.heap.size 4 i0 (.bool false) 1 1 Tryd.underlying50 hi hz0 hz1 hz2 rfl (by decide) _ 1 [.bool bt] rfl (own_lit wr bt) wr.heap.size C _ c _ rfl (h4.alloc (Nat.le_refl _) _) ?c2 ?c3 ?c4 ?c5 ?_)
      case c2 =>
        intro u hu
        obtain ⟨q, _, rfl⟩ := List.mem_map.1 hu
        rfl
      case c3 => have := HJ.out; unfold maxLen; omega
      case c4 => have := HJ.out; omega
      case c5 => simp
      intro v' w1 hown' hgrow _
      have b1 := below_cons hbelow hgrow
      have bq : Below wr.heap.size wr w1 := below_cons (Below.refl _ _) hgrow
      have n1 := cons_own hown'
      have f1 := Fresh.mono (own_fresh hown') hbelow.size
      have m5 := (m4.below bq).more bq.size
      have hy2 : NumAt w1 (.slice B m e) (bitsOf b) := hy1.below b1
      have L1 := Lib.hid b1
      have ht := trim_any w1 v' _ n1
      rw [natOf_cons, ← HJ.out.2.2.2.1] at ht
      clear hown' hgrow hbelow n1 h4 b1 m4 c3 hy1
      have hlt := fun (u : Value) (hu : NumAt w1 u (bitsOf t)) => less_any w1 u (.slice B m e) t b hu hy2
      by_cases htb : t < b
      · have hd : decide (t < b) = true := decide_eq_true htb
        rw [hd] at hlt
        have S1 := Lib.hid (ST.out.1 htb)
        clear htb hd
        go_wp2_with (first
          | (go_at_call 35; (with_reducible refine ht.mono ?_); rintro e w' ⟨v'', rfl, hv, rfl, ho⟩)
          | (go_at_call 33; (with_reducible refine (hlt _ hv).mono ?_); rintro e w' ⟨rfl, q, rfl⟩)
          | (at_builtin; refine wpList_append_any _ rfl _ _ 50 rfl w1.heap.size 4 i0 (.bool false) 1 1 Tryd.underlying50 hi hz0 hz1 hz2 rfl (by decide) _ 1 [.bool false] rfl (own_lit (w1.drewN q) false) w1.heap.size Q _ qc _ rfl (m5.alloc (Nat.le_refl _) _) ?c2 ?c3 ?c4 ?c5 ?_))
        case c2 =>
          intro u hu
          obtain ⟨q, _, rfl⟩ := List.mem_map.1 hu
          rfl
        case c3 => have := HJ.out; unfold maxLen; omega
        case c4 => have := HJ.out; omega
        case c5 => simp
        intro v3 w3 hown' hgrow _
        have b3 := below_cons (w0 := w1) (Go.Proofs.YthlogaenbnhobaaDoor.Below.drewN_ (Below.refl _ _) q) hgrow
        have n3 := cons_own hown'
        have f3 := Fresh.mono (own_fresh hown') L1.out.size
        have hv3 := hv.below b3
        have b4 := L1.out.trans (b3.mono L1.out.size)
        clear hown' hgrow m5
        go_wp2_with fail
        go_roundg j
        case measure => have := HK.out; omega
        case rel =>
          have := HK.out
          exact ⟨j, _, _, _, false :: l, by omega, rfl, rfl, rfl, rfl, rfl, by rw [List.length_cons]; omega, by rw [natOf, S1.out.2]; simp, n3, by rw [S1.out.1]; exact hv3, b4, f3, f1.of_eq ho⟩
      · have hd : decide (t < b) = false := decide_eq_false htb
        rw [hd] at hlt
        have S1 := Lib.hid (ST.out.2 (by omega))
        have hsb := fun (u : Value) (q : Nat) (hu : NumAt w1 u (bitsOf t)) => sub_num (w1.drewN q) u (.slice B m e) t b (hu.drewN q) (hy2.drewN q) (by have := HJ.out; omega) (by have := HL.out; have := HA.out; omega) (by omega)
        clear htb hd
        go_wp2_with (first
          | (go_at_call 35; (with_reducible refine ht.mono ?_); rintro e w' ⟨v'', rfl, hv, rfl, ho⟩)
          | (go_at_call 33; (with_reducible refine (hlt _ hv).mono ?_); rintro e w' ⟨rfl, q, rfl⟩)
          | (go_at_call 34; (with_reducible refine (hsb _ q hv).mono ?_); rintro e w2 ⟨v2, rfl, hv2, bs, fs⟩; have m6 := (m5.drewN q |>.below bs).more bs.size)
          | (at_builtin; refine wpList_append_any _ rfl _ _ 50 rfl w2.heap.size 4 i0 (.bool false) 1 1 Tryd.underlying50 hi hz0 hz1 hz2 rfl (by decide) _ 1 [.bool true] rfl (own_lit w2 true) w2.heap.size Q _ qc _ rfl (m6.alloc (Nat.le_refl _) _) ?c2 ?c3 ?c4 ?c5 ?_))
        case c2 =>
          intro u hu
          obtain ⟨q, _, rfl⟩ := List.mem_map.1 hu
          rfl
        case c3 => have := HJ.out; unfold maxLen; omega
        case c4 => have := HJ.out; omega
        case c5 => simp
        intro v3 w3 hown' hgrow _
        have b3 := below_cons (w0 := w2) (Below.refl _ _) hgrow
        have n3 := cons_own hown'
        have f3 := Fresh.mono (own_fresh hown') (Nat.le_trans L1.out.size bs.size)
        have hv3 := hv2.below b3
        have b5 : Below w1.heap.size w1 w2 := ⟨bs.os, bs.tape, bs.output, bs.size, bs.block⟩
        have b4 := L1.out.trans ((b5.trans (b3.mono b5.size)).mono L1.out.size)
        clear hown' hgrow m5 m6
        go_wp2_with fail
        go_roundg j
        case measure => have := HK.out; omega
        case rel =>
          have := HK.out
          exact ⟨j, _, _, _, true :: l, by omega, rfl, rfl, rfl, rfl, rfl, by rw [List.length_cons]; omega, by rw [natOf, S1.out.2]; simp, n3, by rw [S1.out.1]; exact hv3, b4, f3, fs.mono L1.out.size⟩
end Go.Proofs.YthlogaenbnhobaaDoor
