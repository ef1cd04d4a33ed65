/-
  The walks of the reference's Common, Value, size. (Template: by-name.py fills it.)
-/
import Derived.Test.YthlogaenbnhobaaDoorNumF
namespace Go.Proofs.YthlogaenbnhobaaDoor
open Go.RowKit

theorem lt_of_len {n k : Nat} (h : (bitsOf n).length ≤ k) : n < 2 ^ k := by
  have h1 := natOf_lt (bitsOf n)
  rw [natOf_bitsOf] at h1
  have h2 := Nat.pow_le_pow_right (show 0 < 2 by decide) h
  omega

/-- A number that a call answers, in memory from B on, in a world where all that is older is as it was. -/
def NumFrom (B : Nat) (w : World) (l : List Bool) (e : Ending) (w' : World) : Prop := ∃ v', e = .returned v' ∧ NumAt w' v' l ∧ Below w.heap.size w w' ∧ Fresh B v'

/-- What holds at the head of the loop of Common. -/
def ComRel (B a b : Nat) (w : World) (g : Nat) (v0 v1 : Value) (wr : World) : Prop := ∃ p q : Nat, g = q ∧ (bitsOf p).length ≤ 298 ∧ (bitsOf q).length ≤ 298 ∧ Nat.gcd p q = Nat.gcd a b ∧
  NumAt wr v0 (bitsOf p) ∧ NumAt wr v1 (bitsOf q) ∧ Below w.heap.size w wr ∧ Fresh B v0 ∧ Fresh B v1

set_option maxHeartbeats 2000000 in
theorem common_num (w : World) (x y : Value) (a b : Nat) (hx : NumAt w x (bitsOf a)) (hy : NumAt w y (bitsOf b)) (ha : (bitsOf a).length ≤ 298) (hb : (bitsOf b).length ≤ 298) (B : Nat) (hB : B ≤ w.heap.size) (fx : Fresh B x) (fy : Fresh B y) :
    Calls Tryd.prog 28 #[x, y] w (NumFrom B w (bitsOf (Nat.gcd a b))) := by
  have HX := Lib.hid (And.intro hx (And.intro hy (And.intro ha hb)))
  have FX := Lib.hid (And.intro hB (And.intro fx fy))
  clear hx hy ha hb hB fx fy
  go_enter Tryd.func28, Tryd.ntmps28
  go_wp2_with fail
  go_loopg [0, 1, 5, 6] b (fun g v0 v1 v5 v6 wr => ComRel B a b w g v0 v1 wr)
  case atStart => exact ⟨a, b, rfl, HX.out.2.2.1, HX.out.2.2.2, rfl, HX.out.1, HX.out.2.1, Below.refl _ _, FX.out.2⟩
  case round =>
    obtain ⟨p, q, hg, hp, hq, hgcd, n0, n1, hbelow, f0, f1⟩ := hrel
    by_cases hq0 : q = 0
    · subst hq0
      have hfin : p = Nat.gcd a b := by rw [← hgcd, Nat.gcd_zero_right]
      rw [bitsOf_zero] at n1
      rw [hfin] at n0
      obtain ⟨A, d, rfl, _, _, _⟩ := n1
      clear hg hp hq hgcd hfin
      go_wp2_with fail
      go_ret
      exact ⟨_, rfl, n0, hbelow, f0⟩
    · have hd := div_num _ _ _ p q n0 n1 hp hq (by omega)
      have hg2 : Nat.gcd q (p % q) = Nat.gcd a b := by rw [← hgcd, Nat.gcd_comm p q, Nat.gcd_rec q p, Nat.gcd_comm]
      have hr := len_le (n := p % q) (m := q) (Nat.le_of_lt (Nat.mod_lt _ (by omega)))
      have hlt := Nat.mod_lt p (show 0 < q by omega)
      have hl0 : (0 : Int) < ((bitsOf q).length : Int) := by rw [bitsOf_pos hq0, List.length_cons]; omega
      have HH := Lib.hid (And.intro hg (And.intro hq (And.intro hg2 (And.intro hr hlt))))
      have HN := Lib.hid (And.intro n1 f1)
      obtain ⟨A, d, rfl, _, _, _⟩ := n1
      have HL := Lib.hid hbelow
      clear hg hp hq hgcd hg2 hr hlt hq0 hbelow
      generalize hm : (bitsOf q).length = m at *
      go_wp2_with (go_at_call 30; (with_reducible refine hd.mono ?_); rintro e w' ⟨v', u', rfl, hv, hu, hb, fq, fr⟩)
      go_roundg (p % q)
      case measure => have := HH.out; omega
      case rel =>
        have := HH.out
        exact ⟨q, p % q, rfl, by omega, by omega, HH.out.2.2.1, HN.out.1.below hb, hu, HL.out.trans (hb.mono HL.out.size), HN.out.2, fr.mono (Nat.le_trans FX.out.1 HL.out.size)⟩

/-- What holds at the head of the loop of Value. -/
def ValRel (l : List Bool) (w : World) (g : Nat) (v4 v5 : Value) (wr : World) : Prop := ∃ (k p : Nat) (z : Int), k ≤ l.length ∧ g = k ∧ z = (k : Int) - 1 ∧ v5 = .int .i64 z ∧ v4 = .int .i64 p ∧ p = natOf (l.drop k) ∧ w = wr

theorem natOf_drop_lt (l : List Bool) (k : Nat) (h : l.length ≤ 63) : natOf (l.drop k) < 9223372036854775808 := by
  have h1 := natOf_lt (l.drop k)
  have h2 := Nat.pow_le_pow_right (show 0 < 2 by decide) (show (l.drop k).length ≤ 63 by rw [List.length_drop]; omega)
  have h3 : (2 : Nat) ^ 63 = 9223372036854775808 := by decide
  omega

/-- What Value answers. -/
def valV (a : Nat) : Value := if a < 9223372036854775808 then .tuple #[.int .i64 a, .bool true] else .tuple #[.int .i64 0, .bool false]

set_option maxHeartbeats 2000000 in
theorem value_num (w : World) (x : Value) (a : Nat) (hx : NumAt w x (bitsOf a)) (ha : (bitsOf a).length ≤ 298) :
    Calls Tryd.prog 31 #[x] w fun e w' => e = .returned (valV a) ∧ w = w' := by
  have na : natOf (bitsOf a) = a := natOf_bitsOf a
  obtain ⟨A, d, rfl, h2, h3, h4⟩ := hx
  obtain ⟨l, hl⟩ : ∃ l, l = bitsOf a := ⟨_, rfl⟩
  rw [← hl] at h2 h4 ha na ⊢
  obtain ⟨n, hn⟩ : ∃ n, n = l.length := ⟨_, rfl⟩
  rw [← hn] at h2 h4 ha ⊢
  by_cases h63 : n ≤ 63
  · have hva : valV a = .tuple #[.int .i64 a, .bool true] := by
      have := natOf_drop_lt l 0 (by omega)
      rw [List.drop_zero, na] at this
      exact if_pos this
    rw [hva]
    have HA := Lib.hid (And.intro na (And.intro hn h63))
    have hle : ¬ ((n : Int) > 63) := by omega
    have hd : decide ((63 : Int) < (n : Int)) = false := decide_eq_false (by omega)
    clear na hl hn h2 h3 ha hva
    go_enter Tryd.func31, Tryd.ntmps31
    go_wp2_with fail
    go_loopg [4, 5] n (fun g v4 v5 wr => ValRel l w g v4 v5 wr)
    case atStart => exact ⟨n, 0, _, by rw [HA.out.2.1]; exact Nat.le_refl _, rfl, rfl, by go_num, rfl, by rw [List.drop_eq_nil_of_le (Nat.le_of_eq HA.out.2.1.symm)]; rfl, rfl⟩
    case round =>
      obtain ⟨k, p, z, hk, hg, hz, rfl, rfl, hp, rfl⟩ := hrel
      by_cases hk0 : k = 0
      · obtain rfl : z = -1 := by omega
        obtain rfl : p = a := by rw [hp, hk0, List.drop_zero, HA.out.1]
        clear hk hg hz hp hk0
        go_wp2_with fail
        exact bodyPost_ret (v := .tuple #[.int .i64 p, .bool true]) (by simp [results, Tryd.results31, go_sem]) rfl ⟨rfl, rfl⟩
      · obtain ⟨j, rfl⟩ : ∃ j, k = j + 1 := ⟨k - 1, by omega⟩
        obtain rfl : z = (j : Int) := by omega
        have hjn : j < n := by have := HA.out.2.1; omega
        obtain ⟨bd, rfl, c2⟩ := NumAt.bit HA.out.2.1.symm h4 hjn
        have wj : IntKind.i64.wrap ((j : Int) - 1) = (j : Int) - 1 := IntWalk.i64_in _ (by omega)
        have i1 : (j : Int) < (n : Int) := by omega
        have i2 : (0 : Int) ≤ (j : Int) := by omega
        have i3 : decide ((0 : Int) ≤ (j : Int)) = true := decide_eq_true i2
        have hdj := natOf_drop l j
        have hlt := natOf_drop_lt l j (by have := HA.out; omega)
        rw [← hp] at hdj
        obtain ⟨bt, hbt⟩ : ∃ bt, bt = bitAt l j := ⟨_, rfl⟩
        rw [← hbt] at hdj c2
        have HJ := Lib.hid (And.intro hdj (And.intro hg hk))
        rw [hdj] at hlt
        have w1 : IntKind.i64.wrap (2 * (p : Int)) = ((2 * p : Nat) : Int) := by rw [IntWalk.i64_in _ (by omega)]; omega
        clear hdj hbt hg hk hk0 hz hp
        cases bt
        · clear hlt
          go_wp2_with fail
          go_roundg j
          case measure => have := HJ.out; omega
          case rel => exact ⟨j, 2 * p, _, by have := HJ.out; omega, rfl, rfl, rfl, rfl, by rw [HJ.out.1]; simp, rfl⟩
        · have w2 : wrap64 (2 * (p : Int) + 1) = ((1 + 2 * p : Nat) : Int) := by
            rw [Bool.toNat_true] at hlt
            rw [IntWalk.wrap64_in _ (by omega)]; omega
          clear hlt
          go_wp2_with fail
          go_roundg j
          case measure => have := HJ.out; omega
          case rel => exact ⟨j, 1 + 2 * p, _, by have := HJ.out; omega, rfl, rfl, rfl, by rw [w2], by rw [HJ.out.1]; simp, rfl⟩
  · have hva : valV a = .tuple #[.int .i64 0, .bool false] := by
      refine if_neg fun h => ?_
      have := bitsOf_length a 63 (by have h3 : (2 : Nat) ^ 63 = 9223372036854775808 := (by decide); omega)
      rw [← hl] at this
      omega
    rw [hva]
    have hd : decide ((63 : Int) < (n : Int)) = true := decide_eq_true (by omega)
    clear na hl hn h2 h3 ha hva h63
    go_enter Tryd.func31, Tryd.ntmps31
    go_wp2_with fail
    exact bodyPost_ret (v := .tuple #[.int .i64 0, .bool false]) (by simp [results, Tryd.results31, go_sem]) rfl ⟨rfl, rfl⟩

theorem len_64 {n : Nat} (h : n < 18446744073709551616) : (bitsOf n).length ≤ 64 := bitsOf_length n 64 h

set_option maxHeartbeats 1000000 in
theorem rsize_any (n : Int) (w : World) (h1 : -9223372036854775808 ≤ n) (h2 : n ≤ 9223372036854775807) :
    Calls Tryd.prog 29 #[.int .i64 n] w (NumNew w (bitsOf n.natAbs)) := by
  by_cases h : n < 0
  · obtain ⟨m, hm⟩ : ∃ m : Nat, n = -(m : Int) - 1 := ⟨(-(n + 1)).toNat, by omega⟩
    have hm2 : m < 9223372036854775808 := by omega
    have ha : n.natAbs = m + 1 := by omega
    rw [ha]
    subst hm
    have w1 : wrap64 (-(m : Int)) = -(m : Int) := IntWalk.wrap64_in _ (by omega)
    have w2 : wrap64 (m : Int) = (m : Int) := IntWalk.wrap64_in _ (by omega)
    have w3 : IntKind.u64.wrap (m : Int) = (m : Int) := by rw [IntWalk.u64_in _ (by omega)]
    have hd : decide (-(m : Int) - 1 < 0) = true := decide_eq_true (by omega)
    have o1 := of_any m w (by omega)
    have o2 : ∀ w', Calls Tryd.prog 43 #[.int .u64 1] w' (NumNew w' (bitsOf 1)) := fun w' => of_any 1 w' (by decide)
    have hl : (bitsOf m).length ≤ 64 ∧ (bitsOf 1).length ≤ 64 := ⟨len_64 (by omega), len_64 (by decide)⟩
    clear h1 h2 h ha hm2
    go_enter Tryd.func29, Tryd.ntmps29
    go_wp2_with (first
      | (go_at_call 43; (with_reducible refine o1.mono ?_); rintro e wa ⟨va, rfl, hva, hba, _⟩; have o3 := o2 wa; clear o1)
      | (go_at_call 43; (with_reducible refine o3.mono ?_); rintro e wb ⟨vb, rfl, hvb, hbb, _⟩; have o4 := add_num wb va vb m 1 (hva.below hbb) hvb (by have := hl; omega) (by have := hl; omega))
      | (go_at_call 32; (with_reducible refine o4.mono ?_); rintro e wc ⟨vc, rfl, hvc, hbc, hfc⟩))
    go_ret
    exact ⟨_, rfl, hvc, hba.trans ((hbb.trans (hbc.mono hbb.size)).mono hba.size), hfc.mono (Nat.le_trans hba.size hbb.size)⟩
  · obtain ⟨m, rfl⟩ : ∃ m : Nat, n = (m : Int) := ⟨n.toNat, by omega⟩
    have hm2 : m < 9223372036854775808 := by omega
    rw [Int.natAbs_natCast]
    have w3 : IntKind.u64.wrap (m : Int) = (m : Int) := by rw [IntWalk.u64_in _ (by omega)]
    have hd : decide ((m : Int) < 0) = false := decide_eq_false (by omega)
    have o1 := of_any m w (by omega)
    clear h1 h2 h hm2
    go_enter Tryd.func29, Tryd.ntmps29
    go_wp2_with (go_at_call 43; (with_reducible refine o1.mono ?_); rintro e w' ⟨v', rfl, hv, hb, hf⟩)
    go_ret
    exact ⟨_, rfl, hv, hb, hf⟩
end Go.Proofs.YthlogaenbnhobaaDoor
