/-
  The walk of the reference's Mul. (Template: by-name.py fills it.)
-/
import Derived.Test.YthlogaenbnhobaaDoorNumD
namespace Go.Proofs.YthlogaenbnhobaaDoor
open Go.RowKit

theorem own_lit (w : World) (b : Bool) : (w.alloc (.cells #[.bool b] 4)).ownsRow w.heap.size 4 1 (.slice (some ⟨w.heap.size, 0, none⟩) 1 1) 1 [.bool b] :=
  ⟨rfl, .inr ⟨w.heap.size, 1, #[.bool b], rfl, Nat.le_refl _, heap_alloc_new w _, Nat.le_refl _, by decide, rfl, rfl⟩⟩

theorem cons_own {w : World} {base : Nat} {v : Value} {b : Bool} {l : List Bool} (h : w.ownsRow base 4 1 v (1 + l.length) ([.bool b] ++ l.map Value.bool)) : NumAt w v (b :: l) := by
  refine own_num (base := base) ?_
  rw [List.length_cons, List.map_cons, Nat.add_comm]
  exact h

theorem below_cons {w0 w w1 : World} {b : Bool} (hb : Below w0.heap.size w0 w) (hg : (w.alloc (.cells #[.bool b] 4)).grownBy w1 (Value.slice (some ⟨w.heap.size, 0, none⟩) 1 1).ownBlock) : Below w0.heap.size w0 w1 := by
  refine (hb.alloc hb.size _).grown hg ?_ ?_
  · have := hb.size
    simp
    omega
  · intro k hk
    have := hb.size
    have e : w.heap.size = k := by simpa [Value.ownBlock] using hk
    omega

theorem natOf_cons (b : Bool) (n : Nat) : natOf (b :: bitsOf n) = b.toNat + 2 * n := by rw [natOf, natOf_bitsOf]

theorem len_twice {n k c : Nat} (h : (bitsOf n).length ≤ k) (hc : c ≤ 1) : (bitsOf (c + 2 * n)).length ≤ k + 1 := by
  have h1 := natOf_lt (bitsOf n)
  rw [natOf_bitsOf] at h1
  have h2 := Nat.pow_le_pow_right (show 0 < 2 by decide) h
  exact bitsOf_length _ _ (by rw [Nat.pow_succ]; omega)

/-- What holds at the head of the loop of Mul. -/
def MulRel (a : Nat) (lb : List Bool) (w : World) (g : Nat) (v5 v6 : Value) (wr : World) : Prop := ∃ (k p : Nat) (z : Int), k ≤ lb.length ∧ g = k ∧ z = (k : Int) - 1 ∧ v6 = .int .i64 z ∧ p = a * natOf (lb.drop k) ∧ NumAt wr v5 (bitsOf p) ∧ Below w.heap.size w wr ∧ Fresh w.heap.size v5

theorem mul_round {a k : Nat} {lb : List Bool} {p : Nat} (hp : p = a * natOf (lb.drop (k + 1))) : a * natOf (lb.drop k) = 2 * p + (bitAt lb k).toNat * a := by
  rw [natOf_drop, hp, Nat.mul_add, Nat.mul_comm a (bitAt lb k).toNat, Nat.add_comm, ← Nat.mul_assoc, ← Nat.mul_assoc, Nat.mul_comm a 2]

theorem mul_small {a : Nat} {lb : List Bool} {k p : Nat} (hp : p = a * natOf (lb.drop k)) (n : Nat) (h : (bitsOf a).length + lb.length ≤ n) : (bitsOf p).length ≤ n - k ∧ (bitsOf p).length ≤ n := by
  have h1 := natOf_lt (bitsOf a)
  rw [natOf_bitsOf] at h1
  have h2 := natOf_lt (lb.drop k)
  rw [List.length_drop] at h2
  by_cases hk : k ≤ lb.length
  · have : p < 2 ^ (n - k) := by
      have e : 2 ^ ((bitsOf a).length + (lb.length - k)) ≤ 2 ^ (n - k) := Nat.pow_le_pow_right (by decide) (by omega)
      rw [Nat.pow_add] at e
      have := Nat.mul_lt_mul'' h1 h2
      omega
    have := bitsOf_length p (n - k) this
    omega
  · have : p = 0 := by rw [hp, List.drop_eq_nil_of_le (by omega)]; rfl
    rw [this, bitsOf_zero]; simp

set_option maxHeartbeats 2000000 in
theorem mul_num (w : World) (x y : Value) (a b : Nat) (hx : NumAt w x (bitsOf a)) (hy : NumAt w y (bitsOf b)) (hab : (bitsOf a).length + (bitsOf b).length ≤ 290) :
    Calls Tryd.prog 20 #[x, y] w (NumNew w (bitsOf (a * b))) := by
  obtain ⟨i0, hi, hz0, hz1, hz2⟩ := info_parts infoB
  have nb : natOf (bitsOf b) = b := natOf_bitsOf b
  have ky := fun (wr : World) (hw : Below w.heap.size w wr) => hy.below hw
  obtain ⟨B, d, rfl, k2, k3, k4⟩ := hy
  obtain ⟨lb, hlb⟩ : ∃ lb, lb = bitsOf b := ⟨_, rfl⟩
  rw [← hlb] at ky k2 k4 hab nb ⊢
  obtain ⟨m, hm⟩ : ∃ m, m = lb.length := ⟨_, rfl⟩
  rw [← hm] at ky k2 k4 ⊢
  have hm3 : m ≤ 290 := by omega
  have HB := Lib.hid (And.intro nb (And.intro hm hab))
  have HX := Lib.hid hx
  have HC := Lib.hid (And.intro k2 k3)
  clear nb hm hlb hx hab k2 k3 ky
  go_enter Tryd.func20, Tryd.ntmps20
  go_wp2_with fail
  go_loopg [5, 6] m (fun g v5 v6 wr => MulRel a lb w g v5 v6 wr)
  case atStart => exact ⟨m, 0, _, by rw [HB.out.2.1]; exact Nat.le_refl _, rfl, rfl, by go_num, by rw [List.drop_eq_nil_of_le (Nat.le_of_eq HB.out.2.1.symm)]; rfl, by rw [bitsOf_zero]; exact NumAt.nil w, Below.refl _ _, Fresh.none_ _ _ _⟩
  case round =>
    obtain ⟨k, p, z, hk, hg, hz, rfl, hp, hnum, hbelow, hfr⟩ := hrel
    have HK := Lib.hid (And.intro hk (And.intro hg hp))
    have hlen := mul_small hp 290 HB.out.2.2
    by_cases hk0 : k = 0
    · obtain rfl : z = -1 := by omega
      have hpb : p = a * b := by
        rw [hp, hk0, List.drop_zero, HB.out.1]
      subst hpb
      clear hk hg hz hp hk0 hlen
      go_wp2_with fail
      go_ret
      exact ⟨_, rfl, hnum, hbelow, hfr⟩
    · obtain ⟨j, rfl⟩ : ∃ j, k = j + 1 := ⟨k - 1, by omega⟩
      obtain rfl : z = (j : Int) := by omega
      have hjm : j < m := by have := HB.out.2.1; omega
      have nxt := mul_round hp
      obtain ⟨bd, rfl, c2⟩ := NumAt.bit HB.out.2.1.symm k4 hjm
      have wj : IntKind.i64.wrap ((j : Int) - 1) = (j : Int) - 1 := IntWalk.i64_in _ (by omega)
      have i1 : (j : Int) < (m : Int) := by omega
      have i2 : (0 : Int) ≤ (j : Int) := by omega
      have i3 : decide ((0 : Int) ≤ (j : Int)) = true := decide_eq_true i2
      obtain ⟨bt, hbt⟩ : ∃ bt, bt = bitAt lb j := ⟨_, rfl⟩
      rw [← hbt] at nxt c2
      obtain ⟨A, c, rfl, h2, h3, h4⟩ := hnum
      have NX := Lib.hid nxt
      have HJ := Lib.hid (And.intro hlen hjm)
      have H3 := Lib.hid (And.intro h2 h3)
      have HZ := Lib.hid hz
      clear nxt hp hk0 hk hg hlen hjm hbt hz h2 h3
      go_wp2_with (at_builtin; refine wpList_append_any _ rfl _ _ 50 rfl wr.heap.size 4 i0 (.bool false) 1 1 Tryd.underlying50 hi hz0 hz1 hz2 rfl (by decide) _ 1 [.bool false] rfl (own_lit wr false) wr.heap.size A _ c _ rfl (h4.alloc (Nat.le_refl _) _) ?c2 ?c3 ?c4 ?c5 ?_)
      case c2 =>
        intro u hu
        obtain ⟨q, _, rfl⟩ := List.mem_map.1 hu
        rfl
      case c3 => have := HJ.out; unfold maxLen; omega
      case c4 => have := HJ.out; omega
      case c5 => simp
      intro v' w1 hown' hgrow _
      have b1 := below_cons hbelow hgrow
      have n1 := cons_own hown'
      have f1 := Fresh.mono (own_fresh hown') hbelow.size
      have L1 := Lib.hid b1
      have ht := trim_any w1 v' _ n1
      rw [natOf_cons] at ht
      have c3 := (b1.cell (p := bd.add j) (by obtain ⟨_, e, hb, _⟩ := k4.2 (by omega); injection e with e; subst e; rw [block_of_add]; exact hb)).trans c2
      have hx1 := HX.out.below b1
      clear hown' hgrow hbelow n1 h4 b1 c2 k4
      have hla : (bitsOf (2 * p)).length ≤ 291 ∧ (bitsOf a).length ≤ 290 := by
        refine ⟨?_, by have := HB.out; omega⟩
        have := len_twice (c := 0) HJ.out.1.2 (by omega)
        rwa [Nat.zero_add] at this
      cases bt
      · have e0 : false.toNat + 2 * p = 2 * p + false.toNat * a := by simp
        rw [e0, ← NX.out] at ht
        go_wp2_with (go_at_call 35; (with_reducible refine ht.mono ?_); rintro e w' ⟨v'', rfl, hv, rfl, ho⟩)
        go_roundg j
        case measure => have := HK.out; omega
        case rel => exact ⟨j, _, _, by have := HK.out; omega, rfl, rfl, rfl, rfl, hv, L1.out, f1.of_eq ho⟩
      · rw [Bool.toNat_false, Nat.zero_add] at ht
        go_wp2_with (first
          | (go_at_call 35; (with_reducible refine ht.mono ?_); rintro e w' ⟨v'', rfl, hv, rfl, ho⟩; have ha := add_num w1 v'' x (2 * p) a hv hx1 (by have := hla; omega) (by have := hla; omega))
          | (go_at_call 32; (with_reducible refine ha.mono ?_); rintro e w' ⟨v3, rfl, hv3, hb3, hf3⟩))
        go_roundg j
        case measure => have := HK.out; omega
        case rel =>
          refine ⟨j, _, _, by have := HK.out; omega, rfl, rfl, rfl, rfl, ?_, (L1.out.trans (hb3.mono L1.out.size)), hf3.mono L1.out.size⟩
          rw [NX.out, Bool.toNat_true, Nat.one_mul]
          exact hv3
end Go.Proofs.YthlogaenbnhobaaDoor
