/-
  The walk of the reference's Sub, of a number that isn't less. (Template: by-name.py fills it.)
-/
import Derived.Test.YthlogaenbnhobaaDoorNumC
import Derived.Deep.DeepCutAuto
namespace Go.Proofs.YthlogaenbnhobaaDoor
open Go.RowKit

/-- What holds at the head of the loop of Sub. -/
def SubRel (la lb : List Bool) (w : World) (g : Nat) (v5 v6 v7 : Value) (wr : World) : Prop := ∃ (k br : Nat) (z : Int) (l : List Bool), g = 500 - k ∧ br ≤ 1 ∧ z = (br : Int) ∧ v6 = .int .i64 z ∧ v7 = .int .i64 k ∧ l.length = k ∧
  natOf l + 2 ^ k * natOf (la.drop k) + natOf lb = natOf la + 2 ^ k * (natOf (lb.drop k) + br) ∧ k ≤ la.length ∧ wr.ownsRow w.heap.size 4 1 v5 l.length (l.map Value.bool) ∧ Below w.heap.size w wr

/-- One round of Sub. -/
theorem sub_round {la lb l : List Bool} {k br : Nat} (hl : l.length = k) (hs : natOf l + 2 ^ k * natOf (la.drop k) + natOf lb = natOf la + 2 ^ k * (natOf (lb.drop k) + br)) (p q : Bool) (hp : bitAt la k = p) (hq : bitAt lb k = q)
    (bt : Bool) (b2 : Nat) (ht : p.toNat + 2 * b2 = q.toNat + br + bt.toNat) :
    natOf (l ++ [bt]) + 2 ^ (k + 1) * natOf (la.drop (k + 1)) + natOf lb = natOf la + 2 ^ (k + 1) * (natOf (lb.drop (k + 1)) + b2) := by
  rw [natOf_drop la k, natOf_drop lb k, hp, hq] at hs
  rw [natOf_snoc, hl, Nat.pow_succ, Nat.mul_assoc, Nat.mul_assoc]
  generalize natOf (la.drop (k + 1)) = x at *
  generalize natOf (lb.drop (k + 1)) = y at *
  generalize 2 ^ k = P at *
  have e : P * (p.toNat + 2 * b2) = P * (q.toNat + br + bt.toNat) := by rw [ht]
  simp only [Nat.mul_add] at e hs ⊢
  omega

/-- What is left when all bits are done. -/
theorem sub_end {la lb l : List Bool} {n br : Nat} (hn : la.length = n) (hl : l.length = n) (hs : natOf l + 2 ^ n * natOf (la.drop n) + natOf lb = natOf la + 2 ^ n * (natOf (lb.drop n) + br)) (h : natOf lb ≤ natOf la) : natOf l = natOf la - natOf lb := by
  rw [List.drop_eq_nil_of_le (Nat.le_of_eq hn)] at hs
  have hlt := natOf_lt l
  rw [hl] at hlt
  generalize natOf (lb.drop n) + br = X at *
  generalize 2 ^ n = P at *
  simp only [natOf, Nat.mul_zero, Nat.add_zero] at hs
  rcases Nat.eq_zero_or_pos X with h0 | h0
  · rw [h0, Nat.mul_zero] at hs; omega
  · have := Nat.le_mul_of_pos_right P h0; omega

set_option maxHeartbeats 2000000 in
theorem sub_num (w : World) (x y : Value) (a b : Nat) (hx : NumAt w x (bitsOf a)) (hy : NumAt w y (bitsOf b)) (ha : (bitsOf a).length ≤ 300) (hb : (bitsOf b).length ≤ 300) (hle : b ≤ a) :
    Calls Tryd.prog 34 #[x, y] w (NumNew w (bitsOf (a - b))) := by
  have bx := fun (wr : World) (hw : Below w.heap.size w wr) (i : Nat) => bit_any wr x (bitsOf a) (hx.below hw) i
  have by_ := fun (wr : World) (hw : Below w.heap.size w wr) (i : Nat) => bit_any wr y (bitsOf b) (hy.below hw) i
  obtain ⟨i0, hi, hz0, hz1, hz2⟩ := info_parts infoB
  obtain ⟨A, c, rfl, h2, h3, h4⟩ := hx
  obtain ⟨B, d, rfl, k2, k3, k4⟩ := hy
  have na : natOf (bitsOf a) = a := natOf_bitsOf a
  have nb : natOf (bitsOf b) = b := natOf_bitsOf b
  obtain ⟨la, hla⟩ : ∃ la, la = bitsOf a := ⟨_, rfl⟩
  obtain ⟨lb, hlb⟩ : ∃ lb, lb = bitsOf b := ⟨_, rfl⟩
  rw [← hla] at bx ha na ⊢
  rw [← hlb] at by_ hb nb ⊢
  obtain ⟨n, hn⟩ : ∃ n, n = la.length := ⟨_, rfl⟩
  obtain ⟨m, hm⟩ : ∃ m, m = lb.length := ⟨_, rfl⟩
  rw [← hn] at bx ha ⊢
  rw [← hm] at by_ hb ⊢
  have HA := Lib.hid (And.intro na (And.intro nb (And.intro hn hm)))
  have HL := Lib.hid (And.intro ha hb)
  clear h2 h3 h4 k2 k3 k4 na nb hla hlb hn hm
  go_enter Tryd.func34, Tryd.ntmps34
  go_wp2_with fail
  go_loopg [5, 6, 7] 500 (fun g v5 v6 v7 wr => SubRel la lb w g v5 v6 v7 wr)
  case atStart => exact ⟨0, 0, 0, [], rfl, by omega, rfl, rfl, rfl, rfl, by simp [natOf], Nat.zero_le _, ⟨rfl, .inl ⟨rfl, rfl⟩⟩, Below.refl _ _⟩
  case round =>
    obtain ⟨k, br, z, l, hg, hc, hz, rfl, rfl, hl, hsum, hkl, hown, hbelow⟩ := hrel
    have hnm : n = la.length ∧ m = lb.length := HA.out.2.2
    have hk : k ≤ 300 := by have := HL.out; omega
    by_cases hgo : k < n
    · have nxt : ∀ (p q bt : Bool) (b2 : Nat), bitAt la k = p → bitAt lb k = q → p.toNat + 2 * b2 = q.toNat + br + bt.toNat → b2 ≤ 1 ∧ natOf (l ++ [bt]) + 2 ^ (k + 1) * natOf (la.drop (k + 1)) + natOf lb = natOf la + 2 ^ (k + 1) * (natOf (lb.drop (k + 1)) + b2) ∧ k + 1 ≤ la.length := by
        intro p q bt b2 hp hq ht
        have p1 := toNat_le p
        have q1 := toNat_le q
        have r1 := toNat_le bt
        exact ⟨by omega, sub_round hl hsum p q hp hq bt b2 ht, by omega⟩
      have wk : IntKind.i64.wrap ((k : Int) + 1) = ((k + 1 : Nat) : Int) := by rw [IntWalk.i64_in _ (by omega)]; omega
      have d1 : decide (k < n) = true := decide_eq_true hgo
      have bxk := bx wr hbelow k
      have byk := by_ wr hbelow k
      have NX := Lib.hid nxt
      have HG := Lib.hid (And.intro hg (And.intro hl hk))
      have hcs : (z = 0 ∧ br = 0) ∨ (z = 1 ∧ br = 1) := by omega
      generalize hpa : bitAt la k = pa at *
      generalize hpb : bitAt lb k = pb at *
      clear nxt hsum hkl hg hl hk hgo hnm hc hz hpa hpb bx by_
      rcases hcs with ⟨rfl, rfl⟩ | ⟨rfl, rfl⟩ <;> cases pa <;> cases pb
      all_goals
        go_wp2_with (first
          | (go_at_call 44; (first | with_reducible refine bxk.mono ?_ | with_reducible refine byk.mono ?_); rintro e w' ⟨rfl, rfl⟩)
          | (at_builtin; first
              | refine wpList_append_own _ rfl _ _ 50 rfl w.heap.size 4 i0 (.bool false) 1 1 Tryd.underlying50 hi hz0 hz1 hz2 rfl (by decide) _ _ _ rfl (hown.alloc _) ⟨wr.heap.size, 0, none⟩ 1 1 [.bool false] rfl rfl (one_bit (b := false)) ?c2 ?c3 ?c4 ?c5 ?_
              | refine wpList_append_own _ rfl _ _ 50 rfl w.heap.size 4 i0 (.bool false) 1 1 Tryd.underlying50 hi hz0 hz1 hz2 rfl (by decide) _ _ _ rfl (hown.alloc _) ⟨wr.heap.size, 0, none⟩ 1 1 [.bool true] rfl rfl (one_bit (b := true)) ?c2 ?c3 ?c4 ?c5 ?_))
        case c2 => intro u hu; simp at hu; subst hu; rfl
        case c3 => have := HG.out; unfold maxLen; omega
        case c4 => have := HG.out; omega
        case c5 => have := hbelow.size; simp; omega
        intro v' w1 hown' hgrow _
        have L1 := Lib.hid (below_push hbelow hown hgrow)
        have O1 := Lib.hid (own_push hown')
        clear hown hown' hgrow hbelow
        go_wp2_with fail
        go_roundg (500 - (k + 1))
        case measure => have := HG.out; omega
        case rel =>
          first
            | (obtain ⟨r1, r2, r3⟩ := NX.out _ _ false 0 rfl rfl rfl; exact ⟨k + 1, 0, _, l ++ [false], rfl, r1, rfl, rfl, by go_num, by rw [List.length_append, HG.out.2.1]; rfl, r2, r3, O1.out, L1.out⟩)
            | (obtain ⟨r1, r2, r3⟩ := NX.out _ _ false 1 rfl rfl rfl; exact ⟨k + 1, 1, _, l ++ [false], rfl, r1, rfl, rfl, by go_num, by rw [List.length_append, HG.out.2.1]; rfl, r2, r3, O1.out, L1.out⟩)
            | (obtain ⟨r1, r2, r3⟩ := NX.out _ _ true 0 rfl rfl rfl; exact ⟨k + 1, 0, _, l ++ [true], rfl, r1, rfl, rfl, by go_num, by rw [List.length_append, HG.out.2.1]; rfl, r2, r3, O1.out, L1.out⟩)
            | (obtain ⟨r1, r2, r3⟩ := NX.out _ _ true 1 rfl rfl rfl; exact ⟨k + 1, 1, _, l ++ [true], rfl, r1, rfl, rfl, by go_num, by rw [List.length_append, HG.out.2.1]; rfl, r2, r3, O1.out, L1.out⟩)
    · have hkn : k = n := by omega
      have hfin : natOf l = a - b := by
        have := HA.out
        have e := sub_end (br := br) (show la.length = k by omega) hl hsum (by omega)
        omega
      have d1 : decide (k < n) = false := decide_eq_false hgo
      have ht := trim_any wr _ l (own_num hown)
      have hfr := own_fresh hown
      rw [hfin] at ht
      clear hg hc hz hl hsum hkl hown hnm hk hgo hkn hfin bx by_
      go_wp2_with (go_at_call 35; (with_reducible refine ht.mono ?_); rintro e w' ⟨v', rfl, hv, rfl, ho⟩; have HV := Lib.hid (And.intro hv (hfr.of_eq ho)); clear hv ho)

      go_ret
      exact ⟨_, rfl, HV.out.1, hbelow, HV.out.2⟩
end Go.Proofs.YthlogaenbnhobaaDoor
