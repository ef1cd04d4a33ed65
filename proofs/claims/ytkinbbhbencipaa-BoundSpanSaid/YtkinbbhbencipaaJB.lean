/-
  The walk of the reference's Right. (Template: by-name.py fills it.)
-/
import Derived.Test.YtkinbbhbencipaaWords
import Derived.Test.YtkinbbhbencipaaRatA
import Derived.Deep.LoopGhost
import Derived.Test.YtkinbbhbencipaaJA
import Derived.Deep.DeepCutAuto
namespace Go.Proofs.Ytkinbbhbencipaa

/-- What a row of bits is worth. -/
def natOf : List Bool → Nat
  | [] => 0
  | b :: r => b.toNat + 2 * natOf r

/-- A number's row of bits, without noughts at its end. -/
def bitsOf (n : Nat) : List Bool := if h : n = 0 then [] else (n % 2 == 1) :: bitsOf (n / 2)
termination_by n
decreasing_by omega

theorem bitsOf_zero : bitsOf 0 = [] := by rw [bitsOf]; rfl
theorem bitsOf_pos {n : Nat} (h : n ≠ 0) : bitsOf n = (n % 2 == 1) :: bitsOf (n / 2) := by rw [bitsOf, dif_neg h]

theorem toNat_le (b : Bool) : b.toNat ≤ 1 := by cases b <;> decide

theorem natOf_bitsOf (n : Nat) : natOf (bitsOf n) = n := by
  induction n using Nat.strongRecOn with
  | ind n ih =>
    by_cases h : n = 0
    · subst h; rw [bitsOf_zero]; rfl
    · rw [bitsOf_pos h, natOf, ih (n / 2) (by omega)]
      rcases Nat.mod_two_eq_zero_or_one n with e | e <;> rw [e] <;> simp <;> omega

theorem natOf_append (a b : List Bool) : natOf (a ++ b) = natOf a + 2 ^ a.length * natOf b := by
  induction a with
  | nil => simp [natOf]
  | cons x r ih => rw [List.cons_append, natOf, natOf, ih, List.length_cons, Nat.pow_succ, Nat.mul_add, ← Nat.mul_assoc, Nat.mul_comm 2 (2 ^ r.length)]; omega

theorem natOf_snoc (a : List Bool) (b : Bool) : natOf (a ++ [b]) = natOf a + 2 ^ a.length * b.toNat := by
  rw [natOf_append]; simp [natOf]

theorem natOf_lt (l : List Bool) : natOf l < 2 ^ l.length := by
  induction l with
  | nil => simp [natOf]
  | cons b r ih => rw [natOf, List.length_cons, Nat.pow_succ]; have := toNat_le b; omega

/-- A row that ends with a one is the number's own. -/
theorem bitsOf_natOf_snoc (a : List Bool) : bitsOf (natOf (a ++ [true])) = a ++ [true] := by
  induction a with
  | nil =>
    rw [List.nil_append, natOf, natOf, bitsOf_pos (by decide)]
    rw [show (true.toNat + 2 * 0) / 2 = 0 by decide, bitsOf_zero]; rfl
  | cons x r ih =>
    rw [List.cons_append, natOf]
    have hp : natOf (r ++ [true]) ≠ 0 := by
      rw [natOf_snoc]
      have := Nat.two_pow_pos r.length
      simp
    have hx := toNat_le x
    rw [bitsOf_pos (by omega)]
    rw [show (x.toNat + 2 * natOf (r ++ [true])) / 2 = natOf (r ++ [true]) by omega, ih]
    have : ((x.toNat + 2 * natOf (r ++ [true])) % 2 == 1) = x := by
      rw [show (x.toNat + 2 * natOf (r ++ [true])) % 2 = x.toNat by omega]
      cases x <;> rfl
    rw [this]

theorem bitsOf_length (n k : Nat) (h : n < 2 ^ k) : (bitsOf n).length ≤ k := by
  induction k generalizing n with
  | zero => rw [show n = 0 by simpa using h, bitsOf_zero]; simp
  | succ k ih =>
    by_cases h0 : n = 0
    · subst h0; rw [bitsOf_zero]; simp
    · rw [bitsOf_pos h0, List.length_cons]
      have := ih (n / 2) (by rw [Nat.pow_succ] at h; omega)
      omega

theorem bitsOf_length_ge (n k : Nat) (h : 2 ^ k ≤ n) : k < (bitsOf n).length := by
  rcases Nat.lt_or_ge k (bitsOf n).length with g | g
  · exact g
  · exfalso
    have := natOf_lt (bitsOf n)
    rw [natOf_bitsOf] at this
    have h2 := Nat.pow_le_pow_right (show 0 < 2 by decide) g
    omega

/-- The last bit of a number that is not 0. -/
theorem bitsOf_last (n : Nat) (h : n ≠ 0) : ∃ a, bitsOf n = a ++ [true] := by
  induction n using Nat.strongRecOn with
  | ind n ih =>
    rw [bitsOf_pos h]
    by_cases h2 : n / 2 = 0
    · rw [h2, bitsOf_zero]
      have : n = 1 := by omega
      subst this
      exact ⟨[], rfl⟩
    · obtain ⟨a, ha⟩ := ih (n / 2) (by omega) h2
      exact ⟨(n % 2 == 1) :: a, by rw [ha]; rfl⟩

/-- A bit of a row, also beyond its end. -/
def bitAt (l : List Bool) (i : Nat) : Bool := l.getD i false

theorem natOf_split (l : List Bool) (i : Nat) : natOf l = natOf (l.take i) + 2 ^ i * natOf (l.drop i) := by
  rcases Nat.le_total i l.length with h | h
  · have := natOf_append (l.take i) (l.drop i)
    rw [List.take_append_drop, List.length_take, Nat.min_eq_left h] at this
    exact this
  · rw [List.take_of_length_le h, List.drop_eq_nil_of_le h]; simp [natOf]

theorem natOf_drop (l : List Bool) (i : Nat) : natOf (l.drop i) = (bitAt l i).toNat + 2 * natOf (l.drop (i + 1)) := by
  unfold bitAt
  rcases Nat.lt_or_ge i l.length with h | h
  · rw [List.drop_eq_getElem_cons h, natOf, List.getD_eq_getElem?_getD, List.getElem?_eq_getElem h]; rfl
  · rw [List.drop_eq_nil_of_le h, List.drop_eq_nil_of_le (by omega), List.getD_eq_getElem?_getD, List.getElem?_eq_none h]; rfl

theorem lt_of_length {a b : Nat} (h : (bitsOf a).length < (bitsOf b).length) : a < b := by
  rcases Nat.lt_or_ge a b with g | g
  · exact g
  · exfalso
    have h1 := natOf_lt (bitsOf a)
    rw [natOf_bitsOf] at h1
    have hb : b ≠ 0 := by intro hb; rw [hb, bitsOf_zero] at h; simp at h
    obtain ⟨x, hx⟩ := bitsOf_last b hb
    have h2 : natOf (bitsOf b) = b := natOf_bitsOf b
    rw [hx, natOf_snoc] at h2
    rw [hx, List.length_append] at h
    have h3 : 2 ^ (bitsOf a).length ≤ 2 ^ x.length := Nat.pow_le_pow_right (by decide) (by simpa using Nat.lt_succ_iff.1 h)
    simp at h2
    omega

theorem natOf_eq_at (l : List Bool) (i : Nat) : natOf l = natOf (l.take i) + 2 ^ i * ((bitAt l i).toNat + 2 * natOf (l.drop (i + 1))) := by
  rw [← natOf_drop]; exact natOf_split l i

/-- The uppermost bit in which two rows differ decides. -/
theorem lt_at {l m : List Bool} (i : Nat) (hd : natOf (l.drop (i + 1)) = natOf (m.drop (i + 1))) (hb : bitAt l i ≠ bitAt m i) : decide (natOf l < natOf m) = bitAt m i := by
  have a := natOf_eq_at l i
  have b := natOf_eq_at m i
  have ha := natOf_lt (l.take i)
  have hb2 := natOf_lt (m.take i)
  have h1 : 2 ^ (l.take i).length ≤ 2 ^ i := Nat.pow_le_pow_right (by decide) (List.length_take_le _ _)
  have h2 : 2 ^ (m.take i).length ≤ 2 ^ i := Nat.pow_le_pow_right (by decide) (List.length_take_le _ _)
  rw [hd] at a
  rw [Nat.mul_add] at a b
  generalize 2 ^ i * (2 * natOf (m.drop (i + 1))) = T at *
  generalize 2 ^ i = p at *
  cases hl : bitAt l i <;> cases hm : bitAt m i
  · rw [hl, hm] at hb; exact absurd rfl hb
  · rw [hl] at a; rw [hm] at b
    simp at a b
    exact decide_eq_true (by omega)
  · rw [hl] at a; rw [hm] at b
    simp at a b
    exact decide_eq_false (by omega)
  · rw [hl, hm] at hb; exact absurd rfl hb

theorem natOf_drop_eq {l m : List Bool} {i : Nat} (hd : natOf (l.drop (i + 1)) = natOf (m.drop (i + 1))) (hb : bitAt l i = bitAt m i) : natOf (l.drop i) = natOf (m.drop i) := by
  rw [natOf_drop l i, natOf_drop m i, hd, hb]
end Go.Proofs.Ytkinbbhbencipaa

namespace Go.Proofs.Ytkinbbhbencipaa
open Go.RowKit

/-- A slice of bits. -/
def NumAt (w : World) (v : Value) (l : List Bool) : Prop := ∃ A c, v = .slice A l.length c ∧ l.length ≤ c ∧ c ≤ maxLen ∧ Reads w w.heap.size 1 A l.length (l.map Value.bool)

theorem NumAt.below {w w' : World} {v : Value} {l : List Bool} (h : NumAt w v l) (hb : Below w.heap.size w w') : NumAt w' v l := by
  obtain ⟨A, c, h1, h2, h3, h4⟩ := h
  exact ⟨A, c, h1, h2, h3, (h4.below hb).more hb.size⟩
theorem NumAt.nil (w : World) : NumAt w (.slice none 0 0) [] := ⟨none, 0, rfl, Nat.le_refl _, by decide, Reads.none_⟩
theorem NumAt.take {w : World} {A : Option Addr} {n c k : Nat} {l : List Bool} (h1 : l.length = n) (h2 : n ≤ c) (h3 : c ≤ maxLen) (h4 : Reads w w.heap.size 1 A n (l.map Value.bool)) (hk : k ≤ n) : NumAt w (.slice A k c) (l.take k) := by
  have e : (l.take k).length = k := by rw [List.length_take]; omega
  refine ⟨A, c, by rw [e], by omega, h3, ?_⟩
  refine ⟨by rw [List.length_map, e, Nat.mul_one], fun hn => ?_⟩
  obtain ⟨ad, ha, hb, hc⟩ := h4.2 (by omega)
  refine ⟨ad, ha, hb, fun j u hu => hc j u ?_⟩
  rw [List.map_take, List.getElem?_take] at hu
  split at hu
  · exact hu
  · cases hu
theorem NumAt.bit {w : World} {A : Option Addr} {n : Nat} {l : List Bool} (h1 : l.length = n) (h4 : Reads w w.heap.size 1 A n (l.map Value.bool)) {k : Nat} (hk : k < n) : ∃ ad, A = some ad ∧ w.cell? (ad.add k) = some (.bool (bitAt l k)) := by
  obtain ⟨ad, u, ha, _, hu, hc⟩ := h4.at_ hk
  refine ⟨ad, ha, ?_⟩
  rw [hc, ← hu, List.getElem?_map]
  unfold bitAt
  rw [List.getD_eq_getElem?_getD, List.getElem?_eq_getElem (by omega)]
  rfl

/-- A number that a call answers, where the world is as it was. -/
def NumSame (w : World) (v : Value) (l : List Bool) (e : Ending) (w' : World) : Prop := ∃ v', e = .returned v' ∧ NumAt w v' l ∧ w = w' ∧ v'.ownBlock = v.ownBlock

theorem take_last {l : List Bool} {k : Nat} (hk : k < l.length) (hb : bitAt l k = true) : l.take (k + 1) = l.take k ++ [true] := by
  rw [List.take_succ_eq_append_getElem hk]
  unfold bitAt at hb
  rw [List.getD_eq_getElem?_getD, List.getElem?_eq_getElem hk] at hb
  simp only [Option.getD_some] at hb
  rw [hb]
theorem natOf_take_low {l : List Bool} {k : Nat} (hk : k < l.length) (hb : bitAt l k = false) : natOf (l.take (k + 1)) = natOf (l.take k) := by
  rw [List.take_succ_eq_append_getElem hk, natOf_snoc]
  unfold bitAt at hb
  rw [List.getD_eq_getElem?_getD, List.getElem?_eq_getElem hk] at hb
  simp only [Option.getD_some] at hb
  rw [hb]; simp

set_option maxHeartbeats 1000000 in
theorem trim_any (w : World) (v : Value) (l : List Bool) (h : NumAt w v l) :
    Calls Try.prog 79 #[v] w (NumSame w v (bitsOf (natOf l))) := by
  obtain ⟨A, c, rfl, h2, h3, h4⟩ := h
  have h5 := h3
  unfold maxLen at h5
  obtain ⟨n, hn⟩ : ∃ n, n = l.length := ⟨_, rfl⟩
  rw [← hn] at h2 h4 ⊢
  have HN := Lib.hid hn
  clear hn
  have hn6 : n ≤ 9223372036854775807 := by omega
  go_enter Try.func79, Try.ntmps79
  go_wp2_with fail
  go_loopg [3] n (fun g v3 wx => w = wx ∧ ∃ k : Nat, k ≤ n ∧ g = k ∧ v3 = .int .i64 k ∧ natOf (l.take k) = natOf l)
  case atStart => exact ⟨rfl, n, Nat.le_refl _, rfl, rfl, by rw [List.take_of_length_le (by rw [HN.out]; exact Nat.le_refl _)]⟩
  case round =>
    obtain ⟨rfl, k, hk, hg, rfl, ht⟩ := hrel
    have HT := Lib.hid ht
    have HG := Lib.hid hg
    clear ht hg
    by_cases hk0 : k = 0
    · subst hk0
      have hc0 : (0 : Int) ≤ (c : Int) := by omega
      have hA : natOf l = 0 := by rw [← HT.out]; rfl
      have fin : NumAt w (.slice A 0 c) (bitsOf (natOf l)) := by rw [hA, bitsOf_zero]; exact NumAt.take HN.out.symm h2 h3 h4 (Nat.zero_le n)
      clear hA hc0
      go_wp2_with fail
      go_ret
      exact ⟨_, rfl, fin, rfl, by cases A <;> rfl⟩
    · have hk1 : (0 : Int) < (k : Int) := by omega
      have hkl : k - 1 < l.length := by have := HN.out; omega
      have hs : k - 1 + 1 = k := by omega
      have wk : IntKind.i64.wrap ((k : Int) - 1) = ((k - 1 : Nat) : Int) := by rw [IntWalk.i64_in _ (by omega)]; omega
      cases hb : bitAt l (k - 1)
      · have low := natOf_take_low hkl hb
        rw [hs, HT.out] at low
        obtain ⟨ad, rfl, hc⟩ := NumAt.bit HN.out.symm h4 (show k - 1 < n by omega)
        have hi1 : ((k - 1 : Nat) : Int) < (n : Int) := by omega
        have hi0 : (0 : Int) ≤ ((k - 1 : Nat) : Int) := by omega
        rw [hb] at hc
        have HB := Lib.hid hb
        have HL := Lib.hid low
        have HS := Lib.hid (And.intro hs hkl)
        clear hb low hs hkl
        go_wp2_with fail
        go_roundg (k - 1)
        case measure => have := HG.out; omega
        case rel => exact ⟨rfl, k - 1, by omega, rfl, rfl, HL.out.symm⟩
      · have last := take_last hkl hb
        rw [hs] at last
        have hA : bitsOf (natOf l) = l.take k := by rw [← HT.out, last, bitsOf_natOf_snoc]
        have fin : NumAt w (.slice A k c) (bitsOf (natOf l)) := by rw [hA]; exact NumAt.take HN.out.symm h2 h3 h4 hk
        obtain ⟨ad, rfl, hc⟩ := NumAt.bit HN.out.symm h4 (show k - 1 < n by omega)
        have hi1 : ((k - 1 : Nat) : Int) < (n : Int) := by omega
        have hi0 : (0 : Int) ≤ ((k - 1 : Nat) : Int) := by omega
        have hkc : (k : Int) ≤ (c : Int) := by omega
        rw [hb] at hc
        have FIN := Lib.hid fin
        clear hb last hs hkl hA fin
        go_wp2_with fail
        go_ret
        exact ⟨_, rfl, FIN.out, rfl, rfl⟩

set_option maxHeartbeats 1000000 in
theorem bit_any (w : World) (v : Value) (l : List Bool) (h : NumAt w v l) (i : Nat) :
    Calls Try.prog 82 #[v, .int .i64 i] w fun e w' => e = .returned (.bool (bitAt l i)) ∧ w = w' := by
  obtain ⟨A, c, rfl, h2, h3, h4⟩ := h
  have h5 := h3
  unfold maxLen at h5
  by_cases hlt : i < l.length
  · obtain ⟨ad, rfl, hc⟩ := NumAt.bit rfl h4 hlt
    obtain ⟨n, hn⟩ : ∃ n, n = l.length := ⟨_, rfl⟩
    rw [← hn] at hlt h2 h4 ⊢
    have d1 : decide (i < n) = true := decide_eq_true hlt
    have hli : (i : Int) < (n : Int) := by omega
    have HN := Lib.hid hn
    generalize bitAt l i = b at *
    clear hn h4 h5 h2 h3
    go_enter Try.func82, Try.ntmps82
    go_wp2_with fail
    go_ret
    exact ⟨rfl, rfl⟩
  · have hb : bitAt l i = false := by
      unfold bitAt
      rw [List.getD_eq_getElem?_getD, List.getElem?_eq_none (by omega)]; rfl
    rw [hb]
    obtain ⟨n, hn⟩ : ∃ n, n = l.length := ⟨_, rfl⟩
    rw [← hn] at hlt h2 h4 ⊢
    have d1 : decide (i < n) = false := decide_eq_false hlt
    clear hn h4 h5 h2 h3 hb
    go_enter Try.func82, Try.ntmps82
    go_wp2_with fail
    go_ret
    exact ⟨rfl, rfl⟩
end Go.Proofs.Ytkinbbhbencipaa

namespace Go.Proofs.Ytkinbbhbencipaa
open Go.RowKit

theorem infoB : (Try.prog.info? 4).map (fun i => (i.zero, i.size, i.bytes)) = some (some (.bool false), 1, 1) := by kernel_rfl

/-- A row of the call's own is a number. -/
theorem own_num {w : World} {base : Nat} {l : List Bool} {v : Value} (h : w.ownsRow base 4 1 v l.length (l.map Value.bool)) : NumAt w v l := by
  have h0 := h
  rcases h.2 with ⟨rfl, hn⟩ | ⟨g, cap, cur, rfl, _, hh, hnc, hrest⟩
  · have : l = [] := List.eq_nil_of_length_eq_zero (by simpa using hn)
    subst this
    exact NumAt.nil w
  · exact ⟨some _, cap, rfl, hnc, hrest.1, Reads.of_own h0⟩

/-- A row that lies in a block from B on, if it lies anywhere. -/
def Fresh (B : Nat) (v : Value) : Prop := ∀ k, v.ownBlock = some k → B ≤ k

theorem Fresh.none_ (B n c : Nat) : Fresh B (.slice none n c) := fun _ h => by cases h
theorem Fresh.mono {B B' : Nat} {v : Value} (h : Fresh B v) (hB : B' ≤ B) : Fresh B' v := fun k hk => Nat.le_trans hB (h k hk)
theorem Fresh.of_eq {B : Nat} {v u : Value} (h : Fresh B v) (e : u.ownBlock = v.ownBlock) : Fresh B u := fun k hk => h k (e.symm.trans hk)

/-- A number that a call answers, in its own memory, in a world where all that is older is as it was. -/
def NumNew (w : World) (l : List Bool) (e : Ending) (w' : World) : Prop := ∃ v', e = .returned v' ∧ NumAt w' v' l ∧ Below w.heap.size w w' ∧ Fresh w.heap.size v'

theorem own_ge {w : World} {base k n : Nat} {v : Value} {xs : List Value} (h : w.ownsRow base 4 1 v n xs) (hk : v.ownBlock = some k) : base ≤ k := by
  rcases h.2 with ⟨rfl, _⟩ | ⟨g, cap, cur, rfl, hg, _⟩
  · cases hk
  · have : g = k := by simpa [Value.ownBlock] using hk
    omega

theorem own_fresh {w : World} {base n : Nat} {v : Value} {xs : List Value} (h : w.ownsRow base 4 1 v n xs) : Fresh base v := fun _ hk => own_ge h hk

theorem own_push {w : World} {base : Nat} {v : Value} {l : List Bool} {b : Bool} (h : w.ownsRow base 4 1 v (l.length + 1) (l.map Value.bool ++ [.bool b])) : w.ownsRow base 4 1 v (l ++ [b]).length ((l ++ [b]).map Value.bool) := by
  rw [List.length_append, List.map_append]; exact h

theorem below_push {w0 w w1 : World} {n : Nat} {v : Value} {xs : List Value} {o : Obj} (hb : Below w0.heap.size w0 w) (hown : w.ownsRow w0.heap.size 4 1 v n xs) (hg : (w.alloc o).grownBy w1 v.ownBlock) : Below w0.heap.size w0 w1 :=
  (hb.alloc hb.size o).grown hg (by have := hb.size; simp; omega) (fun _ hk => own_ge hown hk)

theorem one_bit {w : World} {b : Bool} : ∀ (j : Nat) (u : Value), [Value.bool b][j]? = some u → (w.alloc (.cells #[.bool b] 4)).cell? ((⟨w.heap.size, 0, none⟩ : Addr).add j) = some u := by
  intro j u h
  rcases j with _ | j
  · have : Value.bool b = u := by simpa using h
    subst this
    show (w.alloc (.cells #[.bool b] 4)).cell? ⟨w.heap.size, 0, none⟩ = _
    go_simp
  · simp at h

/-- What holds at the head of the loop of Of. -/
def OfRel (n : Nat) (w : World) (g : Nat) (v0 v3 : Value) (wr : World) : Prop := ∃ (m : Nat) (l : List Bool), v0 = .int .u64 m ∧ g = m ∧ m ≤ n ∧ l ++ bitsOf m = bitsOf n ∧ wr.ownsRow w.heap.size 4 1 v3 l.length (l.map Value.bool) ∧ Below w.heap.size w wr

set_option maxRecDepth 4000 in
set_option maxHeartbeats 1000000 in
theorem of_any (n : Nat) (w : World) (hn : n < 18446744073709551616) :
    Calls Try.prog 65 #[.int .u64 n] w (NumNew w (bitsOf n)) := by
  obtain ⟨i0, hi, hz0, hz1, hz2⟩ := info_parts infoB
  have hlen := bitsOf_length n 64 hn
  have HN := Lib.hid hn
  have HL := Lib.hid hlen
  clear hn hlen
  go_enter Try.func65, Try.ntmps65
  go_wp2_with fail
  go_loopg [0, 3] n (fun g v0 v3 wr => OfRel n w g v0 v3 wr)
  case atStart => exact ⟨n, [], rfl, rfl, Nat.le_refl _, rfl, ⟨rfl, .inl ⟨rfl, rfl⟩⟩, Below.refl _ _⟩
  case round =>
    obtain ⟨m, l, rfl, rfl, hm, hb, hown, hbelow⟩ := hrel
    have HB := Lib.hid hb
    have HM := Lib.hid hm
    clear hb hm
    by_cases h0 : gk = 0
    · subst h0
      have hl : l = bitsOf n := by have := HB.out; rw [bitsOf_zero, List.append_nil] at this; exact this
      subst hl
      go_wp2_with fail
      go_ret
      exact ⟨_, rfl, own_num hown, hbelow, own_fresh hown⟩
    · have hpos : (0 : Int) < (gk : Int) := by omega
      have hl : l.length + (bitsOf gk).length ≤ 64 := by have := HL.out; rw [← HB.out, List.length_append] at this; exact this
      have hl2 : l.length < 64 := by rw [bitsOf_pos h0, List.length_cons] at hl; omega
      have e1 : (gk : Int) % 2 = ((gk % 2 : Nat) : Int) := by omega
      obtain ⟨r, hr⟩ : ∃ r, r = gk % 2 := ⟨_, rfl⟩
      rw [← hr] at e1
      have hrb : ((r : Int) == 1) = (gk % 2 == 1) := by rw [hr, Bool.eq_iff_iff]; simp; omega
      have wq : IntKind.u64.wrap ((gk : Int) / 2) = ((gk / 2 : Nat) : Int) := by have := HM.out; have := HN.out; rw [IntWalk.u64_in _ (by omega)]; omega
      have H0 := Lib.hid h0
      have HR := Lib.hid hr
      have HRB := Lib.hid hrb
      have HX := Lib.hid (And.intro hl hl2)
      clear hr h0 hl hl2 hrb
      go_wp2_with (at_builtin; refine wpList_append_own _ rfl _ _ 69 rfl w.heap.size 4 i0 (.bool false) 1 1 Try.underlying69 hi hz0 hz1 hz2 rfl (by decide) _ _ _ rfl (hown.alloc _) ⟨wr.heap.size, 0, none⟩ 1 1 [.bool ((r : Int) == 1)] rfl rfl ?c1 ?c2 ?c3 ?c4 ?c5 ?_)
      case c1 => exact one_bit
      case c2 => intro u hu; simp at hu; subst hu; rfl
      case c3 => have := HX.out; unfold maxLen; omega
      case c4 => have := HX.out; omega
      case c5 => have := hbelow.size; simp; omega
      intro v' w1 hown' hgrow _
      have L1 := Lib.hid (below_push hbelow hown hgrow)
      have O1 := Lib.hid (own_push hown')
      clear hown hown' hgrow hbelow
      go_wp2_with fail
      go_roundg (gk / 2)
      case measure => omega
      case rel => exact ⟨gk / 2, l ++ [(r : Int) == 1], by rfl, rfl, by have := HM.out; omega, by rw [HRB.out, List.append_assoc, ← HB.out, bitsOf_pos H0.out]; rfl, O1.out, L1.out⟩

set_option maxHeartbeats 2000000 in
theorem less_any (w : World) (x y : Value) (a b : Nat) (hx : NumAt w x (bitsOf a)) (hy : NumAt w y (bitsOf b)) :
    Calls Try.prog 80 #[x, y] w (Drawn w (.bool (decide (a < b)))) := by
  obtain ⟨A, c, rfl, h2, h3, h4⟩ := hx
  obtain ⟨B, d, rfl, k2, k3, k4⟩ := hy
  unfold maxLen at h3 k3
  obtain ⟨n, hn⟩ : ∃ n, n = (bitsOf a).length := ⟨_, rfl⟩
  obtain ⟨m, hm⟩ : ∃ m, m = (bitsOf b).length := ⟨_, rfl⟩
  obtain ⟨r, hr⟩ : ∃ r, r = decide (a < b) := ⟨_, rfl⟩
  rw [← hn] at h2 h4 ⊢
  rw [← hm] at k2 k4 ⊢
  rw [← hr]
  have hn6 : n ≤ 9223372036854775807 := by omega
  have hm6 : m ≤ 9223372036854775807 := by omega
  have HR := Lib.hid hr
  have HN := Lib.hid hn
  have HM := Lib.hid hm
  by_cases hnm : n = m
  · subst hnm
    have HC := Lib.hid (And.intro h2 k2)
    clear hr hn hm h2 k2 h3 k3 hm6
    go_enter Try.func80, Try.ntmps80
    go_wp2_with fail
    go_loopg [5] n (fun g v5 wx => ∃ (k q : Nat) (z : Int), k ≤ n ∧ g = k ∧ z = (k : Int) - 1 ∧ v5 = .int .i64 z ∧ natOf ((bitsOf a).drop k) = natOf ((bitsOf b).drop k) ∧ wx = w.drewN q)
    case atStart => exact ⟨n, 0, _, Nat.le_refl _, rfl, rfl, rfl, by rw [List.drop_eq_nil_of_le (Nat.le_of_eq HN.out.symm), List.drop_eq_nil_of_le (Nat.le_of_eq HM.out.symm)], rfl⟩
    case round =>
      obtain ⟨k, q, z, hk, hg, hz, rfl, hd, rfl⟩ := hrel
      have HD := Lib.hid hd
      have HG := Lib.hid hg
      clear hd hg
      by_cases hk0 : k = 0
      · obtain rfl : z = -1 := by omega
        have hab : a = b := by
          have := HD.out
          rw [hk0, List.drop_zero, List.drop_zero, natOf_bitsOf, natOf_bitsOf] at this
          exact this
        obtain rfl : r = false := by rw [HR.out]; exact decide_eq_false (by omega)
        clear hz hk hab hk0
        go_wp2_with fail
        go_ret
        exact ⟨rfl, _, rfl⟩
      · obtain ⟨j, hj⟩ : ∃ j, j = k - 1 := ⟨_, rfl⟩
        obtain rfl : z = (j : Int) := by omega
        have hjn : j < n := by omega
        have hj1 : j + 1 = k := by omega
        have hd := HD.out
        rw [← hj1] at hd
        obtain ⟨ad, rfl, c1⟩ := NumAt.bit HN.out.symm h4 hjn
        obtain ⟨bd, rfl, c2⟩ := NumAt.bit HM.out.symm k4 hjn
        have wj : IntKind.i64.wrap ((j : Int) - 1) = (j : Int) - 1 := IntWalk.i64_in _ (by omega)
        have i1 : (j : Int) < (n : Int) := by omega
        have i2 : (0 : Int) ≤ (j : Int) := by omega
        by_cases hb : bitAt (bitsOf a) j = bitAt (bitsOf b) j
        · have nx := natOf_drop_eq hd hb
          rw [hb] at c1
          generalize bitAt (bitsOf b) j = bb at *
          have NX := Lib.hid nx
          have HJ := Lib.hid (And.intro hj hj1)
          clear nx hb hd hj hj1 hz hk hk0
          go_upto_region 6 with fail
          go_quiet (fail)
          go_wp2_with fail
          go_roundg j
          case measure => have := HG.out; have := HJ.out; omega
          case rel => exact ⟨j, _, _, by omega, rfl, rfl, rfl, NX.out, rfl⟩
        · have dec := lt_at j hd hb
          rw [natOf_bitsOf, natOf_bitsOf] at dec
          rw [← HR.out] at dec
          subst dec
          have hne : (bitAt (bitsOf a) j == bitAt (bitsOf b) j) = false := by simpa using hb
          generalize bitAt (bitsOf a) j = ab at *
          generalize bitAt (bitsOf b) j = bb at *
          have HB := Lib.hid hb
          clear hb hd hj hj1 hz hk hk0 HR
          go_upto_region 6 with fail
          go_quiet (fail)
          go_wp2_with fail
          go_ret
          exact ⟨rfl, _, rfl⟩
  · have e1 : ((n : Int) == (m : Int)) = false := by simp; omega
    have e2 : ((n : Int) != (m : Int)) = true := by simp; omega
    obtain rfl : r = decide (n < m) := by
      rw [hr]
      rcases Nat.lt_or_ge n m with g | g
      · rw [decide_eq_true g]; exact decide_eq_true (lt_of_length (by omega))
      · rw [show decide (n < m) = false from decide_eq_false (by omega)]
        exact decide_eq_false (by have := lt_of_length (a := b) (b := a) (by omega); omega)
    clear hr hn hm h2 k2 h3 k3 hnm HR HN HM h4 k4
    go_enter Try.func80, Try.ntmps80
    go_wp2_with fail
    go_ret
    exact ⟨rfl, 0, rfl⟩

/-- What holds at the head of the loop of Add. -/
def AddRel (la lb : List Bool) (w : World) (g : Nat) (v5 v6 v7 : Value) (wr : World) : Prop := ∃ (k cy : Nat) (z : Int) (l : List Bool), g = 500 - k ∧ cy ≤ 1 ∧ z = (cy : Int) ∧ v6 = .int .i64 z ∧ v7 = .int .i64 k ∧ l.length = k ∧
  natOf l + 2 ^ k * (cy + natOf (la.drop k) + natOf (lb.drop k)) = natOf la + natOf lb ∧ (k ≤ max la.length lb.length + 1 ∧ (k = max la.length lb.length + 1 → cy = 0)) ∧ wr.ownsRow w.heap.size 4 1 v5 l.length (l.map Value.bool) ∧ Below w.heap.size w wr

theorem bitAt_beyond {l : List Bool} {k : Nat} (h : ¬ k < l.length) : bitAt l k = false := by
  unfold bitAt
  rw [List.getD_eq_getElem?_getD, List.getElem?_eq_none (by omega)]; rfl

/-- One round of Add. -/
theorem add_round {la lb l : List Bool} {k cy : Nat} (hl : l.length = k) (hs : natOf l + 2 ^ k * (cy + natOf (la.drop k) + natOf (lb.drop k)) = natOf la + natOf lb) (p q : Bool) (hp : bitAt la k = p) (hq : bitAt lb k = q)
    (bt : Bool) (c2 : Nat) (ht : cy + p.toNat + q.toNat = bt.toNat + 2 * c2) :
    natOf (l ++ [bt]) + 2 ^ (k + 1) * (c2 + natOf (la.drop (k + 1)) + natOf (lb.drop (k + 1))) = natOf la + natOf lb := by
  rw [natOf_drop la k, natOf_drop lb k, hp, hq] at hs
  rw [natOf_snoc, hl, ← hs, Nat.pow_succ, Nat.mul_assoc, Nat.add_assoc, ← Nat.mul_add]
  congr 2
  omega

set_option maxHeartbeats 2000000 in
theorem add_num (w : World) (x y : Value) (a b : Nat) (hx : NumAt w x (bitsOf a)) (hy : NumAt w y (bitsOf b)) (ha : (bitsOf a).length ≤ 300) (hb : (bitsOf b).length ≤ 300) :
    Calls Try.prog 64 #[x, y] w (NumNew w (bitsOf (a + b))) := by
  have bx := fun (wr : World) (hw : Below w.heap.size w wr) (i : Nat) => bit_any wr x (bitsOf a) (hx.below hw) i
  have by_ := fun (wr : World) (hw : Below w.heap.size w wr) (i : Nat) => bit_any wr y (bitsOf b) (hy.below hw) i
  obtain ⟨i0, hi, hz0, hz1, hz2⟩ := info_parts infoB
  obtain ⟨A, c, rfl, h2, h3, h4⟩ := hx
  obtain ⟨B, d, rfl, k2, k3, k4⟩ := hy
  have na : natOf (bitsOf a) = a := natOf_bitsOf a
  have nb : natOf (bitsOf b) = b := natOf_bitsOf b
  obtain ⟨la, hla⟩ : ∃ la, la = bitsOf a := ⟨_, rfl⟩
  obtain ⟨lb, hlb⟩ : ∃ lb, lb = bitsOf b := ⟨_, rfl⟩
  rw [← hla] at bx ha na ⊢
  rw [← hlb] at by_ hb nb ⊢
  obtain ⟨n, hn⟩ : ∃ n, n = la.length := ⟨_, rfl⟩
  obtain ⟨m, hm⟩ : ∃ m, m = lb.length := ⟨_, rfl⟩
  rw [← hn] at bx ha ⊢
  rw [← hm] at by_ hb ⊢
  have HA := Lib.hid (And.intro na (And.intro nb (And.intro hn hm)))
  have HL := Lib.hid (And.intro ha hb)
  clear h2 h3 h4 k2 k3 k4 na nb hla hlb hn hm
  go_enter Try.func64, Try.ntmps64
  go_wp2_with fail
  go_loopg [5, 6, 7] 500 (fun g v5 v6 v7 wr => AddRel la lb w g v5 v6 v7 wr)
  case atStart => exact ⟨0, 0, 0, [], rfl, by omega, rfl, rfl, rfl, rfl, by simp [natOf], ⟨by omega, fun _ => rfl⟩, ⟨rfl, .inl ⟨rfl, rfl⟩⟩, Below.refl _ _⟩
  case round =>
    obtain ⟨k, cy, z, l, hg, hc, hz, rfl, rfl, hl, hsum, hor, hown, hbelow⟩ := hrel
    have hnm : n = la.length ∧ m = lb.length := HA.out.2.2
    have hk : k ≤ 301 := by have := HL.out; omega
    by_cases hgo : k < n ∨ k < m ∨ 0 < cy
    · have hk2 : k + 1 ≤ max la.length lb.length + 1 ∧ (k + 1 = max la.length lb.length + 1 → ¬ k < n ∧ ¬ k < m) := by omega
      have T : (∃ b1, decide (k < n) = b1 ∧ b1 = true) ∨ (decide (k < n) = false ∧ decide (k < m) = true) ∨ (decide (k < n) = false ∧ decide (k < m) = false ∧ cy = 1) := by
        by_cases g1 : k < n
        · exact .inl ⟨_, rfl, decide_eq_true g1⟩
        · by_cases g2 : k < m
          · exact .inr (.inl ⟨decide_eq_false g1, decide_eq_true g2⟩)
          · exact .inr (.inr ⟨decide_eq_false g1, decide_eq_false g2, by omega⟩)
      have nxt : ∀ (p q bt : Bool) (c2 : Nat), bitAt la k = p → bitAt lb k = q → cy + p.toNat + q.toNat = bt.toNat + 2 * c2 → c2 ≤ 1 ∧ natOf (l ++ [bt]) + 2 ^ (k + 1) * (c2 + natOf (la.drop (k + 1)) + natOf (lb.drop (k + 1))) = natOf la + natOf lb ∧ (k + 1 ≤ max la.length lb.length + 1 ∧ (k + 1 = max la.length lb.length + 1 → c2 = 0)) := by
        intro p q bt c2 hp hq ht
        have p1 := toNat_le p
        have q1 := toNat_le q
        refine ⟨by omega, add_round hl hsum p q hp hq bt c2 ht, hk2.1, fun e => ?_⟩
        obtain ⟨x1, x2⟩ := hk2.2 e
        rw [bitAt_beyond (by omega)] at hp
        rw [bitAt_beyond (by omega)] at hq
        subst hp hq
        have z0 : false.toNat = 0 := rfl
        omega
      have wk : IntKind.i64.wrap ((k : Int) + 1) = ((k + 1 : Nat) : Int) := by rw [IntWalk.i64_in _ (by omega)]; omega
      have bxk := bx wr hbelow k
      have byk := by_ wr hbelow k
      have NX := Lib.hid nxt
      have HG := Lib.hid (And.intro hg (And.intro hl hk))
      have hcs : (z = 0 ∧ cy = 0) ∨ (z = 1 ∧ cy = 1) := by omega
      generalize hpa : bitAt la k = pa at *
      generalize hpb : bitAt lb k = pb at *
      have HP := Lib.hid (And.intro hpa hpb)
      clear nxt hsum hor hg hl hk hk2 hgo hnm hc hz hpa hpb bx by_
      go_upto_region 4 with fail
      go_cut [21] (fun v wx => v = .bool true ∧ wr = wx)
      case first =>
        rcases T with ⟨b1, t1, rfl⟩ | ⟨t1, t2⟩ | ⟨t1, t2, t3⟩
        · go_wp2_with fail
          go_meet
          exact ⟨rfl, rfl⟩
        · go_wp2_with fail
          go_meet
          exact ⟨rfl, rfl⟩
        · obtain rfl : z = 1 := by omega
          go_wp2_with fail
          go_meet
          exact ⟨rfl, rfl⟩
      case rest =>
        obtain ⟨rfl, rfl⟩ := hcut
        clear T
        rcases hcs with ⟨rfl, rfl⟩ | ⟨rfl, rfl⟩ <;> cases pa <;> cases pb
        all_goals
          go_wp2_with (first
            | (go_at_call 82; (first | with_reducible refine bxk.mono ?_ | with_reducible refine byk.mono ?_); rintro e w' ⟨rfl, rfl⟩)
            | (at_builtin; first
                | refine wpList_append_own _ rfl _ _ 69 rfl w.heap.size 4 i0 (.bool false) 1 1 Try.underlying69 hi hz0 hz1 hz2 rfl (by decide) _ _ _ rfl (hown.alloc _) ⟨wr.heap.size, 0, none⟩ 1 1 [.bool false] rfl rfl (one_bit (b := false)) ?c2 ?c3 ?c4 ?c5 ?_
                | refine wpList_append_own _ rfl _ _ 69 rfl w.heap.size 4 i0 (.bool false) 1 1 Try.underlying69 hi hz0 hz1 hz2 rfl (by decide) _ _ _ rfl (hown.alloc _) ⟨wr.heap.size, 0, none⟩ 1 1 [.bool true] rfl rfl (one_bit (b := true)) ?c2 ?c3 ?c4 ?c5 ?_))
          case c2 => intro u hu; simp at hu; subst hu; rfl
          case c3 => have := HG.out; unfold maxLen; omega
          case c4 => have := HG.out; omega
          case c5 => have := hbelow.size; simp; omega
          intro v' w1 hown' hgrow _
          have L1 := Lib.hid (below_push hbelow hown hgrow)
          have O1 := Lib.hid (own_push hown')
          clear hown hown' hgrow hbelow
          go_wp2_with fail
          go_roundg (500 - (k + 1))
          case measure => have := HG.out; omega
          case rel =>
            first
              | (obtain ⟨r1, r2, r3⟩ := NX.out _ _ false 0 rfl rfl (by decide); exact ⟨k + 1, 0, _, l ++ [false], rfl, r1, rfl, rfl, by go_num, by rw [List.length_append, HG.out.2.1]; rfl, r2, r3, O1.out, L1.out⟩)
              | (obtain ⟨r1, r2, r3⟩ := NX.out _ _ false 1 rfl rfl (by decide); exact ⟨k + 1, 1, _, l ++ [false], rfl, r1, rfl, rfl, by go_num, by rw [List.length_append, HG.out.2.1]; rfl, r2, r3, O1.out, L1.out⟩)
              | (obtain ⟨r1, r2, r3⟩ := NX.out _ _ true 0 rfl rfl (by decide); exact ⟨k + 1, 0, _, l ++ [true], rfl, r1, rfl, rfl, by go_num, by rw [List.length_append, HG.out.2.1]; rfl, r2, r3, O1.out, L1.out⟩)
              | (obtain ⟨r1, r2, r3⟩ := NX.out _ _ true 1 rfl rfl (by decide); exact ⟨k + 1, 1, _, l ++ [true], rfl, r1, rfl, rfl, by go_num, by rw [List.length_append, HG.out.2.1]; rfl, r2, r3, O1.out, L1.out⟩)
    · have hcy : cy = 0 := by omega
      obtain rfl : z = 0 := by omega
      have hfin : natOf l = a + b := by
        rw [List.drop_eq_nil_of_le (show la.length ≤ k by omega), List.drop_eq_nil_of_le (show lb.length ≤ k by omega), hcy] at hsum
        have := HA.out
        simp [natOf] at hsum
        omega
      have d1 : decide (k < n) = false := decide_eq_false (by omega)
      have d2 : decide (k < m) = false := decide_eq_false (by omega)
      have ht := trim_any wr _ l (own_num hown)
      have hfr := own_fresh hown
      rw [hfin] at ht
      clear hg hc hz hl hsum hor hown hnm hk hgo hcy hfin bx by_
      go_wp2_with (go_at_call 79; (with_reducible refine ht.mono ?_); rintro e w' ⟨v', rfl, hv, rfl, ho⟩; have HV := Lib.hid (And.intro hv (hfr.of_eq ho)); clear hv ho)
      go_ret
      exact ⟨_, rfl, HV.out.1, hbelow, HV.out.2⟩
end Go.Proofs.Ytkinbbhbencipaa

namespace Go.Proofs.Ytkinbbhbencipaa
open Go.RowKit

/-- What holds at the head of the loop of Sub. -/
def SubRel (la lb : List Bool) (w : World) (g : Nat) (v5 v6 v7 : Value) (wr : World) : Prop := ∃ (k br : Nat) (z : Int) (l : List Bool), g = 500 - k ∧ br ≤ 1 ∧ z = (br : Int) ∧ v6 = .int .i64 z ∧ v7 = .int .i64 k ∧ l.length = k ∧
  natOf l + 2 ^ k * natOf (la.drop k) + natOf lb = natOf la + 2 ^ k * (natOf (lb.drop k) + br) ∧ k ≤ la.length ∧ wr.ownsRow w.heap.size 4 1 v5 l.length (l.map Value.bool) ∧ Below w.heap.size w wr

/-- One round of Sub. -/
theorem sub_round {la lb l : List Bool} {k br : Nat} (hl : l.length = k) (hs : natOf l + 2 ^ k * natOf (la.drop k) + natOf lb = natOf la + 2 ^ k * (natOf (lb.drop k) + br)) (p q : Bool) (hp : bitAt la k = p) (hq : bitAt lb k = q)
    (bt : Bool) (b2 : Nat) (ht : p.toNat + 2 * b2 = q.toNat + br + bt.toNat) :
    natOf (l ++ [bt]) + 2 ^ (k + 1) * natOf (la.drop (k + 1)) + natOf lb = natOf la + 2 ^ (k + 1) * (natOf (lb.drop (k + 1)) + b2) := by
  rw [natOf_drop la k, natOf_drop lb k, hp, hq] at hs
  rw [natOf_snoc, hl, Nat.pow_succ, Nat.mul_assoc, Nat.mul_assoc]
  generalize natOf (la.drop (k + 1)) = x at *
  generalize natOf (lb.drop (k + 1)) = y at *
  generalize 2 ^ k = P at *
  have e : P * (p.toNat + 2 * b2) = P * (q.toNat + br + bt.toNat) := by rw [ht]
  simp only [Nat.mul_add] at e hs ⊢
  omega

/-- What is left when all bits are done. -/
theorem sub_end {la lb l : List Bool} {n br : Nat} (hn : la.length = n) (hl : l.length = n) (hs : natOf l + 2 ^ n * natOf (la.drop n) + natOf lb = natOf la + 2 ^ n * (natOf (lb.drop n) + br)) (h : natOf lb ≤ natOf la) : natOf l = natOf la - natOf lb := by
  rw [List.drop_eq_nil_of_le (Nat.le_of_eq hn)] at hs
  have hlt := natOf_lt l
  rw [hl] at hlt
  generalize natOf (lb.drop n) + br = X at *
  generalize 2 ^ n = P at *
  simp only [natOf, Nat.mul_zero, Nat.add_zero] at hs
  rcases Nat.eq_zero_or_pos X with h0 | h0
  · rw [h0, Nat.mul_zero] at hs; omega
  · have := Nat.le_mul_of_pos_right P h0; omega

set_option maxHeartbeats 2000000 in
theorem sub_num (w : World) (x y : Value) (a b : Nat) (hx : NumAt w x (bitsOf a)) (hy : NumAt w y (bitsOf b)) (ha : (bitsOf a).length ≤ 300) (hb : (bitsOf b).length ≤ 300) (hle : b ≤ a) :
    Calls Try.prog 81 #[x, y] w (NumNew w (bitsOf (a - b))) := by
  have bx := fun (wr : World) (hw : Below w.heap.size w wr) (i : Nat) => bit_any wr x (bitsOf a) (hx.below hw) i
  have by_ := fun (wr : World) (hw : Below w.heap.size w wr) (i : Nat) => bit_any wr y (bitsOf b) (hy.below hw) i
  obtain ⟨i0, hi, hz0, hz1, hz2⟩ := info_parts infoB
  obtain ⟨A, c, rfl, h2, h3, h4⟩ := hx
  obtain ⟨B, d, rfl, k2, k3, k4⟩ := hy
  have na : natOf (bitsOf a) = a := natOf_bitsOf a
  have nb : natOf (bitsOf b) = b := natOf_bitsOf b
  obtain ⟨la, hla⟩ : ∃ la, la = bitsOf a := ⟨_, rfl⟩
  obtain ⟨lb, hlb⟩ : ∃ lb, lb = bitsOf b := ⟨_, rfl⟩
  rw [← hla] at bx ha na ⊢
  rw [← hlb] at by_ hb nb ⊢
  obtain ⟨n, hn⟩ : ∃ n, n = la.length := ⟨_, rfl⟩
  obtain ⟨m, hm⟩ : ∃ m, m = lb.length := ⟨_, rfl⟩
  rw [← hn] at bx ha ⊢
  rw [← hm] at by_ hb ⊢
  have HA := Lib.hid (And.intro na (And.intro nb (And.intro hn hm)))
  have HL := Lib.hid (And.intro ha hb)
  clear h2 h3 h4 k2 k3 k4 na nb hla hlb hn hm
  go_enter Try.func81, Try.ntmps81
  go_wp2_with fail
  go_loopg [5, 6, 7] 500 (fun g v5 v6 v7 wr => SubRel la lb w g v5 v6 v7 wr)
  case atStart => exact ⟨0, 0, 0, [], rfl, by omega, rfl, rfl, rfl, rfl, by simp [natOf], Nat.zero_le _, ⟨rfl, .inl ⟨rfl, rfl⟩⟩, Below.refl _ _⟩
  case round =>
    obtain ⟨k, br, z, l, hg, hc, hz, rfl, rfl, hl, hsum, hkl, hown, hbelow⟩ := hrel
    have hnm : n = la.length ∧ m = lb.length := HA.out.2.2
    have hk : k ≤ 300 := by have := HL.out; omega
    by_cases hgo : k < n
    · have nxt : ∀ (p q bt : Bool) (b2 : Nat), bitAt la k = p → bitAt lb k = q → p.toNat + 2 * b2 = q.toNat + br + bt.toNat → b2 ≤ 1 ∧ natOf (l ++ [bt]) + 2 ^ (k + 1) * natOf (la.drop (k + 1)) + natOf lb = natOf la + 2 ^ (k + 1) * (natOf (lb.drop (k + 1)) + b2) ∧ k + 1 ≤ la.length := by
        intro p q bt b2 hp hq ht
        have p1 := toNat_le p
        have q1 := toNat_le q
        have r1 := toNat_le bt
        exact ⟨by omega, sub_round hl hsum p q hp hq bt b2 ht, by omega⟩
      have wk : IntKind.i64.wrap ((k : Int) + 1) = ((k + 1 : Nat) : Int) := by rw [IntWalk.i64_in _ (by omega)]; omega
      have d1 : decide (k < n) = true := decide_eq_true hgo
      have bxk := bx wr hbelow k
      have byk := by_ wr hbelow k
      have NX := Lib.hid nxt
      have HG := Lib.hid (And.intro hg (And.intro hl hk))
      have hcs : (z = 0 ∧ br = 0) ∨ (z = 1 ∧ br = 1) := by omega
      generalize hpa : bitAt la k = pa at *
      generalize hpb : bitAt lb k = pb at *
      clear nxt hsum hkl hg hl hk hgo hnm hc hz hpa hpb bx by_
      rcases hcs with ⟨rfl, rfl⟩ | ⟨rfl, rfl⟩ <;> cases pa <;> cases pb
      all_goals
        go_wp2_with (first
          | (go_at_call 82; (first | with_reducible refine bxk.mono ?_ | with_reducible refine byk.mono ?_); rintro e w' ⟨rfl, rfl⟩)
          | (at_builtin; first
              | refine wpList_append_own _ rfl _ _ 69 rfl w.heap.size 4 i0 (.bool false) 1 1 Try.underlying69 hi hz0 hz1 hz2 rfl (by decide) _ _ _ rfl (hown.alloc _) ⟨wr.heap.size, 0, none⟩ 1 1 [.bool false] rfl rfl (one_bit (b := false)) ?c2 ?c3 ?c4 ?c5 ?_
              | refine wpList_append_own _ rfl _ _ 69 rfl w.heap.size 4 i0 (.bool false) 1 1 Try.underlying69 hi hz0 hz1 hz2 rfl (by decide) _ _ _ rfl (hown.alloc _) ⟨wr.heap.size, 0, none⟩ 1 1 [.bool true] rfl rfl (one_bit (b := true)) ?c2 ?c3 ?c4 ?c5 ?_))
        case c2 => intro u hu; simp at hu; subst hu; rfl
        case c3 => have := HG.out; unfold maxLen; omega
        case c4 => have := HG.out; omega
        case c5 => have := hbelow.size; simp; omega
        intro v' w1 hown' hgrow _
        have L1 := Lib.hid (below_push hbelow hown hgrow)
        have O1 := Lib.hid (own_push hown')
        clear hown hown' hgrow hbelow
        go_wp2_with fail
        go_roundg (500 - (k + 1))
        case measure => have := HG.out; omega
        case rel =>
          first
            | (obtain ⟨r1, r2, r3⟩ := NX.out _ _ false 0 rfl rfl rfl; exact ⟨k + 1, 0, _, l ++ [false], rfl, r1, rfl, rfl, by go_num, by rw [List.length_append, HG.out.2.1]; rfl, r2, r3, O1.out, L1.out⟩)
            | (obtain ⟨r1, r2, r3⟩ := NX.out _ _ false 1 rfl rfl rfl; exact ⟨k + 1, 1, _, l ++ [false], rfl, r1, rfl, rfl, by go_num, by rw [List.length_append, HG.out.2.1]; rfl, r2, r3, O1.out, L1.out⟩)
            | (obtain ⟨r1, r2, r3⟩ := NX.out _ _ true 0 rfl rfl rfl; exact ⟨k + 1, 0, _, l ++ [true], rfl, r1, rfl, rfl, by go_num, by rw [List.length_append, HG.out.2.1]; rfl, r2, r3, O1.out, L1.out⟩)
            | (obtain ⟨r1, r2, r3⟩ := NX.out _ _ true 1 rfl rfl rfl; exact ⟨k + 1, 1, _, l ++ [true], rfl, r1, rfl, rfl, by go_num, by rw [List.length_append, HG.out.2.1]; rfl, r2, r3, O1.out, L1.out⟩)
    · have hkn : k = n := by omega
      have hfin : natOf l = a - b := by
        have := HA.out
        have e := sub_end (br := br) (show la.length = k by omega) hl hsum (by omega)
        omega
      have d1 : decide (k < n) = false := decide_eq_false hgo
      have ht := trim_any wr _ l (own_num hown)
      have hfr := own_fresh hown
      rw [hfin] at ht
      clear hg hc hz hl hsum hkl hown hnm hk hgo hkn hfin bx by_
      go_wp2_with (go_at_call 79; (with_reducible refine ht.mono ?_); rintro e w' ⟨v', rfl, hv, rfl, ho⟩; have HV := Lib.hid (And.intro hv (hfr.of_eq ho)); clear hv ho)

      go_ret
      exact ⟨_, rfl, HV.out.1, hbelow, HV.out.2⟩
end Go.Proofs.Ytkinbbhbencipaa

namespace Go.Proofs.Ytkinbbhbencipaa
open Go.RowKit

theorem own_lit (w : World) (b : Bool) : (w.alloc (.cells #[.bool b] 4)).ownsRow w.heap.size 4 1 (.slice (some ⟨w.heap.size, 0, none⟩) 1 1) 1 [.bool b] :=
  ⟨rfl, .inr ⟨w.heap.size, 1, #[.bool b], rfl, Nat.le_refl _, heap_alloc_new w _, Nat.le_refl _, by decide, rfl, rfl⟩⟩

theorem cons_own {w : World} {base : Nat} {v : Value} {b : Bool} {l : List Bool} (h : w.ownsRow base 4 1 v (1 + l.length) ([.bool b] ++ l.map Value.bool)) : NumAt w v (b :: l) := by
  refine own_num (base := base) ?_
  rw [List.length_cons, List.map_cons, Nat.add_comm]
  exact h

theorem below_cons {w0 w w1 : World} {b : Bool} (hb : Below w0.heap.size w0 w) (hg : (w.alloc (.cells #[.bool b] 4)).grownBy w1 (Value.slice (some ⟨w.heap.size, 0, none⟩) 1 1).ownBlock) : Below w0.heap.size w0 w1 := by
  refine (hb.alloc hb.size _).grown hg ?_ ?_
  · have := hb.size
    simp
    omega
  · intro k hk
    have := hb.size
    have e : w.heap.size = k := by simpa [Value.ownBlock] using hk
    omega

theorem natOf_cons (b : Bool) (n : Nat) : natOf (b :: bitsOf n) = b.toNat + 2 * n := by rw [natOf, natOf_bitsOf]

theorem len_twice {n k c : Nat} (h : (bitsOf n).length ≤ k) (hc : c ≤ 1) : (bitsOf (c + 2 * n)).length ≤ k + 1 := by
  have h1 := natOf_lt (bitsOf n)
  rw [natOf_bitsOf] at h1
  have h2 := Nat.pow_le_pow_right (show 0 < 2 by decide) h
  exact bitsOf_length _ _ (by rw [Nat.pow_succ]; omega)

/-- What holds at the head of the loop of Mul. -/
def MulRel (a : Nat) (lb : List Bool) (w : World) (g : Nat) (v5 v6 : Value) (wr : World) : Prop := ∃ (k p : Nat) (z : Int), k ≤ lb.length ∧ g = k ∧ z = (k : Int) - 1 ∧ v6 = .int .i64 z ∧ p = a * natOf (lb.drop k) ∧ NumAt wr v5 (bitsOf p) ∧ Below w.heap.size w wr ∧ Fresh w.heap.size v5

theorem mul_round {a k : Nat} {lb : List Bool} {p : Nat} (hp : p = a * natOf (lb.drop (k + 1))) : a * natOf (lb.drop k) = 2 * p + (bitAt lb k).toNat * a := by
  rw [natOf_drop, hp, Nat.mul_add, Nat.mul_comm a (bitAt lb k).toNat, Nat.add_comm, ← Nat.mul_assoc, ← Nat.mul_assoc, Nat.mul_comm a 2]

theorem mul_small {a : Nat} {lb : List Bool} {k p : Nat} (hp : p = a * natOf (lb.drop k)) (n : Nat) (h : (bitsOf a).length + lb.length ≤ n) : (bitsOf p).length ≤ n - k ∧ (bitsOf p).length ≤ n := by
  have h1 := natOf_lt (bitsOf a)
  rw [natOf_bitsOf] at h1
  have h2 := natOf_lt (lb.drop k)
  rw [List.length_drop] at h2
  by_cases hk : k ≤ lb.length
  · have : p < 2 ^ (n - k) := by
      have e : 2 ^ ((bitsOf a).length + (lb.length - k)) ≤ 2 ^ (n - k) := Nat.pow_le_pow_right (by decide) (by omega)
      rw [Nat.pow_add] at e
      have := Nat.mul_lt_mul'' h1 h2
      omega
    have := bitsOf_length p (n - k) this
    omega
  · have : p = 0 := by rw [hp, List.drop_eq_nil_of_le (by omega)]; rfl
    rw [this, bitsOf_zero]; simp

end Go.Proofs.Ytkinbbhbencipaa

namespace Go.Proofs.Ytkinbbhbencipaa
open Go.RowKit

theorem NumAt.drewN {w : World} {v : Value} {l : List Bool} (h : NumAt w v l) (n : Nat) : NumAt (w.drewN n) v l := h
theorem Below.drewN_ {B : Nat} {a w : World} (h : Below B a w) (n : Nat) : Below B a (w.drewN n) := ⟨h.os, h.tape, h.output, h.size, h.block⟩

/-- Two numbers that a call answers, in a world where all that is older is as it was. -/
def TwoNew (w : World) (p q : Nat) (e : Ending) (w' : World) : Prop := ∃ v u, e = .returned (.tuple #[v, u]) ∧ NumAt w' v (bitsOf p) ∧ NumAt w' u (bitsOf q) ∧ Below w.heap.size w w' ∧ Fresh w.heap.size v ∧ Fresh w.heap.size u

/-- What holds at the head of the loop of Divide. -/
def DivRel (la : List Bool) (b : Nat) (w : World) (g : Nat) (v6 v7 v8 : Value) (wr : World) : Prop := ∃ (k p r : Nat) (z : Int) (l : List Bool), k ≤ la.length ∧ g = k ∧ z = (k : Int) - 1 ∧ v8 = .int .i64 z ∧
  p = natOf (la.drop k) ∧ r = p % b ∧ l.length + k = la.length ∧ natOf l = p / b ∧ NumAt wr v6 l ∧ NumAt wr v7 (bitsOf r) ∧ Below w.heap.size w wr ∧ Fresh w.heap.size v6 ∧ Fresh w.heap.size v7

theorem div_round {b p r c t q : Nat} (hb : 0 < b) (hr : r = p % b) (hq : q = p / b) (hc : c ≤ 1) (ht : t = c + 2 * r) :
    (t < b → (c + 2 * p) % b = t ∧ (c + 2 * p) / b = 2 * q) ∧ (b ≤ t → (c + 2 * p) % b = t - b ∧ (c + 2 * p) / b = 1 + 2 * q) := by
  have h1 := Nat.div_add_mod p b
  have h2 := Nat.mod_lt p hb
  have e : c + 2 * p = b * (2 * q) + t := by rw [ht, hq, hr, Nat.mul_left_comm]; omega
  refine ⟨fun h => ?_, fun h => ?_⟩
  · rw [e, Nat.mul_add_mod, Nat.mod_eq_of_lt h, Nat.mul_add_div hb, Nat.div_eq_of_lt h]; exact ⟨rfl, rfl⟩
  · have h3 : t - b < b := by omega
    rw [e, show b * (2 * q) + t = b * (1 + 2 * q) + (t - b) by rw [Nat.mul_add]; omega, Nat.mul_add_mod, Nat.mod_eq_of_lt h3, Nat.mul_add_div hb, Nat.div_eq_of_lt h3]; exact ⟨rfl, rfl⟩

theorem len_le {n m : Nat} (h : n ≤ m) : (bitsOf n).length ≤ (bitsOf m).length := by
  have h1 := natOf_lt (bitsOf m)
  rw [natOf_bitsOf] at h1
  exact bitsOf_length _ _ (by omega)

set_option maxHeartbeats 2000000 in
theorem div_num (w : World) (x y : Value) (a b : Nat) (hx : NumAt w x (bitsOf a)) (hy : NumAt w y (bitsOf b)) (ha : (bitsOf a).length ≤ 298) (hb : (bitsOf b).length ≤ 298) (hb0 : 0 < b) :
    Calls Try.prog 62 #[x, y] w (TwoNew w (a / b) (a % b)) := by
  obtain ⟨i0, hi, hz0, hz1, hz2⟩ := info_parts infoB
  have HY := Lib.hid hy
  have na : natOf (bitsOf a) = a := natOf_bitsOf a
  obtain ⟨A, d, rfl, k2, k3, k4⟩ := hx
  obtain ⟨B, e, rfl, _, _, _⟩ := hy
  obtain ⟨la, hla⟩ : ∃ la, la = bitsOf a := ⟨_, rfl⟩
  rw [← hla] at k2 k4 ha na ⊢
  obtain ⟨n, hn⟩ : ∃ n, n = la.length := ⟨_, rfl⟩
  obtain ⟨m, hm⟩ : ∃ m, m = (bitsOf b).length := ⟨_, rfl⟩
  rw [← hn] at k2 k4 ha ⊢
  rw [← hm] at HY hb ⊢
  have hm0 : 0 < m := by rw [hm, bitsOf_pos (by omega), List.length_cons]; omega
  have e0 : ((m : Int) == 0) = false := by simp; omega
  have HA := Lib.hid (And.intro na (And.intro hn (And.intro hm hb0)))
  have HL := Lib.hid (And.intro ha (And.intro hb hm0))
  clear k2 k3 na hla hn hm ha hb hb0 hm0
  go_enter Try.func62, Try.ntmps62
  go_wp2_with fail
  go_loopg [6, 7, 8, 9] n (fun g v6 v7 v8 v9 wr => DivRel la b w g v6 v7 v8 wr)
  case atStart =>
    have e2 := HL.out.1
    have hw : wrap64 ((n : Int) - 1) = (n : Int) - 1 := IntWalk.wrap64_in _ (by omega)
    have e := HA.out.2.1
    refine ⟨n, 0, 0, _, [], Nat.le_of_eq e, rfl, rfl, by first | rw [hw] | exact congrArg (Value.int .i64) hw, by rw [List.drop_eq_nil_of_le (Nat.le_of_eq e.symm)]; rfl, by simp, by simpa using e, by simp [natOf], NumAt.nil w, by rw [bitsOf_zero]; exact NumAt.nil w, Below.refl _ _, Fresh.none_ _ _ _, Fresh.none_ _ _ _⟩
  case round =>
    obtain ⟨k, p, r, z, l, hk, hg, hz, rfl, hp, hr, hl, hq, nq, nr, hbelow, fq, fr⟩ := hrel
    have HK := Lib.hid (And.intro hk (And.intro hg (And.intro hp (And.intro hr (And.intro hl hq)))))
    by_cases hk0 : k = 0
    · obtain rfl : z = -1 := by omega
      have hpa : p = a := by rw [hp, hk0, List.drop_zero, HA.out.1]
      have ht := trim_any wr _ l nq
      rw [hq, hpa] at ht
      rw [hr, hpa] at nr
      clear hk hg hz hp hk0 hr hl hq hpa
      go_wp2_with (go_at_call 79; (with_reducible refine ht.mono ?_); rintro e w' ⟨v', rfl, hv, rfl, ho⟩)
      exact bodyPost_ret (v := .tuple #[v', _]) (by simp [results, Try.results62, go_sem]) rfl ⟨_, _, rfl, hv, nr, hbelow, fq.of_eq ho, fr⟩
    · obtain ⟨j, rfl⟩ : ∃ j, k = j + 1 := ⟨k - 1, by omega⟩
      obtain rfl : z = (j : Int) := by omega
      have hjn : j < n := by have := HA.out.2.1; omega
      obtain ⟨bd, rfl, c2⟩ := NumAt.bit HA.out.2.1.symm k4 hjn
      have wj : IntKind.i64.wrap ((j : Int) - 1) = (j : Int) - 1 := IntWalk.i64_in _ (by have := HL.out; omega)
      have i1 : (j : Int) < (n : Int) := by omega
      have i2 : (0 : Int) ≤ (j : Int) := by omega
      have i3 : decide ((0 : Int) ≤ (j : Int)) = true := decide_eq_true i2
      have hdj := natOf_drop la j
      rw [← hp] at hdj
      obtain ⟨bt, hbt⟩ : ∃ bt, bt = bitAt la j := ⟨_, rfl⟩
      rw [← hbt] at hdj c2
      obtain ⟨t, ht⟩ : ∃ t, t = bt.toNat + 2 * r := ⟨_, rfl⟩
      have step := div_round HA.out.2.2.2 hr hq (toNat_le bt) ht
      rw [← hdj] at step
      have hr2 : (bitsOf r).length ≤ 298 := by
        have := Nat.mod_lt p HA.out.2.2.2
        have := len_le (n := r) (m := b) (by omega)
        have := HL.out; have := HA.out; omega
      have ht2 : (bitsOf t).length ≤ 299 := by rw [ht]; exact len_twice hr2 (toNat_le bt)
      have ST := Lib.hid step
      have c3 : wr.cell? (bd.add j) = some (.bool bt) := (hbelow.cell (p := bd.add j) (by obtain ⟨_, e, hb, _⟩ := k4.2 (by omega); injection e with e; subst e; rw [block_of_add]; exact hb)).trans c2
      have hl3 : l.length ≤ 298 := by have := HA.out.2.1; have := HL.out; omega
      obtain ⟨C, c, rfl, h2, h3, h4⟩ := nr
      obtain ⟨Q, qc, rfl, m2, m3, m4⟩ := nq
      have HJ := Lib.hid (And.intro hr2 (And.intro ht2 (And.intro hjn (And.intro ht hl3))))
      have hy1 := HY.out
      clear hk hg hz hp hk0 hr hl hq hdj hbt step c2 hr2 ht2 hjn ht hl3
      go_wp2_with (at_builtin; refine wpList_append_any _ rfl _ _ 69 rfl wr.heap.size 4 i0 (.bool false) 1 1 Try.underlying69 hi hz0 hz1 hz2 rfl (by decide) _ 1 [.bool bt] rfl (own_lit wr bt) wr.heap.size C _ c _ rfl (h4.alloc (Nat.le_refl _) _) ?c2 ?c3 ?c4 ?c5 ?_)
      case c2 =>
        intro u hu
        obtain ⟨q, _, rfl⟩ := List.mem_map.1 hu
        rfl
      case c3 => have := HJ.out; unfold maxLen; omega
      case c4 => have := HJ.out; omega
      case c5 => simp
      intro v' w1 hown' hgrow _
      have b1 := below_cons hbelow hgrow
      have bq : Below wr.heap.size wr w1 := below_cons (Below.refl _ _) hgrow
      have n1 := cons_own hown'
      have f1 := Fresh.mono (own_fresh hown') hbelow.size
      have m5 := (m4.below bq).more bq.size
      have hy2 : NumAt w1 (.slice B m e) (bitsOf b) := hy1.below b1
      have L1 := Lib.hid b1
      have ht := trim_any w1 v' _ n1
      rw [natOf_cons, ← HJ.out.2.2.2.1] at ht
      clear hown' hgrow hbelow n1 h4 b1 m4 c3 hy1
      have hlt := fun (u : Value) (hu : NumAt w1 u (bitsOf t)) => less_any w1 u (.slice B m e) t b hu hy2
      by_cases htb : t < b
      · have hd : decide (t < b) = true := decide_eq_true htb
        rw [hd] at hlt
        have S1 := Lib.hid (ST.out.1 htb)
        clear htb hd
        go_wp2_with (first
          | (go_at_call 79; (with_reducible refine ht.mono ?_); rintro e w' ⟨v'', rfl, hv, rfl, ho⟩)
          | (go_at_call 80; (with_reducible refine (hlt _ hv).mono ?_); rintro e w' ⟨rfl, q, rfl⟩)
          | (at_builtin; refine wpList_append_any _ rfl _ _ 69 rfl w1.heap.size 4 i0 (.bool false) 1 1 Try.underlying69 hi hz0 hz1 hz2 rfl (by decide) _ 1 [.bool false] rfl (own_lit (w1.drewN q) false) w1.heap.size Q _ qc _ rfl (m5.alloc (Nat.le_refl _) _) ?c2 ?c3 ?c4 ?c5 ?_))
        case c2 =>
          intro u hu
          obtain ⟨q, _, rfl⟩ := List.mem_map.1 hu
          rfl
        case c3 => have := HJ.out; unfold maxLen; omega
        case c4 => have := HJ.out; omega
        case c5 => simp
        intro v3 w3 hown' hgrow _
        have b3 := below_cons (w0 := w1) (Go.Proofs.Ytkinbbhbencipaa.Below.drewN_ (Below.refl _ _) q) hgrow
        have n3 := cons_own hown'
        have f3 := Fresh.mono (own_fresh hown') L1.out.size
        have hv3 := hv.below b3
        have b4 := L1.out.trans (b3.mono L1.out.size)
        clear hown' hgrow m5
        go_wp2_with fail
        go_roundg j
        case measure => have := HK.out; omega
        case rel =>
          have := HK.out
          exact ⟨j, _, _, _, false :: l, by omega, rfl, rfl, rfl, rfl, rfl, by rw [List.length_cons]; omega, by rw [natOf, S1.out.2]; simp, n3, by rw [S1.out.1]; exact hv3, b4, f3, f1.of_eq ho⟩
      · have hd : decide (t < b) = false := decide_eq_false htb
        rw [hd] at hlt
        have S1 := Lib.hid (ST.out.2 (by omega))
        have hsb := fun (u : Value) (q : Nat) (hu : NumAt w1 u (bitsOf t)) => sub_num (w1.drewN q) u (.slice B m e) t b (hu.drewN q) (hy2.drewN q) (by have := HJ.out; omega) (by have := HL.out; have := HA.out; omega) (by omega)
        clear htb hd
        go_wp2_with (first
          | (go_at_call 79; (with_reducible refine ht.mono ?_); rintro e w' ⟨v'', rfl, hv, rfl, ho⟩)
          | (go_at_call 80; (with_reducible refine (hlt _ hv).mono ?_); rintro e w' ⟨rfl, q, rfl⟩)
          | (go_at_call 81; (with_reducible refine (hsb _ q hv).mono ?_); rintro e w2 ⟨v2, rfl, hv2, bs, fs⟩; have m6 := (m5.drewN q |>.below bs).more bs.size)
          | (at_builtin; refine wpList_append_any _ rfl _ _ 69 rfl w2.heap.size 4 i0 (.bool false) 1 1 Try.underlying69 hi hz0 hz1 hz2 rfl (by decide) _ 1 [.bool true] rfl (own_lit w2 true) w2.heap.size Q _ qc _ rfl (m6.alloc (Nat.le_refl _) _) ?c2 ?c3 ?c4 ?c5 ?_))
        case c2 =>
          intro u hu
          obtain ⟨q, _, rfl⟩ := List.mem_map.1 hu
          rfl
        case c3 => have := HJ.out; unfold maxLen; omega
        case c4 => have := HJ.out; omega
        case c5 => simp
        intro v3 w3 hown' hgrow _
        have b3 := below_cons (w0 := w2) (Below.refl _ _) hgrow
        have n3 := cons_own hown'
        have f3 := Fresh.mono (own_fresh hown') (Nat.le_trans L1.out.size bs.size)
        have hv3 := hv2.below b3
        have b5 : Below w1.heap.size w1 w2 := ⟨bs.os, bs.tape, bs.output, bs.size, bs.block⟩
        have b4 := L1.out.trans ((b5.trans (b3.mono b5.size)).mono L1.out.size)
        clear hown' hgrow m5 m6
        go_wp2_with fail
        go_roundg j
        case measure => have := HK.out; omega
        case rel =>
          have := HK.out
          exact ⟨j, _, _, _, true :: l, by omega, rfl, rfl, rfl, rfl, rfl, by rw [List.length_cons]; omega, by rw [natOf, S1.out.2]; simp, n3, by rw [S1.out.1]; exact hv3, b4, f3, fs.mono L1.out.size⟩
end Go.Proofs.Ytkinbbhbencipaa

namespace Go.Proofs.Ytkinbbhbencipaa
open Go.RowKit

theorem lt_of_len {n k : Nat} (h : (bitsOf n).length ≤ k) : n < 2 ^ k := by
  have h1 := natOf_lt (bitsOf n)
  rw [natOf_bitsOf] at h1
  have h2 := Nat.pow_le_pow_right (show 0 < 2 by decide) h
  omega

/-- A number that a call answers, in memory from B on, in a world where all that is older is as it was. -/
def NumFrom (B : Nat) (w : World) (l : List Bool) (e : Ending) (w' : World) : Prop := ∃ v', e = .returned v' ∧ NumAt w' v' l ∧ Below w.heap.size w w' ∧ Fresh B v'

/-- What holds at the head of the loop of Common. -/
def ComRel (B a b : Nat) (w : World) (g : Nat) (v0 v1 : Value) (wr : World) : Prop := ∃ p q : Nat, g = q ∧ (bitsOf p).length ≤ 298 ∧ (bitsOf q).length ≤ 298 ∧ Nat.gcd p q = Nat.gcd a b ∧
  NumAt wr v0 (bitsOf p) ∧ NumAt wr v1 (bitsOf q) ∧ Below w.heap.size w wr ∧ Fresh B v0 ∧ Fresh B v1

set_option maxHeartbeats 2000000 in
theorem common_num (w : World) (x y : Value) (a b : Nat) (hx : NumAt w x (bitsOf a)) (hy : NumAt w y (bitsOf b)) (ha : (bitsOf a).length ≤ 298) (hb : (bitsOf b).length ≤ 298) (B : Nat) (hB : B ≤ w.heap.size) (fx : Fresh B x) (fy : Fresh B y) :
    Calls Try.prog 61 #[x, y] w (NumFrom B w (bitsOf (Nat.gcd a b))) := by
  have HX := Lib.hid (And.intro hx (And.intro hy (And.intro ha hb)))
  have FX := Lib.hid (And.intro hB (And.intro fx fy))
  clear hx hy ha hb hB fx fy
  go_enter Try.func61, Try.ntmps61
  go_wp2_with fail
  go_loopg [0, 1, 5, 6] b (fun g v0 v1 v5 v6 wr => ComRel B a b w g v0 v1 wr)
  case atStart => exact ⟨a, b, rfl, HX.out.2.2.1, HX.out.2.2.2, rfl, HX.out.1, HX.out.2.1, Below.refl _ _, FX.out.2⟩
  case round =>
    obtain ⟨p, q, hg, hp, hq, hgcd, n0, n1, hbelow, f0, f1⟩ := hrel
    by_cases hq0 : q = 0
    · subst hq0
      have hfin : p = Nat.gcd a b := by rw [← hgcd, Nat.gcd_zero_right]
      rw [bitsOf_zero] at n1
      rw [hfin] at n0
      obtain ⟨A, d, rfl, _, _, _⟩ := n1
      clear hg hp hq hgcd hfin
      go_wp2_with fail
      go_ret
      exact ⟨_, rfl, n0, hbelow, f0⟩
    · have hd := div_num _ _ _ p q n0 n1 hp hq (by omega)
      have hg2 : Nat.gcd q (p % q) = Nat.gcd a b := by rw [← hgcd, Nat.gcd_comm p q, Nat.gcd_rec q p, Nat.gcd_comm]
      have hr := len_le (n := p % q) (m := q) (Nat.le_of_lt (Nat.mod_lt _ (by omega)))
      have hlt := Nat.mod_lt p (show 0 < q by omega)
      have hl0 : (0 : Int) < ((bitsOf q).length : Int) := by rw [bitsOf_pos hq0, List.length_cons]; omega
      have HH := Lib.hid (And.intro hg (And.intro hq (And.intro hg2 (And.intro hr hlt))))
      have HN := Lib.hid (And.intro n1 f1)
      obtain ⟨A, d, rfl, _, _, _⟩ := n1
      have HL := Lib.hid hbelow
      clear hg hp hq hgcd hg2 hr hlt hq0 hbelow
      generalize hm : (bitsOf q).length = m at *
      go_wp2_with (go_at_call 62; (with_reducible refine hd.mono ?_); rintro e w' ⟨v', u', rfl, hv, hu, hb, fq, fr⟩)
      go_roundg (p % q)
      case measure => have := HH.out; omega
      case rel =>
        have := HH.out
        exact ⟨q, p % q, rfl, by omega, by omega, HH.out.2.2.1, HN.out.1.below hb, hu, HL.out.trans (hb.mono HL.out.size), HN.out.2, fr.mono (Nat.le_trans FX.out.1 HL.out.size)⟩

/-- What holds at the head of the loop of Value. -/
def ValRel (l : List Bool) (w : World) (g : Nat) (v4 v5 : Value) (wr : World) : Prop := ∃ (k p : Nat) (z : Int), k ≤ l.length ∧ g = k ∧ z = (k : Int) - 1 ∧ v5 = .int .i64 z ∧ v4 = .int .i64 p ∧ p = natOf (l.drop k) ∧ w = wr

theorem natOf_drop_lt (l : List Bool) (k : Nat) (h : l.length ≤ 63) : natOf (l.drop k) < 9223372036854775808 := by
  have h1 := natOf_lt (l.drop k)
  have h2 := Nat.pow_le_pow_right (show 0 < 2 by decide) (show (l.drop k).length ≤ 63 by rw [List.length_drop]; omega)
  have h3 : (2 : Nat) ^ 63 = 9223372036854775808 := by decide
  omega

/-- What Value answers. -/
def valV (a : Nat) : Value := if a < 9223372036854775808 then .tuple #[.int .i64 a, .bool true] else .tuple #[.int .i64 0, .bool false]

set_option maxHeartbeats 2000000 in
theorem value_num (w : World) (x : Value) (a : Nat) (hx : NumAt w x (bitsOf a)) (ha : (bitsOf a).length ≤ 298) :
    Calls Try.prog 63 #[x] w fun e w' => e = .returned (valV a) ∧ w = w' := by
  have na : natOf (bitsOf a) = a := natOf_bitsOf a
  obtain ⟨A, d, rfl, h2, h3, h4⟩ := hx
  obtain ⟨l, hl⟩ : ∃ l, l = bitsOf a := ⟨_, rfl⟩
  rw [← hl] at h2 h4 ha na ⊢
  obtain ⟨n, hn⟩ : ∃ n, n = l.length := ⟨_, rfl⟩
  rw [← hn] at h2 h4 ha ⊢
  by_cases h63 : n ≤ 63
  · have hva : valV a = .tuple #[.int .i64 a, .bool true] := by
      have := natOf_drop_lt l 0 (by omega)
      rw [List.drop_zero, na] at this
      exact if_pos this
    rw [hva]
    have HA := Lib.hid (And.intro na (And.intro hn h63))
    have hle : ¬ ((n : Int) > 63) := by omega
    have hd : decide ((63 : Int) < (n : Int)) = false := decide_eq_false (by omega)
    clear na hl hn h2 h3 ha hva
    go_enter Try.func63, Try.ntmps63
    go_wp2_with fail
    go_loopg [4, 5] n (fun g v4 v5 wr => ValRel l w g v4 v5 wr)
    case atStart => exact ⟨n, 0, _, by rw [HA.out.2.1]; exact Nat.le_refl _, rfl, rfl, by go_num, rfl, by rw [List.drop_eq_nil_of_le (Nat.le_of_eq HA.out.2.1.symm)]; rfl, rfl⟩
    case round =>
      obtain ⟨k, p, z, hk, hg, hz, rfl, rfl, hp, rfl⟩ := hrel
      by_cases hk0 : k = 0
      · obtain rfl : z = -1 := by omega
        obtain rfl : p = a := by rw [hp, hk0, List.drop_zero, HA.out.1]
        clear hk hg hz hp hk0
        go_wp2_with fail
        exact bodyPost_ret (v := .tuple #[.int .i64 p, .bool true]) (by simp [results, Try.results63, go_sem]) rfl ⟨rfl, rfl⟩
      · obtain ⟨j, rfl⟩ : ∃ j, k = j + 1 := ⟨k - 1, by omega⟩
        obtain rfl : z = (j : Int) := by omega
        have hjn : j < n := by have := HA.out.2.1; omega
        obtain ⟨bd, rfl, c2⟩ := NumAt.bit HA.out.2.1.symm h4 hjn
        have wj : IntKind.i64.wrap ((j : Int) - 1) = (j : Int) - 1 := IntWalk.i64_in _ (by omega)
        have i1 : (j : Int) < (n : Int) := by omega
        have i2 : (0 : Int) ≤ (j : Int) := by omega
        have i3 : decide ((0 : Int) ≤ (j : Int)) = true := decide_eq_true i2
        have hdj := natOf_drop l j
        have hlt := natOf_drop_lt l j (by have := HA.out; omega)
        rw [← hp] at hdj
        obtain ⟨bt, hbt⟩ : ∃ bt, bt = bitAt l j := ⟨_, rfl⟩
        rw [← hbt] at hdj c2
        have HJ := Lib.hid (And.intro hdj (And.intro hg hk))
        rw [hdj] at hlt
        have w1 : IntKind.i64.wrap (2 * (p : Int)) = ((2 * p : Nat) : Int) := by rw [IntWalk.i64_in _ (by omega)]; omega
        clear hdj hbt hg hk hk0 hz hp
        cases bt
        · clear hlt
          go_wp2_with fail
          go_roundg j
          case measure => have := HJ.out; omega
          case rel => exact ⟨j, 2 * p, _, by have := HJ.out; omega, rfl, rfl, rfl, rfl, by rw [HJ.out.1]; simp, rfl⟩
        · have w2 : wrap64 (2 * (p : Int) + 1) = ((1 + 2 * p : Nat) : Int) := by
            rw [Bool.toNat_true] at hlt
            rw [IntWalk.wrap64_in _ (by omega)]; omega
          clear hlt
          go_wp2_with fail
          go_roundg j
          case measure => have := HJ.out; omega
          case rel => exact ⟨j, 1 + 2 * p, _, by have := HJ.out; omega, rfl, rfl, rfl, by rw [w2], by rw [HJ.out.1]; simp, rfl⟩
  · have hva : valV a = .tuple #[.int .i64 0, .bool false] := by
      refine if_neg fun h => ?_
      have := bitsOf_length a 63 (by have h3 : (2 : Nat) ^ 63 = 9223372036854775808 := by decide
                                     omega)
      rw [← hl] at this
      omega
    rw [hva]
    have hd : decide ((63 : Int) < (n : Int)) = true := decide_eq_true (by omega)
    clear na hl hn h2 h3 ha hva h63
    go_enter Try.func63, Try.ntmps63
    go_wp2_with fail
    exact bodyPost_ret (v := .tuple #[.int .i64 0, .bool false]) (by simp [results, Try.results63, go_sem]) rfl ⟨rfl, rfl⟩

theorem len_64 {n : Nat} (h : n < 18446744073709551616) : (bitsOf n).length ≤ 64 := bitsOf_length n 64 h

set_option maxHeartbeats 1000000 in
theorem rsize_any (n : Int) (w : World) (h1 : -9223372036854775808 ≤ n) (h2 : n ≤ 9223372036854775807) :
    Calls Try.prog 29 #[.int .i64 n] w (NumNew w (bitsOf n.natAbs)) := by
  by_cases h : n < 0
  · obtain ⟨m, hm⟩ : ∃ m : Nat, n = -(m : Int) - 1 := ⟨(-(n + 1)).toNat, by omega⟩
    have hm2 : m < 9223372036854775808 := by omega
    have ha : n.natAbs = m + 1 := by omega
    rw [ha]
    subst hm
    have w1 : wrap64 (-(m : Int)) = -(m : Int) := IntWalk.wrap64_in _ (by omega)
    have w2 : wrap64 (m : Int) = (m : Int) := IntWalk.wrap64_in _ (by omega)
    have w3 : IntKind.u64.wrap (m : Int) = (m : Int) := by rw [IntWalk.u64_in _ (by omega)]
    have hd : decide (-(m : Int) - 1 < 0) = true := decide_eq_true (by omega)
    have o1 := of_any m w (by omega)
    have o2 : ∀ w', Calls Try.prog 65 #[.int .u64 1] w' (NumNew w' (bitsOf 1)) := fun w' => of_any 1 w' (by decide)
    have hl : (bitsOf m).length ≤ 64 ∧ (bitsOf 1).length ≤ 64 := ⟨len_64 (by omega), len_64 (by decide)⟩
    clear h1 h2 h ha hm2
    go_enter Try.func29, Try.ntmps29
    go_wp2_with (first
      | (go_at_call 65; (with_reducible refine o1.mono ?_); rintro e wa ⟨va, rfl, hva, hba, _⟩; have o3 := o2 wa; clear o1)
      | (go_at_call 65; (with_reducible refine o3.mono ?_); rintro e wb ⟨vb, rfl, hvb, hbb, _⟩; have o4 := add_num wb va vb m 1 (hva.below hbb) hvb (by have := hl; omega) (by have := hl; omega))
      | (go_at_call 64; (with_reducible refine o4.mono ?_); rintro e wc ⟨vc, rfl, hvc, hbc, hfc⟩))
    go_ret
    exact ⟨_, rfl, hvc, hba.trans ((hbb.trans (hbc.mono hbb.size)).mono hba.size), hfc.mono (Nat.le_trans hba.size hbb.size)⟩
  · obtain ⟨m, rfl⟩ : ∃ m : Nat, n = (m : Int) := ⟨n.toNat, by omega⟩
    have hm2 : m < 9223372036854775808 := by omega
    rw [Int.natAbs_natCast]
    have w3 : IntKind.u64.wrap (m : Int) = (m : Int) := by rw [IntWalk.u64_in _ (by omega)]
    have hd : decide ((m : Int) < 0) = false := decide_eq_false (by omega)
    have o1 := of_any m w (by omega)
    clear h1 h2 h hm2
    go_enter Try.func29, Try.ntmps29
    go_wp2_with (go_at_call 65; (with_reducible refine o1.mono ?_); rintro e w' ⟨v', rfl, hv, hb, hf⟩)
    go_ret
    exact ⟨_, rfl, hv, hb, hf⟩
end Go.Proofs.Ytkinbbhbencipaa

namespace Go.Proofs.Ytkinbbhbencipaa
open Go.RowKit

/-- A fraction of long numbers, in memory from B on. -/
def FracAt (w : World) (B : Nat) (v : Value) (N D : Nat) (m : Bool) : Prop := ∃ vn vd, v = .agg #[vn, vd, .bool m] ∧ NumAt w vn (bitsOf N) ∧ NumAt w vd (bitsOf D) ∧ Fresh B vn ∧ Fresh B vd

theorem FracAt.below {w w' : World} {B : Nat} {v : Value} {N D : Nat} {m : Bool} (h : FracAt w B v N D m) (hb : Below w.heap.size w w') : FracAt w' B v N D m := by
  obtain ⟨a, b, h1, h2, h3, h4⟩ := h
  exact ⟨a, b, h1, h2.below hb, h3.below hb, h4⟩

/-- A fraction that a call answers, in its own memory, in a world where all that is older is as it was. -/
def FracNew (w : World) (N D : Nat) (m : Bool) (e : Ending) (w' : World) : Prop := ∃ v, e = .returned v ∧ FracAt w' w.heap.size v N D m ∧ Below w.heap.size w w'

theorem NumAt.drew {w : World} {v : Value} {l : List Bool} (h : NumAt w v l) : NumAt w.drew v l := h

/-- A store ahead of the number's memory. -/
theorem NumAt.setCell {w : World} {B : Nat} {v : Value} {l : List Bool} (h : NumAt w v l) (f : Fresh B v) {p : Addr} (hp : p.block < B) (x : Value) : NumAt (w.setCell p x) v l := by
  obtain ⟨A, c, rfl, h2, h3, h4⟩ := h
  refine ⟨A, c, rfl, h2, h3, h4.1, fun hn => ?_⟩
  obtain ⟨ad, rfl, hb, hc⟩ := h4.2 hn
  have := f ad.block rfl
  refine ⟨ad, rfl, by rw [World.size_setCell]; exact hb, fun j u hu => ?_⟩
  rw [World.cell?_setCell_other _ _ _ _ (fun e => by have := congrArg Addr.block e; rw [block_of_add] at this; omega)]
  exact hc j u hu

/-- The result lies in its place behind three stores. -/
theorem three_result {w w1 f : World} {b : Nat} {x y z : Value} {A B F : Prop} (hf : f = ((w1.setCell ⟨b, 0, none⟩ x).setCell ⟨b, 1, none⟩ y).setCell ⟨b, 2, none⟩ z)
    (h : A ∧ B ∧ Below w.heap.size w f ∧ (f.cell? ⟨b, 0, none⟩ = some (cellD f ⟨b, 0, none⟩) ∧ f.cell? ⟨b, 1, none⟩ = some (cellD f ⟨b, 1, none⟩) ∧ f.cell? ⟨b, 2, none⟩ = some (cellD f ⟨b, 2, none⟩)) ∧ F) :
    f.cell? ⟨b, 0, none⟩ = some x ∧ f.cell? ⟨b, 1, none⟩ = some y ∧ f.cell? ⟨b, 2, none⟩ = some z ∧ Below w.heap.size w f := by
  obtain ⟨_, _, k, ⟨i0, i1, i2⟩, _⟩ := h
  subst hf
  obtain ⟨e0, e1, e2⟩ := three_set i0 i1 i2
  exact ⟨i0.trans (congrArg some e0), i1.trans (congrArg some e1), i2.trans (congrArg some e2), k⟩

theorem keep_from {w w1 w2 : World} {x0 x1 : Value} (hb : Below w1.heap.size w1 w2)
    (h : (w1.cell? ⟨w.heap.size, 0, none⟩ = some x0 ∧ w1.cell? ⟨w.heap.size, 1, none⟩ = some x1) ∧ w.heap.size + 1 < w1.heap.size ∧ Below w.heap.size w w1 ∧ (w1.cell? ⟨w.heap.size + 1, 0, none⟩ = some (cellD w1 ⟨w.heap.size + 1, 0, none⟩) ∧ w1.cell? ⟨w.heap.size + 1, 1, none⟩ = some (cellD w1 ⟨w.heap.size + 1, 1, none⟩) ∧ w1.cell? ⟨w.heap.size + 1, 2, none⟩ = some (cellD w1 ⟨w.heap.size + 1, 2, none⟩)) ∧ (w1.frozen? ⟨w.heap.size + 1, 0, none⟩ = false ∧ w1.frozen? ⟨w.heap.size + 1, 1, none⟩ = false ∧ w1.frozen? ⟨w.heap.size + 1, 2, none⟩ = false)) :
    (w2.cell? ⟨w.heap.size, 0, none⟩ = some x0 ∧ w2.cell? ⟨w.heap.size, 1, none⟩ = some x1) ∧ w.heap.size + 1 < w2.heap.size ∧ Below w.heap.size w w2 ∧ (w2.cell? ⟨w.heap.size + 1, 0, none⟩ = some (cellD w2 ⟨w.heap.size + 1, 0, none⟩) ∧ w2.cell? ⟨w.heap.size + 1, 1, none⟩ = some (cellD w2 ⟨w.heap.size + 1, 1, none⟩) ∧ w2.cell? ⟨w.heap.size + 1, 2, none⟩ = some (cellD w2 ⟨w.heap.size + 1, 2, none⟩)) ∧ (w2.frozen? ⟨w.heap.size + 1, 0, none⟩ = false ∧ w2.frozen? ⟨w.heap.size + 1, 1, none⟩ = false ∧ w2.frozen? ⟨w.heap.size + 1, 2, none⟩ = false) := by
  obtain ⟨⟨a0, a1⟩, g, k, ⟨i0, i1, i2⟩, ⟨j0, j1, j2⟩⟩ := h
  have hs := hb.size
  exact ⟨⟨keep_cell hb (by omega) a0, keep_cell hb (by omega) a1⟩, by omega, k.trans (hb.mono k.size), ⟨cellD_of (keep_cell hb (by omega) i0), cellD_of (keep_cell hb (by omega) i1), cellD_of (keep_cell hb (by omega) i2)⟩, ⟨keep_free hb (by omega) j0, keep_free hb (by omega) j1, keep_free hb (by omega) j2⟩⟩

theorem set_from1 {w w1 : World} {x0 x1 : Value} {o : Nat} {x : Value}
    (h : (w1.cell? ⟨w.heap.size, 0, none⟩ = some x0 ∧ w1.cell? ⟨w.heap.size, 1, none⟩ = some x1) ∧ w.heap.size + 1 < w1.heap.size ∧ Below w.heap.size w w1 ∧ (w1.cell? ⟨w.heap.size + 1, 0, none⟩ = some (cellD w1 ⟨w.heap.size + 1, 0, none⟩) ∧ w1.cell? ⟨w.heap.size + 1, 1, none⟩ = some (cellD w1 ⟨w.heap.size + 1, 1, none⟩) ∧ w1.cell? ⟨w.heap.size + 1, 2, none⟩ = some (cellD w1 ⟨w.heap.size + 1, 2, none⟩)) ∧ (w1.frozen? ⟨w.heap.size + 1, 0, none⟩ = false ∧ w1.frozen? ⟨w.heap.size + 1, 1, none⟩ = false ∧ w1.frozen? ⟨w.heap.size + 1, 2, none⟩ = false)) :
    ((w1.setCell ⟨w.heap.size + 1, o, none⟩ x).cell? ⟨w.heap.size, 0, none⟩ = some x0 ∧ (w1.setCell ⟨w.heap.size + 1, o, none⟩ x).cell? ⟨w.heap.size, 1, none⟩ = some x1) ∧ w.heap.size + 1 < (w1.setCell ⟨w.heap.size + 1, o, none⟩ x).heap.size ∧ Below w.heap.size w (w1.setCell ⟨w.heap.size + 1, o, none⟩ x) ∧ ((w1.setCell ⟨w.heap.size + 1, o, none⟩ x).cell? ⟨w.heap.size + 1, 0, none⟩ = some (cellD (w1.setCell ⟨w.heap.size + 1, o, none⟩ x) ⟨w.heap.size + 1, 0, none⟩) ∧ (w1.setCell ⟨w.heap.size + 1, o, none⟩ x).cell? ⟨w.heap.size + 1, 1, none⟩ = some (cellD (w1.setCell ⟨w.heap.size + 1, o, none⟩ x) ⟨w.heap.size + 1, 1, none⟩) ∧ (w1.setCell ⟨w.heap.size + 1, o, none⟩ x).cell? ⟨w.heap.size + 1, 2, none⟩ = some (cellD (w1.setCell ⟨w.heap.size + 1, o, none⟩ x) ⟨w.heap.size + 1, 2, none⟩)) ∧ ((w1.setCell ⟨w.heap.size + 1, o, none⟩ x).frozen? ⟨w.heap.size + 1, 0, none⟩ = false ∧ (w1.setCell ⟨w.heap.size + 1, o, none⟩ x).frozen? ⟨w.heap.size + 1, 1, none⟩ = false ∧ (w1.setCell ⟨w.heap.size + 1, o, none⟩ x).frozen? ⟨w.heap.size + 1, 2, none⟩ = false) := by
  obtain ⟨⟨a0, a1⟩, g, k, ⟨i0, i1, i2⟩, ⟨j0, j1, j2⟩⟩ := h
  have q : ∀ b o', b ≠ w.heap.size + 1 → (w1.setCell ⟨w.heap.size + 1, o, none⟩ x).cell? ⟨b, o', none⟩ = w1.cell? ⟨b, o', none⟩ := fun b o' hb => World.cell?_setCell_other _ _ _ _ (by intro e; injection e with e; exact hb e.symm)
  exact ⟨⟨(q _ _ (by omega)).trans a0, (q _ _ (by omega)).trans a1⟩, by rw [World.size_setCell]; exact g, k.setCell (by show w.heap.size ≤ w.heap.size + 1; omega) _, ⟨cellD_set i0, cellD_set i1, cellD_set i2⟩, ⟨by rw [World.frozen?_setCell]; exact j0, by rw [World.frozen?_setCell]; exact j1, by rw [World.frozen?_setCell]; exact j2⟩⟩

end Go.Proofs.Ytkinbbhbencipaa

namespace Go.Proofs.Ytkinbbhbencipaa
open Go.RowKit

/-- The block of the parameter and that of the result. -/
structure BoxF (w w1 : World) (x y z : Value) : Prop where
  c0 : w1.cell? ⟨w.heap.size, 0, none⟩ = some x
  c1 : w1.cell? ⟨w.heap.size, 1, none⟩ = some y
  c2 : w1.cell? ⟨w.heap.size, 2, none⟩ = some z
  i0 : w1.cell? ⟨w.heap.size + 1, 0, none⟩ = some (.int .i64 0)
  i1 : w1.cell? ⟨w.heap.size + 1, 1, none⟩ = some (.int .i64 0)
  j0 : w1.frozen? ⟨w.heap.size + 1, 0, none⟩ = false
  j1 : w1.frozen? ⟨w.heap.size + 1, 1, none⟩ = false
  size : w.heap.size + 1 < w1.heap.size
  below : Below w.heap.size w w1

theorem BoxF.start (w : World) (A : Option Addr) (n c : Nat) (B : Option Addr) (m d : Nat) (s : Bool) (ty ty' : TypeId) : BoxF w ((w.alloc (.cells #[.slice A n c, .slice B m d, .bool s] ty)).alloc (.cells #[.int .i64 0, .int .i64 0] ty')) (.slice A n c) (.slice B m d) (.bool s) where
  c0 := by go_simp
  c1 := by go_simp
  c2 := by go_simp
  i0 := by go_simp
  i1 := by go_simp
  j0 := by go_simp
  j1 := by go_simp
  size := by simp
  below := below_alloc2 _ _ _

theorem BoxF.keep {w w1 w2 : World} {x y z : Value} (h : BoxF w w1 x y z) (hb : Below w1.heap.size w1 w2) : BoxF w w2 x y z :=
  have s := h.size
  have t := hb.size
  { c0 := keep_cell hb (by omega) h.c0, c1 := keep_cell hb (by omega) h.c1, c2 := keep_cell hb (by omega) h.c2
    i0 := keep_cell hb (by omega) h.i0, i1 := keep_cell hb (by omega) h.i1, j0 := keep_free hb (by omega) h.j0, j1 := keep_free hb (by omega) h.j1
    size := by omega, below := h.below.trans (hb.mono (by omega)) }

theorem Fresh.any (v : Value) : Fresh 0 v := fun _ _ => Nat.zero_le _

/-- What To answers. -/
def toV (N D : Nat) (m : Bool) : Value := .tuple #[ratV (fitN m (N / Nat.gcd N D) (D / Nat.gcd N D)) (fitD (N / Nat.gcd N D) (D / Nat.gcd N D)), .int .i64 (fitE (N / Nat.gcd N D) (D / Nat.gcd N D))]

set_option maxHeartbeats 4000000 in
theorem to_num (w : World) (B : Nat) (v : Value) (N D : Nat) (m : Bool) (h : FracAt w B v N D m) (hN : (bitsOf N).length ≤ 298) (hD : (bitsOf D).length ≤ 298) (hD0 : 0 < D) :
    Calls Try.prog 28 #[v] w fun e w' => e = .returned (toV N D m) ∧ Below w.heap.size w w' := by
  obtain ⟨vn, vd, rfl, hn, hd, _, _⟩ := h
  have hn' := hn
  have hd' := hd
  obtain ⟨A, c, rfl, _, _, _⟩ := hn'
  obtain ⟨E, d, rfl, _, _, _⟩ := hd'
  have BX := BoxF.start w A (bitsOf N).length c E (bitsOf D).length d m 72 25
  have hg0 : 0 < Nat.gcd N D := Nat.gcd_pos_of_pos_right _ hD0
  have hgl : (bitsOf (Nat.gcd N D)).length ≤ 298 := Nat.le_trans (len_le (Nat.le_of_dvd hD0 (Nat.gcd_dvd_right N D))) hD
  have hal : (bitsOf (N / Nat.gcd N D)).length ≤ 298 := Nat.le_trans (len_le (Nat.div_le_self _ _)) hN
  have hbl : (bitsOf (D / Nat.gcd N D)).length ≤ 298 := Nat.le_trans (len_le (Nat.div_le_self _ _)) hD
  have cm := fun (w1 : World) (hb : Below w.heap.size w w1) => common_num w1 _ _ N D (hn.below hb) (hd.below hb) hN hD 0 (Nat.zero_le _) (Fresh.any _) (Fresh.any _)
  have d1 := fun (w1 : World) (g : Value) (hb : Below w.heap.size w w1) (hg : NumAt w1 g (bitsOf (Nat.gcd N D))) => div_num w1 _ _ N (Nat.gcd N D) (hn.below hb) hg hN hgl hg0
  have d2 := fun (w1 : World) (g : Value) (hb : Below w.heap.size w w1) (hg : NumAt w1 g (bitsOf (Nat.gcd N D))) => div_num w1 _ _ D (Nat.gcd N D) (hd.below hb) hg hD hgl hg0
  have v1 := fun (w1 : World) (g : Value) (hg : NumAt w1 g (bitsOf (N / Nat.gcd N D))) => value_num w1 g _ hg hal
  have v2 := fun (w1 : World) (g : Value) (hg : NumAt w1 g (bitsOf (D / Nat.gcd N D))) => value_num w1 g _ hg hbl
  unfold toV
  generalize N / Nat.gcd N D = P at *
  generalize D / Nat.gcd N D = Q at *
  clear hn hd hN hD hD0 hg0 hgl hal hbl
  by_cases hP : P < 9223372036854775808
  · by_cases hQ : Q < 9223372036854775808
    · have e1 : valV P = .tuple #[.int .i64 P, .bool true] := if_pos hP
      have e2 : valV Q = .tuple #[.int .i64 Q, .bool true] := if_pos hQ
      have hPQ : P ≤ 9223372036854775807 ∧ Q ≤ 9223372036854775807 := ⟨by omega, by omega⟩
      have f1 : fitN m P Q = (if m then -(P : Int) else P) := if_pos hPQ
      have f2 : fitD P Q = Q := if_pos hPQ
      have f3 : fitE P Q = 0 := if_pos hPQ
      rw [e1] at v1
      rw [e2] at v2
      rw [f1, f2, f3]
      clear hPQ f1 f2 f3 e1 e2
      cases m
      · go_enter Try.func28, Try.ntmps28
        go_upto_region 1 with fail
        have k1 := cm _ BX.below
        obtain ⟨c0, c1, c2, i0, i1, j0, j1, _, _⟩ := id BX
        go_wp2_with (first
          | (go_at_call 61; (with_reducible refine k1.mono ?_); rintro e w1 ⟨g, rfl, hg, hb, _⟩; have BX := BX.keep hb; clear hb; obtain ⟨c0, c1, c2, i0, i1, j0, j1, _, _⟩ := id BX; have k2 := d1 w1 g BX.below hg)
          | (go_at_call 62; (with_reducible refine k2.mono ?_); rintro e w2 ⟨q1, r1, rfl, hq1, hr1, hb, _⟩; have BX := BX.keep hb; have hg := hg.below hb; clear k2; obtain ⟨c0, c1, c2, i0, i1, j0, j1, _, _⟩ := id BX; have k3 := d2 w2 g BX.below hg)
          | (go_at_call 62; (with_reducible refine k3.mono ?_); rintro e w3 ⟨q2, r2, rfl, hq2, hr2, hb, _⟩; have BX := BX.keep hb; have hq1 := hq1.below hb; clear k3; obtain ⟨c0, c1, c2, i0, i1, j0, j1, _, _⟩ := id BX; have k4 := v1 w3 q1 hq1; have k5 := v2 w3 q2 hq2)
          | (go_at_call 63; (with_reducible refine k4.mono ?_); rintro e w4 ⟨rfl, rfl⟩)
          | (go_at_call 63; (with_reducible refine k5.mono ?_); rintro e w4 ⟨rfl, rfl⟩))
        exact bodyPost_ret (v := .tuple #[ratV (P : Int) (Q : Int), .int .i64 0]) (by simp [results, Try.results28, go_sem, i0, i1]) rfl ⟨rfl, (BX.below.setCell (by show w.heap.size ≤ w.heap.size + 1; omega) _).setCell (by show w.heap.size ≤ w.heap.size + 1; omega) _⟩
      · go_enter Try.func28, Try.ntmps28
        go_upto_region 1 with fail
        have k1 := cm _ BX.below
        obtain ⟨c0, c1, c2, i0, i1, j0, j1, _, _⟩ := id BX
        go_wp2_with (first
          | (go_at_call 61; (with_reducible refine k1.mono ?_); rintro e w1 ⟨g, rfl, hg, hb, _⟩; have BX := BX.keep hb; clear hb; obtain ⟨c0, c1, c2, i0, i1, j0, j1, _, _⟩ := id BX; have k2 := d1 w1 g BX.below hg)
          | (go_at_call 62; (with_reducible refine k2.mono ?_); rintro e w2 ⟨q1, r1, rfl, hq1, hr1, hb, _⟩; have BX := BX.keep hb; have hg := hg.below hb; clear k2; obtain ⟨c0, c1, c2, i0, i1, j0, j1, _, _⟩ := id BX; have k3 := d2 w2 g BX.below hg)
          | (go_at_call 62; (with_reducible refine k3.mono ?_); rintro e w3 ⟨q2, r2, rfl, hq2, hr2, hb, _⟩; have BX := BX.keep hb; have hq1 := hq1.below hb; clear k3; obtain ⟨c0, c1, c2, i0, i1, j0, j1, _, _⟩ := id BX; have k4 := v1 w3 q1 hq1; have k5 := v2 w3 q2 hq2)
          | (go_at_call 63; (with_reducible refine k4.mono ?_); rintro e w4 ⟨rfl, rfl⟩)
          | (go_at_call 63; (with_reducible refine k5.mono ?_); rintro e w4 ⟨rfl, rfl⟩))
        exact bodyPost_ret (v := .tuple #[ratV (-(P : Int)) (Q : Int), .int .i64 0]) (by simp [results, Try.results28, go_sem, i0, i1]) rfl ⟨rfl, (BX.below.setCell (by show w.heap.size ≤ w.heap.size + 1; omega) _).setCell (by show w.heap.size ≤ w.heap.size + 1; omega) _⟩
    · have e1 : valV P = .tuple #[.int .i64 P, .bool true] := if_pos hP
      have e2 : valV Q = .tuple #[.int .i64 0, .bool false] := if_neg hQ
      have hPQ : ¬ (P ≤ 9223372036854775807 ∧ Q ≤ 9223372036854775807) := by omega
      have f1 : fitN m P Q = 0 := if_neg hPQ
      have f2 : fitD P Q = 0 := if_neg hPQ
      have f3 : fitE P Q = 3 := if_neg hPQ
      rw [e1] at v1
      rw [e2] at v2
      rw [f1, f2, f3]
      clear hPQ f1 f2 f3 e1 e2
      go_enter Try.func28, Try.ntmps28
      go_upto_region 1 with fail
      have k1 := cm _ BX.below
      obtain ⟨c0, c1, c2, i0, i1, j0, j1, _, _⟩ := id BX
      go_wp2_with (first
        | (go_at_call 61; (with_reducible refine k1.mono ?_); rintro e w1 ⟨g, rfl, hg, hb, _⟩; have BX := BX.keep hb; clear hb; obtain ⟨c0, c1, c2, i0, i1, j0, j1, _, _⟩ := id BX; have k2 := d1 w1 g BX.below hg)
        | (go_at_call 62; (with_reducible refine k2.mono ?_); rintro e w2 ⟨q1, r1, rfl, hq1, hr1, hb, _⟩; have BX := BX.keep hb; have hg := hg.below hb; clear k2; obtain ⟨c0, c1, c2, i0, i1, j0, j1, _, _⟩ := id BX; have k3 := d2 w2 g BX.below hg)
        | (go_at_call 62; (with_reducible refine k3.mono ?_); rintro e w3 ⟨q2, r2, rfl, hq2, hr2, hb, _⟩; have BX := BX.keep hb; have hq1 := hq1.below hb; clear k3; obtain ⟨c0, c1, c2, i0, i1, j0, j1, _, _⟩ := id BX; have k4 := v1 w3 q1 hq1; have k5 := v2 w3 q2 hq2)
        | (go_at_call 63; (with_reducible refine k4.mono ?_); rintro e w4 ⟨rfl, rfl⟩)
        | (go_at_call 63; (with_reducible refine k5.mono ?_); rintro e w4 ⟨rfl, rfl⟩))
      exact bodyPost_ret (v := .tuple #[ratV 0 0, .int .i64 3]) (by simp [results, Try.results28, go_sem, i0, i1]) rfl ⟨rfl, (BX.below.setCell (by show w.heap.size ≤ w.heap.size + 1; omega) _).setCell (by show w.heap.size ≤ w.heap.size + 1; omega) _⟩
  · have e1 : valV P = .tuple #[.int .i64 0, .bool false] := if_neg hP
    obtain ⟨nq, bq, e2⟩ : ∃ (n : Int) (b : Bool), valV Q = .tuple #[.int .i64 n, .bool b] := by
      unfold valV
      split
      · exact ⟨_, _, rfl⟩
      · exact ⟨_, _, rfl⟩
    have hPQ : ¬ (P ≤ 9223372036854775807 ∧ Q ≤ 9223372036854775807) := by omega
    have f1 : fitN m P Q = 0 := if_neg hPQ
    have f2 : fitD P Q = 0 := if_neg hPQ
    have f3 : fitE P Q = 3 := if_neg hPQ
    rw [e1] at v1
    rw [e2] at v2
    rw [f1, f2, f3]
    clear hPQ f1 f2 f3 e1 e2
    go_enter Try.func28, Try.ntmps28
    go_upto_region 1 with fail
    have k1 := cm _ BX.below
    obtain ⟨c0, c1, c2, i0, i1, j0, j1, _, _⟩ := id BX
    go_wp2_with (first
      | (go_at_call 61; (with_reducible refine k1.mono ?_); rintro e w1 ⟨g, rfl, hg, hb, _⟩; have BX := BX.keep hb; clear hb; obtain ⟨c0, c1, c2, i0, i1, j0, j1, _, _⟩ := id BX; have k2 := d1 w1 g BX.below hg)
      | (go_at_call 62; (with_reducible refine k2.mono ?_); rintro e w2 ⟨q1, r1, rfl, hq1, hr1, hb, _⟩; have BX := BX.keep hb; have hg := hg.below hb; clear k2; obtain ⟨c0, c1, c2, i0, i1, j0, j1, _, _⟩ := id BX; have k3 := d2 w2 g BX.below hg)
      | (go_at_call 62; (with_reducible refine k3.mono ?_); rintro e w3 ⟨q2, r2, rfl, hq2, hr2, hb, _⟩; have BX := BX.keep hb; have hq1 := hq1.below hb; clear k3; obtain ⟨c0, c1, c2, i0, i1, j0, j1, _, _⟩ := id BX; have k4 := v1 w3 q1 hq1; have k5 := v2 w3 q2 hq2)
      | (go_at_call 63; (with_reducible refine k4.mono ?_); rintro e w4 ⟨rfl, rfl⟩)
      | (go_at_call 63; (with_reducible refine k5.mono ?_); rintro e w4 ⟨rfl, rfl⟩))
    exact bodyPost_ret (v := .tuple #[ratV 0 0, .int .i64 3]) (by simp [results, Try.results28, go_sem, i0, i1]) rfl ⟨rfl, (BX.below.setCell (by show w.heap.size ≤ w.heap.size + 1; omega) _).setCell (by show w.heap.size ≤ w.heap.size + 1; omega) _⟩
end Go.Proofs.Ytkinbbhbencipaa

namespace Go.Proofs.Ytkinbbhbencipaa
open Go.RowKit

theorem keep_sum {w w1 w2 : World} {x0 x1 x2 y0 y1 y2 z0 z1 z2 : Value} (hb : Below w1.heap.size w1 w2)
    (h : (w1.cell? ⟨w.heap.size, 0, none⟩ = some x0 ∧ w1.cell? ⟨w.heap.size, 1, none⟩ = some x1 ∧ w1.cell? ⟨w.heap.size, 2, none⟩ = some x2 ∧ w1.cell? ⟨w.heap.size + 1, 0, none⟩ = some y0 ∧ w1.cell? ⟨w.heap.size + 1, 1, none⟩ = some y1 ∧ w1.cell? ⟨w.heap.size + 1, 2, none⟩ = some y2 ∧ w1.cell? ⟨w.heap.size + 1 + 1, 0, none⟩ = some z0 ∧ w1.cell? ⟨w.heap.size + 1 + 1, 1, none⟩ = some z1 ∧ w1.cell? ⟨w.heap.size + 1 + 1, 2, none⟩ = some z2) ∧ w.heap.size + 2 < w1.heap.size ∧ Below w.heap.size w w1 ∧ (w1.frozen? ⟨w.heap.size + 1 + 1, 0, none⟩ = false ∧ w1.frozen? ⟨w.heap.size + 1 + 1, 1, none⟩ = false ∧ w1.frozen? ⟨w.heap.size + 1 + 1, 2, none⟩ = false)) :
    (w2.cell? ⟨w.heap.size, 0, none⟩ = some x0 ∧ w2.cell? ⟨w.heap.size, 1, none⟩ = some x1 ∧ w2.cell? ⟨w.heap.size, 2, none⟩ = some x2 ∧ w2.cell? ⟨w.heap.size + 1, 0, none⟩ = some y0 ∧ w2.cell? ⟨w.heap.size + 1, 1, none⟩ = some y1 ∧ w2.cell? ⟨w.heap.size + 1, 2, none⟩ = some y2 ∧ w2.cell? ⟨w.heap.size + 1 + 1, 0, none⟩ = some z0 ∧ w2.cell? ⟨w.heap.size + 1 + 1, 1, none⟩ = some z1 ∧ w2.cell? ⟨w.heap.size + 1 + 1, 2, none⟩ = some z2) ∧ w.heap.size + 2 < w2.heap.size ∧ Below w.heap.size w w2 ∧ (w2.frozen? ⟨w.heap.size + 1 + 1, 0, none⟩ = false ∧ w2.frozen? ⟨w.heap.size + 1 + 1, 1, none⟩ = false ∧ w2.frozen? ⟨w.heap.size + 1 + 1, 2, none⟩ = false) := by
  obtain ⟨⟨a0, a1, a2, a3, a4, a5, a6, a7, a8⟩, g, k, ⟨m0, m1, m2⟩⟩ := h
  have hs := hb.size
  exact ⟨⟨keep_cell hb (by omega) a0, keep_cell hb (by omega) a1, keep_cell hb (by omega) a2, keep_cell hb (by omega) a3, keep_cell hb (by omega) a4, keep_cell hb (by omega) a5, keep_cell hb (by omega) a6, keep_cell hb (by omega) a7, keep_cell hb (by omega) a8⟩, by omega, k.trans (hb.mono k.size), ⟨keep_free hb (by omega) m0, keep_free hb (by omega) m1, keep_free hb (by omega) m2⟩⟩

/-- The blocks of sum: both parameters, the result. -/
structure BoxS (w w1 : World) (x0 x1 x2 y0 y1 y2 z0 z1 z2 : Value) : Prop where
  c0 : w1.cell? ⟨w.heap.size, 0, none⟩ = some x0
  c1 : w1.cell? ⟨w.heap.size, 1, none⟩ = some x1
  c2 : w1.cell? ⟨w.heap.size, 2, none⟩ = some x2
  d0 : w1.cell? ⟨w.heap.size + 1, 0, none⟩ = some y0
  d1 : w1.cell? ⟨w.heap.size + 1, 1, none⟩ = some y1
  d2 : w1.cell? ⟨w.heap.size + 1, 2, none⟩ = some y2
  i0 : w1.cell? ⟨w.heap.size + 1 + 1, 0, none⟩ = some z0
  i1 : w1.cell? ⟨w.heap.size + 1 + 1, 1, none⟩ = some z1
  i2 : w1.cell? ⟨w.heap.size + 1 + 1, 2, none⟩ = some z2
  j0 : w1.frozen? ⟨w.heap.size + 1 + 1, 0, none⟩ = false
  j1 : w1.frozen? ⟨w.heap.size + 1 + 1, 1, none⟩ = false
  j2 : w1.frozen? ⟨w.heap.size + 1 + 1, 2, none⟩ = false
  size : w.heap.size + 2 < w1.heap.size
  below : Below w.heap.size w w1

theorem BoxS.keep {w w1 w2 : World} {x0 x1 x2 y0 y1 y2 z0 z1 z2 : Value} (h : BoxS w w1 x0 x1 x2 y0 y1 y2 z0 z1 z2) (hb : Below w1.heap.size w1 w2) : BoxS w w2 x0 x1 x2 y0 y1 y2 z0 z1 z2 :=
  have s := h.size
  have t := hb.size
  { c0 := keep_cell hb (by omega) h.c0, c1 := keep_cell hb (by omega) h.c1, c2 := keep_cell hb (by omega) h.c2
    d0 := keep_cell hb (by omega) h.d0, d1 := keep_cell hb (by omega) h.d1, d2 := keep_cell hb (by omega) h.d2
    i0 := keep_cell hb (by omega) h.i0, i1 := keep_cell hb (by omega) h.i1, i2 := keep_cell hb (by omega) h.i2
    j0 := keep_free hb (by omega) h.j0, j1 := keep_free hb (by omega) h.j1, j2 := keep_free hb (by omega) h.j2
    size := by omega, below := h.below.trans (hb.mono (by omega)) }

/-- A fraction of long numbers in its block. -/
structure FracBox (w1 : World) (b : Nat) (x y z : Value) : Prop where
  k0 : w1.cell? ⟨b, 0, none⟩ = some x
  k1 : w1.cell? ⟨b, 1, none⟩ = some y
  k2 : w1.cell? ⟨b, 2, none⟩ = some z
  l0 : w1.frozen? ⟨b, 0, none⟩ = false
  l1 : w1.frozen? ⟨b, 1, none⟩ = false
  l2 : w1.frozen? ⟨b, 2, none⟩ = false
  lt : b < w1.heap.size

theorem FracBox.keep {w1 w2 : World} {b : Nat} {x y z : Value} (h : FracBox w1 b x y z) (hb : Below w1.heap.size w1 w2) : FracBox w2 b x y z :=
  have t := hb.size
  have l := h.lt
  { k0 := keep_cell hb l h.k0, k1 := keep_cell hb l h.k1, k2 := keep_cell hb l h.k2, l0 := keep_free hb l h.l0, l1 := keep_free hb l h.l1, l2 := keep_free hb l h.l2, lt := by omega }

theorem FracBox.start (w : World) (x y z : Value) (ty : TypeId) : FracBox (w.alloc (.cells #[x, y, z] ty)) w.heap.size x y z where
  k0 := by go_simp
  k1 := by go_simp
  k2 := by go_simp
  l0 := by go_simp
  l1 := by go_simp
  l2 := by go_simp
  lt := by simp

theorem boxS_of {w w1 : World} {x0 x1 x2 y0 y1 y2 z0 z1 z2 : Value} (h : (w1.cell? ⟨w.heap.size, 0, none⟩ = some x0 ∧ w1.cell? ⟨w.heap.size, 1, none⟩ = some x1 ∧ w1.cell? ⟨w.heap.size, 2, none⟩ = some x2 ∧ w1.cell? ⟨w.heap.size + 1, 0, none⟩ = some y0 ∧ w1.cell? ⟨w.heap.size + 1, 1, none⟩ = some y1 ∧ w1.cell? ⟨w.heap.size + 1, 2, none⟩ = some y2 ∧ w1.cell? ⟨w.heap.size + 1 + 1, 0, none⟩ = some z0 ∧ w1.cell? ⟨w.heap.size + 1 + 1, 1, none⟩ = some z1 ∧ w1.cell? ⟨w.heap.size + 1 + 1, 2, none⟩ = some z2) ∧ w.heap.size + 2 < w1.heap.size ∧ Below w.heap.size w w1 ∧ (w1.frozen? ⟨w.heap.size + 1 + 1, 0, none⟩ = false ∧ w1.frozen? ⟨w.heap.size + 1 + 1, 1, none⟩ = false ∧ w1.frozen? ⟨w.heap.size + 1 + 1, 2, none⟩ = false)) : BoxS w w1 x0 x1 x2 y0 y1 y2 z0 z1 z2 := by
  obtain ⟨⟨a0, a1, a2, a3, a4, a5, a6, a7, a8⟩, g, k, m0, m1, m2⟩ := h
  exact ⟨a0, a1, a2, a3, a4, a5, a6, a7, a8, m0, m1, m2, g, k⟩

theorem sum_below {w w1 : World} {A B C : Prop} (h : A ∧ B ∧ Below w.heap.size w w1 ∧ C) : Below w.heap.size w w1 := h.2.2.1

/-- What sum answers, in the end. -/
theorem sum_close {w wc wd we : World} {b T Z : Nat} {v d : Value} {S : Bool} (hzk : ∀ w', Below b wc w' → NumAt w' d (bitsOf Z)) (hfz : Fresh (w.heap.size + 3) d) (hb2 : Below b wc wd) (hbe : Below wd.heap.size wd we)
    (hv : NumAt we v (bitsOf T)) (fv : Fresh wd.heap.size v) (hlt : b < wd.heap.size) (hsz : w.heap.size + 2 < b) (hbl : Below w.heap.size w we) (x y : Value) :
    FracNew w T Z S (.returned (.agg #[v, d, .bool S])) (((((we.setCell ⟨b, 0, none⟩ x).setCell ⟨b, 2, none⟩ y).setCell ⟨w.heap.size + 1 + 1, 0, none⟩ v).setCell ⟨w.heap.size + 1 + 1, 1, none⟩ d).setCell ⟨w.heap.size + 1 + 1, 2, none⟩ (.bool S)) := by
  have f2 := fv.mono (B' := b + 1) (by omega)
  refine ⟨_, rfl, ⟨v, d, rfl, ?_, ?_, f2.mono (by omega), hfz.mono (by omega)⟩, ?_⟩
  · exact ((((hv.setCell f2 (Nat.lt_succ_self _) _).setCell f2 (Nat.lt_succ_self _) _).setCell f2 (by show w.heap.size + 1 + 1 < _; omega) _).setCell f2 (by show w.heap.size + 1 + 1 < _; omega) _).setCell f2 (by show w.heap.size + 1 + 1 < _; omega) _
  · have h0 := hzk _ (((hb2.trans (hbe.mono (by omega))).setCell (p := ⟨b, 0, none⟩) (Nat.le_refl _) x).setCell (p := ⟨b, 2, none⟩) (Nat.le_refl _) y)
    exact ((h0.setCell hfz (by show w.heap.size + 1 + 1 < _; omega) _).setCell hfz (by show w.heap.size + 1 + 1 < _; omega) _).setCell hfz (by show w.heap.size + 1 + 1 < _; omega) _
  · exact ((((hbl.setCell (by show w.heap.size ≤ b; omega) _).setCell (by show w.heap.size ≤ b; omega) _).setCell (by show w.heap.size ≤ w.heap.size + 1 + 1; omega) _).setCell (by show w.heap.size ≤ w.heap.size + 1 + 1; omega) _).setCell (by show w.heap.size ≤ w.heap.size + 1 + 1; omega) _

end Go.Proofs.Ytkinbbhbencipaa

namespace Go.Proofs.Ytkinbbhbencipaa
open Go.RowKit

theorem keep_one {w w1 w2 : World} {x0 x1 : Value} (hb : Below w1.heap.size w1 w2)
    (h : (w1.cell? ⟨w.heap.size, 0, none⟩ = some x0 ∧ w1.cell? ⟨w.heap.size, 1, none⟩ = some x1) ∧ w.heap.size + 0 < w1.heap.size ∧ Below w.heap.size w w1) :
    (w2.cell? ⟨w.heap.size, 0, none⟩ = some x0 ∧ w2.cell? ⟨w.heap.size, 1, none⟩ = some x1) ∧ w.heap.size + 0 < w2.heap.size ∧ Below w.heap.size w w2 := by
  obtain ⟨⟨a0, a1⟩, g, k⟩ := h
  have hs := hb.size
  exact ⟨⟨keep_cell hb (by omega) a0, keep_cell hb (by omega) a1⟩, by omega, k.trans (hb.mono k.size)⟩

theorem one_below {w w1 : World} {A B : Prop} (h : A ∧ B ∧ Below w.heap.size w w1) : Below w.heap.size w w1 := h.2.2

theorem len_one {g : Nat} : (bitsOf g).length = 1 ↔ g = 1 := by
  constructor
  · intro h
    have h1 := natOf_lt (bitsOf g)
    rw [natOf_bitsOf, h] at h1
    have : g ≠ 0 := by intro h0; rw [h0, bitsOf_zero] at h; simp at h
    omega
  · intro h
    subst h
    rw [bitsOf_pos (by decide), show (1 : Nat) / 2 = 0 by decide, bitsOf_zero]; rfl

end Go.Proofs.Ytkinbbhbencipaa
