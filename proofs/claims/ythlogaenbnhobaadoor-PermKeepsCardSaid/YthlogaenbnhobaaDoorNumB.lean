/-
  The walks of the reference's trim, bit. (Template: by-name.py fills it.)
-/
import Derived.Test.YthlogaenbnhobaaDoorNumA
import Derived.Test.YthlogaenbnhobaaDoorWords
import Derived.Test.YthlogaenbnhobaaDoorRatA
import Derived.Deep.LoopGhost
namespace Go.Proofs.YthlogaenbnhobaaDoor
open Go.RowKit

/-- A slice of bits. -/
def NumAt (w : World) (v : Value) (l : List Bool) : Prop := ∃ A c, v = .slice A l.length c ∧ l.length ≤ c ∧ c ≤ maxLen ∧ Reads w w.heap.size 1 A l.length (l.map Value.bool)

theorem NumAt.below {w w' : World} {v : Value} {l : List Bool} (h : NumAt w v l) (hb : Below w.heap.size w w') : NumAt w' v l := by
  obtain ⟨A, c, h1, h2, h3, h4⟩ := h
  exact ⟨A, c, h1, h2, h3, (h4.below hb).more hb.size⟩
theorem NumAt.nil (w : World) : NumAt w (.slice none 0 0) [] := ⟨none, 0, rfl, Nat.le_refl _, by decide, Reads.none_⟩
theorem NumAt.take {w : World} {A : Option Addr} {n c k : Nat} {l : List Bool} (h1 : l.length = n) (h2 : n ≤ c) (h3 : c ≤ maxLen) (h4 : Reads w w.heap.size 1 A n (l.map Value.bool)) (hk : k ≤ n) : NumAt w (.slice A k c) (l.take k) := by
  have e : (l.take k).length = k := by rw [List.length_take]; omega
  refine ⟨A, c, by rw [e], by omega, h3, ?_⟩
  refine ⟨by rw [List.length_map, e, Nat.mul_one], fun hn => ?_⟩
  obtain ⟨ad, ha, hb, hc⟩ := h4.2 (by omega)
  refine ⟨ad, ha, hb, fun j u hu => hc j u ?_⟩
  rw [List.map_take, List.getElem?_take] at hu
  split at hu
  · exact hu
  · cases hu
theorem NumAt.bit {w : World} {A : Option Addr} {n : Nat} {l : List Bool} (h1 : l.length = n) (h4 : Reads w w.heap.size 1 A n (l.map Value.bool)) {k : Nat} (hk : k < n) : ∃ ad, A = some ad ∧ w.cell? (ad.add k) = some (.bool (bitAt l k)) := by
  obtain ⟨ad, u, ha, _, hu, hc⟩ := h4.at_ hk
  refine ⟨ad, ha, ?_⟩
  rw [hc, ← hu, List.getElem?_map]
  unfold bitAt
  rw [List.getD_eq_getElem?_getD, List.getElem?_eq_getElem (by omega)]
  rfl

/-- A number that a call answers, where the world is as it was. -/
def NumSame (w : World) (v : Value) (l : List Bool) (e : Ending) (w' : World) : Prop := ∃ v', e = .returned v' ∧ NumAt w v' l ∧ w = w' ∧ v'.ownBlock = v.ownBlock

theorem take_last {l : List Bool} {k : Nat} (hk : k < l.length) (hb : bitAt l k = true) : l.take (k + 1) = l.take k ++ [true] := by
  rw [List.take_succ_eq_append_getElem hk]
  unfold bitAt at hb
  rw [List.getD_eq_getElem?_getD, List.getElem?_eq_getElem hk] at hb
  simp only [Option.getD_some] at hb
  rw [hb]
theorem natOf_take_low {l : List Bool} {k : Nat} (hk : k < l.length) (hb : bitAt l k = false) : natOf (l.take (k + 1)) = natOf (l.take k) := by
  rw [List.take_succ_eq_append_getElem hk, natOf_snoc]
  unfold bitAt at hb
  rw [List.getD_eq_getElem?_getD, List.getElem?_eq_getElem hk] at hb
  simp only [Option.getD_some] at hb
  rw [hb]; simp

set_option maxHeartbeats 1000000 in
theorem trim_any (w : World) (v : Value) (l : List Bool) (h : NumAt w v l) :
    Calls Tryd.prog 35 #[v] w (NumSame w v (bitsOf (natOf l))) := by
  obtain ⟨A, c, rfl, h2, h3, h4⟩ := h
  have h5 := h3
  unfold maxLen at h5
  obtain ⟨n, hn⟩ : ∃ n, n = l.length := ⟨_, rfl⟩
  rw [← hn] at h2 h4 ⊢
  have HN := Lib.hid hn
  clear hn
  have hn6 : n ≤ 9223372036854775807 := by omega
  go_enter Tryd.func35, Tryd.ntmps35
  go_wp2_with fail
  go_loopg [3] n (fun g v3 wx => w = wx ∧ ∃ k : Nat, k ≤ n ∧ g = k ∧ v3 = .int .i64 k ∧ natOf (l.take k) = natOf l)
  case atStart => exact ⟨rfl, n, Nat.le_refl _, rfl, rfl, by rw [List.take_of_length_le (by rw [HN.out]; exact Nat.le_refl _)]⟩
  case round =>
    obtain ⟨rfl, k, hk, hg, rfl, ht⟩ := hrel
    have HT := Lib.hid ht
    have HG := Lib.hid hg
    clear ht hg
    by_cases hk0 : k = 0
    · subst hk0
      have hc0 : (0 : Int) ≤ (c : Int) := by omega
      have hA : natOf l = 0 := by rw [← HT.out]; rfl
      have fin : NumAt w (.slice A 0 c) (bitsOf (natOf l)) := by rw [hA, bitsOf_zero]; exact NumAt.take HN.out.symm h2 h3 h4 (Nat.zero_le n)
      clear hA hc0
      go_wp2_with fail
      go_ret
      exact ⟨_, rfl, fin, rfl, by cases A <;> rfl⟩
    · have hk1 : (0 : Int) < (k : Int) := by omega
      have hkl : k - 1 < l.length := by have := HN.out; omega
      have hs : k - 1 + 1 = k := by omega
      have wk : IntKind.i64.wrap ((k : Int) - 1) = ((k - 1 : Nat) : Int) := by rw [IntWalk.i64_in _ (by omega)]; omega
      cases hb : bitAt l (k - 1)
      · have low := natOf_take_low hkl hb
        rw [hs, HT.out] at low
        obtain ⟨ad, rfl, hc⟩ := NumAt.bit HN.out.symm h4 (show k - 1 < n by omega)
        have hi1 : ((k - 1 : Nat) : Int) < (n : Int) := by omega
        have hi0 : (0 : Int) ≤ ((k - 1 : Nat) : Int) := by omega
        rw [hb] at hc
        have HB := Lib.hid hb
        have HL := Lib.hid low
        have HS := Lib.hid (And.intro hs hkl)
        clear hb low hs hkl
        go_wp2_with fail
        go_roundg (k - 1)
        case measure => have := HG.out; omega
        case rel => exact ⟨rfl, k - 1, by omega, rfl, rfl, HL.out.symm⟩
      · have last := take_last hkl hb
        rw [hs] at last
        have hA : bitsOf (natOf l) = l.take k := by rw [← HT.out, last, bitsOf_natOf_snoc]
        have fin : NumAt w (.slice A k c) (bitsOf (natOf l)) := by rw [hA]; exact NumAt.take HN.out.symm h2 h3 h4 hk
        obtain ⟨ad, rfl, hc⟩ := NumAt.bit HN.out.symm h4 (show k - 1 < n by omega)
        have hi1 : ((k - 1 : Nat) : Int) < (n : Int) := by omega
        have hi0 : (0 : Int) ≤ ((k - 1 : Nat) : Int) := by omega
        have hkc : (k : Int) ≤ (c : Int) := by omega
        rw [hb] at hc
        have FIN := Lib.hid fin
        clear hb last hs hkl hA fin
        go_wp2_with fail
        go_ret
        exact ⟨_, rfl, FIN.out, rfl, rfl⟩

set_option maxHeartbeats 1000000 in
theorem bit_any (w : World) (v : Value) (l : List Bool) (h : NumAt w v l) (i : Nat) :
    Calls Tryd.prog 44 #[v, .int .i64 i] w fun e w' => e = .returned (.bool (bitAt l i)) ∧ w = w' := by
  obtain ⟨A, c, rfl, h2, h3, h4⟩ := h
  have h5 := h3
  unfold maxLen at h5
  by_cases hlt : i < l.length
  · obtain ⟨ad, rfl, hc⟩ := NumAt.bit rfl h4 hlt
    obtain ⟨n, hn⟩ : ∃ n, n = l.length := ⟨_, rfl⟩
    rw [← hn] at hlt h2 h4 ⊢
    have d1 : decide (i < n) = true := decide_eq_true hlt
    have hli : (i : Int) < (n : Int) := by omega
    have HN := Lib.hid hn
    generalize bitAt l i = b at *
    clear hn h4 h5 h2 h3
    go_enter Tryd.func44, Tryd.ntmps44
    go_wp2_with fail
    go_ret
    exact ⟨rfl, rfl⟩
  · have hb : bitAt l i = false := by
      unfold bitAt
      rw [List.getD_eq_getElem?_getD, List.getElem?_eq_none (by omega)]; rfl
    rw [hb]
    obtain ⟨n, hn⟩ : ∃ n, n = l.length := ⟨_, rfl⟩
    rw [← hn] at hlt h2 h4 ⊢
    have d1 : decide (i < n) = false := decide_eq_false hlt
    clear hn h4 h5 h2 h3 hb
    go_enter Tryd.func44, Tryd.ntmps44
    go_wp2_with fail
    go_ret
    exact ⟨rfl, rfl⟩
end Go.Proofs.YthlogaenbnhobaaDoor
