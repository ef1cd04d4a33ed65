/-
  The walk of package rat's Show. Condition: the library's table of powers is as it was laid. (Template: by-name.py fills it.)
-/
import Derived.Test.YtkgndeiddjkhmaaDoorRatH
import Derived.Lib.AppendIntMem
namespace Go.Proofs.YtkgndeiddjkhmaaDoor
open Go.RowKit

theorem below_grow (w : World) (q : Nat) (os : Array Obj) : Below w.heap.size w (Go.Sort.grow (w.drewN q) os) :=
  ⟨rfl, rfl, rfl, by simp [Go.Sort.grow], fun k hk => by simp [Go.Sort.grow, Array.getElem?_append_left hk]⟩

abbrev Pow10 (w : World) : Prop := Lib.TabIs Tryd.prog w "internal/strconv.uint64pow10" .u64 Lib.pow10Tab
theorem pow10_on {w w1 : World} (h : Pow10 w) (hb : Below w.heap.size w w1) : Pow10 w1 := ((Lib.tabBelow_of_tabIs h).on hb).here

theorem format_any (n : Int) (w : World) (h : Pow10 w) (h0 : -9223372036854775808 ≤ n) (h1 : n ≤ 9223372036854775807) :
    Calls Tryd.prog 62 #[.int .i64 n, .int .i64 10] w fun e w' => e = .returned (.string ⟨(Lib.itoa n).toArray⟩) ∧ Below w.heap.size w w' :=
  (Tryd.strconv_FormatInt_10 n h0 h1 w h).mono fun _ _ ⟨he, k, os, hw⟩ => ⟨he, by rw [hw]; exact below_grow _ _ _⟩

theorem ret_string {b : List UInt8} {s : ByteArray} (h : s.data.toList = b) : Ending.returned (.string s) = .returned (.string ⟨b.toArray⟩) := by
  obtain ⟨⟨l⟩⟩ := s
  simp only at h
  rw [h]

theorem dec_len (u : Nat) : ∀ k, u < 10 ^ (k + 1) → (Lib.decDigits u).length ≤ k + 1 := by
  intro k
  induction k generalizing u with
  | zero =>
    intro h
    rw [Lib.decDigits, dif_pos (by omega)]
    simp
  | succ k ih =>
    intro h
    rw [Lib.decDigits]
    split
    · simp
    · rw [List.length_append]
      have := ih (u / 10) (by rw [Nat.pow_succ] at h; omega)
      simp; omega
theorem itoa_len {n : Int} (h0 : -9223372036854775808 ≤ n) (h1 : n ≤ 9223372036854775807) : (Lib.itoa n).length ≤ 20 := by
  unfold Lib.itoa
  split
  · have := dec_len n.natAbs 18 (by omega)
    simp; omega
  · have := dec_len n.toNat 18 (by omega)
    omega

/-- The text of a fraction. -/
def showL (n : Int) (d : Nat) : List UInt8 := Lib.itoa n ++ if d = 1 then [] else 47 :: Lib.itoa d

set_option maxHeartbeats 1000000 in
theorem show_valid {n : Int} {d : Nat} (v : Valid n d) (w : World) (h : Pow10 w) :
    Calls Tryd.prog 42 #[ratV n d] w fun r w' => r = .returned (.string ⟨(showL n d).toArray⟩) ∧ Below w.heap.size w w' := by
  have vn := v.n_le; have vd := v.d_le
  have ra := fun w => right_yes v w
  have fn := fun w h => format_any n w h (by omega) (by omega)
  have fd := fun w h => format_any d w h (by omega) (by omega)
  have L := (Live.start w).box n d
  have T := Lib.hid h
  clear h v
  by_cases e : d = 1
  · have hs : showL n d = Lib.itoa n := by unfold showL; rw [if_pos e, List.append_nil]
    rw [hs]
    have e1 : ((d : Int) != 1) = false := by simp; omega
    have e2 : ((d : Int) == 1) = true := by simp; omega
    clear e hs vn vd
    go_enter Tryd.func42, Tryd.ntmps42
    go_upto_region 3 with (go_at_call 29; (with_reducible refine (ra _).mono ?_); rintro e w1 ⟨rfl, hb⟩; have L := L.call hb; have a0 := L.n 0 rfl; have a1 := L.d 0 rfl)
    go_upto_region 4 with (go_at_call 62; (with_reducible refine (fn _ (pow10_on T.out L.below)).mono ?_); rintro e w2 ⟨rfl, hb⟩; have L := L.call hb; have a0 := L.n 0 rfl; have a1 := L.d 0 rfl)
    go_wp2_with fail
    go_ret
    exact ⟨rfl, L.below⟩
  · have e1 : ((d : Int) != 1) = true := by simp; omega
    have e2 : ((d : Int) == 1) = false := by simp; omega
    have hs : showL n d = Lib.itoa n ++ 47 :: Lib.itoa d := by unfold showL; rw [if_neg e]
    rw [hs]
    have l1 : ¬ 9223372036854775807 < 1 + (Lib.itoa d).length := by have := itoa_len (n := d) (by omega) (by omega); omega
    have l2 : ¬ 9223372036854775807 < (Lib.itoa n).length + (1 + (Lib.itoa d).length) := by have := itoa_len (n := d) (by omega) (by omega); have := itoa_len (n := n) (by omega) (by omega); omega
    clear e hs vn vd
    go_enter Tryd.func42, Tryd.ntmps42
    go_upto_region 3 with (go_at_call 29; (with_reducible refine (ra _).mono ?_); rintro e w1 ⟨rfl, hb⟩; have L := L.call hb; have a0 := L.n 0 rfl; have a1 := L.d 0 rfl)
    go_upto_region 4 with (go_at_call 62; (with_reducible refine (fn _ (pow10_on T.out L.below)).mono ?_); rintro e w2 ⟨rfl, hb⟩; have L := L.call hb; have a0 := L.n 0 rfl; have a1 := L.d 0 rfl)
    go_upto_region 6 with (go_at_call 62; (with_reducible refine (fd _ (pow10_on T.out L.below)).mono ?_); rintro e w3 ⟨rfl, hb⟩; have L := L.call hb; have a0 := L.n 0 rfl; have a1 := L.d 0 rfl)
    go_wp2_with fail
    go_ret
    exact ⟨ret_string (by simp), L.below⟩
end Go.Proofs.YtkgndeiddjkhmaaDoor
