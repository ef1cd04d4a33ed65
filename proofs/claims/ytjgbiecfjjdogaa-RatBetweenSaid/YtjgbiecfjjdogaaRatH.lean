/-
  The walk of the law RatNoughts. (Template: by-name.py fills it.)
-/
import Derived.Test.YtjgbiecfjjdogaaRatG
namespace Go.Proofs.Ytjgbiecfjjdogaa
open Go.RowKit

/-- Fractions in their blocks, and all that is older than w as it was. -/
structure Live (w w1 : World) (l : List (Nat × Int × Int)) : Prop where
  rats : ∀ x, x ∈ l → RatAt w1 x.1 x.2.1 x.2.2
  below : Below w.heap.size w w1

theorem Live.start (w : World) : Live w w [] := ⟨fun _ h => (nomatch h), Below.refl _ _⟩
theorem Live.call {w w1 w2 : World} {l : List (Nat × Int × Int)} (h : Live w w1 l) (hb : Below w1.heap.size w1 w2) : Live w w2 l :=
  ⟨fun x hx => (h.rats x hx).keep hb, h.below.trans (hb.mono h.below.size)⟩
theorem Live.box {w w1 : World} {l : List (Nat × Int × Int)} (h : Live w w1 l) (n d : Int) : Live w (w1.alloc (.cells #[.int .i64 n, .int .i64 d] 23)) ((w1.heap.size, n, d) :: l) :=
  ⟨fun x hx => by
    rcases List.mem_cons.1 hx with rfl | hx
    · exact RatAt.start w1 n d _
    · exact (h.rats x hx).keep (below_alloc1 _ _), h.below.trans ((below_alloc1 _ _).mono h.below.size)⟩
theorem Live.boxAt {w w1 : World} {l : List (Nat × Int × Int)} (h : Live w w1 l) (n d : Int) (b : Nat) (hb : b = w1.heap.size) : Live w (w1.alloc (.cells #[.int .i64 n, .int .i64 d] 23)) ((b, n, d) :: l) := by
  rw [hb]; exact h.box n d
theorem Live.n {w w1 : World} {l : List (Nat × Int × Int)} (h : Live w w1 l) (i : Nat) {b : Nat} {n d : Int} (hi : l[i]? = some (b, n, d)) : w1.cell? ⟨b, 0, none⟩ = some (.int .i64 n) :=
  (h.rats _ (List.mem_of_getElem? hi)).k0
theorem Live.d {w w1 : World} {l : List (Nat × Int × Int)} (h : Live w w1 l) (i : Nat) {b : Nat} {n d : Int} (hi : l[i]? = some (b, n, d)) : w1.cell? ⟨b, 1, none⟩ = some (.int .i64 d) :=
  (h.rats _ (List.mem_of_getElem? hi)).k1

theorem Valid.nought : Valid 0 1 := ⟨by decide, by decide, by decide, by decide⟩
theorem Valid.one : Valid 1 1 := ⟨by decide, by decide, by decide, by decide⟩

/-- A sum, a difference, a product, a quotient that are known beforehand. -/
theorem add_to {n m x : Int} {d e y : Nat} (v : Valid n d) (u : Valid m e) (z : Valid x y) (h : x * ((d * e : Nat) : Int) = (n * e + m * d) * (y : Int)) (w : World) :
    Calls Try.prog 13 #[ratV n d, ratV m e] w fun r w' => r = .returned (.tuple #[ratV x y, .int .i64 0]) ∧ Below w.heap.size w w' := by
  obtain ⟨a, b, c⟩ := res_of (Nat.mul_pos v.pos u.pos) z h
  have := add_valid v u w
  unfold resV at this
  rwa [a, b, c] at this
theorem sub_to {n m x : Int} {d e y : Nat} (v : Valid n d) (u : Valid m e) (z : Valid x y) (h : x * ((d * e : Nat) : Int) = (n * e - m * d) * (y : Int)) (w : World) :
    Calls Try.prog 14 #[ratV n d, ratV m e] w fun r w' => r = .returned (.tuple #[ratV x y, .int .i64 0]) ∧ Below w.heap.size w w' := by
  obtain ⟨a, b, c⟩ := res_of (Nat.mul_pos v.pos u.pos) z h
  have := sub_valid v u w
  unfold resV at this
  rwa [a, b, c] at this
theorem mul_to {n m x : Int} {d e y : Nat} (v : Valid n d) (u : Valid m e) (z : Valid x y) (h : x * ((d * e : Nat) : Int) = n * m * (y : Int)) (w : World) :
    Calls Try.prog 15 #[ratV n d, ratV m e] w fun r w' => r = .returned (.tuple #[ratV x y, .int .i64 0]) ∧ Below w.heap.size w w' := by
  obtain ⟨a, b, c⟩ := res_of (Nat.mul_pos v.pos u.pos) z h
  have := mul_valid v u w
  unfold resV at this
  rwa [a, b, c] at this
theorem div_to {n m x : Int} {d e y : Nat} (v : Valid n d) (u : Valid m e) (hm : m ≠ 0) (z : Valid x y) (h : x * d * m = n * e * (y : Int)) (w : World) :
    Calls Try.prog 16 #[ratV n d, ratV m e] w fun r w' => r = .returned (.tuple #[ratV x y, .int .i64 0]) ∧ Below w.heap.size w w' := by
  have hp : 0 < d * m.natAbs := Nat.mul_pos v.pos (by omega)
  have h2 : x * ((d * m.natAbs : Nat) : Int) = n * (if m < 0 then -(e : Int) else e) * (y : Int) := by
    push_cast
    by_cases s : m < 0
    · rw [if_pos s, show ((m.natAbs : Int)) = -m by omega, ← Int.mul_assoc, Int.mul_neg, h, Int.mul_neg, Int.neg_mul]
    · rw [if_neg s, show ((m.natAbs : Int)) = m by omega, ← Int.mul_assoc, h]
  obtain ⟨a, b, c⟩ := res_of hp z h2
  have := div_valid v u hm w
  unfold resV at this
  rwa [a, b, c] at this

theorem right_no {n d : Int} (h : rightB n d = false) (h1 : -9223372036854775808 ≤ n) (h2 : n ≤ 9223372036854775807) (h3 : -9223372036854775808 ≤ d) (h4 : d ≤ 9223372036854775807) (w : World) :
    Calls Try.prog 12 #[ratV n d] w fun e w' => e = .returned (.bool false) ∧ Below w.heap.size w w' := by
  have := right_any n d w h1 h2 h3 h4
  rwa [h] at this

set_option maxRecDepth 100000 in
set_option maxHeartbeats 2000000 in
theorem noughts_right {n : Int} {d : Nat} (v : Valid n d) (w : World) :
    Calls Try.prog 6 #[ratV n d] w fun e w' => e = .returned (.bool true) ∧ Below w.heap.size w w' := by
  have ra := fun w => right_yes v w
  have ad := fun w => add_to v Valid.nought v (by push_cast; simp) w
  have mu := fun w => mul_to v Valid.one v (by push_cast; simp) w
  have su := fun w => sub_to v v Valid.nought (by simp) w
  have mz := fun w => mul_to v Valid.nought Valid.nought (by simp) w
  simp only [Int.natCast_one] at ad mu su mz
  have L := (Live.start w).box n d
  by_cases hn : n = 0
  · subst hn
    have dv := fun w => div_nought v v w
    have V := Lib.hid v
    clear v
    go_enter Try.func6, Try.ntmps6
    go_upto_region 3 with (first
      | (go_at_call 9; (with_reducible refine (awake_yes _).mono ?_); rintro e w1 ⟨rfl, hb⟩; have L := L.call hb; have a0 := L.n 0 rfl; have a1 := L.d 0 rfl)
      | (go_at_call 12; (with_reducible refine (ra _).mono ?_); rintro e w1 ⟨rfl, hb⟩; have L := L.call hb))
    go_upto_region 4 with fail
    have L := (L.box 0 1).boxAt 1 1 (w1.heap.size + 1) (by simp)
    have a0 := L.n 2 rfl; have a1 := L.d 2 rfl; have z0 := L.n 1 rfl; have z1 := L.d 1 rfl
    go_upto_region 5 with (go_at_call 13; (with_reducible refine (ad _).mono ?_); rintro e w2 ⟨rfl, hb⟩)
    have L := (L.call hb).box 0 d
    clear hb a0 a1 z0 z1
    have a0 := L.n 3 rfl; have a1 := L.d 3 rfl; have o0 := L.n 1 rfl; have o1 := L.d 1 rfl
    go_upto_region 6 with (go_at_call 15; (with_reducible refine (mu _).mono ?_); rintro e w3 ⟨rfl, hb⟩)
    have L := (L.call hb).box 0 d
    clear hb a0 a1 o0 o1
    have a0 := L.n 4 rfl; have a1 := L.d 4 rfl
    go_upto_region 7 with (go_at_call 14; (with_reducible refine (su _).mono ?_); rintro e w4 ⟨rfl, hb⟩)
    have L := (L.call hb).box 0 1
    clear hb a0 a1
    have a0 := L.n 5 rfl; have a1 := L.d 5 rfl
    go_upto_region 8 with (go_at_call 16; (with_reducible refine (dv _).mono ?_); rintro e w5 ⟨rfl, hb⟩)
    have L := (L.call hb).box 0 0
    clear hb a0 a1
    have a0 := L.n 6 rfl; have a1 := L.d 6 rfl; have z0 := L.n 5 rfl; have z1 := L.d 5 rfl
    go_upto_region 9 with (go_at_call 15; (with_reducible refine (mz _).mono ?_); rintro e w6 ⟨rfl, hb⟩)
    have L := (L.call hb).box 0 1
    clear hb a0 a1 z0 z1
    have a0 := L.n 7 rfl; have a1 := L.d 7 rfl; have z0 := L.n 6 rfl; have z1 := L.d 6 rfl; have o0 := L.n 5 rfl; have o1 := L.d 5 rfl
    have s0 := L.n 4 rfl; have s1 := L.d 4 rfl; have p0 := L.n 3 rfl; have p1 := L.d 3 rfl; have d0 := L.n 2 rfl; have d1 := L.d 2 rfl; have q0 := L.n 1 rfl; have q1 := L.d 1 rfl; have y0 := L.n 0 rfl; have y1 := L.d 0 rfl
    go_wp2_with fail
    go_ret
    exact ⟨rfl, L.below⟩
  · have dv := fun w => div_to v v hn Valid.one (by push_cast; simp [Int.mul_comm]) w
    simp only [Int.natCast_one] at dv
    have hn1 : (n == 0) = false := by simpa using hn
    have hn2 : (n != 0) = true := by simpa using hn
    have V := Lib.hid v
    clear v hn
    go_enter Try.func6, Try.ntmps6
    go_upto_region 3 with (first
      | (go_at_call 9; (with_reducible refine (awake_yes _).mono ?_); rintro e w1 ⟨rfl, hb⟩; have L := L.call hb; have a0 := L.n 0 rfl; have a1 := L.d 0 rfl)
      | (go_at_call 12; (with_reducible refine (ra _).mono ?_); rintro e w1 ⟨rfl, hb⟩; have L := L.call hb))
    go_upto_region 4 with fail
    have L := (L.box 0 1).boxAt 1 1 (w1.heap.size + 1) (by simp)
    have a0 := L.n 2 rfl; have a1 := L.d 2 rfl; have z0 := L.n 1 rfl; have z1 := L.d 1 rfl
    go_upto_region 5 with (go_at_call 13; (with_reducible refine (ad _).mono ?_); rintro e w2 ⟨rfl, hb⟩)
    have L := (L.call hb).box n d
    clear hb a0 a1 z0 z1
    have a0 := L.n 3 rfl; have a1 := L.d 3 rfl; have o0 := L.n 1 rfl; have o1 := L.d 1 rfl
    go_upto_region 6 with (go_at_call 15; (with_reducible refine (mu _).mono ?_); rintro e w3 ⟨rfl, hb⟩)
    have L := (L.call hb).box n d
    clear hb a0 a1 o0 o1
    have a0 := L.n 4 rfl; have a1 := L.d 4 rfl
    go_upto_region 7 with (go_at_call 14; (with_reducible refine (su _).mono ?_); rintro e w4 ⟨rfl, hb⟩)
    have L := (L.call hb).box 0 1
    clear hb a0 a1
    have a0 := L.n 5 rfl; have a1 := L.d 5 rfl
    go_upto_region 8 with (go_at_call 16; (with_reducible refine (dv _).mono ?_); rintro e w5 ⟨rfl, hb⟩)
    have L := (L.call hb).box 1 1
    clear hb a0 a1
    have a0 := L.n 6 rfl; have a1 := L.d 6 rfl; have z0 := L.n 5 rfl; have z1 := L.d 5 rfl
    go_upto_region 9 with (go_at_call 15; (with_reducible refine (mz _).mono ?_); rintro e w6 ⟨rfl, hb⟩)
    have L := (L.call hb).box 0 1
    clear hb a0 a1 z0 z1
    have a0 := L.n 7 rfl; have a1 := L.d 7 rfl; have z0 := L.n 6 rfl; have z1 := L.d 6 rfl; have o0 := L.n 5 rfl; have o1 := L.d 5 rfl
    have s0 := L.n 4 rfl; have s1 := L.d 4 rfl; have p0 := L.n 3 rfl; have p1 := L.d 3 rfl; have d0 := L.n 2 rfl; have d1 := L.d 2 rfl; have q0 := L.n 1 rfl; have q1 := L.d 1 rfl; have y0 := L.n 0 rfl; have y1 := L.d 0 rfl
    go_wp2_with fail
    go_ret
    exact ⟨rfl, L.below⟩
end Go.Proofs.Ytjgbiecfjjdogaa
