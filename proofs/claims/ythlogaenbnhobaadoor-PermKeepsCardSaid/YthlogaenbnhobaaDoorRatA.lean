/-
  The walks of package rat's small functions: size, divisor, negated, inverted, fit. Conditions: the numbers lie in their kinds. (Template: by-name.py fills it.)
-/
import Derived.Test.YthlogaenbnhobaaDoorRows
import Derived.WalkKit
import Derived.WalkSpells
import Derived.WalkLawsBesides
import Derived.IntWalk
import Derived.Lib.Hide
import Derived.WalkSmall
import Derived.Deep.QuietTactic
import Derived.BigQuiet
namespace Go.Proofs.YthlogaenbnhobaaDoor
open Go.RowKit

theorem ret_int {k : IntKind} {a b : Int} (h : a = b) : Ending.returned (.int k a) = .returned (.int k b) := by rw [h]

/-- A fraction as a value. -/
abbrev ratV (n d : Int) : Value := .agg #[.int .i64 n, .int .i64 d]

set_option maxHeartbeats 400000 in
theorem size_any (n : Int) (w : World) (h1 : -9223372036854775808 ≤ n) (h2 : n ≤ 9223372036854775807) :
    Calls Tryd.prog 38 #[.int .i64 n] w fun e w' => e = .returned (.int .u64 n.natAbs) ∧ w = w' := by
  by_cases h : n < 0
  · go_enter Tryd.func38, Tryd.ntmps38
    go_wp2
    go_ret
    exact ⟨ret_int (by rw [IntKind.wrap_u64, IntKind.wrap_u64]; omega), rfl⟩
  · go_enter Tryd.func38, Tryd.ntmps38
    go_wp2
    go_ret
    exact ⟨ret_int (by omega), rfl⟩

/-- A world that differs by draws alone. -/
def Drawn (w : World) (v : Value) (e : Ending) (w' : World) : Prop := e = .returned v ∧ ∃ n, w' = w.drewN n

set_option maxHeartbeats 800000 in
theorem divisor_any (a b : Nat) (w : World) (h1 : a < 18446744073709551616) (h2 : b < 18446744073709551616) :
    Calls Tryd.prog 37 #[.int .u64 a, .int .u64 b] w (Drawn w (.int .u64 (Nat.gcd a b : Nat))) := by
  go_enter Tryd.func37, Tryd.ntmps37
  go_wp2
  go_loopw [0, 1] (fun x y wr => ∃ p q n : Nat, p < 18446744073709551616 ∧ q < 18446744073709551616 ∧ x = .int .u64 p ∧ y = .int .u64 q ∧ Nat.gcd p q = Nat.gcd a b ∧ wr = w.drewN n) (fun _ y _ => (intOf y).toNat)
  case atStart => exact ⟨a, b, 0, h1, h2, rfl, rfl, rfl, rfl⟩
  case round =>
    obtain ⟨p, q, n, hp, hq, rfl, rfl, hg, rfl⟩ := hrel
    have HG : Hid (Nat.gcd p q = Nat.gcd a b) := hg
    clear hg
    by_cases hlt : q = 0
    · subst hlt
      go_wp2
      go_ret
      exact ⟨ret_int (by have := HG.out; rw [← this]; simp), n, rfl⟩
    · have hq0 : (0 : Int) < (q : Int) := by omega
      have hne : ((q : Int) == 0) = false := by simpa using hlt
      have hne' : ((q : Int) != 0) = true := by simpa using hlt
      go_wp2
      go_quiet (fail)
      go_wp2
      go_roundw
      case rel =>
        have e : (p : Int) % (q : Int) = ((p % q : Nat) : Int) := (Int.natCast_emod p q).symm
        exact ⟨q, p % q, _, hq, Nat.lt_trans (Nat.mod_lt p (by omega)) hq, rfl, by rw [e], by rw [← HG.out, Nat.gcd_comm p q, Nat.gcd_rec q p, Nat.gcd_comm], by rw [World.drewN_drewN]⟩
      case measure =>
        have e : (p : Int) % (q : Int) = ((p % q : Nat) : Int) := (Int.natCast_emod p q).symm
        have := Nat.mod_lt p (y := q) (by omega)
        rw [e]
        simp only [intOf]
        omega

set_option maxHeartbeats 400000 in
theorem negated_any (n d : Int) (w : World) (h1 : -9223372036854775807 ≤ n) (h2 : n ≤ 9223372036854775807) :
    Calls Tryd.prog 27 #[ratV n d] w fun e w' => e = .returned (ratV (-n) d) ∧ w' = (w.alloc (.cells #[.int .i64 n, .int .i64 d] 25)).alloc (.cells #[.int .i64 (-n), .int .i64 d] 25) := by
  go_enter Tryd.func27, Tryd.ntmps27
  go_wp2
  exact bodyPost_ret (v := ratV (-n) d) (by simp [results, Tryd.results27, go_sem]) rfl ⟨rfl, rfl⟩

/-- What 'fit' makes of a sign, a numerator and a denominator. -/
def fitE (n d : Nat) : Int := if n ≤ 9223372036854775807 ∧ d ≤ 9223372036854775807 then 0 else 3
def fitN (s : Bool) (n d : Nat) : Int := if n ≤ 9223372036854775807 ∧ d ≤ 9223372036854775807 then (if s then -(n : Int) else n) else 0
def fitD (n d : Nat) : Int := if n ≤ 9223372036854775807 ∧ d ≤ 9223372036854775807 then d else 0

set_option maxHeartbeats 400000 in
theorem fit_any (s : Bool) (n d : Nat) (w : World) (h1 : n < 18446744073709551616) (h2 : d < 18446744073709551616) :
    Calls Tryd.prog 40 #[.bool s, .int .u64 n, .int .u64 d] w fun e w' => e = .returned (.tuple #[ratV (fitN s n d) (fitD n d), .int .i64 (fitE n d)]) ∧ Below w.heap.size w w' := by
  unfold fitN fitD fitE
  by_cases h : n ≤ 9223372036854775807 ∧ d ≤ 9223372036854775807
  · simp only [if_pos h]
    obtain ⟨g1, g2⟩ := h
    cases s
    · simp only [Bool.false_eq_true, if_false]
      go_enter Tryd.func40, Tryd.ntmps40
      go_wp2_with (go_at_call 27; refine (negated_any _ _ _ (by omega) (by omega)).mono ?_; rintro e w' ⟨rfl, rfl⟩)
      exact bodyPost_ret (v := .tuple #[ratV n d, .int .i64 0]) (by simp [results, Tryd.results40, go_sem]) rfl ⟨rfl, ((Below.refl _ _).alloc (Nat.le_refl _) _).alloc (by simp) _⟩
    · simp only [if_true]
      go_enter Tryd.func40, Tryd.ntmps40
      go_wp2_with (go_at_call 27; refine (negated_any _ _ _ (by omega) (by omega)).mono ?_; rintro e w' ⟨rfl, rfl⟩)
      exact bodyPost_ret (v := .tuple #[ratV (-(n : Int)) d, .int .i64 0]) (by simp [results, Tryd.results40, go_sem]) rfl ⟨rfl, (((Below.refl _ _).alloc (Nat.le_refl _) _).alloc (by simp) _ |>.alloc (by simp; omega) _).alloc (by simp; omega) _⟩
  · simp only [if_neg h]
    by_cases g1 : n ≤ 9223372036854775807
    · have g2 : ¬ d ≤ 9223372036854775807 := fun g2 => h ⟨g1, g2⟩
      clear h
      go_enter Tryd.func40, Tryd.ntmps40
      go_wp2_with fail
      exact bodyPost_ret (v := .tuple #[ratV 0 0, .int .i64 3]) (by simp [results, Tryd.results40, go_sem]) rfl ⟨rfl, (Below.refl _ _).alloc (Nat.le_refl _) _⟩
    · clear h
      go_enter Tryd.func40, Tryd.ntmps40
      go_wp2_with fail
      exact bodyPost_ret (v := .tuple #[ratV 0 0, .int .i64 3]) (by simp [results, Tryd.results40, go_sem]) rfl ⟨rfl, (Below.refl _ _).alloc (Nat.le_refl _) _⟩
end Go.Proofs.YthlogaenbnhobaaDoor
