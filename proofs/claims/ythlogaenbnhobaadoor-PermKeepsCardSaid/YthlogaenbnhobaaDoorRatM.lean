/-
  Plain mathematics for package rat: long division by estimated digits. (No program is named here.)
-/
import Derived.Lib.ItoaNum
import Derived.Lib.BitFns
namespace Go.Proofs.YthlogaenbnhobaaDoor.RatM

theorem expand {q y1 r u : Nat} (y0 : Nat) (h : q * y1 + r = u) : q * (y1 * 4294967296 + y0) + r * 4294967296 = u * 4294967296 + q * y0 := by
  subst h
  rw [Nat.mul_add, ← Nat.mul_assoc, Nat.add_mul]; omega

/-- u: the upper digits; y1, y0: the divisor's digits; v: the next digit; q, r: the estimate. -/
structure Inv (u y1 y0 v q r : Nat) : Prop where
  sum : q * y1 + r = u
  top : q ≤ 4294967297
  low : (u * 4294967296 + v) / (y1 * 4294967296 + y0) ≤ q
  rest : r < 4294967296

theorem quo_lt {u Y v : Nat} (h : u < Y) (hv : v < 4294967296) : (u * 4294967296 + v) / Y < 4294967296 :=
  Nat.div_lt_of_lt_mul (by rw [Nat.mul_comm Y]; omega)

theorem start {u y1 y0 v : Nat} (h1 : 2147483648 ≤ y1) (h2 : y1 < 4294967296) (h3 : y0 < 4294967296) (h : u < y1 * 4294967296 + y0) (hv : v < 4294967296) : Inv u y1 y0 v (u / y1) (u % y1) where
  sum := Nat.div_add_mod' u y1
  top := by
    have : u / y1 < 4294967298 := by
      rw [Nat.div_lt_iff_lt_mul (by omega)]
      omega
    omega
  low := by
    rw [Nat.le_div_iff_mul_le (by omega)]
    have hq : (u * 4294967296 + v) / (y1 * 4294967296 + y0) * (y1 * 4294967296 + y0) ≤ u * 4294967296 + v := Nat.div_mul_le_self _ _
    revert hq
    generalize (u * 4294967296 + v) / (y1 * 4294967296 + y0) = q
    intro hq
    have e := expand (q := q) (y1 := y1) (r := 0) y0 rfl
    have := Nat.zero_le (q * y0)
    omega
  rest := by have := Nat.mod_lt u (y := y1) (by omega); omega

theorem below_of {Z T a b v : Nat} (e : Z + a = b + T) (ht : a + v < T) : b + v < Z := by omega

/-- The test of the loop says yes: the estimate is too great. -/
theorem too_great {u y1 y0 v q r : Nat} (I : Inv u y1 y0 v q r) (hY : 0 < y1 * 4294967296 + y0) (h : u < y1 * 4294967296 + y0) (hv : v < 4294967296)
    (ht : 4294967296 ≤ q ∨ r * 4294967296 + v < q * y0) : (u * 4294967296 + v) / (y1 * 4294967296 + y0) + 1 ≤ q := by
  rcases ht with ht | ht
  · exact Nat.lt_of_lt_of_le (quo_lt h hv) ht
  · have : (u * 4294967296 + v) / (y1 * 4294967296 + y0) < q := by
      rw [Nat.div_lt_iff_lt_mul hY]
      exact below_of (expand y0 I.sum) ht
    exact this

theorem step {u y1 y0 v q r : Nat} (I : Inv u y1 y0 v q r) (hY : 0 < y1 * 4294967296 + y0) (h : u < y1 * 4294967296 + y0) (hv : v < 4294967296)
    (ht : 4294967296 ≤ q ∨ r * 4294967296 + v < q * y0) (hr : r + y1 < 4294967296) : Inv u y1 y0 v (q - 1) (r + y1) where
  sum := by
    have := too_great I hY h hv ht
    obtain ⟨p, rfl⟩ : ∃ p, q = p + 1 := ⟨q - 1, (Nat.sub_add_cancel (Nat.le_trans (Nat.le_add_left _ _) this)).symm⟩
    have := I.sum
    rw [Nat.add_mul] at this
    simp only [Nat.add_sub_cancel]
    omega
  top := by have := I.top; omega
  low := by have g := too_great I hY h hv ht; exact Nat.le_sub_one_of_lt g
  rest := hr

/-- The test says no: the estimate is right. -/
theorem right {u y1 y0 v q r : Nat} (I : Inv u y1 y0 v q r) (hY : 0 < y1 * 4294967296 + y0)
    (ht : q * y0 ≤ r * 4294967296 + v) : q = (u * 4294967296 + v) / (y1 * 4294967296 + y0) := by
  refine Nat.le_antisymm ?_ I.low
  rw [Nat.le_div_iff_mul_le hY]
  have e := expand y0 I.sum
  omega

/-- The loop is left in its middle: the rest has grown beyond a digit. -/
theorem left {u y1 y0 v q r : Nat} (I : Inv u y1 y0 v q r) (hY : 0 < y1 * 4294967296 + y0) (h : u < y1 * 4294967296 + y0) (hv : v < 4294967296) (hy0 : y0 < 4294967296)
    (ht : 4294967296 ≤ q ∨ r * 4294967296 + v < q * y0) (hr : 4294967296 ≤ r + y1) : q - 1 = (u * 4294967296 + v) / (y1 * 4294967296 + y0) := by
  have g := too_great I hY h hv ht
  refine Nat.le_antisymm ?_ (Nat.le_sub_one_of_lt g)
  rw [Nat.le_div_iff_mul_le hY]
  obtain ⟨p, rfl⟩ : ∃ p, q = p + 1 := ⟨q - 1, (Nat.sub_add_cancel (Nat.le_trans (Nat.le_add_left _ _) g)).symm⟩
  have t := I.top
  have s := I.sum
  rw [Nat.add_mul] at s
  simp only [Nat.add_sub_cancel]
  have e2 : p * y1 + (r + y1) = u := by omega
  have e := expand y0 e2
  have b : p * y0 ≤ 4294967296 * y0 := Nat.mul_le_mul_right _ (by omega)
  omega

/-- Two digits of a quotient. -/
theorem two_digits (X Y u a b : Nat) (hY : 0 < Y) (hX : X = (u * 4294967296 + a) * 4294967296 + b) :
    X / Y = (u * 4294967296 + a) / Y * 4294967296 + ((u * 4294967296 + a) % Y * 4294967296 + b) / Y ∧
    X % Y = ((u * 4294967296 + a) % Y * 4294967296 + b) % Y := by
  have e := Nat.div_add_mod (u * 4294967296 + a) Y
  obtain ⟨Q, hQ⟩ : ∃ Q, Q = (u * 4294967296 + a) / Y := ⟨_, rfl⟩
  obtain ⟨R, hR⟩ : ∃ R, R = (u * 4294967296 + a) % Y := ⟨_, rfl⟩
  rw [← hQ, ← hR] at e
  rw [← hQ, ← hR]
  have hX2 : X = (R * 4294967296 + b) + Y * (Q * 4294967296) := by
    rw [hX, ← e, Nat.add_mul, ← Nat.mul_assoc]; omega
  rw [hX2]
  exact ⟨by rw [Nat.add_mul_div_left _ _ hY]; omega, by rw [Nat.add_mul_mod_self_left]⟩

/-- Numerator and divisor moved up by as many bits. -/
theorem moved (X y s : Nat) : X * 2 ^ s / (y * 2 ^ s) = X / y ∧ X * 2 ^ s % (y * 2 ^ s) / 2 ^ s = X % y := by
  have hp : 0 < 2 ^ s := Nat.two_pow_pos s
  refine ⟨Nat.mul_div_mul_right _ _ hp, ?_⟩
  rw [Nat.mul_mod_mul_right, Nat.mul_div_cancel _ hp]

/-- How many noughts stand before a number. -/
theorem noughts (y : Nat) (h0 : 0 < y) (h : y < 18446744073709551616) : Lib.bitLen y ≤ 64 ∧ 1 ≤ Lib.bitLen y ∧ 9223372036854775808 ≤ y * 2 ^ (64 - Lib.bitLen y) ∧ y * 2 ^ (64 - Lib.bitLen y) < 18446744073709551616 := by
  obtain ⟨h1, h2, h3⟩ := Lib.bitLenAux_bounds 64 y h (by omega)
  have hl : Lib.bitLen y ≤ 64 := Lib.bitLen_le y 64 (by omega) h
  change 1 ≤ Lib.bitLen y at h1
  change 2 ^ (Lib.bitLen y - 1) ≤ y at h2
  change y < 2 ^ Lib.bitLen y at h3
  generalize Lib.bitLen y = k at *
  have e1 : 2 ^ (k - 1) * 2 ^ (64 - k) = 2 ^ 63 := by rw [← Nat.pow_add]; congr 1; omega
  have e2 : 2 ^ k * 2 ^ (64 - k) = 2 ^ 64 := by rw [← Nat.pow_add]; congr 1; omega
  refine ⟨hl, h1, ?_, ?_⟩
  · have := Nat.mul_le_mul_right (2 ^ (64 - k)) h2
    rw [e1] at this; omega
  · have := (Nat.mul_lt_mul_right (Nat.two_pow_pos (64 - k))).2 h3
    rw [e2] at this; omega
end Go.Proofs.YthlogaenbnhobaaDoor.RatM
