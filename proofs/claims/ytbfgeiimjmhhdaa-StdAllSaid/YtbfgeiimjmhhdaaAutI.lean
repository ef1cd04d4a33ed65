/-
  The walks of package auto's has, finals, ending and stuck. (Template: by-name.py fills it.)
-/
import Derived.Test.YtbfgeiimjmhhdaaAutH
import Derived.Laws.BitsAllLaws
namespace Go.Proofs.Ytbfgeiimjmhhdaa
open Go.RowKit

theorem bit_eq (s k : Nat) (hs : s < 4294967296) : (bits .and .u32 ((s : Int) / 2 ^ k) 1 == 1) = s.testBit k := by
  have e : (s : Int) / 2 ^ k = ((s / 2 ^ k : Nat) : Int) := by norm_cast
  have hl : s / 2 ^ k < 4294967296 := Nat.lt_of_le_of_lt (Nat.div_le_self _ _) hs
  rw [e, show (1 : Int) = ((1 : Nat) : Int) from rfl, u32_and_nat _ _ hl (by omega), Nat.and_one_is_mod, Nat.testBit_eq_decide_div_mod_eq]
  by_cases q : s / 2 ^ k % 2 = 1
  · rw [decide_eq_true q, q]; rfl
  · rw [decide_eq_false q, show s / 2 ^ k % 2 = 0 by omega]; rfl
theorem pow_lt32 {k : Nat} (hk : k < 32) : 2 ^ k < 4294967296 := by
  have : 2 ^ k ≤ 2 ^ 31 := Nat.pow_le_pow_right (by omega) (by omega)
  omega
theorem shl_eq {k : Nat} (hk : k < 32) : IntKind.u32.wrap (2 ^ k) = ((2 ^ k : Nat) : Int) := by
  have := pow_lt32 hk
  rw [IntKind.wrap_u32']
  have e : (2 : Int) ^ k = ((2 ^ k : Nat) : Int) := by norm_cast
  rw [e]
  generalize 2 ^ k = m at *
  omega
theorem or_eq {s k : Nat} (hs : s < 4294967296) (hk : k < 32) : bits .or .u32 (s : Int) ((2 : Int) ^ k) = ((s ||| 2 ^ k : Nat) : Int) := by
  have e : (2 : Int) ^ k = ((2 ^ k : Nat) : Int) := by norm_cast
  rw [e]
  exact u32_or_nat s _ hs (pow_lt32 hk)
theorem setF_small {f : Nat → Bool} {n : Nat} (hn : n ≤ 16) : setF f n < 4294967296 := by
  have := setF_lt f n
  have : 2 ^ n ≤ 2 ^ 16 := Nat.pow_le_pow_right (by omega) hn
  omega
end Go.Proofs.Ytbfgeiimjmhhdaa
