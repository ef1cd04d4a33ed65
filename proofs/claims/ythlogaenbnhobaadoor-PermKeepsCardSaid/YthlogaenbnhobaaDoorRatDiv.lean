/-
  The walks of math/bits.Div64 and Rem64. Conditions: the divisor is greater than the upper half; all are 64 bits. (Template: by-name.py fills it.)
-/
import Derived.Test.YthlogaenbnhobaaDoorRatA
import Derived.Test.YthlogaenbnhobaaDoorRatM
import Derived.Test.YthlogaenbnhobaaDoorShelf
import Derived.Laws.BitsAllLaws
import Derived.Deep.DeepCutAuto
import Derived.Deep.CutBlock
import Derived.Deep.LoopGhost
namespace Go.Proofs.YthlogaenbnhobaaDoor
open Go.RowKit

theorem up2 (k : Nat) : (2 : Int) ^ k = ((2 ^ k : Nat) : Int) := (Int.natCast_pow 2 k).symm
theorem shl_wrap (a k : Nat) : IntKind.u64.wrap ((a : Int) * 2 ^ k) = ((a * 2 ^ k % 18446744073709551616 : Nat) : Int) := by
  rw [up2, Mul64.mulN, Mul64.wrapM]
theorem shr_div (a k : Nat) : (a : Int) / 2 ^ k = ((a / 2 ^ k : Nat) : Int) := by
  rw [up2]; exact (Int.natCast_ediv a (2 ^ k)).symm
theorem or_shift (hi lo k : Nat) (hk : k ≤ 64) (h : hi * 2 ^ k < 18446744073709551616) (hlo : lo < 18446744073709551616) :
    bits .or .u64 (IntKind.u64.wrap ((hi : Int) * 2 ^ k)) ((lo : Int) / 2 ^ (64 - k)) = (((hi * 18446744073709551616 + lo) * 2 ^ k / 18446744073709551616 : Nat) : Int) := by
  rw [shl_wrap, shr_div, Nat.mod_eq_of_lt h]
  have e : 2 ^ (64 - k) * 2 ^ k = 18446744073709551616 := by rw [← Nat.pow_add, Nat.sub_add_cancel hk]
  have hp : 0 < 2 ^ (64 - k) := Nat.two_pow_pos _
  have hq : 0 < 2 ^ k := Nat.two_pow_pos _
  have hl : lo / 2 ^ (64 - k) < 2 ^ k := by rw [Nat.div_lt_iff_lt_mul hp, Nat.mul_comm, e]; exact hlo
  have hl2 : lo / 2 ^ (64 - k) < 18446744073709551616 := Nat.lt_of_le_of_lt (Nat.div_le_self _ _) hlo
  rw [u64_or_nat _ _ h hl2]
  have o := Nat.two_pow_add_eq_or_of_lt hl hi
  rw [Nat.mul_comm] at o
  rw [← o]
  have d : (hi * 18446744073709551616 + lo) * 2 ^ k / 18446744073709551616 = hi * 2 ^ k + lo / 2 ^ (64 - k) := by
    have r : (hi * 18446744073709551616 + lo) * 2 ^ k = lo * 2 ^ k + 18446744073709551616 * (hi * 2 ^ k) := by
      rw [Nat.add_mul, Nat.mul_assoc, Nat.mul_comm 18446744073709551616 (2 ^ k), ← Nat.mul_assoc, Nat.mul_comm (hi * 2 ^ k), Nat.add_comm]
    rw [r, Nat.add_mul_div_left _ _ (by decide), Nat.add_comm]
    congr 1
    rw [← e]
    exact Nat.mul_div_mul_right _ _ hq
  rw [d]

/-- The numbers of the division, moved up. -/
structure Moved (hi lo y k y1 y0 U t1 t0 : Nat) : Prop where
  small : k ≤ 64
  div : y * 2 ^ k = y1 * 4294967296 + y0
  top : U = (hi * 18446744073709551616 + lo) * 2 ^ k / 18446744073709551616
  low : lo * 2 ^ k % 18446744073709551616 = t1 * 4294967296 + t0
  all : (hi * 18446744073709551616 + lo) * 2 ^ k = (U * 4294967296 + t1) * 4294967296 + t0
  top_lt : U < y1 * 4294967296 + y0
  y1_ge : 2147483648 ≤ y1
  y1_lt : y1 < 4294967296
  y0_lt : y0 < 4294967296
  t1_lt : t1 < 4294967296
  t0_lt : t0 < 4294967296
  no_wrap : hi * 2 ^ k < 18446744073709551616

theorem moved (hi lo y : Nat) (h1 : hi < y) (h2 : lo < 18446744073709551616) (h3 : y < 18446744073709551616) :
    ∃ k y1 y0 U t1 t0, Moved hi lo y k y1 y0 U t1 t0 ∧ k = 64 - Lib.bitLen y := by
  obtain ⟨b1, b2, b3, b4⟩ := RatM.noughts y (by omega) h3
  obtain ⟨k, hk⟩ : ∃ k, k = 64 - Lib.bitLen y := ⟨_, rfl⟩
  rw [← hk] at b3 b4
  have hm : (hi + 1) * 2 ^ k ≤ y * 2 ^ k := Nat.mul_le_mul_right _ h1
  rw [Nat.add_mul, Nat.one_mul] at hm
  have hq : 0 < 2 ^ k := Nat.two_pow_pos _
  have hlt : (hi * 18446744073709551616 + lo) * 2 ^ k / 18446744073709551616 < y * 2 ^ k := by
    rw [Nat.div_lt_iff_lt_mul (by decide), Nat.mul_right_comm]
    refine (Nat.mul_lt_mul_right hq).2 ?_
    omega
  have ha := Nat.div_add_mod ((hi * 18446744073709551616 + lo) * 2 ^ k) 18446744073709551616
  have hb : (hi * 18446744073709551616 + lo) * 2 ^ k % 18446744073709551616 = lo * 2 ^ k % 18446744073709551616 := by
    rw [Nat.add_mul, Nat.mul_right_comm, Nat.mul_add_mod_self_right]
  rw [hb] at ha
  refine ⟨k, y * 2 ^ k / 4294967296, y * 2 ^ k % 4294967296, _, lo * 2 ^ k % 18446744073709551616 / 4294967296, lo * 2 ^ k % 18446744073709551616 % 4294967296, ⟨by omega, ?_, rfl, ?_, ?_, ?_, ?_, ?_, ?_, ?_, ?_, by omega⟩, hk⟩
  all_goals omega

theorem first_digit (u y : Nat) (hu : u < 18446744073709551616) : IntKind.u64.wrap ((u : Int) / (y : Int)) = ((u / y : Nat) : Int) := by
  have : ((u / y : Nat) : Int) = (u : Int) / (y : Int) := Int.natCast_ediv u y
  rw [← this, Mul64.wrapN _ (Nat.lt_of_le_of_lt (Nat.div_le_self _ _) hu)]
theorem first_rest (u y : Nat) (hu : u < 18446744073709551616) :
    IntKind.u64.wrap ((u : Int) - IntKind.u64.wrap (IntKind.u64.wrap ((u : Int) / (y : Int)) * (y : Int))) = ((u % y : Nat) : Int) := by
  rw [first_digit u y hu, Mul64.mulN]
  have h := Nat.div_add_mod' u y
  rw [Mul64.wrapN _ (by omega), IntWalk.u64_in _ (by omega)]
  omega

theorem wrap_rem (a b Y : Nat) (hY : 0 < Y) (hY2 : Y < 18446744073709551616) :
    IntKind.u64.wrap (IntKind.u64.wrap (IntKind.u64.wrap ((a : Int) * 4294967296) + (b : Int)) - IntKind.u64.wrap ((((a * 4294967296 + b) / Y : Nat) : Int) * (Y : Int))) = (((a * 4294967296 + b) % Y : Nat) : Int) := by
  have d := Nat.div_add_mod' (a * 4294967296 + b) Y
  have l := Nat.mod_lt (a * 4294967296 + b) hY
  rw [Mul64.mulN]
  obtain ⟨P, hP⟩ : ∃ P, P = (a * 4294967296 + b) / Y * Y := ⟨_, rfl⟩
  obtain ⟨R, hR⟩ : ∃ R, R = (a * 4294967296 + b) % Y := ⟨_, rfl⟩
  rw [← hP, ← hR] at d
  rw [← hR] at l
  rw [← hP, ← hR]
  simp only [IntKind.wrap_u64]
  omega

theorem ret_two {k l : IntKind} {a b c d : Int} (h : a = b) (h2 : c = d) : Ending.returned (.tuple #[.int k a, .int l c]) = .returned (.tuple #[.int k b, .int l d]) := by rw [h, h2]

/-- What holds at the head of each of the two loops: the digit's estimate and its rest. -/
def Estimate (u y1 y0 v : Nat) (w : World) (g : Nat) (a b : Value) (wx : World) : Prop := w = wx ∧ ∃ r : Nat, RatM.Inv u y1 y0 v g r ∧ a = .int .u64 g ∧ b = .int .u64 r

theorem out_of (k : Nat) (y : Nat) (e : k = 64 - Lib.bitLen y) (hb : Lib.bitLen y ≤ 64) : (64 : Int) - (Lib.bitLen y : Int) = ((k : Nat) : Int) := by omega

set_option maxRecDepth 100000 in
set_option maxHeartbeats 1000000 in
theorem div64_any (hi lo y : Nat) (w : World) (h1 : hi < y) (h2 : lo < 18446744073709551616) (h3 : y < 18446744073709551616) (h4 : 0 < hi) :
    Calls Tryd.prog 48 #[.int .u64 hi, .int .u64 lo, .int .u64 y] w fun e w' => e = .returned (.tuple #[.int .u64 ((hi * 18446744073709551616 + lo) / y : Nat), .int .u64 ((hi * 18446744073709551616 + lo) % y : Nat)]) ∧ w = w' := by
  obtain ⟨k, y1, y0, U, t1, t0, M, hk⟩ := moved hi lo y h1 h2 h3
  have K := Lib.hid hk
  have lz : ∀ w, Calls Tryd.prog 52 #[.int .u64 y] w fun e w' => e = .returned (.int .i64 (k : Nat)) ∧ w = w' := by
    intro w
    have := Tryd.bits_LeadingZeros64 (y : Int) w (by omega) (by omega)
    simp only [Int.toNat_natCast] at this
    rw [out_of k y hk (RatM.noughts y (by omega) h3).1] at this
    exact this.mono fun _ _ ⟨he, hw⟩ => ⟨he, hw.symm⟩
  clear hk
  have hk64 := M.small
  obtain ⟨Y, hY⟩ : ∃ Y, Y = y1 * 4294967296 + y0 := ⟨_, rfl⟩
  obtain ⟨T, hT⟩ : ∃ T, T = t1 * 4294967296 + t0 := ⟨_, rfl⟩
  obtain ⟨Q1, hQ1⟩ : ∃ Q1, Q1 = (U * 4294967296 + t1) / (y1 * 4294967296 + y0) := ⟨_, rfl⟩
  have KY := Lib.hid hY
  have KT := Lib.hid hT
  have KQ := Lib.hid hQ1
  clear hY hT hQ1
  go_enter Tryd.func48, Tryd.ntmps48
  go_upto_region 14 with (go_at_call 52; refine (lz _).mono ?_; rintro e w' ⟨rfl, rfl⟩)
  go_cut [2, 8, 9, 10, 11, 12, 13, 14] (fun v2 v8 v9 v10 v11 v12 v13 v14 wx => v2 = .int .u64 (Y : Nat) ∧ v8 = .int .u64 (k : Nat) ∧
    v9 = .int .u64 (y1 : Nat) ∧ v10 = .int .u64 (y0 : Nat) ∧ v11 = .int .u64 (U : Nat) ∧ v12 = .int .u64 (T : Nat) ∧ v13 = .int .u64 (t1 : Nat) ∧ v14 = .int .u64 (t0 : Nat) ∧ w = wx)
  case first =>
    go_wp2_with fail
    go_meet
    have d := M.div
    have l := M.low
    have a1 : IntKind.u64.wrap ((y : Int) * 2 ^ k) = ((y1 * 4294967296 + y0 : Nat) : Int) := by
      rw [shl_wrap, d, Nat.mod_eq_of_lt]
      have := M.y1_lt; have := M.y0_lt; omega
    have a2 : IntKind.u64.wrap ((lo : Int) * 2 ^ k) = ((t1 * 4294967296 + t0 : Nat) : Int) := by rw [shl_wrap, l]
    have a3 := or_shift hi lo k hk64 M.no_wrap h2
    rw [← M.top] at a3
    have b1 := M.y1_lt; have b2 := M.y0_lt; have b3 := M.t1_lt; have b4 := M.t0_lt
    rw [a1, a2, a3, Mul64.maskN _ (by omega), Mul64.maskN _ (by omega), KY.out, KT.out]
    refine ⟨rfl, rfl, ?_, ?_, rfl, rfl, ?_, ?_, rfl⟩
    all_goals
      congr 1
      omega
  case rest =>
    obtain ⟨rfl, rfl, rfl, rfl, rfl, rfl, rfl, rfl, rfl⟩ := hcut
    have e1 : 2147483648 ≤ y1 := M.y1_ge
    have e2 : y1 < 4294967296 := M.y1_lt
    have e3 : y0 < 4294967296 := M.y0_lt
    have e4 : t1 < 4294967296 := M.t1_lt
    have e5 : t0 < 4294967296 := M.t0_lt
    have e6 : U < y1 * 4294967296 + y0 := M.top_lt
    have n1 : ((y1 : Int) == 0) = false := by simp; omega
    go_upto_block 0 with fail
    rw [first_rest U y1 (by omega), first_digit U y1 (by omega)]
    go_cut [15, 16] (fun v15 v16 wx => v15 = .int .u64 (Q1 : Nat) ∧ w = wx)
    case first =>
      go_wp2_with fail
      go_loopg [15, 16] (U / y1) (fun g v15 v16 wx => Estimate U y1 y0 t1 w g v15 v16 wx)
      case atStart => exact ⟨rfl, U % y1, RatM.start e1 e2 e3 e6 e4, rfl, rfl⟩
      case round =>
        obtain ⟨rfl, r, I, rfl, rfl⟩ := hrel
        have E := Lib.hid (And.intro e1 (And.intro e2 (And.intro e3 (And.intro e4 (And.intro e5 e6)))))
        have r1 := I.rest
        have r2 := I.top
        have HI := Lib.hid I
        have w1 : IntKind.u64.wrap ((r : Int) + (y1 : Int)) = ((r + y1 : Nat) : Int) := by rw [Mul64.addN, Mul64.wrapN _ (by omega)]
        have w3 : IntKind.u64.wrap (4294967296 * (r : Int)) = ((4294967296 * r : Nat) : Int) := by rw [IntWalk.u64_in _ (by omega)]; omega
        have w4 : IntKind.u64.wrap (((4294967296 * r : Nat) : Int) + (t1 : Int)) = ((4294967296 * r + t1 : Nat) : Int) := by rw [Mul64.addN, Mul64.wrapN _ (by omega)]
        obtain ⟨s1, hs1⟩ : ∃ s1, s1 = r + y1 := ⟨_, rfl⟩
        obtain ⟨s3, hs3⟩ : ∃ s3, s3 = 4294967296 * r := ⟨_, rfl⟩
        obtain ⟨s4, hs4⟩ : ∃ s4, s4 = 4294967296 * r + t1 := ⟨_, rfl⟩
        rw [← hs1] at w1
        rw [← hs4, ← hs3] at w4
        rw [← hs3] at w3
        have S := Lib.hid (And.intro hs1 (And.intro hs3 hs4))
        have R := Lib.hid (And.intro r1 r2)
        clear I e1 e2 e3 e4 e5 e6 h1 h2 h3 h4 hs1 hs3 hs4 r1 r2 n1
        by_cases hb : 4294967296 ≤ gk
        · have d1 : decide ((4294967296 : Int) ≤ (gk : Int)) = true := decide_eq_true (by omega)
          have w2 : IntKind.u64.wrap ((gk : Int) - 1) = ((gk - 1 : Nat) : Int) := by have := R.out; rw [IntWalk.u64_in _ (by omega)]; omega
          have B := Lib.hid (Or.inl hb : 4294967296 ≤ gk ∨ r * 4294967296 + t1 < gk * y0)
          have B1 := Lib.hid (show 1 ≤ gk by omega)
          clear hb
          by_cases hr : s1 < 4294967296
          · have d2 : decide ((4294967296 : Int) ≤ (s1 : Int)) = false := decide_eq_false (by omega)
            have Z := Lib.hid hr
            clear hr
            go_wp2
            go_roundg (gk - 1)
            case measure => have := B1.out; omega
            case rel => exact ⟨rfl, s1, by have := S.out; have := E.out; rw [S.out.1]; exact RatM.step HI.out (by omega) (by omega) (by omega) B.out (by have := Z.out; omega), rfl, rfl⟩
          · have d2 : decide ((4294967296 : Int) ≤ (s1 : Int)) = true := decide_eq_true (by omega)
            have Z := Lib.hid hr
            clear hr
            go_wp2
            go_meet
            exact ⟨by have := S.out; have := E.out; have := Z.out; rw [KQ.out, RatM.left HI.out (by omega) (by omega) (by omega) (by omega) B.out (by omega)], rfl⟩
        · have hP : gk * y0 < 18446744073709551616 := by
            have := E.out
            have := Nat.mul_le_mul (show gk ≤ 4294967295 by omega) (show y0 ≤ 4294967295 by omega)
            omega
          have d1 : decide ((4294967296 : Int) ≤ (gk : Int)) = false := decide_eq_false (by omega)
          have w5 : IntKind.u64.wrap ((gk : Int) * (y0 : Int)) = ((gk * y0 : Nat) : Int) := by rw [Mul64.mulN, Mul64.wrapN _ hP]
          obtain ⟨P, hPe⟩ : ∃ P, P = gk * y0 := ⟨_, rfl⟩
          rw [← hPe] at w5
          have HP := Lib.hid hPe
          clear hP hPe hb
          by_cases hc : s4 < P
          · have d3 : decide (s4 < P) = true := decide_eq_true hc
            have hg1 : 1 ≤ gk := by
              rcases Nat.eq_zero_or_pos gk with h | h
              · have := HP.out; rw [h, Nat.zero_mul] at this; omega
              · exact h
            have w2 : IntKind.u64.wrap ((gk : Int) - 1) = ((gk - 1 : Nat) : Int) := by have := R.out; rw [IntWalk.u64_in _ (by omega)]; omega
            have B := Lib.hid (Or.inr (by have := S.out; have := HP.out; omega) : 4294967296 ≤ gk ∨ r * 4294967296 + t1 < gk * y0)
            have B1 := Lib.hid hg1
            clear hg1 hc
            by_cases hr : s1 < 4294967296
            · have d2 : decide ((4294967296 : Int) ≤ (s1 : Int)) = false := decide_eq_false (by omega)
              have Z := Lib.hid hr
              clear hr
              go_wp2
              go_roundg (gk - 1)
              case measure => have := B1.out; omega
              case rel => exact ⟨rfl, s1, by have := S.out; have := E.out; rw [S.out.1]; exact RatM.step HI.out (by omega) (by omega) (by omega) B.out (by have := Z.out; omega), rfl, rfl⟩
            · have d2 : decide ((4294967296 : Int) ≤ (s1 : Int)) = true := decide_eq_true (by omega)
              have Z := Lib.hid hr
              clear hr
              go_wp2
              go_meet
              exact ⟨by have := S.out; have := E.out; have := Z.out; rw [KQ.out, RatM.left HI.out (by omega) (by omega) (by omega) (by omega) B.out (by omega)], rfl⟩
          · have d3 : decide (s4 < P) = false := decide_eq_false hc
            have B := Lib.hid (show gk * y0 ≤ r * 4294967296 + t1 by have := S.out; have := HP.out; omega)
            clear hc
            go_wp2
            go_meet
            exact ⟨by have := E.out; rw [KQ.out, RatM.right HI.out (by omega) B.out], rfl⟩
    case rest =>
      obtain ⟨rfl, rfl⟩ := hcut
      clear e6
      obtain ⟨R1, hR1⟩ : ∃ R1, R1 = (U * 4294967296 + t1) % (y1 * 4294967296 + y0) := ⟨_, rfl⟩
      have KR := Lib.hid hR1
      have e6 : R1 < y1 * 4294967296 + y0 := by rw [hR1]; exact Nat.mod_lt _ (by omega)
      obtain ⟨Q0, hQ0⟩ : ∃ Q0, Q0 = (R1 * 4294967296 + t0) / (y1 * 4294967296 + y0) := ⟨_, rfl⟩
      have KQ0 := Lib.hid hQ0
      clear hR1 hQ0
      have w17 : IntKind.u64.wrap (IntKind.u64.wrap (IntKind.u64.wrap ((U : Int) * 4294967296) + (t1 : Int)) - IntKind.u64.wrap ((Q1 : Int) * (Y : Int))) = (R1 : Int) := by
        rw [KQ.out, KY.out, KR.out]
        exact wrap_rem _ _ _ (by omega) (by omega)
      go_upto_region 21 with fail
      go_cut [17] (fun v17 wx => v17 = .int .u64 (R1 : Nat) ∧ w = wx)
      case first =>
        go_wp2_with fail
        go_meet
        exact ⟨rfl, rfl⟩
      case rest =>
        obtain ⟨rfl, rfl⟩ := hcut
        go_upto_block 2 with fail
        rw [first_rest R1 y1 (by omega), first_digit R1 y1 (by omega)]
        go_cut [16, 18] (fun v16 v18 wx => v18 = .int .u64 (Q0 : Nat) ∧ w = wx)
        case first =>
          go_wp2_with fail
          go_loopg [16, 18] (R1 / y1) (fun g v16 v18 wx => Estimate R1 y1 y0 t0 w g v18 v16 wx)
          case atStart => exact ⟨rfl, R1 % y1, RatM.start e1 e2 e3 e6 e5, rfl, rfl⟩
          case round =>
            obtain ⟨rfl, r, I, rfl, rfl⟩ := hrel
            have E := Lib.hid (And.intro e1 (And.intro e2 (And.intro e3 (And.intro e4 (And.intro e5 e6)))))
            have r1 := I.rest
            have r2 := I.top
            have HI := Lib.hid I
            have w1 : IntKind.u64.wrap ((r : Int) + (y1 : Int)) = ((r + y1 : Nat) : Int) := by rw [Mul64.addN, Mul64.wrapN _ (by omega)]
            have w3 : IntKind.u64.wrap (4294967296 * (r : Int)) = ((4294967296 * r : Nat) : Int) := by rw [IntWalk.u64_in _ (by omega)]; omega
            have w4 : IntKind.u64.wrap (((4294967296 * r : Nat) : Int) + (t0 : Int)) = ((4294967296 * r + t0 : Nat) : Int) := by rw [Mul64.addN, Mul64.wrapN _ (by omega)]
            obtain ⟨s1, hs1⟩ : ∃ s1, s1 = r + y1 := ⟨_, rfl⟩
            obtain ⟨s3, hs3⟩ : ∃ s3, s3 = 4294967296 * r := ⟨_, rfl⟩
            obtain ⟨s4, hs4⟩ : ∃ s4, s4 = 4294967296 * r + t0 := ⟨_, rfl⟩
            rw [← hs1] at w1
            rw [← hs4, ← hs3] at w4
            rw [← hs3] at w3
            have S := Lib.hid (And.intro hs1 (And.intro hs3 hs4))
            have R := Lib.hid (And.intro r1 r2)
            clear I e1 e2 e3 e4 e5 e6 h1 h2 h3 h4 hs1 hs3 hs4 r1 r2 n1
            by_cases hb : 4294967296 ≤ gk
            · have d1 : decide ((4294967296 : Int) ≤ (gk : Int)) = true := decide_eq_true (by omega)
              have w2 : IntKind.u64.wrap ((gk : Int) - 1) = ((gk - 1 : Nat) : Int) := by have := R.out; rw [IntWalk.u64_in _ (by omega)]; omega
              have B := Lib.hid (Or.inl hb : 4294967296 ≤ gk ∨ r * 4294967296 + t0 < gk * y0)
              have B1 := Lib.hid (show 1 ≤ gk by omega)
              clear hb
              by_cases hr : s1 < 4294967296
              · have d2 : decide ((4294967296 : Int) ≤ (s1 : Int)) = false := decide_eq_false (by omega)
                have Z := Lib.hid hr
                clear hr
                go_wp2
                go_roundg (gk - 1)
                case measure => have := B1.out; omega
                case rel => exact ⟨rfl, s1, by have := S.out; have := E.out; rw [S.out.1]; exact RatM.step HI.out (by omega) (by omega) (by omega) B.out (by have := Z.out; omega), rfl, rfl⟩
              · have d2 : decide ((4294967296 : Int) ≤ (s1 : Int)) = true := decide_eq_true (by omega)
                have Z := Lib.hid hr
                clear hr
                go_wp2
                go_meet
                exact ⟨by have := S.out; have := E.out; have := Z.out; rw [KQ0.out, RatM.left HI.out (by omega) (by omega) (by omega) (by omega) B.out (by omega)], rfl⟩
            · have hP : gk * y0 < 18446744073709551616 := by
                have := E.out
                have := Nat.mul_le_mul (show gk ≤ 4294967295 by omega) (show y0 ≤ 4294967295 by omega)
                omega
              have d1 : decide ((4294967296 : Int) ≤ (gk : Int)) = false := decide_eq_false (by omega)
              have w5 : IntKind.u64.wrap ((gk : Int) * (y0 : Int)) = ((gk * y0 : Nat) : Int) := by rw [Mul64.mulN, Mul64.wrapN _ hP]
              obtain ⟨P, hPe⟩ : ∃ P, P = gk * y0 := ⟨_, rfl⟩
              rw [← hPe] at w5
              have HP := Lib.hid hPe
              clear hP hPe hb
              by_cases hc : s4 < P
              · have d3 : decide (s4 < P) = true := decide_eq_true hc
                have hg1 : 1 ≤ gk := by
                  rcases Nat.eq_zero_or_pos gk with h | h
                  · have := HP.out; rw [h, Nat.zero_mul] at this; omega
                  · exact h
                have w2 : IntKind.u64.wrap ((gk : Int) - 1) = ((gk - 1 : Nat) : Int) := by have := R.out; rw [IntWalk.u64_in _ (by omega)]; omega
                have B := Lib.hid (Or.inr (by have := S.out; have := HP.out; omega) : 4294967296 ≤ gk ∨ r * 4294967296 + t0 < gk * y0)
                have B1 := Lib.hid hg1
                clear hg1 hc
                by_cases hr : s1 < 4294967296
                · have d2 : decide ((4294967296 : Int) ≤ (s1 : Int)) = false := decide_eq_false (by omega)
                  have Z := Lib.hid hr
                  clear hr
                  go_wp2
                  go_roundg (gk - 1)
                  case measure => have := B1.out; omega
                  case rel => exact ⟨rfl, s1, by have := S.out; have := E.out; rw [S.out.1]; exact RatM.step HI.out (by omega) (by omega) (by omega) B.out (by have := Z.out; omega), rfl, rfl⟩
                · have d2 : decide ((4294967296 : Int) ≤ (s1 : Int)) = true := decide_eq_true (by omega)
                  have Z := Lib.hid hr
                  clear hr
                  go_wp2
                  go_meet
                  exact ⟨by have := S.out; have := E.out; have := Z.out; rw [KQ0.out, RatM.left HI.out (by omega) (by omega) (by omega) (by omega) B.out (by omega)], rfl⟩
              · have d3 : decide (s4 < P) = false := decide_eq_false hc
                have B := Lib.hid (show gk * y0 ≤ r * 4294967296 + t0 by have := S.out; have := HP.out; omega)
                clear hc
                go_wp2
                go_meet
                exact ⟨by have := E.out; rw [KQ0.out, RatM.right HI.out (by omega) B.out], rfl⟩
        case rest =>
          obtain ⟨rfl, rfl⟩ := hcut
          clear n1
          go_wp2_with fail
          go_ret2
          refine ⟨ret_two ?_ ?_, rfl⟩
          · have a := RatM.quo_lt M.top_lt e4
            have b := RatM.quo_lt e6 e5
            have m := M.all
            obtain ⟨c, _⟩ := RatM.two_digits _ (y1 * 4294967296 + y0) U t1 t0 (by omega) m
            rw [← M.div, (RatM.moved _ y k).1, M.div, ← KQ.out, ← KR.out, ← KQ0.out] at c
            rw [← KQ.out] at a
            rw [← KQ0.out] at b
            rw [c]
            simp only [IntKind.wrap_u64]
            omega
          · have m := M.all
            obtain ⟨_, c⟩ := RatM.two_digits _ (y1 * 4294967296 + y0) U t1 t0 (by omega) m
            have d := (RatM.moved (hi * 18446744073709551616 + lo) y k).2
            rw [M.div, c, ← KR.out] at d
            rw [KQ0.out, KY.out, wrap_rem _ _ _ (by omega) (by omega), shr_div, d]

set_option maxHeartbeats 400000 in
theorem div64_small (lo y : Nat) (w : World) (h1 : 0 < y) (h2 : lo < 18446744073709551616) (h3 : y < 18446744073709551616) :
    Calls Tryd.prog 48 #[.int .u64 0, .int .u64 lo, .int .u64 y] w fun e w' => e = .returned (.tuple #[.int .u64 (lo / y : Nat), .int .u64 (lo % y : Nat)]) ∧ ∃ n, w' = w.drewN n := by
  have a1 : ((y : Int) == 0) = false := by simp; omega
  have a2 : ((0 : Int) == 0) = true := rfl
  have a3 : decide ((y : Int) ≤ 0) = false := by simp; omega
  have a4 : ¬ ((y : Int) ≤ 0) := by omega
  have q1 : IntKind.u64.wrap ((lo : Int).tdiv (y : Int)) = ((lo / y : Nat) : Int) := by
    rw [IntWalk.u64_quo _ _ ⟨by omega, by omega, by omega⟩]; exact (Int.natCast_ediv lo y).symm
  go_enter Tryd.func48, Tryd.ntmps48
  go_wp2_with fail
  go_quiet (fail)
  go_wp2_with fail
  go_ret2
  exact ⟨ret_two (by first | rfl | exact q1) (by first | exact (Int.natCast_emod lo y).symm | rfl), _, rfl⟩

/-- Division of two words by one that is greater than the upper one. -/
theorem div64 (hi lo y : Nat) (w : World) (h1 : hi < y) (h2 : lo < 18446744073709551616) (h3 : y < 18446744073709551616) :
    Calls Tryd.prog 48 #[.int .u64 hi, .int .u64 lo, .int .u64 y] w (Drawn w (.tuple #[.int .u64 ((hi * 18446744073709551616 + lo) / y : Nat), .int .u64 ((hi * 18446744073709551616 + lo) % y : Nat)])) := by
  rcases Nat.eq_zero_or_pos hi with h | h
  · subst h
    rw [Nat.zero_mul, Nat.zero_add]
    exact div64_small lo y w h1 h2 h3
  · exact (div64_any hi lo y w h1 h2 h3 h).mono fun _ _ ⟨he, hw⟩ => ⟨he, 0, hw ▸ rfl⟩

set_option maxHeartbeats 400000 in
theorem rem64 (hi lo y : Nat) (w : World) (h0 : hi < 18446744073709551616) (h1 : 0 < y) (h2 : lo < 18446744073709551616) (h3 : y < 18446744073709551616) :
    Calls Tryd.prog 47 #[.int .u64 hi, .int .u64 lo, .int .u64 y] w (Drawn w (.int .u64 ((hi * 18446744073709551616 + lo) % y : Nat))) := by
  have e : (hi : Int) % (y : Int) = ((hi % y : Nat) : Int) := (Int.natCast_emod hi y).symm
  have t : (hi : Int).tmod (y : Int) = ((hi % y : Nat) : Int) := by rw [IntWalk.rem_in _ _ (by omega)]; exact e
  obtain ⟨r, hr⟩ : ∃ r, r = hi % y := ⟨_, rfl⟩
  have hlt : r < y := by rw [hr]; exact Nat.mod_lt _ h1
  rw [← hr] at e t
  have H := Lib.hid hr
  have a1 : ((y : Int) == 0) = false := by simp; omega
  have G : ((hi * 18446744073709551616 + lo) % y : Nat) = (r * 18446744073709551616 + lo) % y := by
    have d := Nat.div_add_mod hi y
    have e : hi * 18446744073709551616 + lo = (hi % y * 18446744073709551616 + lo) + y * (hi / y * 18446744073709551616) := by
      rw [← Nat.mul_assoc]; omega
    rw [e, Nat.add_mul_mod_self_left, ← hr]
  rw [G]
  have HG := Lib.hid G
  clear G hr
  have K := fun w => div64 r lo y w hlt h2 h3
  have HL := Lib.hid (And.intro hlt (And.intro h0 (And.intro h1 (And.intro h2 h3))))
  have hy : ¬ y = 0 := by omega
  clear hlt h0 h1 h2 h3
  obtain ⟨V, hV⟩ : ∃ V, V = (r * 18446744073709551616 + lo) / y := ⟨_, rfl⟩
  obtain ⟨R, hR⟩ : ∃ R, R = (r * 18446744073709551616 + lo) % y := ⟨_, rfl⟩
  rw [← hV, ← hR] at K
  rw [← hR]
  clear hV hR
  go_enter Tryd.func47, Tryd.ntmps47
  go_wp2_with (go_at_call 48; refine (K _).mono ?_; rintro e w' ⟨rfl, n, rfl⟩)
  go_ret
  exact ⟨rfl, n, rfl⟩

end Go.Proofs.YthlogaenbnhobaaDoor
