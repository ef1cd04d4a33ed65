/-
  The walks of package lex's letter, digit, letterOrDigit, span, and of the reference's letter, digit, in. (Template: by-name.py fills it; gen/genLexB.py writes it.)
-/
import Derived.Test.YtabnjiijgbigbaaDoorRows
import Derived.Test.YtabnjiijgbigbaaDoorLexA
import Derived.Test.YtabnjiijgbigbaaDoorWords
import Derived.WalkKit
import Derived.WalkSpells
import Derived.WalkLawsBesides
import Derived.IntWalk
import Derived.Lib.Hide
import Derived.WalkSmall
import Derived.Deep.QuietTactic
import Derived.BigQuiet
import Derived.Deep.LoopGhost
import Derived.Lib.Strings
namespace Go.Proofs.YtabnjiijgbigbaaDoor
open Go.RowKit

theorem ret_int {k : IntKind} {a b : Int} (h : a = b) : Ending.returned (.int k a) = .returned (.int k b) := by rw [h]
theorem ret_bool {a b : Bool} (h : a = b) : Ending.returned (.bool a) = .returned (.bool b) := by rw [h]
/-- A text as a value. -/
abbrev txt (s : List UInt8) : Value := .string ⟨s.toArray⟩
/-- Nothing has turned. -/
def Still (w : World) (v : Value) (e : Ending) (w' : World) : Prop := e = .returned v ∧ w = w'

theorem byte_at {s : ByteArray} {k : Nat} (h : k < s.size) : s.data.toList[k]? = some s[k] := by
  rw [List.getElem?_eq_getElem (by simpa using h)]
  rfl
theorem drop_all {s : ByteArray} {k : Nat} (h : s.size ≤ k) : s.data.toList.drop k = [] := List.drop_eq_nil_of_le (by simpa using h)
theorem len_of (s : ByteArray) : s.data.toList.length = s.size := by simp

set_option maxHeartbeats 1000000 in
theorem letter_any (n : Nat) (w : World) :
    Calls Tryd.prog 62 #[.int .u8 n] w (Still w (.bool (letN n))) := by
  unfold letN
  go_enter Tryd.func62, Tryd.ntmps62
  go_wp2_with fail
  all_goals
    go_ret
    exact ⟨ret_bool (by
      rw [Bool.eq_iff_iff]
      simp only [Bool.or_eq_true, Bool.and_eq_true, decide_eq_true_eq]
      first | omega | (simp; omega)), rfl⟩

set_option maxHeartbeats 1000000 in
theorem digit_any (n : Nat) (w : World) :
    Calls Tryd.prog 74 #[.int .u8 n] w (Still w (.bool (digN n))) := by
  unfold digN
  go_enter Tryd.func74, Tryd.ntmps74
  go_wp2_with fail
  all_goals
    go_ret
    exact ⟨ret_bool (by
      rw [Bool.eq_iff_iff]
      simp only [Bool.and_eq_true, decide_eq_true_eq]
      first | omega | (simp; omega)), rfl⟩

set_option maxHeartbeats 1000000 in
theorem rletter_any (n : Nat) (w : World) :
    Calls Tryd.prog 57 #[.int .u8 n] w (Still w (.bool (letN n))) := by
  unfold letN
  go_enter Tryd.func57, Tryd.ntmps57
  go_wp2_with fail
  all_goals
    go_ret
    exact ⟨ret_bool (by
      rw [Bool.eq_iff_iff]
      simp only [Bool.or_eq_true, Bool.and_eq_true, decide_eq_true_eq]
      first | omega | (simp; omega)), rfl⟩

set_option maxHeartbeats 1000000 in
theorem rdigit_any (n : Nat) (w : World) :
    Calls Tryd.prog 58 #[.int .u8 n] w (Still w (.bool (digN n))) := by
  unfold digN
  go_enter Tryd.func58, Tryd.ntmps58
  go_wp2_with fail
  all_goals
    go_ret
    exact ⟨ret_bool (by
      rw [Bool.eq_iff_iff]
      simp only [Bool.and_eq_true, decide_eq_true_eq]
      first | omega | (simp; omega)), rfl⟩

set_option maxHeartbeats 1000000 in
theorem ld_any (n : Nat) (w : World) :
    Calls Tryd.prog 64 #[.int .u8 n] w (Still w (.bool (letN n || digN n))) := by
  have la := fun w => letter_any n w
  have da := fun w => digit_any n w
  generalize letN n = L at *
  generalize digN n = D at *
  cases L
  all_goals
    go_enter Tryd.func64, Tryd.ntmps64
    go_wp2_with (first
      | (go_at_call 62; (with_reducible refine (la _).mono ?_); rintro e w1 ⟨rfl, rfl⟩)
      | (go_at_call 74; (with_reducible refine (da _).mono ?_); rintro e w1 ⟨rfl, rfl⟩))
    go_ret
    exact ⟨rfl, rfl⟩

theorem isLD_eq (c : UInt8) : (letN c.toNat || digN c.toNat) = isLD c := rfl
theorem isDig_eq (c : UInt8) : digN c.toNat = isDig c := rfl
theorem isLet_eq (c : UInt8) : letN c.toNat = isLet c := rfl
theorem byte_eq (c d : UInt8) : decide (c.toNat = d.toNat) = (c == d) := by
  rw [Bool.eq_iff_iff]
  simp [UInt8.toNat_inj]
theorem ld_cases {c : UInt8} (h : isLD c = true) : isLet c = true ∨ (isLet c = false ∧ isDig c = true) := by
  have e : isLD c = (isLet c || isDig c) := rfl
  rw [e] at h
  generalize isLet c = a at *
  generalize isDig c = b at *
  clear e
  revert h
  revert a b
  decide
theorem ld_not {c : UInt8} (h : isLD c = false) : isLet c = false ∧ isDig c = false := by
  have e : isLD c = (isLet c || isDig c) := rfl
  rw [e] at h
  generalize isLet c = a at *
  generalize isDig c = b at *
  clear e
  revert h
  revert a b
  decide
theorem notNl_eq (c : UInt8) : (!decide (c.toNat = 10)) = notNl c := by
  unfold notNl
  rw [← byte_eq c 10]
  rfl

set_option maxHeartbeats 2000000 in
theorem span_ld (s : ByteArray) (w : World) (hs : s.size ≤ maxLen) :
    Calls Tryd.prog 63 #[.string s, .func (.func 64) #[] #[]] w (Still w (.int .i64 (spanL isLD s.data.toList))) := by
  unfold maxLen at hs
  obtain ⟨z, hz⟩ : ∃ z, z = spanL isLD s.data.toList := ⟨_, rfl⟩
  rw [← hz]
  have HZ := Lib.hid hz
  clear hz
  go_enter Tryd.func63, Tryd.ntmps63
  go_wp2_with fail
  go_loopg [5] s.size (fun g v5 wr => ∃ k : Nat, v5 = .int .i64 k ∧ k ≤ s.size ∧ g = s.size - k ∧ z = k + spanL isLD (s.data.toList.drop k) ∧ wr = w)
  case atStart => exact ⟨0, rfl, Nat.zero_le _, rfl, by rw [HZ.out]; simp, rfl⟩
  case round =>
    obtain ⟨k, rfl, hk, hg, hall, rfl⟩ := hrel
    have HA := Lib.hid hall
    clear hall
    by_cases hlt : k < s.size
    · have ca := fun w => ld_any s[k].toNat w
      have ce := isLD_eq s[k]
      have hb := byte_at hlt
      have HN := Lib.hid (fun hp => spanL_no (p := isLD) hb hp)
      have HY := Lib.hid (fun hp => spanL_yes (p := isLD) hb hp)
      rw [ce] at ca
      have i1 : (k : Int) < (s.size : Int) := by omega
      have i2 : (0 : Int) ≤ (k : Int) := by omega
      have wk : IntKind.i64.wrap ((k : Int) + 1) = (k : Int) + 1 := IntWalk.i64_in _ (by omega)
      have CA := Lib.hid ca
      have HK := Lib.hid (And.intro hlt hg)
      clear ca ce hb hg
      generalize isLD s[k] = R at *
      cases R
      · go_wp2_with (go_at_call 64; (with_reducible refine (CA.out _).mono ?_); rintro e w1 ⟨rfl, rfl⟩)
        go_ret
        exact ⟨ret_int (by have := HA.out; rw [HN.out trivial] at this; omega), rfl⟩
      · go_wp2_with (go_at_call 64; (with_reducible refine (CA.out _).mono ?_); rintro e w1 ⟨rfl, rfl⟩)
        go_roundg (s.size - (k + 1))
        case measure => have := HK.out; omega
        case rel => exact ⟨k + 1, by push_cast; rfl, by have := HK.out; omega, rfl, by have := HA.out; rw [HY.out trivial] at this; omega, rfl⟩
    · obtain rfl : k = s.size := by omega
      have HO := Lib.hid (spanL_off (p := isLD) (Nat.le_of_eq (len_of s)))
      clear hg hk hlt
      go_wp2_with fail
      go_ret
      exact ⟨ret_int (by have := HA.out; rw [HO.out] at this; omega), rfl⟩

set_option maxHeartbeats 2000000 in
theorem span_dig (s : ByteArray) (w : World) (hs : s.size ≤ maxLen) :
    Calls Tryd.prog 63 #[.string s, .func (.func 74) #[] #[]] w (Still w (.int .i64 (spanL isDig s.data.toList))) := by
  unfold maxLen at hs
  obtain ⟨z, hz⟩ : ∃ z, z = spanL isDig s.data.toList := ⟨_, rfl⟩
  rw [← hz]
  have HZ := Lib.hid hz
  clear hz
  go_enter Tryd.func63, Tryd.ntmps63
  go_wp2_with fail
  go_loopg [5] s.size (fun g v5 wr => ∃ k : Nat, v5 = .int .i64 k ∧ k ≤ s.size ∧ g = s.size - k ∧ z = k + spanL isDig (s.data.toList.drop k) ∧ wr = w)
  case atStart => exact ⟨0, rfl, Nat.zero_le _, rfl, by rw [HZ.out]; simp, rfl⟩
  case round =>
    obtain ⟨k, rfl, hk, hg, hall, rfl⟩ := hrel
    have HA := Lib.hid hall
    clear hall
    by_cases hlt : k < s.size
    · have ca := fun w => digit_any s[k].toNat w
      have ce := isDig_eq s[k]
      have hb := byte_at hlt
      have HN := Lib.hid (fun hp => spanL_no (p := isDig) hb hp)
      have HY := Lib.hid (fun hp => spanL_yes (p := isDig) hb hp)
      rw [ce] at ca
      have i1 : (k : Int) < (s.size : Int) := by omega
      have i2 : (0 : Int) ≤ (k : Int) := by omega
      have wk : IntKind.i64.wrap ((k : Int) + 1) = (k : Int) + 1 := IntWalk.i64_in _ (by omega)
      have CA := Lib.hid ca
      have HK := Lib.hid (And.intro hlt hg)
      clear ca ce hb hg
      generalize isDig s[k] = R at *
      cases R
      · go_wp2_with (go_at_call 74; (with_reducible refine (CA.out _).mono ?_); rintro e w1 ⟨rfl, rfl⟩)
        go_ret
        exact ⟨ret_int (by have := HA.out; rw [HN.out trivial] at this; omega), rfl⟩
      · go_wp2_with (go_at_call 74; (with_reducible refine (CA.out _).mono ?_); rintro e w1 ⟨rfl, rfl⟩)
        go_roundg (s.size - (k + 1))
        case measure => have := HK.out; omega
        case rel => exact ⟨k + 1, by push_cast; rfl, by have := HK.out; omega, rfl, by have := HA.out; rw [HY.out trivial] at this; omega, rfl⟩
    · obtain rfl : k = s.size := by omega
      have HO := Lib.hid (spanL_off (p := isDig) (Nat.le_of_eq (len_of s)))
      clear hg hk hlt
      go_wp2_with fail
      go_ret
      exact ⟨ret_int (by have := HA.out; rw [HO.out] at this; omega), rfl⟩


/-- Is a byte in a text? -/
def inL (n : Nat) (l : List UInt8) : Bool := l.any fun c => decide (c.toNat = n)
end Go.Proofs.YtabnjiijgbigbaaDoor
