/-
  The walks of package lex's blanks and first. (Template: by-name.py fills it.)
-/
import Derived.Test.YtmmlmbfnabgobaaDoorLexT
import Derived.Test.YtmmlmbfnabgobaaDoorShelf
import Derived.Lib.PathFns
import Derived.Lib.IndexBytes
namespace Go.Proofs.YtmmlmbfnabgobaaDoor
open Go.RowKit

set_option maxHeartbeats 4000000 in
theorem blanks_any (s : ByteArray) (w : World) (hs : s.size ≤ maxLen) :
    Calls Tryd.prog 28 #[.string s] w (Still w (.int .i64 (blanksL s.data.toList))) := by
  obtain ⟨z, hz⟩ : ∃ z, z = blanksL s.data.toList := ⟨_, rfl⟩
  rw [← hz]
  have HZ := Lib.hid hz
  have HS := Lib.hid hs
  unfold maxLen at hs
  clear hz
  go_enter Tryd.func28, Tryd.ntmps28
  go_wp2_with fail
  go_loopg [3] s.size (fun g v3 wr => ∃ k : Nat, v3 = .int .i64 k ∧ k ≤ s.size ∧ g = s.size - k ∧ z = k + blanksL (s.data.toList.drop k) ∧ wr = w)
  case atStart => exact ⟨0, rfl, Nat.zero_le _, rfl, by rw [HZ.out]; simp, rfl⟩
  case round =>
    obtain ⟨k, rfl, hk, hg, hall, rfl⟩ := hrel
    by_cases hlt : k < s.size
    · have hb := byte_at hlt
      rw [drop_cons hb] at hall
      have i1 : (k : Int) < (s.size : Int) := by omega
      have i2 : (0 : Int) ≤ (k : Int) := by omega
      have wk : IntKind.i64.wrap ((k : Int) + 1) = (k : Int) + 1 := IntWalk.i64_in _ (by omega)
      by_cases hbl : isBlk s[k] = true
      · rw [blanksL_blk hbl] at hall
        have HA := Lib.hid hall
        have HK := Lib.hid (And.intro hlt hg)
        unfold isBlk at hbl
        simp only [Bool.or_eq_true, beq_iff_eq] at hbl
        clear hall hb hg
        rcases hbl with ((e | e) | e) | e
        all_goals
          have m := congrArg UInt8.toNat e
          clear e
          go_wp2_with fail
          go_roundg (s.size - (k + 1))
          case measure => have := HK.out; omega
          case rel => exact ⟨k + 1, by push_cast; rfl, by have := HK.out; omega, rfl, by have := HA.out; omega, rfl⟩
      · have hbl : isBlk s[k] = false := by simpa using hbl
        have hne : ∀ d : UInt8, isBlk d = true → ((s[k].toNat : Int) == (d.toNat : Int)) = false := fun d hd => by
          have : s[k].toNat ≠ d.toNat := fun q => by rw [UInt8.toNat_inj.1 q, hd] at hbl; cases hbl
          simpa using fun q => this (by omega)
        have n1 : ((s[k].toNat : Int) == 32) = false := hne 32 rfl
        have n2 : ((s[k].toNat : Int) == 9) = false := hne 9 rfl
        have n3 : ((s[k].toNat : Int) == 10) = false := hne 10 rfl
        have n4 : ((s[k].toNat : Int) == 13) = false := hne 13 rfl
        by_cases h35 : s[k] = 35
        · have e1 : spanL notNl (s.data.toList.drop k) = spanL notNl (s.data.toList.drop (k + 1)) + 1 := spanL_yes hb (by rw [h35]; rfl)
          rw [h35, blanksL_cmt, List.drop_drop] at hall
          have le := spanL_le notNl (s.data.toList.drop (k + 1))
          rw [List.length_drop, len_of] at le
          have sn := fun w => span_nl (s.extract k s.size) w (by
            have := HS.out
            rw [ByteArray.size_extract]
            omega)
          rw [Lib.extract_to_end, e1] at sn
          have m := congrArg UInt8.toNat h35
          have n5 : ((s[k].toNat : Int) == 35) = true := by rw [m]; rfl
          generalize spanL notNl (s.data.toList.drop (k + 1)) = q0 at *
          obtain ⟨q, hq⟩ : ∃ q, q = q0 + 1 := ⟨_, rfl⟩
          rw [← hq] at sn
          have wq : IntKind.i64.wrap ((k : Int) + (q : Int)) = (k : Int) + (q : Int) := IntWalk.i64_in _ (by omega)
          have HA := Lib.hid hall
          have HK := Lib.hid (And.intro hlt (And.intro hg (And.intro le hq)))
          have SN := Lib.hid sn
          clear hall hb hg hbl hne h35 sn e1 le m hq
          go_wp2_with (go_at_call 25; (with_reducible refine (SN.out _).mono ?_); rintro e w1 ⟨rfl, rfl⟩)
          go_roundg (s.size - (k + q))
          case measure => have := HK.out; omega
          case rel => exact ⟨k + q, by push_cast; rfl, by have := HK.out; omega, rfl, by have := HA.out; rw [show k + q = k + 1 + q0 by have := HK.out; omega]; omega, rfl⟩
        · have n5 : ((s[k].toNat : Int) == 35) = false := by
            have : s[k].toNat ≠ (35 : UInt8).toNat := fun q => h35 (UInt8.toNat_inj.1 q)
            simpa using fun q => this (by show s[k].toNat = 35; omega)
          rw [blanksL_no hbl (by simpa using h35)] at hall
          have HA := Lib.hid hall
          clear hall hb hg hbl hne h35
          go_wp2_with fail
          go_ret
          exact ⟨ret_int (by have := HA.out; omega), rfl⟩
    · obtain rfl : k = s.size := by omega
      rw [drop_all (Nat.le_refl _), blanksL_nil] at hall
      have HA := Lib.hid hall
      clear hg hk hlt hall
      go_wp2_with fail
      go_ret
      exact ⟨ret_int (by have := HA.out; omega), rfl⟩
end Go.Proofs.YtmmlmbfnabgobaaDoor
