/-
  The walk of package lex's first. (Template: by-name.py fills it; gen/genLexD.py writes it.)
-/
import Derived.Test.YtmmlmbfnabgobaaDoorLexC
namespace Go.Proofs.YtmmlmbfnabgobaaDoor
open Go.RowKit

def firstV (f : Nat × Nat × Bool) : Value := .tuple #[.int .i64 f.1, .int .i64 f.2.1, .bool f.2.2]
theorem not_empty {s : ByteArray} {c : UInt8} {r : List UInt8} (h : s.data.toList = c :: r) : s.toList.isEmpty = false := by
  rw [Lib.toList_data, h]
  rfl
theorem at_zero {s : ByteArray} {c : UInt8} {r : List UInt8} (h : s.data.toList = c :: r) (h0 : 0 < s.size) : s[0] = c := by
  have := byte_at h0
  rw [h] at this
  simpa using this.symm

set_option maxHeartbeats 4000000 in
theorem first_none (s : ByteArray) (w : World) (h : s.data.toList = []) :
    Calls Tryd.prog 29 #[.string s] w (Still w (firstV (3, 0, true))) := by
  have hs : s = ⟨#[]⟩ := by
    apply ByteArray.ext
    apply Array.ext'
    exact h
  subst hs
  clear h
  unfold firstV
  go_enter Tryd.func29, Tryd.ntmps29
  go_wp2_with fail
  go_ret3
  exact ⟨rfl, rfl⟩

set_option maxHeartbeats 8000000 in
theorem first_let (s : ByteArray) (w : World) (c : UInt8) (r : List UInt8) (h : s.data.toList = c :: r) (hs : s.size ≤ maxLen) (hl : isLet c = true) :
    Calls Tryd.prog 29 #[.string s] w (Still w (firstV (0, spanL isLD (c :: r), true))) := by
  have h0 : 0 < s.size := by rw [← len_of, h]; simp
  have hc := at_zero h h0
  have la := fun w => letter_any c.toNat w
  have da := fun w => digit_any c.toNat w
  rw [isLet_eq] at la
  rw [isDig_eq] at da
  have e0 := not_empty h
  have m := congrArg UInt8.toNat hc
  have sp := fun w => span_ld s w hs
  rw [h] at sp
  rw [hl] at la
  generalize spanL isLD (c :: r) = q at *
  have SP := Lib.hid sp
  clear sp hs h hl
  generalize c.toNat = cn at *
  have LA := Lib.hid la
  have DA := Lib.hid da
  clear la da hc
  unfold firstV
  go_enter Tryd.func29, Tryd.ntmps29
  go_wp2_with (first
    | (go_at_call 24; (with_reducible refine (LA.out _).mono ?_); rintro e w1 ⟨rfl, rfl⟩)
    | (go_at_call 31; (with_reducible refine (DA.out _).mono ?_); rintro e w1 ⟨rfl, rfl⟩)
    | (go_at_call 25; (with_reducible refine (SP.out _).mono ?_); rintro e w1 ⟨rfl, rfl⟩))
  go_ret3
  exact ⟨rfl, rfl⟩

set_option maxHeartbeats 8000000 in
theorem first_dig (s : ByteArray) (w : World) (c : UInt8) (r : List UInt8) (h : s.data.toList = c :: r) (hs : s.size ≤ maxLen) (hl : isLet c = false) (hd : isDig c = true) :
    Calls Tryd.prog 29 #[.string s] w (Still w (firstV (1, spanL isDig (c :: r), decide (spanL isDig (c :: r) ≤ 18)))) := by
  have h0 : 0 < s.size := by rw [← len_of, h]; simp
  have hc := at_zero h h0
  have la := fun w => letter_any c.toNat w
  have da := fun w => digit_any c.toNat w
  rw [isLet_eq] at la
  rw [isDig_eq] at da
  have e0 := not_empty h
  have m := congrArg UInt8.toNat hc
  have sp := fun w => span_dig s w hs
  rw [h] at sp
  rw [hl] at la
  rw [hd] at da
  generalize spanL isDig (c :: r) = q at *
  have SP := Lib.hid sp
  clear sp hs h hl hd
  generalize c.toNat = cn at *
  have LA := Lib.hid la
  have DA := Lib.hid da
  clear la da hc
  unfold firstV
  go_enter Tryd.func29, Tryd.ntmps29
  go_wp2_with (first
    | (go_at_call 24; (with_reducible refine (LA.out _).mono ?_); rintro e w1 ⟨rfl, rfl⟩)
    | (go_at_call 31; (with_reducible refine (DA.out _).mono ?_); rintro e w1 ⟨rfl, rfl⟩)
    | (go_at_call 25; (with_reducible refine (SP.out _).mono ?_); rintro e w1 ⟨rfl, rfl⟩))
  go_ret3
  refine ⟨?_, rfl⟩
  congr 4
  first | rfl | (simp; omega)

theorem drop_consS {l : List (List UInt8)} {k : Nat} {c : List UInt8} (h : l[k]? = some c) : l.drop k = c :: l.drop (k + 1) := by
  obtain ⟨hk, rfl⟩ := List.getElem?_eq_some_iff.1 h
  exact List.drop_eq_getElem_cons hk
set_option maxRecDepth 10000 in
theorem sign_at (k : Nat) (g : List UInt8) (h : signsL[k]? = some g) (w : World) : (Instr.index 52 (.agg (signsL.map txt).toArray) (.int .i64 k)).run Tryd.prog w = .ok (txt g) w := by
  have hk : k < 18 := by
    rcases Nat.lt_or_ge k 18 with q | q
    · exact q
    · rw [List.getElem?_eq_none (by exact q)] at h; cases h
  obtain rfl | k0 := Nat.eq_or_lt_of_le (show 0 ≤ k by omega)
  · obtain rfl : signsL.getD 0 [] = g := by rw [List.getD_eq_getElem?_getD, h]; rfl
    exact (show ∀ w : World, (Instr.index 52 (.agg (signsL.map txt).toArray) (.int .i64 (0 : Nat))).run Tryd.prog w = .ok (txt (signsL.getD 0 [])) w from fun _ => by kernel_rfl) w
  obtain rfl | k1 := Nat.eq_or_lt_of_le (show 1 ≤ k by omega)
  · obtain rfl : signsL.getD 1 [] = g := by rw [List.getD_eq_getElem?_getD, h]; rfl
    exact (show ∀ w : World, (Instr.index 52 (.agg (signsL.map txt).toArray) (.int .i64 (1 : Nat))).run Tryd.prog w = .ok (txt (signsL.getD 1 [])) w from fun _ => by kernel_rfl) w
  obtain rfl | k2 := Nat.eq_or_lt_of_le (show 2 ≤ k by omega)
  · obtain rfl : signsL.getD 2 [] = g := by rw [List.getD_eq_getElem?_getD, h]; rfl
    exact (show ∀ w : World, (Instr.index 52 (.agg (signsL.map txt).toArray) (.int .i64 (2 : Nat))).run Tryd.prog w = .ok (txt (signsL.getD 2 [])) w from fun _ => by kernel_rfl) w
  obtain rfl | k3 := Nat.eq_or_lt_of_le (show 3 ≤ k by omega)
  · obtain rfl : signsL.getD 3 [] = g := by rw [List.getD_eq_getElem?_getD, h]; rfl
    exact (show ∀ w : World, (Instr.index 52 (.agg (signsL.map txt).toArray) (.int .i64 (3 : Nat))).run Tryd.prog w = .ok (txt (signsL.getD 3 [])) w from fun _ => by kernel_rfl) w
  obtain rfl | k4 := Nat.eq_or_lt_of_le (show 4 ≤ k by omega)
  · obtain rfl : signsL.getD 4 [] = g := by rw [List.getD_eq_getElem?_getD, h]; rfl
    exact (show ∀ w : World, (Instr.index 52 (.agg (signsL.map txt).toArray) (.int .i64 (4 : Nat))).run Tryd.prog w = .ok (txt (signsL.getD 4 [])) w from fun _ => by kernel_rfl) w
  obtain rfl | k5 := Nat.eq_or_lt_of_le (show 5 ≤ k by omega)
  · obtain rfl : signsL.getD 5 [] = g := by rw [List.getD_eq_getElem?_getD, h]; rfl
    exact (show ∀ w : World, (Instr.index 52 (.agg (signsL.map txt).toArray) (.int .i64 (5 : Nat))).run Tryd.prog w = .ok (txt (signsL.getD 5 [])) w from fun _ => by kernel_rfl) w
  obtain rfl | k6 := Nat.eq_or_lt_of_le (show 6 ≤ k by omega)
  · obtain rfl : signsL.getD 6 [] = g := by rw [List.getD_eq_getElem?_getD, h]; rfl
    exact (show ∀ w : World, (Instr.index 52 (.agg (signsL.map txt).toArray) (.int .i64 (6 : Nat))).run Tryd.prog w = .ok (txt (signsL.getD 6 [])) w from fun _ => by kernel_rfl) w
  obtain rfl | k7 := Nat.eq_or_lt_of_le (show 7 ≤ k by omega)
  · obtain rfl : signsL.getD 7 [] = g := by rw [List.getD_eq_getElem?_getD, h]; rfl
    exact (show ∀ w : World, (Instr.index 52 (.agg (signsL.map txt).toArray) (.int .i64 (7 : Nat))).run Tryd.prog w = .ok (txt (signsL.getD 7 [])) w from fun _ => by kernel_rfl) w
  obtain rfl | k8 := Nat.eq_or_lt_of_le (show 8 ≤ k by omega)
  · obtain rfl : signsL.getD 8 [] = g := by rw [List.getD_eq_getElem?_getD, h]; rfl
    exact (show ∀ w : World, (Instr.index 52 (.agg (signsL.map txt).toArray) (.int .i64 (8 : Nat))).run Tryd.prog w = .ok (txt (signsL.getD 8 [])) w from fun _ => by kernel_rfl) w
  obtain rfl | k9 := Nat.eq_or_lt_of_le (show 9 ≤ k by omega)
  · obtain rfl : signsL.getD 9 [] = g := by rw [List.getD_eq_getElem?_getD, h]; rfl
    exact (show ∀ w : World, (Instr.index 52 (.agg (signsL.map txt).toArray) (.int .i64 (9 : Nat))).run Tryd.prog w = .ok (txt (signsL.getD 9 [])) w from fun _ => by kernel_rfl) w
  obtain rfl | k10 := Nat.eq_or_lt_of_le (show 10 ≤ k by omega)
  · obtain rfl : signsL.getD 10 [] = g := by rw [List.getD_eq_getElem?_getD, h]; rfl
    exact (show ∀ w : World, (Instr.index 52 (.agg (signsL.map txt).toArray) (.int .i64 (10 : Nat))).run Tryd.prog w = .ok (txt (signsL.getD 10 [])) w from fun _ => by kernel_rfl) w
  obtain rfl | k11 := Nat.eq_or_lt_of_le (show 11 ≤ k by omega)
  · obtain rfl : signsL.getD 11 [] = g := by rw [List.getD_eq_getElem?_getD, h]; rfl
    exact (show ∀ w : World, (Instr.index 52 (.agg (signsL.map txt).toArray) (.int .i64 (11 : Nat))).run Tryd.prog w = .ok (txt (signsL.getD 11 [])) w from fun _ => by kernel_rfl) w
  obtain rfl | k12 := Nat.eq_or_lt_of_le (show 12 ≤ k by omega)
  · obtain rfl : signsL.getD 12 [] = g := by rw [List.getD_eq_getElem?_getD, h]; rfl
    exact (show ∀ w : World, (Instr.index 52 (.agg (signsL.map txt).toArray) (.int .i64 (12 : Nat))).run Tryd.prog w = .ok (txt (signsL.getD 12 [])) w from fun _ => by kernel_rfl) w
  obtain rfl | k13 := Nat.eq_or_lt_of_le (show 13 ≤ k by omega)
  · obtain rfl : signsL.getD 13 [] = g := by rw [List.getD_eq_getElem?_getD, h]; rfl
    exact (show ∀ w : World, (Instr.index 52 (.agg (signsL.map txt).toArray) (.int .i64 (13 : Nat))).run Tryd.prog w = .ok (txt (signsL.getD 13 [])) w from fun _ => by kernel_rfl) w
  obtain rfl | k14 := Nat.eq_or_lt_of_le (show 14 ≤ k by omega)
  · obtain rfl : signsL.getD 14 [] = g := by rw [List.getD_eq_getElem?_getD, h]; rfl
    exact (show ∀ w : World, (Instr.index 52 (.agg (signsL.map txt).toArray) (.int .i64 (14 : Nat))).run Tryd.prog w = .ok (txt (signsL.getD 14 [])) w from fun _ => by kernel_rfl) w
  obtain rfl | k15 := Nat.eq_or_lt_of_le (show 15 ≤ k by omega)
  · obtain rfl : signsL.getD 15 [] = g := by rw [List.getD_eq_getElem?_getD, h]; rfl
    exact (show ∀ w : World, (Instr.index 52 (.agg (signsL.map txt).toArray) (.int .i64 (15 : Nat))).run Tryd.prog w = .ok (txt (signsL.getD 15 [])) w from fun _ => by kernel_rfl) w
  obtain rfl | k16 := Nat.eq_or_lt_of_le (show 16 ≤ k by omega)
  · obtain rfl : signsL.getD 16 [] = g := by rw [List.getD_eq_getElem?_getD, h]; rfl
    exact (show ∀ w : World, (Instr.index 52 (.agg (signsL.map txt).toArray) (.int .i64 (16 : Nat))).run Tryd.prog w = .ok (txt (signsL.getD 16 [])) w from fun _ => by kernel_rfl) w
  obtain rfl | k17 := Nat.eq_or_lt_of_le (show 17 ≤ k by omega)
  · obtain rfl : signsL.getD 17 [] = g := by rw [List.getD_eq_getElem?_getD, h]; rfl
    exact (show ∀ w : World, (Instr.index 52 (.agg (signsL.map txt).toArray) (.int .i64 (17 : Nat))).run Tryd.prog w = .ok (txt (signsL.getD 17 [])) w from fun _ => by kernel_rfl) w
  omega
theorem signs_info : (Tryd.prog.info? 52).map (·.size) = some (signsL.map txt).toArray.size := by kernel_rfl
def signAns : Option Nat → Nat × Nat × Bool
  | some n => (2, n, true)
  | none => (0, 0, false)

set_option maxHeartbeats 8000000 in
theorem first_sign (s : ByteArray) (w : World) (c : UInt8) (r : List UInt8) (h : s.data.toList = c :: r) (hl : isLet c = false) (hd : isDig c = false) (ht : StrRow w 1 signsL) :
    Calls Tryd.prog 29 #[.string s] w (Still w (firstV (signAns (signL (c :: r))))) := by
  have h0 : 0 < s.size := by rw [← len_of, h]; simp
  have hc := at_zero h h0
  have la := fun w => letter_any c.toNat w
  have da := fun w => digit_any c.toNat w
  rw [isLet_eq] at la
  rw [isDig_eq] at da
  have e0 := not_empty h
  have m := congrArg UInt8.toNat hc
  rw [hl] at la
  rw [hd] at da
  obtain ⟨z, hz⟩ : ∃ z, z = signL (c :: r) := ⟨_, rfl⟩
  rw [← hz]
  have hp := fun (g : List UInt8) (w : World) => Tryd.strings_HasPrefix s ⟨g.toArray⟩ w
  rw [h] at hp
  obtain ⟨tt, fr, hrow⟩ := ht
  have hinfo := signs_info
  have hat := sign_at
  generalize (signsL.map txt).toArray = SA at *
  have ROW := Lib.hid (And.intro hrow (And.intro hinfo hat))
  have HZ := Lib.hid hz
  have HP := Lib.hid hp
  clear h hl hd hz hp hrow hinfo hat
  generalize c.toNat = cn at *
  have LA := Lib.hid la
  have DA := Lib.hid da
  clear la da hc
  unfold firstV
  go_enter Tryd.func29, Tryd.ntmps29
  go_wp2_with (first
    | (go_at_call 24; (with_reducible refine (LA.out _).mono ?_); rintro e w1 ⟨rfl, rfl⟩)
    | (go_at_call 31; (with_reducible refine (DA.out _).mono ?_); rintro e w1 ⟨rfl, rfl⟩)
    | (refine wpList_load_row rfl 52 _ rfl 1 rfl _ SA _ _ ROW.out.1 Tryd.underlying52 rfl ROW.out.2.1 ?_))
  go_loopg [26] 18 (fun g v26 wr => ∃ k : Nat, v26 = .int .i64 k ∧ k ≤ 18 ∧ g = 18 - k ∧ z = ((signsL.drop k).find? fun g => g.isPrefixOf (c :: r)).map (·.length) ∧ wr = w)
  case atStart => exact ⟨0, rfl, Nat.zero_le _, rfl, by rw [HZ.out]; rfl, rfl⟩
  case round =>
    obtain ⟨k, rfl, hk, hg, hall, rfl⟩ := hrel
    by_cases hlt : k < 18
    · obtain ⟨g, hgk⟩ : ∃ g, signsL[k]? = some g := ⟨_, List.getElem?_eq_getElem (by exact hlt)⟩
      have ix := ROW.out.2.2 k g hgk
      have hp := HP.out g
      rw [drop_consS hgk, List.find?_cons] at hall
      have i1 : (k : Int) < 18 := by omega
      have i2 : (0 : Int) ≤ (k : Int) := by omega
      have wk : IntKind.i64.wrap ((k : Int) + 1) = (k : Int) + 1 := IntWalk.i64_in _ (by omega)
      have HK := Lib.hid (And.intro hlt hg)
      unfold Lib.hasPrefix at hp
      cases R : g.isPrefixOf (c :: r)
      · rw [R] at hall hp
        have HA := Lib.hid hall
        have HQ := Lib.hid hp
        clear hall hp hg hgk R
        go_wp2_with (go_at_call 33; (with_reducible refine (HQ.out _).mono ?_); rintro e w1 ⟨rfl, rfl⟩)
        go_roundg (18 - (k + 1))
        case measure => have := HK.out; omega
        case rel => exact ⟨k + 1, by push_cast; rfl, by have := HK.out; omega, rfl, HA.out, rfl⟩
      · rw [R] at hall hp
        have HA := Lib.hid hall
        have HQ := Lib.hid hp
        clear hall hp hg hgk R
        go_wp2_with (go_at_call 33; (with_reducible refine (HQ.out _).mono ?_); rintro e w1 ⟨rfl, rfl⟩)
        go_ret3
        refine ⟨?_, rfl⟩
        rw [HA.out]
        rfl
    · obtain rfl : k = 18 := by omega
      have HA := Lib.hid hall
      clear hg hk hlt hall
      go_wp2_with fail
      go_ret3
      refine ⟨?_, rfl⟩
      rw [HA.out]
      rfl

theorem first_any (s : ByteArray) (w : World) (hs : s.size ≤ maxLen) (ht : StrRow w 1 signsL) :
    Calls Tryd.prog 29 #[.string s] w (Still w (firstV (firstL s.data.toList))) := by
  cases h : s.data.toList with
  | nil => exact first_none s w h
  | cons c r =>
    rw [firstL_cons]
    cases hl : isLet c with
    | true => exact first_let s w c r h hs hl
    | false =>
      cases hd : isDig c with
      | true => exact first_dig s w c r h hs hl hd
      | false =>
        have := first_sign s w c r h hl hd ht
        rw [if_neg (by decide), if_neg (by decide)]
        cases q : signL (c :: r) <;> rw [q] at this <;> exact this
end Go.Proofs.YtmmlmbfnabgobaaDoor
