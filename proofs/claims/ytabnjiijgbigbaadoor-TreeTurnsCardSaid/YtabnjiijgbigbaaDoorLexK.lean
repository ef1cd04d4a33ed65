/-
  The walks of Key and Name of package lex and of its reference. (Template: by-name.py fills it.)
-/
import Derived.Test.YtabnjiijgbigbaaDoorLexD
import Derived.Test.YtabnjiijgbigbaaDoorLexE
namespace Go.Proofs.YtabnjiijgbigbaaDoor
open Go.RowKit

/-- Is it a word of the language? -/
def isKey (l : List UInt8) : Bool := keysL.any fun k => k == l
/-- May it be a name? -/
def isName (l : List UInt8) : Bool := (match l with | [] => false | c :: _ => isLet c) && decide (l.length ≤ 16) && decide (spanL isLD l = l.length) && !isKey l

theorem drop_consK {l : List (List UInt8)} {k : Nat} {c : List UInt8} (h : l[k]? = some c) : l.drop k = c :: l.drop (k + 1) := by
  obtain ⟨hk, rfl⟩ := List.getElem?_eq_some_iff.1 h
  exact List.drop_eq_getElem_cons hk
theorem keys_info : (Tryd.prog.info? 81).map (·.size) = some (keysL.map txt).toArray.size := by kernel_rfl
set_option maxRecDepth 10000 in
theorem key_at (k : Nat) (g : List UInt8) (h : keysL[k]? = some g) (w : World) : (Instr.index 81 (.agg (keysL.map txt).toArray) (.int .i64 k)).run Tryd.prog w = .ok (txt g) w := by
  have hk : k < 24 := by
    rcases Nat.lt_or_ge k 24 with q | q
    · exact q
    · rw [List.getElem?_eq_none (by exact q)] at h; cases h
  obtain rfl | k0 := Nat.eq_or_lt_of_le (show 0 ≤ k by omega)
  · obtain rfl : keysL.getD 0 [] = g := by rw [List.getD_eq_getElem?_getD, h]; rfl
    exact (show ∀ w : World, (Instr.index 81 (.agg (keysL.map txt).toArray) (.int .i64 (0 : Nat))).run Tryd.prog w = .ok (txt (keysL.getD 0 [])) w from fun _ => by kernel_rfl) w
  obtain rfl | k1 := Nat.eq_or_lt_of_le (show 1 ≤ k by omega)
  · obtain rfl : keysL.getD 1 [] = g := by rw [List.getD_eq_getElem?_getD, h]; rfl
    exact (show ∀ w : World, (Instr.index 81 (.agg (keysL.map txt).toArray) (.int .i64 (1 : Nat))).run Tryd.prog w = .ok (txt (keysL.getD 1 [])) w from fun _ => by kernel_rfl) w
  obtain rfl | k2 := Nat.eq_or_lt_of_le (show 2 ≤ k by omega)
  · obtain rfl : keysL.getD 2 [] = g := by rw [List.getD_eq_getElem?_getD, h]; rfl
    exact (show ∀ w : World, (Instr.index 81 (.agg (keysL.map txt).toArray) (.int .i64 (2 : Nat))).run Tryd.prog w = .ok (txt (keysL.getD 2 [])) w from fun _ => by kernel_rfl) w
  obtain rfl | k3 := Nat.eq_or_lt_of_le (show 3 ≤ k by omega)
  · obtain rfl : keysL.getD 3 [] = g := by rw [List.getD_eq_getElem?_getD, h]; rfl
    exact (show ∀ w : World, (Instr.index 81 (.agg (keysL.map txt).toArray) (.int .i64 (3 : Nat))).run Tryd.prog w = .ok (txt (keysL.getD 3 [])) w from fun _ => by kernel_rfl) w
  obtain rfl | k4 := Nat.eq_or_lt_of_le (show 4 ≤ k by omega)
  · obtain rfl : keysL.getD 4 [] = g := by rw [List.getD_eq_getElem?_getD, h]; rfl
    exact (show ∀ w : World, (Instr.index 81 (.agg (keysL.map txt).toArray) (.int .i64 (4 : Nat))).run Tryd.prog w = .ok (txt (keysL.getD 4 [])) w from fun _ => by kernel_rfl) w
  obtain rfl | k5 := Nat.eq_or_lt_of_le (show 5 ≤ k by omega)
  · obtain rfl : keysL.getD 5 [] = g := by rw [List.getD_eq_getElem?_getD, h]; rfl
    exact (show ∀ w : World, (Instr.index 81 (.agg (keysL.map txt).toArray) (.int .i64 (5 : Nat))).run Tryd.prog w = .ok (txt (keysL.getD 5 [])) w from fun _ => by kernel_rfl) w
  obtain rfl | k6 := Nat.eq_or_lt_of_le (show 6 ≤ k by omega)
  · obtain rfl : keysL.getD 6 [] = g := by rw [List.getD_eq_getElem?_getD, h]; rfl
    exact (show ∀ w : World, (Instr.index 81 (.agg (keysL.map txt).toArray) (.int .i64 (6 : Nat))).run Tryd.prog w = .ok (txt (keysL.getD 6 [])) w from fun _ => by kernel_rfl) w
  obtain rfl | k7 := Nat.eq_or_lt_of_le (show 7 ≤ k by omega)
  · obtain rfl : keysL.getD 7 [] = g := by rw [List.getD_eq_getElem?_getD, h]; rfl
    exact (show ∀ w : World, (Instr.index 81 (.agg (keysL.map txt).toArray) (.int .i64 (7 : Nat))).run Tryd.prog w = .ok (txt (keysL.getD 7 [])) w from fun _ => by kernel_rfl) w
  obtain rfl | k8 := Nat.eq_or_lt_of_le (show 8 ≤ k by omega)
  · obtain rfl : keysL.getD 8 [] = g := by rw [List.getD_eq_getElem?_getD, h]; rfl
    exact (show ∀ w : World, (Instr.index 81 (.agg (keysL.map txt).toArray) (.int .i64 (8 : Nat))).run Tryd.prog w = .ok (txt (keysL.getD 8 [])) w from fun _ => by kernel_rfl) w
  obtain rfl | k9 := Nat.eq_or_lt_of_le (show 9 ≤ k by omega)
  · obtain rfl : keysL.getD 9 [] = g := by rw [List.getD_eq_getElem?_getD, h]; rfl
    exact (show ∀ w : World, (Instr.index 81 (.agg (keysL.map txt).toArray) (.int .i64 (9 : Nat))).run Tryd.prog w = .ok (txt (keysL.getD 9 [])) w from fun _ => by kernel_rfl) w
  obtain rfl | k10 := Nat.eq_or_lt_of_le (show 10 ≤ k by omega)
  · obtain rfl : keysL.getD 10 [] = g := by rw [List.getD_eq_getElem?_getD, h]; rfl
    exact (show ∀ w : World, (Instr.index 81 (.agg (keysL.map txt).toArray) (.int .i64 (10 : Nat))).run Tryd.prog w = .ok (txt (keysL.getD 10 [])) w from fun _ => by kernel_rfl) w
  obtain rfl | k11 := Nat.eq_or_lt_of_le (show 11 ≤ k by omega)
  · obtain rfl : keysL.getD 11 [] = g := by rw [List.getD_eq_getElem?_getD, h]; rfl
    exact (show ∀ w : World, (Instr.index 81 (.agg (keysL.map txt).toArray) (.int .i64 (11 : Nat))).run Tryd.prog w = .ok (txt (keysL.getD 11 [])) w from fun _ => by kernel_rfl) w
  obtain rfl | k12 := Nat.eq_or_lt_of_le (show 12 ≤ k by omega)
  · obtain rfl : keysL.getD 12 [] = g := by rw [List.getD_eq_getElem?_getD, h]; rfl
    exact (show ∀ w : World, (Instr.index 81 (.agg (keysL.map txt).toArray) (.int .i64 (12 : Nat))).run Tryd.prog w = .ok (txt (keysL.getD 12 [])) w from fun _ => by kernel_rfl) w
  obtain rfl | k13 := Nat.eq_or_lt_of_le (show 13 ≤ k by omega)
  · obtain rfl : keysL.getD 13 [] = g := by rw [List.getD_eq_getElem?_getD, h]; rfl
    exact (show ∀ w : World, (Instr.index 81 (.agg (keysL.map txt).toArray) (.int .i64 (13 : Nat))).run Tryd.prog w = .ok (txt (keysL.getD 13 [])) w from fun _ => by kernel_rfl) w
  obtain rfl | k14 := Nat.eq_or_lt_of_le (show 14 ≤ k by omega)
  · obtain rfl : keysL.getD 14 [] = g := by rw [List.getD_eq_getElem?_getD, h]; rfl
    exact (show ∀ w : World, (Instr.index 81 (.agg (keysL.map txt).toArray) (.int .i64 (14 : Nat))).run Tryd.prog w = .ok (txt (keysL.getD 14 [])) w from fun _ => by kernel_rfl) w
  obtain rfl | k15 := Nat.eq_or_lt_of_le (show 15 ≤ k by omega)
  · obtain rfl : keysL.getD 15 [] = g := by rw [List.getD_eq_getElem?_getD, h]; rfl
    exact (show ∀ w : World, (Instr.index 81 (.agg (keysL.map txt).toArray) (.int .i64 (15 : Nat))).run Tryd.prog w = .ok (txt (keysL.getD 15 [])) w from fun _ => by kernel_rfl) w
  obtain rfl | k16 := Nat.eq_or_lt_of_le (show 16 ≤ k by omega)
  · obtain rfl : keysL.getD 16 [] = g := by rw [List.getD_eq_getElem?_getD, h]; rfl
    exact (show ∀ w : World, (Instr.index 81 (.agg (keysL.map txt).toArray) (.int .i64 (16 : Nat))).run Tryd.prog w = .ok (txt (keysL.getD 16 [])) w from fun _ => by kernel_rfl) w
  obtain rfl | k17 := Nat.eq_or_lt_of_le (show 17 ≤ k by omega)
  · obtain rfl : keysL.getD 17 [] = g := by rw [List.getD_eq_getElem?_getD, h]; rfl
    exact (show ∀ w : World, (Instr.index 81 (.agg (keysL.map txt).toArray) (.int .i64 (17 : Nat))).run Tryd.prog w = .ok (txt (keysL.getD 17 [])) w from fun _ => by kernel_rfl) w
  obtain rfl | k18 := Nat.eq_or_lt_of_le (show 18 ≤ k by omega)
  · obtain rfl : keysL.getD 18 [] = g := by rw [List.getD_eq_getElem?_getD, h]; rfl
    exact (show ∀ w : World, (Instr.index 81 (.agg (keysL.map txt).toArray) (.int .i64 (18 : Nat))).run Tryd.prog w = .ok (txt (keysL.getD 18 [])) w from fun _ => by kernel_rfl) w
  obtain rfl | k19 := Nat.eq_or_lt_of_le (show 19 ≤ k by omega)
  · obtain rfl : keysL.getD 19 [] = g := by rw [List.getD_eq_getElem?_getD, h]; rfl
    exact (show ∀ w : World, (Instr.index 81 (.agg (keysL.map txt).toArray) (.int .i64 (19 : Nat))).run Tryd.prog w = .ok (txt (keysL.getD 19 [])) w from fun _ => by kernel_rfl) w
  obtain rfl | k20 := Nat.eq_or_lt_of_le (show 20 ≤ k by omega)
  · obtain rfl : keysL.getD 20 [] = g := by rw [List.getD_eq_getElem?_getD, h]; rfl
    exact (show ∀ w : World, (Instr.index 81 (.agg (keysL.map txt).toArray) (.int .i64 (20 : Nat))).run Tryd.prog w = .ok (txt (keysL.getD 20 [])) w from fun _ => by kernel_rfl) w
  obtain rfl | k21 := Nat.eq_or_lt_of_le (show 21 ≤ k by omega)
  · obtain rfl : keysL.getD 21 [] = g := by rw [List.getD_eq_getElem?_getD, h]; rfl
    exact (show ∀ w : World, (Instr.index 81 (.agg (keysL.map txt).toArray) (.int .i64 (21 : Nat))).run Tryd.prog w = .ok (txt (keysL.getD 21 [])) w from fun _ => by kernel_rfl) w
  obtain rfl | k22 := Nat.eq_or_lt_of_le (show 22 ≤ k by omega)
  · obtain rfl : keysL.getD 22 [] = g := by rw [List.getD_eq_getElem?_getD, h]; rfl
    exact (show ∀ w : World, (Instr.index 81 (.agg (keysL.map txt).toArray) (.int .i64 (22 : Nat))).run Tryd.prog w = .ok (txt (keysL.getD 22 [])) w from fun _ => by kernel_rfl) w
  obtain rfl | k23 := Nat.eq_or_lt_of_le (show 23 ≤ k by omega)
  · obtain rfl : keysL.getD 23 [] = g := by rw [List.getD_eq_getElem?_getD, h]; rfl
    exact (show ∀ w : World, (Instr.index 81 (.agg (keysL.map txt).toArray) (.int .i64 (23 : Nat))).run Tryd.prog w = .ok (txt (keysL.getD 23 [])) w from fun _ => by kernel_rfl) w
  omega

set_option maxRecDepth 10000 in
set_option maxHeartbeats 4000000 in
theorem key_any (s : ByteArray) (w : World) (ht : StrRow w 0 keysL) :
    Calls Tryd.prog 65 #[.string s] w (Still w (.bool (isKey s.data.toList))) := by
  obtain ⟨z, hz⟩ : ∃ z, z = isKey s.data.toList := ⟨_, rfl⟩
  rw [← hz]
  obtain ⟨tt, fr, hrow⟩ := ht
  have hinfo := keys_info
  have hat := key_at
  generalize (keysL.map txt).toArray = SA at *
  have ROW := Lib.hid (And.intro hrow (And.intro hinfo hat))
  have HZ := Lib.hid hz
  clear hz hrow hinfo hat
  go_enter Tryd.func65, Tryd.ntmps65
  go_wp2_with (refine wpList_load_row rfl 81 _ rfl 0 rfl _ SA _ _ ROW.out.1 Tryd.underlying81 rfl ROW.out.2.1 ?_)
  go_loopg [6] 24 (fun g v6 wr => ∃ k : Nat, v6 = .int .i64 k ∧ k ≤ 24 ∧ g = 24 - k ∧ z = ((keysL.drop k).any fun k => k == s.data.toList) ∧ wr = w)
  case atStart => exact ⟨0, rfl, Nat.zero_le _, rfl, by rw [HZ.out]; rfl, rfl⟩
  case round =>
    obtain ⟨k, rfl, hk, hg, hall, rfl⟩ := hrel
    by_cases hlt : k < 24
    · obtain ⟨g, hgk⟩ : ∃ g, keysL[k]? = some g := ⟨_, List.getElem?_eq_getElem (by exact hlt)⟩
      have ix := ROW.out.2.2 k g hgk
      rw [drop_consK hgk, List.any_cons] at hall
      have i1 : (k : Int) < 24 := by omega
      have i2 : (0 : Int) ≤ (k : Int) := by omega
      have wk : IntKind.i64.wrap ((k : Int) + 1) = (k : Int) + 1 := IntWalk.i64_in _ (by omega)
      have HK := Lib.hid (And.intro hlt hg)
      have HA := Lib.hid hall
      clear hall hg hgk
      by_cases R : g = s.data.toList
      · go_wp2_with fail
        go_ret
        exact ⟨ret_bool (by rw [HA.out, beq_iff_eq.2 R]; rfl), rfl⟩
      · have R1 : (g == s.toList) = false := by rw [Lib.toList_data]; simpa using R
        have R2 := Lib.hid R
        clear R
        go_wp2_with fail
        go_roundg (24 - (k + 1))
        case measure => have := HK.out; omega
        case rel => exact ⟨k + 1, by push_cast; rfl, by have := HK.out; omega, rfl, by rw [HA.out, beq_eq_false_iff_ne.2 R2.out, Bool.false_or], rfl⟩
    · obtain rfl : k = 24 := by omega
      have HA := Lib.hid hall
      clear hg hk hlt hall
      go_wp2_with fail
      go_ret
      exact ⟨ret_bool (by rw [HA.out]; rfl), rfl⟩

set_option maxRecDepth 10000 in
set_option maxHeartbeats 4000000 in
theorem rkeys_any (w : World) : Calls Tryd.prog 73 #[] w fun e w' => e = .returned (.slice (some ⟨w.heap.size, 0, none⟩) 24 24) ∧ Below w.heap.size w w' ∧ Blk w' w.heap.size (keysL.map txt).toArray := by
  go_enter Tryd.func73, Tryd.ntmps73
  go_wp2_with fail
  go_ret
  exact ⟨rfl, below_alloc1 _ _, Blk.start _ _ _⟩

set_option maxRecDepth 10000 in
set_option maxHeartbeats 4000000 in
theorem rkey_any (s : ByteArray) (w : World) :
    Calls Tryd.prog 59 #[.string s] w fun e w' => e = .returned (.bool (isKey s.data.toList)) ∧ Below w.heap.size w w' := by
  obtain ⟨z, hz⟩ : ∃ z, z = isKey s.data.toList := ⟨_, rfl⟩
  rw [← hz]
  have HZ := Lib.hid hz
  have rk := rkeys_any w
  have RK := Lib.hid rk
  clear hz rk
  go_enter Tryd.func59, Tryd.ntmps59
  go_wp2_with (go_at_call 73; (with_reducible refine RK.out.mono ?_); rintro e w1 ⟨rfl, hb, hB⟩)
  have HB := Lib.hid (And.intro hb hB)
  clear hb hB
  go_loopg [4] 24 (fun g v6 wr => ∃ k : Nat, v6 = .int .i64 k ∧ k ≤ 24 ∧ g = 24 - k ∧ z = ((keysL.drop k).any fun k => k == s.data.toList) ∧ wr = w1)
  case atStart => exact ⟨0, rfl, Nat.zero_le _, rfl, by rw [HZ.out]; rfl, rfl⟩
  case round =>
    obtain ⟨k, rfl, hk, hg, hall, rfl⟩ := hrel
    by_cases hlt : k < 24
    · obtain ⟨g, hgk⟩ : ∃ g, keysL[k]? = some g := ⟨_, List.getElem?_eq_getElem (by exact hlt)⟩
      have c0 := HB.out.2.cell k
      rw [List.getElem?_toArray, List.getElem?_map, hgk] at c0
      have c1 : wr.cell? ⟨w.heap.size, k, none⟩ = some (txt g) := c0
      rw [drop_consK hgk, List.any_cons] at hall
      have i1 : (k : Int) < 24 := by omega
      have i2 : (0 : Int) ≤ (k : Int) := by omega
      have wk : IntKind.i64.wrap ((k : Int) + 1) = (k : Int) + 1 := IntWalk.i64_in _ (by omega)
      have HK := Lib.hid (And.intro hlt hg)
      have HA := Lib.hid hall
      clear hall hg hgk c0
      by_cases R : g = s.data.toList
      · have R0 : (g == s.toList) = true := by rw [Lib.toList_data]; simpa using R
        have R2 := Lib.hid R
        clear R
        go_wp2_with fail
        go_ret
        exact ⟨ret_bool (by rw [HA.out, beq_iff_eq.2 R2.out]; rfl), HB.out.1⟩
      · have R1 : (g == s.toList) = false := by rw [Lib.toList_data]; simpa using R
        have R2 := Lib.hid R
        clear R
        go_wp2_with fail
        go_roundg (24 - (k + 1))
        case measure => have := HK.out; omega
        case rel => exact ⟨k + 1, by push_cast; rfl, by have := HK.out; omega, rfl, by rw [HA.out, beq_eq_false_iff_ne.2 R2.out, Bool.false_or], rfl⟩
    · obtain rfl : k = 24 := by omega
      have HA := Lib.hid hall
      clear hg hk hlt hall
      go_wp2_with fail
      go_ret
      exact ⟨ret_bool (by rw [HA.out]; rfl), HB.out.1⟩

theorem name_nil (s : ByteArray) (w : World) (h : s.data.toList = []) : Calls Tryd.prog 47 #[.string s] w (Still w (.bool (isName s.data.toList))) := by
  have hs : s = ⟨#[]⟩ := by
    apply ByteArray.ext
    apply Array.ext'
    exact h
  subst hs
  clear h
  go_enter Tryd.func47, Tryd.ntmps47
  go_wp2_with fail
  go_ret
  exact ⟨rfl, rfl⟩

set_option maxRecDepth 10000 in
set_option maxHeartbeats 4000000 in
theorem name_any (s : ByteArray) (w : World) (hs : s.size ≤ maxLen) (ht : StrRow w 0 keysL) :
    Calls Tryd.prog 47 #[.string s] w (Still w (.bool (isName s.data.toList))) := by
  cases h : s.data.toList with
  | nil => rw [← h]; exact name_nil s w h
  | cons c r =>
    have ka := fun w (h : StrRow w 0 keysL) => key_any s w h
    have sp := fun w => span_ld s w hs
    have la := fun w => letter_any c.toNat w
    rw [isLet_eq] at la
    have h0 : 0 < s.size := by rw [← len_of, h]; simp
    have hc := at_zero h h0
    have m := congrArg UInt8.toNat hc
    have e0 := not_empty h
    have hlen : (c :: r).length = s.size := by rw [← h, len_of]
    have hn : isName (c :: r) = (isLet c && decide (s.size ≤ 16) && decide (spanL isLD (c :: r) = s.size) && !isKey (c :: r)) := by
      unfold isName
      rw [hlen]
    rw [h] at ka sp
    rw [hn]
    generalize spanL isLD (c :: r) = q at *
    generalize isKey (c :: r) = K at *
    generalize isLet c = L at *
    have KA := Lib.hid (ka w ht)
    have SP := Lib.hid sp
    have LA := Lib.hid la
    generalize c.toNat = cn at *
    clear ka sp la ht h hc hn hlen hs
    by_cases h16 : s.size ≤ 16
    · have d16 : (s.size : Int) ≤ 16 := by omega
      by_cases hq : q = s.size
      · have dq : ((q : Int) == (s.size : Int)) = true := by rw [hq]; exact beq_self_eq_true _
        have HQ := Lib.hid (And.intro hq h16)
        clear hq
        cases L <;> cases K
        all_goals
          go_enter Tryd.func47, Tryd.ntmps47
          go_wp2_with (first | (go_at_call 62; (with_reducible refine (LA.out _).mono ?_); rintro e w1 ⟨rfl, rfl⟩) | (go_at_call 63; (with_reducible refine (SP.out _).mono ?_); rintro e w1 ⟨rfl, rfl⟩) | (go_at_call 65; (with_reducible refine KA.out.mono ?_); rintro e w1 ⟨rfl, rfl⟩))
          go_ret
          exact ⟨ret_bool (by rw [decide_eq_true HQ.out.1, decide_eq_true HQ.out.2]; rfl), rfl⟩
      · have dq : ((q : Int) == (s.size : Int)) = false := by simpa using fun e => hq (by omega)
        have HQ := Lib.hid (And.intro hq h16)
        clear hq
        cases L <;> cases K
        all_goals
          go_enter Tryd.func47, Tryd.ntmps47
          go_wp2_with (first | (go_at_call 62; (with_reducible refine (LA.out _).mono ?_); rintro e w1 ⟨rfl, rfl⟩) | (go_at_call 63; (with_reducible refine (SP.out _).mono ?_); rintro e w1 ⟨rfl, rfl⟩) | (go_at_call 65; (with_reducible refine KA.out.mono ?_); rintro e w1 ⟨rfl, rfl⟩))
          go_ret
          exact ⟨ret_bool (by rw [decide_eq_false HQ.out.1, decide_eq_true HQ.out.2]; rfl), rfl⟩
    · have d16 : ¬ (s.size : Int) ≤ 16 := by omega
      have HQ := Lib.hid h16
      clear h16
      go_enter Tryd.func47, Tryd.ntmps47
      go_wp2_with (first | (go_at_call 62; (with_reducible refine (LA.out _).mono ?_); rintro e w1 ⟨rfl, rfl⟩) | (go_at_call 63; (with_reducible refine (SP.out _).mono ?_); rintro e w1 ⟨rfl, rfl⟩) | (go_at_call 65; (with_reducible refine KA.out.mono ?_); rintro e w1 ⟨rfl, rfl⟩))
      go_ret
      exact ⟨ret_bool (by rw [decide_eq_false HQ.out]; simp), rfl⟩

theorem rname_nil (s : ByteArray) (w : World) (h : s.data.toList = []) : Calls Tryd.prog 42 #[.string s] w fun e w' => e = .returned (.bool (isName s.data.toList)) ∧ Below w.heap.size w w' := by
  have hs : s = ⟨#[]⟩ := by
    apply ByteArray.ext
    apply Array.ext'
    exact h
  subst hs
  clear h
  go_enter Tryd.func42, Tryd.ntmps42
  go_wp2_with fail
  go_ret
  exact ⟨rfl, Below.refl _ _⟩

set_option maxRecDepth 10000 in
set_option maxHeartbeats 4000000 in
theorem rname_any (s : ByteArray) (w : World) (hs : s.size ≤ maxLen) :
    Calls Tryd.prog 42 #[.string s] w fun e w' => e = .returned (.bool (isName s.data.toList)) ∧ Below w.heap.size w w' := by
  cases h : s.data.toList with
  | nil => rw [← h]; exact rname_nil s w h
  | cons c r =>
    have ka := fun w => rkey_any s w
    have la := fun w => rletter_any c.toNat w
    rw [isLet_eq] at la
    have h0 : 0 < s.size := by rw [← len_of, h]; simp
    have hc := at_zero h h0
    have m := congrArg UInt8.toNat hc
    have z0 : ((s.size : Int) == 0) = false := by simpa using fun e => by rw [e] at h0; cases h0
    have hlen : (c :: r).length = s.size := by rw [← h, len_of]
    have hn : isName (c :: r) = (isLet c && decide (s.size ≤ 16) && decide (spanL isLD (c :: r) = s.size) && !isKey (c :: r)) := by
      unfold isName
      rw [hlen]
    have hsp : isLet c = true → spanL isLD s.data.toList = 1 + spanL isLD (s.data.toList.drop 1) := fun q => by
      rw [h, spanL_cons, if_pos (let_ld q)]
      show _ = 1 + spanL isLD r
      omega
    rw [hn, ← h]
    rw [← h] at hn
    generalize hz : isName s.data.toList = z at *
    obtain ⟨p, hp⟩ : ∃ p, p = spanL isLD s.data.toList := ⟨_, rfl⟩
    rw [← hp] at hsp hn ⊢
    rw [← hn]
    generalize isKey s.data.toList = K at *
    generalize isLet c = L at *
    have KA := Lib.hid ka
    have LA := Lib.hid la
    have HN := Lib.hid (And.intro hn hsp)
    generalize c.toNat = cn at *
    unfold maxLen at hs
    clear ka la h hc hn hlen hz hp hsp
    by_cases h16 : s.size ≤ 16
    · have d16 : (s.size : Int) ≤ 16 := by omega
      have H16 := Lib.hid h16
      cases L
      · clear h16
        go_enter Tryd.func42, Tryd.ntmps42
        go_wp2_with (go_at_call 57; (with_reducible refine (LA.out _).mono ?_); rintro e w1 ⟨rfl, rfl⟩)
        go_ret
        exact ⟨ret_bool (by rw [HN.out.1]; rfl), Below.refl _ _⟩
      · clear h16
        go_enter Tryd.func42, Tryd.ntmps42
        go_wp2_with (go_at_call 57; (with_reducible refine (LA.out _).mono ?_); rintro e w1 ⟨rfl, rfl⟩)
        clear m LA
        go_loopg [3] (s.size - 1) (fun g v3 wr => ∃ k : Nat, v3 = .int .i64 k ∧ k ≤ s.size ∧ g = s.size - k ∧ p = k + spanL isLD (s.data.toList.drop k) ∧ wr = w)
        case atStart => exact ⟨1, rfl, h0, rfl, HN.out.2 trivial, rfl⟩
        case round =>
          obtain ⟨k, rfl, hk, hg, hall, rfl⟩ := hrel
          have HA := Lib.hid hall
          clear hall
          by_cases hlt : k < s.size
          · have hb := byte_at hlt
            have lj := fun w => rletter_any s[k].toNat w
            have dj := fun w => rdigit_any s[k].toNat w
            rw [isLet_eq] at lj
            rw [isDig_eq] at dj
            have i1 : (k : Int) < (s.size : Int) := by omega
            have i2 : (0 : Int) ≤ (k : Int) := by omega
            have wk : IntKind.i64.wrap ((k : Int) + 1) = (k : Int) + 1 := IntWalk.i64_in _ (by omega)
            by_cases hld : isLD s[k] = true
            · have S1 := Lib.hid (spanL_yes (p := isLD) hb hld)
              rcases ld_cases hld with q | ⟨q, q2⟩
              · rw [q] at lj
                have LJ := Lib.hid lj
                have HL := Lib.hid (And.intro hlt hg)
                clear lj dj hld q hb hg
                go_wp2_with (go_at_call 57; (with_reducible refine (LJ.out _).mono ?_); rintro e w1 ⟨rfl, rfl⟩)
                go_roundg (s.size - (k + 1))
                case measure => have := HL.out; omega
                case rel => exact ⟨k + 1, by push_cast; rfl, by have := HL.out; omega, rfl, by have := S1.out; have := HA.out; omega, rfl⟩
              · rw [q] at lj
                rw [q2] at dj
                have LJ := Lib.hid lj
                have DJ := Lib.hid dj
                have HL := Lib.hid (And.intro hlt hg)
                clear lj dj hld q q2 hb hg
                go_wp2_with (first | (go_at_call 57; (with_reducible refine (LJ.out _).mono ?_); rintro e w1 ⟨rfl, rfl⟩) | (go_at_call 58; (with_reducible refine (DJ.out _).mono ?_); rintro e w1 ⟨rfl, rfl⟩))
                go_roundg (s.size - (k + 1))
                case measure => have := HL.out; omega
                case rel => exact ⟨k + 1, by push_cast; rfl, by have := HL.out; omega, rfl, by have := S1.out; have := HA.out; omega, rfl⟩
            · have hld : isLD s[k] = false := by simpa using hld
              have S0 := spanL_no (p := isLD) hb hld
              obtain ⟨q, q2⟩ := ld_not hld
              rw [q] at lj
              rw [q2] at dj
              have LJ := Lib.hid lj
              have DJ := Lib.hid dj
              have FZ := Lib.hid (show z = false from by
                have := HA.out
                rw [HN.out.1, decide_eq_false (show ¬ p = s.size by omega)]
                simp)
              clear lj dj hld q q2 hb hg S0
              go_wp2_with (first | (go_at_call 57; (with_reducible refine (LJ.out _).mono ?_); rintro e w1 ⟨rfl, rfl⟩) | (go_at_call 58; (with_reducible refine (DJ.out _).mono ?_); rintro e w1 ⟨rfl, rfl⟩))
              go_ret
              exact ⟨ret_bool FZ.out.symm, Below.refl _ _⟩
          · obtain rfl : k = s.size := by omega
            have S0 := spanL_off (p := isLD) (Nat.le_of_eq (len_of s))
            have FZ := Lib.hid (show z = !K from by
              have := HA.out
              rw [HN.out.1, decide_eq_true (show p = s.size by omega), decide_eq_true H16.out]
              rfl)
            clear S0 hlt hk hg
            go_wp2_with (go_at_call 59; (with_reducible refine (KA.out _).mono ?_); rintro e w1 ⟨rfl, hb1⟩)
            go_ret
            exact ⟨ret_bool FZ.out.symm, hb1⟩
    · have d16 : ¬ (s.size : Int) ≤ 16 := by omega
      have FZ := Lib.hid (show z = false from by rw [HN.out.1, decide_eq_false h16]; simp)
      clear h16
      go_enter Tryd.func42, Tryd.ntmps42
      go_wp2_with fail
      go_ret
      exact ⟨ret_bool FZ.out.symm, Below.refl _ _⟩
end Go.Proofs.YtabnjiijgbigbaaDoor
