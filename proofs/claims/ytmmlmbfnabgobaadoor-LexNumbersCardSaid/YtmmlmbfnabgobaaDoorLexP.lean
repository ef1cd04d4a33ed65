/-
  The walk of LexNumbers. (Template: by-name.py fills it.)
-/
import Derived.Test.YtmmlmbfnabgobaaDoorLexL
namespace Go.Proofs.YtmmlmbfnabgobaaDoor
open Go.RowKit

theorem span_rep {p : UInt8 → Bool} {c : UInt8} (h : p c = true) : ∀ k : Nat, spanL p (List.replicate k c) = k
  | 0 => rfl
  | k + 1 => by rw [List.replicate_succ, spanL_cons, if_pos h, span_rep h k]
theorem res_digits {k : Nat} (h1 : 1 ≤ k) (h2 : k ≤ 30) : resOf (List.replicate k 55) = if k ≤ 18 then ([(1, List.replicate k 55, 0), (3, [], k)], 0, 0) else ([], 10, 0) := by
  have hl : (List.replicate k (55 : UInt8)).length ≤ 6000 := by rw [List.length_replicate]; omega
  have sp := span_rep (p := isDig) (c := 55) (by decide) k
  obtain ⟨j, rfl⟩ : ∃ j, k = j + 1 := ⟨k - 1, by omega⟩
  have f := firstL_cons 55 (List.replicate j 55)
  rw [if_neg (by decide), if_pos (by decide), ← List.replicate_succ, sp] at f
  rw [List.replicate_succ] at f
  by_cases h : j + 1 ≤ 18
  · rw [if_pos h]
    refine res_of_ok hl ?_
    rw [List.replicate_succ, lexR_here (by decide) (by decide) (by rw [f]; exact decide_eq_true h), f]
    dsimp only
    rw [← List.replicate_succ, List.drop_of_length_le (by simp), List.take_of_length_le (by simp), lexR_nil, Nat.zero_add]
    rfl
  · rw [if_neg h]
    refine res_of_bad hl ?_
    rw [List.replicate_succ]
    exact lexR_fault (by decide) (by decide) (by rw [f]; exact decide_eq_false h)
theorem res_word {k : Nat} (h2 : k ≤ 30) : resOf (110 :: List.replicate k 55) = ([(0, 110 :: List.replicate k 55, 0), (3, [], k + 1)], 0, 0) := by
  have sp : spanL isLD (110 :: List.replicate k 55) = k + 1 := by rw [spanL_cons, if_pos (by decide), span_rep (by decide)]
  have f := firstL_cons 110 (List.replicate k 55)
  rw [if_pos (by decide), sp] at f
  refine res_of_ok (by simp; omega) ?_
  rw [lexR_here (by decide) (by decide) (by rw [f]), f]
  dsimp only
  rw [List.drop_of_length_le (by simp), List.take_of_length_le (by simp), lexR_nil, Nat.zero_add]
  rfl
theorem name_word (k : Nat) : isName (110 :: List.replicate k 55) = decide (k + 1 ≤ 16) := by
  have sp : spanL isLD (110 :: List.replicate k 55) = k + 1 := by rw [spanL_cons, if_pos (by decide), span_rep (by decide)]
  have kk : isKey (110 :: List.replicate k 55) = false := rfl
  unfold isName
  rw [sp, kk, List.length_cons, List.length_replicate, decide_eq_true (rfl : k + 1 = k + 1)]
  show (isLet 110 && decide (k + 1 ≤ 16) && true && !false) = _
  rw [show isLet 110 = true from by decide]
  simp
theorem name_digits {k : Nat} (h1 : 1 ≤ k) : isName (List.replicate k 55) = false := by
  obtain ⟨j, rfl⟩ : ∃ j, k = j + 1 := ⟨k - 1, by omega⟩
  rw [List.replicate_succ]
  unfold isName
  show (isLet 55 && _ && _ && _) = _
  rw [show isLet 55 = false from by decide]
  rfl
theorem wf_u8 {n : Int} (h : (Lit.int .u8 n).wf = true) : 0 ≤ n ∧ n ≤ 255 := by
  simp only [Lit.wf, Bool.and_eq_true, decide_eq_true_eq] at h
  have a : IntKind.u8.min = 0 := by decide
  have b : IntKind.u8.max = 255 := by decide
  rw [a, b] at h
  exact h
theorem txt_more (P : List UInt8) (j : Nat) : Value.string (⟨(P ++ List.replicate j 55).toArray⟩ ++ ⟨#[55]⟩) = txt (P ++ List.replicate (j + 1) 55) :=
  txt_of (by rw [List.replicate_succ', ← List.append_assoc]; simp)

theorem data_mk (l : List UInt8) : (⟨l.toArray⟩ : ByteArray).data.toList = l := rfl

-- WALK
set_option maxRecDepth 10000 in
set_option maxHeartbeats 8000000 in
theorem lexnumbers_true (w : World) (ht : Tabs w) (n : Int) (hn : (Lit.int .u8 n).wf = true) : Calls Tryd.prog 9 #[.int .u8 n, .bool true] w fun e w' => e = .returned (.bool true) ∧ Below w.heap.size w w' := by
  obtain ⟨n0, n1⟩ := wf_u8 hn
  obtain ⟨k0, hk⟩ : ∃ k : Nat, n % 30 = k := ⟨(n % 30).toNat, by omega⟩
  have k1 : k0 < 30 := by omega
  have aw := fun w' (h : Below w.heap.size w w') => awake_yes w' (ht.below h)
  have AW := Lib.hid aw
  have wk : IntKind.i64.wrap (1 + (k0 : Int)) = 1 + (k0 : Int) := IntWalk.i64_in _ (by omega)
  have HT := Lib.hid ht
  clear aw hn ht
  go_enter Tryd.func9, Tryd.ntmps9
  go_upto_region 3 with (go_at_call 10; (with_reducible refine (AW.out _ (Below.refl _ _)).mono ?_); rintro e w1 ⟨rfl, bb⟩)
  go_upto_region 7 with fail
  obtain ⟨k, hkk⟩ : ∃ k : Nat, k = k0 + 1 := ⟨_, rfl⟩
  have hki : (1 : Int) + (k0 : Int) = (k : Int) := by omega
  rw [hki]
  have kb : 1 ≤ k ∧ k ≤ 30 := by omega
  have HK := Lib.hid kb
  have BB_ := Lib.hid bb
  clear hkk hki hk wk k1 n0 n1 bb kb
  go_wp2_with fail
  go_loopg [6, 7] k (fun g v6 v7 wr => ∃ j : Nat, v7 = .int .i64 j ∧ v6 = txt ([110] ++ List.replicate j 55) ∧ j ≤ k ∧ g = k - j ∧ wr = w1)
  case atStart => exact ⟨0, rfl, rfl, Nat.zero_le _, rfl, rfl⟩
  case round =>
    obtain ⟨j, rfl, rfl, hj, hg, rfl⟩ := hrel
    by_cases hlt : j < k
    · have i1 : (j : Int) < (k : Int) := by omega
      have i2 : (0 : Int) ≤ (j : Int) := by omega
      have wj : IntKind.i64.wrap ((j : Int) + 1) = (j : Int) + 1 := IntWalk.i64_in _ (by have := HK.out; omega)
      have hl : ([110] ++ List.replicate j (55 : UInt8)).length ≤ 31 := by have := HK.out; simp; omega
      have l1 : ¬ 9223372036854775807 < ([110] ++ List.replicate j (55 : UInt8)).length + 1 := by omega
      have HH := Lib.hid (And.intro hlt (And.intro hg (txt_more [110] j)))
      clear hg hlt hj hl
      generalize [110] ++ List.replicate j (55 : UInt8) = O at *
      go_wp2_with fail
      go_roundg (k - (j + 1))
      case measure => have := HH.out; omega
      case rel => exact ⟨j + 1, by push_cast; rfl, HH.out.2.2, by have := HH.out; omega, rfl, rfl⟩
    · obtain rfl : j = k := by omega
      clear hg hlt hj
      have tr := tokens_res ⟨([110] ++ List.replicate j (55 : UInt8)).toArray⟩ wr (HT.out.below BB_.out).1
      have na := fun (w' : World) (h : Below w.heap.size w w') => name_any ⟨([110] ++ List.replicate j (55 : UInt8)).toArray⟩ w' (show ([110] ++ List.replicate j (55 : UInt8)).length ≤ maxLen by have := HK.out; unfold maxLen; simp; omega) (HT.out.below h).2
      have e0 : ([110] : List UInt8) ++ List.replicate j (55 : UInt8) = 110 :: List.replicate j 55 := rfl
      rw [data_mk, e0, res_word HK.out.2] at tr
      rw [data_mk, e0, name_word] at na
      have hsz : ([110] ++ List.replicate j (55 : UInt8)).length = j + 1 := by simp
      generalize hO : [110] ++ List.replicate j (55 : UInt8) = O at *
      have hO' : 110 :: List.replicate j 55 = O := hO
      rw [hO'] at na
      have NA := Lib.hid na
      rw [hO'] at tr
      have TR := Lib.hid tr
      clear e0 tr na hO hO'
      by_cases h16 : j + 1 ≤ 16
      · have hz : O.length ≤ 16 := by omega
        have dz : (O.length : Int) ≤ 16 := by omega
        have e16 : decide (j + 1 ≤ 16) = true := decide_eq_true h16
        rw [e16] at NA
        clear h16 e16 hsz hz
        go_upto_region 12 with (go_at_call 11; (with_reducible refine TR.out.mono ?_); rintro e w2 ⟨A, c, rfl, hT, hb⟩)
        (try dsimp only at hT hb)
        have F1 := Blk.start w2 #[.int .i64 0, .int .i64 0] 26
        have a1 := below_alloc1 w2 (.cells #[.int .i64 0, .int .i64 0] 26)
        have b1 := hb.trans (a1.mono hb.size)
        have HC := Lib.hid (And.intro (BB_.out.trans (b1.mono BB_.out.size)) (And.intro F1 (hT.below a1)))
        clear hT hb F1 a1 b1
        generalize w2.heap.size = bf at *
        generalize w2.alloc (.cells #[.int .i64 0, .int .i64 0] 26) = w3 at *
        have f0 := HC.out.2.1.cell 0
        have f1 := HC.out.2.1.cell 1
        obtain ⟨Az, cz, eq, _, _, hr⟩ := HC.out.2.2
        obtain ⟨rfl, rfl⟩ : A = Az ∧ c = cz := by injection eq with a b c; exact ⟨a, c⟩
        obtain ⟨ad, rfl, _, hc⟩ := hr.2 (by simp)
        have c0 : w3.cell? ad = some (.int .i64 0) := hc 0 _ rfl
        have c1 : w3.cell? ⟨ad.block, ad.off + 1, none⟩ = some (txt O) := hc 1 _ rfl
        clear hr hc eq
        go_wp2_with (go_at_call 16; (with_reducible refine (NA.out _ HC.out.1).mono ?_); rintro e w5 ⟨rfl, rfl⟩)
        go_ret
        exact ⟨rfl, HC.out.1⟩
      · have dz : decide ((O.length : Int) ≤ 16) = false := decide_eq_false (by omega)
        have e16 : decide (j + 1 ≤ 16) = false := decide_eq_false h16
        rw [e16] at NA
        clear h16 e16 hsz
        go_upto_region 12 with (go_at_call 11; (with_reducible refine TR.out.mono ?_); rintro e w2 ⟨A, c, rfl, hT, hb⟩)
        (try dsimp only at hT hb)
        have F1 := Blk.start w2 #[.int .i64 0, .int .i64 0] 26
        have a1 := below_alloc1 w2 (.cells #[.int .i64 0, .int .i64 0] 26)
        have b1 := hb.trans (a1.mono hb.size)
        have HC := Lib.hid (And.intro (BB_.out.trans (b1.mono BB_.out.size)) (And.intro F1 (hT.below a1)))
        clear hT hb F1 a1 b1
        generalize w2.heap.size = bf at *
        generalize w2.alloc (.cells #[.int .i64 0, .int .i64 0] 26) = w3 at *
        have f0 := HC.out.2.1.cell 0
        have f1 := HC.out.2.1.cell 1
        obtain ⟨Az, cz, eq, _, _, hr⟩ := HC.out.2.2
        obtain ⟨rfl, rfl⟩ : A = Az ∧ c = cz := by injection eq with a b c; exact ⟨a, c⟩
        obtain ⟨ad, rfl, _, hc⟩ := hr.2 (by simp)
        have c0 : w3.cell? ad = some (.int .i64 0) := hc 0 _ rfl
        have c1 : w3.cell? ⟨ad.block, ad.off + 1, none⟩ = some (txt O) := hc 1 _ rfl
        clear hr hc eq
        go_wp2_with (go_at_call 16; (with_reducible refine (NA.out _ HC.out.1).mono ?_); rintro e w5 ⟨rfl, rfl⟩)
        go_ret
        exact ⟨rfl, HC.out.1⟩

set_option maxRecDepth 10000 in
set_option maxHeartbeats 8000000 in
theorem lexnumbers_false (w : World) (ht : Tabs w) (n : Int) (hn : (Lit.int .u8 n).wf = true) : Calls Tryd.prog 9 #[.int .u8 n, .bool false] w fun e w' => e = .returned (.bool true) ∧ Below w.heap.size w w' := by
  obtain ⟨n0, n1⟩ := wf_u8 hn
  obtain ⟨k0, hk⟩ : ∃ k : Nat, n % 30 = k := ⟨(n % 30).toNat, by omega⟩
  have k1 : k0 < 30 := by omega
  have aw := fun w' (h : Below w.heap.size w w') => awake_yes w' (ht.below h)
  have AW := Lib.hid aw
  have wk : IntKind.i64.wrap (1 + (k0 : Int)) = 1 + (k0 : Int) := IntWalk.i64_in _ (by omega)
  have HT := Lib.hid ht
  clear aw hn ht
  go_enter Tryd.func9, Tryd.ntmps9
  go_upto_region 3 with (go_at_call 10; (with_reducible refine (AW.out _ (Below.refl _ _)).mono ?_); rintro e w1 ⟨rfl, bb⟩)
  go_upto_region 7 with fail
  obtain ⟨k, hkk⟩ : ∃ k : Nat, k = k0 + 1 := ⟨_, rfl⟩
  have hki : (1 : Int) + (k0 : Int) = (k : Int) := by omega
  rw [hki]
  have kb : 1 ≤ k ∧ k ≤ 30 := by omega
  have HK := Lib.hid kb
  have BB_ := Lib.hid bb
  clear hkk hki hk wk k1 n0 n1 bb kb
  go_wp2_with fail
  go_loopg [6, 7] k (fun g v6 v7 wr => ∃ j : Nat, v7 = .int .i64 j ∧ v6 = txt ([] ++ List.replicate j 55) ∧ j ≤ k ∧ g = k - j ∧ wr = w1)
  case atStart => exact ⟨0, rfl, rfl, Nat.zero_le _, rfl, rfl⟩
  case round =>
    obtain ⟨j, rfl, rfl, hj, hg, rfl⟩ := hrel
    by_cases hlt : j < k
    · have i1 : (j : Int) < (k : Int) := by omega
      have i2 : (0 : Int) ≤ (j : Int) := by omega
      have wj : IntKind.i64.wrap ((j : Int) + 1) = (j : Int) + 1 := IntWalk.i64_in _ (by have := HK.out; omega)
      have hl : ([] ++ List.replicate j (55 : UInt8)).length ≤ 31 := by have := HK.out; simp; omega
      have l1 : ¬ 9223372036854775807 < ([] ++ List.replicate j (55 : UInt8)).length + 1 := by omega
      have HH := Lib.hid (And.intro hlt (And.intro hg (txt_more [] j)))
      clear hg hlt hj hl
      generalize [] ++ List.replicate j (55 : UInt8) = O at *
      go_wp2_with fail
      go_roundg (k - (j + 1))
      case measure => have := HH.out; omega
      case rel => exact ⟨j + 1, by push_cast; rfl, HH.out.2.2, by have := HH.out; omega, rfl, rfl⟩
    · obtain rfl : j = k := by omega
      clear hg hlt hj
      have tr := tokens_res ⟨([] ++ List.replicate j (55 : UInt8)).toArray⟩ wr (HT.out.below BB_.out).1
      have na := fun (w' : World) (h : Below w.heap.size w w') => name_any ⟨([] ++ List.replicate j (55 : UInt8)).toArray⟩ w' (show ([] ++ List.replicate j (55 : UInt8)).length ≤ maxLen by have := HK.out; unfold maxLen; simp; omega) (HT.out.below h).2
      have e0 : ([] : List UInt8) ++ List.replicate j (55 : UInt8) = List.replicate j 55 := rfl
      rw [data_mk, e0, res_digits HK.out.1 HK.out.2] at tr
      rw [data_mk, e0, name_digits HK.out.1] at na
      have hsz : ([] ++ List.replicate j (55 : UInt8)).length = j := by simp
      generalize hO : [] ++ List.replicate j (55 : UInt8) = O at *
      have hO' : List.replicate j 55 = O := hO
      rw [hO'] at na
      have NA := Lib.hid na
      by_cases h18 : j ≤ 18
      · rw [if_pos h18, hO'] at tr
        have TR := Lib.hid tr
        have d18 : ¬ (18 : Int) < (j : Int) := by omega
        clear e0 tr na hO hO' h18 hsz
        go_upto_region 12 with (go_at_call 11; (with_reducible refine TR.out.mono ?_); rintro e w2 ⟨A, c, rfl, hT, hb⟩)
        (try dsimp only at hT hb)
        have F1 := Blk.start w2 #[.int .i64 0, .int .i64 0] 26
        have a1 := below_alloc1 w2 (.cells #[.int .i64 0, .int .i64 0] 26)
        have b1 := hb.trans (a1.mono hb.size)
        have HC := Lib.hid (And.intro (BB_.out.trans (b1.mono BB_.out.size)) (And.intro F1 (hT.below a1)))
        clear hT hb F1 a1 b1
        generalize w2.heap.size = bf at *
        generalize w2.alloc (.cells #[.int .i64 0, .int .i64 0] 26) = w3 at *
        have f0 := HC.out.2.1.cell 0
        have f1 := HC.out.2.1.cell 1
        obtain ⟨Az, cz, eq, _, _, hr⟩ := HC.out.2.2
        obtain ⟨rfl, rfl⟩ : A = Az ∧ c = cz := by injection eq with a b c; exact ⟨a, c⟩
        obtain ⟨ad, rfl, _, hc⟩ := hr.2 (by simp)
        have c0 : w3.cell? ad = some (.int .i64 1) := hc 0 _ rfl
        have c1 : w3.cell? ⟨ad.block, ad.off + 1, none⟩ = some (txt O) := hc 1 _ rfl
        clear hr hc eq
        go_wp2_with (go_at_call 16; (with_reducible refine (NA.out _ HC.out.1).mono ?_); rintro e w5 ⟨rfl, rfl⟩)
        go_ret
        exact ⟨rfl, HC.out.1⟩
      · rw [if_neg h18, hO'] at tr
        have TR := Lib.hid tr
        have d18 : (18 : Int) < (j : Int) := by omega
        clear e0 tr na hO hO' h18 hsz
        go_upto_region 12 with (go_at_call 11; (with_reducible refine TR.out.mono ?_); rintro e w2 ⟨A, c, rfl, hT, hb⟩)
        (try dsimp only at hT hb)
        have F1 := Blk.start w2 #[.int .i64 10, .int .i64 0] 26
        have a1 := below_alloc1 w2 (.cells #[.int .i64 10, .int .i64 0] 26)
        have b1 := hb.trans (a1.mono hb.size)
        have HC := Lib.hid (And.intro (BB_.out.trans (b1.mono BB_.out.size)) (And.intro F1 (hT.below a1)))
        clear hT hb F1 a1 b1
        generalize w2.heap.size = bf at *
        generalize w2.alloc (.cells #[.int .i64 10, .int .i64 0] 26) = w3 at *
        have f0 := HC.out.2.1.cell 0
        have f1 := HC.out.2.1.cell 1
        go_wp2_with (go_at_call 16; (with_reducible refine (NA.out _ HC.out.1).mono ?_); rintro e w5 ⟨rfl, rfl⟩)
        go_ret
        exact ⟨rfl, HC.out.1⟩

theorem lexnumbers_any (w : World) (ht : Tabs w) (n : Int) (hn : (Lit.int .u8 n).wf = true) (b : Bool) : Calls Tryd.prog 9 #[.int .u8 n, .bool b] w fun e w' => e = .returned (.bool true) ∧ Below w.heap.size w w' := by
  cases b
  · exact lexnumbers_false w ht n hn
  · exact lexnumbers_true w ht n hn
end Go.Proofs.YtmmlmbfnabgobaaDoor
