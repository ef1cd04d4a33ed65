/-
  The walks of LexNames and LexTokens. (Template: by-name.py fills it.)
-/
import Derived.Test.YtmmlmbfnabgobaaDoorLexL
namespace Go.Proofs.YtmmlmbfnabgobaaDoor
open Go.RowKit

theorem name_nokey {l : List UInt8} (h : isName l = true) : isKey l = false := by
  unfold isName at h
  simp only [Bool.and_eq_true, Bool.not_eq_true'] at h
  exact h.2

set_option maxRecDepth 10000 in
set_option maxHeartbeats 8000000 in
theorem lexnames_any (w : World) (ht : Tabs w) (s : ByteArray) (hs : s.size ≤ maxLen) : Calls Tryd.prog 4 #[.string s] w fun e w' => e = .returned (.bool true) ∧ Below w.heap.size w w' := by
  have aw := fun w' (h : Below w.heap.size w w') => awake_yes w' (ht.below h)
  have ka := fun w' (h : Below w.heap.size w w') => key_any s w' (ht.below h).2
  have rk := fun w' => rkey_any s w'
  have na := fun w' (h : Below w.heap.size w w') => name_any s w' hs (ht.below h).2
  have rn := fun w' => rname_any s w' hs
  have nk : isName s.data.toList = true → isKey s.data.toList = false := name_nokey
  generalize isKey s.data.toList = K at *
  generalize isName s.data.toList = N at *
  have AW := Lib.hid aw; have KA := Lib.hid ka; have RK := Lib.hid rk; have NA := Lib.hid na; have RN := Lib.hid rn; have HS := Lib.hid hs
  clear aw ka rk na rn ht hs
  by_cases h2 : (200 : Int) < (s.size : Int)
  · clear nk
    go_enter Tryd.func4, Tryd.ntmps4
    go_upto_region 2 with (go_at_call 10; (with_reducible refine (AW.out _ (Below.refl _ _)).mono ?_); rintro e w1 ⟨rfl, bb⟩)
    go_wp2_with (go_at_call 10; (with_reducible refine (AW.out _ bb).mono ?_); rintro e w2 ⟨rfl, b2⟩)
    go_ret
    exact ⟨rfl, bb.trans (b2.mono bb.size)⟩
  · cases K <;> cases N
    case true.true => exact absurd (nk rfl) (by decide)
    all_goals
      clear nk
      go_enter Tryd.func4, Tryd.ntmps4
      go_upto_region 3 with (go_at_call 10; (with_reducible refine (AW.out _ (Below.refl _ _)).mono ?_); rintro e w1 ⟨rfl, bb⟩)
      go_wp2_with (first
        | (go_at_call 14; (with_reducible refine (KA.out _ bb).mono ?_); rintro e w2 ⟨rfl, rfl⟩)
        | (go_at_call 16; (with_reducible refine (NA.out _ bb).mono ?_); rintro e w2 ⟨rfl, rfl⟩)
        | (go_at_call 15; (with_reducible refine (RK.out _).mono ?_); rintro e w2 ⟨rfl, b2⟩; have b3 := bb.trans (b2.mono bb.size); clear b2 bb; have bb := b3; clear b3)
        | (go_at_call 17; (with_reducible refine (RN.out _).mono ?_); rintro e w2 ⟨rfl, b2⟩; have b3 := bb.trans (b2.mono bb.size); clear b2 bb; have bb := b3; clear b3))
      go_ret
      exact ⟨rfl, bb⟩

set_option maxRecDepth 10000 in
set_option maxHeartbeats 8000000 in
theorem lextokens_any (w : World) (ht : Tabs w) (s : ByteArray) (_ : s.size ≤ maxLen) : Calls Tryd.prog 3 #[.string s] w fun e w' => e = .returned (.bool true) ∧ Below w.heap.size w w' := by
  have aw := fun w' (h : Below w.heap.size w w') => awake_yes w' (ht.below h)
  have ta := fun w' (h : Below w.heap.size w w') => tokens_res s w' (ht.below h).1
  have rt := fun w' => rtokens_res s w'
  generalize resOf s.data.toList = R at *
  obtain ⟨ts, er, at_⟩ := R
  have AW := Lib.hid aw; have TA := Lib.hid ta; have RT := Lib.hid rt
  clear aw ta rt ht
  by_cases h2 : (7000 : Int) < (s.size : Int)
  · go_enter Tryd.func3, Tryd.ntmps3
    go_upto_region 2 with (go_at_call 10; (with_reducible refine (AW.out _ (Below.refl _ _)).mono ?_); rintro e w1 ⟨rfl, bb⟩)
    go_wp2_with (go_at_call 10; (with_reducible refine (AW.out _ bb).mono ?_); rintro e w2 ⟨rfl, b2⟩)
    go_ret
    exact ⟨rfl, bb.trans (b2.mono bb.size)⟩
  · go_enter Tryd.func3, Tryd.ntmps3
    go_upto_region 3 with (go_at_call 10; (with_reducible refine (AW.out _ (Below.refl _ _)).mono ?_); rintro e w1 ⟨rfl, bb⟩)
    go_upto_region 4 with (go_at_call 11; (with_reducible refine (TA.out _ bb).mono ?_); rintro e w2 ⟨A, c, rfl, hT, hb⟩)
    (try dsimp only at hT hb)
    have F1 := Blk.start w2 #[.int .i64 er, .int .i64 at_] 26
    have a1 := below_alloc1 w2 (.cells #[.int .i64 er, .int .i64 at_] 26)
    have b1 := hb.trans (a1.mono hb.size)
    have HB := Lib.hid (And.intro (bb.trans (b1.mono bb.size)) (And.intro F1 (hT.below a1)))
    clear hT hb F1 a1 b1 bb
    generalize w2.heap.size = bf at *
    generalize w2.alloc (.cells #[.int .i64 er, .int .i64 at_] 26) = w3 at *
    go_upto_region 5 with (go_at_call 12; (with_reducible refine (RT.out _).mono ?_); rintro e w4 ⟨A2, c2, rfl, hT2, hb2⟩)
    (try dsimp only at hT2 hb2)
    have F2 := Blk.start w4 #[.int .i64 er, .int .i64 at_] 26
    have a2 := below_alloc1 w4 (.cells #[.int .i64 er, .int .i64 at_] 26)
    have b2 := hb2.trans (a2.mono hb2.size)
    have HB2 := Lib.hid (And.intro (HB.out.1.trans (b2.mono HB.out.1.size)) (And.intro (HB.out.2.1.keep b2) (And.intro F2 (same_yes _ _ _ ts (HB.out.2.2.below b2) (hT2.below a2)))))
    clear hT2 hb2 F2 a2 b2
    generalize w4.heap.size = bg at *
    generalize w4.alloc (.cells #[.int .i64 er, .int .i64 at_] 26) = w5 at *
    have f0 := HB2.out.2.1.cell 0
    have f1 := HB2.out.2.1.cell 1
    have g0 := HB2.out.2.2.1.cell 0
    have g1 := HB2.out.2.2.1.cell 1
    generalize ts.length = n at *
    go_wp2_with (go_at_call 13; (with_reducible refine HB2.out.2.2.2.mono ?_); rintro e w6 ⟨rfl, b6⟩)
    go_ret
    exact ⟨rfl, HB2.out.1.trans (b6.mono HB2.out.1.size)⟩
end Go.Proofs.YtmmlmbfnabgobaaDoor
