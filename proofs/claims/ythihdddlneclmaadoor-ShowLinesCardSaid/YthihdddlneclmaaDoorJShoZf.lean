/-
  The tables of layer 8's rows; the walks of the statements' awake of layer 8. (Template: by-name.py fills it.)
-/
import Derived.Test.YthihdddlneclmaaDoorJShoZc
import Derived.Test.YthihdddlneclmaaDoorKG
import Derived.Test.YthihdddlneclmaaDoorKH
import Derived.Lib.LaidTab
namespace Go.Proofs.YthihdddlneclmaaDoor
open Go.RowKit

/-- The tables that the row lists. -/
structure ShoTabs (W : World) : Prop where
  keys : StrRow W 3 keysL
  p : PTabs W
theorem PTabs.below {w w' : World} (h : PTabs w) (hb : Below w.heap.size w w') : PTabs w' := ⟨h.kinds.below hb, h.names.below hb, h.signs.below hb, fun w2 h2 => h.ten w2 (hb.trans (h2.mono hb.size))⟩
theorem ShoTabs.below {w w' : World} (h : ShoTabs w) (hb : Below w.heap.size w w') : ShoTabs w' := ⟨h.keys.below hb, h.p.below hb⟩
theorem Tryd.gKinds : Tryd.prog.globalNamed "ballcock/show.kinds" = some 0 := by kernel_rfl
theorem Tryd.gKindsType : (Tryd.prog.globals[0]?).map (·.type) = some 52 := by kernel_rfl
theorem Tryd.gNamesW : Tryd.prog.globalNamed "ballcock/show.namesWords" = some 1 := by kernel_rfl
theorem Tryd.gNamesWType : (Tryd.prog.globals[1]?).map (·.type) = some 64 := by kernel_rfl
theorem Tryd.gShoSigns : Tryd.prog.globalNamed "ballcock/show.signs" = some 2 := by kernel_rfl
theorem Tryd.gShoSignsType : (Tryd.prog.globals[2]?).map (·.type) = some 92 := by kernel_rfl
theorem Tryd.gTen : Tryd.prog.globalNamed "internal/strconv.uint64pow10" = some 5 := by kernel_rfl
theorem Tryd.gTenType : (Tryd.prog.globals[5]?).map (·.type) = some 109 := by kernel_rfl
theorem tabs_sho {W : World} (h : laidMetH Tryd.prog [("math/bits.deBruijn32tab", Rows.laid_math_bits_deBruijn32tab), ("math/bits.deBruijn64tab", Rows.laid_math_bits_deBruijn64tab), ("internal/strconv.uint64pow10", Rows.laid_internal_strconv_uint64pow10), ("ballcock/lex.keywords", Rows.laid_ballcock_lex_keywords), ("ballcock/show.signs", Rows.laid_ballcock_show_signs), ("ballcock/show.kinds", Rows.laid_ballcock_show_kinds), ("ballcock/show.namesWords", Rows.laid_ballcock_show_namesWords)] W) : ShoTabs W := by
  rw [MakeChecks.laidMetH_plain _ _ _ (by kernel_rfl)] at h
  have h2 := laidMet.tail (laidMet.tail h)
  have h3 := laidMet.tail h2
  have h4 := laidMet.tail h3
  have h5 := laidMet.tail h4
  have h6 := laidMet.tail h5
  exact ⟨strs_of_head (zs := keysL) Tryd.gKeys Tryd.gKeysType Tryd.underlying93 Tryd.underlying9 Tryd.cellsS (by kernel_rfl) h3,
    strs_of_head (zs := kindsT) Tryd.gKinds Tryd.gKindsType Tryd.underlying52 Tryd.underlying9 Tryd.cellsS (by kernel_rfl) h5,
    strs_of_head (zs := namesWordsT) (rest := []) Tryd.gNamesW Tryd.gNamesWType Tryd.underlying64 Tryd.underlying9 Tryd.cellsS (by kernel_rfl) h6,
    strs_of_head (zs := signsT) Tryd.gShoSigns Tryd.gShoSignsType Tryd.underlying92 Tryd.underlying9 Tryd.cellsS (by kernel_rfl) h4,
    Lib.tabBelow_of_tabIs (Lib.tabIs_of_head (zs := Lib.pow10Tab) Tryd.gTen Tryd.gTenType Tryd.underlying109 Tryd.underlying70 (by kernel_rfl) (by kernel_rfl) h2)⟩
/-- The document's example. -/
def ns8 : List Nd := [⟨0, [], [], [1], 0⟩, ⟨4, [[109, 97, 105, 110]], [], [2], 0⟩, ⟨7, [], [], [3], 0⟩, ⟨19, [], [], [], 0⟩]
def txt8 : Txt := [102, 110, 32, 109, 97, 105, 110, 40, 41, 32, 123, 10, 32, 32, 101, 120, 105, 116, 59, 10, 125, 10]
theorem show8 : showT ns8 = txt8 := by decide +kernel
theorem show_nil : showT [] = [] := by decide +kernel
theorem strs_lit (w : World) (l : List Txt) (ty : TypeId) (h : l.length ≤ maxLen) (hs : ∀ s ∈ l, s.length ≤ maxLen) : StrsL (w.alloc (.cells (l.map txt).toArray ty)) (.slice (some ⟨w.heap.size, 0, none⟩) l.length l.length) l :=
  ⟨_, _, rfl, Nat.le_refl _, h, by simpa using reads_lit w (l.map txt) ty, hs⟩
set_option maxRecDepth 10000 in
set_option maxHeartbeats 4000000 in
theorem awake8_yes (w : World) (ht : ShoTabs w) : Calls Tryd.prog 4 #[] w fun e w' => e = .returned (.bool true) ∧ Below w.heap.size w w' := by
  have a1 := below_alloc1 w (.cells #[.int .i64 1] 3)
  have K1 : IntsL (w.alloc (.cells #[.int .i64 1] 3)) (.slice (some ⟨w.heap.size, 0, none⟩) 1 1) [1] := ints_lit w [1] 3 (by simp [maxLen])
  generalize hw1 : w.alloc (.cells #[.int .i64 1] 3) = w1 at *
  have a2 := below_alloc1 w1 (.cells #[txt [109, 97, 105, 110]] 9)
  have K2 : StrsL (w1.alloc (.cells #[txt [109, 97, 105, 110]] 9)) (.slice (some ⟨w1.heap.size, 0, none⟩) 1 1) [[109, 97, 105, 110]] := strs_lit w1 [[109, 97, 105, 110]] 9 (by simp [maxLen]) (by simp [maxLen])
  generalize hw2 : w1.alloc (.cells #[txt [109, 97, 105, 110]] 9) = w2 at *
  have a3 := below_alloc1 w2 (.cells #[.int .i64 2] 3)
  have K3 : IntsL (w2.alloc (.cells #[.int .i64 2] 3)) (.slice (some ⟨w2.heap.size, 0, none⟩) 1 1) [2] := ints_lit w2 [2] 3 (by simp [maxLen])
  generalize hw3 : w2.alloc (.cells #[.int .i64 2] 3) = w3 at *
  have a4 := below_alloc1 w3 (.cells #[.int .i64 3] 3)
  have K4 : IntsL (w3.alloc (.cells #[.int .i64 3] 3)) (.slice (some ⟨w3.heap.size, 0, none⟩) 1 1) [3] := ints_lit w3 [3] 3 (by simp [maxLen])
  generalize hw4 : w3.alloc (.cells #[.int .i64 3] 3) = w4 at *
  have a5 := below_alloc1 w4 (.cells #[.int .i64 0, .slice none 0 0, .slice none 0 0, .slice (some ⟨w.heap.size, 0, none⟩) 1 1, .int .i64 0, .int .i64 4, .slice (some ⟨w1.heap.size, 0, none⟩) 1 1, .slice none 0 0, .slice (some ⟨w2.heap.size, 0, none⟩) 1 1, .int .i64 0, .int .i64 7, .slice none 0 0, .slice none 0 0, .slice (some ⟨w3.heap.size, 0, none⟩) 1 1, .int .i64 0, .int .i64 19, .slice none 0 0, .slice none 0 0, .slice none 0 0, .int .i64 0] 30)
  have N5 : NodesAt (w4.alloc (.cells #[.int .i64 0, .slice none 0 0, .slice none 0 0, .slice (some ⟨w.heap.size, 0, none⟩) 1 1, .int .i64 0, .int .i64 4, .slice (some ⟨w1.heap.size, 0, none⟩) 1 1, .slice none 0 0, .slice (some ⟨w2.heap.size, 0, none⟩) 1 1, .int .i64 0, .int .i64 7, .slice none 0 0, .slice none 0 0, .slice (some ⟨w3.heap.size, 0, none⟩) 1 1, .int .i64 0, .int .i64 19, .slice none 0 0, .slice none 0 0, .slice none 0 0, .int .i64 0] 30)) (.slice (some ⟨w4.heap.size, 0, none⟩) 4 4) ns8 :=
    nodes_lit w4 [((.slice none 0 0, .slice none 0 0, .slice (some ⟨w.heap.size, 0, none⟩) 1 1), ⟨0, [], [], [1], 0⟩), ((.slice (some ⟨w1.heap.size, 0, none⟩) 1 1, .slice none 0 0, .slice (some ⟨w2.heap.size, 0, none⟩) 1 1), ⟨4, [[109, 97, 105, 110]], [], [2], 0⟩), ((.slice none 0 0, .slice none 0 0, .slice (some ⟨w3.heap.size, 0, none⟩) 1 1), ⟨7, [], [], [3], 0⟩), ((.slice none 0 0, .slice none 0 0, .slice none 0 0), ⟨19, [], [], [], 0⟩)] 30 (by simp [maxLen]) (fun x hx => by
      simp only [List.mem_cons, List.not_mem_nil, or_false] at hx
      rcases hx with rfl | rfl | rfl | rfl
      · exact ⟨StrsL.nil _, IntsL.nil _, (((K1.below a2).below a3).below a4).below a5⟩
      · exact ⟨((K2.below a3).below a4).below a5, IntsL.nil _, (K3.below a4).below a5⟩
      · exact ⟨StrsL.nil _, IntsL.nil _, K4.below a5⟩
      · exact ⟨StrsL.nil _, IntsL.nil _, IntsL.nil _⟩)
  generalize hw5 : w4.alloc (.cells #[.int .i64 0, .slice none 0 0, .slice none 0 0, .slice (some ⟨w.heap.size, 0, none⟩) 1 1, .int .i64 0, .int .i64 4, .slice (some ⟨w1.heap.size, 0, none⟩) 1 1, .slice none 0 0, .slice (some ⟨w2.heap.size, 0, none⟩) 1 1, .int .i64 0, .int .i64 7, .slice none 0 0, .slice none 0 0, .slice (some ⟨w3.heap.size, 0, none⟩) 1 1, .int .i64 0, .int .i64 19, .slice none 0 0, .slice none 0 0, .slice none 0 0, .int .i64 0] 30) = w5 at *
  have b5 : Below w.heap.size w w5 := a1.trans ((a2.mono a1.size).trans ((a3.mono (Nat.le_trans a1.size a2.size)).trans ((a4.mono (Nat.le_trans a1.size (Nat.le_trans a2.size a3.size))).trans (a5.mono (Nat.le_trans a1.size (Nat.le_trans a2.size (Nat.le_trans a3.size a4.size)))))))
  have t5 := ht.below b5
  have S1 := Lib.hid (show_any w5 _ _ N5 t5.keys t5.p (by rw [show8]; decide))
  rw [show8] at S1
  have S2 := Lib.hid (fun w' (hb : Below w5.heap.size w5 w') => show_any w' _ _ (NodesAt.nil w') (t5.below hb).keys (t5.below hb).p (by rw [show_nil]; decide))
  rw [show_nil] at S2
  have HB := Lib.hid b5
  clear ht K1 K2 K3 K4 N5 a1 a2 a3 a4 a5 b5 t5
  go_enter Tryd.func4, Tryd.ntmps4
  go_wp2_with (first
    | (go_at_call 6; (with_reducible refine S1.out.mono ?_); rintro e2 w6 ⟨rfl, hb⟩; have B6 := Lib.hid hb; clear hb)
    | (go_at_call 6; (with_reducible refine (S2.out _ B6.out).mono ?_); rintro e3 w7 ⟨rfl, hb⟩; have B7 := Lib.hid (B6.out.trans (hb.mono B6.out.size)); clear hb))
  go_ret
  exact ⟨rfl, HB.out.trans (B7.out.mono HB.out.size)⟩
end Go.Proofs.YthihdddlneclmaaDoor
