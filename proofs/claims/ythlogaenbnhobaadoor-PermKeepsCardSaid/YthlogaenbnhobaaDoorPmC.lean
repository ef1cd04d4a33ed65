/-
  What a part is; the cut of package perm's Split. (Template: by-name.py fills it.)
-/
import Derived.Test.YthlogaenbnhobaaDoorPmB
namespace Go.Proofs.YthlogaenbnhobaaDoor
open Go.RowKit

theorem nought1 : Valid 0 1 := ⟨by decide, by decide, by decide, by decide⟩
theorem one1 : Valid 1 1 := ⟨by decide, by decide, by decide, by decide⟩

theorem hold_part {w w1 w2 : World} {x y : Value} (hb : Below w1.heap.size w1 w2)
    (h : (w1.cell? ⟨w.heap.size, 0, none⟩ = some x ∧ w1.cell? ⟨w.heap.size, 1, none⟩ = some y) ∧ w.heap.size < w1.heap.size ∧ Below w.heap.size w w1) :
    (w2.cell? ⟨w.heap.size, 0, none⟩ = some x ∧ w2.cell? ⟨w.heap.size, 1, none⟩ = some y) ∧ w.heap.size < w2.heap.size ∧ Below w.heap.size w w2 := by
  obtain ⟨⟨a, b⟩, g, k⟩ := h
  have hs := hb.size
  exact ⟨⟨keep_cell hb g a, keep_cell hb g b⟩, by omega, k.trans (hb.mono (by omega))⟩

set_option maxHeartbeats 1000000 in
theorem part_yes {x : Int} {y : Nat} (v : Valid x y) (h0 : 0 < x) (h1 : x < y) (w : World) : Calls Tryd.prog 12 #[ratV x y] w fun e w' => e = .returned (.bool true) ∧ Below w.heap.size w w' := by
  have c0 := fun w => compare_valid v nought1 w
  have c1 := fun w => compare_valid v one1 w
  simp only [Int.natCast_one] at c0 c1
  rw [show cmpV x 0 y 1 = 1 by unfold cmpV; rw [if_neg (by omega), if_neg (by omega)]] at c0
  rw [show cmpV x 1 y 1 = -1 by unfold cmpV; rw [if_pos (by omega)]] at c1
  have n0 := fun w => number_any 0 w
  have n1 := fun w => number_any 1 w
  have HS : (((w.alloc (.cells #[.int .i64 x, .int .i64 y] 25)).drew.cell? ⟨w.heap.size, 0, none⟩ = some (.int .i64 x) ∧ (w.alloc (.cells #[.int .i64 x, .int .i64 y] 25)).drew.cell? ⟨w.heap.size, 1, none⟩ = some (.int .i64 y)) ∧ w.heap.size < (w.alloc (.cells #[.int .i64 x, .int .i64 y] 25)).drew.heap.size ∧ Below w.heap.size w (w.alloc (.cells #[.int .i64 x, .int .i64 y] 25)).drew) :=
    ⟨⟨by go_simp, by go_simp⟩, by simp, (below_alloc1 _ _).drew⟩
  have C0 := Lib.hid c0; have C1 := Lib.hid c1; have N0 := Lib.hid n0; have N1 := Lib.hid n1
  clear c0 c1 n0 n1 h0 h1 v
  go_enter Tryd.func12, Tryd.ntmps12
  go_upto_region 1 with fail
  go_region_held3 (fun w' => (w'.cell? ⟨w.heap.size, 0, none⟩ = some (.int .i64 x) ∧ w'.cell? ⟨w.heap.size, 1, none⟩ = some (.int .i64 y)) ∧ w.heap.size < w'.heap.size ∧ Below w.heap.size w w')
    (first
      | with_reducible assumption
      | with_reducible exact hold_part (by with_reducible assumption) (by with_reducible assumption))
    (first
      | (go_at_call 9; (first | with_reducible refine (N0.out _).mono ?_ | with_reducible refine (N1.out _).mono ?_); rintro e w' ⟨rfl, hb⟩)
      | (go_at_call 23; (first | with_reducible refine (C0.out _).mono ?_ | with_reducible refine (C1.out _).mono ?_); rintro e w' ⟨rfl, hb⟩))
  go_wp2_with fail
  go_ret
  exact ⟨rfl, (by with_reducible assumption : (_ ∧ _) ∧ _ ∧ Below w.heap.size w _).2.2⟩

set_option maxHeartbeats 1000000 in
theorem cut_any (kind x y k n d r s i u v E : Int) (bp bs : Nat) (w : World) (hP : Blk w bp (permC k n d r s)) (hS : Blk w bs #[.int .u32 i])
    (mu : ∀ w, Calls Tryd.prog 14 #[ratV n d, ratV x y] w fun e w' => e = .returned (.tuple #[ratV u v, .int .i64 E]) ∧ Below w.heap.size w w') :
    Calls Tryd.prog 13 #[.int .i64 kind, ratV x y, .pointer (some ⟨bp, 0, none⟩), .pointer (some ⟨bs, 0, none⟩)] w fun e w' => e = .returned (.tuple #[permV kind u v r i, .int .i64 E]) ∧ Below w.heap.size w w' := by
  have a1 := below_alloc2 w (.cells #[.int .i64 x, .int .i64 y] 25) (.cells (permC 0 0 0 0 0) 28)
  have P1 := hP.keep a1
  have S1 := hS.keep a1
  have R1 : Blk _ w.heap.size _ := (Blk.start w #[.int .i64 x, .int .i64 y] 25).keep (below_alloc1 _ (.cells (permC 0 0 0 0 0) 28))
  have A1 := Blk.start (w.alloc (.cells #[.int .i64 x, .int .i64 y] 25)) (permC 0 0 0 0 0) 28
  rw [show (w.alloc (.cells #[.int .i64 x, .int .i64 y] 25)).heap.size = w.heap.size + 1 by simp] at A1
  generalize hw1 : (w.alloc (.cells #[.int .i64 x, .int .i64 y] 25)).alloc (.cells (permC 0 0 0 0 0) 28) = w1 at *
  have p1 : w1.cell? ⟨bp, 1, none⟩ = some (.int .i64 n) := P1.cell 1
  have p2 : w1.cell? ⟨bp, 2, none⟩ = some (.int .i64 d) := P1.cell 2
  have r0 : w1.cell? ⟨w.heap.size, 0, none⟩ = some (.int .i64 x) := R1.cell 0
  have r1 : w1.cell? ⟨w.heap.size, 1, none⟩ = some (.int .i64 y) := R1.cell 1
  have HP := Lib.hid P1; have HS := Lib.hid S1; have HA := Lib.hid A1; have HB := Lib.hid a1; have MU := Lib.hid mu
  clear hP hS mu P1 S1 R1 A1 a1
  go_enter Tryd.func13, Tryd.ntmps13
  go_upto_region 2 with (go_at_call 14; (with_reducible refine (MU.out _).mono ?_); rintro e w3 ⟨rfl, hb⟩)
  have a3 := hb.trans ((below_alloc1 w3 (.cells #[.int .i64 u, .int .i64 v] 25)).mono hb.size)
  have P4 := HP.out.keep a3
  have S4 := HS.out.keep a3
  have A4 := HA.out.keep a3
  have U4 := Blk.start w3 #[.int .i64 u, .int .i64 v] 25
  have HB4 := Lib.hid (HB.out.trans (a3.mono HB.out.size))
  clear HP HS HA HB MU p1 p2 r0 r1 hb a3
  generalize w3.heap.size = b3 at *
  generalize w3.alloc (.cells #[.int .i64 u, .int .i64 v] 25) = w4 at *
  have u0 : w4.cell? ⟨b3, 0, none⟩ = some (.int .i64 u) := U4.cell 0
  have u1 : w4.cell? ⟨b3, 1, none⟩ = some (.int .i64 v) := U4.cell 1
  have p3 : w4.cell? ⟨bp, 3, none⟩ = some (.int .i64 r) := P4.cell 3
  have s0 : w4.cell? ⟨bs, 0, none⟩ = some (.int .u32 i) := S4.cell 0
  have z0 : w4.cell? ⟨w.heap.size + 1, 0, none⟩ = some (.int .i64 0) := A4.cell 0
  have f0 := A4.free 0
  have z1 : w4.cell? ⟨w.heap.size + 1, 1, none⟩ = some (.int .i64 0) := A4.cell 1
  have f1 := A4.free 1
  have z2 : w4.cell? ⟨w.heap.size + 1, 2, none⟩ = some (.int .i64 0) := A4.cell 2
  have f2 := A4.free 2
  have z3 : w4.cell? ⟨w.heap.size + 1, 3, none⟩ = some (.int .i64 0) := A4.cell 3
  have f3 := A4.free 3
  have z4 : w4.cell? ⟨w.heap.size + 1, 4, none⟩ = some (.int .u32 0) := A4.cell 4
  have f4 := A4.free 4
  have FF := Lib.hid (((((A4.set 0 (.int .i64 kind)).set 1 (.int .i64 u)).set 2 (.int .i64 v)).set 3 (.int .i64 r)).set 4 (.int .u32 i))
  clear P4 S4 A4 U4
  go_wp2_with fail
  have bz := Lib.hid (((((HB4.out.setCell (p := ⟨w.heap.size + 1, 0, none⟩) (by simp) (.int .i64 kind)).setCell (p := ⟨w.heap.size + 1, 1, none⟩) (by simp) (.int .i64 u)).setCell (p := ⟨w.heap.size + 1, 2, none⟩) (by simp) (.int .i64 v)).setCell (p := ⟨w.heap.size + 1, 3, none⟩) (by simp) (.int .i64 r)).setCell (p := ⟨w.heap.size + 1, 4, none⟩) (by simp) (.int .u32 i))
  generalize ((((w4.setCell ⟨w.heap.size + 1, 0, none⟩ (.int .i64 kind)).setCell ⟨w.heap.size + 1, 1, none⟩ (.int .i64 u)).setCell ⟨w.heap.size + 1, 2, none⟩ (.int .i64 v)).setCell ⟨w.heap.size + 1, 3, none⟩ (.int .i64 r)).setCell ⟨w.heap.size + 1, 4, none⟩ (.int .u32 i) = wz at *
  have o0 : wz.cell? ⟨w.heap.size + 1, 0, none⟩ = some (.int .i64 kind) := FF.out.cell 0
  have o1 : wz.cell? ⟨w.heap.size + 1, 1, none⟩ = some (.int .i64 u) := FF.out.cell 1
  have o2 : wz.cell? ⟨w.heap.size + 1, 2, none⟩ = some (.int .i64 v) := FF.out.cell 2
  have o3 : wz.cell? ⟨w.heap.size + 1, 3, none⟩ = some (.int .i64 r) := FF.out.cell 3
  have o4 : wz.cell? ⟨w.heap.size + 1, 4, none⟩ = some (.int .u32 i) := FF.out.cell 4
  exact bodyPost_ret (v := .tuple #[permV kind u v r i, .int .i64 E]) (by simp [results, Tryd.results13, go_sem, o0, o1, o2, o3, o4]) rfl ⟨rfl, bz.out⟩
end Go.Proofs.YthlogaenbnhobaaDoor
