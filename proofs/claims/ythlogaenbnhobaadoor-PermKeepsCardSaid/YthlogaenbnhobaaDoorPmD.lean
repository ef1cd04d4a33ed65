/-
  Package perm's Split. (Template: by-name.py fills it.)
-/
import Derived.Test.YthlogaenbnhobaaDoorPmC
namespace Go.Proofs.YthlogaenbnhobaaDoor
open Go.RowKit

/-- Split's own boxes. -/
def SpB (w w1 : World) (k n d r s x y : Int) : Prop :=
  Blk w1 w.heap.size (permC k n d r s) ∧ Blk w1 (w.heap.size + 1) #[.int .i64 x, .int .i64 y] ∧ Blk w1 (w.heap.size + 1 + 1) (permC 0 0 0 0 0) ∧ Blk w1 (w.heap.size + 1 + 1 + 1) (permC 0 0 0 0 0) ∧ Below w.heap.size w w1
theorem SpB.keep {w w1 w2 : World} {k n d r s x y : Int} (h : SpB w w1 k n d r s x y) (hb : Below w1.heap.size w1 w2) : SpB w w2 k n d r s x y :=
  ⟨h.1.keep hb, h.2.1.keep hb, h.2.2.1.keep hb, h.2.2.2.1.keep hb, h.2.2.2.2.trans (hb.mono h.2.2.2.2.size)⟩
theorem SpB.start (w : World) (k n d r s x y : Int) (tp tr : TypeId) :
    SpB w ((((w.alloc (.cells (permC k n d r s) tp)).alloc (.cells #[.int .i64 x, .int .i64 y] tr)).alloc (.cells (permC 0 0 0 0 0) tp)).alloc (.cells (permC 0 0 0 0 0) tp)) k n d r s x y := by
  have b1 := below_alloc1 w (.cells (permC k n d r s) tp)
  have s1 : (w.alloc (.cells (permC k n d r s) tp)).heap.size = w.heap.size + 1 := by simp
  have p1 := Blk.start w (permC k n d r s) tp
  generalize w.alloc (.cells (permC k n d r s) tp) = w1 at *
  have b2 := below_alloc1 w1 (.cells #[.int .i64 x, .int .i64 y] tr)
  have s2 : (w1.alloc (.cells #[.int .i64 x, .int .i64 y] tr)).heap.size = w1.heap.size + 1 := by simp
  have p2 := Blk.start w1 #[.int .i64 x, .int .i64 y] tr
  generalize w1.alloc (.cells #[.int .i64 x, .int .i64 y] tr) = w2 at *
  have b3 := below_alloc1 w2 (.cells (permC 0 0 0 0 0) tp)
  have s3 : (w2.alloc (.cells (permC 0 0 0 0 0) tp)).heap.size = w2.heap.size + 1 := by simp
  have p3 := Blk.start w2 (permC 0 0 0 0 0) tp
  generalize w2.alloc (.cells (permC 0 0 0 0 0) tp) = w3 at *
  have b4 := below_alloc1 w3 (.cells (permC 0 0 0 0 0) tp)
  have p4 := Blk.start w3 (permC 0 0 0 0 0) tp
  rw [s3, s2, s1] at p4
  rw [s2, s1] at p3
  rw [s1] at p2
  exact ⟨((p1.keep b2).keep b3).keep b4, (p2.keep b3).keep b4, p3.keep b4, p4, ((b1.trans (b2.mono (by omega))).trans (b3.mono (by omega))).trans (b4.mono (by omega))⟩

/-- Five cells are stored into a block of five. -/
theorem put5 {w : World} {b : Nat} {a0 a1 a2 a3 a4 : Value} (h : Blk w b #[a0, a1, a2, a3, a4]) (v0 v1 v2 v3 v4 : Value) : Blk (((((w.setCell ⟨b, 0, none⟩ (v0)).setCell ⟨b, 1, none⟩ (v1)).setCell ⟨b, 2, none⟩ (v2)).setCell ⟨b, 3, none⟩ (v3)).setCell ⟨b, 4, none⟩ (v4)) b #[v0, v1, v2, v3, v4] :=
  ((((h.set 0 v0).set 1 v1).set 2 v2).set 3 v3).set 4 v4
theorem put5_past {w : World} {b c : Nat} {cs : Array Value} (h : Blk w c cs) (hne : b ≠ c) (v0 v1 v2 v3 v4 : Value) : Blk (((((w.setCell ⟨b, 0, none⟩ (v0)).setCell ⟨b, 1, none⟩ (v1)).setCell ⟨b, 2, none⟩ (v2)).setCell ⟨b, 3, none⟩ (v3)).setCell ⟨b, 4, none⟩ (v4)) c cs :=
  ((((h.other (p := ⟨b, 0, none⟩) hne v0).other (p := ⟨b, 1, none⟩) hne v1).other (p := ⟨b, 2, none⟩) hne v2).other (p := ⟨b, 3, none⟩) hne v3).other (p := ⟨b, 4, none⟩) hne v4
theorem put5_below {B b : Nat} {w w1 : World} (h : Below B w w1) (hb : B ≤ b) (v0 v1 v2 v3 v4 : Value) : Below B w (((((w1.setCell ⟨b, 0, none⟩ (v0)).setCell ⟨b, 1, none⟩ (v1)).setCell ⟨b, 2, none⟩ (v2)).setCell ⟨b, 3, none⟩ (v3)).setCell ⟨b, 4, none⟩ (v4)) :=
  ((((h.setCell (p := ⟨b, 0, none⟩) hb v0).setCell (p := ⟨b, 1, none⟩) hb v1).setCell (p := ⟨b, 2, none⟩) hb v2).setCell (p := ⟨b, 3, none⟩) hb v3).setCell (p := ⟨b, 4, none⟩) hb v4
/-- The cells of a block of five. -/
theorem five_cells {w : World} {b : Nat} {a0 a1 a2 a3 a4 : Value} (h : Blk w b #[a0, a1, a2, a3, a4]) :
    (w.cell? ⟨b, 0, none⟩ = some a0 ∧ w.cell? ⟨b, 1, none⟩ = some a1 ∧ w.cell? ⟨b, 2, none⟩ = some a2 ∧ w.cell? ⟨b, 3, none⟩ = some a3 ∧ w.cell? ⟨b, 4, none⟩ = some a4) ∧
    w.frozen? ⟨b, 0, none⟩ = false ∧ w.frozen? ⟨b, 1, none⟩ = false ∧ w.frozen? ⟨b, 2, none⟩ = false ∧ w.frozen? ⟨b, 3, none⟩ = false ∧ w.frozen? ⟨b, 4, none⟩ = false :=
  ⟨⟨h.cell 0, h.cell 1, h.cell 2, h.cell 3, h.cell 4⟩, h.free 0, h.free 1, h.free 2, h.free 3, h.free 4⟩

/-- What Split answers where it refuses. -/
abbrev noSplit (e : Int) : Value := .tuple #[permV 0 0 0 0 0, permV 0 0 0 0 0, .int .i64 e]

set_option maxHeartbeats 2000000 in
theorem split_bad (k n d r s p i x y : Int) (w : World) (ht : RestTab w) (hbad : (restK k p != -1) = false ∨ ((restK k p != -1) = true ∧ keptB k p i = false)) :
    Calls Tryd.prog 7 #[permV k n d r s, .int .i64 p, ratV x y, .int .u32 i] w fun e w' => e = .returned (noSplit 2) ∧ Below w.heap.size w w' := by
  have H1 := SpB.start w k n d r s x y 28 25
  generalize hw1 : (((w.alloc (.cells (permC k n d r s) 28)).alloc (.cells #[.int .i64 x, .int .i64 y] 25)).alloc (.cells (permC 0 0 0 0 0) 28)).alloc (.cells (permC 0 0 0 0 0) 28) = w1 at *
  have KI := Lib.hid (kindOf_any k p w1 (ht.below H1.2.2.2.2))
  have KE := Lib.hid (fun w => kept_any k n d r s p i w)
  have c0 : w1.cell? ⟨w.heap.size, 0, none⟩ = some (.int .i64 k) := H1.1.cell 0
  have c1 : w1.cell? ⟨w.heap.size, 1, none⟩ = some (.int .i64 n) := H1.1.cell 1
  have c2 : w1.cell? ⟨w.heap.size, 2, none⟩ = some (.int .i64 d) := H1.1.cell 2
  have c3 : w1.cell? ⟨w.heap.size, 3, none⟩ = some (.int .i64 r) := H1.1.cell 3
  have c4 : w1.cell? ⟨w.heap.size, 4, none⟩ = some (.int .u32 s) := H1.1.cell 4
  have HH := Lib.hid H1
  clear H1 ht
  generalize (restK k p != -1) = po at *
  generalize restK k p = rk at *
  generalize keptS k s p i = ks at *
  generalize keptB k p i = kb at *
  rcases hbad with rfl | ⟨rfl, rfl⟩
  all_goals
  · (go_enter Tryd.func7, Tryd.ntmps7
     go_upto_region 2 with (go_at_call 10; (with_reducible refine KI.out.mono ?_); rintro e w2 ⟨rfl, rfl⟩)
     go_upto_region 3 with (go_at_call 11; (with_reducible refine (KE.out _).mono ?_); rintro e w3 ⟨rfl, hb⟩)
     have H4 := HH.out.keep (hb.trans ((below_alloc1 w3 (.cells #[.int .u32 ks] 26)).mono hb.size))
     clear hb
     generalize w3.alloc (.cells #[.int .u32 ks] 26) = w4 at *
     obtain ⟨_, _, A4, B4, L4⟩ := H4
     obtain ⟨⟨z0, z1, z2, z3, z4⟩, f0, f1, f2, f3, f4⟩ := five_cells A4
     obtain ⟨⟨y0, y1, y2, y3, y4⟩, g0, g1, g2, g3, g4⟩ := five_cells B4
     have AA := Lib.hid (put5_past (put5 A4 (.int .i64 0) (.int .i64 0) (.int .i64 0) (.int .i64 0) (.int .u32 0)) (b := w.heap.size + 1 + 1 + 1) (by omega) (.int .i64 0) (.int .i64 0) (.int .i64 0) (.int .i64 0) (.int .u32 0))
     have BB := Lib.hid (put5 (put5_past B4 (b := w.heap.size + 1 + 1) (by omega) (.int .i64 0) (.int .i64 0) (.int .i64 0) (.int .i64 0) (.int .u32 0)) (.int .i64 0) (.int .i64 0) (.int .i64 0) (.int .i64 0) (.int .u32 0))
     have LL := Lib.hid (put5_below (put5_below L4 (b := w.heap.size + 1 + 1) (by omega) (.int .i64 0) (.int .i64 0) (.int .i64 0) (.int .i64 0) (.int .u32 0)) (b := w.heap.size + 1 + 1 + 1) (by omega) (.int .i64 0) (.int .i64 0) (.int .i64 0) (.int .i64 0) (.int .u32 0))
     clear A4 B4 L4
     go_wp2_with fail
     generalize ((((((((((w4.setCell ⟨w.heap.size + 1 + 1, 0, none⟩ (.int .i64 0)).setCell ⟨w.heap.size + 1 + 1, 1, none⟩ (.int .i64 0)).setCell ⟨w.heap.size + 1 + 1, 2, none⟩ (.int .i64 0)).setCell ⟨w.heap.size + 1 + 1, 3, none⟩ (.int .i64 0)).setCell ⟨w.heap.size + 1 + 1, 4, none⟩ (.int .u32 0)).setCell ⟨w.heap.size + 1 + 1 + 1, 0, none⟩ (.int .i64 0)).setCell ⟨w.heap.size + 1 + 1 + 1, 1, none⟩ (.int .i64 0)).setCell ⟨w.heap.size + 1 + 1 + 1, 2, none⟩ (.int .i64 0)).setCell ⟨w.heap.size + 1 + 1 + 1, 3, none⟩ (.int .i64 0)).setCell ⟨w.heap.size + 1 + 1 + 1, 4, none⟩ (.int .u32 0)) = wz at *
     obtain ⟨⟨a0, a1, a2, a3, a4⟩, _⟩ := five_cells AA.out
     obtain ⟨⟨b0, b1, b2, b3, b4⟩, _⟩ := five_cells BB.out
     exact bodyPost_ret (v := noSplit 2) (by simp [results, Tryd.results7, go_sem, a0, a1, a2, a3, a4, b0, b1, b2, b3, b4]) rfl ⟨rfl, LL.out⟩)
end Go.Proofs.YthlogaenbnhobaaDoor
