/-
  Rows that a call of package std lays one after the other; the walks of to, move and of the reference's out, move. (Template: by-name.py fills it.)
-/
import Derived.Test.YtbfgeiimjmhhdaaAutX
namespace Go.Proofs.Ytbfgeiimjmhhdaa
open Go.RowKit

structure RowR where
  e : TypeId
  size : Nat
  v : Value
  n : Nat
  xs : List Value
/-- Rows of the call's own, made since W0. -/
structure AccR (W0 w : World) (L : List RowR) : Prop where
  all : ∀ r ∈ L, w.ownsRow W0.heap.size r.e r.size r.v r.n r.xs
  below : Below W0.heap.size W0 w
theorem AccR.start (W0 : World) : AccR W0 W0 [] := ⟨(fun r hr => by cases hr), Below.refl _ _⟩
theorem AccR.keep {W0 w w' : World} {L : List RowR} (h : AccR W0 w L) (hb : Below w.heap.size w w') : AccR W0 w' L := ⟨fun r hr => ownRow_below (h.all r hr) hb, h.below.trans (hb.mono h.below.size)⟩
theorem AccR.push {W0 w : World} {L : List RowR} (h : AccR W0 w L) (e : TypeId) (size n : Nat) (cs : Array Value) (hn : n ≤ 1000) (hs : cs.size = n * size) :
    AccR W0 (w.alloc (.cells cs e)) (⟨e, size, .slice (some ⟨w.heap.size, 0, none⟩) n n, n, cs.toList⟩ :: L) := by
  have k := h.keep (below_alloc1 w (.cells cs e))
  refine ⟨fun r hr => ?_, k.below⟩
  rcases List.mem_cons.1 hr with rfl | hr
  · exact World.ownsRow_lit w cs n h.below.size (by unfold maxLen; omega) hs
  · exact k.all r hr
theorem AccR.more {W0 w : World} {L : List RowR} (h : AccR W0 w L) {r : RowR} (hr : w.ownsRow W0.heap.size r.e r.size r.v r.n r.xs) : AccR W0 w (r :: L) :=
  ⟨fun q hq => by
    rcases List.mem_cons.1 hq with rfl | hq
    · exact hr
    · exact h.all q hq, h.below⟩
set_option maxHeartbeats 1000000 in
theorem to_any (w : World) (s : List UInt8) (k : Int) :
    Calls Try.prog 25 #[txt s, .int .i64 k] w fun e w' => e = .returned (.agg #[txt s, .int .i64 k]) ∧ Below w.heap.size w w' := by
  have a1 := Lib.hid (below_alloc1 w (.cells #[txt s, .int .i64 k] 35))
  have B1 := Blk.start w #[txt s, .int .i64 k] 35
  have c0 := B1.cell 0
  have c1 := B1.cell 1
  simp only [List.getElem?_toArray, List.getElem?_cons_zero, List.getElem?_cons_succ] at c0 c1
  clear B1
  go_enter Try.func25, Try.ntmps25
  go_wp2_with fail
  exact bodyPost_ret (v := .agg #[txt s, .int .i64 k]) (by simp [results, Try.results25, go_sem, c0, c1]) rfl ⟨rfl, a1.out⟩
set_option maxHeartbeats 1000000 in
theorem rout_any (w : World) (s : List UInt8) (k : Int) :
    Calls Try.prog 13 #[txt s, .int .i64 k] w fun e w' => e = .returned (.agg #[txt s, .int .i64 k]) ∧ Below w.heap.size w w' := by
  have a1 := Lib.hid (below_alloc1 w (.cells #[txt s, .int .i64 k] 35))
  have B1 := Blk.start w #[txt s, .int .i64 k] 35
  have c0 := B1.cell 0
  have c1 := B1.cell 1
  simp only [List.getElem?_toArray, List.getElem?_cons_zero, List.getElem?_cons_succ] at c0 c1
  clear B1
  go_enter Try.func13, Try.ntmps13
  go_wp2_with fail
  exact bodyPost_ret (v := .agg #[txt s, .int .i64 k]) (by simp [results, Try.results13, go_sem, c0, c1]) rfl ⟨rfl, a1.out⟩
set_option maxHeartbeats 1000000 in
theorem move_any (w : World) (s : List UInt8) (k : Int) (A : Option Addr) (n c : Nat) :
    Calls Try.prog 24 #[txt s, .int .i64 k, .slice A n c] w fun e w' => e = .returned (.agg #[txt s, .int .i64 k, .slice A n c]) ∧ Below w.heap.size w w' := by
  have a1 := Lib.hid (below_alloc1 w (.cells #[txt s, .int .i64 k, .slice A n c] 38))
  have B1 := Blk.start w #[txt s, .int .i64 k, .slice A n c] 38
  have c0 := B1.cell 0
  have c1 := B1.cell 1
  have c2 := B1.cell 2
  simp only [List.getElem?_toArray, List.getElem?_cons_zero, List.getElem?_cons_succ] at c0 c1 c2
  clear B1
  go_enter Try.func24, Try.ntmps24
  go_wp2_with fail
  exact bodyPost_ret (v := .agg #[txt s, .int .i64 k, .slice A n c]) (by simp [results, Try.results24, go_sem, c0, c1, c2]) rfl ⟨rfl, a1.out⟩
set_option maxHeartbeats 1000000 in
theorem rmove_any (w : World) (s : List UInt8) (k : Int) (A : Option Addr) (n c : Nat) :
    Calls Try.prog 12 #[txt s, .int .i64 k, .slice A n c] w fun e w' => e = .returned (.agg #[txt s, .int .i64 k, .slice A n c]) ∧ Below w.heap.size w w' := by
  have a1 := Lib.hid (below_alloc1 w (.cells #[txt s, .int .i64 k, .slice A n c] 38))
  have B1 := Blk.start w #[txt s, .int .i64 k, .slice A n c] 38
  have c0 := B1.cell 0
  have c1 := B1.cell 1
  have c2 := B1.cell 2
  simp only [List.getElem?_toArray, List.getElem?_cons_zero, List.getElem?_cons_succ] at c0 c1 c2
  clear B1
  go_enter Try.func12, Try.ntmps12
  go_wp2_with fail
  exact bodyPost_ret (v := .agg #[txt s, .int .i64 k, .slice A n c]) (by simp [results, Try.results12, go_sem, c0, c1, c2]) rfl ⟨rfl, a1.out⟩
end Go.Proofs.Ytbfgeiimjmhhdaa
