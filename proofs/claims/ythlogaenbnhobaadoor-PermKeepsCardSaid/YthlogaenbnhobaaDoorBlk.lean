/-
  Blocks known whole. (Template: by-name.py fills it; the same words stand in LexE.)
-/
import Derived.Test.YthlogaenbnhobaaDoorWords
import Derived.Laws.Rows
import Derived.OneCell
namespace Go.Proofs.YthlogaenbnhobaaDoor
open Go.RowKit

/-- A block that may be written, with all its cells. -/
def Blk (w : World) (b : Nat) (cs : Array Value) : Prop := ∃ ty, w.heap[b]? = some (.cells cs ty (0, 0))
section
variable {w w' : World} {b : Nat} {cs : Array Value}
theorem Blk.cell (h : Blk w b cs) (i : Nat) : w.cell? ⟨b, i, none⟩ = cs[i]? := by
  obtain ⟨ty, h⟩ := h
  simp [World.cell?, h]
theorem Blk.free (h : Blk w b cs) (i : Nat) : w.frozen? ⟨b, i, none⟩ = false := by
  obtain ⟨ty, h⟩ := h
  simp [World.frozen?, h]
theorem Blk.lt (h : Blk w b cs) : b < w.heap.size := by
  obtain ⟨ty, h⟩ := h
  exact lt_of_block h
theorem Blk.start (w : World) (cs : Array Value) (ty : TypeId) : Blk (w.alloc (.cells cs ty)) w.heap.size cs := ⟨ty, heap_alloc_new _ _⟩
theorem Blk.keepB {B : Nat} (h : Blk w b cs) (hb : Below B w w') (hlt : b < B) : Blk w' b cs := by
  obtain ⟨ty, h⟩ := h
  exact ⟨ty, (hb.block b hlt).trans h⟩
theorem Blk.keep (h : Blk w b cs) (hb : Below w.heap.size w w') : Blk w' b cs := h.keepB hb h.lt
theorem Blk.grown {row : Option Nat} (h : Blk w b cs) (hg : w.grownBy w' row) (hne : row ≠ some b) : Blk w' b cs := by
  have hl := h.lt
  obtain ⟨ty, h⟩ := h
  exact ⟨ty, (hg.block b hl (fun e => hne e.symm)).trans h⟩
theorem Blk.other (h : Blk w b cs) {p : Addr} (hp : p.block ≠ b) (v : Value) : Blk (w.setCell p v) b cs := by
  obtain ⟨ty, h⟩ := h
  exact ⟨ty, by rw [Below.heap_setCell _ _ _ _ (fun e => hp e.symm)]; exact h⟩
theorem Blk.set (h : Blk w b cs) (i : Nat) (v : Value) : Blk (w.setCell ⟨b, i, none⟩ v) b (cs.setIfInBounds i v) := by
  have hlt := h.lt
  obtain ⟨ty, h⟩ := h
  refine ⟨ty, ?_⟩
  have h' : w.heap[b] = .cells cs ty (0, 0) := by simpa [Array.getElem?_eq_getElem hlt] using h
  show (w.heap.modify b _)[b]? = _
  rw [Array.getElem?_eq_getElem (by simpa using hlt), Array.getElem_modify_self, h']
  rfl
theorem Blk.drew (h : Blk w b cs) : Blk w.drew b cs := h
end
end Go.Proofs.YthlogaenbnhobaaDoor
