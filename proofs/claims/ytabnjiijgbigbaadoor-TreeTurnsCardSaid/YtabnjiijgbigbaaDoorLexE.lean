/-
  Blocks known whole; the walk of the function that package lex's reader makes. (Template: by-name.py fills it.)
-/
import Derived.Test.YtabnjiijgbigbaaDoorLexD
import Derived.OneCell
import Derived.StillTailTactics
import Derived.BigRegion
import Derived.Deep.RegionHeld3
import Derived.Deep.Cut
namespace Go.Proofs.YtabnjiijgbigbaaDoor
open Go.RowKit

/-- A block that may be written, with all its cells. -/
def Blk (w : World) (b : Nat) (cs : Array Value) : Prop := ∃ ty, w.heap[b]? = some (.cells cs ty (0, 0))
section
variable {w w' : World} {b : Nat} {cs : Array Value}
theorem Blk.cell (h : Blk w b cs) (i : Nat) : w.cell? ⟨b, i, none⟩ = cs[i]? := by
  obtain ⟨ty, h⟩ := h
  simp [World.cell?, h]
theorem Blk.free (h : Blk w b cs) (i : Nat) : w.frozen? ⟨b, i, none⟩ = false := by
  obtain ⟨ty, h⟩ := h
  simp [World.frozen?, h]
theorem Blk.lt (h : Blk w b cs) : b < w.heap.size := by
  obtain ⟨ty, h⟩ := h
  exact lt_of_block h
theorem Blk.start (w : World) (cs : Array Value) (ty : TypeId) : Blk (w.alloc (.cells cs ty)) w.heap.size cs := ⟨ty, heap_alloc_new _ _⟩
theorem Blk.keepB {B : Nat} (h : Blk w b cs) (hb : Below B w w') (hlt : b < B) : Blk w' b cs := by
  obtain ⟨ty, h⟩ := h
  exact ⟨ty, (hb.block b hlt).trans h⟩
theorem Blk.keep (h : Blk w b cs) (hb : Below w.heap.size w w') : Blk w' b cs := h.keepB hb h.lt
theorem Blk.grown {row : Option Nat} (h : Blk w b cs) (hg : w.grownBy w' row) (hne : row ≠ some b) : Blk w' b cs := by
  have hl := h.lt
  obtain ⟨ty, h⟩ := h
  exact ⟨ty, (hg.block b hl (fun e => hne e.symm)).trans h⟩
theorem Blk.other (h : Blk w b cs) {p : Addr} (hp : p.block ≠ b) (v : Value) : Blk (w.setCell p v) b cs := by
  obtain ⟨ty, h⟩ := h
  exact ⟨ty, by rw [Below.heap_setCell _ _ _ _ (fun e => hp e.symm)]; exact h⟩
theorem Blk.set (h : Blk w b cs) (i : Nat) (v : Value) : Blk (w.setCell ⟨b, i, none⟩ v) b (cs.setIfInBounds i v) := by
  have hlt := h.lt
  obtain ⟨ty, h⟩ := h
  refine ⟨ty, ?_⟩
  have h' : w.heap[b] = .cells cs ty (0, 0) := by simpa [Array.getElem?_eq_getElem hlt] using h
  show (w.heap.modify b _)[b]? = _
  rw [Array.getElem?_eq_getElem (by simpa using hlt), Array.getElem_modify_self, h']
  rfl
theorem Blk.drew (h : Blk w b cs) : Blk w.drew b cs := h
end
theorem StrRow.grown {w w' : World} {g : Nat} {l : List (List UInt8)} {row : Option Nat} (h : StrRow w g l) (hg : w.grownBy w' row) (hne : row ≠ some g) : StrRow w' g l := by
  obtain ⟨t, fr, e⟩ := h
  exact ⟨t, fr, (hg.block g (lt_of_block e) (fun q => hne q.symm)).trans e⟩
theorem drew_grown {w w' : World} {row : Option Nat} (h : w.grownBy w' row) : w.grownBy w'.drew row := ⟨h.os, h.tape, h.output, h.size, h.block⟩
theorem grown_of_below {w w' : World} (h : Below w.heap.size w w') (row : Option Nat) : w.grownBy w' row := ⟨h.os, h.tape, h.output, h.size, fun k hk _ => h.block k hk⟩
theorem grown_trans {a b c : World} {row : Option Nat} (h : a.grownBy b row) (k : b.grownBy c row) : a.grownBy c row :=
  ⟨k.os.trans h.os, k.tape.trans h.tape, k.output.trans h.output, Nat.le_trans h.size k.size, fun i hi hne => (k.block i (Nat.lt_of_lt_of_le hi h.size) hne).trans (h.block i hi hne)⟩
theorem grown_set {w : World} {g j : Nat} {u : Value} : w.grownBy (w.setCell ⟨g, j, none⟩ u) (some g) :=
  ⟨rfl, rfl, rfl, by simp [World.setCell], fun k _ hk => Below.heap_setCell _ _ _ _ (fun e => hk (by rw [e]))⟩
theorem grown_below_of {B : Nat} {w w' : World} {row : Option Nat} (hg : w.grownBy w' row) (hB : B ≤ w.heap.size) (hr : ∀ k, row = some k → B ≤ k) : Below B w w' := (Below.refl B w).grown hg hB hr
theorem below_alloc1 (w : World) (a : Obj) : Below w.heap.size w (w.alloc a) := (Below.refl _ _).alloc (Nat.le_refl _) _

theorem grown_by_new {w w3 : World} {row : Option Nat} (h : w.grownBy w3 row) (x y z : Value) : w.grownBy (((w3.setCell ⟨w.heap.size, 0, none⟩ x).setCell ⟨w.heap.size, 1, none⟩ y).setCell ⟨w.heap.size, 2, none⟩ z) row := by
  refine ⟨h.os, h.tape, h.output, by simpa [World.setCell] using h.size, fun k hk hne => ?_⟩
  rw [Below.heap_setCell _ _ _ _ (by show k ≠ w.heap.size; omega), Below.heap_setCell _ _ _ _ (by show k ≠ w.heap.size; omega), Below.heap_setCell _ _ _ _ (by show k ≠ w.heap.size; omega)]
  exact h.block k hk hne

/-- What the function that reader makes answers: the token from place a on. -/
structure ReadAns where
  kind : Nat
  lo : Nat
  size : Nat
  ok : Bool
def readL (l : List UInt8) (a : Nat) : ReadAns :=
  let b := blanksL (l.drop a)
  let f := firstL (l.drop (a + b))
  ⟨f.1, a + b, f.2.1, f.2.2⟩
theorem readL_le (l : List UInt8) (a : Nat) (h : a ≤ l.length) : (readL l a).lo ≤ l.length ∧ (readL l a).lo + (readL l a).size ≤ l.length ∧ a ≤ (readL l a).lo := by
  have h1 := blanksL_le (l.drop a)
  rw [List.length_drop] at h1
  have h2 := firstL_le (l.drop (a + blanksL (l.drop a)))
  rw [List.length_drop] at h2
  unfold readL
  dsimp only
  omega
def ReadPut (w : World) (ba : Nat) (s : ByteArray) (r : ReadAns) (e : Ending) (w' : World) : Prop :=
  e = .returned (.tuple #[.agg #[.int .i64 r.kind, .string (s.extract r.lo (r.lo + r.size)), .int .i64 r.lo], .bool r.ok]) ∧ w.grownBy w' (some ba) ∧ Blk w' ba #[.int .i64 ((r.lo + r.size : Nat) : Int)]

end Go.Proofs.YtabnjiijgbigbaaDoor
