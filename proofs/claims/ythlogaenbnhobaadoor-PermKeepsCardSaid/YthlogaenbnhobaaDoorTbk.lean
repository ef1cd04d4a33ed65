/-
  Blocks with their types, for seats of the trees (the same words stand in AutL, AutN). (Template: by-name.py fills it.)
-/
import Derived.Test.YthlogaenbnhobaaDoorBase
namespace Go.Proofs.YthlogaenbnhobaaDoor
open Go.RowKit

theorem own_shape {w : World} {base n size : Nat} {e : TypeId} {v : Value} {xs : List Value} (h : w.ownsRow base e size v n xs) : ∃ A c, v = .slice A n c := by
  rcases h.2 with ⟨rfl, rfl⟩ | ⟨g, cap, cur, rfl, _⟩
  · exact ⟨_, _, rfl⟩
  · exact ⟨_, _, rfl⟩
theorem ownRow_below {w w1 : World} {base n size : Nat} {e : TypeId} {v : Value} {xs : List Value} (h : w.ownsRow base e size v n xs) (hb : Below w.heap.size w w1) : w1.ownsRow base e size v n xs :=
  h.kept (row := none) ⟨hb.os, hb.tape, hb.output, hb.size, fun k hk _ => hb.block k hk⟩ (by
    cases q : v.ownBlock with
    | none => exact .inl rfl
    | some k => exact .inr (by simp))
theorem reads_own {w : World} {base n size : Nat} {e : TypeId} {A : Option Addr} {c : Nat} {xs : List Value} (h : w.ownsRow base e size (.slice A n c) n xs) : n ≤ c ∧ c ≤ maxLen ∧ Reads w w.heap.size size A n xs := by
  rcases h.2 with ⟨q, rfl⟩ | ⟨g, cap, cur, q, hb, hg, hnc, hcm, hcs, ht⟩
  · injection q with q1 q2 q3
    subst q1 q3
    exact ⟨Nat.le_refl _, by decide, ⟨h.1, fun hn => absurd hn (Nat.lt_irrefl _)⟩⟩
  · injection q with q1 q2 q3
    subst q1 q3
    refine ⟨hnc, hcm, ⟨h.1, fun _ => ⟨⟨g, 0, none⟩, rfl, (Array.getElem?_eq_some_iff.1 hg).1, fun j u hj => ?_⟩⟩⟩
    have hl := (List.getElem?_eq_some_iff.1 hj).1
    rw [h.1] at hl
    have := h.cellAt j hl
    rw [hj] at this
    rw [show (⟨g, 0, none⟩ : Addr).add j = ⟨g, j, none⟩ by unfold Addr.add; by_cases e : j = 0 <;> simp [e]]
    exact this
theorem info_parts {P : Program} {t : TypeId} {z : Option Value} {s b : Nat} (h : (P.info? t).map (fun i => (i.zero, i.size, i.bytes)) = some (z, s, b)) : ∃ i, P.info? t = some i ∧ i.zero = z ∧ i.size = s ∧ i.bytes = b := by
  cases q : P.info? t with
  | none => rw [q] at h; cases h
  | some i =>
    rw [q] at h
    simp only [Option.map_some, Option.some.injEq, Prod.mk.injEq] at h
    exact ⟨i, rfl, h.1, h.2.1, h.2.2⟩
/-! ### State -/
/-- A block that may be written, with its type and all its cells. -/
def TBlk (w : World) (b : Nat) (ty : TypeId) (cs : Array Value) : Prop := w.heap[b]? = some (.cells cs ty (0, 0))
theorem TBlk.blk {w : World} {b : Nat} {ty : TypeId} {cs : Array Value} (h : TBlk w b ty cs) : Blk w b cs := ⟨ty, h⟩
theorem TBlk.start (w : World) (cs : Array Value) (ty : TypeId) : TBlk (w.alloc (.cells cs ty)) w.heap.size ty cs := heap_alloc_new _ _
theorem TBlk.lt {w : World} {b : Nat} {ty : TypeId} {cs : Array Value} (h : TBlk w b ty cs) : b < w.heap.size := h.blk.lt
theorem TBlk.keep {w w' : World} {b : Nat} {ty : TypeId} {cs : Array Value} (h : TBlk w b ty cs) (hb : Below w.heap.size w w') : TBlk w' b ty cs := (hb.block b h.lt).trans h
theorem TBlk.set {w : World} {b : Nat} {ty : TypeId} {cs : Array Value} (h : TBlk w b ty cs) (i : Nat) (v : Value) : TBlk (w.setCell ⟨b, i, none⟩ v) b ty (cs.setIfInBounds i v) := by
  have hlt := h.lt
  have h' : w.heap[b] = .cells cs ty (0, 0) := by
    unfold TBlk at h
    simpa [Array.getElem?_eq_getElem hlt] using h
  show (w.heap.modify b _)[b]? = _
  rw [Array.getElem?_eq_getElem (by simpa using hlt), Array.getElem_modify_self, h']
  rfl
/-- A row of elements of another type lies in another block. -/
theorem TBlk.off {w : World} {b base n size : Nat} {ty e : TypeId} {cs : Array Value} {v : Value} {xs : List Value} (h : TBlk w b ty cs) (ho : w.ownsRow base e size v n xs) (hne : ty ≠ e) : v.ownBlock ≠ some b := by
  rcases ho.2 with ⟨rfl, _⟩ | ⟨g, cap, cur, rfl, _, hg, _⟩
  · intro q; cases q
  · intro q
    injection q with q
    dsimp only at q
    subst q
    unfold TBlk at h
    rw [hg] at h
    injection h with h
    injection h with _ h _
    exact hne h.symm
theorem own_apart {w : World} {base base' n n' size size' : Nat} {e e' : TypeId} {v v' : Value} {xs xs' : List Value} (h : w.ownsRow base e size v n xs) (h' : w.ownsRow base' e' size' v' n' xs') (hne : e ≠ e') : ∀ b, v.ownBlock = some b → v'.ownBlock ≠ some b := by
  intro b hb
  rcases h.2 with ⟨rfl, _⟩ | ⟨g, cap, cur, rfl, _, hg, _⟩
  · cases hb
  · injection hb with hb
    dsimp only at hb
    subst hb
    exact TBlk.off (ty := e) (cs := cur) hg h' hne
theorem TBlk.other {w : World} {b : Nat} {ty : TypeId} {cs : Array Value} (h : TBlk w b ty cs) {p : Addr} (hp : p.block ≠ b) (v : Value) : TBlk (w.setCell p v) b ty cs := (heap_setCell_other w p b v (fun e => hp e.symm)).trans h
theorem own_past {w : World} {base n size g j : Nat} {e : TypeId} {v u : Value} {xs : List Value} (h : w.ownsRow base e size v n xs) (hg : v.ownBlock ≠ some g) : (w.setCell ⟨g, j, none⟩ u).ownsRow base e size v n xs :=
  h.kept (row := some g) grown_set (.inr hg)
theorem TBlk.grown {w w' : World} {b : Nat} {ty : TypeId} {cs : Array Value} {row : Option Nat} (h : TBlk w b ty cs) (hg : w.grownBy w' row) (hne : row ≠ some b) : TBlk w' b ty cs := (hg.block b h.lt (fun e => hne e.symm)).trans h
end Go.Proofs.YthlogaenbnhobaaDoor
