/-
  Nodes in memory. (Template: by-name.py fills it.)
-/
import Derived.Test.YtabnjiijgbigbaaDoorTreA
import Derived.Test.YtabnjiijgbigbaaDoorLexE
namespace Go.Proofs.YtabnjiijgbigbaaDoor
open Go.RowKit

/-! ### Slices of numbers and of texts -/
def IntsL (w : World) (v : Value) (l : List Int) : Prop := ∃ A c, v = .slice A l.length c ∧ l.length ≤ c ∧ c ≤ maxLen ∧ Reads w w.heap.size 1 A l.length (l.map (Value.int .i64))
theorem IntsL.below {w w' : World} {v : Value} {l : List Int} (h : IntsL w v l) (hb : Below w.heap.size w w') : IntsL w' v l := by
  obtain ⟨A, c, h1, h2, h3, h4⟩ := h
  exact ⟨A, c, h1, h2, h3, (h4.below hb).more hb.size⟩
theorem IntsL.nil (w : World) : IntsL w (.slice none 0 0) [] := ⟨none, 0, rfl, Nat.le_refl _, by decide, Reads.none_⟩
theorem IntsL.len {w : World} {v : Value} {l : List Int} (h : IntsL w v l) : l.length ≤ maxLen := by
  obtain ⟨_, _, _, a, b, _⟩ := h
  omega
theorem ints_at {w wr : World} {A : Option Addr} {n k : Nat} {l : List Int} {x : Int} (h4 : Reads w w.heap.size 1 A n (l.map (Value.int .i64))) (hb : Below w.heap.size w wr) (hx : l[k]? = some x) (hn : 0 < n) :
    ∃ ad, A = some ad ∧ wr.cell? (ad.add k) = some (.int .i64 x) := by
  obtain ⟨ad, e, hbk, hc⟩ := h4.2 hn
  exact ⟨ad, e, (hb.cell (p := ad.add k) (by rw [block_of_add]; exact hbk)).trans (hc k _ (by rw [List.getElem?_map, hx]; rfl))⟩
def StrsL (w : World) (v : Value) (l : List (List UInt8)) : Prop := ∃ A c, v = .slice A l.length c ∧ l.length ≤ c ∧ c ≤ maxLen ∧ Reads w w.heap.size 1 A l.length (l.map txt) ∧ ∀ s ∈ l, s.length ≤ maxLen
theorem StrsL.below {w w' : World} {v : Value} {l : List (List UInt8)} (h : StrsL w v l) (hb : Below w.heap.size w w') : StrsL w' v l := by
  obtain ⟨A, c, h1, h2, h3, h4, h5⟩ := h
  exact ⟨A, c, h1, h2, h3, (h4.below hb).more hb.size, h5⟩
theorem StrsL.nil (w : World) : StrsL w (.slice none 0 0) [] := ⟨none, 0, rfl, Nat.le_refl _, by decide, Reads.none_, fun s hs => by cases hs⟩
theorem StrsL.len {w : World} {v : Value} {l : List (List UInt8)} (h : StrsL w v l) : l.length ≤ maxLen := by
  obtain ⟨_, _, _, a, b, _⟩ := h
  omega
theorem strs_at {w wr : World} {A : Option Addr} {n k : Nat} {l : List (List UInt8)} {x : List UInt8} (h4 : Reads w w.heap.size 1 A n (l.map txt)) (hb : Below w.heap.size w wr) (hx : l[k]? = some x) (hn : 0 < n) :
    ∃ ad, A = some ad ∧ wr.cell? (ad.add k) = some (txt x) := by
  obtain ⟨ad, e, hbk, hc⟩ := h4.2 hn
  exact ⟨ad, e, (hb.cell (p := ad.add k) (by rw [block_of_add]; exact hbk)).trans (hc k _ (by rw [List.getElem?_map, hx]; rfl))⟩

/-! ### Nodes -/
/-- A node's three slices. -/
abbrev NdV := Value × Value × Value
def nodeCells : List (NdV × Nd) → List Value
  | [] => []
  | x :: r => .int .i64 x.2.kind :: x.1.1 :: x.1.2.1 :: x.1.2.2 :: .int .i64 x.2.pos :: nodeCells r
theorem nodeCells_length : ∀ l, (nodeCells l).length = l.length * 5
  | [] => rfl
  | x :: r => by
    simp only [nodeCells, List.length_cons, nodeCells_length r]
    omega
theorem nodeCells_append : ∀ (l m : List (NdV × Nd)), nodeCells (l ++ m) = nodeCells l ++ nodeCells m
  | [], m => rfl
  | x :: r, m => by rw [List.cons_append, nodeCells, nodeCells, nodeCells_append r m]; rfl
theorem nodeCells_at : ∀ (l : List (NdV × Nd)) (k : Nat) (x : NdV × Nd), l[k]? = some x → (nodeCells l)[k * 5]? = some (.int .i64 x.2.kind) ∧ (nodeCells l)[k * 5 + 1]? = some x.1.1 ∧ (nodeCells l)[k * 5 + 2]? = some x.1.2.1 ∧ (nodeCells l)[k * 5 + 3]? = some x.1.2.2 ∧ (nodeCells l)[k * 5 + 4]? = some (.int .i64 x.2.pos)
  | [], k, x, h => by simp at h
  | y :: r, 0, x, h => by
    obtain rfl : y = x := by simpa using h
    exact ⟨rfl, rfl, rfl, rfl, rfl⟩
  | y :: r, k + 1, x, h => by
    rw [List.getElem?_cons_succ] at h
    obtain ⟨a, b, c, d, e⟩ := nodeCells_at r k x h
    exact ⟨by rw [show (k + 1) * 5 = k * 5 + 1 + 1 + 1 + 1 + 1 by omega]; exact a, by rw [show (k + 1) * 5 + 1 = k * 5 + 1 + 1 + 1 + 1 + 1 + 1 by omega]; exact b, by rw [show (k + 1) * 5 + 2 = k * 5 + 2 + 1 + 1 + 1 + 1 + 1 by omega]; exact c, by rw [show (k + 1) * 5 + 3 = k * 5 + 3 + 1 + 1 + 1 + 1 + 1 by omega]; exact d, by rw [show (k + 1) * 5 + 4 = k * 5 + 4 + 1 + 1 + 1 + 1 + 1 by omega]; exact e⟩
def NdAt (w : World) (x : NdV × Nd) : Prop := StrsL w x.1.1 x.2.words ∧ IntsL w x.1.2.1 x.2.nums ∧ IntsL w x.1.2.2 x.2.kids
theorem NdAt.below {w w' : World} {x : NdV × Nd} (h : NdAt w x) (hb : Below w.heap.size w w') : NdAt w' x := ⟨h.1.below hb, h.2.1.below hb, h.2.2.below hb⟩
/-- A slice of nodes. -/
def NodesAt (w : World) (v : Value) (ns : List Nd) : Prop :=
  ∃ A c rs, v = .slice A ns.length c ∧ ns.length ≤ c ∧ c ≤ maxLen ∧ rs.map (·.2) = ns ∧ Reads w w.heap.size 5 A ns.length (nodeCells rs) ∧ ∀ x ∈ rs, NdAt w x
theorem NodesAt.below {w w' : World} {v : Value} {ns : List Nd} (h : NodesAt w v ns) (hb : Below w.heap.size w w') : NodesAt w' v ns := by
  obtain ⟨A, c, rs, h1, h2, h3, h4, h5, h6⟩ := h
  exact ⟨A, c, rs, h1, h2, h3, h4, (h5.below hb).more hb.size, fun x hx => (h6 x hx).below hb⟩
theorem NodesAt.nil (w : World) : NodesAt w (.slice none 0 0) [] := ⟨none, 0, [], rfl, Nat.le_refl _, by decide, rfl, Reads.none_, fun x hx => by cases hx⟩
theorem nodes_cells {w wr : World} {A : Option Addr} {n k : Nat} {rs : List (NdV × Nd)} {x : NdV × Nd} (h4 : Reads w w.heap.size 5 A n (nodeCells rs)) (hb : Below w.heap.size w wr) (hx : rs[k]? = some x) (hn : 0 < n) :
    ∃ ad, A = some ad ∧ wr.cell? (ad.add (k * 5)) = some (.int .i64 x.2.kind) ∧ wr.cell? ⟨(ad.add (k * 5)).block, (ad.add (k * 5)).off + 1, none⟩ = some x.1.1 ∧ wr.cell? ⟨(ad.add (k * 5)).block, (ad.add (k * 5)).off + 2, none⟩ = some x.1.2.1 ∧ wr.cell? ⟨(ad.add (k * 5)).block, (ad.add (k * 5)).off + 3, none⟩ = some x.1.2.2 ∧ wr.cell? ⟨(ad.add (k * 5)).block, (ad.add (k * 5)).off + 4, none⟩ = some (.int .i64 x.2.pos) := by
  obtain ⟨ad, e, hbk, hc⟩ := h4.2 hn
  obtain ⟨a, b, c, d, f⟩ := nodeCells_at rs k x hx
  have d0 := (hb.cell (p := ad.add (k * 5)) (by rw [block_of_add]; exact hbk)).trans (hc _ _ a)
  have d1 := (hb.cell (p := ad.add (k * 5 + 1)) (by rw [block_of_add]; exact hbk)).trans (hc _ _ b)
  have d2 := (hb.cell (p := ad.add (k * 5 + 2)) (by rw [block_of_add]; exact hbk)).trans (hc _ _ c)
  have d3 := (hb.cell (p := ad.add (k * 5 + 3)) (by rw [block_of_add]; exact hbk)).trans (hc _ _ d)
  have d4 := (hb.cell (p := ad.add (k * 5 + 4)) (by rw [block_of_add]; exact hbk)).trans (hc _ _ f)
  rw [← add_of_add] at d1 d2 d3 d4
  exact ⟨ad, e, d0, d1, d2, d3, d4⟩
end Go.Proofs.YtabnjiijgbigbaaDoor
