/-
  Protocols in memory. (Template: by-name.py fills it.)
-/
import Derived.Test.YtbfgeiimjmhhdaaRows
import Derived.Test.YtbfgeiimjmhhdaaBlk
import Derived.WalkKit
import Derived.WalkSpells
import Derived.WalkLawsBesides
import Derived.IntWalk
import Derived.Lib.Hide
import Derived.WalkSmall
import Derived.Deep.QuietTactic
import Derived.BigQuiet
import Derived.Deep.LoopGhost
import Derived.Lib.Strings
import Derived.StillTailTactics
import Derived.BigRegion
import Derived.Deep.RegionHeld3
import Derived.Deep.Cut
import Derived.Maps.OwnOps
import Derived.Maps.Views
namespace Go.Proofs.Ytbfgeiimjmhhdaa
open Go.RowKit

abbrev txt (s : List UInt8) : Value := .string ⟨s.toArray⟩
/-! ### Plain -/
structure Ou where
  name : List UInt8
  to : Int
structure Sta where
  name : List UInt8
  final : Bool
structure Mov where
  op : List UInt8
  at_ : Int
  outs : List Ou
structure Pro where
  name : List UInt8
  states : List Sta
  moves : List Mov

/-! ### In memory: a slice whose elements' cells are told one by one -/
section
variable {α : Type}
/-- The cells of a row, its elements' cells after each other. -/
def rowC (f : α → List Value) : List α → List Value
  | [] => []
  | x :: r => f x ++ rowC f r
theorem rowC_length {f : α → List Value} {m : Nat} (hf : ∀ x, (f x).length = m) : ∀ l, (rowC f l).length = l.length * m
  | [] => by simp [rowC]
  | x :: r => by
    rw [rowC, List.length_append, hf, rowC_length hf r, List.length_cons, Nat.add_mul]
    omega
theorem rowC_append (f : α → List Value) : ∀ l k, rowC f (l ++ k) = rowC f l ++ rowC f k
  | [], k => rfl
  | x :: r, k => by rw [List.cons_append, rowC, rowC, rowC_append f r k, List.append_assoc]
theorem rowC_at {f : α → List Value} {m : Nat} (hf : ∀ x, (f x).length = m) : ∀ (l : List α) (k j : Nat) (x : α), l[k]? = some x → j < m → (rowC f l)[k * m + j]? = (f x)[j]?
  | [], k, j, x, h, _ => by simp at h
  | y :: r, 0, j, x, h, hj => by
    obtain rfl : y = x := by simpa using h
    rw [rowC, Nat.zero_mul, Nat.zero_add, List.getElem?_append_left (by rw [hf]; exact hj)]
  | y :: r, k + 1, j, x, h, hj => by
    rw [List.getElem?_cons_succ] at h
    rw [rowC, List.getElem?_append_right (by rw [hf, Nat.add_mul]; omega), hf, show (k + 1) * m + j - m = k * m + j by rw [Nat.add_mul]; omega]
    exact rowC_at hf r k j x h hj
/-- A slice of elements of m cells each; what it needs of each element is P. -/
def SlAt (m : Nat) (f : α → List Value) (P : World → α → Prop) (w : World) (v : Value) (l : List α) : Prop :=
  ∃ A c, v = .slice A l.length c ∧ l.length ≤ c ∧ c ≤ maxLen ∧ Reads w w.heap.size m A l.length (rowC f l) ∧ ∀ x ∈ l, P w x
theorem SlAt.below {m : Nat} {f : α → List Value} {P : World → α → Prop} (hP : ∀ w w' x, P w x → Below w.heap.size w w' → P w' x) {w w' : World} {v : Value} {l : List α} (h : SlAt m f P w v l) (hb : Below w.heap.size w w') : SlAt m f P w' v l := by
  obtain ⟨A, c, h1, h2, h3, h4, h5⟩ := h
  exact ⟨A, c, h1, h2, h3, (h4.below hb).more hb.size, fun x hx => hP w w' x (h5 x hx) hb⟩
theorem SlAt.nil (m : Nat) (f : α → List Value) (P : World → α → Prop) (w : World) : SlAt m f P w (.slice none 0 0) [] := ⟨none, 0, rfl, Nat.le_refl _, by decide, Reads.none_, fun x hx => by cases hx⟩
theorem sl_cell {m : Nat} {f : α → List Value} (hf : ∀ x, (f x).length = m) {w wr : World} {A : Option Addr} {n k : Nat} {l : List α} {x : α} (h4 : Reads w w.heap.size m A n (rowC f l)) (hb : Below w.heap.size w wr) (hx : l[k]? = some x) (hn : 0 < n) :
    ∃ ad, A = some ad ∧ ∀ j, j < m → wr.cell? ((ad.add (k * m)).add j) = (f x)[j]? := by
  obtain ⟨ad, e, hbk, hc⟩ := h4.2 hn
  refine ⟨ad, e, fun j hj => ?_⟩
  rw [add_of_add, hb.cell (p := ad.add (k * m + j)) (by rw [block_of_add]; exact hbk)]
  have hu : (f x)[j]? = some ((f x)[j]'(by rw [hf]; exact hj)) := List.getElem?_eq_getElem _
  rw [hu]
  exact hc _ _ ((rowC_at hf l k j x hx hj).trans hu)
end
section
variable {α : Type}
theorem sl_cell2 {f : α → List Value} (hf : ∀ x, (f x).length = 2) {w wr : World} {A : Option Addr} {n k : Nat} {l : List α} {x : α} (h4 : Reads w w.heap.size 2 A n (rowC f l)) (hb : Below w.heap.size w wr) (hx : l[k]? = some x) (hn : 0 < n) :
    ∃ ad, A = some ad ∧ wr.cell? (ad.add (k * 2)) = (f x)[0]? ∧ wr.cell? ⟨(ad.add (k * 2)).block, (ad.add (k * 2)).off + 1, none⟩ = (f x)[1]? := by
  obtain ⟨ad, e, h⟩ := sl_cell hf h4 hb hx hn
  have h0 := h 0 (by decide)
  have h1 := h 1 (by decide)
  rw [add_of_add, Nat.add_zero] at h0
  exact ⟨ad, e, h0, h1⟩
theorem sl_cell3 {f : α → List Value} (hf : ∀ x, (f x).length = 3) {w wr : World} {A : Option Addr} {n k : Nat} {l : List α} {x : α} (h4 : Reads w w.heap.size 3 A n (rowC f l)) (hb : Below w.heap.size w wr) (hx : l[k]? = some x) (hn : 0 < n) :
    ∃ ad, A = some ad ∧ wr.cell? (ad.add (k * 3)) = (f x)[0]? ∧ wr.cell? ⟨(ad.add (k * 3)).block, (ad.add (k * 3)).off + 1, none⟩ = (f x)[1]? ∧ wr.cell? ⟨(ad.add (k * 3)).block, (ad.add (k * 3)).off + 2, none⟩ = (f x)[2]? := by
  obtain ⟨ad, e, h⟩ := sl_cell hf h4 hb hx hn
  have h0 := h 0 (by decide)
  have h1 := h 1 (by decide)
  have h2 := h 2 (by decide)
  rw [add_of_add, Nat.add_zero] at h0
  exact ⟨ad, e, h0, h1, h2⟩
end
/-- An outcome's cells, a state's, a move's. -/
def ouC (x : Ou) : List Value := [txt x.name, .int .i64 x.to]
def stC (x : Sta) : List Value := [txt x.name, .bool x.final]
def mvC (x : Value × Mov) : List Value := [txt x.2.op, .int .i64 x.2.at_, x.1]
def OutsAt : World → Value → List Ou → Prop := SlAt 2 ouC fun _ x => x.name.length ≤ maxLen
def StatesAt : World → Value → List Sta → Prop := SlAt 2 stC fun _ x => x.name.length ≤ maxLen
def MovesAt (w : World) (v : Value) (ms : List Mov) : Prop := ∃ rs : List (Value × Mov), rs.map (·.2) = ms ∧ SlAt 3 mvC (fun w x => x.2.op.length ≤ maxLen ∧ OutsAt w x.1 x.2.outs) w v rs
theorem OutsAt.below {w w' : World} {v : Value} {l : List Ou} (h : OutsAt w v l) (hb : Below w.heap.size w w') : OutsAt w' v l := SlAt.below (fun _ _ _ h _ => h) h hb
theorem StatesAt.below {w w' : World} {v : Value} {l : List Sta} (h : StatesAt w v l) (hb : Below w.heap.size w w') : StatesAt w' v l := SlAt.below (fun _ _ _ h _ => h) h hb
theorem MovesAt.below {w w' : World} {v : Value} {l : List Mov} (h : MovesAt w v l) (hb : Below w.heap.size w w') : MovesAt w' v l := by
  obtain ⟨rs, e, h⟩ := h
  exact ⟨rs, e, SlAt.below (fun _ _ _ h hb => ⟨h.1, h.2.below hb⟩) h hb⟩
theorem OutsAt.len {w : World} {v : Value} {l : List Ou} (h : OutsAt w v l) : ∃ A c, v = .slice A l.length c ∧ l.length ≤ maxLen := by
  obtain ⟨A, c, e, a, b, _⟩ := h
  exact ⟨A, c, e, Nat.le_trans a b⟩
theorem StatesAt.len {w : World} {v : Value} {l : List Sta} (h : StatesAt w v l) : ∃ A c, v = .slice A l.length c ∧ l.length ≤ maxLen := by
  obtain ⟨A, c, e, a, b, _⟩ := h
  exact ⟨A, c, e, Nat.le_trans a b⟩
theorem MovesAt.len {w : World} {v : Value} {l : List Mov} (h : MovesAt w v l) : ∃ A c, v = .slice A l.length c ∧ l.length ≤ maxLen := by
  obtain ⟨rs, rfl, A, c, e, a, b, _⟩ := h
  rw [List.length_map]
  exact ⟨A, c, e, Nat.le_trans a b⟩
/-- A protocol: its slices' values and what they say. -/
structure ProAt (w : World) (vs vm : Value) (p : Pro) : Prop where
  name : p.name.length ≤ maxLen
  states : StatesAt w vs p.states
  moves : MovesAt w vm p.moves
theorem ProAt.below {w w' : World} {vs vm : Value} {p : Pro} (h : ProAt w vs vm p) (hb : Below w.heap.size w w') : ProAt w' vs vm p := ⟨h.name, h.states.below hb, h.moves.below hb⟩
abbrev proV (vs vm : Value) (p : Pro) : Value := .agg #[txt p.name, vs, vm]
end Go.Proofs.Ytbfgeiimjmhhdaa
