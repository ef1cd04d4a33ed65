/-
  The walk of the statement TreeChains. (Template: by-name.py fills it.)
-/
import Derived.Test.YtmbgonhonckfhaaDoorTreY
namespace Go.Proofs.YtmbgonhonckfhaaDoor
open Go.RowKit

/-! ### Plain -/
def chainL (k : Nat) : List Nd := [⟨0, [], [], [1], 0⟩, ⟨4, [[102]], [], [2], 0⟩, ⟨7, [], [], [3], 0⟩, ⟨18, [], [], [4], 0⟩] ++ (List.range k).map (fun i => ⟨23, [], [], [5 + (i : Int)], 0⟩)
def chainN (k : Nat) : List Nd := chainL k ++ [⟨20, [], [1], [], 0⟩]
theorem chain_all : ((List.range 40).all fun k => decide (deepB (chainN k) = 5 + (k : Int)) && (rightN (chainN k) == decide (5 + k ≤ 24))) = true := by decide +kernel
theorem chain_says {k : Nat} (h : k < 40) : deepB (chainN k) = 5 + (k : Int) ∧ rightN (chainN k) = decide (5 + k ≤ 24) := by
  have := List.all_eq_true.mp chain_all k (List.mem_range.mpr h)
  rw [Bool.and_eq_true, decide_eq_true_eq, beq_iff_eq] at this
  exact this
theorem chainL_more (k : Nat) : chainL (k + 1) = chainL k ++ [⟨23, [], [], [5 + (k : Int)], 0⟩] := by
  unfold chainL
  rw [List.range_succ, List.map_append, List.append_assoc]
  rfl
theorem chainL_len (k : Nat) : (chainL k).length = 4 + k := by
  unfold chainL
  simp
  omega

/-! ### Nodes whose slices are of one thing at most, apart from a block -/
def OneAt (w : World) (own : Option Nat) (v : Value) (us : List Value) : Prop :=
  (v = .slice none 0 0 ∧ us = []) ∨ ∃ b u, v = .slice (some ⟨b, 0, none⟩) 1 1 ∧ us = [u] ∧ Blk w b #[u] ∧ own ≠ some b
theorem OneAt.keep {w w' : World} {own : Option Nat} {v : Value} {us : List Value} (h : OneAt w own v us) (hb : Below w.heap.size w w') : OneAt w' own v us := by
  rcases h with h | ⟨b, u, h1, h2, h3, h4⟩
  · exact .inl h
  · exact .inr ⟨b, u, h1, h2, h3.keep hb, h4⟩
theorem OneAt.grown {w w' : World} {own own' : Option Nat} {v : Value} {us : List Value} (h : OneAt w own v us) (hg : w.grownBy w' own) (ho : own' = own ∨ own' = some w.heap.size) : OneAt w' own' v us := by
  rcases h with h | ⟨b, u, h1, h2, h3, h4⟩
  · exact .inl h
  · refine .inr ⟨b, u, h1, h2, h3.grown hg h4, ?_⟩
    rcases ho with rfl | rfl
    · exact h4
    · exact fun e => by have := h3.lt; have := Option.some.inj e; omega
theorem OneAt.reads {w : World} {own : Option Nat} {v : Value} {us : List Value} (h : OneAt w own v us) : ∃ A c, v = .slice A us.length c ∧ us.length ≤ c ∧ c ≤ maxLen ∧ Reads w w.heap.size 1 A us.length us := by
  rcases h with ⟨rfl, rfl⟩ | ⟨b, u, rfl, rfl, h3, _⟩
  · exact ⟨none, 0, rfl, Nat.le_refl _, by decide, Reads.none_⟩
  · refine ⟨_, 1, rfl, Nat.le_refl _, by decide, rfl, fun _ => ⟨_, rfl, h3.lt, fun j x hj => ?_⟩⟩
    rw [Addr.add_lit, Nat.zero_add, h3.cell j]
    cases j with
    | zero => exact hj
    | succ j => simp at hj
def NdOne (w : World) (own : Option Nat) (x : NdV × Nd) : Prop := OneAt w own x.1.1 (x.2.words.map txt) ∧ OneAt w own x.1.2.1 (x.2.nums.map (Value.int .i64)) ∧ OneAt w own x.1.2.2 (x.2.kids.map (Value.int .i64)) ∧ ∀ s ∈ x.2.words, s.length ≤ maxLen
theorem NdOne.keep {w w' : World} {own : Option Nat} {x : NdV × Nd} (h : NdOne w own x) (hb : Below w.heap.size w w') : NdOne w' own x := ⟨h.1.keep hb, h.2.1.keep hb, h.2.2.1.keep hb, h.2.2.2⟩
theorem NdOne.grown {w w' : World} {own own' : Option Nat} {x : NdV × Nd} (h : NdOne w own x) (hg : w.grownBy w' own) (ho : own' = own ∨ own' = some w.heap.size) : NdOne w' own' x := ⟨h.1.grown hg ho, h.2.1.grown hg ho, h.2.2.1.grown hg ho, h.2.2.2⟩
theorem NdOne.at_ {w : World} {own : Option Nat} {x : NdV × Nd} (h : NdOne w own x) : NdAt w x := by
  obtain ⟨h1, h2, h3, h4⟩ := h
  refine ⟨?_, ?_, ?_⟩
  · obtain ⟨A, c, e, a, b, d⟩ := h1.reads
    rw [List.length_map] at e a d
    exact ⟨A, c, e, a, b, d, h4⟩
  · obtain ⟨A, c, e, a, b, d⟩ := h2.reads
    rw [List.length_map] at e a d
    exact ⟨A, c, e, a, b, d⟩
  · obtain ⟨A, c, e, a, b, d⟩ := h3.reads
    rw [List.length_map] at e a d
    exact ⟨A, c, e, a, b, d⟩
/-- A row of nodes of the call's own. -/
structure RowN (W wr : World) (v : Value) (rs : List (NdV × Nd)) : Prop where
  own : wr.ownsRow W.heap.size 30 5 v rs.length (nodeCells rs)
  each : ∀ x ∈ rs, NdOne wr v.ownBlock x
  below : Below W.heap.size W wr
section
variable {W wr w' : World} {v v' : Value} {rs : List (NdV × Nd)}
theorem RowN.keep (h : RowN W wr v rs) (hb : Below wr.heap.size wr w') : RowN W w' v rs :=
  ⟨h.own.kept (grown_of_below hb none) (by cases hv : v.ownBlock <;> simp), fun x hx => (h.each x hx).keep hb, h.below.trans (hb.mono h.below.size)⟩
theorem RowN.push {x : NdV × Nd} (h : RowN W wr v rs) (hx : NdOne wr v.ownBlock x) (hown : w'.ownsRow W.heap.size 30 5 v' (rs.length + 1) (nodeCells rs ++ nodeCells [x])) (hg : wr.grownBy w' v.ownBlock) (ho : v'.ownBlock = v.ownBlock ∨ v'.ownBlock = some wr.heap.size) : RowN W w' v' (rs ++ [x]) := by
  refine ⟨by rw [List.length_append, nodeCells_append]; exact hown, fun y hy => ?_, h.below.grown hg h.below.size (fun k hk => (h.own.lt _ hk).1)⟩
  rcases List.mem_append.mp hy with hy | hy
  · exact (h.each y hy).grown hg ho
  · rw [List.mem_singleton] at hy
    subst hy
    exact hx.grown hg ho
theorem RowN.nodes (h : RowN W wr v rs) : NodesAt wr v (rs.map (·.2)) := by
  rcases h.own.2 with ⟨rfl, e⟩ | ⟨g, cap, cur, rfl, _, _, h1, h2, _⟩
  · have : rs = [] := List.length_eq_zero_iff.mp e
    subst this
    exact NodesAt.nil _
  · refine ⟨_, cap, rs, by rw [List.length_map], by rw [List.length_map]; exact h1, h2, rfl, ?_, fun x hx => (h.each x hx).at_⟩
    rw [List.length_map]
    exact Reads.of_own h.own
end
theorem infoNode : (Tryd.prog.info? 30).map (fun i => (i.zero, i.size, i.bytes)) = some (some (.agg #[.int .i64 0, .slice none 0 0, .slice none 0 0, .slice none 0 0, .int .i64 0]), 5, 88) := by kernel_rfl
theorem one_new (w : World) (u : Value) (ty : TypeId) (own : Option Nat) (h : own ≠ some w.heap.size) : OneAt (w.alloc (.cells #[u] ty)) own (.slice (some ⟨w.heap.size, 0, none⟩) 1 1) [u] := .inr ⟨_, u, rfl, rfl, Blk.start w #[u] ty, h⟩
theorem one_none (w : World) (own : Option Nat) : OneAt w own (.slice none 0 0) [] := .inl ⟨rfl, rfl⟩
end Go.Proofs.YtmbgonhonckfhaaDoor
