/-
  What is so of each of the three protocols, and how one is read out of the row. (Template: by-name.py fills it.)
-/
import Derived.Test.YtbfgeiimjmhhdaaStdG
namespace Go.Proofs.Ytbfgeiimjmhhdaa
open Go.RowKit

def pros : List Pro := [fileP, socketP, iterP]
theorem pros_wrong : ∀ p ∈ pros, wrongP p = (0, 0) := by
  intro p hp
  simp only [pros, List.mem_cons, List.not_mem_nil, or_false] at hp
  rcases hp with rfl | rfl | rfl <;> decide +kernel
theorem pros_sz : ∀ p ∈ pros, SzP p := by
  intro p hp
  simp only [pros, List.mem_cons, List.not_mem_nil, or_false] at hp
  rcases hp with rfl | rfl | rfl <;> exact ⟨by decide, by decide, by decide, by decide, by decide, by decide⟩
theorem pros_len : ∀ p ∈ pros, LenP p := fun p hp => (pros_sz p hp).len
theorem pros_some : ∀ p ∈ pros, 0 < p.states.length ∧ ∃ m r, p.moves = m :: r ∧ 0 < m.outs.length := by
  intro p hp
  simp only [pros, List.mem_cons, List.not_mem_nil, or_false] at hp
  rcases hp with rfl | rfl | rfl <;> exact ⟨by decide, _, _, rfl, by decide⟩
/-- One of the three, as it lies in the row. -/
theorem three_at {w : World} {B g : Nat} {v0 m0 v1 m1 v2 m2 : Value} (h : Three w B v0 m0 v1 m1 v2 m2) {k : Nat} (hk : k < 3) :
    ∃ p vs vm, pros[k]? = some p ∧ p ∈ pros ∧ ProOwn w B vs vm p ∧ ∀ v : World, Blk v g (nine v0 m0 v1 m1 v2 m2) → v.cell? ⟨g, k * 3, none⟩ = some (txt p.name) ∧ v.cell? ⟨g, k * 3 + 1, none⟩ = some vs ∧ v.cell? ⟨g, k * 3 + 2, none⟩ = some vm := by
  rcases k with _ | _ | _ | k
  · exact ⟨_, _, _, rfl, by simp [pros], h.f, fun v b => ⟨(b.cell 0).trans rfl, (b.cell 1).trans rfl, (b.cell 2).trans rfl⟩⟩
  · exact ⟨_, _, _, rfl, by simp [pros], h.s, fun v b => ⟨(b.cell 3).trans rfl, (b.cell 4).trans rfl, (b.cell 5).trans rfl⟩⟩
  · exact ⟨_, _, _, rfl, by simp [pros], h.i, fun v b => ⟨(b.cell 6).trans rfl, (b.cell 7).trans rfl, (b.cell 8).trans rfl⟩⟩
  · omega
end Go.Proofs.Ytbfgeiimjmhhdaa
