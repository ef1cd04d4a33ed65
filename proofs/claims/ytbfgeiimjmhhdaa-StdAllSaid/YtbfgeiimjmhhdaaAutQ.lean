/-
  The walks of package auto's New and Proto. (Template: by-name.py fills it.)
-/
import Derived.Test.YtbfgeiimjmhhdaaAutO
namespace Go.Proofs.Ytbfgeiimjmhhdaa
open Go.RowKit

/-- An automaton in memory: its block holds the protocol. -/
def AutAt (w : World) (a : Nat) (p : Pro) : Prop := ∃ vs vm, Blk w a #[txt p.name, vs, vm] ∧ ProAt w vs vm p
theorem AutAt.below {w w' : World} {a : Nat} {p : Pro} (h : AutAt w a p) (hb : Below w.heap.size w w') : AutAt w' a p := by
  obtain ⟨vs, vm, h1, h2⟩ := h
  exact ⟨vs, vm, h1.keep hb, h2.below hb⟩
end Go.Proofs.Ytbfgeiimjmhhdaa
