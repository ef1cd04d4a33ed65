/-
  The walks of package auto's ending and stuck. (Template: by-name.py fills it.)
-/
import Derived.Test.YtbfgeiimjmhhdaaAutI
namespace Go.Proofs.Ytbfgeiimjmhhdaa
open Go.RowKit

theorem endR_next {ms : List Mov} {j : Nat} {m : Mov} (s : Nat) (h : ms[j]? = some m) : endR (ms.take (j + 1)) s = endM (endR (ms.take j) s) m := by
  unfold endR
  rw [List.take_add_one, h, List.foldl_append]; rfl
theorem take_fits {p : Pro} (hf : Fits p) (j : Nat) : ∀ m ∈ p.moves.take j, 0 ≤ m.at_ ∧ m.at_ < (p.states.length : Int) := fun m hm => hf.at_ m (List.mem_of_mem_take hm)
theorem small_of {s n : Nat} (h : s < 2 ^ n) (hn : n ≤ 16) : s < 4294967296 := by
  have : 2 ^ n ≤ 2 ^ 16 := Nat.pow_le_pow_right (by omega) hn
  omega
/-- What the rounds of ending keep: the protocol's box, the set's. -/
structure EndS (w0 w : World) (b1 b3 s : Nat) (cs : Array Value) : Prop where
  p : Blk w b1 cs
  s : Blk w b3 #[.int .u32 (s : Int)]
  b : Below w0.heap.size w0 w
  lt : w0.heap.size ≤ b3
theorem EndS.keep {w0 w w' : World} {b1 b3 s : Nat} {cs : Array Value} (h : EndS w0 w b1 b3 s cs) (hb : Below w.heap.size w w') : EndS w0 w' b1 b3 s cs := ⟨h.p.keep hb, h.s.keep hb, h.b.trans (hb.mono h.b.size), h.lt⟩
theorem EndS.set {w0 w : World} {b1 b3 s : Nat} {cs : Array Value} (h : EndS w0 w b1 b3 s cs) (hne : b1 ≠ b3) (u : Nat) : EndS w0 (w.setCell ⟨b3, 0, none⟩ (.int .u32 (u : Int))) b1 b3 u cs :=
  ⟨h.p.other (fun e => hne e.symm) _, h.s.set 0 _, h.b.trans (grown_below_of grown_set h.b.size (fun k hk => by injection hk with hk; have := h.lt; omega)), h.lt⟩
theorem EndS.drew {w0 w : World} {b1 b3 s : Nat} {cs : Array Value} (h : EndS w0 w b1 b3 s cs) : EndS w0 w.drew b1 b3 s cs := ⟨h.p, h.s, h.b.drew, h.lt⟩
/-- The first state from which none is reached. -/
def stuckB (p : Pro) (i : Nat) : Bool := !goesB p p.states.length i
end Go.Proofs.Ytbfgeiimjmhhdaa
