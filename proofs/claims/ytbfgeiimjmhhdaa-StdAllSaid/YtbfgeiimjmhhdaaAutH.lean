/-
  The walks of package auto's twice and its two functions. (Template: by-name.py fills it; gen/genAutH.py writes the first two theorems.)
-/
import Derived.Test.YtbfgeiimjmhhdaaAutG
namespace Go.Proofs.Ytbfgeiimjmhhdaa
open Go.RowKit

theorem slA {A A' : Option Addr} {n n' c c' : Nat} (h : Value.slice A n c = .slice A' n' c') : A = A' := by cases h; rfl

def dupO (os : List Ou) (k : Nat) : Bool := match os[k]? with
  | some o => ((os.take k).map (·.name)).contains o.name
  | none => false
def anyDup (os : List Ou) : Bool := (List.range os.length).any (dupO os)
theorem onames_next {ss : List Ou} {k : Nat} {x : Ou} (h : ss[k]? = some x) : ((ss.take (k + 1)).map (·.name)).reverse = x.name :: ((ss.take k).map (·.name)).reverse := by
  rw [List.take_add_one, h, List.map_append, List.reverse_append]; rfl
theorem FreS.lt {w : World} {bx bm : Nat} {L : List (List UInt8)} (h : FreS w bx bm L) : bm < w.heap.size := h.map.lt
/-- A world behind a new block and behind the store into the map of starts. -/
theorem past_blk {w w' : World} {o : Obj} {bm b : Nat} {cs : Array Value} (hg : (w.alloc o).grownBy w' (some bm)) (h : Blk w b cs) (hne : bm ≠ b) : Blk w' b cs := (h.keep (below_alloc1 w o)).grown hg (fun e => hne (by injection e))
theorem past_fre {w w' : World} {o : Obj} {bm bx' bm' : Nat} {L : List (List UInt8)} (hg : (w.alloc o).grownBy w' (some bm)) (h : FreS w bx' bm' L) (h1 : bm ≠ bx') (h2 : bm ≠ bm') : FreS w' bx' bm' L := (h.keep (below_alloc1 w o)).grown hg (fun e => h1 (by injection e)) (fun e => h2 (by injection e))
theorem past_below {w w' : World} {o : Obj} {bm B : Nat} (hg : (w.alloc o).grownBy w' (some bm)) (hB : B ≤ w.heap.size) (hm : B ≤ bm) : Below B w w' :=
  ((below_alloc1 w o).mono hB).trans (grown_below_of hg (Nat.le_trans hB (below_alloc1 w o).size) (fun k hk => by injection hk with hk; omega))
/-- Does an earlier move rule one out, or has it two outcomes of one name? -/
def dupM (ms : List Mov) (k : Nat) : Bool := match ms[k]? with
  | some m => ((ms.take k).map fun m => ((m.op, m.at_) : Stt)).contains (m.op, m.at_) || anyDup m.outs
  | none => false
theorem contains_revT (l : List Stt) (x : Stt) : l.reverse.contains x = l.contains x := by
  rw [Bool.eq_iff_iff, List.contains_iff_mem, List.contains_iff_mem, List.mem_reverse]
theorem starts_next {ms : List Mov} {k : Nat} {x : Mov} (h : ms[k]? = some x) : ((ms.take (k + 1)).map fun m => ((m.op, m.at_) : Stt)).reverse = (x.op, x.at_) :: ((ms.take k).map fun m => ((m.op, m.at_) : Stt)).reverse := by
  rw [List.take_add_one, h, List.map_append, List.reverse_append]; rfl
end Go.Proofs.Ytbfgeiimjmhhdaa
