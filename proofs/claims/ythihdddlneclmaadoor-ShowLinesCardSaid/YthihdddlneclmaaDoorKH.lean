/-
  Listed nodes; the walk of the statements' awake of layer 6. (Template: by-name.py fills it.)
-/
import Derived.Test.YthihdddlneclmaaDoorKB
import Derived.Test.YthihdddlneclmaaDoorJTreV
namespace Go.Proofs.YthihdddlneclmaaDoor
open Go.RowKit

section
variable {W wr w' : World} {v vo v' : Value} {L : List Int}
end
theorem flat_take (g : Int → List Int) {l : List Int} {j : Nat} {x : Int} (h : l[j]? = some x) : (l.take (j + 1)).flatMap g = (l.take j).flatMap g ++ g x := by
  rw [List.take_add_one, h, List.flatMap_append]
  simp
theorem flat_le (g : Int → List Int) {l : List Int} {j : Nat} {x : Int} (h : l[j]? = some x) : ((l.take j).flatMap g).length + (g x).length ≤ (l.flatMap g).length := by
  rw [← List.length_append, ← flat_take g h, ← List.take_append_drop (j + 1) l, List.flatMap_append, List.length_append]
  simp only [List.take_append_drop]
  omega



end Go.Proofs.YthihdddlneclmaaDoor

namespace Go.Proofs.YthihdddlneclmaaDoor
open Go.RowKit

theorem keys_of {W : World} (h : laidMetH Tryd.prog [("ballcock/lex.keywords", Rows.laid_ballcock_lex_keywords)] W) : StrRow W 3 keysL := by
  rw [MakeChecks.laidMetH_plain _ _ _ (by kernel_rfl)] at h
  exact strs_of_head (zs := keysL) (rest := []) Tryd.gKeys Tryd.gKeysType Tryd.underlying93 Tryd.underlying9 Tryd.cellsS (by kernel_rfl) h

theorem nodes_lit (w : World) (rs : List (NdV × Nd)) (ty : TypeId) (hm : rs.length ≤ maxLen) (h : ∀ x ∈ rs, NdAt (w.alloc (.cells (nodeCells rs).toArray ty)) x) :
    NodesAt (w.alloc (.cells (nodeCells rs).toArray ty)) (.slice (some ⟨w.heap.size, 0, none⟩) rs.length rs.length) (rs.map (·.2)) := by
  refine ⟨_, rs.length, rs, by rw [List.length_map], by rw [List.length_map]; exact Nat.le_refl _, hm, rfl, ?_, h⟩
  rw [List.length_map]
  exact ⟨nodeCells_length rs, fun _ => ⟨_, rfl, (Blk.start w _ ty).lt, fun j u hj => cell_lit w _ ty j u (by simpa using hj)⟩⟩
theorem nd0_at (w : World) : NdAt w ((.slice none 0 0, .slice none 0 0, .slice none 0 0), nd0) := ⟨StrsL.nil w, IntsL.nil w, IntsL.nil w⟩
theorem one_right : rightN [nd0] = true := by decide +kernel
theorem one_deep : deepB [nd0] = 1 := by decide +kernel
theorem one_walk : walkT [nd0] = [0] := by decide +kernel
theorem none_right : rightN [] = false := by decide +kernel

end Go.Proofs.YthihdddlneclmaaDoor
