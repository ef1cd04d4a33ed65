/-
  Listed nodes; the walk of the statements' awake of layer 6. (Template: by-name.py fills it.)
-/
import Derived.Test.YtmbgonhonckfhaaDoorTreX
namespace Go.Proofs.YtmbgonhonckfhaaDoor
open Go.RowKit

theorem keys_of {W : World} (h : laidMetH Tryd.prog [("ballcock/lex.keywords", Rows.laid_ballcock_lex_keywords)] W) : StrRow W 0 keysL := by
  rw [MakeChecks.laidMetH_plain _ _ _ (by kernel_rfl)] at h
  exact strs_of_head (zs := keysL) (rest := []) Tryd.gKeys Tryd.gKeysType Tryd.underlying81 Tryd.underlying9 Tryd.cellsS (by kernel_rfl) h

theorem nodes_lit (w : World) (rs : List (NdV × Nd)) (ty : TypeId) (hm : rs.length ≤ maxLen) (h : ∀ x ∈ rs, NdAt (w.alloc (.cells (nodeCells rs).toArray ty)) x) :
    NodesAt (w.alloc (.cells (nodeCells rs).toArray ty)) (.slice (some ⟨w.heap.size, 0, none⟩) rs.length rs.length) (rs.map (·.2)) := by
  refine ⟨_, rs.length, rs, by rw [List.length_map], by rw [List.length_map]; exact Nat.le_refl _, hm, rfl, ?_, h⟩
  rw [List.length_map]
  exact ⟨nodeCells_length rs, fun _ => ⟨_, rfl, (Blk.start w _ ty).lt, fun j u hj => cell_lit w _ ty j u (by simpa using hj)⟩⟩
theorem nd0_at (w : World) : NdAt w ((.slice none 0 0, .slice none 0 0, .slice none 0 0), nd0) := ⟨StrsL.nil w, IntsL.nil w, IntsL.nil w⟩
theorem one_right : rightN [nd0] = true := by decide +kernel
theorem one_deep : deepB [nd0] = 1 := by decide +kernel
theorem one_walk : walkT [nd0] = [0] := by decide +kernel
theorem none_right : rightN [] = false := by decide +kernel

set_option maxHeartbeats 4000000 in
theorem awake6_yes (w : World) (ht : StrRow w 0 keysL) : Calls Tryd.prog 6 #[] w fun e w' => e = .returned (.bool true) ∧ Below w.heap.size w w' := by
  have a1 := below_alloc1 w (.cells #[.int .i64 0, .slice none 0 0, .slice none 0 0, .slice none 0 0, .int .i64 0] 30)
  have N1 : NodesAt (w.alloc (.cells #[.int .i64 0, .slice none 0 0, .slice none 0 0, .slice none 0 0, .int .i64 0] 30)) (.slice (some ⟨w.heap.size, 0, none⟩) 1 1) [nd0] := nodes_lit w [((.slice none 0 0, .slice none 0 0, .slice none 0 0), nd0)] _ (by simp [maxLen]) (fun x hx => by rw [List.mem_singleton] at hx; subst hx; exact nd0_at _)
  have HB := Lib.hid a1
  have RT := Lib.hid (fun w' (hb : Below w.heap.size w w') (hN : NodesAt w' (.slice (some ⟨w.heap.size, 0, none⟩) 1 1) [nd0]) => right_of valid_any w' _ _ hN (ht.below hb))
  have RN := Lib.hid (fun w' (hb : Below w.heap.size w w') => right_of valid_any w' _ _ (NodesAt.nil w') (ht.below hb))
  have WK := Lib.hid (fun w' (hb : Below w.heap.size w w') (hN : NodesAt w' (.slice (some ⟨w.heap.size, 0, none⟩) 1 1) [nd0]) => walk_of valid_any preorder_any w' _ _ hN (ht.below hb))
  rw [one_right] at RT
  rw [none_right] at RN
  rw [one_walk] at WK
  have HN := Lib.hid N1
  clear ht a1 N1
  generalize hw : w.alloc (.cells #[.int .i64 0, .slice none 0 0, .slice none 0 0, .slice none 0 0, .int .i64 0] 30) = w1 at *
  go_enter Tryd.func6, Tryd.ntmps6
  go_wp2_with (first
    | (go_at_call 11; (with_reducible refine (RT.out _ HB.out HN.out).mono ?_); rintro e2 w2 ⟨rfl, hb⟩; have B2 := Lib.hid (HB.out.trans (hb.mono HB.out.size)); have N2 := Lib.hid (HN.out.below hb); clear hb)
    | (go_at_call 10; (with_reducible refine (deep_any _ _ _ N2.out).mono ?_); rintro e3 w3 ⟨rfl, hb⟩; rw [one_deep]; have B3 := Lib.hid (B2.out.trans (hb.mono B2.out.size)); have N3 := Lib.hid (N2.out.below hb); clear hb)
    | (go_at_call 11; (with_reducible refine (RN.out _ B3.out).mono ?_); rintro e4 w4 ⟨rfl, hb⟩; have B4 := Lib.hid (B3.out.trans (hb.mono B3.out.size)); have N4 := Lib.hid (N3.out.below hb); clear hb)
    | (go_at_call 9; (with_reducible refine (WK.out _ B4.out N4.out).mono ?_); rintro e5 w5 ⟨u, rfl, ⟨Az, cz, rfl, _⟩, hb⟩; have B5 := Lib.hid (B4.out.trans (hb.mono B4.out.size)); clear hb))
  go_ret
  exact ⟨rfl, B5.out⟩
end Go.Proofs.YtmbgonhonckfhaaDoor
