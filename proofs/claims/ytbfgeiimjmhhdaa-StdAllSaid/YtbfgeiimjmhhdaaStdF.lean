/-
  The walk of the reference's All. (Template: by-name.py fills it; gen/genStdF.py writes it.)
-/
import Derived.Test.YtbfgeiimjmhhdaaStdE
namespace Go.Proofs.Ytbfgeiimjmhhdaa
open Go.RowKit

theorem states_acc3 (W0 w : World) {L : List RowR} (h : AccR W0 w L) (n0 n1 n2 : List UInt8) :
    Calls Try.prog 11 #[.slice (some ⟨w.heap.size, 0, none⟩) 3 3] (w.alloc (.cells #[txt n0, txt n1, txt n2] 9)) fun e w' => ∃ v c, e = .returned (.slice v 3 c) ∧ AccR W0 w' (⟨33, 2, .slice v 3 c, 3, rowC stC (stS [n0, n1, n2])⟩ :: ⟨9, 1, .slice (some ⟨w.heap.size, 0, none⟩) 3 3, 3, [txt n0, txt n1, txt n2]⟩ :: L) ∧ Below (w.alloc (.cells #[txt n0, txt n1, txt n2] 9)).heap.size (w.alloc (.cells #[txt n0, txt n1, txt n2] 9)) w' := by
  have P := h.push 9 1 3 #[txt n0, txt n1, txt n2] (by omega) rfl
  refine (rstates_any _ W0.heap.size _ 3 [n0, n1, n2] (P.all _ (.head _)) (by simp) P.below.size).mono ?_
  rintro e w' ⟨v, rfl, ho, hb⟩
  obtain ⟨A, c, rfl⟩ := own_shape ho
  exact ⟨A, c, rfl, (P.keep hb).more ho, hb⟩
theorem states_accM4 (W0 w : World) {L : List RowR} (h : AccR W0 w L) (mc : Array Value) (hm : mc.size = 6 * 3) (n0 n1 n2 n3 : List UInt8) :
    Calls Try.prog 11 #[.slice (some ⟨w.heap.size + 1, 0, none⟩) 4 4] ((w.alloc (.cells mc 38)).alloc (.cells #[txt n0, txt n1, txt n2, txt n3] 9)) fun e w' => ∃ v c, e = .returned (.slice v 4 c) ∧ AccR W0 w' (⟨33, 2, .slice v 4 c, 4, rowC stC (stS [n0, n1, n2, n3])⟩ :: ⟨9, 1, .slice (some ⟨w.heap.size + 1, 0, none⟩) 4 4, 4, [txt n0, txt n1, txt n2, txt n3]⟩ :: ⟨38, 3, .slice (some ⟨w.heap.size, 0, none⟩) 6 6, 6, mc.toList⟩ :: L) ∧ Below ((w.alloc (.cells mc 38)).alloc (.cells #[txt n0, txt n1, txt n2, txt n3] 9)).heap.size ((w.alloc (.cells mc 38)).alloc (.cells #[txt n0, txt n1, txt n2, txt n3] 9)) w' := by
  have Q := h.push 38 3 6 mc (by omega) hm
  have P := Q.push 9 1 4 #[txt n0, txt n1, txt n2, txt n3] (by omega) rfl
  rw [World.size_alloc] at P
  refine (rstates_any _ W0.heap.size _ 4 [n0, n1, n2, n3] (P.all _ (.head _)) (by simp) P.below.size).mono ?_
  rintro e w' ⟨v, rfl, ho, hb⟩
  obtain ⟨A, c, rfl⟩ := own_shape ho
  exact ⟨A, c, rfl, (P.keep hb).more ho, hb⟩
theorem states_accM2 (W0 w : World) {L : List RowR} (h : AccR W0 w L) (mc : Array Value) (hm : mc.size = 7 * 3) (n0 n1 : List UInt8) :
    Calls Try.prog 11 #[.slice (some ⟨w.heap.size + 1, 0, none⟩) 2 2] ((w.alloc (.cells mc 38)).alloc (.cells #[txt n0, txt n1] 9)) fun e w' => ∃ v c, e = .returned (.slice v 2 c) ∧ AccR W0 w' (⟨33, 2, .slice v 2 c, 2, rowC stC (stS [n0, n1])⟩ :: ⟨9, 1, .slice (some ⟨w.heap.size + 1, 0, none⟩) 2 2, 2, [txt n0, txt n1]⟩ :: ⟨38, 3, .slice (some ⟨w.heap.size, 0, none⟩) 7 7, 7, mc.toList⟩ :: L) ∧ Below ((w.alloc (.cells mc 38)).alloc (.cells #[txt n0, txt n1] 9)).heap.size ((w.alloc (.cells mc 38)).alloc (.cells #[txt n0, txt n1] 9)) w' := by
  have Q := h.push 38 3 7 mc (by omega) hm
  have P := Q.push 9 1 2 #[txt n0, txt n1] (by omega) rfl
  rw [World.size_alloc] at P
  refine (rstates_any _ W0.heap.size _ 2 [n0, n1] (P.all _ (.head _)) (by simp) P.below.size).mono ?_
  rintro e w' ⟨v, rfl, ho, hb⟩
  obtain ⟨A, c, rfl⟩ := own_shape ho
  exact ⟨A, c, rfl, (P.keep hb).more ho, hb⟩
theorem rall_fin {w w1 : World} {L : List RowR} (acc : AccR w w1 L) {mc cc : Array Value} {v0 m0 v1 m1 v2 m2 : Value} (hc : cc = nine v0 m0 v1 m1 v2 m2) (hm : mc.size = 3 * 3)
    (hf : ∀ X, AccR w X (⟨38, 3, .slice (some ⟨w1.heap.size, 0, none⟩) 3 3, 3, mc.toList⟩ :: L) → ProOwn X w.heap.size v0 m0 fileP ∧ ProOwn X w.heap.size v1 m1 socketP ∧ ProOwn X w.heap.size v2 m2 iterP) :
    ∃ g v0 m0 v1 m1 v2 m2, Ending.returned (.slice (some ⟨w1.heap.size + 1, 0, none⟩) 3 3) = .returned (.slice (some ⟨g, 0, none⟩) 3 3) ∧ Blk ((w1.alloc (.cells mc 38)).alloc (.cells cc 30)) g (nine v0 m0 v1 m1 v2 m2) ∧ w.heap.size ≤ g ∧ Three ((w1.alloc (.cells mc 38)).alloc (.cells cc 30)) w.heap.size v0 m0 v1 m1 v2 m2 ∧ Below w.heap.size w ((w1.alloc (.cells mc 38)).alloc (.cells cc 30)) := by
  have AC := acc.push 38 3 3 mc (by omega) hm
  obtain ⟨a, b, c⟩ := hf _ AC
  have k := below_alloc1 (w1.alloc (.cells mc 38)) (.cells cc 30)
  have S := Blk.start (w1.alloc (.cells mc 38)) cc 30
  rw [World.size_alloc] at S
  subst hc
  exact ⟨_, _, _, _, _, _, _, rfl, S, Nat.le_succ_of_le acc.below.size, ⟨a.below k, b.below k, c.below k⟩, AC.below.trans (k.mono AC.below.size)⟩
set_option maxRecDepth 10000 in
set_option maxHeartbeats 8000000 in
theorem rall_any (w : World) : Calls Try.prog 6 #[] w fun e w' => ∃ g v0 m0 v1 m1 v2 m2, e = .returned (.slice (some ⟨g, 0, none⟩) 3 3) ∧ Blk w' g (nine v0 m0 v1 m1 v2 m2) ∧ w.heap.size ≤ g ∧ Three w' w.heap.size v0 m0 v1 m1 v2 m2 ∧ Below w.heap.size w w' := by
  have ACC := Lib.hid (AccR.start w)
  go_enter Try.func6, Try.ntmps6
  go_wp2_with (first
    | (go_at_call 13; (refine (rout_any _ _ _).mono ?_); rintro e w1 ⟨rfl, hb⟩; replace ACC := Lib.hid (ACC.out.keep hb); clear hb)
    | (go_at_call 12; (first | (with_reducible refine (rmove_acc1 _ _ ACC.out _ _ _ _).mono ?_) | (with_reducible refine (rmove_acc2 _ _ ACC.out _ _ _ _ _ _).mono ?_) | (with_reducible refine (rmove_acc3 _ _ ACC.out _ _ _ _ _ _ _ _).mono ?_)); rintro e w1 ⟨rfl, h, _⟩; replace ACC := Lib.hid h; clear h)
    | (go_at_call 11; (first | (with_reducible refine (states_acc3 _ _ ACC.out _ _ _).mono ?_) | (with_reducible refine (states_accM4 _ _ ACC.out _ ?_ _ _ _ _).mono ?_) | (with_reducible refine (states_accM2 _ _ ACC.out _ ?_ _ _).mono ?_)); (first | rfl | skip); rintro e w1 ⟨vs, vc, rfl, h, _⟩; replace ACC := Lib.hid h; clear h))
  go_ret
  refine rall_fin ACC.out rfl rfl (fun X AC => ?_)
  clear ACC
  have P_file : ProOwn X w.heap.size _ _ fileP := ⟨[(_, ⟨[114, 101, 97, 100], 0, [⟨[115, 111, 109, 101], 0⟩, ⟨[110, 111, 110, 101], 1⟩]⟩), (_, ⟨[119, 114, 105, 116, 101], 0, [⟨[111, 107], 0⟩, ⟨[111, 118, 101, 114], 1⟩]⟩), (_, ⟨[115, 105, 122, 101], 0, [⟨[111, 107], 0⟩]⟩), (_, ⟨[115, 105, 122, 101], 1, [⟨[111, 107], 1⟩]⟩), (_, ⟨[99, 108, 111, 115, 101], 0, [⟨[111, 107], 2⟩]⟩), (_, ⟨[99, 108, 111, 115, 101], 1, [⟨[111, 107], 2⟩]⟩)], rfl, AC.all _ (.tail _ (.tail _ (.tail _ (.tail _ (.tail _ (.tail _ (.tail _ (.tail _ (.tail _ (.tail _ (.tail _ (.tail _ (.tail _ (.tail _ (.tail _ (.tail _ (.tail _ (.tail _ (.tail _ (.tail _ (.tail _ (.tail _ (.tail _ (.head _)))))))))))))))))))))))), AC.all _ (.tail _ (.tail _ (.tail _ (.tail _ (.tail _ (.tail _ (.tail _ (.tail _ (.tail _ (.tail _ (.tail _ (.tail _ (.tail _ (.tail _ (.tail _ (.tail _ (.head _))))))))))))))))), fun x hx => by
    simp only [List.mem_cons, List.not_mem_nil, or_false] at hx
    rcases hx with rfl | rfl | rfl | rfl | rfl | rfl
    · exact AC.all _ (.tail _ (.tail _ (.tail _ (.tail _ (.tail _ (.tail _ (.tail _ (.tail _ (.tail _ (.tail _ (.tail _ (.tail _ (.tail _ (.tail _ (.tail _ (.tail _ (.tail _ (.tail _ (.tail _ (.tail _ (.tail _ (.tail _ (.head _)))))))))))))))))))))))
    · exact AC.all _ (.tail _ (.tail _ (.tail _ (.tail _ (.tail _ (.tail _ (.tail _ (.tail _ (.tail _ (.tail _ (.tail _ (.tail _ (.tail _ (.tail _ (.tail _ (.tail _ (.tail _ (.tail _ (.tail _ (.tail _ (.tail _ (.head _))))))))))))))))))))))
    · exact AC.all _ (.tail _ (.tail _ (.tail _ (.tail _ (.tail _ (.tail _ (.tail _ (.tail _ (.tail _ (.tail _ (.tail _ (.tail _ (.tail _ (.tail _ (.tail _ (.tail _ (.tail _ (.tail _ (.tail _ (.tail _ (.head _)))))))))))))))))))))
    · exact AC.all _ (.tail _ (.tail _ (.tail _ (.tail _ (.tail _ (.tail _ (.tail _ (.tail _ (.tail _ (.tail _ (.tail _ (.tail _ (.tail _ (.tail _ (.tail _ (.tail _ (.tail _ (.tail _ (.tail _ (.head _))))))))))))))))))))
    · exact AC.all _ (.tail _ (.tail _ (.tail _ (.tail _ (.tail _ (.tail _ (.tail _ (.tail _ (.tail _ (.tail _ (.tail _ (.tail _ (.tail _ (.tail _ (.tail _ (.tail _ (.tail _ (.tail _ (.head _)))))))))))))))))))
    · exact AC.all _ (.tail _ (.tail _ (.tail _ (.tail _ (.tail _ (.tail _ (.tail _ (.tail _ (.tail _ (.tail _ (.tail _ (.tail _ (.tail _ (.tail _ (.tail _ (.tail _ (.tail _ (.head _))))))))))))))))))⟩
  have P_socket : ProOwn X w.heap.size _ _ socketP := ⟨[(_, ⟨[99, 111, 110, 110, 101, 99, 116], 0, [⟨[111, 107], 1⟩, ⟨[102, 97, 105, 108], 2⟩]⟩), (_, ⟨[115, 101, 110, 100], 1, [⟨[111, 107], 1⟩, ⟨[108, 111, 115, 116], 2⟩]⟩), (_, ⟨[114, 101, 99, 118], 1, [⟨[115, 111, 109, 101], 1⟩, ⟨[110, 111, 110, 101], 1⟩, ⟨[108, 111, 115, 116], 2⟩]⟩), (_, ⟨[112, 101, 101, 107], 1, [⟨[115, 111, 109, 101], 1⟩, ⟨[110, 111, 110, 101], 1⟩]⟩), (_, ⟨[99, 108, 111, 115, 101], 0, [⟨[111, 107], 3⟩]⟩), (_, ⟨[99, 108, 111, 115, 101], 1, [⟨[111, 107], 3⟩]⟩), (_, ⟨[99, 108, 111, 115, 101], 2, [⟨[111, 107], 3⟩]⟩)], rfl, AC.all _ (.tail _ (.tail _ (.tail _ (.tail _ (.tail _ (.tail _ (.tail _ (.tail _ (.tail _ (.tail _ (.tail _ (.tail _ (.tail _ (.tail _ (.head _))))))))))))))), AC.all _ (.tail _ (.tail _ (.tail _ (.tail _ (.tail _ (.tail _ (.head _))))))), fun x hx => by
    simp only [List.mem_cons, List.not_mem_nil, or_false] at hx
    rcases hx with rfl | rfl | rfl | rfl | rfl | rfl | rfl
    · exact AC.all _ (.tail _ (.tail _ (.tail _ (.tail _ (.tail _ (.tail _ (.tail _ (.tail _ (.tail _ (.tail _ (.tail _ (.tail _ (.tail _ (.head _))))))))))))))
    · exact AC.all _ (.tail _ (.tail _ (.tail _ (.tail _ (.tail _ (.tail _ (.tail _ (.tail _ (.tail _ (.tail _ (.tail _ (.tail _ (.head _)))))))))))))
    · exact AC.all _ (.tail _ (.tail _ (.tail _ (.tail _ (.tail _ (.tail _ (.tail _ (.tail _ (.tail _ (.tail _ (.tail _ (.head _))))))))))))
    · exact AC.all _ (.tail _ (.tail _ (.tail _ (.tail _ (.tail _ (.tail _ (.tail _ (.tail _ (.tail _ (.tail _ (.head _)))))))))))
    · exact AC.all _ (.tail _ (.tail _ (.tail _ (.tail _ (.tail _ (.tail _ (.tail _ (.tail _ (.tail _ (.head _))))))))))
    · exact AC.all _ (.tail _ (.tail _ (.tail _ (.tail _ (.tail _ (.tail _ (.tail _ (.tail _ (.head _)))))))))
    · exact AC.all _ (.tail _ (.tail _ (.tail _ (.tail _ (.tail _ (.tail _ (.tail _ (.head _))))))))⟩
  have P_iter : ProOwn X w.heap.size _ _ iterP := ⟨[(_, ⟨[110, 101, 120, 116], 0, [⟨[105, 116, 101, 109], 0⟩, ⟨[100, 111, 110, 101], 1⟩]⟩), (_, ⟨[115, 116, 111, 112], 0, [⟨[111, 107], 1⟩]⟩), (_, ⟨[108, 101, 102, 116], 0, [⟨[111, 107], 0⟩]⟩)], rfl, AC.all _ (.tail _ (.tail _ (.tail _ (.tail _ (.head _))))), AC.all _ (.head _), fun x hx => by
    simp only [List.mem_cons, List.not_mem_nil, or_false] at hx
    rcases hx with rfl | rfl | rfl
    · exact AC.all _ (.tail _ (.tail _ (.tail _ (.head _))))
    · exact AC.all _ (.tail _ (.tail _ (.head _)))
    · exact AC.all _ (.tail _ (.head _))⟩
  exact ⟨P_file, P_socket, P_iter⟩
end Go.Proofs.Ytbfgeiimjmhhdaa
