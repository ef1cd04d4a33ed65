/-
  The walks of Finals and of the statements' example. (Template: by-name.py fills it.)
-/
import Derived.Test.YtgfenklcelfkiaaAutQ
import Derived.Test.YtgfenklcelfkiaaAutY
namespace Go.Proofs.Ytgfenklcelfkiaa
open Go.RowKit

set_option maxHeartbeats 2000000 in
theorem afinals_any (w : World) (a : Nat) (p : Pro) (h : AutAt w a p) (hn : p.states.length ≤ 16) :
    Calls Try.prog 13 #[.pointer (some ⟨a, 0, none⟩)] w fun e w' => e = .returned (.int .u32 (finalS p : Nat)) ∧ Below w.heap.size w w' := by
  obtain ⟨vs, vm, hB, hP⟩ := h
  have FI := Lib.hid (finals_any w _ _ p hP hn)
  obtain ⟨As, cs, rfl, _⟩ := hP.states.len
  obtain ⟨Am, cm, rfl, _⟩ := hP.moves.len
  have c0 := hB.cell 0
  have c1 := hB.cell 1
  have c2 := hB.cell 2
  simp only [List.getElem?_toArray, List.getElem?_cons_zero, List.getElem?_cons_succ] at c0 c1 c2
  clear hB hP hn
  go_enter Try.func13, Try.ntmps13
  go_wp2_with (go_at_call 31; (with_reducible refine FI.out.mono ?_); rintro e w1 ⟨rfl, hb⟩)
  go_ret
  exact ⟨rfl, hb⟩
def oneP (f : Bool) : Pro := ⟨[], [⟨[65], f⟩], []⟩
theorem one_at (w : World) (f : Bool) : ProAt (w.alloc (.cells #[.string ⟨#[65]⟩, .bool f] 53)) (.slice (some ⟨w.heap.size, 0, none⟩) 1 1) (.slice none 0 0) (oneP f) := by
  have B := Blk.start w #[.string ⟨#[65]⟩, .bool f] 53
  refine ⟨Nat.zero_le _, ⟨_, 1, rfl, Nat.le_refl _, by decide, ⟨rfl, fun _ => ⟨_, rfl, B.lt, fun j u hu => ?_⟩⟩, fun x hx => by rw [List.mem_singleton.mp hx]; show 1 ≤ maxLen; decide⟩, ⟨[], rfl, SlAt.nil _ _ _ _⟩⟩
  match j, hu with
  | 0, hu =>
    obtain rfl := Option.some.inj hu
    exact B.cell 0
  | 1, hu =>
    obtain rfl := Option.some.inj hu
    exact B.cell 1
theorem one_sz (f : Bool) : SzP (oneP f) := ⟨Nat.zero_le _, (by decide : 1 ≤ 80), Nat.zero_le _, (fun m hm => by cases hm), (fun s hs => by rw [List.mem_singleton.mp hs]; show 1 ≤ 140737488355328; decide), (fun m hm => by cases hm)⟩
set_option maxRecDepth 10000 in
set_option maxHeartbeats 4000000 in
theorem awake_yes (w : World) : Calls Try.prog 6 #[] w fun e w' => e = .returned (.bool true) ∧ Below w.heap.size w w' := by
  have W1 := Lib.hid (fun (v : World) => wrong_any _ _ _ (oneP false) (one_at v false) (by decide) (fun m hm => (by cases hm)))
  have W2 := Lib.hid (fun (v : World) => new_right _ _ _ (oneP true) (one_at v true) (one_sz true) (by decide +kernel))
  have e1 : wrongP (oneP false) = (5, 0) := by decide +kernel
  rw [e1] at W1
  have F1 := Lib.hid (fun (v : World) (a : Nat) (h : AutAt v a (oneP true)) => afinals_any v a _ h (by decide))
  have e2 : finalS (oneP true) = 1 := by decide +kernel
  rw [e2] at F1
  have A1 := Lib.hid (fun (v : World) (f : Bool) => below_alloc1 v (.cells #[.string ⟨#[65]⟩, .bool f] 53))
  clear e1 e2
  go_enter Try.func6, Try.ntmps6
  go_upto_region 2 with (go_at_call 24; (refine (W1.out _).mono ?_); rintro e w1 ⟨rfl, hb⟩; have H1 := Lib.hid ((A1.out w false).trans (hb.mono (A1.out w false).size)); clear hb)
  go_upto_region 3 with (go_at_call 8; (refine (W2.out _).mono ?_); rintro e w2 ⟨a, rfl, ha, _, hb⟩; have H2 := Lib.hid (And.intro ha (H1.out.trans (((A1.out w1 true).trans (hb.mono (A1.out w1 true).size)).mono H1.out.size))); clear ha hb)
  go_wp2_with (go_at_call 13; (refine (F1.out _ _ H2.out.1).mono ?_); rintro e w3 ⟨rfl, hb⟩)
  go_ret
  exact ⟨rfl, H2.out.2.trans (hb.mono H2.out.2.size)⟩
end Go.Proofs.Ytgfenklcelfkiaa
