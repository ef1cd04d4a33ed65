/-
  Walk, given what valid and preorder answer. (Template: by-name.py fills it.)
-/
import Derived.Test.YtabnjiijgbigbaaDoorTreO
namespace Go.Proofs.YtabnjiijgbigbaaDoor
open Go.RowKit

/-- Depth beyond what the list can hold adds nothing. -/
theorem preF_more {ns : List Nd} {p : List Int} (h : parT ns = some p) : ∀ (d k : Nat), k < ns.length → ns.length ≤ k + d + 1 → preF ns (d + 1) (k : Int) = preF ns d (k : Int)
  | 0, k, hk, hn => by
    have hx : ns[k]? = some ns[k] := List.getElem?_eq_getElem hk
    have : ns[k].kids = [] := List.eq_nil_iff_forall_not_mem.mpr (fun y hy => by have := parT_in h hx y hy; omega)
    rw [preF, preF, ndAt_of hx, this]
    rfl
  | d + 1, k, hk, hn => by
    have hx : ns[k]? = some ns[k] := List.getElem?_eq_getElem hk
    rw [preF, preF, ndAt_of hx]
    congr 1
    unfold List.flatMap
    congr 1
    apply List.map_congr_left
    intro y hy
    have := parT_in h hx y hy
    obtain ⟨m, rfl⟩ : ∃ m : Nat, y = m := ⟨y.toNat, by omega⟩
    exact preF_more h d m (by omega) (by omega)
/-- What preorder answers. -/
def PreCalls : Prop := ∀ (w : World) (v : Value) (ns : List Nd) (p : List Int) (k : Nat), NodesAt w v ns → parT ns = some p → k < ns.length →
  Calls Tryd.prog 15 #[v, .int .i64 k] w fun e w' => ∃ u, e = .returned u ∧ IntsL w' u (preF ns ns.length k) ∧ Below w.heap.size w w'
/-- What Walk answers. -/
def walkT (ns : List Nd) : List Int := if rightN ns = true then preF ns ns.length 0 else []
theorem right_par {ns : List Nd} (h : rightN ns = true) : ∃ p, parT ns = some p := by
  unfold rightN at h
  split at h
  · cases h
  · exact ⟨_, by assumption⟩
set_option maxHeartbeats 2000000 in
theorem walk_of (hV : ValidCalls) (hQ : PreCalls) (w : World) (v : Value) (ns : List Nd) (h : NodesAt w v ns) (ht : StrRow w 0 keysL) :
    Calls Tryd.prog 11 #[v] w fun e w' => ∃ u, e = .returned u ∧ IntsL w' u (walkT ns) ∧ Below w.heap.size w w' := by
  have rt := right_of hV w v ns h ht
  cases hr : rightN ns with
  | false =>
    have e : walkT ns = [] := by unfold walkT; rw [hr]; rfl
    rw [e]
    rw [hr] at rt
    clear h ht hV hQ hr e
    go_enter Tryd.func11, Tryd.ntmps11
    go_wp2_with (go_at_call 9; (with_reducible refine rt.mono ?_); rintro e w1 ⟨rfl, hb⟩; have HB := Lib.hid hb; clear hb)
    go_ret
    exact ⟨_, rfl, IntsL.nil _, HB.out⟩
  | true =>
    obtain ⟨p, hp⟩ := right_par hr
    have e : walkT ns = preF ns ns.length (0 : Nat) := by unfold walkT; rw [hr]; rfl
    rw [e]
    rw [hr] at rt
    have PQ := Lib.hid (fun (w' : World) (hb : Below w.heap.size w w') => hQ w' v ns p 0 (h.below hb) hp (by have := parT_facts hp; omega))
    clear h ht hV hQ hr e hp
    generalize preF ns ns.length ((0 : Nat) : Int) = L at *
    go_enter Tryd.func11, Tryd.ntmps11
    go_wp2_with (first
      | (go_at_call 9; (with_reducible refine rt.mono ?_); rintro e w1 ⟨rfl, hb⟩; have HB := Lib.hid hb; clear hb)
      | (go_at_call 15; refine (PQ.out _ HB.out).mono ?_; rintro e w2 ⟨u, rfl, hu, hb2⟩; have HC := Lib.hid (And.intro hu hb2); clear hu hb2))
    go_ret
    exact ⟨_, rfl, HC.out.1, HB.out.trans (HC.out.2.mono HB.out.size)⟩
end Go.Proofs.YtabnjiijgbigbaaDoor
