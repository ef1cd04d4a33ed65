/-
  The walks of package auto's astray and its three functions. (Template: by-name.py fills it.)
-/
import Derived.Test.YtbfgeiimjmhhdaaAutCf
namespace Go.Proofs.Ytbfgeiimjmhhdaa
open Go.RowKit

theorem mkF : ∀ (fn : Fn) (first cap : Array Value) (w : World), (Instr.makeFunc fn first cap).run Try.prog w = .ok (.func fn first cap) w := fun _ _ _ _ => rfl
theorem stF : ∀ (a : Addr) (m : Mode) (fn : Fn) (f c : Array Value) (w : World), (store a (.func fn f c) m).run Try.prog w = stored Try.prog w a (.func fn f c) m := fun a m _ _ _ w => run_store Try.prog w a _ m rfl
/-- No state of n. -/
def noneB (n : Nat) (x : Int) : Bool := decide (x < 0) || decide ((n : Int) ≤ x)
def astrayB (n : Nat) (m : Mov) : Bool := noneB n m.at_ || decide (m.outs.length = 0) || m.outs.any fun o => noneB n o.to
theorem any_range {α : Type} {l : List α} {f : α → Bool} {t : Nat → Bool} (h : ∀ k x, l[k]? = some x → t k = f x) : (List.range l.length).any t = l.any f := by
  cases q : l.any f with
  | true =>
    obtain ⟨x, hx, hf⟩ := List.any_eq_true.mp q
    obtain ⟨k, hk⟩ := List.mem_iff_getElem?.mp hx
    exact List.any_eq_true.mpr ⟨k, List.mem_range.mpr (List.getElem?_eq_some_iff.mp hk).1, by rw [h k x hk, hf]⟩
  | false =>
    rw [List.any_eq_false] at q ⊢
    intro k hk
    have hl := List.mem_range.mp hk
    rw [h k l[k] (List.getElem?_eq_getElem hl)]
    exact q _ (List.getElem_mem hl)
/-- The first of a list that is so. -/
def fstL {α : Type} (f : α → Bool) (l : List α) : Int := match l.findIdx? f with
  | some k => (k : Int)
  | none => -1
theorem fstI_list {α : Type} {l : List α} {t : Nat → Bool} {f : α → Bool} (h : ∀ k x, l[k]? = some x → t k = f x) : fstI t l.length = fstL f l := by
  unfold fstL
  cases q : l.findIdx? f with
  | none =>
    rw [List.findIdx?_eq_none_iff] at q
    refine fst_none fun i hi => ?_
    rw [h i l[i] (List.getElem?_eq_getElem hi)]
    exact q _ (List.getElem_mem hi)
  | some k =>
    rw [List.findIdx?_eq_some_iff_getElem] at q
    obtain ⟨hk, h1, h2⟩ := q
    refine fst_hit hk ?_ fun i hi => ?_
    · rw [h k l[k] (List.getElem?_eq_getElem hk)]; exact h1
    · have hl : i < l.length := by omega
      rw [h i l[i] (List.getElem?_eq_getElem hl)]
      have := h2 i hi
      simpa using this
theorem fstL_map {α β : Type} (g : α → β) (f : β → Bool) (l : List α) : fstL f (l.map g) = fstL (fun x => f (g x)) l := by
  unfold fstL
  rw [List.findIdx?_map]
  rfl
end Go.Proofs.Ytbfgeiimjmhhdaa
