/-
  The walks of package auto's astray and its three functions. (Template: by-name.py fills it.)
-/
import Derived.Test.YtgfenklcelfkiaaAutCf
namespace Go.Proofs.Ytgfenklcelfkiaa
open Go.RowKit

theorem mkF : ∀ (fn : Fn) (first cap : Array Value) (w : World), (Instr.makeFunc fn first cap).run Try.prog w = .ok (.func fn first cap) w := fun _ _ _ _ => rfl
theorem stF : ∀ (a : Addr) (m : Mode) (fn : Fn) (f c : Array Value) (w : World), (store a (.func fn f c) m).run Try.prog w = stored Try.prog w a (.func fn f c) m := fun a m _ _ _ w => run_store Try.prog w a _ m rfl
/-- No state of n. -/
def noneB (n : Nat) (x : Int) : Bool := decide (x < 0) || decide ((n : Int) ≤ x)
def astrayB (n : Nat) (m : Mov) : Bool := noneB n m.at_ || decide (m.outs.length = 0) || m.outs.any fun o => noneB n o.to
theorem any_range {α : Type} {l : List α} {f : α → Bool} {t : Nat → Bool} (h : ∀ k x, l[k]? = some x → t k = f x) : (List.range l.length).any t = l.any f := by
  cases q : l.any f with
  | true =>
    obtain ⟨x, hx, hf⟩ := List.any_eq_true.mp q
    obtain ⟨k, hk⟩ := List.mem_iff_getElem?.mp hx
    exact List.any_eq_true.mpr ⟨k, List.mem_range.mpr (List.getElem?_eq_some_iff.mp hk).1, by rw [h k x hk, hf]⟩
  | false =>
    rw [List.any_eq_false] at q ⊢
    intro k hk
    have hl := List.mem_range.mp hk
    rw [h k l[k] (List.getElem?_eq_getElem hl)]
    exact q _ (List.getElem_mem hl)
set_option maxHeartbeats 1000000 in
theorem none_any (w : World) (bp n c : Nat) (A : Option Addr) (nm vm : Value) (x : Int) (h : Blk w bp #[nm, .slice A n c, vm]) :
    Calls Try.prog 57 #[.int .i64 x, .pointer (some ⟨bp, 0, none⟩)] w fun e w' => e = .returned (.bool (noneB n x)) ∧ w = w' := by
  have c1 := h.cell 1
  simp only [List.getElem?_toArray, List.getElem?_cons_zero, List.getElem?_cons_succ] at c1
  unfold noneB
  clear h
  by_cases q : x < 0
  · rw [decide_eq_true q]
    go_enter Try.func57, Try.ntmps57
    go_wp2_with fail
    go_ret
    exact ⟨rfl, rfl⟩
  · rw [decide_eq_false q]
    go_enter Try.func57, Try.ntmps57
    go_wp2_with fail
    go_ret
    exact ⟨rfl, rfl⟩
/-- The protocol's box and that of the function none. -/
structure NonS (w : World) (bp bn n c : Nat) (A : Option Addr) (nm vm : Value) : Prop where
  p : Blk w bp #[nm, .slice A n c, vm]
  f : Blk w bn #[.func (.func 57) #[] #[.pointer (some ⟨bp, 0, none⟩)]]
theorem NonS.keep {w w' : World} {bp bn n c : Nat} {A : Option Addr} {nm vm : Value} (h : NonS w bp bn n c A nm vm) (hb : Below w.heap.size w w') : NonS w' bp bn n c A nm vm := ⟨h.p.keep hb, h.f.keep hb⟩
set_option maxHeartbeats 1000000 in
theorem none1_any (w : World) (bp bn n c : Nat) (A : Option Addr) (nm vm : Value) (o : Ou) (h : NonS w bp bn n c A nm vm) :
    Calls Try.prog 60 #[.agg #[txt o.name, .int .i64 o.to], .pointer (some ⟨bn, 0, none⟩)] w fun e w' => e = .returned (.bool (noneB n o.to)) ∧ Below w.heap.size w w' := by
  have a1 := below_alloc1 w (.cells #[txt o.name, .int .i64 o.to] 69)
  have B1 := Blk.start w #[txt o.name, .int .i64 o.to] 69
  have h1 := h.keep a1
  have NO := Lib.hid (none_any _ bp n c A nm vm o.to h1.p)
  have c1 := B1.cell 1
  have c2 := h1.f.cell 0
  simp only [List.getElem?_toArray, List.getElem?_cons_zero, List.getElem?_cons_succ] at c1 c2
  have HA := Lib.hid a1
  clear h h1 B1 a1
  generalize noneB n o.to = B at *
  go_enter Try.func60, Try.ntmps60
  go_wp2_with (go_at_call 57; (refine NO.out.mono ?_); rintro e w1 ⟨rfl, rfl⟩)
  go_ret
  exact ⟨rfl, HA.out⟩
set_option maxHeartbeats 4000000 in
theorem astray1_any (w : World) (bp bn n c : Nat) (A : Option Addr) (nm vm vo : Value) (m : Mov) (h : NonS w bp bn n c A nm vm) (ho : OutsAt w vo m.outs) :
    Calls Try.prog 59 #[.agg #[txt m.op, .int .i64 m.at_, vo], .pointer (some ⟨bn, 0, none⟩)] w fun e w' => e = .returned (.bool (astrayB n m)) ∧ Below w.heap.size w w' := by
  obtain ⟨Ao, co, rfl, hlo⟩ := ho.len
  have a1 := below_alloc1 w (.cells #[txt m.op, .int .i64 m.at_, .slice Ao m.outs.length co] 43)
  have B1 := Blk.start w #[txt m.op, .int .i64 m.at_, .slice Ao m.outs.length co] 43
  have h1 := h.keep a1
  have NO := Lib.hid (none_any _ bp n c A nm vm m.at_ h1.p)
  have CF := Lib.hid (cf_none _ _ _ m.outs bn (fun k => match m.outs[k]? with | some o => noneB n o.to | none => false) (fun _ wr => NonS wr bp bn n c A nm vm) (ho.below a1) (Below.refl _ _) h1 (fun k x wr hx hb hr => (none1_any wr bp bn n c A nm vm x hr).mono fun e w' ⟨he, hb'⟩ => ⟨by rw [he, hx], hb.trans (hb'.mono hb.size), hr.keep hb'⟩))
  rw [any_range (f := fun o => noneB n o.to) (fun k x hx => by rw [hx])] at CF
  have c0 := B1.cell 0
  have c1 := B1.cell 1
  have c2 := B1.cell 2
  have c3 := h1.f.cell 0
  simp only [List.getElem?_toArray, List.getElem?_cons_zero, List.getElem?_cons_succ] at c0 c1 c2 c3
  have HA := Lib.hid a1
  have hlen : ((m.outs.length : Int) == 0) = decide (m.outs.length = 0) := by
    by_cases q : m.outs.length = 0
    · rw [decide_eq_true q, q]; rfl
    · rw [decide_eq_false q]; exact beq_eq_false_iff_ne.mpr (by omega)
  have HL := Lib.hid hlen
  clear h h1 B1 a1 ho hlen
  unfold astrayB
  generalize m.outs.any (fun o => noneB n o.to) = B3 at *
  generalize decide (m.outs.length = 0) = B2 at *
  generalize noneB n m.at_ = B1 at *
  cases B1
  · cases B2
    · have t2 := HL.out
      go_enter Try.func59, Try.ntmps59
      go_wp2_with (first
        | (go_at_call 57; (refine NO.out.mono ?_); rintro e w1 ⟨rfl, rfl⟩)
        | (go_at_call 36; (refine CF.out.mono ?_); rintro e w1 ⟨rfl, hb, hr⟩; have H1 := Lib.hid hb; clear hb hr))
      go_ret
      exact ⟨rfl, HA.out.trans (H1.out.mono HA.out.size)⟩
    · have t2 := HL.out
      go_enter Try.func59, Try.ntmps59
      go_wp2_with (go_at_call 57; (refine NO.out.mono ?_); rintro e w1 ⟨rfl, rfl⟩)
      go_ret
      exact ⟨rfl, HA.out⟩
  · go_enter Try.func59, Try.ntmps59
    go_wp2_with (go_at_call 57; (refine NO.out.mono ?_); rintro e w1 ⟨rfl, rfl⟩)
    go_ret
    exact ⟨rfl, HA.out⟩
/-- The first of a list that is so. -/
def fstL {α : Type} (f : α → Bool) (l : List α) : Int := match l.findIdx? f with
  | some k => (k : Int)
  | none => -1
theorem fstI_list {α : Type} {l : List α} {t : Nat → Bool} {f : α → Bool} (h : ∀ k x, l[k]? = some x → t k = f x) : fstI t l.length = fstL f l := by
  unfold fstL
  cases q : l.findIdx? f with
  | none =>
    rw [List.findIdx?_eq_none_iff] at q
    refine fst_none fun i hi => ?_
    rw [h i l[i] (List.getElem?_eq_getElem hi)]
    exact q _ (List.getElem_mem hi)
  | some k =>
    rw [List.findIdx?_eq_some_iff_getElem] at q
    obtain ⟨hk, h1, h2⟩ := q
    refine fst_hit hk ?_ fun i hi => ?_
    · rw [h k l[k] (List.getElem?_eq_getElem hk)]; exact h1
    · have hl : i < l.length := by omega
      rw [h i l[i] (List.getElem?_eq_getElem hl)]
      have := h2 i hi
      simpa using this
theorem fstL_map {α β : Type} (g : α → β) (f : β → Bool) (l : List α) : fstL f (l.map g) = fstL (fun x => f (g x)) l := by
  unfold fstL
  rw [List.findIdx?_map]
  rfl
end Go.Proofs.Ytgfenklcelfkiaa
