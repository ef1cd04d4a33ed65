/-
  The walks of package auto's New and Proto. (Template: by-name.py fills it.)
-/
import Derived.Test.YtgfenklcelfkiaaAutO
namespace Go.Proofs.Ytgfenklcelfkiaa
open Go.RowKit

/-- An automaton in memory: its block holds the protocol. -/
def AutAt (w : World) (a : Nat) (p : Pro) : Prop := ∃ vs vm, Blk w a #[txt p.name, vs, vm] ∧ ProAt w vs vm p
theorem AutAt.below {w w' : World} {a : Nat} {p : Pro} (h : AutAt w a p) (hb : Below w.heap.size w w') : AutAt w' a p := by
  obtain ⟨vs, vm, h1, h2⟩ := h
  exact ⟨vs, vm, h1.keep hb, h2.below hb⟩
set_option maxRecDepth 10000 in
set_option maxHeartbeats 4000000 in
theorem new_right (w : World) (vs vm : Value) (p : Pro) (h : ProAt w vs vm p) (hz : SzP p) (hw : (wrongP p).1 = 0) :
    Calls Try.prog 8 #[proV vs vm p] w fun e w' => ∃ a, e = .returned (.tuple #[.pointer (some ⟨a, 0, none⟩), .int .i64 0]) ∧ AutAt w' a p ∧ w.heap.size ≤ a ∧ Below w.heap.size w w' := by
  obtain ⟨As, cs, rfl, _⟩ := h.states.len
  obtain ⟨Am, cm, rfl, _⟩ := h.moves.len
  have a1 := below_alloc1 w (.cells #[txt p.name, .slice As p.states.length cs, .slice Am p.moves.length cm] 25)
  have B1 := Blk.start w #[txt p.name, .slice As p.states.length cs, .slice Am p.moves.length cm] 25
  have WR := Lib.hid (wrong_any _ _ _ p (h.below a1) (by have := hz.mv; omega) (fun m hm => by have := hz.out m hm; omega))
  have CP := Lib.hid (fun (v : World) (hb : Below w.heap.size w v) => copied_any v _ _ p (h.below hb) hz)
  have HA := Lib.hid (And.intro a1 (And.intro B1 hz.len))
  rw [hw] at WR
  generalize (wrongP p).2 = r2 at *
  clear h hz a1 B1 hw
  go_enter Try.func8, Try.ntmps8
  go_wp2_with (first
    | (go_at_call 24; (with_reducible refine WR.out.mono ?_); rintro e w1 ⟨rfl, hb⟩; have c0 := (HA.out.2.1.keep hb).cell 0; have c1 := (HA.out.2.1.keep hb).cell 1; have c2 := (HA.out.2.1.keep hb).cell 2; simp only [List.getElem?_toArray, List.getElem?_cons_zero, List.getElem?_cons_succ] at c0 c1 c2; have H1 := Lib.hid (HA.out.1.trans (hb.mono HA.out.1.size)); clear hb)
    | (go_at_call 25; (with_reducible refine (CP.out _ H1.out).mono ?_); rintro e w2 ⟨vs', vm', rfl, ho, hb⟩; have H2 := Lib.hid (And.intro ho hb); clear ho hb))
  have a5 := below_alloc1 w2 (.cells #[txt p.name, vs', vm'] 60)
  have bw := H1.out.trans (H2.out.2.mono H1.out.size)
  have HF := Lib.hid (show AutAt (w2.alloc (.cells #[txt p.name, vs', vm'] 60)) w2.heap.size p from ⟨vs', vm', Blk.start w2 _ _, (H2.out.1.pro HA.out.2.2).below a5⟩)
  have HG := Lib.hid (bw.trans (a5.mono bw.size))
  have HL := Lib.hid bw.size
  clear a5 bw
  refine bodyPost_ret (v := .tuple #[.pointer (some ⟨w2.heap.size, 0, none⟩), .int .i64 0]) (by simp [results, Try.results8, go_sem]) rfl ?_
  exact ⟨_, rfl, HF.out, HL.out, HG.out⟩
set_option maxRecDepth 10000 in
set_option maxHeartbeats 4000000 in
theorem new_wrong (w : World) (vs vm : Value) (p : Pro) (h : ProAt w vs vm p) (hz : SzP p) (hw : (wrongP p).1 ≠ 0) :
    Calls Try.prog 8 #[proV vs vm p] w fun e w' => e = .returned (.tuple #[.pointer none, .int .i64 2]) ∧ Below w.heap.size w w' := by
  obtain ⟨As, cs, rfl, _⟩ := h.states.len
  obtain ⟨Am, cm, rfl, _⟩ := h.moves.len
  have a1 := below_alloc1 w (.cells #[txt p.name, .slice As p.states.length cs, .slice Am p.moves.length cm] 25)
  have WR := Lib.hid (wrong_any _ _ _ p (h.below a1) (by have := hz.mv; omega) (fun m hm => by have := hz.out m hm; omega))
  have HA := Lib.hid a1
  generalize wrongP p = r at *
  obtain ⟨r1, r2⟩ := r
  dsimp only at WR hw
  have t1 : (r1 != 0) = true := by simpa using hw
  have t2 : (r1 == 0) = false := by simpa using hw
  clear h hz a1 hw
  go_enter Try.func8, Try.ntmps8
  go_wp2_with (go_at_call 24; (with_reducible refine WR.out.mono ?_); rintro e w1 ⟨rfl, hb⟩; have H1 := Lib.hid (HA.out.trans (hb.mono HA.out.size)); clear hb)
  exact bodyPost_ret (v := .tuple #[.pointer none, .int .i64 2]) (by simp [results, Try.results8, go_sem]) rfl ⟨rfl, H1.out⟩
end Go.Proofs.Ytgfenklcelfkiaa
