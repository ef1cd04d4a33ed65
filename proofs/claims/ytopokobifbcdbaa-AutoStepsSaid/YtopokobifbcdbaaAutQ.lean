/-
  The walks of package auto's New and Proto. (Template: by-name.py fills it.)
-/
import Derived.Test.YtopokobifbcdbaaAutO
namespace Go.Proofs.Ytopokobifbcdbaa
open Go.RowKit

/-- An automaton in memory: its block holds the protocol. -/
def AutAt (w : World) (a : Nat) (p : Pro) : Prop := ∃ vs vm, Blk w a #[txt p.name, vs, vm] ∧ ProAt w vs vm p
theorem AutAt.below {w w' : World} {a : Nat} {p : Pro} (h : AutAt w a p) (hb : Below w.heap.size w w') : AutAt w' a p := by
  obtain ⟨vs, vm, h1, h2⟩ := h
  exact ⟨vs, vm, h1.keep hb, h2.below hb⟩
set_option maxRecDepth 10000 in
set_option maxHeartbeats 4000000 in
theorem new_right (w : World) (vs vm : Value) (p : Pro) (h : ProAt w vs vm p) (hz : SzP p) (hw : (wrongP p).1 = 0) :
    Calls Try.prog 12 #[proV vs vm p] w fun e w' => ∃ a, e = .returned (.tuple #[.pointer (some ⟨a, 0, none⟩), .int .i64 0]) ∧ AutAt w' a p ∧ w.heap.size ≤ a ∧ Below w.heap.size w w' := by
  obtain ⟨As, cs, rfl, _⟩ := h.states.len
  obtain ⟨Am, cm, rfl, _⟩ := h.moves.len
  have a1 := below_alloc1 w (.cells #[txt p.name, .slice As p.states.length cs, .slice Am p.moves.length cm] 25)
  have B1 := Blk.start w #[txt p.name, .slice As p.states.length cs, .slice Am p.moves.length cm] 25
  have WR := Lib.hid (wrong_any _ _ _ p (h.below a1) (by have := hz.mv; omega) (fun m hm => by have := hz.out m hm; omega))
  have CP := Lib.hid (fun (v : World) (hb : Below w.heap.size w v) => copied_any v _ _ p (h.below hb) hz)
  have HA := Lib.hid (And.intro a1 (And.intro B1 hz.len))
  rw [hw] at WR
  generalize (wrongP p).2 = r2 at *
  clear h hz a1 B1 hw
  go_enter Try.func12, Try.ntmps12
  go_wp2_with (first
    | (go_at_call 10; (with_reducible refine WR.out.mono ?_); rintro e w1 ⟨rfl, hb⟩; have c0 := (HA.out.2.1.keep hb).cell 0; have c1 := (HA.out.2.1.keep hb).cell 1; have c2 := (HA.out.2.1.keep hb).cell 2; simp only [List.getElem?_toArray, List.getElem?_cons_zero, List.getElem?_cons_succ] at c0 c1 c2; have H1 := Lib.hid (HA.out.1.trans (hb.mono HA.out.1.size)); clear hb)
    | (go_at_call 38; (with_reducible refine (CP.out _ H1.out).mono ?_); rintro e w2 ⟨vs', vm', rfl, ho, hb⟩; have H2 := Lib.hid (And.intro ho hb); clear ho hb))
  have a5 := below_alloc1 w2 (.cells #[txt p.name, vs', vm'] 71)
  have bw := H1.out.trans (H2.out.2.mono H1.out.size)
  have HF := Lib.hid (show AutAt (w2.alloc (.cells #[txt p.name, vs', vm'] 71)) w2.heap.size p from ⟨vs', vm', Blk.start w2 _ _, (H2.out.1.pro HA.out.2.2).below a5⟩)
  have HG := Lib.hid (bw.trans (a5.mono bw.size))
  have HL := Lib.hid bw.size
  clear a5 bw
  refine bodyPost_ret (v := .tuple #[.pointer (some ⟨w2.heap.size, 0, none⟩), .int .i64 0]) (by simp [results, Try.results12, go_sem]) rfl ?_
  exact ⟨_, rfl, HF.out, HL.out, HG.out⟩
set_option maxRecDepth 10000 in
set_option maxHeartbeats 4000000 in
theorem new_wrong (w : World) (vs vm : Value) (p : Pro) (h : ProAt w vs vm p) (hz : SzP p) (hw : (wrongP p).1 ≠ 0) :
    Calls Try.prog 12 #[proV vs vm p] w fun e w' => e = .returned (.tuple #[.pointer none, .int .i64 2]) ∧ Below w.heap.size w w' := by
  obtain ⟨As, cs, rfl, _⟩ := h.states.len
  obtain ⟨Am, cm, rfl, _⟩ := h.moves.len
  have a1 := below_alloc1 w (.cells #[txt p.name, .slice As p.states.length cs, .slice Am p.moves.length cm] 25)
  have WR := Lib.hid (wrong_any _ _ _ p (h.below a1) (by have := hz.mv; omega) (fun m hm => by have := hz.out m hm; omega))
  have HA := Lib.hid a1
  generalize wrongP p = r at *
  obtain ⟨r1, r2⟩ := r
  dsimp only at WR hw
  have t1 : (r1 != 0) = true := by simpa using hw
  have t2 : (r1 == 0) = false := by simpa using hw
  clear h hz a1 hw
  go_enter Try.func12, Try.ntmps12
  go_wp2_with (go_at_call 10; (with_reducible refine WR.out.mono ?_); rintro e w1 ⟨rfl, hb⟩; have H1 := Lib.hid (HA.out.trans (hb.mono HA.out.size)); clear hb)
  exact bodyPost_ret (v := .tuple #[.pointer none, .int .i64 2]) (by simp [results, Try.results12, go_sem]) rfl ⟨rfl, H1.out⟩
set_option maxRecDepth 10000 in
set_option maxHeartbeats 4000000 in
theorem proto_any (w : World) (a : Nat) (p : Pro) (h : AutAt w a p) (hz : SzP p) :
    Calls Try.prog 14 #[.pointer (some ⟨a, 0, none⟩)] w fun e w' => ∃ vs vm, e = .returned (proV vs vm p) ∧ ProAt w' vs vm p ∧ Below w.heap.size w w' := by
  obtain ⟨vs, vm, hB, hP⟩ := h
  obtain ⟨As, cs, rfl, _⟩ := hP.states.len
  obtain ⟨Am, cm, rfl, _⟩ := hP.moves.len
  have a1 := below_alloc1 w (.cells #[.string ⟨#[]⟩, .slice none 0 0, .slice none 0 0] 25)
  have B1 := TBlk.start w #[.string ⟨#[]⟩, .slice none 0 0, .slice none 0 0] 25
  have B2 := hB.keep a1
  have c0 := B2.cell 0
  have c1 := B2.cell 1
  have c2 := B2.cell 2
  simp only [List.getElem?_toArray, List.getElem?_cons_zero, List.getElem?_cons_succ] at c0 c1 c2
  have CP := Lib.hid (copied_any _ _ _ p (hP.below a1) hz)
  have HA := Lib.hid (And.intro a1 (And.intro B1 hz.len))
  clear hB hP hz a1 B1 B2
  go_enter Try.func14, Try.ntmps14
  go_wp2_with (go_at_call 38; (with_reducible refine CP.out.mono ?_); rintro e w2 ⟨vs', vm', rfl, ho, hb⟩; obtain ⟨rs, hm, s1, s2, s3⟩ := ho; obtain ⟨A5, c5, e5⟩ := own_shape s1; obtain ⟨A6, c6, e6⟩ := own_shape s2; subst e5 e6; have ho := Lib.hid (show ProOwn w2 _ _ _ p from ⟨rs, hm, s1, s2, s3⟩); clear hm s1 s2 s3; have T2 := HA.out.2.1.keep hb; have y0 := T2.blk.cell 0; have y1 := T2.blk.cell 1; have y2 := T2.blk.cell 2; have f0 := T2.blk.free 0; have f1 := T2.blk.free 1; have f2 := T2.blk.free 2; simp only [List.getElem?_toArray, List.getElem?_cons_zero, List.getElem?_cons_succ] at y0 y1 y2; rw [World.size_alloc] at ho; have H2 := Lib.hid (And.intro ho.out (And.intro hb T2)); clear ho hb T2)
  have lt : w.heap.size < w.heap.size + 1 := Nat.lt_succ_self _
  have HF := Lib.hid ((((H2.out.1.set (i := 0) (u := txt p.name) lt).set (i := 1) (u := .slice A5 p.states.length c5) lt).set (i := 2) (u := .slice A6 rs.length c6) lt).pro HA.out.2.2)
  have HT : TBlk _ _ _ _ := ((H2.out.2.2.set 0 (txt p.name)).set 1 (.slice A5 p.states.length c5)).set 2 (.slice A6 rs.length c6)
  have HB := Lib.hid ((((HA.out.1.trans (H2.out.2.1.mono HA.out.1.size)).setCell (p := ⟨w.heap.size, 0, none⟩) (Nat.le_refl _) (txt p.name)).setCell (p := ⟨w.heap.size, 1, none⟩) (Nat.le_refl _) (.slice A5 p.states.length c5)).setCell (p := ⟨w.heap.size, 2, none⟩) (Nat.le_refl _) (.slice A6 rs.length c6))
  refine bodyPost_ret (results_cell_row (P := Try.prog) rfl _ _ w.heap.size 25 #[txt p.name, .slice A5 p.states.length c5, .slice A6 rs.length c6] (0, 0) _ rfl (by unfold TBlk at HT; simpa using HT) Try.underlying25 rfl (by obtain ⟨i, hi, _, hs, _⟩ := info_parts info_Proto; rw [hi]; show some i.size = _; rw [hs]; rfl)) rfl ?_
  exact ⟨_, _, rfl, HF.out, HB.out⟩
end Go.Proofs.Ytopokobifbcdbaa
