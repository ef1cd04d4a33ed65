/-
  The walks of package auto's astray, fromFinal and twice. (Template: by-name.py fills it.)
-/
import Derived.Test.YtgfenklcelfkiaaAutF
import Derived.Test.YtgfenklcelfkiaaAutP
namespace Go.Proofs.Ytgfenklcelfkiaa
open Go.RowKit

theorem moves_at {rs : List (Value × Mov)} {ms : List Mov} (h : rs.map (·.2) = ms) {k : Nat} {x : Value × Mov} (hx : rs[k]? = some x) : ms[k]? = some x.2 := by rw [← h, List.getElem?_map, hx]; rfl
theorem moves_len {rs : List (Value × Mov)} {ms : List Mov} (h : rs.map (·.2) = ms) : rs.length = ms.length := by rw [← h, List.length_map]
set_option maxHeartbeats 4000000 in
theorem astray_any (w : World) (vs vm : Value) (p : Pro) (h : ProAt w vs vm p) :
    Calls Try.prog 43 #[proV vs vm p] w fun e w' => e = .returned (.int .i64 (fstL (astrayB p.states.length) p.moves)) ∧ Below w.heap.size w w' := by
  obtain ⟨As, cs, rfl, hls⟩ := h.states.len
  obtain ⟨rs, hm, hM⟩ := h.moves
  have a1 := below_alloc1 w (.cells #[txt p.name, .slice As p.states.length cs, vm] 25)
  have B1 := Blk.start w #[txt p.name, .slice As p.states.length cs, vm] 25
  have a2 := below_alloc1 (w.alloc (.cells #[txt p.name, .slice As p.states.length cs, vm] 25)) (.cells #[.func (.func 57) #[] #[.pointer (some ⟨w.heap.size, 0, none⟩)]] 87)
  have B2 := Blk.start (w.alloc (.cells #[txt p.name, .slice As p.states.length cs, vm] 25)) #[.func (.func 57) #[] #[.pointer (some ⟨w.heap.size, 0, none⟩)]] 87
  rw [World.size_alloc] at B2
  have B3 := B1.keep a2
  have CX := Lib.hid (ix_astray w _ vm rs (w.heap.size + 1) (fun k => match rs[k]? with | some x => astrayB p.states.length x.2 | none => false) (fun _ wr => NonS wr w.heap.size (w.heap.size + 1) p.states.length cs As (txt p.name) vm) hM (a1.trans (a2.mono a1.size)) ⟨B3, B2⟩
    (fun k x wr hx hb hr => (astray1_any wr _ _ _ _ _ _ _ x.1 x.2 hr ((by obtain ⟨_, _, _, _, _, _, h5⟩ := hM; exact (h5 x (List.mem_of_getElem? hx)).2 : OutsAt w x.1 x.2.outs).below hb)).mono fun e w' ⟨he, hb'⟩ => ⟨by rw [he, hx], hb.trans (hb'.mono hb.size), hr.keep hb'⟩))
  rw [fstI_list (f := fun x : Value × Mov => astrayB p.states.length x.2) (fun k x hx => by rw [hx]), ← fstL_map (fun x : Value × Mov => x.2) (astrayB p.states.length) rs, hm] at CX
  obtain ⟨Am, cm, rfl, hlm⟩ := h.moves.len
  have c2 := B3.cell 2
  simp only [List.getElem?_toArray, List.getElem?_cons_zero, List.getElem?_cons_succ] at c2
  clear h hM hm hls hlm a1 a2 B1 B2 B3
  generalize fstL (astrayB p.states.length) p.moves = z at *
  have hmf := mkF
  have hsf := stF
  go_enter Try.func43, Try.ntmps43
  go_wp2_with (go_at_call 58; (with_reducible refine CX.out.mono ?_); rintro e w3 ⟨rfl, hb, hr⟩; have H3 := Lib.hid hb; clear hb hr)
  go_ret
  exact ⟨rfl, H3.out⟩
/-! ### fromFinal -/
def finM (ss : List Sta) (m : Mov) : Bool := match ss[m.at_.toNat]? with
  | some s => s.final
  | none => false
set_option maxHeartbeats 4000000 in
theorem final1_any (w0 w : World) (bp cs : Nat) (As : Option Addr) (ss : List Sta) (vo nm vm : Value) (m : Mov) (h : Blk w bp #[nm, .slice As ss.length cs, vm]) (hs : Reads w0 w0.heap.size 2 As ss.length (rowC stC ss)) (hb : Below w0.heap.size w0 w) (hm : 0 ≤ m.at_ ∧ m.at_ < (ss.length : Int)) :
    Calls Try.prog 64 #[.agg #[txt m.op, .int .i64 m.at_, vo], .pointer (some ⟨bp, 0, none⟩)] w fun e w' => e = .returned (.bool (finM ss m)) ∧ Below w.heap.size w w' := by
  obtain ⟨op, z, outs⟩ := m
  dsimp only at hm ⊢
  obtain ⟨k, rfl⟩ : ∃ k : Nat, z = k := ⟨z.toNat, by omega⟩
  have hlt : k < ss.length := by omega
  have a1 := below_alloc1 w (.cells #[txt op, .int .i64 (k : Int), vo] 43)
  have B1 := Blk.start w #[txt op, .int .i64 (k : Int), vo] 43
  have h1 := h.keep a1
  have c0 := B1.cell 1
  have c1 := h1.cell 1
  simp only [List.getElem?_toArray, List.getElem?_cons_zero, List.getElem?_cons_succ] at c0 c1
  unfold finM
  dsimp only
  have hx : ss[k]? = some ss[k] := List.getElem?_eq_getElem hlt
  have i1 : (k : Int) < (ss.length : Int) := by omega
  have i2 : (0 : Int) ≤ (k : Int) := by omega
  obtain ⟨ad, rfl, d0, d1⟩ := sl_cell2 stC_len hs (hb.trans (a1.mono hb.size)) hx (by omega)
  rw [Int.toNat_natCast, hx]
  generalize ss[k] = x at *
  unfold stC at d1
  simp only [List.getElem?_cons_zero, List.getElem?_cons_succ] at d1
  have HA := Lib.hid a1
  clear h hs hb hm B1 h1 a1 hx d0
  generalize ss.length = n at *
  go_enter Try.func64, Try.ntmps64
  go_wp2_with fail
  go_ret
  exact ⟨rfl, HA.out⟩
set_option maxHeartbeats 4000000 in
theorem fromFinal_any (w : World) (vs vm : Value) (p : Pro) (h : ProAt w vs vm p) (hf : Fits p) :
    Calls Try.prog 45 #[proV vs vm p] w fun e w' => e = .returned (.int .i64 (fstL (finM p.states) p.moves)) ∧ Below w.heap.size w w' := by
  obtain ⟨As, cs, rfl, hls, hls2, hS, _⟩ := h.states
  obtain ⟨rs, hm, hM⟩ := h.moves
  have a1 := below_alloc1 w (.cells #[txt p.name, .slice As p.states.length cs, vm] 25)
  have B1 := Blk.start w #[txt p.name, .slice As p.states.length cs, vm] 25
  have CX := Lib.hid (ix_final w _ vm rs w.heap.size (fun k => match rs[k]? with | some x => finM p.states x.2 | none => false) (fun _ wr => Blk wr w.heap.size #[txt p.name, .slice As p.states.length cs, vm]) hM a1 B1
    (fun k x wr hx hb hr => (final1_any w wr _ _ _ _ x.1 _ _ x.2 hr hS hb (hf.at_ x.2 (List.mem_of_getElem? (moves_at hm hx)))).mono fun e w' ⟨he, hb'⟩ => ⟨by rw [he, hx], hb.trans (hb'.mono hb.size), hr.keep hb'⟩))
  rw [fstI_list (f := fun x : Value × Mov => finM p.states x.2) (fun k x hx => by rw [hx]), ← fstL_map (fun x : Value × Mov => x.2) (finM p.states) rs, hm] at CX
  obtain ⟨Am, cm, rfl, hlm⟩ := h.moves.len
  have c2 := B1.cell 2
  simp only [List.getElem?_toArray, List.getElem?_cons_zero, List.getElem?_cons_succ] at c2
  clear h hM hm hls hls2 hS hlm a1 B1 hf
  generalize fstL (finM p.states) p.moves = z at *
  have hmf := mkF
  go_enter Try.func45, Try.ntmps45
  go_wp2_with (go_at_call 58; (with_reducible refine CX.out.mono ?_); rintro e w3 ⟨rfl, hb, hr⟩; have H3 := Lib.hid hb; clear hb hr)
  go_ret
  exact ⟨rfl, H3.out⟩
end Go.Proofs.Ytgfenklcelfkiaa
