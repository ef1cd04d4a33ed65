/-
  The walks of package auto's fresh at starts and of the function that it makes. (Template: by-name.py fills it.)
-/
import Derived.Test.YtgfenklcelfkiaaAutE
namespace Go.Proofs.Ytgfenklcelfkiaa
open Go.RowKit Go.Maps

def frT (bx : Nat) : Value := .func (.func 67) #[] #[.pointer (some ⟨bx, 0, none⟩)]
structure FreT (w : World) (bx bm : Nat) (L : List Stt) : Prop where
  box : Blk w bx #[.map (some bm)]
  map : MapT w bm L
theorem FreT.keep {w w' : World} {bx bm : Nat} {L : List Stt} (h : FreT w bx bm L) (hb : Below w.heap.size w w') : FreT w' bx bm L := ⟨h.box.keep hb, h.map.keep hb⟩
theorem FreT.grown {w w' : World} {row : Option Nat} {bx bm : Nat} {L : List Stt} (h : FreT w bx bm L) (hg : w.grownBy w' row) (h1 : row ≠ some bx) (h2 : row ≠ some bm) : FreT w' bx bm L := ⟨h.box.grown hg h1, h.map.grown hg h2⟩
set_option maxHeartbeats 1000000 in
theorem freshT_any (w : World) : Calls Try.prog 61 #[] w fun e w' => ∃ bx bm, e = .returned (frT bx) ∧ FreT w' bx bm [] ∧ w.heap.size ≤ bx ∧ w.heap.size ≤ bm ∧ Below w.heap.size w w' := by
  have hmm := @run_makeMap Try.prog
  have hmf := mkF
  go_enter Try.func61, Try.ntmps61
  go_wp2_with fail
  go_ret
  have a1 := below_alloc1 w (.map #[] 0)
  have a2 := below_alloc1 (w.alloc (.map #[] 0)) (.cells #[.map (some w.heap.size)] 94)
  have b := Blk.start (w.alloc (.map #[] 0)) #[.map (some w.heap.size)] 94
  rw [World.size_alloc] at b
  exact ⟨w.heap.size + 1, w.heap.size, rfl, ⟨b, (MapT.made w).keep a2⟩, Nat.le_succ _, Nat.le_refl _, a1.trans (a2.mono a1.size)⟩
set_option maxRecDepth 10000 in
set_option maxHeartbeats 4000000 in
theorem freshT1_any (w : World) (bx bm : Nat) (L : List Stt) (k : Stt) (h : FreT w bx bm L) (hn : L.length < 1000000) (hk : OkT k) :
    Calls Try.prog 67 #[sttV k, .pointer (some ⟨bx, 0, none⟩)] w fun e w' => e = .returned (.bool (!L.contains k)) ∧ FreT w' bx bm (k :: L) ∧ (w.alloc (.cells #[txt k.1, .int .i64 k.2] 93)).grownBy w' (some bm) := by
  have a1 := below_alloc1 w (.cells #[txt k.1, .int .i64 k.2] 93)
  have B1 := Blk.start w #[txt k.1, .int .i64 k.2] 93
  have h1 := h.keep a1
  have hc : L.count k ≤ L.length := List.count_le_length
  have wk : IntKind.i64.wrap ((L.count k : Int) + 1) = (L.count k : Int) + 1 := IntWalk.i64_in _ (by omega)
  have hct : (L.contains k = true ∧ ¬ ((L.count k : Int) + 1 = 1)) ∨ (L.contains k = false ∧ (L.count k : Int) + 1 = 1) := by
    cases q : L.contains k with
    | true =>
      have := List.count_pos_iff.mpr (List.contains_iff_mem.mp q)
      exact .inl ⟨rfl, by omega⟩
    | false =>
      have := List.count_eq_zero.mpr (fun m => by rw [List.contains_iff_mem.mpr m] at q; cases q)
      exact .inr ⟨rfl, by omega⟩
  have HT := Lib.hid hct
  have CS := Lib.hid (fun (W : World) (hm : MapT W bm L) => count_start W bm L hm (by unfold maxLen; omega) k hk)
  have H1 := Lib.hid (And.intro h1 (And.intro B1 hk))
  clear h hn hk hc hct h1 B1 a1
  go_enter Try.func67, Try.ntmps67
  go_wp2_with fail
  generalize hW : w.alloc (.cells #[txt k.1, .int .i64 k.2] 93) = W at *
  have HW := Lib.hid hW
  clear hW
  obtain ⟨st, w2, w3, e1, e2, e3, e4, m3, g3, g2, e5⟩ := CS.out W.drew H1.out.1.map
  have c0 := H1.out.1.box.drew.cell 0
  have c1 := H1.out.2.1.drew.cell 0
  have c2 := H1.out.2.1.drew.cell 1
  simp only [List.getElem?_toArray, List.getElem?_cons_zero, List.getElem?_cons_succ] at c0 c1 c2
  have H3 := Lib.hid g3
  have hb3 := H1.out.1.box.drew.grown g3 (fun e => by injection e with e; exact H1.out.1.map.not_blk H1.out.1.box e)
  have hk3 := H1.out.2.1.drew.grown g3 (fun e => by injection e with e; exact H1.out.1.map.not_blk H1.out.2.1 e)
  have d0 := hb3.cell 0
  have d1 := hk3.cell 0
  have d2 := hk3.cell 1
  simp only [List.getElem?_toArray, List.getElem?_cons_zero, List.getElem?_cons_succ] at d0 d1 d2
  have HF := Lib.hid (FreT.mk hb3 m3)
  clear m3 g3 g2 hb3 hk3
  generalize hC : (L.count k : Int) = C at *
  have HC := Lib.hid hC
  clear hC CS
  go_region
  all_goals
    go_wp2_with fail
    go_ret
    refine ⟨?_, HF.out, by rw [HW.out]; exact ⟨H3.out.os, H3.out.tape, H3.out.output, H3.out.size, H3.out.block⟩⟩
    show Ending.returned (.bool (C + 1 == 1)) = _
    rcases HT.out with ⟨q, i1⟩ | ⟨q, i1⟩
    · rw [q, show (C + 1 == 1) = false from beq_eq_false_iff_ne.mpr i1]
      rfl
    · rw [q, show (C + 1 == 1) = true from beq_iff_eq.mpr i1]
      rfl
theorem fst_names {ss : List Sta} (k : Nat) (x : Sta) (h : ss[k]? = some x) : (ss.take (k + 1)).map (·.name) = (ss.take k).map (·.name) ++ [x.name] := by
  rw [List.take_add_one, h, List.map_append]; rfl
/-! ### sameName -/
structure SamS (w : World) (bn bx bm : Nat) (L : List (List UInt8)) : Prop where
  f : Blk w bn #[frF bx]
  m : FreS w bx bm L
theorem SamS.keep {w w' : World} {bn bx bm : Nat} {L : List (List UInt8)} (h : SamS w bn bx bm L) (hb : Below w.heap.size w w') : SamS w' bn bx bm L := ⟨h.f.keep hb, h.m.keep hb⟩
theorem SamS.next {w w' : World} {bn bx bm : Nat} {L L' : List (List UInt8)} (h : SamS w bn bx bm L) (hg : w.grownBy w' (some bm)) (hm : FreS w' bx bm L') : SamS w' bn bx bm L' :=
  ⟨h.f.grown hg (fun e => by injection e with e; exact h.m.map.not_blk h.f e), hm⟩
set_option maxHeartbeats 1000000 in
theorem same1_any (w : World) (bn bx bm : Nat) (L : List (List UInt8)) (s : Sta) (h : SamS w bn bx bm L) (hn : L.length < 1000000) (hs : s.name.length ≤ maxLen) :
    Calls Try.prog 56 #[.agg #[txt s.name, .bool s.final], .pointer (some ⟨bn, 0, none⟩)] w fun e w' => e = .returned (.bool (L.contains s.name)) ∧ SamS w' bn bx bm (s.name :: L) ∧ ∀ B, B ≤ w.heap.size → B ≤ bm → Below B w w' := by
  have a1 := below_alloc1 w (.cells #[txt s.name, .bool s.final] 53)
  have B1 := Blk.start w #[txt s.name, .bool s.final] 53
  have h1 := h.keep a1
  have FR := Lib.hid (fresh1_any _ bx bm L s.name h1.m hn hs)
  have c0 := B1.cell 0
  have c1 := h1.f.cell 0
  simp only [List.getElem?_toArray, List.getElem?_cons_zero, frF] at c0 c1
  have HA := Lib.hid (And.intro a1 h1)
  clear h hn hs h1 B1 a1
  generalize L.contains s.name = B at *
  go_enter Try.func56, Try.ntmps56
  go_wp2_with (go_at_call 52; (with_reducible refine FR.out.mono ?_); rintro e w1 ⟨rfl, hf, hg⟩; have H1 := Lib.hid (And.intro hf hg); clear hf hg)
  go_ret
  refine ⟨rfl, HA.out.2.next H1.out.2 H1.out.1, fun B' h1 h2 => (HA.out.1.mono h1).trans (grown_below_of H1.out.2 (Nat.le_trans h1 HA.out.1.size) (fun k hk => by injection hk with hk; omega))⟩
/-- Has a state the name of an earlier one? -/
def dupS (ss : List Sta) (k : Nat) : Bool := match ss[k]? with
  | some s => ((ss.take k).map (·.name)).contains s.name
  | none => false
theorem contains_rev (l : List (List UInt8)) (x : List UInt8) : l.reverse.contains x = l.contains x := by
  rw [Bool.eq_iff_iff, List.contains_iff_mem, List.contains_iff_mem, List.mem_reverse]
theorem names_next {ss : List Sta} {k : Nat} {x : Sta} (h : ss[k]? = some x) : ((ss.take (k + 1)).map (·.name)).reverse = x.name :: ((ss.take k).map (·.name)).reverse := by
  rw [fst_names k x h, List.reverse_append]; rfl
set_option maxHeartbeats 4000000 in
theorem same_any (w : World) (vs vm : Value) (p : Pro) (h : ProAt w vs vm p) (hn : p.states.length ≤ 16) :
    Calls Try.prog 42 #[proV vs vm p] w fun e w' => e = .returned (.int .i64 (fstI (dupS p.states) p.states.length)) ∧ Below w.heap.size w w' := by
  have hS : StatesAt w vs p.states := h.states
  have a1 := below_alloc1 w (.cells #[txt p.name, vs, vm] 25)
  have B1 := Blk.start w #[txt p.name, vs, vm] 25
  have FA := Lib.hid (fresh_any (w.alloc (.cells #[txt p.name, vs, vm] 25)))
  have IX := Lib.hid (fun (wr : World) (bn bx bm : Nat) (hb : Below w.heap.size w wr) (hm : w.heap.size ≤ bm) (hs : SamS wr bn bx bm []) =>
    ix_same w wr vs p.states bn (dupS p.states) (fun k v => SamS v bn bx bm ((p.states.take k).map (·.name)).reverse) hS hb (by simpa using hs)
      (fun k x v hx hbv hr => (same1_any v bn bx bm _ x hr (by rw [List.length_reverse, List.length_map, List.length_take]; omega) (by
        obtain ⟨_, _, _, _, _, _, h5⟩ := hS
        exact h5 x (List.mem_of_getElem? hx))).mono fun e v' ⟨he, hr', hB⟩ => ⟨by rw [he, contains_rev]; unfold dupS; rw [hx], hbv.trans (hB _ hbv.size hm), by rw [names_next hx]; exact hr'⟩))
  obtain ⟨As, cs, rfl, hls⟩ := h.states.len
  have c1 := B1.cell 1
  simp only [List.getElem?_toArray, List.getElem?_cons_zero, List.getElem?_cons_succ] at c1
  have HA := Lib.hid (And.intro a1 B1)
  clear h hS a1 B1 hn hls
  generalize fstI (dupS p.states) p.states.length = z at *
  have hmf := mkF
  have hsf := stF
  go_enter Try.func42, Try.ntmps42
  go_upto_region 2 with (go_at_call 29; (with_reducible refine FA.out.mono ?_); rintro e w1 ⟨bx, bm, rfl, hf, h1, h2, hb⟩; have H1 := Lib.hid (And.intro hf (And.intro h1 (And.intro h2 hb))); clear hf h1 h2 hb; unfold frF)
  have a2 := below_alloc1 w1 (.cells #[frF bx] 64)
  have B2 := Blk.start w1 #[frF bx] 64
  have bw := (HA.out.1.trans (H1.out.2.2.2.mono HA.out.1.size))
  have c2 := ((HA.out.2.keep H1.out.2.2.2).keep a2).cell 1
  simp only [List.getElem?_toArray, List.getElem?_cons_zero, List.getElem?_cons_succ, frF] at c2
  have CX := Lib.hid (IX.out _ w1.heap.size bx bm (bw.trans (a2.mono bw.size)) (Nat.le_trans HA.out.1.size H1.out.2.2.1) ⟨B2, H1.out.1.keep a2⟩)
  unfold frF at CX
  clear a2 B2 bw c1
  go_wp2_with (go_at_call 55; (with_reducible refine CX.out.mono ?_); rintro e w3 ⟨rfl, hb, hr⟩; have H3 := Lib.hid hb; clear hb hr)
  go_ret
  exact ⟨rfl, H3.out⟩
end Go.Proofs.Ytgfenklcelfkiaa
