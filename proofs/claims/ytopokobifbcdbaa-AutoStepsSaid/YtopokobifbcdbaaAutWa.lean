/-
  The walk of the statement AutoWrong. (Template: by-name.py fills it; gen/genAutWa.py writes it.)
-/
import Derived.Test.YtopokobifbcdbaaAutX
import Derived.Test.YtopokobifbcdbaaAutZ
namespace Go.Proofs.Ytopokobifbcdbaa
open Go.RowKit

set_option maxRecDepth 100000 in
set_option maxHeartbeats 8000000 in
theorem autowrong_any (w : World) (vs vm : Value) (p : Pro) (h : ProAt w vs vm p) (hr : RchP p) :
    Calls Try.prog 3 #[proV vs vm p] w fun e w' => e = .returned (.bool true) ∧ Below w.heap.size w w' := by
  have HP := Lib.hid (fun (v : World) (hb : Below w.heap.size w v) => h.below hb)
  have SM := Lib.hid (fun (v : World) (hb : Below w.heap.size w v) => rsmall_any v _ _ p (h.below hb) hr.cnt)
  obtain ⟨As, cs, rfl, _⟩ := h.states.len
  obtain ⟨Am, cm, rfl, _⟩ := h.moves.len
  have AW := Lib.hid (fun (v : World) => awake_yes v)
  have a1 := below_alloc1 w (.cells #[txt p.name, .slice As p.states.length cs, .slice Am p.moves.length cm] 25)
  have B1 := Blk.start w #[txt p.name, .slice As p.states.length cs, .slice Am p.moves.length cm] 25
  have S0 := Lib.hid (WrS.mk B1 a1)
  have HR := Lib.hid hr
  clear h hr a1 B1
  by_cases hs : sizeP p ≤ 80
  · rw [decide_eq_true hs] at SM
    have hz := HR.out.sz hs
    have WR := Lib.hid (fun (v : World) (hb : Below w.heap.size w v) => wrong_any v _ _ p (HP.out v hb) (by have := hz.mv; omega) (fun m hm => by have := hz.out m hm; omega))
    have RW := Lib.hid (fun (v : World) (hb : Below w.heap.size w v) => rwrong_any v _ _ p (HP.out v hb) hz)
    have NR := Lib.hid (fun (v : World) (hb : Below w.heap.size w v) => new_right v _ _ p (HP.out v hb) hz)
    have NW := Lib.hid (fun (v : World) (hb : Below w.heap.size w v) => new_wrong v _ _ p (HP.out v hb) hz)
    have PA := Lib.hid (fun (v : World) (a : Nat) (ha : AutAt v a p) => proto_any v a p ha hz)
    have LA := Lib.hid (fun (v : World) (va vma : Value) (ha : ProAt v va vma p) (hb : Below w.heap.size w v) => rlike_same v va vma _ _ p ha (HP.out v hb) hz)
    generalize wrongP p = R at *
    obtain ⟨r1, r2⟩ := R
    dsimp only at WR RW NR NW
    clear hs hz
    go_enter Try.func3, Try.ntmps3
    go_upto_region 1 with fail
    generalize (w.alloc (.cells #[txt p.name, .slice As p.states.length cs, .slice Am p.moves.length cm] 25)) = W0 at *
    go_upto_region 3 with (first
      | (go_at_call 8; (refine (AW.out _).mono ?_); rintro e1 w1 ⟨rfl, hb⟩; have B1 := Lib.hid (S0.out.keep hb); clear hb; have c0 := B1.out.p.cell 0; have c1 := B1.out.p.cell 1; have c2 := B1.out.p.cell 2; simp only [List.getElem?_toArray, List.getElem?_cons_zero, List.getElem?_cons_succ] at c0 c1 c2)
      | (go_at_call 9; (refine (SM.out _ B1.out.b).mono ?_); rintro e2 w2 ⟨rfl, hb⟩; have B2 := Lib.hid (B1.out.keep hb); clear hb))
    clear c0 c1 c2
    have c0 := B2.out.p.cell 0
    have c1 := B2.out.p.cell 1
    have c2 := B2.out.p.cell 2
    simp only [List.getElem?_toArray, List.getElem?_cons_zero, List.getElem?_cons_succ] at c0 c1 c2
    go_upto_region 4 with (go_at_call 10; (refine (WR.out _ B2.out.b).mono ?_); rintro e3 w3 ⟨rfl, hb⟩; have B3 := Lib.hid (B2.out.keep hb); clear hb)
    clear c0 c1 c2
    have c0 := B3.out.p.cell 0
    have c1 := B3.out.p.cell 1
    have c2 := B3.out.p.cell 2
    simp only [List.getElem?_toArray, List.getElem?_cons_zero, List.getElem?_cons_succ] at c0 c1 c2
    go_upto_region 5 with (go_at_call 11; (refine (RW.out _ B3.out.b).mono ?_); rintro e3 w3 ⟨rfl, hb⟩; have B4 := Lib.hid (B3.out.keep hb); clear hb)
    clear c0 c1 c2
    have c0 := B4.out.p.cell 0
    have c1 := B4.out.p.cell 1
    have c2 := B4.out.p.cell 2
    simp only [List.getElem?_toArray, List.getElem?_cons_zero, List.getElem?_cons_succ] at c0 c1 c2
    by_cases hq : r1 = 0
    · subst hq
      go_upto_region 6 with (go_at_call 12; (refine (NR.out _ B4.out.b rfl).mono ?_); rintro e4 w4 ⟨a, rfl, ha, _, hb⟩; have B5 := Lib.hid (And.intro (B4.out.keep hb) ha); clear ha hb)
      clear c0 c1 c2
      have c0 := B5.out.1.p.drew.cell 0
      have c1 := B5.out.1.p.drew.cell 1
      have c2 := B5.out.1.p.drew.cell 2
      simp only [List.getElem?_toArray, List.getElem?_cons_zero, List.getElem?_cons_succ] at c0 c1 c2
      have PT := Lib.hid (fun (v : World) (hb : Below w4.heap.size w4 v) => PA.out v a (B5.out.2.below hb))
      have LK := Lib.hid (fun (v : World) (hb : Below w4.heap.size w4 v) (va vma : Value) (ha : ProAt v va vma p) => LA.out v va vma ha (B5.out.1.b.trans (hb.mono B5.out.1.b.size)))
      have STB := Lib.hid (show Stab (fun v => ((v.cell? ⟨w.heap.size, 0, none⟩ = some (txt p.name) ∧ v.cell? ⟨w.heap.size, 1, none⟩ = some (.slice As p.states.length cs)) ∧ v.cell? ⟨w.heap.size, 2, none⟩ = some (.slice Am p.moves.length cm)) ∧ Below w4.heap.size w4 v) from stab_and (stab_and (stab_and (stab_cell _ _) (stab_cell _ _)) (stab_cell _ _)) (stab_below w4))
      have HS : ((w4.drew.cell? ⟨w.heap.size, 0, none⟩ = some (txt p.name) ∧ w4.drew.cell? ⟨w.heap.size, 1, none⟩ = some (.slice As p.states.length cs)) ∧ w4.drew.cell? ⟨w.heap.size, 2, none⟩ = some (.slice Am p.moves.length cm)) ∧ Below w4.heap.size w4 w4.drew := ⟨⟨⟨c0, c1⟩, c2⟩, belowD w4⟩
      clear c0 c1 c2
      refine wp_region_noPanic ?_
      refine wp_region_held_drew (S := (fun v => ((v.cell? ⟨w.heap.size, 0, none⟩ = some (txt p.name) ∧ v.cell? ⟨w.heap.size, 1, none⟩ = some (.slice As p.states.length cs)) ∧ v.cell? ⟨w.heap.size, 2, none⟩ = some (.slice Am p.moves.length cm)) ∧ Below w4.heap.size w4 v)) (by kernel_rfl) HS (fun hHeld => ?_)
      clear HS
      refine tkk 0 rfl ?_
      refine tkk 1 rfl ?_
      refine tkk 2 rfl ?_
      refine tkk 3 rfl ?_
      refine tkk 4 rfl ?_
      refine tkk 5 rfl ?_
      refine tkk 6 rfl ?_
      refine tkk 7 rfl ?_
      refine tkk 8 rfl ?_
      refine tkk 9 rfl ?_
      refine tkk 10 rfl ?_
      refine tkk 11 rfl ?_
      refine tkk 12 rfl ?_
      refine tkk 13 rfl ?_
      refine tkk 14 rfl ?_
      refine tkk 15 rfl ?_
      refine tkk 16 rfl ?_
      refine tkk 17 rfl ?_
      refine tkk 18 rfl ?_
      refine tkk 19 rfl ?_
      refine tkk 20 rfl ?_
      refine tkk 21 rfl ?_
      refine tkk 22 rfl ?_
      refine tkk 23 rfl ?_
      refine tkk 24 rfl ?_
      refine tkk 25 rfl ?_
      refine tkk 26 rfl ?_
      refine tkk 28 rfl ?_
      (try simp only [cl, Act.put])
      refine rd 27 rfl fun K hK => ?_
      go_simp
      (first
        | (go_at_call 14; (refine (PT.out _ hHeld.2).mono ?_); rintro e5 w5 ⟨vs5, vm5, rfl, hp5, hb⟩; have P5 := Lib.hid hp5; clear hp5)
        | (go_at_call 13; (refine (LK.out _ hHeld.2 _ _ P5.out).mono ?_); rintro e6 w6 ⟨rfl, hb⟩))
      go_wp2_with fail
      refine hK.out _ _ (STB.out _ _ hb (by with_reducible assumption)) (fun hH2 => ?_)
      clear hK K hHeld hb; have hHeld := hH2; clear hH2
      (try simp only [cl, Act.put])
      refine rd 29 rfl fun K hK => ?_
      go_simp
      (first
        | (go_at_call 14; (refine (PT.out _ hHeld.2).mono ?_); rintro e5 w5 ⟨vs5, vm5, rfl, hp5, hb⟩; have P5 := Lib.hid hp5; clear hp5)
        | (go_at_call 13; (refine (LK.out _ hHeld.2 _ _ P5.out).mono ?_); rintro e6 w6 ⟨rfl, hb⟩))
      go_wp2_with fail
      refine hK.out _ _ (STB.out _ _ hb (by with_reducible assumption)) (fun hH2 => ?_)
      clear hK K hHeld hb; have hHeld := hH2; clear hH2
      (try simp only [cl, Act.put])
      refine tkk 30 rfl ?_
      refine tkk 31 rfl ?_
      refine tkk 32 rfl ?_
      (try simp only [cl, Act.put])
      refine wpAnyH_done (by kernel_rfl) ?_ _
      refine NoPanic.normal ?_
      go_wp2_with fail
      go_ret
      exact ⟨rfl, B5.out.1.b.trans (hHeld.2.mono B5.out.1.b.size)⟩
    · have t1 : (r1 == 0) = false := beq_eq_false_iff_ne.mpr hq
      have HQ := Lib.hid hq
      clear hq
      go_upto_region 6 with (go_at_call 12; (refine (NW.out _ B4.out.b HQ.out).mono ?_); rintro e4 w4 ⟨rfl, hb⟩; have B5 := Lib.hid (B4.out.keep hb); clear hb)
      clear c0 c1 c2
      have c0 := B5.out.p.drew.cell 0
      have c1 := B5.out.p.drew.cell 1
      have c2 := B5.out.p.drew.cell 2
      simp only [List.getElem?_toArray, List.getElem?_cons_zero, List.getElem?_cons_succ] at c0 c1 c2
      have STB := Lib.hid (show Stab (fun v => ((v.cell? ⟨w.heap.size, 0, none⟩ = some (txt p.name) ∧ v.cell? ⟨w.heap.size, 1, none⟩ = some (.slice As p.states.length cs)) ∧ v.cell? ⟨w.heap.size, 2, none⟩ = some (.slice Am p.moves.length cm)) ∧ Below w4.heap.size w4 v) from stab_and (stab_and (stab_and (stab_cell _ _) (stab_cell _ _)) (stab_cell _ _)) (stab_below w4))
      have HS : ((w4.drew.cell? ⟨w.heap.size, 0, none⟩ = some (txt p.name) ∧ w4.drew.cell? ⟨w.heap.size, 1, none⟩ = some (.slice As p.states.length cs)) ∧ w4.drew.cell? ⟨w.heap.size, 2, none⟩ = some (.slice Am p.moves.length cm)) ∧ Below w4.heap.size w4 w4.drew := ⟨⟨⟨c0, c1⟩, c2⟩, belowD w4⟩
      clear c0 c1 c2
      refine wp_region_noPanic ?_
      refine wp_region_held_drew (S := (fun v => ((v.cell? ⟨w.heap.size, 0, none⟩ = some (txt p.name) ∧ v.cell? ⟨w.heap.size, 1, none⟩ = some (.slice As p.states.length cs)) ∧ v.cell? ⟨w.heap.size, 2, none⟩ = some (.slice Am p.moves.length cm)) ∧ Below w4.heap.size w4 v)) (by kernel_rfl) HS (fun hHeld => ?_)
      clear HS
      refine tkk 0 rfl ?_
      refine tkk 1 rfl ?_
      refine tkk 2 rfl ?_
      refine tkk 3 rfl ?_
      refine tkk 4 rfl ?_
      refine tkk 5 rfl ?_
      refine tkk 6 rfl ?_
      refine tkk 7 rfl ?_
      refine tkk 8 rfl ?_
      refine tkk 9 rfl ?_
      refine tkk 10 rfl ?_
      refine tkk 11 rfl ?_
      refine tkk 12 rfl ?_
      refine tkk 13 rfl ?_
      refine tkk 14 rfl ?_
      refine tkk 15 rfl ?_
      refine tkk 16 rfl ?_
      refine tkk 17 rfl ?_
      refine tkk 18 rfl ?_
      refine tkk 19 rfl ?_
      refine tkk 20 rfl ?_
      refine tkk 21 rfl ?_
      refine tkk 22 rfl ?_
      refine tkk 23 rfl ?_
      refine tkk 24 rfl ?_
      refine tkk 25 rfl ?_
      refine txk 26 rfl ?_
      refine txk 27 rfl ?_
      refine txk 28 rfl ?_
      refine txk 29 rfl ?_
      refine tkk 30 rfl ?_
      refine tkk 31 rfl ?_
      refine tkk 32 rfl ?_
      (try simp only [cl, Act.put])
      refine wpAnyH_done (by kernel_rfl) ?_ _
      refine NoPanic.normal ?_
      go_wp2_with fail
      go_ret
      exact ⟨rfl, B5.out.b.trans (hHeld.2.mono B5.out.b.size)⟩
  · rw [decide_eq_false hs] at SM
    clear hs
    go_enter Try.func3, Try.ntmps3
    go_upto_region 1 with fail
    generalize (w.alloc (.cells #[txt p.name, .slice As p.states.length cs, .slice Am p.moves.length cm] 25)) = W0 at *
    go_upto_region 2 with (first
      | (go_at_call 8; (refine (AW.out _).mono ?_); rintro e1 w1 ⟨rfl, hb⟩; have B1 := Lib.hid (S0.out.keep hb); clear hb; have c0 := B1.out.p.cell 0; have c1 := B1.out.p.cell 1; have c2 := B1.out.p.cell 2; simp only [List.getElem?_toArray, List.getElem?_cons_zero, List.getElem?_cons_succ] at c0 c1 c2)
      | (go_at_call 9; (refine (SM.out _ B1.out.b).mono ?_); rintro e2 w2 ⟨rfl, hb⟩; have B2 := Lib.hid (B1.out.keep hb); clear hb))
    go_wp2_with (go_at_call 8; (refine (AW.out _).mono ?_); rintro e3 w3 ⟨rfl, hb⟩)
    go_ret
    exact ⟨rfl, B2.out.b.trans (hb.mono B2.out.b.size)⟩
end Go.Proofs.Ytopokobifbcdbaa
