/-
  The walk of the statement AutoKeeps. (Template: by-name.py fills it; gen/genAutKe.py writes it.)
-/
import Derived.Test.YtgfenklcelfkiaaAutKc
import Derived.Test.YtgfenklcelfkiaaAutOc
import Derived.Test.YtgfenklcelfkiaaAutSt
namespace Go.Proofs.Ytgfenklcelfkiaa
open Go.RowKit

set_option maxRecDepth 100000 in
set_option maxHeartbeats 16000000 in
theorem autokeeps_nat (w : World) (vs vm : Value) (p : Pro) (h : ProAt w vs vm p) (hr : RchP p) (x : Nat) (hx : x < 4294967296) :
    Calls Try.prog 5 #[proV vs vm p, .int .u32 (x : Int)] w fun e w' => e = .returned (.bool true) ∧ Below w.heap.size w w' := by
  have HP := Lib.hid (fun (v : World) (hb : Below w.heap.size w v) => h.below hb)
  have SM := Lib.hid (fun (v : World) (hb : Below w.heap.size w v) => rsmall_any v _ _ p (h.below hb) hr.cnt)
  have HPS := Lib.hid h.states
  obtain ⟨As, cs, rfl, _⟩ := h.states.len
  obtain ⟨rs, hm, Am, cm, rfl, _, _, hM, hE⟩ := h.moves
  have hml := moves_len hm
  have AW := Lib.hid (fun (v : World) => awake_yes v)
  have a1 := below_alloc1 w (.cells #[txt p.name, .slice As p.states.length cs, .slice Am rs.length cm] 25)
  have B1 := Blk.start w #[txt p.name, .slice As p.states.length cs, .slice Am rs.length cm] 25
  have S0 := Lib.hid (WrS.mk B1 a1)
  have HR := Lib.hid hr
  have HO := Lib.hid (And.intro hM (And.intro hE (And.intro hm (And.intro hml hx))))
  clear h hr a1 B1 hM hE hm hml hx
  by_cases hs : sizeP p ≤ 80
  · rw [decide_eq_true hs] at SM
    have hz := HR.out.sz hs
    have HZ := Lib.hid hz
    have RW := Lib.hid (fun (v : World) (hb : Below w.heap.size w v) => rwrong_any v _ _ p (HP.out v hb) hz)
    have NR := Lib.hid (fun (v : World) (hb : Below w.heap.size w v) => new_right v _ _ p (HP.out v hb) hz)
    have NW := Lib.hid (fun (v : World) (hb : Below w.heap.size w v) => new_wrong v _ _ p (HP.out v hb) hz)
    have WN := Lib.hid (fun h => wrong_none (p := p) h)
    generalize wrongP p = R at *
    obtain ⟨r1, r2⟩ := R
    dsimp only at RW NR NW WN
    clear hs hz
    go_enter Try.func5, Try.ntmps5
    go_upto_region 1 with fail
    generalize (w.alloc (.cells #[txt p.name, .slice As p.states.length cs, .slice Am rs.length cm] 25)) = W0 at *
    go_upto_region 3 with (first
      | (go_at_call 6; (refine (AW.out _).mono ?_); rintro e1 w1 ⟨rfl, hb⟩; have B1 := Lib.hid (S0.out.keep hb); clear hb; have c0 := B1.out.p.cell 0; have c1 := B1.out.p.cell 1; have c2 := B1.out.p.cell 2; simp only [List.getElem?_toArray, List.getElem?_cons_zero, List.getElem?_cons_succ] at c0 c1 c2)
      | (go_at_call 7; (refine (SM.out _ B1.out.b).mono ?_); rintro e2 w2 ⟨rfl, hb⟩; have B2 := Lib.hid (B1.out.keep hb); clear hb))
    clear c0 c1 c2
    have c0 := B2.out.p.cell 0
    have c1 := B2.out.p.cell 1
    have c2 := B2.out.p.cell 2
    simp only [List.getElem?_toArray, List.getElem?_cons_zero, List.getElem?_cons_succ] at c0 c1 c2
    by_cases hq : r1 = 0
    · subst hq
      obtain ⟨hf, hn0, hn, h1, hfm, hgo⟩ := WN.out rfl
      have HF := Lib.hid (And.intro hf (And.intro hn (And.intro h1 (And.intro hfm (And.intro hn0 hgo)))))
      clear hf hn0 hn h1 hfm hgo
      go_upto_region 4 with (go_at_call 8; (refine (NR.out _ B2.out.b rfl).mono ?_); rintro e4 w4 ⟨a, rfl, ha, _, hb⟩; have B3 := Lib.hid (LwS.mk (B2.out.p.keep hb) ha (B2.out.b.trans (hb.mono B2.out.b.size))); clear ha hb)
      clear c0 c1 c2
      have c0 := B3.out.p.cell 0
      have c1 := B3.out.p.cell 1
      have c2 := B3.out.p.cell 2
      simp only [List.getElem?_toArray, List.getElem?_cons_zero, List.getElem?_cons_succ] at c0 c1 c2
      go_upto_region 5 with (go_at_call 9; (refine (RW.out _ B3.out.b).mono ?_); rintro e3 w3 ⟨rfl, hb⟩; have B4 := Lib.hid (B3.out.keep hb); clear hb)
      clear c0 c1 c2
      have nn : (binOp .eql 28 (.pointer (some ⟨a, 0, none⟩)) (.pointer none)).run Try.prog w3 = .ok (.bool false) w3 := by kernel_rfl
      clear RW NR NW WN SM AW
      have SX0 := Lib.hid (fun (v : World) (ha : AutAt v a p) (S : Nat) (hS : S < 4294967296) (op nm : List UInt8) => step_any v a p ha HZ.out HF.out.1 HF.out.2.1 S hS op nm)
      have KX := Lib.hid (fun (v : World) (ha : AutAt v a p) (op : List UInt8) => keeps_any v a p ha HZ.out HF.out.1 HF.out.2.1 op)
      have EX := Lib.hid (fun (v : World) (ha : AutAt v a p) (op : List UInt8) => enabled_any v a p ha HZ.out HF.out.1 HF.out.2.1 op)
      have OX := Lib.hid (fun (v : World) (ha : AutAt v a p) (op : List UInt8) => outcomes_any v a p ha HZ.out op)
      go_wp2_with fail
      go_loopg [9] rs.length (fun g v9 wr => ∃ i : Nat, v9 = .int .i64 i ∧ i ≤ rs.length ∧ g = rs.length - i ∧ LwS w wr w.heap.size #[txt p.name, .slice As p.states.length cs, .slice Am rs.length cm] a p)
      case atStart => exact ⟨0, rfl, Nat.zero_le _, rfl, B4.out⟩
      case round =>
        obtain ⟨i, rfl, hi, hg, hL⟩ := hrel
        have c2 := hL.p.cell 2
        simp only [List.getElem?_toArray, List.getElem?_cons_zero, List.getElem?_cons_succ] at c2
        by_cases hin : i = rs.length
        · have j1 : decide (i < rs.length) = false := decide_eq_false (by omega)
          have FINL := Lib.hid hL
          clear hi hg hL hin
          go_wp2_with fail
          go_ret
          exact ⟨rfl, FINL.out.b⟩
        · have hlt : i < rs.length := by omega
          obtain ⟨mv, hmv⟩ : ∃ mv, rs[i]? = some mv := ⟨_, List.getElem?_eq_getElem hlt⟩
          obtain ⟨am, rfl, d0, d1, d2⟩ := sl_cell3 mvC_len HO.out.1 hL.b hmv (by omega)
          unfold mvC at d0 d1 d2
          simp only [List.getElem?_cons_zero, List.getElem?_cons_succ] at d0 d1 d2
          obtain ⟨vo, op, at_, outs⟩ := mv
          dsimp only at d0
          have j1 : (i : Int) < (rs.length : Int) := by omega
          have j2 : (0 : Int) ≤ (i : Int) := by omega
          have wi : IntKind.i64.wrap ((i : Int) + 1) = (i : Int) + 1 := IntWalk.i64_in _ (by have := HZ.out.mv; have := HO.out.2.2.2.1; omega)
          have hke := keS_lt HF.out.1 HF.out.2.1 op
          have hen := enS_lt HF.out.1 HF.out.2.1 op
          have hnd := u32_and_nat x (keS p op) HO.out.2.2.2.2 hke
          have hoff := u32_off hke hen (keeps_in p op)
          have hkl : x &&& keS p op < 4294967296 := Nat.lt_of_le_of_lt Nat.and_le_left HO.out.2.2.2.2
          have SO := Lib.hid (fun (nm : List UInt8) => u32_off (step_lt HF.out.1 HF.out.2.1 (x &&& keS p op) op nm) hkl (step_keeps HF.out.1 HF.out.2.2.1 x op nm))
          have ol := Lib.hid (show (outcomesL p op).length ≤ 6400 from by
            have := outMs_len op p.moves [] HZ.out.out
            have := HZ.out.mv
            unfold outcomesL
            simp only [List.length_nil] at *
            omega)
          have KA := Lib.hid (fun (v : World) (hb : Below wr.heap.size wr v) => KX.out v (hL.a.below hb) op)
          have KB0 := Lib.hid (fun (v : World) (hb : Below wr.heap.size wr v) => KX.out v (hL.a.below hb) op)
          have EB0 := Lib.hid (fun (v : World) (hb : Below wr.heap.size wr v) => EX.out v (hL.a.below hb) op)
          have OB0 := Lib.hid (fun (v : World) (hb : Below wr.heap.size wr v) => OX.out v (hL.a.below hb) op)
          have HKL := Lib.hid hkl
          generalize keS p op = ke at *
          generalize enS p op = en at *
          generalize x &&& ke = kept at *
          have HI := Lib.hid (And.intro hlt (And.intro hg hL))
          clear hin hlt hi hg hL hmv hke hen hkl d1 d2
          go_upto_region 14 with (go_at_call 18; (refine (KA.out _ (Below.refl _ _)).mono ?_); rintro e5 w5 ⟨rfl, hb⟩; have H5 := Lib.hid hb; clear hb)
          clear c2 d0
          go_upto_region 16 with (first
            | (go_at_call 18; (refine (KA.out _ H5.out).mono ?_); rintro e6 w6 ⟨rfl, hb⟩; have H6 := Lib.hid (H5.out.trans (hb.mono H5.out.size)); clear hb)
            | (go_at_call 17; (refine (EB0.out _ H6.out).mono ?_); rintro e7 w7 ⟨rfl, hb⟩; have H7 := Lib.hid (H6.out.trans (hb.mono H6.out.size)); clear hb))
          go_upto_region 17 with (go_at_call 15; (refine (OB0.out _ H7.out).mono ?_); rintro e8 w8 ⟨v, rfl, hO, hb⟩; have H8 := Lib.hid (And.intro (HI.out.2.2.keep (H7.out.trans (hb.mono H7.out.size))) hO); clear hb hO)
          obtain ⟨Av, cv, e9⟩ := own_shape H8.out.2
          subst e9
          clear KA KB0 EB0 OB0 H5 H6 H7 hnd hoff
          generalize hL : outcomesL p op = OL at *
          clear hL
          generalize w7.heap.size = b0 at *
          generalize wr = wq at *
          go_wp2_with fail
          go_loopg [13] OL.length (fun g v13 wr => ∃ k : Nat, v13 = .int .i64 k ∧ k ≤ OL.length ∧ g = OL.length - k ∧ LwS w wr w.heap.size #[txt p.name, .slice As p.states.length cs, .slice (some am) rs.length cm] a p ∧ TxtOwn wr b0 (.slice Av OL.length cv) OL)
          case atStart => exact ⟨0, rfl, Nat.zero_le _, rfl, H8.out.1, H8.out.2⟩
          case round =>
            obtain ⟨k, rfl, hk, hg, hL, hO⟩ := hrel
            by_cases hkn : k = OL.length
            · have j3 : decide (k < OL.length) = false := decide_eq_false (by omega)
              have NX := Lib.hid hL
              clear hk hg hL hO hkn
              go_wp2_with fail
              go_roundg (rs.length - (i + 1))
              case measure => have := HI.out.1; have := HI.out.2.1; omega
              case rel => exact ⟨i + 1, by push_cast; rfl, HI.out.1, rfl, NX.out⟩
            · have hlt : k < OL.length := by omega
              obtain ⟨xn, hx⟩ : ∃ xn, OL[k]? = some xn := ⟨_, List.getElem?_eq_getElem hlt⟩
              obtain ⟨g, cp, e3, _⟩ := World.ownsRow.form hO (by omega)
              injection e3 with e3 _ e4
              subst e3 e4
              have d0 := (World.ownsRow.cellAt hO k (by omega)).trans (show (OL.map txt)[k]? = some (txt xn) by rw [List.getElem?_map, hx]; rfl)
              have j3 : (k : Int) < (OL.length : Int) := by omega
              have j4 : (0 : Int) ≤ (k : Int) := by omega
              have wk : IntKind.i64.wrap ((k : Int) + 1) = (k : Int) + 1 := IntWalk.i64_in _ (by have := ol.out; omega)
              have so := SO.out xn
              have SC := Lib.hid (SX0.out wr hL.a kept HKL.out op xn)
              have HK := Lib.hid (And.intro hlt (And.intro hg (And.intro hL hO)))
              clear hkn hlt hk hg hL hO hx
              generalize stepS p kept op xn = sx at *
              go_wp2_with (go_at_call 23; (refine SC.out.mono ?_); rintro e9 w9 ⟨rfl, hb⟩; have H9 := Lib.hid hb; clear hb)
              go_roundg (OL.length - (k + 1))
              case measure => have := HK.out.1; have := HK.out.2.1; omega
              case rel => exact ⟨k + 1, by push_cast; rfl, HK.out.1, rfl, HK.out.2.2.1.keep H9.out, ownRow_below HK.out.2.2.2 H9.out⟩
    · have t1 : (r1 != 0) = true := by rw [bne_iff_ne]; exact hq
      have t2 : (r1 == 0) = false := beq_eq_false_iff_ne.mpr hq
      have HQ := Lib.hid hq
      clear hq
      go_upto_region 4 with (go_at_call 8; (refine (NW.out _ B2.out.b HQ.out).mono ?_); rintro e4 w4 ⟨rfl, hb⟩; have B3 := Lib.hid (B2.out.keep hb); clear hb)
      clear c0 c1 c2
      have c0 := B3.out.p.cell 0
      have c1 := B3.out.p.cell 1
      have c2 := B3.out.p.cell 2
      simp only [List.getElem?_toArray, List.getElem?_cons_zero, List.getElem?_cons_succ] at c0 c1 c2
      go_wp2_with (go_at_call 9; (refine (RW.out _ B3.out.b).mono ?_); rintro e3 w3 ⟨rfl, hb⟩; have B4 := Lib.hid (B3.out.keep hb); clear hb)
      go_ret
      exact ⟨rfl, B4.out.b⟩
  · rw [decide_eq_false hs] at SM
    clear hs
    go_enter Try.func5, Try.ntmps5
    go_upto_region 1 with fail
    generalize (w.alloc (.cells #[txt p.name, .slice As p.states.length cs, .slice Am rs.length cm] 25)) = W0 at *
    go_upto_region 2 with (first
      | (go_at_call 6; (refine (AW.out _).mono ?_); rintro e1 w1 ⟨rfl, hb⟩; have B1 := Lib.hid (S0.out.keep hb); clear hb; have c0 := B1.out.p.cell 0; have c1 := B1.out.p.cell 1; have c2 := B1.out.p.cell 2; simp only [List.getElem?_toArray, List.getElem?_cons_zero, List.getElem?_cons_succ] at c0 c1 c2)
      | (go_at_call 7; (refine (SM.out _ B1.out.b).mono ?_); rintro e2 w2 ⟨rfl, hb⟩; have B2 := Lib.hid (B1.out.keep hb); clear hb))
    go_wp2_with (go_at_call 6; (refine (AW.out _).mono ?_); rintro e3 w3 ⟨rfl, hb⟩)
    go_ret
    exact ⟨rfl, B2.out.b.trans (hb.mono B2.out.b.size)⟩

theorem autokeeps_any (w : World) (vs vm : Value) (p : Pro) (h : ProAt w vs vm p) (hr : RchP p) (x : Int) (hx : (Lit.int .u32 x).wf = true) :
    Calls Try.prog 5 #[proV vs vm p, .int .u32 x] w fun e w' => e = .returned (.bool true) ∧ Below w.heap.size w w' := by
  obtain ⟨a, rfl, ha⟩ := u32_nat hx
  exact autokeeps_nat w vs vm p h hr a ha
end Go.Proofs.Ytgfenklcelfkiaa
