/-
  The walk of the reference's Set. (Template: by-name.py fills it; gen/genAutTf.py writes it.)
-/
import Derived.Test.YtgfenklcelfkiaaAutTe
namespace Go.Proofs.Ytgfenklcelfkiaa
open Go.RowKit

/-- Do all of the first outcomes stay? -/
def stayB (i : Nat) (l : List Ou) (q : Nat) : Bool := decide (0 < l.length) && allTo i (l.take q)
theorem stay_next {i q : Nat} {l : List Ou} {o : Ou} (h : l[q]? = some o) : stayB i l (q + 1) = (stayB i l q && (o.to == (i : Int))) := by
  unfold stayB allTo
  rw [List.take_add_one, h, List.all_append, Bool.and_assoc]
  simp
set_option maxRecDepth 100000 in
set_option maxHeartbeats 16000000 in
theorem rset0_any (w : World) (vs vm : Value) (p : Pro) (h : ProAt w vs vm p) (hz : SzP p) (hn : p.states.length ≤ 16) (op : List UInt8) :
    Calls Try.prog 14 #[proV vs vm p, .int .i64 0, txt op] w fun e w' => e = .returned (.int .u32 ((setF (setB p op 0) p.states.length : Nat) : Int)) ∧ Below w.heap.size w w' := by
  have RO := Lib.hid (fun (v : World) (hb : Below w.heap.size w v) (i : Int) => routs_any v vs vm p (h.below hb) hz.mv i op)
  obtain ⟨As, cs, rfl, _, _, hS, _⟩ := h.states
  obtain ⟨Am, cm, rfl, _⟩ := h.moves.len
  have a1 := below_alloc1 w (.cells #[txt p.name, .slice As p.states.length cs, .slice Am p.moves.length cm] 25)
  have B1 := Blk.start w #[txt p.name, .slice As p.states.length cs, .slice Am p.moves.length cm] 25
  have S0 := Lib.hid (WrS.mk B1 a1)
  have HO := Lib.hid (And.intro hS (And.intro hz hn))
  clear h hS hz hn a1 B1
  go_enter Try.func14, Try.ntmps14
  go_upto_region 1 with fail
  generalize w.alloc (.cells #[txt p.name, .slice As p.states.length cs, .slice Am p.moves.length cm] 25) = W at *
  have c1 := S0.out.p.cell 1
  simp only [List.getElem?_toArray, List.getElem?_cons_zero, List.getElem?_cons_succ] at c1
  have w0 : IntKind.i64.wrap ((p.states.length : Int) - 1) = (p.states.length : Int) - 1 := IntWalk.i64_in _ (by have := HO.out.2.2; omega)
  go_wp2_with fail
  clear c1
  go_loopg [7, 8] p.states.length (fun g v7 v8 wr => ∃ j V : Nat, v7 = .int .u32 (V : Int) ∧ v8 = .int .i64 ((j : Int) - 1) ∧ j ≤ p.states.length ∧ g = j ∧ Upper (setB p op 0) p.states.length j V ∧ WrS w wr w.heap.size #[txt p.name, .slice As p.states.length cs, .slice Am p.moves.length cm])
  case atStart => exact ⟨p.states.length, 0, rfl, rfl, Nat.le_refl _, rfl, upper_start _ _, S0.out⟩
  case round =>
    obtain ⟨j, V, rfl, rfl, hj, hg, hU, hW⟩ := hrel
    cases j with
    | zero =>
      have FIN := Lib.hid (And.intro (upper_end hU) hW.b)
      have t0 : decide ((0 : Int) ≤ ((0 : Nat) : Int) - 1) = false := by decide
      clear hj hg hU hW
      go_wp2_with fail
      go_ret
      exact ⟨by rw [← FIN.out.1]; rfl, FIN.out.2⟩
    | succ i =>
      rw [show (((i + 1 : Nat) : Int) - 1) = (i : Int) by omega]
      have hlt : i < p.states.length := by omega
      have t0 : (0 : Int) ≤ (i : Int) := by omega
      have t1 : (i : Int) < (p.states.length : Int) := by omega
      have wi : IntKind.i64.wrap ((i : Int) - 1) = (i : Int) - 1 := IntWalk.i64_in _ (by have := HO.out.2.2; omega)
      have hv := upper_lt hU HO.out.2.2
      obtain ⟨x, hs⟩ : ∃ x, p.states[i]? = some x := ⟨_, List.getElem?_eq_getElem hlt⟩
      have RC := Lib.hid (RO.out wr hW.b (i : Int))
      have OL2 := Lib.hid (show (outsOf p.moves (i : Int) op).length ≤ 80 from by
        unfold outsOf
        split
        · rename_i m he
          exact HO.out.2.1.out m (List.mem_of_find?_eq_some he)
        · exact Nat.zero_le _)
      have c0 := hW.p.cell 0
      have c1 := hW.p.cell 1
      have c2 := hW.p.cell 2
      simp only [List.getElem?_toArray, List.getElem?_cons_zero, List.getElem?_cons_succ] at c0 c1 c2
      obtain ⟨ad, eA, _, d1⟩ := sl_cell2 stC_len HO.out.1 hW.b hs (by omega)
      subst eA
      unfold stC at d1
      simp only [List.getElem?_cons_succ, List.getElem?_cons_zero] at d1
      have FE := Lib.hid (show setB p op 0 i = x.final from by show finalAt p i = _; unfold finalAt; rw [hs])
      have US := Lib.hid (upper_step hU hlt)
      obtain ⟨V2, hV2⟩ : ∃ V2, V2 = V * 2 := ⟨_, rfl⟩
      obtain ⟨V3, hV3⟩ : ∃ V3, V3 = V2 + 1 := ⟨_, rfl⟩
      have m1 : (V : Int) * 2 % 4294967296 = (V2 : Int) := by omega
      have m2 : ((V2 : Int) + 1) % 4294967296 = (V3 : Int) := by omega
      rw [← hV2] at US
      have HV3 := Lib.hid hV3
      have HI := Lib.hid (And.intro hlt (And.intro hg (And.intro hU (And.intro hW hv))))
      clear hlt hg hU hW hv hj hs hV2 hV3
      generalize outsOf p.moves (i : Int) op = l at *
      go_upto_region 7 with (go_at_call 21; (refine RC.out.mono ?_); rintro e w1 ⟨Al, cl, rfl, ho, hb⟩; have H1 := Lib.hid (And.intro ho (HI.out.2.2.2.1.keep hb)); have D1 := Lib.hid hb; clear ho hb)
      have s0 := Lib.hid (show stayB i l 0 = decide (0 < l.length) from by unfold stayB allTo; simp)
      go_wp2_with fail
      go_loopg [10, 11] l.length (fun g v10 v11 wr => ∃ q : Nat, v11 = .int .i64 q ∧ v10 = .bool (stayB i l q) ∧ q ≤ l.length ∧ g = l.length - q ∧ wr = w1)
      case atStart => exact ⟨0, rfl, by rw [s0.out], Nat.zero_le _, rfl, rfl⟩
      case round =>
        obtain ⟨q, rfl, rfl, hq, hg, rfl⟩ := hrel
        by_cases hqn : q = l.length
        · have j3 : decide (q < l.length) = false := decide_eq_false (by omega)
          rw [hqn]
          rw [hqn] at j3
          have c1 := H1.out.2.p.cell 1
          simp only [List.getElem?_toArray, List.getElem?_cons_zero, List.getElem?_cons_succ] at c1
          obtain ⟨xn, xf⟩ := x
          have dd := keep_any D1.out d1
          dsimp only at dd FE
          generalize stayB i l l.length = T at *
          clear hq hg hqn
          cases xf
          · clear d1
            have US2 := Lib.hid (show Upper (setB p op 0) p.states.length i V2 from by have := US.out; rw [FE.out] at this; exact this)
            go_wp2_with fail
            go_roundg i
            case measure => have := HI.out.2.1; omega
            case rel => exact ⟨i, V2, rfl, rfl, by have := HI.out.1; omega, rfl, US2.out, H1.out.2⟩
          · clear d1
            have US2 := Lib.hid (show Upper (setB p op 0) p.states.length i V3 from by have := US.out; rw [FE.out] at this; rw [HV3.out]; exact this)
            go_wp2_with fail
            go_roundg i
            case measure => have := HI.out.2.1; omega
            case rel => exact ⟨i, V3, by rw [HV3.out]; push_cast; rfl, rfl, by have := HI.out.1; omega, rfl, US2.out, H1.out.2⟩
        · have hlt : q < l.length := by omega
          obtain ⟨x, hx⟩ : ∃ x, l[q]? = some x := ⟨_, List.getElem?_eq_getElem hlt⟩
          obtain ⟨A', c', e', _, _, hr, _⟩ := H1.out.1
          injection e' with e1 e2 e3
          obtain ⟨ao, ea, _, d1⟩ := sl_cell2 ouC_len hr (Below.refl _ _) hx (by omega)
          subst e1
          subst ea
          clear e2 e3
          unfold ouC at d1
          simp only [List.getElem?_cons_zero, List.getElem?_cons_succ] at d1
          have nx := Lib.hid (stay_next (i := i) hx)
          have j3 : (q : Int) < (l.length : Int) := by omega
          have j4 : (0 : Int) ≤ (q : Int) := by omega
          have wk : IntKind.i64.wrap ((q : Int) + 1) = (q : Int) + 1 := IntWalk.i64_in _ (by have := OL2.out; omega)
          have HK := Lib.hid (And.intro hlt hg)
          clear hqn hlt hq hg hx hr
          generalize stayB i l q = T at *
          cases T
          · go_wp2_with fail
            go_roundg (l.length - (q + 1))
            case measure => have := HK.out.1; have := HK.out.2; omega
            case rel => exact ⟨q + 1, by push_cast; rfl, by rw [nx.out]; rfl, HK.out.1, rfl, rfl⟩
          · go_wp2_with fail
            go_roundg (l.length - (q + 1))
            case measure => have := HK.out.1; have := HK.out.2; omega
            case rel => exact ⟨q + 1, by push_cast; rfl, by rw [nx.out]; rfl, HK.out.1, rfl, rfl⟩
set_option maxRecDepth 100000 in
set_option maxHeartbeats 16000000 in
theorem rset1_any (w : World) (vs vm : Value) (p : Pro) (h : ProAt w vs vm p) (hz : SzP p) (hn : p.states.length ≤ 16) (op : List UInt8) :
    Calls Try.prog 14 #[proV vs vm p, .int .i64 1, txt op] w fun e w' => e = .returned (.int .u32 ((setF (setB p op 1) p.states.length : Nat) : Int)) ∧ Below w.heap.size w w' := by
  have RO := Lib.hid (fun (v : World) (hb : Below w.heap.size w v) (i : Int) => routs_any v vs vm p (h.below hb) hz.mv i op)
  obtain ⟨As, cs, rfl, _, _, hS, _⟩ := h.states
  obtain ⟨Am, cm, rfl, _⟩ := h.moves.len
  have a1 := below_alloc1 w (.cells #[txt p.name, .slice As p.states.length cs, .slice Am p.moves.length cm] 25)
  have B1 := Blk.start w #[txt p.name, .slice As p.states.length cs, .slice Am p.moves.length cm] 25
  have S0 := Lib.hid (WrS.mk B1 a1)
  have HO := Lib.hid (And.intro hS (And.intro hz hn))
  clear h hS hz hn a1 B1
  go_enter Try.func14, Try.ntmps14
  go_upto_region 1 with fail
  generalize w.alloc (.cells #[txt p.name, .slice As p.states.length cs, .slice Am p.moves.length cm] 25) = W at *
  have c1 := S0.out.p.cell 1
  simp only [List.getElem?_toArray, List.getElem?_cons_zero, List.getElem?_cons_succ] at c1
  have w0 : IntKind.i64.wrap ((p.states.length : Int) - 1) = (p.states.length : Int) - 1 := IntWalk.i64_in _ (by have := HO.out.2.2; omega)
  go_wp2_with fail
  clear c1
  go_loopg [7, 8] p.states.length (fun g v7 v8 wr => ∃ j V : Nat, v7 = .int .u32 (V : Int) ∧ v8 = .int .i64 ((j : Int) - 1) ∧ j ≤ p.states.length ∧ g = j ∧ Upper (setB p op 1) p.states.length j V ∧ WrS w wr w.heap.size #[txt p.name, .slice As p.states.length cs, .slice Am p.moves.length cm])
  case atStart => exact ⟨p.states.length, 0, rfl, rfl, Nat.le_refl _, rfl, upper_start _ _, S0.out⟩
  case round =>
    obtain ⟨j, V, rfl, rfl, hj, hg, hU, hW⟩ := hrel
    cases j with
    | zero =>
      have FIN := Lib.hid (And.intro (upper_end hU) hW.b)
      have t0 : decide ((0 : Int) ≤ ((0 : Nat) : Int) - 1) = false := by decide
      clear hj hg hU hW
      go_wp2_with fail
      go_ret
      exact ⟨by rw [← FIN.out.1]; rfl, FIN.out.2⟩
    | succ i =>
      rw [show (((i + 1 : Nat) : Int) - 1) = (i : Int) by omega]
      have hlt : i < p.states.length := by omega
      have t0 : (0 : Int) ≤ (i : Int) := by omega
      have t1 : (i : Int) < (p.states.length : Int) := by omega
      have wi : IntKind.i64.wrap ((i : Int) - 1) = (i : Int) - 1 := IntWalk.i64_in _ (by have := HO.out.2.2; omega)
      have hv := upper_lt hU HO.out.2.2
      obtain ⟨x, hs⟩ : ∃ x, p.states[i]? = some x := ⟨_, List.getElem?_eq_getElem hlt⟩
      have RC := Lib.hid (RO.out wr hW.b (i : Int))
      have OL2 := Lib.hid (show (outsOf p.moves (i : Int) op).length ≤ 80 from by
        unfold outsOf
        split
        · rename_i m he
          exact HO.out.2.1.out m (List.mem_of_find?_eq_some he)
        · exact Nat.zero_le _)
      have c0 := hW.p.cell 0
      have c1 := hW.p.cell 1
      have c2 := hW.p.cell 2
      simp only [List.getElem?_toArray, List.getElem?_cons_zero, List.getElem?_cons_succ] at c0 c1 c2
      have FE := Lib.hid (show setB p op 1 i = decide (0 < (outsOf p.moves (i : Int) op).length) from rfl)
      have US := Lib.hid (upper_step hU hlt)
      obtain ⟨V2, hV2⟩ : ∃ V2, V2 = V * 2 := ⟨_, rfl⟩
      obtain ⟨V3, hV3⟩ : ∃ V3, V3 = V2 + 1 := ⟨_, rfl⟩
      have m1 : (V : Int) * 2 % 4294967296 = (V2 : Int) := by omega
      have m2 : ((V2 : Int) + 1) % 4294967296 = (V3 : Int) := by omega
      rw [← hV2] at US
      have HV3 := Lib.hid hV3
      have HI := Lib.hid (And.intro hlt (And.intro hg (And.intro hU (And.intro hW hv))))
      clear hlt hg hU hW hv hj hs hV2 hV3
      generalize outsOf p.moves (i : Int) op = l at *
      go_upto_region 7 with (go_at_call 21; (refine RC.out.mono ?_); rintro e w1 ⟨Al, cl, rfl, ho, hb⟩; have H1 := Lib.hid (And.intro ho (HI.out.2.2.2.1.keep hb)); have D1 := Lib.hid hb; clear ho hb)
      have s0 := Lib.hid (show stayB i l 0 = decide (0 < l.length) from by unfold stayB allTo; simp)
      go_wp2_with fail
      go_loopg [10, 11] l.length (fun g v10 v11 wr => ∃ q : Nat, v11 = .int .i64 q ∧ v10 = .bool (stayB i l q) ∧ q ≤ l.length ∧ g = l.length - q ∧ wr = w1)
      case atStart => exact ⟨0, rfl, by rw [s0.out], Nat.zero_le _, rfl, rfl⟩
      case round =>
        obtain ⟨q, rfl, rfl, hq, hg, rfl⟩ := hrel
        by_cases hqn : q = l.length
        · have j3 : decide (q < l.length) = false := decide_eq_false (by omega)
          rw [hqn]
          rw [hqn] at j3
          have c1 := H1.out.2.p.cell 1
          simp only [List.getElem?_toArray, List.getElem?_cons_zero, List.getElem?_cons_succ] at c1
          have q1 : l.length = 0 ∨ 0 < l.length := by omega
          generalize stayB i l l.length = T at *
          clear hq hg hqn
          rcases q1 with q1 | q1
          · have q2 : decide (0 < l.length) = false := decide_eq_false (by omega)
            have US2 := Lib.hid (show Upper (setB p op 1) p.states.length i V2 from by have := US.out; rw [FE.out, q2] at this; exact this)
            go_wp2_with fail
            go_roundg i
            case measure => have := HI.out.2.1; omega
            case rel => exact ⟨i, V2, rfl, rfl, by have := HI.out.1; omega, rfl, US2.out, H1.out.2⟩
          · have q2 : decide (0 < l.length) = true := decide_eq_true q1
            have q3 : (0 : Int) < (l.length : Int) := by omega
            have US2 := Lib.hid (show Upper (setB p op 1) p.states.length i V3 from by have := US.out; rw [FE.out, q2] at this; rw [HV3.out]; exact this)
            go_wp2_with fail
            go_roundg i
            case measure => have := HI.out.2.1; omega
            case rel => exact ⟨i, V3, by rw [HV3.out]; push_cast; rfl, rfl, by have := HI.out.1; omega, rfl, US2.out, H1.out.2⟩
        · have hlt : q < l.length := by omega
          obtain ⟨x, hx⟩ : ∃ x, l[q]? = some x := ⟨_, List.getElem?_eq_getElem hlt⟩
          obtain ⟨A', c', e', _, _, hr, _⟩ := H1.out.1
          injection e' with e1 e2 e3
          obtain ⟨ao, ea, _, d1⟩ := sl_cell2 ouC_len hr (Below.refl _ _) hx (by omega)
          subst e1
          subst ea
          clear e2 e3
          unfold ouC at d1
          simp only [List.getElem?_cons_zero, List.getElem?_cons_succ] at d1
          have nx := Lib.hid (stay_next (i := i) hx)
          have j3 : (q : Int) < (l.length : Int) := by omega
          have j4 : (0 : Int) ≤ (q : Int) := by omega
          have wk : IntKind.i64.wrap ((q : Int) + 1) = (q : Int) + 1 := IntWalk.i64_in _ (by have := OL2.out; omega)
          have HK := Lib.hid (And.intro hlt hg)
          clear hqn hlt hq hg hx hr
          generalize stayB i l q = T at *
          cases T
          · go_wp2_with fail
            go_roundg (l.length - (q + 1))
            case measure => have := HK.out.1; have := HK.out.2; omega
            case rel => exact ⟨q + 1, by push_cast; rfl, by rw [nx.out]; rfl, HK.out.1, rfl, rfl⟩
          · go_wp2_with fail
            go_roundg (l.length - (q + 1))
            case measure => have := HK.out.1; have := HK.out.2; omega
            case rel => exact ⟨q + 1, by push_cast; rfl, by rw [nx.out]; rfl, HK.out.1, rfl, rfl⟩
set_option maxRecDepth 100000 in
set_option maxHeartbeats 16000000 in
theorem rset2_any (w : World) (vs vm : Value) (p : Pro) (h : ProAt w vs vm p) (hz : SzP p) (hn : p.states.length ≤ 16) (op : List UInt8) :
    Calls Try.prog 14 #[proV vs vm p, .int .i64 2, txt op] w fun e w' => e = .returned (.int .u32 ((setF (setB p op 2) p.states.length : Nat) : Int)) ∧ Below w.heap.size w w' := by
  have RO := Lib.hid (fun (v : World) (hb : Below w.heap.size w v) (i : Int) => routs_any v vs vm p (h.below hb) hz.mv i op)
  obtain ⟨As, cs, rfl, _, _, hS, _⟩ := h.states
  obtain ⟨Am, cm, rfl, _⟩ := h.moves.len
  have a1 := below_alloc1 w (.cells #[txt p.name, .slice As p.states.length cs, .slice Am p.moves.length cm] 25)
  have B1 := Blk.start w #[txt p.name, .slice As p.states.length cs, .slice Am p.moves.length cm] 25
  have S0 := Lib.hid (WrS.mk B1 a1)
  have HO := Lib.hid (And.intro hS (And.intro hz hn))
  clear h hS hz hn a1 B1
  go_enter Try.func14, Try.ntmps14
  go_upto_region 1 with fail
  generalize w.alloc (.cells #[txt p.name, .slice As p.states.length cs, .slice Am p.moves.length cm] 25) = W at *
  have c1 := S0.out.p.cell 1
  simp only [List.getElem?_toArray, List.getElem?_cons_zero, List.getElem?_cons_succ] at c1
  have w0 : IntKind.i64.wrap ((p.states.length : Int) - 1) = (p.states.length : Int) - 1 := IntWalk.i64_in _ (by have := HO.out.2.2; omega)
  go_wp2_with fail
  clear c1
  go_loopg [7, 8] p.states.length (fun g v7 v8 wr => ∃ j V : Nat, v7 = .int .u32 (V : Int) ∧ v8 = .int .i64 ((j : Int) - 1) ∧ j ≤ p.states.length ∧ g = j ∧ Upper (setB p op 2) p.states.length j V ∧ WrS w wr w.heap.size #[txt p.name, .slice As p.states.length cs, .slice Am p.moves.length cm])
  case atStart => exact ⟨p.states.length, 0, rfl, rfl, Nat.le_refl _, rfl, upper_start _ _, S0.out⟩
  case round =>
    obtain ⟨j, V, rfl, rfl, hj, hg, hU, hW⟩ := hrel
    cases j with
    | zero =>
      have FIN := Lib.hid (And.intro (upper_end hU) hW.b)
      have t0 : decide ((0 : Int) ≤ ((0 : Nat) : Int) - 1) = false := by decide
      clear hj hg hU hW
      go_wp2_with fail
      go_ret
      exact ⟨by rw [← FIN.out.1]; rfl, FIN.out.2⟩
    | succ i =>
      rw [show (((i + 1 : Nat) : Int) - 1) = (i : Int) by omega]
      have hlt : i < p.states.length := by omega
      have t0 : (0 : Int) ≤ (i : Int) := by omega
      have t1 : (i : Int) < (p.states.length : Int) := by omega
      have wi : IntKind.i64.wrap ((i : Int) - 1) = (i : Int) - 1 := IntWalk.i64_in _ (by have := HO.out.2.2; omega)
      have hv := upper_lt hU HO.out.2.2
      obtain ⟨x, hs⟩ : ∃ x, p.states[i]? = some x := ⟨_, List.getElem?_eq_getElem hlt⟩
      have RC := Lib.hid (RO.out wr hW.b (i : Int))
      have OL2 := Lib.hid (show (outsOf p.moves (i : Int) op).length ≤ 80 from by
        unfold outsOf
        split
        · rename_i m he
          exact HO.out.2.1.out m (List.mem_of_find?_eq_some he)
        · exact Nat.zero_le _)
      have c0 := hW.p.cell 0
      have c1 := hW.p.cell 1
      have c2 := hW.p.cell 2
      simp only [List.getElem?_toArray, List.getElem?_cons_zero, List.getElem?_cons_succ] at c0 c1 c2
      have FE := Lib.hid (show setB p op 2 i = stayB i (outsOf p.moves (i : Int) op) (outsOf p.moves (i : Int) op).length from by show (_ && _) = _; unfold stayB; rw [List.take_length])
      have US := Lib.hid (upper_step hU hlt)
      obtain ⟨V2, hV2⟩ : ∃ V2, V2 = V * 2 := ⟨_, rfl⟩
      obtain ⟨V3, hV3⟩ : ∃ V3, V3 = V2 + 1 := ⟨_, rfl⟩
      have m1 : (V : Int) * 2 % 4294967296 = (V2 : Int) := by omega
      have m2 : ((V2 : Int) + 1) % 4294967296 = (V3 : Int) := by omega
      rw [← hV2] at US
      have HV3 := Lib.hid hV3
      have HI := Lib.hid (And.intro hlt (And.intro hg (And.intro hU (And.intro hW hv))))
      clear hlt hg hU hW hv hj hs hV2 hV3
      generalize outsOf p.moves (i : Int) op = l at *
      go_upto_region 7 with (go_at_call 21; (refine RC.out.mono ?_); rintro e w1 ⟨Al, cl, rfl, ho, hb⟩; have H1 := Lib.hid (And.intro ho (HI.out.2.2.2.1.keep hb)); have D1 := Lib.hid hb; clear ho hb)
      have s0 := Lib.hid (show stayB i l 0 = decide (0 < l.length) from by unfold stayB allTo; simp)
      go_wp2_with fail
      go_loopg [10, 11] l.length (fun g v10 v11 wr => ∃ q : Nat, v11 = .int .i64 q ∧ v10 = .bool (stayB i l q) ∧ q ≤ l.length ∧ g = l.length - q ∧ wr = w1)
      case atStart => exact ⟨0, rfl, by rw [s0.out], Nat.zero_le _, rfl, rfl⟩
      case round =>
        obtain ⟨q, rfl, rfl, hq, hg, rfl⟩ := hrel
        by_cases hqn : q = l.length
        · have j3 : decide (q < l.length) = false := decide_eq_false (by omega)
          rw [hqn]
          rw [hqn] at j3
          have c1 := H1.out.2.p.cell 1
          simp only [List.getElem?_toArray, List.getElem?_cons_zero, List.getElem?_cons_succ] at c1
          generalize stayB i l l.length = T at *
          clear hq hg hqn
          cases T
          · skip
            have US2 := Lib.hid (show Upper (setB p op 2) p.states.length i V2 from by have := US.out; rw [FE.out] at this; exact this)
            go_wp2_with fail
            go_roundg i
            case measure => have := HI.out.2.1; omega
            case rel => exact ⟨i, V2, rfl, rfl, by have := HI.out.1; omega, rfl, US2.out, H1.out.2⟩
          · skip
            have US2 := Lib.hid (show Upper (setB p op 2) p.states.length i V3 from by have := US.out; rw [FE.out] at this; rw [HV3.out]; exact this)
            go_wp2_with fail
            go_roundg i
            case measure => have := HI.out.2.1; omega
            case rel => exact ⟨i, V3, by rw [HV3.out]; push_cast; rfl, rfl, by have := HI.out.1; omega, rfl, US2.out, H1.out.2⟩
        · have hlt : q < l.length := by omega
          obtain ⟨x, hx⟩ : ∃ x, l[q]? = some x := ⟨_, List.getElem?_eq_getElem hlt⟩
          obtain ⟨A', c', e', _, _, hr, _⟩ := H1.out.1
          injection e' with e1 e2 e3
          obtain ⟨ao, ea, _, d1⟩ := sl_cell2 ouC_len hr (Below.refl _ _) hx (by omega)
          subst e1
          subst ea
          clear e2 e3
          unfold ouC at d1
          simp only [List.getElem?_cons_zero, List.getElem?_cons_succ] at d1
          have nx := Lib.hid (stay_next (i := i) hx)
          have j3 : (q : Int) < (l.length : Int) := by omega
          have j4 : (0 : Int) ≤ (q : Int) := by omega
          have wk : IntKind.i64.wrap ((q : Int) + 1) = (q : Int) + 1 := IntWalk.i64_in _ (by have := OL2.out; omega)
          have HK := Lib.hid (And.intro hlt hg)
          clear hqn hlt hq hg hx hr
          generalize stayB i l q = T at *
          cases T
          · go_wp2_with fail
            go_roundg (l.length - (q + 1))
            case measure => have := HK.out.1; have := HK.out.2; omega
            case rel => exact ⟨q + 1, by push_cast; rfl, by rw [nx.out]; rfl, HK.out.1, rfl, rfl⟩
          · go_wp2_with fail
            go_roundg (l.length - (q + 1))
            case measure => have := HK.out.1; have := HK.out.2; omega
            case rel => exact ⟨q + 1, by push_cast; rfl, by rw [nx.out]; rfl, HK.out.1, rfl, rfl⟩
end Go.Proofs.Ytgfenklcelfkiaa
