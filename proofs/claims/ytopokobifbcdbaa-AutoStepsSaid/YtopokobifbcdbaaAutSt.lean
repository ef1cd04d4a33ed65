/-
  The walk of the statement AutoSteps. (Template: by-name.py fills it; gen/genAutSt.py writes it.)
-/
import Derived.Test.YtopokobifbcdbaaAutSr
import Derived.Test.YtopokobifbcdbaaAutWa
namespace Go.Proofs.Ytopokobifbcdbaa
open Go.RowKit

theorem wrong_none {p : Pro} (h : (wrongP p).1 = 0) : Fits p ∧ 1 ≤ p.states.length ∧ p.states.length ≤ 16 ∧ OneM p.moves ∧ (∀ m ∈ p.moves, finM p.states m = false) ∧ ∀ i, i < p.states.length → goesB p p.states.length i = true := by
  by_cases hb : p.states.length = 0 ∨ 16 < p.states.length
  · unfold wrongP at h; rw [if_pos hb] at h; cases h
  · rw [wrong_eq hb] at h
    split at h
    · cases h
    · split at h
      · cases h
      · rename_i h2
        split at h
        · cases h
        · rename_i h3
          split at h
          · cases h
          · rename_i h4
            split at h
            · cases h
            · rename_i h5
              refine ⟨fits_of h2, by omega, by omega, one_of (fstI_all h3), fstL_all h4, fun i hi => ?_⟩
              have := fstI_all h5 i hi
              unfold stuckB at this
              simpa using this
theorem step_union (p : Pro) (a b : Nat) (op nm : List UInt8) : stepS p (a ||| b) op nm = stepS p a op nm ||| stepS p b op nm := by
  refine Nat.eq_of_testBit_eq fun j => ?_
  rw [Bool.eq_iff_iff, Nat.testBit_or, Bool.or_eq_true, stepS_bit, stepS_bit, stepS_bit]
  constructor
  · rintro ⟨m, hm, e, hb, r⟩
    rw [Nat.testBit_or, Bool.or_eq_true] at hb
    rcases hb with hb | hb
    · exact .inl ⟨m, hm, e, hb, r⟩
    · exact .inr ⟨m, hm, e, hb, r⟩
  · rintro (⟨m, hm, e, hb, r⟩ | ⟨m, hm, e, hb, r⟩)
    · exact ⟨m, hm, e, by rw [Nat.testBit_or, hb]; rfl, r⟩
    · exact ⟨m, hm, e, by rw [Nat.testBit_or, hb, Bool.or_true], r⟩
theorem step_fin {p : Pro} (h : ∀ m ∈ p.moves, finM p.states m = false) (op nm : List UInt8) : stepS p (finalS p) op nm = 0 := by
  refine Nat.eq_of_testBit_eq fun j => ?_
  rw [Nat.zero_testBit]
  cases q : (stepS p (finalS p) op nm).testBit j with
  | false => rfl
  | true =>
    obtain ⟨m, hm, _, hb, _⟩ := (stepS_bit p _ op nm j).mp q
    unfold finalS at hb
    rw [setF_bit, Bool.and_eq_true] at hb
    have := h m hm
    have e : finalAt p m.at_.toNat = finM p.states m := by unfold finalAt finM; rfl
    rw [e, this] at hb
    cases hb.2
theorem step_lt {p : Pro} (hf : Fits p) (hn : p.states.length ≤ 16) (S : Nat) (op nm : List UInt8) : stepS p S op nm < 4294967296 := small_of (stepM_lt p.moves 0 (Nat.two_pow_pos _) hf.to) hn
theorem bit_eq0 (s k : Nat) (hs : s < 4294967296) : (bits .and .u32 ((s : Int) / 2 ^ k) 1 == 0) = !s.testBit k := by
  have e : (s : Int) / 2 ^ k = ((s / 2 ^ k : Nat) : Int) := by norm_cast
  have hl : s / 2 ^ k < 4294967296 := Nat.lt_of_le_of_lt (Nat.div_le_self _ _) hs
  rw [e, show (1 : Int) = ((1 : Nat) : Int) from rfl, u32_and_nat _ _ hl (by omega), Nat.and_one_is_mod, Nat.testBit_eq_decide_div_mod_eq]
  by_cases q : s / 2 ^ k % 2 = 1
  · rw [decide_eq_true q, q]; rfl
  · rw [decide_eq_false q, show s / 2 ^ k % 2 = 0 by omega]; rfl
structure LwS (w0 w : World) (b : Nat) (cs : Array Value) (aa : Nat) (pr : Pro) : Prop where
  p : Blk w b cs
  a : AutAt w aa pr
  b : Below w0.heap.size w0 w
theorem LwS.keep {w0 w w' : World} {b : Nat} {cs : Array Value} {a : Nat} {p : Pro} (h : LwS w0 w b cs a p) (hb : Below w.heap.size w w') : LwS w0 w' b cs a p := ⟨h.p.keep hb, h.a.below hb, h.b.trans (hb.mono h.b.size)⟩
set_option maxRecDepth 100000 in
set_option maxHeartbeats 16000000 in
theorem autosteps_nat (w : World) (vs vm : Value) (p : Pro) (h : ProAt w vs vm p) (hr : RchP p) (x y : Nat) (hx : x < 4294967296) (hy : y < 4294967296) :
    Calls Try.prog 5 #[proV vs vm p, .int .u32 (x : Int), .int .u32 (y : Int)] w fun e w' => e = .returned (.bool true) ∧ Below w.heap.size w w' := by
  have HP := Lib.hid (fun (v : World) (hb : Below w.heap.size w v) => h.below hb)
  have SM := Lib.hid (fun (v : World) (hb : Below w.heap.size w v) => rsmall_any v _ _ p (h.below hb) hr.cnt)
  obtain ⟨As, cs, rfl, _⟩ := h.states.len
  obtain ⟨rs, hm, Am, cm, rfl, _, _, hM, hE⟩ := h.moves
  have hml := moves_len hm
  have AW := Lib.hid (fun (v : World) => awake_yes v)
  have a1 := below_alloc1 w (.cells #[txt p.name, .slice As p.states.length cs, .slice Am rs.length cm] 25)
  have B1 := Blk.start w #[txt p.name, .slice As p.states.length cs, .slice Am rs.length cm] 25
  have S0 := Lib.hid (WrS.mk B1 a1)
  have HR := Lib.hid hr
  have HO := Lib.hid (And.intro hM (And.intro hE (And.intro hm (And.intro hml (And.intro hx hy)))))
  clear h hr a1 B1 hM hE hm hml hx hy
  by_cases hs : sizeP p ≤ 80
  · rw [decide_eq_true hs] at SM
    have hz := HR.out.sz hs
    have HZ := Lib.hid hz
    have RW := Lib.hid (fun (v : World) (hb : Below w.heap.size w v) => rwrong_any v _ _ p (HP.out v hb) hz)
    have NR := Lib.hid (fun (v : World) (hb : Below w.heap.size w v) => new_right v _ _ p (HP.out v hb) hz)
    have NW := Lib.hid (fun (v : World) (hb : Below w.heap.size w v) => new_wrong v _ _ p (HP.out v hb) hz)
    have WN := Lib.hid (fun h => wrong_none (p := p) h)
    generalize wrongP p = R at *
    obtain ⟨r1, r2⟩ := R
    dsimp only at RW NR NW WN
    clear hs hz
    go_enter Try.func5, Try.ntmps5
    go_upto_region 1 with fail
    generalize (w.alloc (.cells #[txt p.name, .slice As p.states.length cs, .slice Am rs.length cm] 25)) = W0 at *
    go_upto_region 3 with (first
      | (go_at_call 8; (refine (AW.out _).mono ?_); rintro e1 w1 ⟨rfl, hb⟩; have B1 := Lib.hid (S0.out.keep hb); clear hb; have c0 := B1.out.p.cell 0; have c1 := B1.out.p.cell 1; have c2 := B1.out.p.cell 2; simp only [List.getElem?_toArray, List.getElem?_cons_zero, List.getElem?_cons_succ] at c0 c1 c2)
      | (go_at_call 9; (refine (SM.out _ B1.out.b).mono ?_); rintro e2 w2 ⟨rfl, hb⟩; have B2 := Lib.hid (B1.out.keep hb); clear hb))
    clear c0 c1 c2
    have c0 := B2.out.p.cell 0
    have c1 := B2.out.p.cell 1
    have c2 := B2.out.p.cell 2
    simp only [List.getElem?_toArray, List.getElem?_cons_zero, List.getElem?_cons_succ] at c0 c1 c2
    by_cases hq : r1 = 0
    · subst hq
      obtain ⟨hf, hn0, hn, h1, hfm, _⟩ := WN.out rfl
      have HF := Lib.hid (And.intro hf (And.intro hn (And.intro h1 hfm)))
      clear hf hn0 hn h1 hfm
      go_upto_region 4 with (go_at_call 12; (refine (NR.out _ B2.out.b rfl).mono ?_); rintro e4 w4 ⟨a, rfl, ha, _, hb⟩; have B3 := Lib.hid (LwS.mk (B2.out.p.keep hb) ha (B2.out.b.trans (hb.mono B2.out.b.size))); clear ha hb)
      clear c0 c1 c2
      have c0 := B3.out.p.cell 0
      have c1 := B3.out.p.cell 1
      have c2 := B3.out.p.cell 2
      simp only [List.getElem?_toArray, List.getElem?_cons_zero, List.getElem?_cons_succ] at c0 c1 c2
      go_upto_region 5 with (go_at_call 11; (refine (RW.out _ B3.out.b).mono ?_); rintro e3 w3 ⟨rfl, hb⟩; have B4 := Lib.hid (B3.out.keep hb); clear hb)
      clear c0 c1 c2
      have SX := Lib.hid (fun (v : World) (ha : AutAt v a p) (S : Nat) (hS : S < 4294967296) (op nm : List UInt8) => step_any v a p ha HZ.out HF.out.1 HF.out.2.1 S hS op nm)
      have RX := Lib.hid (fun (v : World) (hb : Below w.heap.size w v) (S : Nat) (hS : S < 4294967296) (op nm : List UInt8) => rstep_any v _ _ p (HP.out v hb) HZ.out HF.out.1 HF.out.2.1 HF.out.2.2.1 S hS op nm)
      have FX := Lib.hid (fun (v : World) (ha : AutAt v a p) => afinals_any v a p ha HF.out.2.1)
      have nn : (binOp .eql 30 (.pointer (some ⟨a, 0, none⟩)) (.pointer none)).run Try.prog w3 = .ok (.bool false) w3 := by kernel_rfl
      go_wp2_with fail
      go_loopg [11] rs.length (fun g v11 wr => ∃ i : Nat, v11 = .int .i64 i ∧ i ≤ rs.length ∧ g = rs.length - i ∧ LwS w wr w.heap.size #[txt p.name, .slice As p.states.length cs, .slice Am rs.length cm] a p)
      case atStart => exact ⟨0, rfl, Nat.zero_le _, rfl, B4.out⟩
      case round =>
        obtain ⟨i, rfl, hi, hg, hL⟩ := hrel
        have c2 := hL.p.cell 2
        simp only [List.getElem?_toArray, List.getElem?_cons_zero, List.getElem?_cons_succ] at c2
        by_cases hin : i = rs.length
        · have j1 : decide (i < rs.length) = false := decide_eq_false (by omega)
          have FINL := Lib.hid hL
          have SQ := Lib.hid (fun (v : World) (hb : Below wr.heap.size wr v) => SX.out v (hL.a.below hb) x HO.out.2.2.2.2.1 [63] [63])
          have RQ := Lib.hid (fun (v : World) (hb : Below wr.heap.size wr v) => RX.out v (hL.b.trans (hb.mono hL.b.size)) x HO.out.2.2.2.2.1 [63] [63])
          have e0 := hL.p.drew.cell 0
          have e1 := hL.p.drew.cell 1
          have e2 := hL.p.drew.cell 2
          simp only [List.getElem?_toArray, List.getElem?_cons_zero, List.getElem?_cons_succ] at e0 e1 e2
          generalize stepS p x [63] [63] = sq at *
          clear hi hg hL hin
          go_upto_region 21 with fail
          have STB := Lib.hid (show Stab (fun v => ((v.cell? ⟨w.heap.size, 0, none⟩ = some (txt p.name) ∧ v.cell? ⟨w.heap.size, 1, none⟩ = some (.slice As p.states.length cs)) ∧ v.cell? ⟨w.heap.size, 2, none⟩ = some (.slice Am rs.length cm)) ∧ Below wr.heap.size wr v) from stab_and (stab_and (stab_and (stab_cell _ _) (stab_cell _ _)) (stab_cell _ _)) (stab_below wr))
          have HS : ((wr.drew.cell? ⟨w.heap.size, 0, none⟩ = some (txt p.name) ∧ wr.drew.cell? ⟨w.heap.size, 1, none⟩ = some (.slice As p.states.length cs)) ∧ wr.drew.cell? ⟨w.heap.size, 2, none⟩ = some (.slice Am rs.length cm)) ∧ Below wr.heap.size wr wr.drew := ⟨⟨⟨e0, e1⟩, e2⟩, belowD wr⟩
          clear e0 e1 e2 c2
          refine wp_region_noPanic ?_
          refine wp_region_held_drew (S := (fun v => ((v.cell? ⟨w.heap.size, 0, none⟩ = some (txt p.name) ∧ v.cell? ⟨w.heap.size, 1, none⟩ = some (.slice As p.states.length cs)) ∧ v.cell? ⟨w.heap.size, 2, none⟩ = some (.slice Am rs.length cm)) ∧ Below wr.heap.size wr v)) (by kernel_rfl) HS (fun hHeld => ?_)
          clear HS
          refine tkk 0 rfl ?_
          refine tkk 1 rfl ?_
          refine tkk 3 rfl ?_
          refine tkk 4 rfl ?_
          (try simp only [cl, Act.put])
          refine rd 2 rfl fun K hK => ?_
          go_simp
          (first
            | (go_at_call 28; (refine (SQ.out _ hHeld.2).mono ?_); rintro e5 w5 ⟨rfl, hb⟩)
            | (go_at_call 29; (refine (RQ.out _ hHeld.2).mono ?_); rintro e5 w5 ⟨rfl, hb⟩))
          go_wp2_with fail
          refine hK.out _ _ (STB.out _ _ hb (by with_reducible assumption)) (fun hH2 => ?_)
          clear hK K hHeld hb; have hHeld := hH2; clear hH2
          (try simp only [cl, Act.put])
          refine rd 5 rfl fun K hK => ?_
          go_simp
          (first
            | (go_at_call 28; (refine (SQ.out _ hHeld.2).mono ?_); rintro e5 w5 ⟨rfl, hb⟩)
            | (go_at_call 29; (refine (RQ.out _ hHeld.2).mono ?_); rintro e5 w5 ⟨rfl, hb⟩))
          go_wp2_with fail
          refine hK.out _ _ (STB.out _ _ hb (by with_reducible assumption)) (fun hH2 => ?_)
          clear hK K hHeld hb; have hHeld := hH2; clear hH2
          (try simp only [cl, Act.put])
          refine tkk 6 rfl ?_
          refine tkk 7 rfl ?_
          (try simp only [cl, Act.put])
          refine wpAnyH_done (by kernel_rfl) ?_ _
          refine NoPanic.normal ?_
          go_wp2_with fail
          go_ret
          exact ⟨rfl, FINL.out.b.trans (hHeld.2.mono FINL.out.b.size)⟩
        · have hlt : i < rs.length := by omega
          obtain ⟨mv, hmv⟩ : ∃ mv, rs[i]? = some mv := ⟨_, List.getElem?_eq_getElem hlt⟩
          have hmx := moves_at HO.out.2.2.1 hmv
          obtain ⟨am, rfl, d0, d1, d2⟩ := sl_cell3 mvC_len HO.out.1 hL.b hmv (by omega)
          unfold mvC at d0 d1 d2
          simp only [List.getElem?_cons_zero, List.getElem?_cons_succ] at d0 d1 d2
          have hO := (HO.out.2.1 mv (List.mem_of_getElem? hmv)).2
          have hat := HF.out.1.at_ mv.2 (List.mem_of_getElem? hmx)
          have hto := HF.out.1.to mv.2 (List.mem_of_getElem? hmx)
          have hol := HZ.out.out mv.2 (List.mem_of_getElem? hmx)
          have hmm := List.mem_of_getElem? hmx
          obtain ⟨vo, op, z, outs⟩ := mv
          dsimp only at hO hat hto hol d0 d1 d2
          obtain ⟨at_, rfl⟩ : ∃ k : Nat, z = k := ⟨z.toNat, by omega⟩
          obtain ⟨Ao, co, rfl, _, _, hO, _⟩ := hO
          have j1 : (i : Int) < (rs.length : Int) := by omega
          have j2 : (0 : Int) ≤ (i : Int) := by omega
          have wi : IntKind.i64.wrap ((i : Int) + 1) = (i : Int) + 1 := IntWalk.i64_in _ (by have := HZ.out.mv; have := HO.out.2.2.2.1; omega)
          have a5 := below_alloc1 wr (.cells #[txt op, .int .i64 (at_ : Int), .slice Ao outs.length co] 45)
          have B5 := Blk.start wr #[txt op, .int .i64 (at_ : Int), .slice Ao outs.length co] 45
          have HI := Lib.hid (And.intro hlt (And.intro hg (And.intro (hL.keep a5) (And.intro B5 (And.intro hO (And.intro hat (And.intro hto (And.intro hol hmm))))))))
          clear hin hlt hi hg hL hmv hmx hO hat hto hol hmm a5 B5
          go_upto_region 13 with fail
          generalize hW : wr.alloc (.cells #[txt op, .int .i64 (at_ : Int), .slice Ao outs.length co] 45) = W5 at *
          clear hW d0 d1 d2 c2
          have c2 := HI.out.2.2.2.1.cell 2
          simp only [List.getElem?_toArray, List.getElem?_cons_zero, List.getElem?_cons_succ] at c2
          generalize wr = wm at *
          go_wp2_with fail
          go_loopg [13] outs.length (fun g v13 wr => ∃ k : Nat, v13 = .int .i64 k ∧ k ≤ outs.length ∧ g = outs.length - k ∧ Blk wr wm.heap.size #[txt op, .int .i64 (at_ : Int), .slice Ao outs.length co] ∧ LwS w wr w.heap.size #[txt p.name, .slice As p.states.length cs, .slice (some am) rs.length cm] a p)
          case atStart => exact ⟨0, rfl, Nat.zero_le _, rfl, HI.out.2.2.2.1, HI.out.2.2.1⟩
          case round =>
            obtain ⟨k, rfl, hk, hg, hB, hL⟩ := hrel
            by_cases hkn : k = outs.length
            · have j3 : decide (k < outs.length) = false := decide_eq_false (by omega)
              have c2 := hB.cell 2
              simp only [List.getElem?_toArray, List.getElem?_cons_zero, List.getElem?_cons_succ] at c2
              have NX := Lib.hid hL
              clear hk hg hB hL hkn
              go_wp2_with fail
              go_roundg (rs.length - (i + 1))
              case measure => have := HI.out.1; have := HI.out.2.1; omega
              case rel => exact ⟨i + 1, by push_cast; rfl, HI.out.1, rfl, NX.out⟩
            · have hlt : k < outs.length := by omega
              obtain ⟨o, ho⟩ : ∃ o, outs[k]? = some o := ⟨_, List.getElem?_eq_getElem hlt⟩
              obtain ⟨ao, rfl, d0, d1⟩ := sl_cell2 ouC_len HI.out.2.2.2.2.1 hL.b.drew ho (by omega)
              unfold ouC at d0 d1
              simp only [List.getElem?_cons_zero, List.getElem?_cons_succ] at d0 d1
              have hto := HI.out.2.2.2.2.2.2.1 o (List.mem_of_getElem? ho)
              have hoo := List.mem_of_getElem? ho
              obtain ⟨xn, xt⟩ := o
              dsimp only at hto d0 d1
              obtain ⟨t, rfl⟩ : ∃ t : Nat, xt = t := ⟨xt.toNat, by omega⟩
              have m0 := hB.drew.cell 0
              have m2 := hB.drew.cell 2
              have m3 := hB.cell 2
              simp only [List.getElem?_toArray, List.getElem?_cons_zero, List.getElem?_cons_succ] at m0 m2 m3
              have j3 : (k : Int) < (outs.length : Int) := by omega
              have j4 : (0 : Int) ≤ (k : Int) := by omega
              have wk : IntKind.i64.wrap ((k : Int) + 1) = (k : Int) + 1 := IntWalk.i64_in _ (by have := HI.out.2.2.2.2.2.2.2.1; omega)
              have lA := step_lt HF.out.1 HF.out.2.1 x op xn
              have lB := step_lt HF.out.1 HF.out.2.1 y op xn
              have SA := Lib.hid (fun (v : World) (hb : Below wr.heap.size wr v) => SX.out v (hL.a.below hb) x HO.out.2.2.2.2.1 op xn)
              have SB := Lib.hid (fun (v : World) (hb : Below wr.heap.size wr v) => SX.out v (hL.a.below hb) y HO.out.2.2.2.2.2 op xn)
              have RA0 := Lib.hid (fun (v : World) (hb : Below wr.heap.size wr v) => RX.out v (hL.b.trans (hb.mono hL.b.size)) x HO.out.2.2.2.2.1 op xn)
              have FA0 := Lib.hid (fun (v : World) (hb : Below wr.heap.size wr v) => FX.out v (hL.a.below hb))
              have SU0 := Lib.hid (fun (v : World) (hb : Below wr.heap.size wr v) => SX.out v (hL.a.below hb) (x ||| y) (Nat.or_lt_two_pow (n := 32) HO.out.2.2.2.2.1 HO.out.2.2.2.2.2) op xn)
              have SF0 := Lib.hid (fun (v : World) (hb : Below wr.heap.size wr v) => SX.out v (hL.a.below hb) (finalS p) (setF_small HF.out.2.1) op xn)
              rw [step_union] at SU0
              rw [step_fin HF.out.2.2.2] at SF0
              have TB := Lib.hid (show x.testBit at_ = true → (stepS p x op xn).testBit t = true from fun hb => (stepS_bit p x op xn t).mpr ⟨_, HI.out.2.2.2.2.2.2.2.2, rfl, by dsimp only; rw [Int.toNat_natCast]; exact hb, _, hoo, rfl, Int.toNat_natCast t⟩)
              have hor1 := u32_or_nat x y HO.out.2.2.2.2.1 HO.out.2.2.2.2.2
              have HK := Lib.hid (And.intro hlt (And.intro hg (And.intro hB (And.intro hL (And.intro d0 hto)))))
              have D1 := Lib.hid d1
              clear hkn hlt hk hg hL hB ho hoo d1 c2 m3
              generalize stepS p x op xn = sa at *
              generalize stepS p y op xn = sb at *
              generalize finalS p = fs at *
              have hor2 := u32_or_nat sa sb lA lB
              have LA := Lib.hid (And.intro lA lB)
              clear lA lB hto
              have c2 := HK.out.2.2.1.cell 2
              simp only [List.getElem?_toArray, List.getElem?_cons_zero, List.getElem?_cons_succ] at c2
              go_upto_region 16 with fail
              clear c2
              go_cut [14, 15] from 59 to 80 (fun v14 v15 wx => v14 = .int .u32 (sa : Int) ∧ v15 = .int .u32 (sb : Int) ∧ Below wr.heap.size wr wx)
              case first =>
                have STB := Lib.hid (show Stab (fun v => ((v.cell? ⟨wm.heap.size, 0, none⟩ = some (txt op) ∧ v.cell? ⟨wm.heap.size, 2, none⟩ = some (.slice (some ao) outs.length co)) ∧ v.cell? (ao.add (k * 2)) = some (txt xn)) ∧ Below wr.heap.size wr v) from stab_and (stab_and (stab_and (stab_cell _ _) (stab_cell _ _)) (stab_cell _ _)) (stab_below wr))
                have HS : ((wr.drew.cell? ⟨wm.heap.size, 0, none⟩ = some (txt op) ∧ wr.drew.cell? ⟨wm.heap.size, 2, none⟩ = some (.slice (some ao) outs.length co)) ∧ wr.drew.cell? (ao.add (k * 2)) = some (txt xn)) ∧ Below wr.heap.size wr wr.drew := ⟨⟨⟨m0, m2⟩, d0⟩, belowD wr⟩
                clear m0 m2 d0
                refine wp_region_noPanic ?_
                refine wp_region_held_drew (S := (fun v => ((v.cell? ⟨wm.heap.size, 0, none⟩ = some (txt op) ∧ v.cell? ⟨wm.heap.size, 2, none⟩ = some (.slice (some ao) outs.length co)) ∧ v.cell? (ao.add (k * 2)) = some (txt xn)) ∧ Below wr.heap.size wr v)) (by kernel_rfl) HS (fun hHeld => ?_)
                clear HS
                refine tkk 0 rfl ?_
                refine tkk 1 rfl ?_
                refine tkk 2 rfl ?_
                refine tkk 3 rfl ?_
                refine tkk 4 rfl ?_
                refine tkk 5 rfl ?_
                refine tkk 6 rfl ?_
                refine tkk 7 rfl ?_
                refine tkk 8 rfl ?_
                refine tkk 9 rfl ?_
                refine tkk 11 rfl ?_
                refine tkk 12 rfl ?_
                refine tkk 13 rfl ?_
                refine tkk 14 rfl ?_
                refine tkk 15 rfl ?_
                refine tkk 16 rfl ?_
                refine tkk 17 rfl ?_
                refine tkk 18 rfl ?_
                refine tkk 19 rfl ?_
                refine tkk 20 rfl ?_
                (try simp only [cl, Act.put])
                refine rd 10 rfl fun K hK => ?_
                go_simp
                (go_at_call 28; (first | (with_reducible refine (SA.out _ hHeld.2).mono ?_) | (with_reducible refine (SB.out _ hHeld.2).mono ?_)); rintro e5 w5 ⟨rfl, hb⟩)
                go_wp2_with fail
                refine hK.out _ _ (STB.out _ _ hb (by with_reducible assumption)) (fun hH2 => ?_)
                clear hK K hHeld hb; have hHeld := hH2; clear hH2
                (try simp only [cl, Act.put])
                refine rd 21 rfl fun K hK => ?_
                go_simp
                (go_at_call 28; (first | (with_reducible refine (SA.out _ hHeld.2).mono ?_) | (with_reducible refine (SB.out _ hHeld.2).mono ?_)); rintro e5 w5 ⟨rfl, hb⟩)
                go_wp2_with fail
                refine hK.out _ _ (STB.out _ _ hb (by with_reducible assumption)) (fun hH2 => ?_)
                clear hK K hHeld hb; have hHeld := hH2; clear hH2
                (try simp only [cl, Act.put])
                refine tkk 22 rfl ?_
                refine tkk 23 rfl ?_
                (try simp only [cl, Act.put])
                refine wpAnyH_done (by kernel_rfl) ?_ _
                refine NoPanic.normal ?_
                go_wp2_with fail
                go_meet
                exact ⟨rfl, rfl, hHeld.2⟩
              case rest =>
                obtain ⟨rfl, rfl, hb6⟩ := hcut
                generalize wc = w6 at *
                have L6 := Lib.hid (And.intro (HK.out.2.2.2.1.keep hb6) (And.intro (HK.out.2.2.1.keep hb6) hb6))
                have dd := keep_any hb6 HK.out.2.2.2.2.1
                have d0 : w6.drew.cell? (ao.add (k * 2)) = some (txt xn) := dd
                have m0 := L6.out.2.1.drew.cell 0
                have m2 := L6.out.2.1.drew.cell 2
                have e0 := L6.out.1.p.drew.cell 0
                have e1 := L6.out.1.p.drew.cell 1
                have e2 := L6.out.1.p.drew.cell 2
                simp only [List.getElem?_toArray, List.getElem?_cons_zero, List.getElem?_cons_succ] at m0 m2 e0 e1 e2
                have RA := Lib.hid (fun (v : World) (hb : Below w6.heap.size w6 v) => RA0.out v (hb6.trans (hb.mono hb6.size)))
                have FA := Lib.hid (fun (v : World) (hb : Below w6.heap.size w6 v) => FA0.out v (hb6.trans (hb.mono hb6.size)))
                have SU := Lib.hid (fun (v : World) (hb : Below w6.heap.size w6 v) => SU0.out v (hb6.trans (hb.mono hb6.size)))
                have SF := Lib.hid (fun (v : World) (hb : Below w6.heap.size w6 v) => SF0.out v (hb6.trans (hb.mono hb6.size)))
                clear hb6 dd SA SB RA0 FA0 SU0 SF0
                go_upto_region 17 with fail
                have STB := Lib.hid (show Stab (fun v => (((((v.cell? ⟨wm.heap.size, 0, none⟩ = some (txt op) ∧ v.cell? ⟨wm.heap.size, 2, none⟩ = some (.slice (some ao) outs.length co)) ∧ v.cell? (ao.add (k * 2)) = some (txt xn)) ∧ v.cell? ⟨w.heap.size, 0, none⟩ = some (txt p.name)) ∧ v.cell? ⟨w.heap.size, 1, none⟩ = some (.slice As p.states.length cs)) ∧ v.cell? ⟨w.heap.size, 2, none⟩ = some (.slice (some am) rs.length cm)) ∧ Below w6.heap.size w6 v) from stab_and (stab_and (stab_and (stab_and (stab_and (stab_and (stab_cell _ _) (stab_cell _ _)) (stab_cell _ _)) (stab_cell _ _)) (stab_cell _ _)) (stab_cell _ _)) (stab_below w6))
                have HS : (((((w6.drew.cell? ⟨wm.heap.size, 0, none⟩ = some (txt op) ∧ w6.drew.cell? ⟨wm.heap.size, 2, none⟩ = some (.slice (some ao) outs.length co)) ∧ w6.drew.cell? (ao.add (k * 2)) = some (txt xn)) ∧ w6.drew.cell? ⟨w.heap.size, 0, none⟩ = some (txt p.name)) ∧ w6.drew.cell? ⟨w.heap.size, 1, none⟩ = some (.slice As p.states.length cs)) ∧ w6.drew.cell? ⟨w.heap.size, 2, none⟩ = some (.slice (some am) rs.length cm)) ∧ Below w6.heap.size w6 w6.drew := ⟨⟨⟨⟨⟨⟨m0, m2⟩, d0⟩, e0⟩, e1⟩, e2⟩, belowD w6⟩
                clear m0 m2 d0 e0 e1 e2
                refine wp_region_noPanic ?_
                refine wp_region_held_drew (S := (fun v => (((((v.cell? ⟨wm.heap.size, 0, none⟩ = some (txt op) ∧ v.cell? ⟨wm.heap.size, 2, none⟩ = some (.slice (some ao) outs.length co)) ∧ v.cell? (ao.add (k * 2)) = some (txt xn)) ∧ v.cell? ⟨w.heap.size, 0, none⟩ = some (txt p.name)) ∧ v.cell? ⟨w.heap.size, 1, none⟩ = some (.slice As p.states.length cs)) ∧ v.cell? ⟨w.heap.size, 2, none⟩ = some (.slice (some am) rs.length cm)) ∧ Below w6.heap.size w6 v)) (by kernel_rfl) HS (fun hHeld => ?_)
                clear HS
                refine tkk 0 rfl ?_
                refine tkk 1 rfl ?_
                refine tkk 2 rfl ?_
                refine tkk 3 rfl ?_
                refine tkk 4 rfl ?_
                refine tkk 5 rfl ?_
                refine tkk 6 rfl ?_
                refine tkk 7 rfl ?_
                refine tkk 8 rfl ?_
                refine tkk 9 rfl ?_
                refine tkk 10 rfl ?_
                (try simp only [cl, Act.put])
                refine rd 11 rfl fun K hK => ?_
                go_simp
                (first
                  | (go_at_call 29; (refine (RA.out _ hHeld.2).mono ?_); rintro e5 w5 ⟨rfl, hb⟩)
                  | (go_at_call 18; (refine (FA.out _ hHeld.2).mono ?_); rintro e5 w5 ⟨rfl, hb⟩)
                  | (go_at_call 28; (first | (with_reducible refine (SU.out _ hHeld.2).mono ?_) | (with_reducible refine (SF.out _ hHeld.2).mono ?_)); rintro e5 w5 ⟨rfl, hb⟩))
                go_wp2_with fail
                refine hK.out _ _ (STB.out _ _ hb (by with_reducible assumption)) (fun hH2 => ?_)
                clear hK K hHeld hb; have hHeld := hH2; clear hH2
                (try simp only [cl, Act.put])
                refine tkk 12 rfl ?_
                refine tkk 13 rfl ?_
                refine tkk 14 rfl ?_
                refine tkk 15 rfl ?_
                refine tkk 16 rfl ?_
                refine tkk 17 rfl ?_
                refine tkk 18 rfl ?_
                refine tkk 19 rfl ?_
                refine tkk 20 rfl ?_
                refine tkk 21 rfl ?_
                refine tkk 22 rfl ?_
                refine tkk 23 rfl ?_
                refine tkk 24 rfl ?_
                refine tkk 25 rfl ?_
                refine tkk 27 rfl ?_
                refine tkk 28 rfl ?_
                refine tkk 29 rfl ?_
                (try simp only [cl, Act.put])
                refine rd 26 rfl fun K hK => ?_
                go_simp
                (first
                  | (go_at_call 29; (refine (RA.out _ hHeld.2).mono ?_); rintro e5 w5 ⟨rfl, hb⟩)
                  | (go_at_call 18; (refine (FA.out _ hHeld.2).mono ?_); rintro e5 w5 ⟨rfl, hb⟩)
                  | (go_at_call 28; (first | (with_reducible refine (SU.out _ hHeld.2).mono ?_) | (with_reducible refine (SF.out _ hHeld.2).mono ?_)); rintro e5 w5 ⟨rfl, hb⟩))
                go_wp2_with fail
                refine hK.out _ _ (STB.out _ _ hb (by with_reducible assumption)) (fun hH2 => ?_)
                clear hK K hHeld hb; have hHeld := hH2; clear hH2
                (try simp only [cl, Act.put])
                refine tkk 30 rfl ?_
                refine tkk 31 rfl ?_
                refine tkk 32 rfl ?_
                refine tkk 33 rfl ?_
                refine tkk 34 rfl ?_
                refine tkk 36 rfl ?_
                refine tkk 37 rfl ?_
                refine tkk 38 rfl ?_
                refine tkk 39 rfl ?_
                refine tkk 40 rfl ?_
                refine tkk 41 rfl ?_
                refine tkk 42 rfl ?_
                refine tkk 43 rfl ?_
                (try simp only [cl, Act.put])
                refine rd 35 rfl fun K hK => ?_
                go_simp
                (first
                  | (go_at_call 29; (refine (RA.out _ hHeld.2).mono ?_); rintro e5 w5 ⟨rfl, hb⟩)
                  | (go_at_call 18; (refine (FA.out _ hHeld.2).mono ?_); rintro e5 w5 ⟨rfl, hb⟩)
                  | (go_at_call 28; (first | (with_reducible refine (SU.out _ hHeld.2).mono ?_) | (with_reducible refine (SF.out _ hHeld.2).mono ?_)); rintro e5 w5 ⟨rfl, hb⟩))
                go_wp2_with fail
                refine hK.out _ _ (STB.out _ _ hb (by with_reducible assumption)) (fun hH2 => ?_)
                clear hK K hHeld hb; have hHeld := hH2; clear hH2
                (try simp only [cl, Act.put])
                refine rd 44 rfl fun K hK => ?_
                go_simp
                (first
                  | (go_at_call 29; (refine (RA.out _ hHeld.2).mono ?_); rintro e5 w5 ⟨rfl, hb⟩)
                  | (go_at_call 18; (refine (FA.out _ hHeld.2).mono ?_); rintro e5 w5 ⟨rfl, hb⟩)
                  | (go_at_call 28; (first | (with_reducible refine (SU.out _ hHeld.2).mono ?_) | (with_reducible refine (SF.out _ hHeld.2).mono ?_)); rintro e5 w5 ⟨rfl, hb⟩))
                go_wp2_with fail
                refine hK.out _ _ (STB.out _ _ hb (by with_reducible assumption)) (fun hH2 => ?_)
                clear hK K hHeld hb; have hHeld := hH2; clear hH2
                (try simp only [cl, Act.put])
                refine tkk 45 rfl ?_
                refine tkk 46 rfl ?_
                (try simp only [cl, Act.put])
                refine wpAnyH_done (by kernel_rfl) ?_ _
                refine NoPanic.normal ?_
                have n1' := L6.out.2.1.cell 1
                have n2' := L6.out.2.1.cell 2
                have x1' := keep_any L6.out.2.2 (show wr.cell? _ = some _ from D1.out)
                simp only [List.getElem?_toArray, List.getElem?_cons_zero, List.getElem?_cons_succ] at n1' n2'
                have n1 := keep_any hHeld.2 n1'
                have n2 := keep_any hHeld.2 n2'
                have x1 := keep_any hHeld.2 x1'
                have LZ := Lib.hid (And.intro (L6.out.1.keep hHeld.2) (L6.out.2.1.keep hHeld.2))
                clear hHeld n1' n2' x1' STB
                have v0 : (0 : Int) ≤ (at_ : Int) := by omega
                have v1 : (at_ : Int) ≤ 32 := by have := HI.out.2.2.2.2.2.1; have := HF.out.2.1; omega
                have v2 : (0 : Int) ≤ (t : Int) := by omega
                have v3 : (t : Int) ≤ 32 := by have := HK.out.2.2.2.2.2; have := HF.out.2.1; omega
                cases hT : x.testBit at_ with
                | false =>
                  have b1 := bit_eq x at_ HO.out.2.2.2.2.1
                  rw [hT] at b1
                  clear hT
                  go_wp2_with fail
                  go_roundg (outs.length - (k + 1))
                  case measure => have := HK.out.1; have := HK.out.2.1; omega
                  case rel => exact ⟨k + 1, by push_cast; rfl, HK.out.1, rfl, LZ.out.2, LZ.out.1⟩
                | true =>
                  have b1 := bit_eq x at_ HO.out.2.2.2.2.1
                  have b2 := bit_eq0 sa t LA.out.1
                  rw [hT] at b1
                  rw [TB.out hT] at b2
                  have b3 : (bits .and .u32 ((sa : Int) / 2 ^ t) 1 == 0) = false := b2
                  clear hT b2
                  go_wp2_with fail
                  go_roundg (outs.length - (k + 1))
                  case measure => have := HK.out.1; have := HK.out.2.1; omega
                  case rel => exact ⟨k + 1, by push_cast; rfl, HK.out.1, rfl, LZ.out.2, LZ.out.1⟩
    · have t1 : (r1 != 0) = true := by rw [bne_iff_ne]; exact hq
      have t2 : (r1 == 0) = false := beq_eq_false_iff_ne.mpr hq
      have HQ := Lib.hid hq
      clear hq
      go_upto_region 4 with (go_at_call 12; (refine (NW.out _ B2.out.b HQ.out).mono ?_); rintro e4 w4 ⟨rfl, hb⟩; have B3 := Lib.hid (B2.out.keep hb); clear hb)
      clear c0 c1 c2
      have c0 := B3.out.p.cell 0
      have c1 := B3.out.p.cell 1
      have c2 := B3.out.p.cell 2
      simp only [List.getElem?_toArray, List.getElem?_cons_zero, List.getElem?_cons_succ] at c0 c1 c2
      go_wp2_with (go_at_call 11; (refine (RW.out _ B3.out.b).mono ?_); rintro e3 w3 ⟨rfl, hb⟩; have B4 := Lib.hid (B3.out.keep hb); clear hb)
      go_ret
      exact ⟨rfl, B4.out.b⟩
  · rw [decide_eq_false hs] at SM
    clear hs
    go_enter Try.func5, Try.ntmps5
    go_upto_region 1 with fail
    generalize (w.alloc (.cells #[txt p.name, .slice As p.states.length cs, .slice Am rs.length cm] 25)) = W0 at *
    go_upto_region 2 with (first
      | (go_at_call 8; (refine (AW.out _).mono ?_); rintro e1 w1 ⟨rfl, hb⟩; have B1 := Lib.hid (S0.out.keep hb); clear hb; have c0 := B1.out.p.cell 0; have c1 := B1.out.p.cell 1; have c2 := B1.out.p.cell 2; simp only [List.getElem?_toArray, List.getElem?_cons_zero, List.getElem?_cons_succ] at c0 c1 c2)
      | (go_at_call 9; (refine (SM.out _ B1.out.b).mono ?_); rintro e2 w2 ⟨rfl, hb⟩; have B2 := Lib.hid (B1.out.keep hb); clear hb))
    go_wp2_with (go_at_call 8; (refine (AW.out _).mono ?_); rintro e3 w3 ⟨rfl, hb⟩)
    go_ret
    exact ⟨rfl, B2.out.b.trans (hb.mono B2.out.b.size)⟩
theorem u32_nat {n : Int} (h : (Lit.int .u32 n).wf = true) : ∃ k : Nat, n = k ∧ k < 4294967296 := by
  simp only [Lit.wf, Bool.and_eq_true, decide_eq_true_eq] at h
  have a : IntKind.u32.min = 0 := by decide
  have b : IntKind.u32.max = 4294967295 := by decide
  rw [a, b] at h
  exact ⟨n.toNat, by omega, by omega⟩
theorem autosteps_any (w : World) (vs vm : Value) (p : Pro) (h : ProAt w vs vm p) (hr : RchP p) (x : Int) (hx : (Lit.int .u32 x).wf = true) (y : Int) (hy : (Lit.int .u32 y).wf = true) :
    Calls Try.prog 5 #[proV vs vm p, .int .u32 x, .int .u32 y] w fun e w' => e = .returned (.bool true) ∧ Below w.heap.size w w' := by
  obtain ⟨a, rfl, ha⟩ := u32_nat hx
  obtain ⟨b, rfl, hb⟩ := u32_nat hy
  exact autosteps_nat w vs vm p h hr a b ha hb
end Go.Proofs.Ytopokobifbcdbaa
