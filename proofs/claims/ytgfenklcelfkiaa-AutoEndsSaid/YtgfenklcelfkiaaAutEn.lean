/-
  The walk of the statement AutoEnds. (Template: by-name.py fills it; gen/genAutEn.py writes it.)
-/
import Derived.Test.YtgfenklcelfkiaaAutEm
namespace Go.Proofs.Ytgfenklcelfkiaa
open Go.RowKit

set_option maxRecDepth 100000 in
set_option maxHeartbeats 16000000 in
theorem autoends_nat (w : World) (vs vm : Value) (p : Pro) (h : ProAt w vs vm p) (hr : RchP p) (x : Nat) (hx : x < 256) :
    Calls Try.prog 4 #[proV vs vm p, .int .u8 (x : Int)] w fun e w' => e = .returned (.bool true) ∧ Below w.heap.size w w' := by
  have HP := Lib.hid (fun (v : World) (hb : Below w.heap.size w v) => h.below hb)
  have SM := Lib.hid (fun (v : World) (hb : Below w.heap.size w v) => rsmall_any v _ _ p (h.below hb) hr.cnt)
  have HPS := Lib.hid h.states
  obtain ⟨As, cs, rfl, _⟩ := h.states.len
  obtain ⟨rs, hm, Am, cm, rfl, _, _, hM, hE⟩ := h.moves
  have hml := moves_len hm
  have AW := Lib.hid (fun (v : World) => awake_yes v)
  have a1 := below_alloc1 w (.cells #[txt p.name, .slice As p.states.length cs, .slice Am rs.length cm] 25)
  have B1 := Blk.start w #[txt p.name, .slice As p.states.length cs, .slice Am rs.length cm] 25
  have S0 := Lib.hid (WrS.mk B1 a1)
  have HR := Lib.hid hr
  have HO := Lib.hid (And.intro hM (And.intro hE (And.intro hm (And.intro hml hx))))
  clear h hr a1 B1 hM hE hm hml hx
  by_cases hs : sizeP p ≤ 80
  · rw [decide_eq_true hs] at SM
    have hz := HR.out.sz hs
    have HZ := Lib.hid hz
    have RW := Lib.hid (fun (v : World) (hb : Below w.heap.size w v) => rwrong_any v _ _ p (HP.out v hb) hz)
    have NR := Lib.hid (fun (v : World) (hb : Below w.heap.size w v) => new_right v _ _ p (HP.out v hb) hz)
    have NW := Lib.hid (fun (v : World) (hb : Below w.heap.size w v) => new_wrong v _ _ p (HP.out v hb) hz)
    have WN := Lib.hid (fun h => wrong_none (p := p) h)
    generalize wrongP p = R at *
    obtain ⟨r1, r2⟩ := R
    dsimp only at RW NR NW WN
    clear hs hz
    go_enter Try.func4, Try.ntmps4
    go_upto_region 1 with fail
    generalize (w.alloc (.cells #[txt p.name, .slice As p.states.length cs, .slice Am rs.length cm] 25)) = W0 at *
    go_upto_region 3 with (first
      | (go_at_call 6; (refine (AW.out _).mono ?_); rintro e1 w1 ⟨rfl, hb⟩; have B1 := Lib.hid (S0.out.keep hb); clear hb; have c0 := B1.out.p.cell 0; have c1 := B1.out.p.cell 1; have c2 := B1.out.p.cell 2; simp only [List.getElem?_toArray, List.getElem?_cons_zero, List.getElem?_cons_succ] at c0 c1 c2)
      | (go_at_call 7; (refine (SM.out _ B1.out.b).mono ?_); rintro e2 w2 ⟨rfl, hb⟩; have B2 := Lib.hid (B1.out.keep hb); clear hb))
    clear c0 c1 c2
    have c0 := B2.out.p.cell 0
    have c1 := B2.out.p.cell 1
    have c2 := B2.out.p.cell 2
    simp only [List.getElem?_toArray, List.getElem?_cons_zero, List.getElem?_cons_succ] at c0 c1 c2
    by_cases hq : r1 = 0
    · subst hq
      obtain ⟨hf, hn0, hn, h1, hfm, hgo⟩ := WN.out rfl
      have HF := Lib.hid (And.intro hf (And.intro hn (And.intro h1 (And.intro hfm (And.intro hn0 hgo)))))
      clear hf hn0 hn h1 hfm hgo
      go_upto_region 4 with (go_at_call 8; (refine (NR.out _ B2.out.b rfl).mono ?_); rintro e4 w4 ⟨a, rfl, ha, _, hb⟩; have B3 := Lib.hid (LwS.mk (B2.out.p.keep hb) ha (B2.out.b.trans (hb.mono B2.out.b.size))); clear ha hb)
      clear c0 c1 c2
      have c0 := B3.out.p.cell 0
      have c1 := B3.out.p.cell 1
      have c2 := B3.out.p.cell 2
      simp only [List.getElem?_toArray, List.getElem?_cons_zero, List.getElem?_cons_succ] at c0 c1 c2
      go_upto_region 5 with (go_at_call 9; (refine (RW.out _ B3.out.b).mono ?_); rintro e3 w3 ⟨rfl, hb⟩; have B4 := Lib.hid (B3.out.keep hb); clear hb)
      clear c0 c1 c2
      have nn : (binOp .eql 28 (.pointer (some ⟨a, 0, none⟩)) (.pointer none)).run Try.prog w3 = .ok (.bool false) w3 := by kernel_rfl
      clear RW NR NW WN SM AW
      have SX0 := Lib.hid (fun (v : World) (ha : AutAt v a p) (S : Nat) (hS : S < 4294967296) (op nm : List UInt8) => step_any v a p ha HZ.out HF.out.1 HF.out.2.1 S hS op nm)
      have FX := Lib.hid (fun (v : World) (ha : AutAt v a p) => afinals_any v a p ha HF.out.2.1)
      have EX := Lib.hid (fun (v : World) (ha : AutAt v a p) (op : List UInt8) => enabled_any v a p ha HZ.out HF.out.1 HF.out.2.1 op)
      have OX := Lib.hid (fun (v : World) (ha : AutAt v a p) (op : List UInt8) => outcomes_any v a p ha HZ.out op)
      have PX := Lib.hid (fun (v : World) (ha : AutAt v a p) => ops_any v a p ha HZ.out)
      have hfl : finalS p < 4294967296 := setF_small HF.out.2.1
      have FL := Lib.hid hfl
      have EF := Lib.hid (fun (op : List UInt8) => show bits .and .u32 (enS p op : Int) (finalS p : Int) = 0 from by
        rw [u32_and_nat _ _ (enS_lt HF.out.1 HF.out.2.1 op) hfl, enabled_fin HF.out.2.2.2.1]; rfl)
      have AFN := Lib.hid (fun (S : Nat) (hS : S < 4294967296) => u32_and_nat S (finalS p) hS hfl)
      have NE := Lib.hid (fun (S : Nat) (h : Near p S 0) => near_end h)
      have NN := Lib.hid (fun (S k : Nat) (h : Near p S (k + 1)) (hz : S &&& finalS p = 0) => near_next HF.out.1 h hz)
      have hk : (wrap64 (x : Int)).tmod (p.states.length : Int) = ((x % p.states.length : Nat) : Int) := by
        rw [show wrap64 (x : Int) = (x : Int) from by have := HO.out.2.2.2.2; unfold wrap64; omega]
        exact (Int.ofNat_tmod x p.states.length).symm
      have hn0 : p.states.length ≠ 0 := by have := HF.out.2.2.2.2.1; omega
      have hxn : x % p.states.length < p.states.length := Nat.mod_lt _ (by omega)
      have N0 := Lib.hid (show Near p (2 ^ (x % p.states.length)) p.states.length from ⟨x % p.states.length, hxn, by rw [Nat.testBit_two_pow]; simp, HF.out.2.2.2.2.2 _ hxn⟩)
      have L0 := Lib.hid (show 2 ^ (x % p.states.length) < 2 ^ p.states.length from Nat.pow_lt_pow_right (by omega) hxn)
      have hn16 := HF.out.2.1
      generalize x % p.states.length = j0 at *
      have sh := shl_eq (k := j0) (by omega)
      have H16 := Lib.hid hn16
      have k0 : (0 : Int) ≤ (j0 : Int) := by omega
      have k1 : (j0 : Int) ≤ 32 := by omega
      have c1 := B4.out.p.cell 1
      simp only [List.getElem?_toArray, List.getElem?_cons_zero, List.getElem?_cons_succ] at c1
      clear hxn hn16 hfl
      go_upto_region 11 with (go_at_call 11; (refine (PX.out _ B4.out.a).mono ?_); rintro e5 w5 ⟨v, rfl, hO, hb⟩; have B5 := Lib.hid (And.intro (B4.out.keep hb) hO); clear hb hO)
      obtain ⟨Ao, co, e5⟩ := own_shape B5.out.2
      subst e5
      clear nn sh hk hn0 k0 k1 c1
      have ol := Lib.hid (show (opsL p).length ≤ 80 from by
        have := opMs_len p.moves []
        have := HZ.out.mv
        unfold opsL
        simp only [List.length_nil] at *
        omega)
      generalize finalS p = fs at *
      have NX0 := Lib.hid (show ∀ S k, Near p S (k + 1) → S &&& fs = 0 → Near p (nextF p S S (opsL p)) k from NN.out)
      generalize hOL : opsL p = OL at *
      clear hOL NN
      generalize w3.heap.size = b0 at *
      have z0 : ((2 : Int) ^ j0) = ((2 ^ j0 : Nat) : Int) := by norm_cast
      rw [z0]
      clear z0
      go_wp2_with fail
      go_loopg [9, 11] (p.states.length + 1) (fun g v9 v11 wr => ∃ i S : Nat, v11 = .int .i64 i ∧ v9 = .int .u32 (S : Int) ∧ i ≤ p.states.length ∧ g = p.states.length + 1 - i ∧ S < 2 ^ p.states.length ∧ Near p S (p.states.length - i) ∧ LwS w wr w.heap.size #[txt p.name, .slice As p.states.length cs, .slice Am rs.length cm] a p ∧ TxtOwn wr b0 (.slice Ao OL.length co) OL)
      case atStart => exact ⟨0, 2 ^ j0, rfl, rfl, Nat.zero_le _, rfl, L0.out, N0.out, B5.out.1, B5.out.2⟩
      case round =>
        obtain ⟨i, S, rfl, rfl, hi, hg, hS, hN, hL, hO⟩ := hrel
        have c1 := hL.p.cell 1
        simp only [List.getElem?_toArray, List.getElem?_cons_zero, List.getElem?_cons_succ] at c1
        have hs32 := small_of hS H16.out
        have an := AFN.out S hs32
        have FC := Lib.hid (FX.out wr hL.a)
        have j1 : (i : Int) ≤ (p.states.length : Int) := by omega
        have wi : IntKind.i64.wrap ((i : Int) + 1) = (i : Int) + 1 := IntWalk.i64_in _ (by have := H16.out; omega)
        by_cases hz : S &&& fs = 0
        · replace an : bits .and .u32 (S : Int) (fs : Int) = 0 := by rw [an, hz]; rfl
          have hin : i < p.states.length := by
            rcases Nat.lt_or_eq_of_le hi with q | q
            · exact q
            · subst q
              rw [Nat.sub_self] at hN
              exact absurd hz (NE.out S hN)
          have HI := Lib.hid (And.intro hin (And.intro hg (And.intro hS (And.intro hN (And.intro hL (And.intro hO (And.intro hz hs32)))))))
          clear hi hg hS hN hL hO hz hs32 hin
          go_upto_region 17 with (go_at_call 13; (refine FC.out.mono ?_); rintro e6 w6 ⟨rfl, hb⟩; have H6 := Lib.hid (And.intro (HI.out.2.2.2.2.1.keep hb) (ownRow_below HI.out.2.2.2.2.2.1 hb)); clear hb)
          clear c1 an FC
          generalize wr = wq at *
          go_wp2_with fail
          go_loopg [12, 13] OL.length (fun g v12 v13 wr => ∃ k : Nat, v13 = .int .i64 k ∧ v12 = .int .u32 ((nextF p S S (OL.take k) : Nat) : Int) ∧ k ≤ OL.length ∧ g = OL.length - k ∧ LwS w wr w.heap.size #[txt p.name, .slice As p.states.length cs, .slice Am rs.length cm] a p ∧ TxtOwn wr b0 (.slice Ao OL.length co) OL)
          case atStart => exact ⟨0, rfl, rfl, Nat.zero_le _, rfl, H6.out.1, H6.out.2⟩
          case round =>
            obtain ⟨k, rfl, rfl, hk, hg, hL, hO⟩ := hrel
            by_cases hkn : k = OL.length
            · have j3 : decide (k < OL.length) = false := decide_eq_false (by omega)
              rw [hkn, List.take_length]
              rw [hkn] at j3
              have NX := Lib.hid (And.intro hL hO)
              clear hk hg hL hO hkn
              go_wp2_with fail
              go_roundg (p.states.length + 1 - (i + 1))
              case measure => have := HI.out.1; have := HI.out.2.1; omega
              case rel => exact ⟨i + 1, nextF p S S OL, by push_cast; rfl, rfl, HI.out.1, rfl, nextF_lt HF.out.1 S OL S HI.out.2.2.1, NX0.out S _ (by have := HI.out.1; rw [show p.states.length - (i + 1) + 1 = p.states.length - i by omega]; exact HI.out.2.2.2.1) HI.out.2.2.2.2.2.2.1, NX.out⟩
            · have hlt : k < OL.length := by omega
              obtain ⟨op, hx⟩ : ∃ op, OL[k]? = some op := ⟨_, List.getElem?_eq_getElem hlt⟩
              obtain ⟨go, cp, e3, _⟩ := World.ownsRow.form hO (by omega)
              injection e3 with e3 _ e4
              subst e3 e4
              have dk := show (OL.map txt)[k]? = some (txt op) by rw [List.getElem?_map, hx]; rfl
              have d0 := (World.ownsRow.cellAt hO k (by omega)).trans dk
              have nx := nextF_next (p := p) (S := S) (N := S) hx
              have sN := nextF_lt HF.out.1 S (OL.take k) S HI.out.2.2.1
              have j3 : (k : Int) < (OL.length : Int) := by omega
              have j4 : (0 : Int) ≤ (k : Int) := by omega
              have wk : IntKind.i64.wrap ((k : Int) + 1) = (k : Int) + 1 := IntWalk.i64_in _ (by have := ol.out; omega)
              have oc := Lib.hid (show (outcomesL p op).length ≤ 6400 from by
                have := outMs_len op p.moves [] HZ.out.out
                have := HZ.out.mv
                unfold outcomesL
                simp only [List.length_nil] at *
                omega)
              have OC := Lib.hid (OX.out wr hL.a op)
              have ef := EF.out op
              generalize nextF p S S (OL.take k) = N at *
              generalize hM : outcomesL p op = M at *
              have HK := Lib.hid (And.intro hlt (And.intro hg (And.intro hL (And.intro hO (And.intro nx (And.intro sN (And.intro dk hM)))))))
              clear hkn hlt hk hg hL hO hx nx sN dk hM
              go_upto_region 21 with (go_at_call 15; (refine OC.out.mono ?_); rintro e7 w7 ⟨v, rfl, hM, hb⟩; have H7 := Lib.hid (And.intro (HK.out.2.2.1.keep hb) (And.intro (ownRow_below HK.out.2.2.2.1 hb) hM)); clear hb hM)
              obtain ⟨Am', cm', e9⟩ := own_shape H7.out.2.2
              subst e9
              clear d0 OC
              generalize wr.heap.size = b1 at *
              generalize wr = wq2 at *
              go_wp2_with fail
              go_loopg [12, 15] M.length (fun g v12 v15 wr => ∃ q : Nat, v15 = .int .i64 q ∧ v12 = .int .u32 ((orF p S op N (M.take q) : Nat) : Int) ∧ q ≤ M.length ∧ g = M.length - q ∧ LwS w wr w.heap.size #[txt p.name, .slice As p.states.length cs, .slice Am rs.length cm] a p ∧ TxtOwn wr b0 (.slice (some ⟨go, 0, none⟩) OL.length co) OL ∧ TxtOwn wr b1 (.slice Am' M.length cm') M)
              case atStart => exact ⟨0, rfl, rfl, Nat.zero_le _, rfl, H7.out⟩
              case round =>
                obtain ⟨q, rfl, rfl, hq, hg, hL, hO, hM⟩ := hrel
                have d0 := (World.ownsRow.cellAt hO k (by have := HK.out.1; omega)).trans HK.out.2.2.2.2.2.2.1
                by_cases hqn : q = M.length
                · have j5 : decide (q < M.length) = false := decide_eq_false (by omega)
                  rw [hqn, List.take_length]
                  rw [hqn] at j5
                  have EC := Lib.hid (EX.out wr hL.a op)
                  have FC := Lib.hid (fun (v : World) (hb : Below wr.heap.size wr v) => FX.out v (hL.a.below hb))
                  have NX := Lib.hid (And.intro hL hO)
                  clear hq hg hL hO hM hqn
                  go_wp2_with (first
                    | (go_at_call 17; (refine EC.out.mono ?_); rintro e8 w8 ⟨rfl, hb⟩; have H8 := Lib.hid hb; clear hb)
                    | (go_at_call 13; (refine (FC.out _ H8.out).mono ?_); rintro e9 w9 ⟨rfl, hb⟩; have H9 := Lib.hid (H8.out.trans (hb.mono H8.out.size)); clear hb))
                  go_roundg (OL.length - (k + 1))
                  case measure => have := HK.out.1; have := HK.out.2.1; omega
                  case rel => exact ⟨k + 1, by push_cast; rfl, by rw [HK.out.2.2.2.2.1], HK.out.1, rfl, NX.out.1.keep H9.out, ownRow_below NX.out.2 H9.out⟩
                · have hlt : q < M.length := by omega
                  obtain ⟨nm, hx⟩ : ∃ nm, M[q]? = some nm := ⟨_, List.getElem?_eq_getElem hlt⟩
                  obtain ⟨gn, cp2, e3, _⟩ := World.ownsRow.form hM (by omega)
                  injection e3 with e3 _ e4
                  subst e3 e4
                  have d1 := (World.ownsRow.cellAt hM q (by omega)).trans (show (M.map txt)[q]? = some (txt nm) by rw [List.getElem?_map, hx]; rfl)
                  have nx := orF_next (p := p) (S := S) (op := op) (N := N) hx
                  have sO := small_of (orF_lt HF.out.1 S op (M.take q) N HK.out.2.2.2.2.2.1) H16.out
                  have sS := step_lt HF.out.1 HF.out.2.1 S op nm
                  have j5 : (q : Int) < (M.length : Int) := by omega
                  have j6 : (0 : Int) ≤ (q : Int) := by omega
                  have wq : IntKind.i64.wrap ((q : Int) + 1) = (q : Int) + 1 := IntWalk.i64_in _ (by have := oc.out; omega)
                  have SC := Lib.hid (fun (v : World) (hb : Below wr.heap.size wr v) => SX0.out v (hL.a.below hb) S HI.out.2.2.2.2.2.2.2 op nm)
                  generalize stepS p S op nm = sx at *
                  generalize orF p S op N (M.take q) = sq at *
                  have hor := u32_or_nat sq sx sO sS
                  have HQ := Lib.hid (And.intro hlt (And.intro hg (And.intro hL (And.intro hO (And.intro hM nx)))))
                  clear hqn hlt hq hg hL hO hM hx nx sO sS
                  go_upto_region 24 with fail
                  have STB := Lib.hid (show Stab (fun v => (v.cell? ⟨go, k, none⟩ = some (txt op) ∧ v.cell? ⟨gn, q, none⟩ = some (txt nm)) ∧ Below wr.heap.size wr v) from stab_and (stab_and (stab_cell _ _) (stab_cell _ _)) (stab_below wr))
                  have HS : (wr.drew.cell? ⟨go, k, none⟩ = some (txt op) ∧ wr.drew.cell? ⟨gn, q, none⟩ = some (txt nm)) ∧ Below wr.heap.size wr wr.drew := ⟨⟨d0, d1⟩, belowD wr⟩
                  clear d0 d1
                  refine wp_region_noPanic ?_
                  refine wp_region_held_drew (S := (fun v => (v.cell? ⟨go, k, none⟩ = some (txt op) ∧ v.cell? ⟨gn, q, none⟩ = some (txt nm)) ∧ Below wr.heap.size wr v)) (by kernel_rfl) HS (fun hHeld => ?_)
                  clear HS
                  refine tkk 0 rfl ?_
                  refine tkk 1 rfl ?_
                  refine tkk 2 rfl ?_
                  refine tkk 3 rfl ?_
                  refine tkk 4 rfl ?_
                  refine tkk 5 rfl ?_
                  refine tkk 6 rfl ?_
                  refine tkk 7 rfl ?_
                  refine tkk 8 rfl ?_
                  refine tkk 9 rfl ?_
                  refine tkk 10 rfl ?_
                  (try simp only [cl, Act.put])
                  refine rd 11 rfl fun K hK => ?_
                  go_simp
                  (go_at_call 23; (refine (SC.out _ hHeld.2).mono ?_); rintro e9 w9 ⟨rfl, hb⟩)
                  go_wp2_with fail
                  refine hK.out _ _ (STB.out _ _ hb (by with_reducible assumption)) (fun hH2 => ?_)
                  clear hK K hHeld hb; have hHeld := hH2; clear hH2
                  (try simp only [cl, Act.put])
                  refine tkk 12 rfl ?_
                  refine tkk 13 rfl ?_
                  (try simp only [cl, Act.put])
                  refine wpAnyH_done (by kernel_rfl) ?_ _
                  refine NoPanic.normal ?_
                  have H9 := Lib.hid hHeld.2
                  clear hHeld
                  go_wp2_with fail
                  go_roundg (M.length - (q + 1))
                  case measure => have := HQ.out.1; have := HQ.out.2.1; omega
                  case rel => exact ⟨q + 1, by push_cast; rfl, by rw [HQ.out.2.2.2.2.2, ← hor], HQ.out.1, rfl, HQ.out.2.2.1.keep H9.out, ownRow_below HQ.out.2.2.2.1 H9.out, ownRow_below HQ.out.2.2.2.2.1 H9.out⟩
        · have t1 : (((S &&& fs : Nat) : Int) != 0) = true := by rw [bne_iff_ne]; omega
          generalize S &&& fs = sf at *
          have HI := Lib.hid hL
          clear hi hg hS hN hL hO hz hs32
          go_wp2_with (go_at_call 13; (refine FC.out.mono ?_); rintro e6 w6 ⟨rfl, hb⟩; have H6 := Lib.hid (HI.out.keep hb); clear hb)
          go_ret
          exact ⟨rfl, H6.out.b⟩
    · have t1 : (r1 != 0) = true := by rw [bne_iff_ne]; exact hq
      have t2 : (r1 == 0) = false := beq_eq_false_iff_ne.mpr hq
      have HQ := Lib.hid hq
      clear hq
      go_upto_region 4 with (go_at_call 8; (refine (NW.out _ B2.out.b HQ.out).mono ?_); rintro e4 w4 ⟨rfl, hb⟩; have B3 := Lib.hid (B2.out.keep hb); clear hb)
      clear c0 c1 c2
      have c0 := B3.out.p.cell 0
      have c1 := B3.out.p.cell 1
      have c2 := B3.out.p.cell 2
      simp only [List.getElem?_toArray, List.getElem?_cons_zero, List.getElem?_cons_succ] at c0 c1 c2
      go_wp2_with (go_at_call 9; (refine (RW.out _ B3.out.b).mono ?_); rintro e3 w3 ⟨rfl, hb⟩; have B4 := Lib.hid (B3.out.keep hb); clear hb)
      go_ret
      exact ⟨rfl, B4.out.b⟩
  · rw [decide_eq_false hs] at SM
    clear hs
    go_enter Try.func4, Try.ntmps4
    go_upto_region 1 with fail
    generalize (w.alloc (.cells #[txt p.name, .slice As p.states.length cs, .slice Am rs.length cm] 25)) = W0 at *
    go_upto_region 2 with (first
      | (go_at_call 6; (refine (AW.out _).mono ?_); rintro e1 w1 ⟨rfl, hb⟩; have B1 := Lib.hid (S0.out.keep hb); clear hb; have c0 := B1.out.p.cell 0; have c1 := B1.out.p.cell 1; have c2 := B1.out.p.cell 2; simp only [List.getElem?_toArray, List.getElem?_cons_zero, List.getElem?_cons_succ] at c0 c1 c2)
      | (go_at_call 7; (refine (SM.out _ B1.out.b).mono ?_); rintro e2 w2 ⟨rfl, hb⟩; have B2 := Lib.hid (B1.out.keep hb); clear hb))
    go_wp2_with (go_at_call 6; (refine (AW.out _).mono ?_); rintro e3 w3 ⟨rfl, hb⟩)
    go_ret
    exact ⟨rfl, B2.out.b.trans (hb.mono B2.out.b.size)⟩

theorem u8_nat {n : Int} (h : (Lit.int .u8 n).wf = true) : ∃ k : Nat, n = k ∧ k < 256 := by
  simp only [Lit.wf, Bool.and_eq_true, decide_eq_true_eq] at h
  have a : IntKind.u8.min = 0 := by decide
  have b : IntKind.u8.max = 255 := by decide
  rw [a, b] at h
  exact ⟨n.toNat, by omega, by omega⟩
theorem autoends_any (w : World) (vs vm : Value) (p : Pro) (h : ProAt w vs vm p) (hr : RchP p) (x : Int) (hx : (Lit.int .u8 x).wf = true) :
    Calls Try.prog 4 #[proV vs vm p, .int .u8 x] w fun e w' => e = .returned (.bool true) ∧ Below w.heap.size w w' := by
  obtain ⟨a, rfl, ha⟩ := u8_nat hx
  exact autoends_nat w vs vm p h hr a ha
end Go.Proofs.Ytgfenklcelfkiaa
