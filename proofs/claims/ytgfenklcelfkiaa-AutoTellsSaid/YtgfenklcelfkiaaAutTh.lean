/-
  The walk of the statement AutoTells. (Template: by-name.py fills it; gen/genAutTh.py writes it.)
-/
import Derived.Test.YtgfenklcelfkiaaAutTg
namespace Go.Proofs.Ytgfenklcelfkiaa
open Go.RowKit

theorem outs_le {p : Pro} (hz : SzP p) (i : Int) (op : List UInt8) : (outsOf p.moves i op).length ≤ 80 := by
  unfold outsOf
  split
  · rename_i m he
    exact hz.out m (List.mem_of_find?_eq_some he)
  · exact Nat.zero_le _
/-- The name with the states' names behind it. -/
def catN (nm : List UInt8) (ss : List Sta) : List UInt8 := ss.foldl (fun n s => n ++ s.name) nm
theorem catN_len (b : Nat) : ∀ (ss : List Sta) (nm : List UInt8), (∀ s ∈ ss, s.name.length ≤ b) → nm.length ≤ (catN nm ss).length ∧ (∀ s ∈ ss, s.name.length ≤ (catN nm ss).length) ∧ (catN nm ss).length ≤ nm.length + ss.length * b
  | [], nm, _ => by simp [catN]
  | x :: r, nm, h => by
    obtain ⟨h1, h2, h3⟩ := catN_len b r (nm ++ x.name) (fun s hs => h s (List.mem_cons_of_mem _ hs))
    have hx := h x (List.mem_cons_self ..)
    have e : catN nm (x :: r) = catN (nm ++ x.name) r := rfl
    rw [e, List.length_cons, Nat.add_mul]
    rw [List.length_append] at h1 h3
    refine ⟨by omega, fun s hs => ?_, by omega⟩
    rcases List.mem_cons.1 hs with rfl | hs
    · omega
    · exact h2 s hs
theorem catN_next {ss : List Sta} {k : Nat} {s : Sta} (nm : List UInt8) (h : ss[k]? = some s) : catN nm (ss.take (k + 1)) = catN nm (ss.take k) ++ s.name := by
  unfold catN
  rw [List.take_add_one, h, List.foldl_append]; rfl
theorem cat_ba (a b : List UInt8) : (⟨a.toArray⟩ : ByteArray) ++ ⟨b.toArray⟩ = ⟨(a ++ b).toArray⟩ := by
  apply ByteArray.ext
  simp [ByteArray.data_append]
set_option maxRecDepth 100000 in
set_option maxHeartbeats 32000000 in
theorem autotells_nat (w : World) (vs vm : Value) (p : Pro) (h : ProAt w vs vm p) (hr : RchP p) (op name : List UInt8) :
    Calls Try.prog 3 #[proV vs vm p, txt op, txt name] w fun e w' => e = .returned (.bool true) ∧ Below w.heap.size w w' := by
  have HP := Lib.hid (fun (v : World) (hb : Below w.heap.size w v) => h.below hb)
  have SM := Lib.hid (fun (v : World) (hb : Below w.heap.size w v) => rsmall_any v _ _ p (h.below hb) hr.cnt)
  obtain ⟨As, cs, rfl, _, _, hSt, _⟩ := h.states
  obtain ⟨rs, hm, Am, cm, rfl, _, _, hM, hE⟩ := h.moves
  have hml := moves_len hm
  have AW := Lib.hid (fun (v : World) => awake_yes v)
  have a1 := below_alloc1 w (.cells #[txt p.name, .slice As p.states.length cs, .slice Am rs.length cm] 25)
  have B1 := Blk.start w #[txt p.name, .slice As p.states.length cs, .slice Am rs.length cm] 25
  have S0 := Lib.hid (WrS.mk B1 a1)
  have HR := Lib.hid hr
  have HO := Lib.hid (And.intro hM (And.intro hE (And.intro hm (And.intro hml hSt))))
  clear h hr a1 B1 hM hE hm hml hSt
  by_cases hs : sizeP p ≤ 80
  · rw [decide_eq_true hs] at SM
    by_cases ho : 100 < op.length
    · have o1 : (100 : Int) < (op.length : Int) := by omega
      clear ho hs
      go_enter Try.func3, Try.ntmps3
      go_upto_region 1 with fail
      generalize (w.alloc (.cells #[txt p.name, .slice As p.states.length cs, .slice Am rs.length cm] 25)) = W0 at *
      go_upto_region 2 with (first | (go_at_call 6; (refine (AW.out _).mono ?_); rintro e1 w1 ⟨rfl, hb⟩; have B1 := Lib.hid (S0.out.keep hb); clear hb; have c0 := B1.out.p.cell 0; have c1 := B1.out.p.cell 1; have c2 := B1.out.p.cell 2; simp only [List.getElem?_toArray, List.getElem?_cons_zero, List.getElem?_cons_succ] at c0 c1 c2) | (go_at_call 7; (refine (SM.out _ B1.out.b).mono ?_); rintro e2 w2 ⟨rfl, hb⟩; have B2 := Lib.hid (B1.out.keep hb); clear hb))
      go_wp2_with (go_at_call 6; (refine (AW.out _).mono ?_); rintro e3 w3 ⟨rfl, hb⟩)
      go_ret
      exact ⟨rfl, B2.out.b.trans (hb.mono B2.out.b.size)⟩
    by_cases hnm : 100 < name.length
    · have o1 : decide ((100 : Int) < (op.length : Int)) = false := decide_eq_false (by omega)
      have o2 : (100 : Int) < (name.length : Int) := by omega
      clear ho hnm hs
      go_enter Try.func3, Try.ntmps3
      go_upto_region 1 with fail
      generalize (w.alloc (.cells #[txt p.name, .slice As p.states.length cs, .slice Am rs.length cm] 25)) = W0 at *
      go_upto_region 2 with (first | (go_at_call 6; (refine (AW.out _).mono ?_); rintro e1 w1 ⟨rfl, hb⟩; have B1 := Lib.hid (S0.out.keep hb); clear hb; have c0 := B1.out.p.cell 0; have c1 := B1.out.p.cell 1; have c2 := B1.out.p.cell 2; simp only [List.getElem?_toArray, List.getElem?_cons_zero, List.getElem?_cons_succ] at c0 c1 c2) | (go_at_call 7; (refine (SM.out _ B1.out.b).mono ?_); rintro e2 w2 ⟨rfl, hb⟩; have B2 := Lib.hid (B1.out.keep hb); clear hb))
      go_wp2_with (go_at_call 6; (refine (AW.out _).mono ?_); rintro e3 w3 ⟨rfl, hb⟩)
      go_ret
      exact ⟨rfl, B2.out.b.trans (hb.mono B2.out.b.size)⟩
    have hz := HR.out.sz hs
    have HZ := Lib.hid hz
    have RW := Lib.hid (fun (v : World) (hb : Below w.heap.size w v) => rwrong_any v _ _ p (HP.out v hb) hz)
    have NR := Lib.hid (fun (v : World) (hb : Below w.heap.size w v) => new_right v _ _ p (HP.out v hb) hz)
    have NW := Lib.hid (fun (v : World) (hb : Below w.heap.size w v) => new_wrong v _ _ p (HP.out v hb) hz)
    have WN := Lib.hid (fun h => And.intro (wrong_none (p := p) h) (wrong_more (p := p) h))
    have o1 : decide ((100 : Int) < (op.length : Int)) = false := decide_eq_false (by omega)
    have o2 : decide ((100 : Int) < (name.length : Int)) = false := decide_eq_false (by omega)
    have HNM := Lib.hid hnm
    generalize wrongP p = R at *
    obtain ⟨r1, r2⟩ := R
    dsimp only at RW NR NW WN
    clear hs hz ho hnm
    go_enter Try.func3, Try.ntmps3
    go_upto_region 1 with fail
    generalize (w.alloc (.cells #[txt p.name, .slice As p.states.length cs, .slice Am rs.length cm] 25)) = W0 at *
    go_upto_region 3 with (first
      | (go_at_call 6; (refine (AW.out _).mono ?_); rintro e1 w1 ⟨rfl, hb⟩; have B1 := Lib.hid (S0.out.keep hb); clear hb; have c0 := B1.out.p.cell 0; have c1 := B1.out.p.cell 1; have c2 := B1.out.p.cell 2; simp only [List.getElem?_toArray, List.getElem?_cons_zero, List.getElem?_cons_succ] at c0 c1 c2)
      | (go_at_call 7; (refine (SM.out _ B1.out.b).mono ?_); rintro e2 w2 ⟨rfl, hb⟩; have B2 := Lib.hid (B1.out.keep hb); clear hb))
    clear c0 c1 c2 o1 o2
    have c0 := B2.out.p.cell 0
    have c1 := B2.out.p.cell 1
    have c2 := B2.out.p.cell 2
    simp only [List.getElem?_toArray, List.getElem?_cons_zero, List.getElem?_cons_succ] at c0 c1 c2
    by_cases hq : r1 = 0
    · subst hq
      obtain ⟨⟨hf, hn0, hn, h1, hfm, hgo⟩, hne, hdi⟩ := WN.out rfl
      have HF := Lib.hid (And.intro hf (And.intro hn (And.intro h1 (And.intro hne hdi))))
      clear hf hn0 hn h1 hfm hgo hne hdi
      go_upto_region 4 with (go_at_call 8; (refine (NR.out _ B2.out.b rfl).mono ?_); rintro e4 w4 ⟨a, rfl, ha, _, hb⟩; have B3 := Lib.hid (LwS.mk (B2.out.p.keep hb) ha (B2.out.b.trans (hb.mono B2.out.b.size))); clear ha hb)
      clear c0 c1 c2
      have c0 := B3.out.p.cell 0
      have c1 := B3.out.p.cell 1
      have c2 := B3.out.p.cell 2
      simp only [List.getElem?_toArray, List.getElem?_cons_zero, List.getElem?_cons_succ] at c0 c1 c2
      go_upto_region 5 with (go_at_call 9; (refine (RW.out _ B3.out.b).mono ?_); rintro e3 w3 ⟨rfl, hb⟩; have B4 := Lib.hid (B3.out.keep hb); clear hb)
      clear c0 c1 c2
      have nn : (binOp .eql 28 (.pointer (some ⟨a, 0, none⟩)) (.pointer none)).run Try.prog w3 = .ok (.bool false) w3 := by kernel_rfl
      clear RW NR NW WN SM AW
      go_upto_region 7 with fail
      clear nn
      have nn : ∀ v : World, (binOp .eql 28 (.pointer (some ⟨a, 0, none⟩)) (.pointer none)).run Try.prog v = .ok (.bool false) v := fun v => by kernel_rfl
      have PX := Lib.hid (fun (v : World) (hb : Below w3.heap.size w3 v) => ops_any v a p (B4.out.a.below hb) HZ.out)
      have RP := Lib.hid (fun (v : World) (hb : Below w3.heap.size w3 v) => rops_any v _ _ p (HP.out v (B4.out.b.trans (hb.mono B4.out.b.size))) HZ.out)
      have FX := Lib.hid (fun (v : World) (hb : Below w3.heap.size w3 v) => afinals_any v a p (B4.out.a.below hb) HF.out.2.1)
      have RF := Lib.hid (fun (v : World) (hb : Below w3.heap.size w3 v) => show Calls _ _ _ _ _ from by
        have := rset0_any v _ _ p (HP.out v (B4.out.b.trans (hb.mono B4.out.b.size))) HZ.out HF.out.2.1 []
        rw [set_finals] at this
        exact this)
      have LO := Lib.hid (show (opsL p).length ≤ 100000 from by
        have := opMs_len p.moves []
        have := HZ.out.mv
        unfold opsL
        simp only [List.length_nil] at *
        omega)
      generalize finalS p = fs at *
      generalize opsL p = OL at *
      have fe : ((fs : Int) != (fs : Int)) = false := by simp
      have STB := Lib.hid (show Stab (fun v => ((v.cell? ⟨w.heap.size, 0, none⟩ = some (txt p.name) ∧ v.cell? ⟨w.heap.size, 1, none⟩ = some (.slice As p.states.length cs)) ∧ v.cell? ⟨w.heap.size, 2, none⟩ = some (.slice Am rs.length cm)) ∧ Below w3.heap.size w3 v) from stab_and (stab_and (stab_and (stab_cell _ _) (stab_cell _ _)) (stab_cell _ _)) (stab_below w3))
      have p0 := B4.out.p.drew.cell 0
      have p1 := B4.out.p.drew.cell 1
      have p2 := B4.out.p.drew.cell 2
      simp only [List.getElem?_toArray, List.getElem?_cons_zero, List.getElem?_cons_succ] at p0 p1 p2
      have HS : ((w3.drew.cell? ⟨w.heap.size, 0, none⟩ = some (txt p.name) ∧ w3.drew.cell? ⟨w.heap.size, 1, none⟩ = some (.slice As p.states.length cs)) ∧ w3.drew.cell? ⟨w.heap.size, 2, none⟩ = some (.slice Am rs.length cm)) ∧ Below w3.heap.size w3 w3.drew := ⟨⟨⟨p0, p1⟩, p2⟩, belowD w3⟩
      clear p0 p1 p2
      refine wp_region_noPanic ?_
      refine wp_region_held_drew (S := (fun v => ((v.cell? ⟨w.heap.size, 0, none⟩ = some (txt p.name) ∧ v.cell? ⟨w.heap.size, 1, none⟩ = some (.slice As p.states.length cs)) ∧ v.cell? ⟨w.heap.size, 2, none⟩ = some (.slice Am rs.length cm)) ∧ Below w3.heap.size w3 v)) (by kernel_rfl) HS (fun hHeld => ?_)
      clear HS
      refine tkk 0 rfl ?_
      refine tkk 1 rfl ?_
      refine tkk 2 rfl ?_
      refine tkk 3 rfl ?_
      refine tkk 5 rfl ?_
      (try simp only [cl, Act.put])
      refine rd 4 rfl fun K hK => ?_
      go_simp
      (first
        | (go_at_call 11; (refine (PX.out _ hHeld.2).mono ?_); rintro ea wa ⟨vA, rfl, hA, hb⟩; have TA := Lib.hid hA; clear hA)
        | (go_at_call 12; (refine (RP.out _ hHeld.2).mono ?_); rintro eb wb ⟨vB, rfl, hB, hb⟩; have TA2 := Lib.hid (ownRow_below TA.out hb); have TB := Lib.hid hB; clear hB)
        | (go_at_call 10; (refine (rtexts_same _ _ _ _ _ _ TA2.out TB.out LO.out).mono ?_); rintro ec wc ⟨rfl, hb⟩)
        | (go_at_call 13; (refine (FX.out _ hHeld.2).mono ?_); rintro ed wd ⟨rfl, hb⟩)
        | (go_at_call 14; (refine (RF.out _ hHeld.2).mono ?_); rintro ee we ⟨rfl, hb⟩))
      go_wp2_with fail
      refine hK.out _ _ (STB.out _ _ hb (by with_reducible assumption)) (fun hH2 => ?_)
      clear hK K hHeld hb; have hHeld := hH2; clear hH2
      (try simp only [cl, Act.put])
      refine rd 6 rfl fun K hK => ?_
      go_simp
      (first
        | (go_at_call 11; (refine (PX.out _ hHeld.2).mono ?_); rintro ea wa ⟨vA, rfl, hA, hb⟩; have TA := Lib.hid hA; clear hA)
        | (go_at_call 12; (refine (RP.out _ hHeld.2).mono ?_); rintro eb wb ⟨vB, rfl, hB, hb⟩; have TA2 := Lib.hid (ownRow_below TA.out hb); have TB := Lib.hid hB; clear hB)
        | (go_at_call 10; (refine (rtexts_same _ _ _ _ _ _ TA2.out TB.out LO.out).mono ?_); rintro ec wc ⟨rfl, hb⟩)
        | (go_at_call 13; (refine (FX.out _ hHeld.2).mono ?_); rintro ed wd ⟨rfl, hb⟩)
        | (go_at_call 14; (refine (RF.out _ hHeld.2).mono ?_); rintro ee we ⟨rfl, hb⟩))
      go_wp2_with fail
      refine hK.out _ _ (STB.out _ _ hb (by with_reducible assumption)) (fun hH2 => ?_)
      clear hK K hHeld hb; have hHeld := hH2; clear hH2
      (try simp only [cl, Act.put])
      refine rd 7 rfl fun K hK => ?_
      go_simp
      (first
        | (go_at_call 11; (refine (PX.out _ hHeld.2).mono ?_); rintro ea wa ⟨vA, rfl, hA, hb⟩; have TA := Lib.hid hA; clear hA)
        | (go_at_call 12; (refine (RP.out _ hHeld.2).mono ?_); rintro eb wb ⟨vB, rfl, hB, hb⟩; have TA2 := Lib.hid (ownRow_below TA.out hb); have TB := Lib.hid hB; clear hB)
        | (go_at_call 10; (refine (rtexts_same _ _ _ _ _ _ TA2.out TB.out LO.out).mono ?_); rintro ec wc ⟨rfl, hb⟩)
        | (go_at_call 13; (refine (FX.out _ hHeld.2).mono ?_); rintro ed wd ⟨rfl, hb⟩)
        | (go_at_call 14; (refine (RF.out _ hHeld.2).mono ?_); rintro ee we ⟨rfl, hb⟩))
      go_wp2_with fail
      refine hK.out _ _ (STB.out _ _ hb (by with_reducible assumption)) (fun hH2 => ?_)
      clear hK K hHeld hb; have hHeld := hH2; clear hH2
      (try simp only [cl, Act.put])
      refine tkk 8 rfl ?_
      refine tkk 9 rfl ?_
      refine tkk 10 rfl ?_
      refine tkk 11 rfl ?_
      refine tkk 13 rfl ?_
      (try simp only [cl, Act.put])
      refine rd 12 rfl fun K hK => ?_
      go_simp
      (first
        | (go_at_call 11; (refine (PX.out _ hHeld.2).mono ?_); rintro ea wa ⟨vA, rfl, hA, hb⟩; have TA := Lib.hid hA; clear hA)
        | (go_at_call 12; (refine (RP.out _ hHeld.2).mono ?_); rintro eb wb ⟨vB, rfl, hB, hb⟩; have TA2 := Lib.hid (ownRow_below TA.out hb); have TB := Lib.hid hB; clear hB)
        | (go_at_call 10; (refine (rtexts_same _ _ _ _ _ _ TA2.out TB.out LO.out).mono ?_); rintro ec wc ⟨rfl, hb⟩)
        | (go_at_call 13; (refine (FX.out _ hHeld.2).mono ?_); rintro ed wd ⟨rfl, hb⟩)
        | (go_at_call 14; (refine (RF.out _ hHeld.2).mono ?_); rintro ee we ⟨rfl, hb⟩))
      go_wp2_with fail
      refine hK.out _ _ (STB.out _ _ hb (by with_reducible assumption)) (fun hH2 => ?_)
      clear hK K hHeld hb; have hHeld := hH2; clear hH2
      (try simp only [cl, Act.put])
      refine rd 14 rfl fun K hK => ?_
      go_simp
      (first
        | (go_at_call 11; (refine (PX.out _ hHeld.2).mono ?_); rintro ea wa ⟨vA, rfl, hA, hb⟩; have TA := Lib.hid hA; clear hA)
        | (go_at_call 12; (refine (RP.out _ hHeld.2).mono ?_); rintro eb wb ⟨vB, rfl, hB, hb⟩; have TA2 := Lib.hid (ownRow_below TA.out hb); have TB := Lib.hid hB; clear hB)
        | (go_at_call 10; (refine (rtexts_same _ _ _ _ _ _ TA2.out TB.out LO.out).mono ?_); rintro ec wc ⟨rfl, hb⟩)
        | (go_at_call 13; (refine (FX.out _ hHeld.2).mono ?_); rintro ed wd ⟨rfl, hb⟩)
        | (go_at_call 14; (refine (RF.out _ hHeld.2).mono ?_); rintro ee we ⟨rfl, hb⟩))
      go_wp2_with fail
      refine hK.out _ _ (STB.out _ _ hb (by with_reducible assumption)) (fun hH2 => ?_)
      clear hK K hHeld hb; have hHeld := hH2; clear hH2
      (try simp only [cl, Act.put])
      refine tkk 15 rfl ?_
      refine tkk 16 rfl ?_
      (try simp only [cl, Act.put])
      refine wpAnyH_done (by kernel_rfl) ?_ _
      refine NoPanic.normal ?_
      have B7 := Lib.hid (B4.out.keep hHeld.2)
      clear hHeld STB nn fe PX RP FX RF LO
      go_wp2_with fail
      go_loopg [11] (rs.length + 1) (fun g v11 wr => ∃ i : Nat, v11 = .int .i64 i ∧ i ≤ rs.length + 1 ∧ g = rs.length + 1 - i ∧ LwS w wr w.heap.size #[txt p.name, .slice As p.states.length cs, .slice Am rs.length cm] a p)
      case atStart => exact ⟨0, rfl, Nat.zero_le _, rfl, B7.out⟩
      case round =>
        obtain ⟨i, rfl, hi, hg, hL⟩ := hrel
        have c2 := hL.p.cell 2
        simp only [List.getElem?_toArray, List.getElem?_cons_zero, List.getElem?_cons_succ] at c2
        by_cases hin : i = rs.length + 1
        · have j1 : decide (i ≤ rs.length) = false := decide_eq_false (by omega)
          have FINL := Lib.hid hL
          clear hi hg hL hin
          generalize wr = wq at *
          go_wp2_with fail
          have n16 := Lib.hid HF.out.2.1
          have NMB := Lib.hid (catN_len 140737488355328 p.states name HZ.out.ns)
          go_loopg [2, 14] p.states.length (fun g v2 v14 wr => ∃ i : Nat, v14 = .int .i64 i ∧ v2 = txt (catN name (p.states.take i)) ∧ i ≤ p.states.length ∧ g = p.states.length - i ∧ LwS w wr w.heap.size #[txt p.name, .slice As p.states.length cs, .slice Am rs.length cm] a p)
          case atStart => exact ⟨0, rfl, rfl, Nat.zero_le _, rfl, FINL.out⟩
          case round =>
            obtain ⟨i, rfl, rfl, hi, hg, hL⟩ := hrel
            have c1 := hL.p.cell 1
            simp only [List.getElem?_toArray, List.getElem?_cons_zero, List.getElem?_cons_succ] at c1
            by_cases hin : i = p.states.length
            · have j2 : decide (i < p.states.length) = false := decide_eq_false (by omega)
              have SL := Lib.hid (show Calls Try.prog 22 #[.pointer (some ⟨a, 0, none⟩), txt (catN name p.states ++ [39])] wr (fun e w' => e = .returned (.tuple #[.int .i64 0, .bool false]) ∧ Below wr.heap.size wr w') from
                (state_any wr a p hL.a HZ.out (catN name p.states ++ [39])).mono fun e w' ⟨hS, hb⟩ => ⟨by
                  rcases hS with ⟨k, s, _, hs, hn⟩ | ⟨h, _⟩
                  · have := NMB.out.2.1 s (List.mem_of_getElem? hs)
                    rw [hn, List.length_append, List.length_singleton] at this
                    omega
                  · exact h, hb⟩)
              have nl : (catN name p.states).length ≤ 3000000000000000 := by have := NMB.out.2.2; have := n16.out; have := HNM.out; omega
              rw [hin, List.take_length]
              rw [hin] at j2
              generalize catN name p.states = N at *
              have nb : ¬ 9223372036854775807 < (N.length : Int) + 1 := by omega
              have FB := Lib.hid hL.b
              clear hi hg hL hin
              have cb : (⟨N.toArray⟩ : ByteArray) ++ ⟨#[39]⟩ = ⟨(N ++ [39]).toArray⟩ := cat_ba N [39]
              go_wp2_with (go_at_call 22; (refine SL.out.mono ?_); rintro e5 w5 ⟨rfl, hb⟩; have H5 := Lib.hid (FB.out.trans (hb.mono FB.out.size)); clear hb)
              go_ret
              exact ⟨rfl, H5.out⟩
            · have hlt : i < p.states.length := by omega
              obtain ⟨s, hs⟩ : ∃ s, p.states[i]? = some s := ⟨_, List.getElem?_eq_getElem hlt⟩
              obtain ⟨ad, rfl, d0, _⟩ := sl_cell2 stC_len HO.out.2.2.2.2 hL.b hs (by omega)
              unfold stC at d0
              simp only [List.getElem?_cons_zero] at d0
              have SC := Lib.hid (show Calls Try.prog 22 #[.pointer (some ⟨a, 0, none⟩), txt s.name] wr (fun e w' => e = .returned (.tuple #[.int .i64 (i : Int), .bool true]) ∧ Below wr.heap.size wr w') from
                (state_any wr a p hL.a HZ.out s.name).mono fun e w' ⟨hS, hb⟩ => ⟨by
                  rcases hS with ⟨k, s', e1, hs', hn⟩ | ⟨_, h⟩
                  · rw [e1, HF.out.2.2.2.2 k i s' s hs' hs hn]
                  · exact absurd rfl (h s (List.mem_of_getElem? hs)), hb⟩)
              have nx := catN_next name hs
              have nl : (catN name (p.states.take i)).length + s.name.length ≤ 3000000000000000 := by
                have := (catN_len 140737488355328 (p.states.take i) name (fun s hs => HZ.out.ns s (List.mem_of_mem_take hs))).2.2
                have := HZ.out.ns s (List.mem_of_getElem? hs)
                have := n16.out
                have := HNM.out
                rw [List.length_take] at *
                omega
              generalize catN name (p.states.take i) = N at *
              have nb : ¬ 9223372036854775807 < (N.length : Int) + (s.name.length : Int) := by omega
              have j2 : (i : Int) < (p.states.length : Int) := by omega
              have j3 : (0 : Int) ≤ (i : Int) := by omega
              have wi : IntKind.i64.wrap ((i : Int) + 1) = (i : Int) + 1 := IntWalk.i64_in _ (by have := n16.out; omega)
              have j4 : ((i : Int) != (i : Int)) = false := by simp
              have HK := Lib.hid (And.intro hlt (And.intro hg (And.intro hL (And.intro nx d0))))
              clear hin hlt hi hg hL hs nl nx
              go_upto_region 28 with (go_at_call 22; (refine SC.out.mono ?_); rintro e5 w5 ⟨rfl, hb⟩; have H5 := Lib.hid (And.intro hb (HK.out.2.2.1.keep hb)); clear hb)
              clear c1 d0
              have c1 := H5.out.2.p.cell 1
              have d0 := keep_any H5.out.1 HK.out.2.2.2.2
              simp only [List.getElem?_toArray, List.getElem?_cons_zero, List.getElem?_cons_succ] at c1
              go_wp2_with fail
              go_roundg (p.states.length - (i + 1))
              case measure => have := HK.out.1; have := HK.out.2.1; omega
              case rel => exact ⟨i + 1, by push_cast; rfl, by rw [HK.out.2.2.2.1, cat_ba], HK.out.1, rfl, H5.out.2⟩
        · have hle : i ≤ rs.length := by omega
          have j1 : (i : Int) ≤ (rs.length : Int) := by omega
          have j2 : (0 : Int) ≤ (i : Int) := by omega
          have wi : IntKind.i64.wrap ((i : Int) + 1) = (i : Int) + 1 := IntWalk.i64_in _ (by have := HZ.out.mv; have := HO.out.2.2.2.1; omega)
          have HI := Lib.hid (And.intro hle (And.intro hg hL))
          have CE := Lib.hid (show ∀ x, rs[i]? = some x → ∃ ad, Am = some ad ∧ wr.cell? (ad.add (i * 3)) = some (txt x.2.op) from fun x hx => by
            obtain ⟨ad, e, d0, _⟩ := sl_cell3 mvC_len HO.out.1 hL.b hx (by have := (List.getElem?_eq_some_iff.1 hx).1; omega)
            exact ⟨ad, e, d0⟩)
          clear hin hle hi hg hL
          go_upto_if 80 with fail
          go_cut [12] from 76 to 129 (fun v12 wx => ∃ o, v12 = txt o ∧ wx = wr)
          case first =>
            have hle := HI.out.1
            by_cases hlt : i < rs.length
            · have j3 : (i : Int) < (rs.length : Int) := by omega
              obtain ⟨x, hx⟩ : ∃ x, rs[i]? = some x := ⟨_, List.getElem?_eq_getElem hlt⟩
              obtain ⟨ad, rfl, d0⟩ := CE.out x hx
              clear hlt hx hle
              go_wp2_with fail
              go_meet
              exact ⟨_, rfl, rfl⟩
            · have j3 : decide (i < rs.length) = false := decide_eq_false (by omega)
              have j4 : ¬ ((i : Int) < (rs.length : Int)) := by omega
              clear hlt hle
              go_wp2_with fail
              go_meet
              exact ⟨_, rfl, rfl⟩
          case rest =>
            obtain ⟨o, rfl, rfl⟩ := hcut
            generalize wc = wr at *
            clear CE c2
            have OX := Lib.hid (fun (v : World) (hb : Below wr.heap.size wr v) => outcomes_any v a p (HI.out.2.2.a.below hb) HZ.out o)
            have RO := Lib.hid (fun (v : World) (hb : Below wr.heap.size wr v) => routcomes_any v _ _ p (HP.out v (HI.out.2.2.b.trans (hb.mono HI.out.2.2.b.size))) HZ.out o)
            have EX := Lib.hid (fun (v : World) (hb : Below wr.heap.size wr v) => enabled_any v a p (HI.out.2.2.a.below hb) HZ.out HF.out.1 HF.out.2.1 o)
            have KX := Lib.hid (fun (v : World) (hb : Below wr.heap.size wr v) => keeps_any v a p (HI.out.2.2.a.below hb) HZ.out HF.out.1 HF.out.2.1 o)
            have R1 := Lib.hid (fun (v : World) (hb : Below wr.heap.size wr v) => show Calls _ _ _ _ _ from by
              have := rset1_any v _ _ p (HP.out v (HI.out.2.2.b.trans (hb.mono HI.out.2.2.b.size))) HZ.out HF.out.2.1 o
              rw [set_enabled HF.out.1 HF.out.2.2.1 HF.out.2.2.2.1] at this
              exact this)
            have R2 := Lib.hid (fun (v : World) (hb : Below wr.heap.size wr v) => show Calls _ _ _ _ _ from by
              have := rset2_any v _ _ p (HP.out v (HI.out.2.2.b.trans (hb.mono HI.out.2.2.b.size))) HZ.out HF.out.2.1 o
              rw [set_keeps HF.out.1 HF.out.2.2.1 HF.out.2.2.2.1] at this
              exact this)
            have LC := Lib.hid (show (outcomesL p o).length ≤ 100000 from by
              have := outMs_len o p.moves [] HZ.out.out
              have := HZ.out.mv
              unfold outcomesL
              simp only [List.length_nil] at *
              omega)
            have fe : ((enS p o : Int) != (enS p o : Int)) = false := by simp
            have fk : ((keS p o : Int) != (keS p o : Int)) = false := by simp
            generalize enS p o = en at *
            generalize keS p o = ke at *
            generalize outcomesL p o = OC at *
            go_upto_region 15 with fail
            have STB := Lib.hid (show Stab (fun v => ((v.cell? ⟨w.heap.size, 0, none⟩ = some (txt p.name) ∧ v.cell? ⟨w.heap.size, 1, none⟩ = some (.slice As p.states.length cs)) ∧ v.cell? ⟨w.heap.size, 2, none⟩ = some (.slice Am rs.length cm)) ∧ Below wr.heap.size wr v) from stab_and (stab_and (stab_and (stab_cell _ _) (stab_cell _ _)) (stab_cell _ _)) (stab_below wr))
            have p0 := HI.out.2.2.p.drew.cell 0
            have p1 := HI.out.2.2.p.drew.cell 1
            have p2 := HI.out.2.2.p.drew.cell 2
            simp only [List.getElem?_toArray, List.getElem?_cons_zero, List.getElem?_cons_succ] at p0 p1 p2
            have HS : ((wr.drew.cell? ⟨w.heap.size, 0, none⟩ = some (txt p.name) ∧ wr.drew.cell? ⟨w.heap.size, 1, none⟩ = some (.slice As p.states.length cs)) ∧ wr.drew.cell? ⟨w.heap.size, 2, none⟩ = some (.slice Am rs.length cm)) ∧ Below wr.heap.size wr wr.drew := ⟨⟨⟨p0, p1⟩, p2⟩, belowD wr⟩
            clear p0 p1 p2
            refine wp_region_noPanic ?_
            refine wp_region_held_drew (S := (fun v => ((v.cell? ⟨w.heap.size, 0, none⟩ = some (txt p.name) ∧ v.cell? ⟨w.heap.size, 1, none⟩ = some (.slice As p.states.length cs)) ∧ v.cell? ⟨w.heap.size, 2, none⟩ = some (.slice Am rs.length cm)) ∧ Below wr.heap.size wr v)) (by kernel_rfl) HS (fun hHeld => ?_)
            clear HS
            refine tkk 0 rfl ?_
            refine tkk 1 rfl ?_
            refine tkk 3 rfl ?_
            refine tkk 4 rfl ?_
            (try simp only [cl, Act.put])
            refine rd 2 rfl fun K hK => ?_
            go_simp
            (first
              | (go_at_call 15; (refine (OX.out _ hHeld.2).mono ?_); rintro ea wa ⟨vA, rfl, hA, hb⟩; have TA := Lib.hid hA; clear hA)
              | (go_at_call 16; (refine (RO.out _ hHeld.2).mono ?_); rintro eb wb ⟨vB, rfl, hB, hb⟩; have TA2 := Lib.hid (ownRow_below TA.out hb); have TB := Lib.hid hB; clear hB)
              | (go_at_call 10; (refine (rtexts_same _ _ _ _ _ _ TA2.out TB.out LC.out).mono ?_); rintro ec wc ⟨rfl, hb⟩)
              | (go_at_call 17; (refine (EX.out _ hHeld.2).mono ?_); rintro ed wd ⟨rfl, hb⟩)
              | (go_at_call 18; (refine (KX.out _ hHeld.2).mono ?_); rintro ef wf ⟨rfl, hb⟩)
              | (go_at_call 14; (first | (with_reducible refine (R1.out _ hHeld.2).mono ?_) | (with_reducible refine (R2.out _ hHeld.2).mono ?_)); rintro ee we ⟨rfl, hb⟩))
            go_wp2_with fail
            refine hK.out _ _ (STB.out _ _ hb (by with_reducible assumption)) (fun hH2 => ?_)
            clear hK K hHeld hb; have hHeld := hH2; clear hH2
            (try simp only [cl, Act.put])
            refine rd 5 rfl fun K hK => ?_
            go_simp
            (first
              | (go_at_call 15; (refine (OX.out _ hHeld.2).mono ?_); rintro ea wa ⟨vA, rfl, hA, hb⟩; have TA := Lib.hid hA; clear hA)
              | (go_at_call 16; (refine (RO.out _ hHeld.2).mono ?_); rintro eb wb ⟨vB, rfl, hB, hb⟩; have TA2 := Lib.hid (ownRow_below TA.out hb); have TB := Lib.hid hB; clear hB)
              | (go_at_call 10; (refine (rtexts_same _ _ _ _ _ _ TA2.out TB.out LC.out).mono ?_); rintro ec wc ⟨rfl, hb⟩)
              | (go_at_call 17; (refine (EX.out _ hHeld.2).mono ?_); rintro ed wd ⟨rfl, hb⟩)
              | (go_at_call 18; (refine (KX.out _ hHeld.2).mono ?_); rintro ef wf ⟨rfl, hb⟩)
              | (go_at_call 14; (first | (with_reducible refine (R1.out _ hHeld.2).mono ?_) | (with_reducible refine (R2.out _ hHeld.2).mono ?_)); rintro ee we ⟨rfl, hb⟩))
            go_wp2_with fail
            refine hK.out _ _ (STB.out _ _ hb (by with_reducible assumption)) (fun hH2 => ?_)
            clear hK K hHeld hb; have hHeld := hH2; clear hH2
            (try simp only [cl, Act.put])
            refine rd 6 rfl fun K hK => ?_
            go_simp
            (first
              | (go_at_call 15; (refine (OX.out _ hHeld.2).mono ?_); rintro ea wa ⟨vA, rfl, hA, hb⟩; have TA := Lib.hid hA; clear hA)
              | (go_at_call 16; (refine (RO.out _ hHeld.2).mono ?_); rintro eb wb ⟨vB, rfl, hB, hb⟩; have TA2 := Lib.hid (ownRow_below TA.out hb); have TB := Lib.hid hB; clear hB)
              | (go_at_call 10; (refine (rtexts_same _ _ _ _ _ _ TA2.out TB.out LC.out).mono ?_); rintro ec wc ⟨rfl, hb⟩)
              | (go_at_call 17; (refine (EX.out _ hHeld.2).mono ?_); rintro ed wd ⟨rfl, hb⟩)
              | (go_at_call 18; (refine (KX.out _ hHeld.2).mono ?_); rintro ef wf ⟨rfl, hb⟩)
              | (go_at_call 14; (first | (with_reducible refine (R1.out _ hHeld.2).mono ?_) | (with_reducible refine (R2.out _ hHeld.2).mono ?_)); rintro ee we ⟨rfl, hb⟩))
            go_wp2_with fail
            refine hK.out _ _ (STB.out _ _ hb (by with_reducible assumption)) (fun hH2 => ?_)
            clear hK K hHeld hb; have hHeld := hH2; clear hH2
            (try simp only [cl, Act.put])
            refine tkk 7 rfl ?_
            refine tkk 8 rfl ?_
            refine tkk 9 rfl ?_
            refine tkk 10 rfl ?_
            refine tkk 12 rfl ?_
            refine tkk 13 rfl ?_
            (try simp only [cl, Act.put])
            refine rd 11 rfl fun K hK => ?_
            go_simp
            (first
              | (go_at_call 15; (refine (OX.out _ hHeld.2).mono ?_); rintro ea wa ⟨vA, rfl, hA, hb⟩; have TA := Lib.hid hA; clear hA)
              | (go_at_call 16; (refine (RO.out _ hHeld.2).mono ?_); rintro eb wb ⟨vB, rfl, hB, hb⟩; have TA2 := Lib.hid (ownRow_below TA.out hb); have TB := Lib.hid hB; clear hB)
              | (go_at_call 10; (refine (rtexts_same _ _ _ _ _ _ TA2.out TB.out LC.out).mono ?_); rintro ec wc ⟨rfl, hb⟩)
              | (go_at_call 17; (refine (EX.out _ hHeld.2).mono ?_); rintro ed wd ⟨rfl, hb⟩)
              | (go_at_call 18; (refine (KX.out _ hHeld.2).mono ?_); rintro ef wf ⟨rfl, hb⟩)
              | (go_at_call 14; (first | (with_reducible refine (R1.out _ hHeld.2).mono ?_) | (with_reducible refine (R2.out _ hHeld.2).mono ?_)); rintro ee we ⟨rfl, hb⟩))
            go_wp2_with fail
            refine hK.out _ _ (STB.out _ _ hb (by with_reducible assumption)) (fun hH2 => ?_)
            clear hK K hHeld hb; have hHeld := hH2; clear hH2
            (try simp only [cl, Act.put])
            refine rd 14 rfl fun K hK => ?_
            go_simp
            (first
              | (go_at_call 15; (refine (OX.out _ hHeld.2).mono ?_); rintro ea wa ⟨vA, rfl, hA, hb⟩; have TA := Lib.hid hA; clear hA)
              | (go_at_call 16; (refine (RO.out _ hHeld.2).mono ?_); rintro eb wb ⟨vB, rfl, hB, hb⟩; have TA2 := Lib.hid (ownRow_below TA.out hb); have TB := Lib.hid hB; clear hB)
              | (go_at_call 10; (refine (rtexts_same _ _ _ _ _ _ TA2.out TB.out LC.out).mono ?_); rintro ec wc ⟨rfl, hb⟩)
              | (go_at_call 17; (refine (EX.out _ hHeld.2).mono ?_); rintro ed wd ⟨rfl, hb⟩)
              | (go_at_call 18; (refine (KX.out _ hHeld.2).mono ?_); rintro ef wf ⟨rfl, hb⟩)
              | (go_at_call 14; (first | (with_reducible refine (R1.out _ hHeld.2).mono ?_) | (with_reducible refine (R2.out _ hHeld.2).mono ?_)); rintro ee we ⟨rfl, hb⟩))
            go_wp2_with fail
            refine hK.out _ _ (STB.out _ _ hb (by with_reducible assumption)) (fun hH2 => ?_)
            clear hK K hHeld hb; have hHeld := hH2; clear hH2
            (try simp only [cl, Act.put])
            refine tkk 15 rfl ?_
            refine tkk 16 rfl ?_
            refine tkk 17 rfl ?_
            refine tkk 18 rfl ?_
            refine tkk 19 rfl ?_
            refine tkk 21 rfl ?_
            refine tkk 22 rfl ?_
            (try simp only [cl, Act.put])
            refine rd 20 rfl fun K hK => ?_
            go_simp
            (first
              | (go_at_call 15; (refine (OX.out _ hHeld.2).mono ?_); rintro ea wa ⟨vA, rfl, hA, hb⟩; have TA := Lib.hid hA; clear hA)
              | (go_at_call 16; (refine (RO.out _ hHeld.2).mono ?_); rintro eb wb ⟨vB, rfl, hB, hb⟩; have TA2 := Lib.hid (ownRow_below TA.out hb); have TB := Lib.hid hB; clear hB)
              | (go_at_call 10; (refine (rtexts_same _ _ _ _ _ _ TA2.out TB.out LC.out).mono ?_); rintro ec wc ⟨rfl, hb⟩)
              | (go_at_call 17; (refine (EX.out _ hHeld.2).mono ?_); rintro ed wd ⟨rfl, hb⟩)
              | (go_at_call 18; (refine (KX.out _ hHeld.2).mono ?_); rintro ef wf ⟨rfl, hb⟩)
              | (go_at_call 14; (first | (with_reducible refine (R1.out _ hHeld.2).mono ?_) | (with_reducible refine (R2.out _ hHeld.2).mono ?_)); rintro ee we ⟨rfl, hb⟩))
            go_wp2_with fail
            refine hK.out _ _ (STB.out _ _ hb (by with_reducible assumption)) (fun hH2 => ?_)
            clear hK K hHeld hb; have hHeld := hH2; clear hH2
            (try simp only [cl, Act.put])
            refine rd 23 rfl fun K hK => ?_
            go_simp
            (first
              | (go_at_call 15; (refine (OX.out _ hHeld.2).mono ?_); rintro ea wa ⟨vA, rfl, hA, hb⟩; have TA := Lib.hid hA; clear hA)
              | (go_at_call 16; (refine (RO.out _ hHeld.2).mono ?_); rintro eb wb ⟨vB, rfl, hB, hb⟩; have TA2 := Lib.hid (ownRow_below TA.out hb); have TB := Lib.hid hB; clear hB)
              | (go_at_call 10; (refine (rtexts_same _ _ _ _ _ _ TA2.out TB.out LC.out).mono ?_); rintro ec wc ⟨rfl, hb⟩)
              | (go_at_call 17; (refine (EX.out _ hHeld.2).mono ?_); rintro ed wd ⟨rfl, hb⟩)
              | (go_at_call 18; (refine (KX.out _ hHeld.2).mono ?_); rintro ef wf ⟨rfl, hb⟩)
              | (go_at_call 14; (first | (with_reducible refine (R1.out _ hHeld.2).mono ?_) | (with_reducible refine (R2.out _ hHeld.2).mono ?_)); rintro ee we ⟨rfl, hb⟩))
            go_wp2_with fail
            refine hK.out _ _ (STB.out _ _ hb (by with_reducible assumption)) (fun hH2 => ?_)
            clear hK K hHeld hb; have hHeld := hH2; clear hH2
            (try simp only [cl, Act.put])
            refine tkk 24 rfl ?_
            refine tkk 25 rfl ?_
            (try simp only [cl, Act.put])
            refine wpAnyH_done (by kernel_rfl) ?_ _
            refine NoPanic.normal ?_
            have B8 := Lib.hid (HI.out.2.2.keep hHeld.2)
            clear hHeld STB fe fk OX RO EX KX R1 R2 LC
            generalize wr = wq at *
            have n16 := Lib.hid HF.out.2.1
            go_wp2_with fail
            go_loopg [13] (p.states.length + 2) (fun g v13 wr => ∃ k : Nat, v13 = .int .i64 ((k : Int) - 1) ∧ k ≤ p.states.length + 2 ∧ g = p.states.length + 2 - k ∧ LwS w wr w.heap.size #[txt p.name, .slice As p.states.length cs, .slice Am rs.length cm] a p)
            case atStart => exact ⟨0, rfl, Nat.zero_le _, rfl, B8.out⟩
            case round =>
              obtain ⟨k, rfl, hk, hg, hL⟩ := hrel
              have c1 := hL.p.cell 1
              simp only [List.getElem?_toArray, List.getElem?_cons_zero, List.getElem?_cons_succ] at c1
              by_cases hkn : k = p.states.length + 2
              · have j5 : ¬ ((k : Int) - 1 ≤ (p.states.length : Int)) := by omega
                have NX := Lib.hid hL
                clear hk hg hL hkn
                go_wp2_with fail
                go_roundg (rs.length + 1 - (i + 1))
                case measure => have := HI.out.1; have := HI.out.2.1; omega
                case rel => exact ⟨i + 1, by push_cast; rfl, by have := HI.out.1; omega, rfl, NX.out⟩
              · have j5 : (k : Int) - 1 ≤ (p.states.length : Int) := by omega
                have wk : IntKind.i64.wrap ((k : Int) - 1 + 1) = (k : Int) := by rw [IntWalk.i64_in _ (by have := n16.out; omega)]; omega
                have UX := Lib.hid (fun (v : World) (hb : Below wr.heap.size wr v) => aouts_any v a p (hL.a.below hb) HZ.out HF.out.2.2.1 ((k : Int) - 1) o)
                have UR := Lib.hid (fun (v : World) (hb : Below wr.heap.size wr v) => routs_any v _ _ p (HP.out v (hL.b.trans (hb.mono hL.b.size))) HZ.out.mv ((k : Int) - 1) o)
                have UL := Lib.hid (outs_le HZ.out ((k : Int) - 1) o)
                have HK := Lib.hid (And.intro (show k ≤ p.states.length + 1 by omega) (And.intro hg hL))
                generalize outsOf p.moves ((k : Int) - 1) o = ol at *
                clear hk hg hL hkn
                go_upto_region 20 with fail
                clear c1
                have STB := Lib.hid (show Stab (fun v => ((v.cell? ⟨w.heap.size, 0, none⟩ = some (txt p.name) ∧ v.cell? ⟨w.heap.size, 1, none⟩ = some (.slice As p.states.length cs)) ∧ v.cell? ⟨w.heap.size, 2, none⟩ = some (.slice Am rs.length cm)) ∧ Below wr.heap.size wr v) from stab_and (stab_and (stab_and (stab_cell _ _) (stab_cell _ _)) (stab_cell _ _)) (stab_below wr))
                have p0 := HK.out.2.2.p.drew.cell 0
                have p1 := HK.out.2.2.p.drew.cell 1
                have p2 := HK.out.2.2.p.drew.cell 2
                simp only [List.getElem?_toArray, List.getElem?_cons_zero, List.getElem?_cons_succ] at p0 p1 p2
                have HS : ((wr.drew.cell? ⟨w.heap.size, 0, none⟩ = some (txt p.name) ∧ wr.drew.cell? ⟨w.heap.size, 1, none⟩ = some (.slice As p.states.length cs)) ∧ wr.drew.cell? ⟨w.heap.size, 2, none⟩ = some (.slice Am rs.length cm)) ∧ Below wr.heap.size wr wr.drew := ⟨⟨⟨p0, p1⟩, p2⟩, belowD wr⟩
                clear p0 p1 p2
                refine wp_region_noPanic ?_
                refine wp_region_held_drew (S := (fun v => ((v.cell? ⟨w.heap.size, 0, none⟩ = some (txt p.name) ∧ v.cell? ⟨w.heap.size, 1, none⟩ = some (.slice As p.states.length cs)) ∧ v.cell? ⟨w.heap.size, 2, none⟩ = some (.slice Am rs.length cm)) ∧ Below wr.heap.size wr v)) (by kernel_rfl) HS (fun hHeld => ?_)
                clear HS
                refine tkk 0 rfl ?_
                refine tkk 1 rfl ?_
                refine tkk 2 rfl ?_
                refine tkk 4 rfl ?_
                refine tkk 5 rfl ?_
                refine tkk 6 rfl ?_
                (try simp only [cl, Act.put])
                refine rd 3 rfl fun K hK => ?_
                go_simp
                (first
                  | (go_at_call 20; (refine (UX.out _ hHeld.2).mono ?_); rintro ea wa ⟨A1, d1, rfl, hA, hb⟩; have TA := Lib.hid hA; clear hA)
                  | (go_at_call 21; (refine (UR.out _ hHeld.2).mono ?_); rintro eb wb ⟨A2, d2, rfl, hB, hb⟩; have TA2 := Lib.hid (TA.out.below hb); have TB := Lib.hid hB; clear hB)
                  | (go_at_call 19; (refine (rsame_same _ _ _ _ TA2.out TB.out UL.out).mono ?_); rintro ec wc ⟨rfl, hb⟩))
                go_wp2_with fail
                refine hK.out _ _ (STB.out _ _ hb (by with_reducible assumption)) (fun hH2 => ?_)
                clear hK K hHeld hb; have hHeld := hH2; clear hH2
                (try simp only [cl, Act.put])
                refine rd 7 rfl fun K hK => ?_
                go_simp
                (first
                  | (go_at_call 20; (refine (UX.out _ hHeld.2).mono ?_); rintro ea wa ⟨A1, d1, rfl, hA, hb⟩; have TA := Lib.hid hA; clear hA)
                  | (go_at_call 21; (refine (UR.out _ hHeld.2).mono ?_); rintro eb wb ⟨A2, d2, rfl, hB, hb⟩; have TA2 := Lib.hid (TA.out.below hb); have TB := Lib.hid hB; clear hB)
                  | (go_at_call 19; (refine (rsame_same _ _ _ _ TA2.out TB.out UL.out).mono ?_); rintro ec wc ⟨rfl, hb⟩))
                go_wp2_with fail
                refine hK.out _ _ (STB.out _ _ hb (by with_reducible assumption)) (fun hH2 => ?_)
                clear hK K hHeld hb; have hHeld := hH2; clear hH2
                (try simp only [cl, Act.put])
                refine rd 8 rfl fun K hK => ?_
                go_simp
                (first
                  | (go_at_call 20; (refine (UX.out _ hHeld.2).mono ?_); rintro ea wa ⟨A1, d1, rfl, hA, hb⟩; have TA := Lib.hid hA; clear hA)
                  | (go_at_call 21; (refine (UR.out _ hHeld.2).mono ?_); rintro eb wb ⟨A2, d2, rfl, hB, hb⟩; have TA2 := Lib.hid (TA.out.below hb); have TB := Lib.hid hB; clear hB)
                  | (go_at_call 19; (refine (rsame_same _ _ _ _ TA2.out TB.out UL.out).mono ?_); rintro ec wc ⟨rfl, hb⟩))
                go_wp2_with fail
                refine hK.out _ _ (STB.out _ _ hb (by with_reducible assumption)) (fun hH2 => ?_)
                clear hK K hHeld hb; have hHeld := hH2; clear hH2
                (try simp only [cl, Act.put])
                refine tkk 9 rfl ?_
                (try simp only [cl, Act.put])
                refine wpAnyH_done (by kernel_rfl) ?_ _
                refine NoPanic.normal ?_
                have B9 := Lib.hid (HK.out.2.2.keep hHeld.2)
                clear hHeld STB UX UR UL
                go_wp2_with fail
                go_roundg (p.states.length + 2 - (k + 1))
                case measure => have := HK.out.1; have := HK.out.2.1; omega
                case rel => exact ⟨k + 1, by push_cast; simp; unfold wrap64; have := HK.out.1; have := n16.out; omega, by have := HK.out.1; omega, rfl, B9.out⟩
    · have t1 : (r1 != 0) = true := by rw [bne_iff_ne]; exact hq
      have t2 : (r1 == 0) = false := beq_eq_false_iff_ne.mpr hq
      have HQ := Lib.hid hq
      clear hq
      go_upto_region 4 with (go_at_call 8; (refine (NW.out _ B2.out.b HQ.out).mono ?_); rintro e4 w4 ⟨rfl, hb⟩; have B3 := Lib.hid (B2.out.keep hb); clear hb)
      clear c0 c1 c2
      have c0 := B3.out.p.cell 0
      have c1 := B3.out.p.cell 1
      have c2 := B3.out.p.cell 2
      simp only [List.getElem?_toArray, List.getElem?_cons_zero, List.getElem?_cons_succ] at c0 c1 c2
      go_wp2_with (go_at_call 9; (refine (RW.out _ B3.out.b).mono ?_); rintro e3 w3 ⟨rfl, hb⟩; have B4 := Lib.hid (B3.out.keep hb); clear hb)
      go_ret
      exact ⟨rfl, B4.out.b⟩
  · rw [decide_eq_false hs] at SM
    clear hs
    go_enter Try.func3, Try.ntmps3
    go_upto_region 1 with fail
    generalize (w.alloc (.cells #[txt p.name, .slice As p.states.length cs, .slice Am rs.length cm] 25)) = W0 at *
    go_upto_region 2 with (first | (go_at_call 6; (refine (AW.out _).mono ?_); rintro e1 w1 ⟨rfl, hb⟩; have B1 := Lib.hid (S0.out.keep hb); clear hb; have c0 := B1.out.p.cell 0; have c1 := B1.out.p.cell 1; have c2 := B1.out.p.cell 2; simp only [List.getElem?_toArray, List.getElem?_cons_zero, List.getElem?_cons_succ] at c0 c1 c2) | (go_at_call 7; (refine (SM.out _ B1.out.b).mono ?_); rintro e2 w2 ⟨rfl, hb⟩; have B2 := Lib.hid (B1.out.keep hb); clear hb))
    go_wp2_with (go_at_call 6; (refine (AW.out _).mono ?_); rintro e3 w3 ⟨rfl, hb⟩)
    go_ret
    exact ⟨rfl, B2.out.b.trans (hb.mono B2.out.b.size)⟩
theorem str_txt (s : ByteArray) : Value.string s = txt s.data.toList := by
  cases s
  rfl
theorem autotells_any (w : World) (vs vm : Value) (p : Pro) (h : ProAt w vs vm p) (hr : RchP p) (s1 : ByteArray) {q1 : Prop} (_ : q1) (_ : s1.size ≤ reachBytes) (s2 : ByteArray) {q2 : Prop} (_ : q2) (_ : s2.size ≤ reachBytes) :
    Calls Try.prog 3 #[proV vs vm p, .string s1, .string s2] w fun e w' => e = .returned (.bool true) ∧ Below w.heap.size w w' := by
  rw [str_txt s1, str_txt s2]
  exact autotells_nat w vs vm p h hr _ _
end Go.Proofs.Ytgfenklcelfkiaa
