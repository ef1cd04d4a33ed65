/-
  The walk of the reference's Outcomes. (Template: by-name.py fills it.)
-/
import Derived.Test.YtgfenklcelfkiaaAutTc
namespace Go.Proofs.Ytgfenklcelfkiaa
open Go.RowKit

theorem outM_len {op : List UInt8} {L : List (List UInt8)} {m : Mov} (h : m.outs.length ≤ 80) : (outM op L m).length ≤ L.length + 80 := by
  unfold outM
  split
  · have := outs_len m.outs L; omega
  · omega
set_option maxRecDepth 10000 in
set_option maxHeartbeats 16000000 in
theorem routcomes_any (w : World) (vs vm : Value) (p : Pro) (h : ProAt w vs vm p) (hz : SzP p) (op : List UInt8) :
    Calls Try.prog 16 #[proV vs vm p, txt op] w fun e w' => ∃ v, e = .returned v ∧ TxtOwn w' w.heap.size v (outcomesL p op) ∧ Below w.heap.size w w' := by
  obtain ⟨As, cs, rfl, _⟩ := h.states.len
  obtain ⟨rs, hm, Am, cm, rfl, _, _, hM, hE⟩ := h.moves
  have hml := moves_len hm
  have a1 := below_alloc1 w (.cells #[txt p.name, .slice As p.states.length cs, .slice Am rs.length cm] 25)
  have B1 := Blk.start w #[txt p.name, .slice As p.states.length cs, .slice Am rs.length cm] 25
  have HO := Lib.hid (And.intro hM (And.intro hE (And.intro hm (And.intro hz (And.intro hml (And.intro a1 B1))))))
  have WS := Lib.hid (World.size_alloc w (.cells #[txt p.name, .slice As p.states.length cs, .slice Am rs.length cm] 25))
  clear h hm hM hE hz hml a1 B1
  go_enter Try.func16, Try.ntmps16
  go_upto_region 1 with fail
  generalize w.alloc (.cells #[txt p.name, .slice As p.states.length cs, .slice Am rs.length cm] 25) = W at *
  go_wp2_with fail
  go_loopg [5, 6] rs.length (fun g v5 v6 wr => ∃ k : Nat, v6 = .int .i64 k ∧ k ≤ rs.length ∧ g = rs.length - k ∧ TxtOwn wr W.heap.size v5 ((p.moves.take k).foldl (outM op) []) ∧ Below W.heap.size W wr)
  case atStart => exact ⟨0, rfl, Nat.zero_le _, rfl, World.ownsRow_nil _ _ _ _, Below.refl _ _⟩
  case round =>
    obtain ⟨k, rfl, hk, hg, hT, hb⟩ := hrel
    have c2 := (HO.out.2.2.2.2.2.2.keep hb).cell 2
    simp only [List.getElem?_toArray, List.getElem?_cons_zero, List.getElem?_cons_succ] at c2
    by_cases hkn : k = rs.length
    · have j1 : decide (k < rs.length) = false := decide_eq_false (by omega)
      have FIN := Lib.hid (show TxtOwn wr w.heap.size u5 (outcomesL p op) ∧ Below w.heap.size w wr by
        have e : k = p.moves.length := by rw [hkn]; exact HO.out.2.2.2.2.1
        rw [e, List.take_length] at hT
        have := WS.out
        exact ⟨own_less hT (by omega), HO.out.2.2.2.2.2.1.trans (hb.mono (by omega))⟩)
      clear hk hg hT hb hkn
      go_wp2_with fail
      go_ret
      exact ⟨_, rfl, FIN.out⟩
    · have hlt : k < rs.length := by omega
      obtain ⟨x, hx⟩ : ∃ x, rs[k]? = some x := ⟨_, List.getElem?_eq_getElem hlt⟩
      have b0 := HO.out.2.2.2.2.2.1.trans (hb.mono (by have := WS.out; omega))
      have cells := fun (v : World) (hv : Below w.heap.size w v) => sl_cell3 mvC_len HO.out.1 hv hx (by omega)
      have nx := outM_next op (moves_at HO.out.2.2.1 hx)
      have hol := HO.out.2.2.2.1.out x.2 (List.mem_of_getElem? (moves_at HO.out.2.2.1 hx))
      have ll := outMs_len op (p.moves.take k) [] (fun m hm => HO.out.2.2.2.1.out m (List.mem_of_mem_take hm))
      have hOe := (HO.out.2.1 x (List.mem_of_getElem? hx)).2
      obtain ⟨ad, ea, _⟩ := cells wr b0
      subst ea
      obtain ⟨vo, op2, at_, outs⟩ := x
      unfold mvC at cells
      dsimp only [List.getElem?_cons_zero, List.getElem?_cons_succ] at nx hol cells hOe
      obtain ⟨Ao, co, rfl, _, _, hO, _⟩ := hOe
      have CE := Lib.hid (fun (v : World) (hv : Below w.heap.size w v) => show v.cell? (ad.add (k * 3)) = some (txt op2) ∧ v.cell? ⟨(ad.add (k * 3)).block, (ad.add (k * 3)).off + 2, none⟩ = some (.slice Ao outs.length co) from by
        obtain ⟨ad', e, d0, _, d2⟩ := cells v hv
        injection e with e
        subst e
        exact ⟨d0, d2⟩)
      clear cells
      have j1 : (k : Int) < (rs.length : Int) := by omega
      have j2 : (0 : Int) ≤ (k : Int) := by omega
      have kb : k ≤ 80 := by have := HO.out.2.2.2.1.mv; have := HO.out.2.2.2.2.1; omega
      have wk : IntKind.i64.wrap ((k : Int) + 1) = (k : Int) + 1 := IntWalk.i64_in _ (by omega)
      have ML : ((p.moves.take k).foldl (outM op) []).length ≤ 6400 := by rw [List.length_nil, List.length_take] at ll; omega
      generalize (p.moves.take k).foldl (outM op) [] = M at *
      have HK := Lib.hid (And.intro hlt (And.intro hg (And.intro nx (And.intro hb (And.intro hol (And.intro hO (And.intro ML hT)))))))
      clear hkn hlt hk hg hb b0 hx nx ll hT hol hO ML
      generalize wr = wo at *
      go_wp2_with fail
      go_loopg [5, 7] outs.length (fun g v5 v7 wr => ∃ q : Nat, v7 = .int .i64 q ∧ q ≤ outs.length ∧ g = outs.length - q ∧ (op2 = op ∨ q = 0) ∧ TxtOwn wr W.heap.size v5 ((outs.take q).foldl (fun L o => addL L o.name) M) ∧ Below W.heap.size W wr)
      case atStart => exact ⟨0, rfl, Nat.zero_le _, rfl, .inr rfl, HK.out.2.2.2.2.2.2.2, HK.out.2.2.2.1⟩
      case round =>
        obtain ⟨q, rfl, hq, hg, hop, hT, hb⟩ := hrel
        have bw := HO.out.2.2.2.2.2.1.trans (hb.mono (by have := WS.out; omega))
        obtain ⟨d0, d2⟩ := CE.out wr bw
        have c2 := (HO.out.2.2.2.2.2.2.keep hb).cell 2
        simp only [List.getElem?_toArray, List.getElem?_cons_zero, List.getElem?_cons_succ] at c2
        by_cases hqn : q = outs.length
        · have j3 : decide (q < outs.length) = false := decide_eq_false (by omega)
          have NX := Lib.hid (show TxtOwn wr W.heap.size u5 (outM op M ⟨op2, at_, outs⟩) by
            unfold outM
            rw [hqn, List.take_length] at hT
            by_cases e : op2 = op
            · rw [if_pos e]; exact hT
            · rw [if_neg e]
              have : outs = [] := List.length_eq_zero_iff.mp (by rcases hop with a | a; exact absurd a e; omega)
              rw [this] at hT
              exact hT)
          have H2 := Lib.hid hb
          clear hq hg hop hT hb bw hqn
          go_wp2_with fail
          go_roundg (rs.length - (k + 1))
          case measure => have := HK.out.1; have := HK.out.2.1; omega
          case rel => exact ⟨k + 1, by push_cast; rfl, HK.out.1, rfl, by rw [HK.out.2.2.1]; exact NX.out, H2.out⟩
        · have hlt : q < outs.length := by omega
          have j3 : (q : Int) < (outs.length : Int) := by omega
          have j4 : (0 : Int) ≤ (q : Int) := by omega
          by_cases e : op2 = op
          · have t1 : (op2 == op) = true := beq_iff_eq.mpr e
            obtain ⟨x, hx⟩ : ∃ x, outs[q]? = some x := ⟨_, List.getElem?_eq_getElem hlt⟩
            obtain ⟨ao, rfl, o0, _⟩ := sl_cell2 ouC_len HK.out.2.2.2.2.2.1 bw hx (by omega)
            unfold ouC at o0
            simp only [List.getElem?_cons_zero] at o0
            have nq := outO_next M hx
            have lq := outs_len (outs.take q) M
            obtain ⟨xn, xt⟩ := x
            dsimp only at nq o0
            generalize (outs.take q).foldl (fun L o => addL L o.name) M = N at *
            have wq : IntKind.i64.wrap ((q : Int) + 1) = (q : Int) + 1 := IntWalk.i64_in _ (by have := HK.out.2.2.2.2.1; omega)
            have AD := Lib.hid (radd_any wr W.heap.size u5 N xn hT (by rw [List.length_take] at lq; have := HK.out.2.2.2.2.1; have := HK.out.2.2.2.2.2.2.1; omega) hb.size)
            have HQ := Lib.hid (And.intro hlt (And.intro hg (And.intro nq (And.intro hb e))))
            clear hqn hlt hq hg hb bw hx nq lq hT e hop
            go_wp2_with (go_at_call 30; (refine AD.out.mono ?_); rintro e w1 ⟨v', rfl, hT1, hb1⟩; have H1 := Lib.hid (And.intro hT1 hb1); clear hT1 hb1)
            go_roundg (outs.length - (q + 1))
            case measure => have := HQ.out.1; have := HQ.out.2.1; omega
            case rel => exact ⟨q + 1, by push_cast; rfl, HQ.out.1, rfl, .inl HQ.out.2.2.2.2, by rw [HQ.out.2.2.1]; exact H1.out.1, HQ.out.2.2.2.1.trans H1.out.2⟩
          · have t1 : (op2 == op) = false := beq_eq_false_iff_ne.mpr e
            have NX := Lib.hid (show TxtOwn wr W.heap.size u5 (outM op M ⟨op2, at_, outs⟩) by
              unfold outM
              rw [if_neg e]
              have : q = 0 := by rcases hop with a | a; exact absurd a e; exact a
              rw [this] at hT
              exact hT)
            have H2 := Lib.hid hb
            clear hq hg hop hT hb bw hqn hlt e
            go_wp2_with fail
            go_roundg (rs.length - (k + 1))
            case measure => have := HK.out.1; have := HK.out.2.1; omega
            case rel => exact ⟨k + 1, by push_cast; rfl, HK.out.1, rfl, by rw [HK.out.2.2.1]; exact NX.out, H2.out⟩
end Go.Proofs.Ytgfenklcelfkiaa
