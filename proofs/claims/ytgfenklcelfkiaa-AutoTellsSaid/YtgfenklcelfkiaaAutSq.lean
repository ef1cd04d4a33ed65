/-
  The walks of Step, and of the reference's Bit and Outs. (Template: by-name.py fills it.)
-/
import Derived.Test.YtgfenklcelfkiaaAutSp
namespace Go.Proofs.Ytgfenklcelfkiaa
open Go.RowKit

theorem foldM_next {ms : List Mov} {k : Nat} {m : Mov} (S : Nat) (op nm : List UInt8) (h : ms[k]? = some m) : (ms.take (k + 1)).foldl (stM S op nm) 0 = stM S op nm ((ms.take k).foldl (stM S op nm) 0) m := by
  rw [List.take_add_one, h, List.foldl_append]; rfl
set_option maxRecDepth 10000 in
set_option maxHeartbeats 8000000 in
theorem step_any (w : World) (a : Nat) (p : Pro) (h : AutAt w a p) (hz : SzP p) (hf : Fits p) (hn : p.states.length ≤ 16) (S : Nat) (hS : S < 4294967296) (op nm : List UInt8) :
    Calls Try.prog 23 #[.pointer (some ⟨a, 0, none⟩), .int .u32 (S : Int), txt op, txt nm] w fun e w' => e = .returned (.int .u32 (stepS p S op nm : Nat)) ∧ Below w.heap.size w w' := by
  obtain ⟨vs, vm, hB, hP⟩ := h
  obtain ⟨rs, hm, Am, cm, rfl, _, _, hM, hE⟩ := hP.moves
  have hml := moves_len hm
  have a1 := below_alloc1 w (.cells #[.int .u32 (S : Int)] 38)
  have B1 := Blk.start w #[.int .u32 (S : Int)] 38
  have a2 := below_alloc1 (w.alloc (.cells #[.int .u32 (S : Int)] 38)) (.cells #[txt nm] 9)
  have B2 := Blk.start (w.alloc (.cells #[.int .u32 (S : Int)] 38)) #[txt nm] 9
  have a3 := below_alloc1 ((w.alloc (.cells #[.int .u32 (S : Int)] 38)).alloc (.cells #[txt nm] 9)) (.cells #[.int .u32 0] 38)
  have B3 := Blk.start ((w.alloc (.cells #[.int .u32 (S : Int)] 38)).alloc (.cells #[txt nm] 9)) #[.int .u32 0] 38
  rw [World.size_alloc] at B2 B3
  rw [World.size_alloc] at B3
  have bw := (a1.trans (a2.mono a1.size)).trans (a3.mono (a1.trans (a2.mono a1.size)).size)
  have EC := Lib.hid (each_step w _ a w.heap.size (w.heap.size + 1) (w.heap.size + 1 + 1) p.name vs Am cm op rs (fun k v => StpS v w.heap.size (w.heap.size + 1) (w.heap.size + 1 + 1) S ((p.moves.take k).foldl (stM S op nm) 0) nm) (hB.keep bw) hM (fun x hx => (hE x hx).2) (by have := hz.mv; omega) bw ⟨(B1.keep a2).keep a3, B2.keep a3, B3, by omega, by omega⟩
    (fun k x wr hx hb hr => ⟨fun he => (step1_any w wr _ _ _ S _ p.states.length nm x.2 x.1 hr ((hE x (List.mem_of_getElem? hx)).2) hb (by omega) hS (stepM_lt (p.moves.take k) 0 (Nat.two_pow_pos _) (fun m hm' => hf.to m (List.mem_of_mem_take hm'))) hn (hf.at_ x.2 (List.mem_of_getElem? (moves_at hm hx))) (hf.to x.2 (List.mem_of_getElem? (moves_at hm hx))) (hz.out x.2 (List.mem_of_getElem? (moves_at hm hx)))).mono fun e v ⟨h1, h2, h3⟩ => ⟨h1, h2, by
        rw [foldM_next S op nm (moves_at hm hx)]
        unfold stM
        rw [if_pos he]
        exact h3⟩, fun he => by
        rw [foldM_next S op nm (moves_at hm hx)]
        unfold stM
        rw [if_neg he]
        exact hr⟩) (fun k w1 w2 hr hb => hr.keep hb))
  have ev : (p.moves.take rs.length).foldl (stM S op nm) 0 = stepS p S op nm := by unfold stepS; rw [hml, List.take_length]
  rw [ev] at EC
  clear hB hP hm hM hE hml a1 a2 a3 B1 B2 B3 bw hz hf hn hS ev
  generalize stepS p S op nm = R at *
  have hmf := mkF
  go_enter Try.func23, Try.ntmps23
  go_wp2_with (go_at_call 32; (refine EC.out.mono ?_); rintro e w1 ⟨rfl, hb, hr⟩; have c9 := hr.s.cell 0; simp only [List.getElem?_toArray, List.getElem?_cons_zero] at c9; have H1 := Lib.hid hb; clear hb hr)
  go_ret
  exact ⟨rfl, H1.out⟩
/-! ### The reference -/
/-- The outcomes of the move of an operation from a state. -/
def outsOf (ms : List Mov) (i : Int) (op : List UInt8) : List Ou := match ms.find? fun m => decide (m.at_ = i) && (m.op == op) with
  | some m => m.outs
  | none => []
set_option maxRecDepth 10000 in
set_option maxHeartbeats 8000000 in
theorem routs_any (w : World) (vs vm : Value) (p : Pro) (h : ProAt w vs vm p) (hz : p.moves.length ≤ 80) (i : Int) (op : List UInt8) :
    Calls Try.prog 21 #[proV vs vm p, .int .i64 i, txt op] w fun e w' => ∃ A c, e = .returned (.slice A (outsOf p.moves i op).length c) ∧ OutsAt w' (.slice A (outsOf p.moves i op).length c) (outsOf p.moves i op) ∧ Below w.heap.size w w' := by
  obtain ⟨As, cs, rfl, _⟩ := h.states.len
  obtain ⟨rs, hm, Am, cm, rfl, _, _, hM, hE⟩ := h.moves
  have hml := moves_len hm
  have a1 := below_alloc1 w (.cells #[txt p.name, .slice As p.states.length cs, .slice Am rs.length cm] 25)
  have B1 := Blk.start w #[txt p.name, .slice As p.states.length cs, .slice Am rs.length cm] 25
  have c2 := B1.cell 2
  simp only [List.getElem?_toArray, List.getElem?_cons_zero, List.getElem?_cons_succ] at c2
  have HO := Lib.hid (And.intro hM (And.intro hE (And.intro hm (And.intro hz (And.intro hml a1)))))
  have HP := Lib.hid (show ∀ l : List Ou, outsOf p.moves i op = l → ∀ A0 c0 (w' : World), OutsAt w' (.slice A0 l.length c0) l → Below w.heap.size w w' → ∃ A c, (Ending.returned (.slice A0 l.length c0)) = .returned (.slice A (outsOf p.moves i op).length c) ∧ OutsAt w' (.slice A (outsOf p.moves i op).length c) (outsOf p.moves i op) ∧ Below w.heap.size w w' from fun l e A c w' h1 h2 => by rw [e]; exact ⟨A, c, rfl, h1, h2⟩)
  clear h hm hM hE hz hml a1 B1
  go_enter Try.func21, Try.ntmps21
  go_upto_region 1 with fail
  generalize w.alloc (.cells #[txt p.name, .slice As p.states.length cs, .slice Am rs.length cm] 25) = W at *
  go_wp2_with fail
  go_loopg [7] rs.length (fun g v7 wr => ∃ k : Nat, v7 = .int .i64 k ∧ k ≤ rs.length ∧ g = rs.length - k ∧ (∀ (k' : Nat) (m : Mov), k' < k → p.moves[k']? = some m → ¬ (m.at_ = i ∧ m.op = op)) ∧ wr = W)
  case atStart => exact ⟨0, rfl, Nat.zero_le _, rfl, fun k m h => absurd h (Nat.not_lt_zero _), rfl⟩
  case round =>
    obtain ⟨k, rfl, hk, hg, hall, rfl⟩ := hrel
    by_cases hkn : k = rs.length
    · have j1 : decide (k < rs.length) = false := decide_eq_false (by omega)
      have ev : outsOf p.moves i op = [] := by
        unfold outsOf
        rw [List.find?_eq_none.mpr fun m hm => by
          obtain ⟨j, hj⟩ := List.mem_iff_getElem?.1 hm
          have := hall j m (by have := (List.getElem?_eq_some_iff.1 hj).1; have := HO.out.2.2.2.2.1; omega) hj
          simpa [Bool.and_eq_true] using this]
      have FIN := Lib.hid (HP.out [] ev none 0 wr (SlAt.nil _ _ _ _) HO.out.2.2.2.2.2)
      clear hk hg hall hkn ev
      go_wp2_with fail
      go_ret
      obtain ⟨A, c, e, h1, h2⟩ := FIN.out
      exact ⟨A, c, (show Ending.returned (.slice none 0 0) = _ from e), h1, h2⟩
    · have hlt : k < rs.length := by omega
      obtain ⟨x, hx⟩ : ∃ x, rs[k]? = some x := ⟨_, List.getElem?_eq_getElem hlt⟩
      have hmx := moves_at HO.out.2.2.1 hx
      obtain ⟨ad, rfl, d0, d1, d2⟩ := sl_cell3 mvC_len HO.out.1 HO.out.2.2.2.2.2 hx (by omega)
      unfold mvC at d0 d1 d2
      simp only [List.getElem?_cons_zero, List.getElem?_cons_succ] at d0 d1 d2
      have ho := ((HO.out.2.1 x (List.mem_of_getElem? hx)).2).below HO.out.2.2.2.2.2
      obtain ⟨Ao, co, eo, _⟩ := ho.len
      rw [eo] at d2 ho
      have j1 : (k : Int) < (rs.length : Int) := by omega
      have j2 : (0 : Int) ≤ (k : Int) := by omega
      have wk : IntKind.i64.wrap ((k : Int) + 1) = (k : Int) + 1 := IntWalk.i64_in _ (by have := HO.out.2.2.2.1; have := HO.out.2.2.2.2.1; omega)
      have HK := Lib.hid (And.intro hlt (And.intro hg (And.intro hall (And.intro hmx ho))))
      clear hkn hlt hk hg hall hx hmx eo ho
      have step : ¬ (x.2.at_ = i ∧ x.2.op = op) → ∀ (k' : Nat) (m : Mov), k' < k + 1 → p.moves[k']? = some m → ¬ (m.at_ = i ∧ m.op = op) := fun hne k' m h1 h2 => by
        by_cases e : k' = k
        · subst e; rw [HK.out.2.2.2.1] at h2; obtain rfl := Option.some.inj h2; exact hne
        · exact HK.out.2.2.1 k' m (by omega) h2
      have ST := Lib.hid step
      clear step
      by_cases q1 : x.2.at_ = i
      · have t0 : (x.2.at_ == i) = true := beq_iff_eq.mpr q1
        by_cases q2 : x.2.op = op
        · have t1 : (x.2.op == op) = true := beq_iff_eq.mpr q2
          have ev : outsOf p.moves i op = x.2.outs := by
            unfold outsOf
            have hf : p.moves.find? (fun m => decide (m.at_ = i) && (m.op == op)) = some x.2 := by
              rw [List.find?_eq_some_iff_getElem]
              refine ⟨by rw [decide_eq_true q1, t1]; rfl, k, (List.getElem?_eq_some_iff.1 HK.out.2.2.2.1).1, (List.getElem?_eq_some_iff.1 HK.out.2.2.2.1).2, fun j hj => ?_⟩
              have := HK.out.2.2.1 j _ hj (List.getElem?_eq_getElem (by have := (List.getElem?_eq_some_iff.1 HK.out.2.2.2.1).1; omega))
              rw [Bool.not_eq_true', Bool.and_eq_false_iff, decide_eq_false_iff_not, beq_eq_false_iff_ne]
              exact Classical.or_iff_not_imp_left.mpr fun h h2 => this ⟨Classical.not_not.mp h, h2⟩
            rw [hf]
          have FIN := Lib.hid (HP.out _ ev Ao co wr HK.out.2.2.2.2 HO.out.2.2.2.2.2)
          clear q1 q2 ev
          go_wp2_with fail
          go_ret
          obtain ⟨A, c, e, h1, h2⟩ := FIN.out
          exact ⟨A, c, (show Ending.returned (.slice Ao x.2.outs.length co) = _ from e), h1, h2⟩
        · have t1 : (x.2.op == op) = false := beq_eq_false_iff_ne.mpr q2
          have NX := Lib.hid (ST.out fun h => q2 h.2)
          clear q1 q2
          go_wp2_with fail
          go_roundg (rs.length - (k + 1))
          case measure => have := HK.out.1; have := HK.out.2.1; omega
          case rel => exact ⟨k + 1, by push_cast; rfl, HK.out.1, rfl, NX.out, rfl⟩
      · have t1 : (x.2.at_ == i) = false := beq_eq_false_iff_ne.mpr q1
        have NX := Lib.hid (ST.out fun h => q1 h.1)
        clear q1
        go_wp2_with fail
        go_roundg (rs.length - (k + 1))
        case measure => have := HK.out.1; have := HK.out.2.1; omega
        case rel => exact ⟨k + 1, by push_cast; rfl, HK.out.1, rfl, NX.out, rfl⟩
end Go.Proofs.Ytgfenklcelfkiaa
