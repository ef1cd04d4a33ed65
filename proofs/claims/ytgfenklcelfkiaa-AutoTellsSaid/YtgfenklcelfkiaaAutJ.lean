/-
  The walks of package auto's ending and stuck. (Template: by-name.py fills it.)
-/
import Derived.Test.YtgfenklcelfkiaaAutI
namespace Go.Proofs.Ytgfenklcelfkiaa
open Go.RowKit

theorem endR_next {ms : List Mov} {j : Nat} {m : Mov} (s : Nat) (h : ms[j]? = some m) : endR (ms.take (j + 1)) s = endM (endR (ms.take j) s) m := by
  unfold endR
  rw [List.take_add_one, h, List.foldl_append]; rfl
theorem take_fits {p : Pro} (hf : Fits p) (j : Nat) : ∀ m ∈ p.moves.take j, 0 ≤ m.at_ ∧ m.at_ < (p.states.length : Int) := fun m hm => hf.at_ m (List.mem_of_mem_take hm)
theorem small_of {s n : Nat} (h : s < 2 ^ n) (hn : n ≤ 16) : s < 4294967296 := by
  have : 2 ^ n ≤ 2 ^ 16 := Nat.pow_le_pow_right (by omega) hn
  omega
/-- What the rounds of ending keep: the protocol's box, the set's. -/
structure EndS (w0 w : World) (b1 b3 s : Nat) (cs : Array Value) : Prop where
  p : Blk w b1 cs
  s : Blk w b3 #[.int .u32 (s : Int)]
  b : Below w0.heap.size w0 w
  lt : w0.heap.size ≤ b3
theorem EndS.keep {w0 w w' : World} {b1 b3 s : Nat} {cs : Array Value} (h : EndS w0 w b1 b3 s cs) (hb : Below w.heap.size w w') : EndS w0 w' b1 b3 s cs := ⟨h.p.keep hb, h.s.keep hb, h.b.trans (hb.mono h.b.size), h.lt⟩
theorem EndS.set {w0 w : World} {b1 b3 s : Nat} {cs : Array Value} (h : EndS w0 w b1 b3 s cs) (hne : b1 ≠ b3) (u : Nat) : EndS w0 (w.setCell ⟨b3, 0, none⟩ (.int .u32 (u : Int))) b1 b3 u cs :=
  ⟨h.p.other (fun e => hne e.symm) _, h.s.set 0 _, h.b.trans (grown_below_of grown_set h.b.size (fun k hk => by injection hk with hk; have := h.lt; omega)), h.lt⟩
theorem EndS.drew {w0 w : World} {b1 b3 s : Nat} {cs : Array Value} (h : EndS w0 w b1 b3 s cs) : EndS w0 w.drew b1 b3 s cs := ⟨h.p, h.s, h.b.drew, h.lt⟩
set_option maxRecDepth 10000 in
set_option maxHeartbeats 8000000 in
theorem ending_any (w : World) (vs vm : Value) (p : Pro) (h : ProAt w vs vm p) (hf : Fits p) (hn : p.states.length ≤ 16) :
    Calls Try.prog 65 #[proV vs vm p] w fun e w' => e = .returned (.int .u32 (endK p p.states.length : Nat)) ∧ Below w.heap.size w w' := by
  obtain ⟨As, cs, rfl, hls⟩ := h.states.len
  obtain ⟨rs, hm, Am, cm, rfl, hm2, hm3, hM, hE⟩ := h.moves
  have a1 := below_alloc1 w (.cells #[txt p.name, .slice As p.states.length cs, .slice Am rs.length cm] 25)
  have B1 := Blk.start w #[txt p.name, .slice As p.states.length cs, .slice Am rs.length cm] 25
  have c1 := B1.cell 1
  have c2 := B1.cell 2
  have c0 := B1.cell 0
  simp only [List.getElem?_toArray, List.getElem?_cons_zero, List.getElem?_cons_succ] at c0 c1 c2
  have FI := Lib.hid (finals_any _ _ _ p (h.below a1) hn)
  have HM := Lib.hid (And.intro hM hE)
  have HF := Lib.hid (And.intro hf (And.intro hn (And.intro hm (show rs.length ≤ maxLen by omega))))
  have HA := Lib.hid (And.intro a1 B1)
  clear h hf hn hls hm hm2 hm3 hM hE a1 B1
  have hmf := mkF
  go_enter Try.func65, Try.ntmps65
  go_upto_region 2 with (go_at_call 31; (with_reducible refine FI.out.mono ?_); rintro e w1 ⟨rfl, hb⟩; have H1 := Lib.hid hb; clear hb)
  have a2 := below_alloc1 w1 (.cells #[.int .u32 (finalS p : Nat)] 38)
  have B2 := Blk.start w1 #[.int .u32 (finalS p : Nat)] 38
  have b1 := (HA.out.2.keep H1.out).keep a2
  have bw := HA.out.1.trans (H1.out.mono HA.out.1.size)
  have E0 := Lib.hid (EndS.mk b1 B2 (bw.trans (a2.mono bw.size)) bw.size)
  have hne : w.heap.size ≠ w1.heap.size := by have := H1.out.size; rw [World.size_alloc] at this; omega
  have c3 := b1.cell 1
  simp only [List.getElem?_toArray, List.getElem?_cons_zero, List.getElem?_cons_succ] at c3
  have HN := Lib.hid hne
  clear a2 B2 b1 bw c0 c1 c2 hne
  generalize w1.alloc (.cells #[.int .u32 (finalS p : Nat)] 38) = W at *
  generalize w1.heap.size = b3 at *
  go_wp2_with fail
  go_loopg [11] p.states.length (fun g v11 wr => ∃ r : Nat, v11 = .int .i64 r ∧ r ≤ p.states.length ∧ g = p.states.length - r ∧ EndS w wr w.heap.size b3 (endK p r) #[txt p.name, .slice As p.states.length cs, .slice Am rs.length cm])
  case atStart => exact ⟨0, rfl, Nat.zero_le _, rfl, E0.out⟩
  case round =>
    obtain ⟨r, rfl, hr, hg, hE⟩ := hrel
    by_cases hrn : r = p.states.length
    · have e0 := hE.s.cell 0
      simp only [List.getElem?_toArray, List.getElem?_cons_zero] at e0
      have FIN := Lib.hid (And.intro hrn hE.b)
      have i1 : decide (r < p.states.length) = false := decide_eq_false (by omega)
      clear hr hg hE hrn
      go_wp2_with fail
      go_ret
      exact ⟨by rw [← FIN.out.1]; rfl, FIN.out.2⟩
    · have hlt : r < p.states.length := by omega
      have e2 := hE.p.cell 2
      simp only [List.getElem?_toArray, List.getElem?_cons_zero, List.getElem?_cons_succ] at e2
      have i1 : (r : Int) < (p.states.length : Int) := by omega
      have wr1 : IntKind.i64.wrap ((r : Int) + 1) = (r : Int) + 1 := IntWalk.i64_in _ (by have := HF.out.2.1; omega)
      have HR := Lib.hid (And.intro hlt (And.intro hg hE))
      clear hrn hlt hr hg hE
      go_wp2_with fail
      generalize wr = wo at *
      go_loopg [16] rs.length (fun g v16 wr => ∃ j : Nat, v16 = .int .i64 j ∧ j ≤ rs.length ∧ g = rs.length - j ∧ EndS w wr w.heap.size b3 (endR (p.moves.take j) (endK p r)) #[txt p.name, .slice As p.states.length cs, .slice Am rs.length cm])
      case atStart => exact ⟨0, rfl, Nat.zero_le _, rfl, HR.out.2.2⟩
      case round =>
        obtain ⟨j, rfl, hj, hg, hE⟩ := hrel
        by_cases hjn : j = rs.length
        · have FIN := Lib.hid (show EndS w wr w.heap.size b3 (endK p (r + 1)) #[txt p.name, .slice As p.states.length cs, .slice Am rs.length cm] from by
            rw [endK]
            have e : p.moves.take j = p.moves := List.take_of_length_le (by rw [hjn, moves_len HF.out.2.2.1]; exact Nat.le_refl _)
            rw [e] at hE
            exact hE)
          have i2 : decide (j < rs.length) = false := decide_eq_false (by omega)
          clear hj hg hE hjn
          go_wp2_with fail
          go_roundg (p.states.length - (r + 1))
          case measure => have := HR.out.1; have := HR.out.2.1; omega
          case rel => exact ⟨r + 1, by push_cast; rfl, HR.out.1, rfl, FIN.out⟩
        · have hlt : j < rs.length := by omega
          obtain ⟨x, hx⟩ : ∃ x, rs[j]? = some x := ⟨_, List.getElem?_eq_getElem hlt⟩
          obtain ⟨ad, rfl, d0, d1, d2⟩ := sl_cell3 mvC_len HM.out.1 hE.b hx (by omega)
          unfold mvC at d0 d1 d2
          simp only [List.getElem?_cons_zero, List.getElem?_cons_succ] at d0 d1 d2
          have hmx := moves_at HF.out.2.2.1 hx
          have hat := HF.out.1.at_ x.2 (List.mem_of_getElem? hmx)
          have hto := HF.out.1.to x.2 (List.mem_of_getElem? hmx)
          have hlo := (HM.out.2 x (List.mem_of_getElem? hx)).2
          have hnx := endR_next (endK p r) hmx
          have hsm := endR_lt (p.moves.take j) _ (endK_lt HF.out.1 r) (take_fits HF.out.1 j)
          have hsm' := small_of hsm HF.out.2.1
          generalize endR (p.moves.take j) (endK p r) = s at *
          obtain ⟨vo, op, z, outs⟩ := x
          dsimp only at d0 d1 d2 hat hto hlo hnx
          obtain ⟨k, rfl⟩ : ∃ k : Nat, z = k := ⟨z.toNat, by omega⟩
          obtain ⟨Ao, co, rfl, _⟩ := hlo.len
          have a3 := below_alloc1 wr (.cells #[txt op, .int .i64 (k : Int), .slice Ao outs.length co] 43)
          have B3 := Blk.start wr #[txt op, .int .i64 (k : Int), .slice Ao outs.length co] 43
          have E3 := hE.keep a3
          have CF := Lib.hid (cf_end w _ _ outs b3 (fun i => match outs[i]? with | some o => s.testBit o.to.toNat | none => false) (fun _ v => EndS w v w.heap.size b3 s #[txt p.name, .slice As p.states.length cs, .slice (some ad) rs.length cm] ∧ Blk v wr.heap.size #[txt op, .int .i64 (k : Int), .slice Ao outs.length co]) hlo E3.b ⟨E3, B3⟩
            (fun i o v hx hb hr => (end1_any v b3 s o hr.1.s hsm' (by have := hto o (List.mem_of_getElem? hx); have := HF.out.2.1; omega)).mono fun e v' ⟨he, hb'⟩ => ⟨by rw [he, hx], hb.trans (hb'.mono hb.size), hr.1.keep hb', hr.2.keep hb'⟩))
          rw [any_range (f := fun o : Ou => s.testBit o.to.toNat) (fun k x hx => by rw [hx])] at CF
          have i2 : (j : Int) < (rs.length : Int) := by omega
          have i3 : (0 : Int) ≤ (j : Int) := by omega
          have wj : IntKind.i64.wrap ((j : Int) + 1) = (j : Int) + 1 := IntWalk.i64_in _ (by have := HF.out.2.2.2; unfold maxLen at this; omega)
          have k0 : (0 : Int) ≤ (k : Int) := by omega
          have k1 : (k : Int) ≤ 32 := by have := HF.out.2.1; omega
          have sh := shl_eq (k := k) (by have := HF.out.2.1; omega)
          have ho := Lib.hid (or_eq (s := s) (k := k) hsm' (by have := HF.out.2.1; omega))
          have HX := Lib.hid (And.intro hlt (And.intro hg hnx))
          clear hjn hlt hj hg hE hx hmx hat hto hlo hnx hsm hsm' a3 B3 E3
          unfold endM at HX
          dsimp only at HX
          rw [Int.toNat_natCast] at HX
          generalize outs.any (fun o => s.testBit o.to.toNat) = B at *
          cases B
          · go_wp2_with (go_at_call 36; (refine CF.out.mono ?_); rintro e w3 ⟨rfl, hb3, _, hE3⟩; have H3 := Lib.hid hE3; clear hb3 hE3)
            go_roundg (rs.length - (j + 1))
            case measure => have := HX.out.1; have := HX.out.2.1; omega
            case rel => exact ⟨j + 1, by push_cast; rfl, HX.out.1, rfl, by rw [HX.out.2.2]; exact H3.out.1⟩
          · go_upto_region 8 with (go_at_call 36; (refine CF.out.mono ?_); rintro e w3 ⟨rfl, hb3, _, hE3⟩; have H3 := Lib.hid hE3; clear hb3 hE3)
            have e3 := H3.out.1.s.drew.cell 0
            have f3 := H3.out.1.s.drew.free 0
            have e4 := H3.out.2.drew.cell 1
            simp only [List.getElem?_toArray, List.getElem?_cons_zero, List.getElem?_cons_succ] at e3 e4
            have G3 := Lib.hid (H3.out.1.drew.set HN.out (s ||| 2 ^ k))
            go_region
            all_goals
              go_wp2_with fail
              go_roundg (rs.length - (j + 1))
              case measure => have := HX.out.1; have := HX.out.2.1; omega
              case rel => exact ⟨j + 1, by push_cast; rfl, HX.out.1, rfl, by rw [ho.out, HX.out.2.2]; exact G3.out⟩
/-! ### stuck -/
/-- The first state from which none is reached. -/
def stuckB (p : Pro) (i : Nat) : Bool := !goesB p p.states.length i
set_option maxHeartbeats 8000000 in
theorem stuck_any (w : World) (vs vm : Value) (p : Pro) (h : ProAt w vs vm p) (hf : Fits p) (hn : p.states.length ≤ 16) :
    Calls Try.prog 46 #[proV vs vm p] w fun e w' => e = .returned (.int .i64 (fstI (stuckB p) p.states.length)) ∧ Below w.heap.size w w' := by
  obtain ⟨As, cs, rfl, hls⟩ := h.states.len
  obtain ⟨Am, cm, rfl, hlm⟩ := h.moves.len
  have a1 := below_alloc1 w (.cells #[txt p.name, .slice As p.states.length cs, .slice Am p.moves.length cm] 25)
  have B1 := Blk.start w #[txt p.name, .slice As p.states.length cs, .slice Am p.moves.length cm] 25
  have EA := Lib.hid (ending_any _ _ _ p (h.below a1) hf hn)
  have HA := Lib.hid (And.intro a1 (And.intro B1 (And.intro hn hf)))
  have hsm := small_of (endK_lt hf p.states.length) hn
  have HB := Lib.hid (fun (i : Nat) (hi : i < p.states.length) => endK_goes hf hi)
  generalize endK p p.states.length = s at *
  have HS := Lib.hid hsm
  clear h hf hn hls hlm a1 B1 hsm
  go_enter Try.func46, Try.ntmps46
  go_upto_region 2 with (go_at_call 65; (with_reducible refine EA.out.mono ?_); rintro e w1 ⟨rfl, hb⟩; have H1 := Lib.hid hb; clear hb)
  have b1 := HA.out.2.1.keep H1.out
  have c1 := b1.cell 1
  simp only [List.getElem?_toArray, List.getElem?_cons_zero, List.getElem?_cons_succ] at c1
  have HW := Lib.hid (HA.out.1.trans (H1.out.mono HA.out.1.size))
  clear b1
  go_wp2_with fail
  go_loopg [10] p.states.length (fun g v10 wr => ∃ r : Nat, v10 = .int .i64 r ∧ r ≤ p.states.length ∧ g = p.states.length - r ∧ (∀ i, i < r → stuckB p i = false) ∧ wr = w1)
  case atStart => exact ⟨0, rfl, Nat.zero_le _, rfl, fun i hi => absurd hi (Nat.not_lt_zero _), rfl⟩
  case round =>
    obtain ⟨r, rfl, hr, hg, hall, rfl⟩ := hrel
    by_cases hrn : r = p.states.length
    · have FIN := Lib.hid (show fstI (stuckB p) p.states.length = -1 from fst_none (by rw [← hrn]; exact hall))
      have i1 : decide (r < p.states.length) = false := decide_eq_false (by omega)
      clear hr hg hrn hall
      go_wp2_with fail
      go_ret
      exact ⟨by rw [FIN.out]; rfl, HW.out⟩
    · have hlt : r < p.states.length := by omega
      have i1 : (r : Int) < (p.states.length : Int) := by omega
      have wr1 : IntKind.i64.wrap ((r : Int) + 1) = (r : Int) + 1 := IntWalk.i64_in _ (by have := HA.out.2.2.1; omega)
      have HH := Lib.hid (fun (v : World) => has_any v s r HS.out (by have := HA.out.2.2.1; omega))
      have hq : stuckB p r = !s.testBit r := by rw [HB.out r hlt]; rfl
      have HR := Lib.hid (And.intro hlt (And.intro hg (And.intro hall hq)))
      clear hrn hlt hr hg hall hq
      generalize s.testBit r = B at *
      cases B
      · go_wp2_with (go_at_call 41; (with_reducible refine (HH.out _).mono ?_); rintro e w1 ⟨rfl, rfl⟩)
        go_ret
        exact ⟨by rw [fst_hit HR.out.1 HR.out.2.2.2 HR.out.2.2.1]; rfl, HW.out⟩
      · have NX := Lib.hid (show ∀ i, i < r + 1 → stuckB p i = false from fun i hi => by
          by_cases e : i = r
          · rw [e]; exact HR.out.2.2.2
          · exact HR.out.2.2.1 i (by omega))
        go_wp2_with (go_at_call 41; (with_reducible refine (HH.out _).mono ?_); rintro e w1 ⟨rfl, rfl⟩)
        go_roundg (p.states.length - (r + 1))
        case measure => have := HR.out.1; have := HR.out.2.1; omega
        case rel => exact ⟨r + 1, by push_cast; rfl, HR.out.1, rfl, NX.out, rfl⟩
end Go.Proofs.Ytgfenklcelfkiaa
