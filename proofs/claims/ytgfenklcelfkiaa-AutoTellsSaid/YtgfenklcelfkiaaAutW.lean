/-
  The walks of the reference's Small and Same. (Template: by-name.py fills it.)
-/
import Derived.Test.YtgfenklcelfkiaaAutS
namespace Go.Proofs.Ytgfenklcelfkiaa
open Go.RowKit

/-- How much there is of a protocol. -/
def sizeP (p : Pro) : Nat := p.states.length + p.moves.length + (p.moves.map (·.outs.length)).sum
theorem sum_take {l : List Nat} {k x : Nat} (h : l[k]? = some x) : (l.take (k + 1)).sum = (l.take k).sum + x := by
  rw [List.take_add_one, h, List.sum_append]; simp
theorem sum_take_le (l : List Nat) (k : Nat) : (l.take k).sum ≤ l.sum := by
  have := congrArg List.sum (List.take_append_drop k l)
  rw [List.sum_append] at this
  omega
/-- Nothing is too long to be counted. -/
structure CntP (p : Pro) : Prop where
  st : p.states.length ≤ 140737488355328
  mv : p.moves.length ≤ 140737488355328
  out : ∀ m ∈ p.moves, m.outs.length ≤ 140737488355328
set_option maxRecDepth 10000 in
set_option maxHeartbeats 8000000 in
theorem rsmall_any (w : World) (vs vm : Value) (p : Pro) (h : ProAt w vs vm p) (hz : CntP p) :
    Calls Try.prog 7 #[proV vs vm p] w fun e w' => e = .returned (.bool (decide (sizeP p ≤ 80))) ∧ Below w.heap.size w w' := by
  obtain ⟨As, cs, rfl, _⟩ := h.states.len
  obtain ⟨rs, hm, Am, cm, rfl, hm1, hm2, hM, hE⟩ := h.moves
  have hml := moves_len hm
  have a1 := below_alloc1 w (.cells #[txt p.name, .slice As p.states.length cs, .slice Am rs.length cm] 25)
  have B1 := Blk.start w #[txt p.name, .slice As p.states.length cs, .slice Am rs.length cm] 25
  have c1 := B1.cell 1
  have c2 := B1.cell 2
  simp only [List.getElem?_toArray, List.getElem?_cons_zero, List.getElem?_cons_succ] at c1 c2
  have w0 : IntKind.i64.wrap ((p.states.length : Int) + (rs.length : Int)) = (p.states.length : Int) + (rs.length : Int) := IntWalk.i64_in _ (by have := hz.st; have := hz.mv; omega)
  have HO := Lib.hid (And.intro hM (And.intro hE (And.intro hm (And.intro hz hml))))
  have HA := Lib.hid (And.intro a1 B1)
  obtain ⟨R, hR⟩ : ∃ R, R = decide (sizeP p ≤ 80) := ⟨_, rfl⟩
  have HR := Lib.hid hR
  rw [← hR]
  clear h hM hE hm hz hm1 hm2 a1 B1 hml hR
  go_enter Try.func7, Try.ntmps7
  go_upto_region 2 with fail
  generalize w.alloc (.cells #[txt p.name, .slice As p.states.length cs, .slice Am rs.length cm] 25) = W at *
  have e0 : (p.states.length : Int) + (rs.length : Int) = ((p.states.length + rs.length + ((p.moves.map (·.outs.length)).take 0).sum : Nat) : Int) := by simp
  rw [e0]
  clear e0 w0
  go_wp2_with fail
  go_loopg [3, 4] rs.length (fun g v3 v4 wr => ∃ (i s : Nat), v3 = .int .i64 s ∧ v4 = .int .i64 i ∧ i ≤ rs.length ∧ g = rs.length - i ∧ s = p.states.length + rs.length + ((p.moves.map (·.outs.length)).take i).sum ∧ (0 < i → p.states.length + rs.length + ((p.moves.map (·.outs.length)).take (i - 1)).sum ≤ 80) ∧ wr = W)
  case atStart => exact ⟨0, _, rfl, rfl, Nat.zero_le _, rfl, rfl, fun h => absurd h (Nat.lt_irrefl _), rfl⟩
  case round =>
    obtain ⟨i, s, rfl, rfl, hi, hg, hs, hp, rfl⟩ := hrel
    have HS := Lib.hid (And.intro hs hp)
    clear hs hp
    by_cases hin : i = rs.length
    · have j1 : decide (i < rs.length) = false := decide_eq_false (by omega)
      have e : sizeP p = s := by
        have := HS.out.1
        rw [this]
        unfold sizeP
        rw [List.take_of_length_le (by rw [List.length_map, hin, HO.out.2.2.2.2]; exact Nat.le_refl _), HO.out.2.2.2.2]
      have FIN := Lib.hid (show R = decide (s ≤ 80) by rw [HR.out, e])
      have FI2 := Lib.hid (show decide ((s : Int) ≤ 80) = decide (s ≤ 80) by rw [decide_eq_decide]; omega)
      clear hi hg hin e
      go_wp2_with fail
      go_ret
      exact ⟨by rw [FIN.out, ← FI2.out]; simp, HA.out.1⟩
    · have hlt : i < rs.length := by omega
      have j1 : (i : Int) < (rs.length : Int) := by omega
      have j2 : (0 : Int) ≤ (i : Int) := by omega
      by_cases h80 : s ≤ 80
      · obtain ⟨y, hy⟩ : ∃ y, rs[i]? = some y := ⟨_, List.getElem?_eq_getElem hlt⟩
        have hmy := moves_at HO.out.2.2.1 hy
        obtain ⟨am, rfl, d0, d1, d2⟩ := sl_cell3 mvC_len HO.out.1 HA.out.1 hy (by omega)
        obtain ⟨Ay, cy, ey, _⟩ := (HO.out.2.1 y (List.mem_of_getElem? hy)).2.len
        unfold mvC at d0 d1 d2
        simp only [List.getElem?_cons_zero, List.getElem?_cons_succ] at d0 d1 d2
        rw [ey] at d2
        have hol := HO.out.2.2.2.1.out y.2 (List.mem_of_getElem? hmy)
        have wi : IntKind.i64.wrap ((i : Int) + 1) = (i : Int) + 1 := IntWalk.i64_in _ (by have := HO.out.2.2.2.1.mv; have := HO.out.2.2.2.2; omega)
        have ws : IntKind.i64.wrap ((s : Int) + (y.2.outs.length : Int)) = (s : Int) + (y.2.outs.length : Int) := IntWalk.i64_in _ (by omega)
        have j3 : (s : Int) ≤ 80 := by omega
        have nx := sum_take (l := p.moves.map (·.outs.length)) (k := i) (x := y.2.outs.length) (by rw [List.getElem?_map, hmy]; rfl)
        have HK := Lib.hid (And.intro hlt (And.intro hg (And.intro h80 nx)))
        clear hin hlt hi hg hy hmy h80 nx hol ey d0 d1
        go_wp2_with fail
        go_roundg (rs.length - (i + 1))
        case measure => have := HK.out.1; have := HK.out.2.1; omega
        case rel => exact ⟨i + 1, s + y.2.outs.length, by push_cast; rfl, by push_cast; rfl, HK.out.1, rfl, by rw [HK.out.2.2.2, HS.out.1, Nat.add_assoc], fun _ => by rw [Nat.add_sub_cancel, ← HS.out.1]; exact HK.out.2.2.1, rfl⟩
      · have e : R = false := by
          rw [HR.out]
          refine decide_eq_false fun h => h80 ?_
          have := sum_take_le (p.moves.map (·.outs.length)) i
          have h2 := HS.out.1
          unfold sizeP at h
          have := HO.out.2.2.2.2
          omega
        have FIN := Lib.hid e
        have j3 : decide ((s : Int) ≤ 80) = false := decide_eq_false (by omega)
        have j4 : decide (s ≤ 80) = false := decide_eq_false h80
        have j5 : ¬ (s : Int) ≤ 80 := by omega
        clear hi hg hin e h80 hlt
        go_wp2_with fail
        go_ret
        exact ⟨by rw [FIN.out]; rfl, HA.out.1⟩
end Go.Proofs.Ytgfenklcelfkiaa
