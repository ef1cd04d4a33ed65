/-
  The walks of the reference's Same and Like at equal things. (Template: by-name.py fills it; gen/genAutX.py writes it.)
-/
import Derived.Test.YtgfenklcelfkiaaAutV
import Derived.Test.YtgfenklcelfkiaaAutW
namespace Go.Proofs.Ytgfenklcelfkiaa
open Go.RowKit

set_option maxRecDepth 10000 in
set_option maxHeartbeats 4000000 in
theorem rsame_same (w : World) (va vb : Value) (os : List Ou) (ha : OutsAt w va os) (hb : OutsAt w vb os) (hl : os.length ≤ 80) :
    Calls Try.prog 19 #[va, vb] w fun e w' => e = .returned (.bool true) ∧ Below w.heap.size w w' := by
  obtain ⟨A, c, rfl, _, _, hA, _⟩ := ha
  obtain ⟨B, d, rfl, _, _, hB, _⟩ := hb
  have HO := Lib.hid (And.intro hA (And.intro hB hl))
  have t0 : ((os.length : Int) != (os.length : Int)) = false := by simp
  clear hA hB hl
  go_enter Try.func19, Try.ntmps19
  go_wp2_with fail
  go_loopg [5] os.length (fun g v5 wr => ∃ k : Nat, v5 = .int .i64 k ∧ k ≤ os.length ∧ g = os.length - k ∧ Below w.heap.size w wr)
  case atStart => exact ⟨0, rfl, Nat.zero_le _, rfl, Below.refl _ _⟩
  case round =>
    obtain ⟨k, rfl, hk, hg, hb⟩ := hrel
    by_cases hkn : k = os.length
    · have j1 : decide (k < os.length) = false := decide_eq_false (by omega)
      have FIN := Lib.hid hb
      clear hk hg hb hkn
      go_wp2_with fail
      go_ret
      exact ⟨rfl, FIN.out⟩
    · have hlt : k < os.length := by omega
      obtain ⟨x, hx⟩ : ∃ x, os[k]? = some x := ⟨_, List.getElem?_eq_getElem hlt⟩
      obtain ⟨ad, rfl, d0, d1⟩ := sl_cell2 ouC_len HO.out.1 hb hx (by omega)
      obtain ⟨bd, rfl, e0, e1⟩ := sl_cell2 ouC_len HO.out.2.1 hb hx (by omega)
      unfold ouC at d0 d1 e0 e1
      simp only [List.getElem?_cons_zero, List.getElem?_cons_succ] at d0 d1 e0 e1
      have j1 : (k : Int) < (os.length : Int) := by omega
      have j2 : (0 : Int) ≤ (k : Int) := by omega
      have wk : IntKind.i64.wrap ((k : Int) + 1) = (k : Int) + 1 := IntWalk.i64_in _ (by have := HO.out.2.2; omega)
      have HK := Lib.hid (And.intro hlt (And.intro hg hb))
      clear hkn hlt hk hg hb hx
      go_wp2_with fail
      go_quiet (fail)
      go_wp2_with fail
      go_roundg (os.length - (k + 1))
      case measure => have := HK.out.1; have := HK.out.2.1; omega
      case rel => exact ⟨k + 1, by push_cast; rfl, HK.out.1, rfl, HK.out.2.2.trans ((below_drewN _ _).mono HK.out.2.2.size)⟩
end Go.Proofs.Ytgfenklcelfkiaa
