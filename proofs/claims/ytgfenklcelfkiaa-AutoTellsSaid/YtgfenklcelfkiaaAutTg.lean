/-
  The walk of the reference's Texts at equal lists. (Template: by-name.py fills it.)
-/
import Derived.Test.YtgfenklcelfkiaaAutTf
namespace Go.Proofs.Ytgfenklcelfkiaa
open Go.RowKit

theorem txt_cell {w wr : World} {A : Option Addr} {n k : Nat} {L : List (List UInt8)} {x : List UInt8} (h : Reads w w.heap.size 1 A n (L.map txt)) (hb : Below w.heap.size w wr) (hx : L[k]? = some x) (hn : k < n) : ∃ ad, A = some ad ∧ wr.cell? (ad.add k) = some (txt x) := by
  obtain ⟨ad, u, e, hbl, hu, hc⟩ := h.at_ hn
  rw [List.getElem?_map, hx] at hu
  obtain rfl : txt x = u := Option.some.inj hu
  exact ⟨ad, e, (hb.cell (p := ad.add k) (by rw [block_of_add]; exact hbl)).trans hc⟩
set_option maxRecDepth 10000 in
set_option maxHeartbeats 4000000 in
theorem rtexts_same (w : World) (Ba Bb : Nat) (va vb : Value) (L : List (List UInt8)) (ha : TxtOwn w Ba va L) (hb : TxtOwn w Bb vb L) (hl : L.length ≤ 100000) :
    Calls Try.prog 10 #[va, vb] w fun e w' => e = .returned (.bool true) ∧ Below w.heap.size w w' := by
  obtain ⟨A, c, rfl⟩ := own_shape ha
  obtain ⟨B, d, rfl⟩ := own_shape hb
  obtain ⟨_, _, hA⟩ := reads_own ha
  obtain ⟨_, _, hB⟩ := reads_own hb
  have HO := Lib.hid (And.intro hA (And.intro hB hl))
  have t0 : ((L.length : Int) != (L.length : Int)) = false := by simp
  clear hA hB hl ha hb
  go_enter Try.func10, Try.ntmps10
  go_wp2_with fail
  go_loopg [5] L.length (fun g v5 wr => ∃ k : Nat, v5 = .int .i64 k ∧ k ≤ L.length ∧ g = L.length - k ∧ Below w.heap.size w wr)
  case atStart => exact ⟨0, rfl, Nat.zero_le _, rfl, Below.refl _ _⟩
  case round =>
    obtain ⟨k, rfl, hk, hg, hb⟩ := hrel
    by_cases hkn : k = L.length
    · have j1 : decide (k < L.length) = false := decide_eq_false (by omega)
      have FIN := Lib.hid hb
      clear hk hg hb hkn
      go_wp2_with fail
      go_ret
      exact ⟨rfl, FIN.out⟩
    · have hlt : k < L.length := by omega
      obtain ⟨x, hx⟩ : ∃ x, L[k]? = some x := ⟨_, List.getElem?_eq_getElem hlt⟩
      obtain ⟨ad, rfl, d0⟩ := txt_cell HO.out.1 hb hx hlt
      obtain ⟨bd, rfl, e0⟩ := txt_cell HO.out.2.1 hb hx hlt
      have j1 : (k : Int) < (L.length : Int) := by omega
      have j2 : (0 : Int) ≤ (k : Int) := by omega
      have wk : IntKind.i64.wrap ((k : Int) + 1) = (k : Int) + 1 := IntWalk.i64_in _ (by have := HO.out.2.2; omega)
      have HK := Lib.hid (And.intro hlt (And.intro hg hb))
      clear hkn hlt hk hg hb hx
      go_wp2_with fail
      go_quiet (fail)
      go_wp2_with fail
      go_roundg (L.length - (k + 1))
      case measure => have := HK.out.1; have := HK.out.2.1; omega
      case rel => exact ⟨k + 1, by push_cast; rfl, HK.out.1, rfl, HK.out.2.2.trans ((below_drewN _ _).mono HK.out.2.2.size)⟩
end Go.Proofs.Ytgfenklcelfkiaa
