/-
  The walk of package auto's State. (Template: by-name.py fills it.)
-/
import Derived.Test.YtgfenklcelfkiaaAutOc
namespace Go.Proofs.Ytgfenklcelfkiaa
open Go.RowKit

/-- What State answers. -/
def StaPut (p : Pro) (nm : List UInt8) (e : Ending) : Prop :=
  (∃ (k : Nat) (s : Sta), e = .returned (.tuple #[.int .i64 (k : Int), .bool true]) ∧ p.states[k]? = some s ∧ s.name = nm) ∨ (e = .returned (.tuple #[.int .i64 0, .bool false]) ∧ ∀ s ∈ p.states, s.name ≠ nm)
set_option maxRecDepth 10000 in
set_option maxHeartbeats 8000000 in
theorem state_any (w : World) (a : Nat) (p : Pro) (h : AutAt w a p) (hz : SzP p) (nm : List UInt8) :
    Calls Try.prog 22 #[.pointer (some ⟨a, 0, none⟩), txt nm] w fun e w' => StaPut p nm e ∧ Below w.heap.size w w' := by
  obtain ⟨vs, vm, hB, hP⟩ := h
  obtain ⟨As, cs, rfl, _, _, hS, _⟩ := hP.states
  have c1 := hB.cell 1
  simp only [List.getElem?_toArray, List.getElem?_cons_zero, List.getElem?_cons_succ] at c1
  have HO := Lib.hid (And.intro hS hz.st)
  clear hP hS hz
  go_enter Try.func22, Try.ntmps22
  go_wp2_with fail
  go_loopg [14] p.states.length (fun g v14 wr => ∃ k : Nat, v14 = .int .i64 k ∧ k ≤ p.states.length ∧ g = p.states.length - k ∧ (∀ s ∈ p.states.take k, s.name ≠ nm) ∧ Below w.heap.size w wr)
  case atStart => exact ⟨0, rfl, Nat.zero_le _, rfl, (fun s hs => by cases hs), Below.refl _ _⟩
  case round =>
    obtain ⟨k, rfl, hk, hg, hall, hb⟩ := hrel
    by_cases hkn : k = p.states.length
    · have j1 : decide (k < p.states.length) = false := decide_eq_false (by omega)
      have FIN := Lib.hid (And.intro (show ∀ s ∈ p.states, s.name ≠ nm by rw [hkn, List.take_length] at hall; exact hall) hb)
      clear hk hg hall hb hkn
      go_wp2_with fail
      exact bodyPost_ret (v := .tuple #[.int .i64 0, .bool false]) (by simp [results, Try.results22, go_sem]) rfl ⟨.inr ⟨rfl, FIN.out.1⟩, FIN.out.2⟩
    · have hlt : k < p.states.length := by omega
      obtain ⟨x, hx⟩ : ∃ x, p.states[k]? = some x := ⟨_, List.getElem?_eq_getElem hlt⟩
      obtain ⟨ao, rfl, d0, d1⟩ := sl_cell2 stC_len HO.out.1 hb hx (by omega)
      unfold stC at d0 d1
      simp only [List.getElem?_cons_zero, List.getElem?_cons_succ] at d0 d1
      have nx : ∀ s ∈ p.states.take (k + 1), s ∈ p.states.take k ∨ s = x := fun s hs => by
        rw [List.take_add_one, hx] at hs
        simpa using hs
      have a5 := below_alloc1 wr (.cells #[txt x.name, .bool x.final] 53)
      have b5 := hb.trans (a5.mono hb.size)
      have j1 : (k : Int) < (p.states.length : Int) := by omega
      have j2 : (0 : Int) ≤ (k : Int) := by omega
      have wk : IntKind.i64.wrap ((k : Int) + 1) = (k : Int) + 1 := IntWalk.i64_in _ (by have := HO.out.2; omega)
      have HK := Lib.hid (And.intro hlt (And.intro hg (And.intro hall (And.intro nx (And.intro b5 hx)))))
      clear hkn hlt hk hg hb hall nx hx a5 b5
      by_cases q : x.name = nm
      · have t1 : (x.name == nm) = true := beq_iff_eq.mpr q
        have HQ := Lib.hid q
        clear q
        go_wp2_with fail
        exact bodyPost_ret (v := .tuple #[.int .i64 (k : Int), .bool true]) (by simp [results, Try.results22, go_sem]) rfl ⟨.inl ⟨k, x, rfl, HK.out.2.2.2.2.2, HQ.out⟩, HK.out.2.2.2.2.1⟩
      · have t1 : (x.name == nm) = false := beq_eq_false_iff_ne.mpr q
        have HQ := Lib.hid q
        clear q
        go_wp2_with fail
        go_roundg (p.states.length - (k + 1))
        case measure => have := HK.out.1; have := HK.out.2.1; omega
        case rel => exact ⟨k + 1, by push_cast; rfl, HK.out.1, rfl, (fun s hs => (HK.out.2.2.2.1 s hs).elim (HK.out.2.2.1 s) (fun e => by rw [e]; exact HQ.out)), HK.out.2.2.2.2.1⟩
end Go.Proofs.Ytgfenklcelfkiaa
