/-
  Sets of states that are so, as the reference's Set adds them up: plain facts. (Template: by-name.py fills it.)
-/
import Derived.Test.YtgfenklcelfkiaaAutTd
import Derived.Test.YtgfenklcelfkiaaAutKc
namespace Go.Proofs.Ytgfenklcelfkiaa
open Go.RowKit

/-- Is a state so: 0 final, 1 enabled, 2 kept? -/
def allTo (i : Nat) (l : List Ou) : Bool := l.all fun o => o.to == (i : Int)
def setB (p : Pro) (op : List UInt8) (which i : Nat) : Bool :=
  if which = 0 then finalAt p i else if which = 1 then decide (0 < (outsOf p.moves (i : Int) op).length) else decide (0 < (outsOf p.moves (i : Int) op).length) && allTo i (outsOf p.moves (i : Int) op)
/-- The bits of the states from j on. -/
def Upper (f : Nat → Bool) (n j V : Nat) : Prop := V < 2 ^ (n - j) ∧ ∀ b, V.testBit b = (decide (j + b < n) && f (j + b))
theorem upper_start (f : Nat → Bool) (n : Nat) : Upper f n n 0 := ⟨Nat.two_pow_pos _, fun b => by rw [Nat.zero_testBit, decide_eq_false (by omega)]; rfl⟩
theorem upper_step {f : Nat → Bool} {n j V : Nat} (h : Upper f n (j + 1) V) (hj : j < n) : Upper f n j (V * 2 + (f j).toNat) := by
  obtain ⟨h1, h2⟩ := h
  have hc : (f j).toNat ≤ 1 := Bool.toNat_le _
  refine ⟨?_, fun b => ?_⟩
  · have : 2 ^ (n - j) = 2 ^ (n - (j + 1)) * 2 := by rw [← Nat.pow_succ]; congr 1; omega
    rw [this]
    omega
  · cases b with
    | zero =>
      rw [Nat.testBit_zero, Nat.add_zero, decide_eq_true hj, Bool.true_and]
      cases f j <;> simp <;> omega
    | succ b =>
      rw [Nat.testBit_succ, show (V * 2 + (f j).toNat) / 2 = V by omega, h2 b, show j + 1 + b = j + (b + 1) by omega]
theorem upper_end {f : Nat → Bool} {n V : Nat} (h : Upper f n 0 V) : V = setF f n := by
  refine Nat.eq_of_testBit_eq fun b => ?_
  rw [h.2 b, setF_bit, Nat.zero_add]
theorem upper_lt {f : Nat → Bool} {n j V : Nat} (h : Upper f n j V) (hn : n ≤ 16) : V < 65536 := by
  have : 2 ^ (n - j) ≤ 2 ^ 16 := Nat.pow_le_pow_right (by omega) (by omega)
  have := h.1
  omega
/-! ### What they are -/
theorem set_finals (p : Pro) (op : List UInt8) : setF (setB p op 0) p.states.length = finalS p := rfl
theorem outs_some {ms : List Mov} {i : Int} {op : List UInt8} (h : 0 < (outsOf ms i op).length) : ∃ m ∈ ms, m.op = op ∧ m.at_ = i := by
  unfold outsOf at h
  cases q : ms.find? (fun m => decide (m.at_ = i) && (m.op == op)) with
  | none => rw [q] at h; exact absurd h (Nat.lt_irrefl _)
  | some m =>
    have a := List.find?_some q
    have b := List.mem_of_find?_eq_some q
    rw [Bool.and_eq_true, decide_eq_true_iff] at a
    exact ⟨m, b, beq_iff_eq.mp a.2, a.1⟩
theorem set_enabled {p : Pro} (hf : Fits p) (h1 : OneM p.moves) (hne : ∀ m ∈ p.moves, 0 < m.outs.length) (op : List UInt8) : setF (setB p op 1) p.states.length = enS p op := by
  refine Nat.eq_of_testBit_eq fun j => ?_
  rw [setF_bit, Bool.eq_iff_iff, enS_bit, Bool.and_eq_true, decide_eq_true_iff, show setB p op 1 j = decide (0 < (outsOf p.moves (j : Int) op).length) from rfl, decide_eq_true_iff]
  constructor
  · rintro ⟨_, h⟩
    obtain ⟨m, hm, e, a⟩ := outs_some h
    exact ⟨m, hm, e, by rw [a, Int.toNat_natCast]⟩
  · rintro ⟨m, hm, rfl, rfl⟩
    have := hf.at_ m hm
    rw [show ((m.at_.toNat : Nat) : Int) = m.at_ by omega, outsOf_is h1 hm]
    exact ⟨by omega, hne m hm⟩
theorem set_keeps {p : Pro} (hf : Fits p) (h1 : OneM p.moves) (hne : ∀ m ∈ p.moves, 0 < m.outs.length) (op : List UInt8) : setF (setB p op 2) p.states.length = keS p op := by
  refine Nat.eq_of_testBit_eq fun j => ?_
  rw [setF_bit, Bool.eq_iff_iff, keS_bit, Bool.and_eq_true, decide_eq_true_iff, show setB p op 2 j = (decide (0 < (outsOf p.moves (j : Int) op).length) && allTo j (outsOf p.moves (j : Int) op)) from rfl, Bool.and_eq_true, decide_eq_true_iff]
  have key : ∀ m : Mov, (j : Int) = m.at_ → (allTo j m.outs = true ↔ offB m = false) := fun m e => by
    unfold allTo offB
    rw [List.all_eq_true, List.any_eq_false]
    constructor
    · intro h o ho c
      have := h o ho
      rw [beq_iff_eq] at this
      simp [this, e] at c
    · intro h o ho
      have := h o ho
      rw [beq_iff_eq]
      simpa [e] using this
  constructor
  · rintro ⟨_, h, ha⟩
    obtain ⟨m, hm, e, a⟩ := outs_some h
    rw [← a, ← e, outsOf_is h1 hm] at ha
    exact ⟨m, hm, ⟨e, (key m a.symm).mp ha⟩, by rw [a, Int.toNat_natCast]⟩
  · rintro ⟨m, hm, ⟨rfl, ho⟩, ha⟩
    have hb := hf.at_ m hm
    have e : (j : Int) = m.at_ := by omega
    have ho' := (key m e).mpr ho
    rw [e, outsOf_is h1 hm]
    exact ⟨by omega, hne m hm, ho'⟩
/-- A right protocol's moves have outcomes, its states' names differ. -/
theorem wrong_more {p : Pro} (h : (wrongP p).1 = 0) : (∀ m ∈ p.moves, 0 < m.outs.length) ∧ ∀ (i j : Nat) (s t : Sta), p.states[i]? = some s → p.states[j]? = some t → s.name = t.name → i = j := by
  by_cases hb : p.states.length = 0 ∨ 16 < p.states.length
  · unfold wrongP at h; rw [if_pos hb] at h; cases h
  · rw [wrong_eq hb] at h
    split at h
    · cases h
    · rename_i h1
      split at h
      · cases h
      · rename_i h2
        constructor
        · intro m hm
          have := fstL_all h2 m hm
          unfold astrayB at this
          rw [Bool.or_eq_false_iff, Bool.or_eq_false_iff, decide_eq_false_iff_not] at this
          omega
        · have key : ∀ (i j : Nat) (s t : Sta), i < j → p.states[i]? = some s → p.states[j]? = some t → s.name ≠ t.name := fun i j s t hij hi hj e => by
            have := fstI_all h1 j (List.getElem?_eq_some_iff.1 hj).1
            unfold dupS at this
            rw [hj] at this
            dsimp only at this
            have c : ((p.states.take j).map (·.name)).contains t.name = true := by
              rw [List.contains_iff_mem, List.mem_map]
              exact ⟨s, List.mem_iff_getElem?.mpr ⟨i, by rw [List.getElem?_take_of_lt hij]; exact hi⟩, e⟩
            rw [c] at this
            cases this
          intro i j s t hi hj e
          rcases Nat.lt_trichotomy i j with q | q | q
          · exact absurd e (key i j s t q hi hj)
          · exact q
          · exact absurd e.symm (key j i t s q hj hi)
end Go.Proofs.Ytgfenklcelfkiaa
