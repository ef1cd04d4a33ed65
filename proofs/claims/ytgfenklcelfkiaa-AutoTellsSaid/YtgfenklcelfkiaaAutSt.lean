/-
  The walk of the statement AutoSteps. (Template: by-name.py fills it; gen/genAutSt.py writes it.)
-/
import Derived.Test.YtgfenklcelfkiaaAutSr
import Derived.Test.YtgfenklcelfkiaaAutWa
namespace Go.Proofs.Ytgfenklcelfkiaa
open Go.RowKit

theorem wrong_none {p : Pro} (h : (wrongP p).1 = 0) : Fits p ∧ 1 ≤ p.states.length ∧ p.states.length ≤ 16 ∧ OneM p.moves ∧ (∀ m ∈ p.moves, finM p.states m = false) ∧ ∀ i, i < p.states.length → goesB p p.states.length i = true := by
  by_cases hb : p.states.length = 0 ∨ 16 < p.states.length
  · unfold wrongP at h; rw [if_pos hb] at h; cases h
  · rw [wrong_eq hb] at h
    split at h
    · cases h
    · split at h
      · cases h
      · rename_i h2
        split at h
        · cases h
        · rename_i h3
          split at h
          · cases h
          · rename_i h4
            split at h
            · cases h
            · rename_i h5
              refine ⟨fits_of h2, by omega, by omega, one_of (fstI_all h3), fstL_all h4, fun i hi => ?_⟩
              have := fstI_all h5 i hi
              unfold stuckB at this
              simpa using this
theorem step_union (p : Pro) (a b : Nat) (op nm : List UInt8) : stepS p (a ||| b) op nm = stepS p a op nm ||| stepS p b op nm := by
  refine Nat.eq_of_testBit_eq fun j => ?_
  rw [Bool.eq_iff_iff, Nat.testBit_or, Bool.or_eq_true, stepS_bit, stepS_bit, stepS_bit]
  constructor
  · rintro ⟨m, hm, e, hb, r⟩
    rw [Nat.testBit_or, Bool.or_eq_true] at hb
    rcases hb with hb | hb
    · exact .inl ⟨m, hm, e, hb, r⟩
    · exact .inr ⟨m, hm, e, hb, r⟩
  · rintro (⟨m, hm, e, hb, r⟩ | ⟨m, hm, e, hb, r⟩)
    · exact ⟨m, hm, e, by rw [Nat.testBit_or, hb]; rfl, r⟩
    · exact ⟨m, hm, e, by rw [Nat.testBit_or, hb, Bool.or_true], r⟩
theorem step_fin {p : Pro} (h : ∀ m ∈ p.moves, finM p.states m = false) (op nm : List UInt8) : stepS p (finalS p) op nm = 0 := by
  refine Nat.eq_of_testBit_eq fun j => ?_
  rw [Nat.zero_testBit]
  cases q : (stepS p (finalS p) op nm).testBit j with
  | false => rfl
  | true =>
    obtain ⟨m, hm, _, hb, _⟩ := (stepS_bit p _ op nm j).mp q
    unfold finalS at hb
    rw [setF_bit, Bool.and_eq_true] at hb
    have := h m hm
    have e : finalAt p m.at_.toNat = finM p.states m := by unfold finalAt finM; rfl
    rw [e, this] at hb
    cases hb.2
theorem step_lt {p : Pro} (hf : Fits p) (hn : p.states.length ≤ 16) (S : Nat) (op nm : List UInt8) : stepS p S op nm < 4294967296 := small_of (stepM_lt p.moves 0 (Nat.two_pow_pos _) hf.to) hn
theorem bit_eq0 (s k : Nat) (hs : s < 4294967296) : (bits .and .u32 ((s : Int) / 2 ^ k) 1 == 0) = !s.testBit k := by
  have e : (s : Int) / 2 ^ k = ((s / 2 ^ k : Nat) : Int) := by norm_cast
  have hl : s / 2 ^ k < 4294967296 := Nat.lt_of_le_of_lt (Nat.div_le_self _ _) hs
  rw [e, show (1 : Int) = ((1 : Nat) : Int) from rfl, u32_and_nat _ _ hl (by omega), Nat.and_one_is_mod, Nat.testBit_eq_decide_div_mod_eq]
  by_cases q : s / 2 ^ k % 2 = 1
  · rw [decide_eq_true q, q]; rfl
  · rw [decide_eq_false q, show s / 2 ^ k % 2 = 0 by omega]; rfl
structure LwS (w0 w : World) (b : Nat) (cs : Array Value) (aa : Nat) (pr : Pro) : Prop where
  p : Blk w b cs
  a : AutAt w aa pr
  b : Below w0.heap.size w0 w
theorem LwS.keep {w0 w w' : World} {b : Nat} {cs : Array Value} {a : Nat} {p : Pro} (h : LwS w0 w b cs a p) (hb : Below w.heap.size w w') : LwS w0 w' b cs a p := ⟨h.p.keep hb, h.a.below hb, h.b.trans (hb.mono h.b.size)⟩
theorem u32_nat {n : Int} (h : (Lit.int .u32 n).wf = true) : ∃ k : Nat, n = k ∧ k < 4294967296 := by
  simp only [Lit.wf, Bool.and_eq_true, decide_eq_true_eq] at h
  have a : IntKind.u32.min = 0 := by decide
  have b : IntKind.u32.max = 4294967295 := by decide
  rw [a, b] at h
  exact ⟨n.toNat, by omega, by omega⟩
end Go.Proofs.Ytgfenklcelfkiaa
