/-
  What an operation keeps: plain facts for AutoKeeps. (Template: by-name.py fills it.)
-/
import Derived.Test.YtgfenklcelfkiaaAutKb
import Derived.Test.YtgfenklcelfkiaaAutSr
namespace Go.Proofs.Ytgfenklcelfkiaa
open Go.RowKit

theorem and_off {a b : Nat} (hb : b < 4294967296) (h : ∀ j, a.testBit j = true → b.testBit j = true) : a &&& (4294967295 - b) = 0 := by
  refine Nat.eq_of_testBit_eq fun j => ?_
  rw [Nat.zero_testBit, Nat.testBit_and, show 4294967295 - b = 2 ^ 32 - (b + 1) by omega, Nat.testBit_two_pow_sub_succ (by omega)]
  cases q : a.testBit j with
  | false => rfl
  | true => rw [h j q]; simp
/-- The word that the program compares with 0: nothing of a lies outside b. -/
theorem u32_off {a b : Nat} (ha : a < 4294967296) (hb : b < 4294967296) (h : ∀ j, a.testBit j = true → b.testBit j = true) : bits .andNot .u32 (a : Int) (b : Int) = 0 := by
  rw [u32_andNot_nat a b ha hb, and_off hb h]; rfl
theorem keeps_in (p : Pro) (op : List UInt8) (j : Nat) (h : (keS p op).testBit j = true) : (enS p op).testBit j = true := by
  obtain ⟨m, hm, e, r⟩ := (keS_bit p op j).mp h
  exact (enS_bit p op j).mpr ⟨m, hm, e.1, r⟩
theorem one_same {ms : List Mov} (h1 : OneM ms) {m m' : Mov} (hm : m ∈ ms) (hm' : m' ∈ ms) (e : m.op = m'.op ∧ m.at_ = m'.at_) : m = m' := by
  obtain ⟨i, hi⟩ := List.mem_iff_getElem?.mp hm
  obtain ⟨j, hj⟩ := List.mem_iff_getElem?.mp hm'
  rcases Nat.lt_trichotomy i j with q | q | q
  · exact absurd e (h1 i j m m' q hi hj)
  · subst q
    rw [hi] at hj
    injection hj
  · exact absurd ⟨e.1.symm, e.2.symm⟩ (h1 j i m' m q hj hi)
theorem step_keeps {p : Pro} (hf : Fits p) (h1 : OneM p.moves) (x : Nat) (op nm : List UInt8) (j : Nat) (h : (stepS p (x &&& keS p op) op nm).testBit j = true) : (x &&& keS p op).testBit j = true := by
  obtain ⟨m, hm, e, hb, o, ho, _, ht⟩ := (stepS_bit p _ op nm j).mp h
  have hb' := hb
  rw [Nat.testBit_and, Bool.and_eq_true] at hb'
  obtain ⟨m', hm', ⟨e', ho'⟩, ha⟩ := (keS_bit p op _).mp hb'.2
  have q : m' = m := one_same h1 hm' hm ⟨by rw [e', e], by have := hf.at_ m hm; have := hf.at_ m' hm'; omega⟩
  subst q
  have := List.any_eq_false.mp ho' o ho
  have et : o.to = m'.at_ := by simpa using this
  rw [et] at ht
  rw [← ht]
  exact hb
theorem keS_lt {p : Pro} (hf : Fits p) (hn : p.states.length ≤ 16) (op : List UInt8) : keS p op < 4294967296 := small_of (keMs_lt p.moves 0 (Nat.two_pow_pos _) hf.at_) hn
theorem enS_lt {p : Pro} (hf : Fits p) (hn : p.states.length ≤ 16) (op : List UInt8) : enS p op < 4294967296 := small_of (enMs_lt p.moves 0 (Nat.two_pow_pos _) hf.at_) hn
end Go.Proofs.Ytgfenklcelfkiaa
