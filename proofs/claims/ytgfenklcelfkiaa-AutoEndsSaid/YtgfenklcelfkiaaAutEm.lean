/-
  Steps of a set by all operations and outcomes: plain facts for AutoEnds. (Template: by-name.py fills it.)
-/
import Derived.Test.YtgfenklcelfkiaaAutKc
import Derived.Test.YtgfenklcelfkiaaAutOc
import Derived.Test.YtgfenklcelfkiaaAutSt
namespace Go.Proofs.Ytgfenklcelfkiaa
open Go.RowKit

def orF (p : Pro) (S : Nat) (op : List UInt8) (N : Nat) (nms : List (List UInt8)) : Nat := nms.foldl (fun N nm => N ||| stepS p S op nm) N
def nextF (p : Pro) (S : Nat) (N : Nat) (ops : List (List UInt8)) : Nat := ops.foldl (fun N op => orF p S op N (outcomesL p op)) N
theorem orF_bit (p : Pro) (S : Nat) (op : List UInt8) (j : Nat) : ∀ (l : List (List UInt8)) (N : Nat), (orF p S op N l).testBit j = true ↔ N.testBit j = true ∨ ∃ nm ∈ l, (stepS p S op nm).testBit j = true
  | [], N => by simp [orF]
  | x :: r, N => by
    rw [show orF p S op N (x :: r) = orF p S op (N ||| stepS p S op x) r from rfl, orF_bit p S op j r, Nat.testBit_or, Bool.or_eq_true]
    constructor
    · rintro ((a | a) | ⟨m, hm, a⟩)
      · exact .inl a
      · exact .inr ⟨x, List.mem_cons_self .., a⟩
      · exact .inr ⟨m, List.mem_cons_of_mem _ hm, a⟩
    · rintro (a | ⟨m, hm, a⟩)
      · exact .inl (.inl a)
      · rcases List.mem_cons.1 hm with rfl | hm
        · exact .inl (.inr a)
        · exact .inr ⟨m, hm, a⟩
theorem nextF_bit (p : Pro) (S : Nat) (j : Nat) : ∀ (l : List (List UInt8)) (N : Nat), (nextF p S N l).testBit j = true ↔ N.testBit j = true ∨ ∃ op ∈ l, ∃ nm ∈ outcomesL p op, (stepS p S op nm).testBit j = true
  | [], N => by simp [nextF]
  | x :: r, N => by
    rw [show nextF p S N (x :: r) = nextF p S (orF p S x N (outcomesL p x)) r from rfl, nextF_bit p S j r, orF_bit]
    constructor
    · rintro ((a | a) | ⟨m, hm, a⟩)
      · exact .inl a
      · exact .inr ⟨x, List.mem_cons_self .., a⟩
      · exact .inr ⟨m, List.mem_cons_of_mem _ hm, a⟩
    · rintro (a | ⟨m, hm, a⟩)
      · exact .inl (.inl a)
      · rcases List.mem_cons.1 hm with rfl | hm
        · exact .inl (.inr a)
        · exact .inr ⟨m, hm, a⟩
theorem orF_lt {p : Pro} (hf : Fits p) (S : Nat) (op : List UInt8) : ∀ (l : List (List UInt8)) (N : Nat), N < 2 ^ p.states.length → orF p S op N l < 2 ^ p.states.length
  | [], _, h => h
  | _ :: r, _, h => orF_lt hf S op r _ (Nat.or_lt_two_pow h (stepM_lt p.moves 0 (Nat.two_pow_pos _) hf.to))
theorem nextF_lt {p : Pro} (hf : Fits p) (S : Nat) : ∀ (l : List (List UInt8)) (N : Nat), N < 2 ^ p.states.length → nextF p S N l < 2 ^ p.states.length
  | [], _, h => h
  | x :: r, _, h => nextF_lt hf S r _ (orF_lt hf S x _ _ h)
theorem orF_next {p : Pro} {S : Nat} {op nm : List UInt8} {N k : Nat} {l : List (List UInt8)} (h : l[k]? = some nm) : orF p S op N (l.take (k + 1)) = orF p S op N (l.take k) ||| stepS p S op nm := by
  unfold orF
  rw [List.take_add_one, h, List.foldl_append]; rfl
theorem nextF_next {p : Pro} {S : Nat} {op : List UInt8} {N k : Nat} {l : List (List UInt8)} (h : l[k]? = some op) : nextF p S N (l.take (k + 1)) = orF p S op (nextF p S N (l.take k)) (outcomesL p op) := by
  unfold nextF
  rw [List.take_add_one, h, List.foldl_append]; rfl
/-- Some state of S reaches a final one in k steps. -/
def Near (p : Pro) (S k : Nat) : Prop := ∃ j, j < p.states.length ∧ S.testBit j = true ∧ goesB p k j = true
theorem final_bit {p : Pro} {j : Nat} (h : j < p.states.length) (hf : finalAt p j = true) : (finalS p).testBit j = true := by
  unfold finalS
  rw [setF_bit, decide_eq_true h, hf]; rfl
theorem near_end {p : Pro} {S : Nat} (h : Near p S 0) : S &&& finalS p ≠ 0 := by
  obtain ⟨j, hj, hb, hg⟩ := h
  intro e
  have : (S &&& finalS p).testBit j = true := by rw [Nat.testBit_and, hb, final_bit hj hg]; rfl
  rw [e, Nat.zero_testBit] at this
  cases this
theorem near_next {p : Pro} (hf : Fits p) {S k : Nat} (h : Near p S (k + 1)) (hz : S &&& finalS p = 0) : Near p (nextF p S S (opsL p)) k := by
  obtain ⟨j, hj, hb, hg⟩ := h
  rw [goesB, Bool.or_eq_true, List.any_eq_true] at hg
  rcases hg with hg | ⟨m, hm, hg⟩
  · have : (S &&& finalS p).testBit j = true := by rw [Nat.testBit_and, hb, final_bit hj hg]; rfl
    rw [hz, Nat.zero_testBit] at this
    cases this
  · rw [Bool.and_eq_true, List.any_eq_true, decide_eq_true_iff] at hg
    obtain ⟨ha, o, ho, hg⟩ := hg
    have ht := hf.to m hm o ho
    refine ⟨o.to.toNat, by omega, ?_, hg⟩
    rw [nextF_bit]
    refine .inr ⟨m.op, (opsL_mem p m.op).mpr ⟨m, hm, rfl⟩, o.name, (outcomesL_mem p m.op o.name).mpr ⟨m, hm, rfl, o, ho, rfl⟩, ?_⟩
    exact (stepS_bit p S m.op o.name o.to.toNat).mpr ⟨m, hm, rfl, by rw [ha, Int.toNat_natCast]; exact hb, o, ho, rfl, rfl⟩
theorem enabled_fin {p : Pro} (h : ∀ m ∈ p.moves, finM p.states m = false) (op : List UInt8) : enS p op &&& finalS p = 0 := by
  refine Nat.eq_of_testBit_eq fun j => ?_
  rw [Nat.zero_testBit, Nat.testBit_and]
  cases q : (enS p op).testBit j with
  | false => rfl
  | true =>
    obtain ⟨m, hm, _, e⟩ := (enS_bit p op j).mp q
    subst e
    rw [Bool.true_and]
    unfold finalS
    rw [setF_bit]
    have := h m hm
    have e : finalAt p m.at_.toNat = finM p.states m := by unfold finalAt finM; rfl
    rw [e, this, Bool.and_false]
end Go.Proofs.Ytgfenklcelfkiaa
