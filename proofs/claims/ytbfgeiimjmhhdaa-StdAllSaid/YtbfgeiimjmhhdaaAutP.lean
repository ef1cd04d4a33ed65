/-
  Protocols, plain: from which states a final one is reached, and sets of states as numbers. (Template: by-name.py fills it.)
-/
import Derived.Test.YtbfgeiimjmhhdaaAutA
namespace Go.Proofs.Ytbfgeiimjmhhdaa

def finalAt (p : Pro) (i : Nat) : Bool := match p.states[i]? with
  | some s => s.final
  | none => false
/-- Can a final state be reached in so many steps? -/
def goesB (p : Pro) : Nat → Nat → Bool
  | 0, i => finalAt p i
  | k + 1, i => finalAt p i || p.moves.any fun m => decide (m.at_ = (i : Int)) && m.outs.any fun o => goesB p k o.to.toNat
/-- Outcomes lead to states, moves start from them. -/
structure Fits (p : Pro) : Prop where
  at_ : ∀ m ∈ p.moves, 0 ≤ m.at_ ∧ m.at_ < (p.states.length : Int)
  to : ∀ m ∈ p.moves, ∀ o ∈ m.outs, 0 ≤ o.to ∧ o.to < (p.states.length : Int)
theorem goes_more (p : Pro) : ∀ k i, goesB p k i = true → goesB p (k + 1) i = true
  | 0, i, h => by
    have h' : finalAt p i = true := h
    show (finalAt p i || _) = true
    rw [h']; rfl
  | k + 1, i, h => by
    rw [goesB, Bool.or_eq_true, List.any_eq_true] at h ⊢
    rcases h with h | ⟨m, hm, h⟩
    · exact .inl h
    · refine .inr ⟨m, hm, ?_⟩
      rw [Bool.and_eq_true, List.any_eq_true] at h ⊢
      obtain ⟨h1, o, ho, h2⟩ := h
      exact ⟨h1, o, ho, goes_more p k _ h2⟩
theorem goes_le (p : Pro) {k j i : Nat} (h : k ≤ j) (hg : goesB p k i = true) : goesB p j i = true := by
  obtain ⟨d, rfl⟩ : ∃ d, j = k + d := ⟨j - k, by omega⟩
  clear h
  induction d with
  | zero => exact hg
  | succ d ih => exact goes_more p _ _ ih
theorem goes_still {p : Pro} (hf : Fits p) {k : Nat} (h : ∀ i, i < p.states.length → goesB p (k + 1) i = true → goesB p k i = true) : ∀ d i, i < p.states.length → goesB p (k + d) i = true → goesB p k i = true
  | 0, i, _, hg => hg
  | d + 1, i, hi, hg => by
    refine h i hi ?_
    rw [← Nat.add_assoc, goesB, Bool.or_eq_true, List.any_eq_true] at hg
    rw [goesB, Bool.or_eq_true, List.any_eq_true]
    rcases hg with hg | ⟨m, hm, hg⟩
    · exact .inl hg
    · refine .inr ⟨m, hm, ?_⟩
      rw [Bool.and_eq_true, List.any_eq_true] at hg ⊢
      obtain ⟨h1, o, ho, h2⟩ := hg
      have := hf.to m hm o ho
      exact ⟨h1, o, ho, goes_still hf h d _ (by omega) h2⟩
theorem countP_more {f g : Nat → Bool} : ∀ (l : List Nat), (∀ i ∈ l, f i = true → g i = true) → l.countP f ≤ l.countP g ∧ ((∃ i ∈ l, g i = true ∧ f i = false) → l.countP f + 1 ≤ l.countP g)
  | [], _ => ⟨Nat.le_refl _, by rintro ⟨i, hi, _⟩; cases hi⟩
  | x :: r, h => by
    obtain ⟨h1, h2⟩ := countP_more r (fun i hi => h i (List.mem_cons_of_mem _ hi))
    have hx := h x (List.mem_cons_self ..)
    rw [List.countP_cons, List.countP_cons]
    cases e1 : f x with
    | true =>
      rw [hx e1]
      refine ⟨by omega, ?_⟩
      rintro ⟨i, hi, a, b⟩
      rcases List.mem_cons.mp hi with rfl | hi
      · rw [e1] at b; cases b
      · have := h2 ⟨i, hi, a, b⟩; omega
    | false =>
      cases e2 : g x with
      | true => exact ⟨by simp; omega, fun _ => by simp; omega⟩
      | false =>
        refine ⟨by simpa using h1, ?_⟩
        rintro ⟨i, hi, a, b⟩
        rcases List.mem_cons.mp hi with rfl | hi
        · rw [e2] at a; cases a
        · simpa using h2 ⟨i, hi, a, b⟩
theorem goes_count {p : Pro} (hf : Fits p) : ∀ k, (∃ j, j < k ∧ ∀ i, i < p.states.length → goesB p (j + 1) i = true → goesB p j i = true) ∨ k ≤ (List.range p.states.length).countP (goesB p k)
  | 0 => .inr (Nat.zero_le _)
  | k + 1 => by
    rcases goes_count hf k with ⟨j, hj, h⟩ | h
    · exact .inl ⟨j, by omega, h⟩
    · by_cases q : ∀ i, i < p.states.length → goesB p (k + 1) i = true → goesB p k i = true
      · exact .inl ⟨k, by omega, q⟩
      · refine .inr ?_
        have ⟨i, hi, a, b⟩ : ∃ i, i < p.states.length ∧ goesB p (k + 1) i = true ∧ goesB p k i = false := by
          apply Classical.byContradiction
          intro n
          refine q fun i hi a => ?_
          cases e : goesB p k i with
          | true => rfl
          | false => exact (n ⟨i, hi, a, e⟩).elim
        have := (countP_more (List.range p.states.length) (f := goesB p k) (g := goesB p (k + 1)) (fun i _ => goes_more p k i)).2 ⟨i, List.mem_range.mpr hi, a, b⟩
        omega
/-- As many steps as there are states are enough. -/
theorem goes_all {p : Pro} (hf : Fits p) {K i : Nat} (hi : i < p.states.length) (h : goesB p K i = true) : goesB p p.states.length i = true := by
  rcases goes_count hf p.states.length with ⟨j, hj, hs⟩ | hc
  · refine goes_le p (k := j) (by omega) ?_
    by_cases q : K ≤ j
    · exact goes_le p q h
    · exact goes_still hf hs (K - j) i hi (by rw [show j + (K - j) = K by omega]; exact h)
  · have e : (List.range p.states.length).countP (goesB p p.states.length) = (List.range p.states.length).length := by
      have := List.countP_le_length (p := goesB p p.states.length) (l := List.range p.states.length)
      rw [List.length_range] at this ⊢
      omega
    exact List.countP_eq_length.mp e i (List.mem_range.mpr hi)
/-! ### Sets as numbers -/
theorem bit_or (s k i : Nat) : (s ||| 2 ^ k).testBit i = (s.testBit i || decide (k = i)) := by
  rw [Nat.testBit_or, Nat.testBit_two_pow]
/-- The set of the states below n that are so. -/
def setF (f : Nat → Bool) : Nat → Nat
  | 0 => 0
  | n + 1 => if f n then setF f n ||| 2 ^ n else setF f n
theorem setF_bit (f : Nat → Bool) : ∀ n i, (setF f n).testBit i = (decide (i < n) && f i)
  | 0, i => by simp [setF]
  | n + 1, i => by
    rw [setF]
    cases q : f n with
    | true =>
      rw [if_pos rfl, bit_or, setF_bit f n i]
      by_cases e : n = i
      · subst e; simp [q]
      · have : (decide (i < n + 1)) = decide (i < n) := by
          rw [decide_eq_decide]; omega
        rw [this, decide_eq_false e, Bool.or_false]
    | false =>
      rw [if_neg (by simp), setF_bit f n i]
      by_cases e : n = i
      · subst e; simp [q]
      · have : (decide (i < n + 1)) = decide (i < n) := by
          rw [decide_eq_decide]; omega
        rw [this]
theorem setF_lt (f : Nat → Bool) (n : Nat) : setF f n < 2 ^ n := by
  refine Nat.lt_pow_two_of_testBit _ fun i hi => ?_
  rw [setF_bit, decide_eq_false (by omega)]
  rfl
theorem setF_of {f : Nat → Bool} {n s : Nat} (h : ∀ i, s.testBit i = (decide (i < n) && f i)) : s = setF f n :=
  Nat.eq_of_testBit_eq fun i => by rw [h, setF_bit]
theorem setF_congr {f g : Nat → Bool} {n : Nat} (h : ∀ i, i < n → f i = g i) : setF f n = setF g n :=
  setF_of fun i => by
    rw [setF_bit]
    by_cases q : i < n
    · rw [h i q]
    · rw [decide_eq_false q, Bool.false_and, Bool.false_and]
/-! ### Package auto's own way: rounds over the moves -/
def finalS (p : Pro) : Nat := setF (finalAt p) p.states.length
def endM (s : Nat) (m : Mov) : Nat := if m.outs.any fun o => s.testBit o.to.toNat then s ||| 2 ^ m.at_.toNat else s
def endR (l : List Mov) (s : Nat) : Nat := l.foldl endM s
def endK (p : Pro) : Nat → Nat
  | 0 => finalS p
  | k + 1 => endR p.moves (endK p k)
theorem endM_more {s i : Nat} {m : Mov} (h : s.testBit i = true) : (endM s m).testBit i = true := by
  unfold endM
  split
  · rw [bit_or, h]; rfl
  · exact h
theorem endR_more : ∀ (l : List Mov) (s i : Nat), s.testBit i = true → (endR l s).testBit i = true
  | [], _, _, h => h
  | _ :: r, _, i, h => endR_more r _ i (endM_more h)
theorem endR_hit : ∀ (l : List Mov) (s : Nat) (m : Mov), m ∈ l → (∃ o ∈ m.outs, s.testBit o.to.toNat = true) → (endR l s).testBit m.at_.toNat = true
  | x :: r, _, _, hm, ⟨o, ho, h⟩ => by
    rcases List.mem_cons.mp hm with rfl | hm
    · refine endR_more r _ _ ?_
      unfold endM
      rw [if_pos (List.any_eq_true.mpr ⟨o, ho, h⟩), bit_or, decide_eq_true rfl, Bool.or_true]
    · exact endR_hit r _ _ hm ⟨o, ho, endM_more h⟩
theorem endR_sound {p : Pro} : ∀ (l : List Mov) (s : Nat), (∀ m ∈ l, m ∈ p.moves ∧ 0 ≤ m.at_) → (∀ i, s.testBit i = true → ∃ K, goesB p K i = true) → ∀ i, (endR l s).testBit i = true → ∃ K, goesB p K i = true
  | [], s, _, h, i, hi => h i hi
  | m :: r, s, hl, h, i, hi => by
    refine endR_sound r (endM s m) (fun x hx => hl x (List.mem_cons_of_mem _ hx)) (fun j hj => ?_) i hi
    unfold endM at hj
    split at hj
    · rename_i q
      rw [bit_or, Bool.or_eq_true] at hj
      rcases hj with hj | hj
      · exact h j hj
      · obtain ⟨o, ho, hb⟩ := List.any_eq_true.mp q
        obtain ⟨K, hK⟩ := h _ hb
        have hm := hl m (List.mem_cons_self ..)
        have e : m.at_ = (j : Int) := by have := of_decide_eq_true hj; omega
        refine ⟨K + 1, ?_⟩
        rw [goesB, Bool.or_eq_true, List.any_eq_true]
        exact .inr ⟨m, hm.1, by rw [Bool.and_eq_true, List.any_eq_true]; exact ⟨decide_eq_true e, o, ho, hK⟩⟩
    · exact h j hj
theorem endK_sound {p : Pro} (hf : Fits p) : ∀ k i, (endK p k).testBit i = true → ∃ K, goesB p K i = true
  | 0, i, h => by
    rw [endK, finalS, setF_bit, Bool.and_eq_true] at h
    exact ⟨0, h.2⟩
  | k + 1, i, h => endR_sound p.moves _ (fun m hm => ⟨hm, (hf.at_ m hm).1⟩) (endK_sound hf k) i h
theorem endK_whole {p : Pro} (hf : Fits p) : ∀ k i, i < p.states.length → goesB p k i = true → (endK p k).testBit i = true
  | 0, i, hi, h => by
    rw [goesB] at h
    rw [endK, finalS, setF_bit, h, decide_eq_true hi]; rfl
  | k + 1, i, hi, h => by
    rw [goesB, Bool.or_eq_true, List.any_eq_true] at h
    rcases h with h | ⟨m, hm, h⟩
    · refine endR_more p.moves _ i (endK_whole hf k i hi (goes_le p (Nat.zero_le _) ?_))
      rw [goesB]; exact h
    · rw [Bool.and_eq_true, List.any_eq_true] at h
      obtain ⟨h1, o, ho, h2⟩ := h
      have ht := hf.to m hm o ho
      have := endR_hit p.moves (endK p k) m hm ⟨o, ho, endK_whole hf k _ (by omega) h2⟩
      rw [show m.at_.toNat = i by have := of_decide_eq_true h1; omega] at this
      exact this
theorem endK_goes {p : Pro} (hf : Fits p) {i : Nat} (hi : i < p.states.length) : (endK p p.states.length).testBit i = goesB p p.states.length i := by
  rw [Bool.eq_iff_iff]
  constructor
  · intro h
    obtain ⟨K, hK⟩ := endK_sound hf _ i h
    exact goes_all hf hi hK
  · exact endK_whole hf _ i hi
theorem endM_lt {s n : Nat} {m : Mov} (hs : s < 2 ^ n) (h : 0 ≤ m.at_ ∧ m.at_ < (n : Int)) : endM s m < 2 ^ n := by
  unfold endM
  split
  · exact Nat.or_lt_two_pow hs (Nat.pow_lt_pow_right (by omega) (by omega))
  · exact hs
theorem endR_lt {n : Nat} : ∀ (l : List Mov) (s : Nat), s < 2 ^ n → (∀ m ∈ l, 0 ≤ m.at_ ∧ m.at_ < (n : Int)) → endR l s < 2 ^ n
  | [], _, hs, _ => hs
  | m :: r, _, hs, h => endR_lt r _ (endM_lt hs (h m (List.mem_cons_self ..))) (fun x hx => h x (List.mem_cons_of_mem _ hx))
theorem endK_lt {p : Pro} (hf : Fits p) : ∀ k, endK p k < 2 ^ p.states.length
  | 0 => setF_lt _ _
  | k + 1 => endR_lt p.moves _ (endK_lt hf k) hf.at_
end Go.Proofs.Ytbfgeiimjmhhdaa
