/-
  The walk of the reference's Step: it answers what Step does. (Template: by-name.py fills it.)
-/
import Derived.Test.YtgfenklcelfkiaaAutSq
import Derived.Test.YtgfenklcelfkiaaAutV
namespace Go.Proofs.Ytgfenklcelfkiaa
open Go.RowKit

theorem add_or {q t : Nat} (h : q.testBit t = false) : q + 2 ^ t = q ||| 2 ^ t := by
  have hb : q / 2 ^ t % 2 = 0 := by
    rw [Nat.testBit_eq_decide_div_mod_eq, decide_eq_false_iff_not] at h
    omega
  have e : 2 ^ (t + 1) = 2 ^ t * 2 := Nat.pow_succ 2 t
  have hp : 0 < 2 ^ t := Nat.two_pow_pos t
  have h1 : q = q / 2 ^ t * 2 ^ t + q % 2 ^ t := (Nat.div_add_mod' q (2 ^ t)).symm
  have h2 : q / 2 ^ t = q / 2 ^ t / 2 * 2 := by omega
  obtain ⟨x, hx⟩ : ∃ x, x = q / 2 ^ t / 2 := ⟨_, rfl⟩
  obtain ⟨l, hl⟩ : ∃ l, l = q % 2 ^ t := ⟨_, rfl⟩
  have hlt : l < 2 ^ t := by rw [hl]; exact Nat.mod_lt _ hp
  have h3 : q = x * 2 ^ (t + 1) + l := by
    rw [e]
    conv => lhs; rw [h1, h2, ← hx, ← hl]
    rw [Nat.mul_assoc, Nat.mul_comm 2 (2 ^ t)]
  have j1 := nat_join (t + 1) (x * 2 ^ (t + 1)) l (Nat.mul_mod_left _ _) (by omega)
  have j2 := nat_join (t + 1) (x * 2 ^ (t + 1)) (2 ^ t) (Nat.mul_mod_left _ _) (by omega)
  have j3 := nat_join t (x * 2 ^ (t + 1) + 2 ^ t) l (by rw [e, ← Nat.mul_assoc, Nat.mul_right_comm, ← Nat.succ_mul]; exact Nat.mul_mod_left _ _) hlt
  rw [h3, ← j1, Nat.or_assoc, Nat.or_comm l, ← Nat.or_assoc, j2, j3, j1]
  omega
theorem addw_eq {q t : Nat} (hq : q < 4294967296) (ht : t < 32) (h : q.testBit t = false) : ((q : Int) + (2 : Int) ^ t) % 4294967296 = ((q ||| 2 ^ t : Nat) : Int) := by
  have e : (2 : Int) ^ t = ((2 ^ t : Nat) : Int) := by norm_cast
  have hl : q ||| 2 ^ t < 2 ^ 32 := Nat.or_lt_two_pow hq (Nat.pow_lt_pow_right (by omega) ht)
  rw [← add_or h] at hl
  rw [e, ← add_or h]
  generalize 2 ^ t = m at *
  omega
/-- The bits that the reference's Step has set. -/
def StBits (p : Pro) (S : Nat) (op nm : List UInt8) (i q : Nat) : Prop := ∀ j, q.testBit j = true ↔ ∃ i', i' < i ∧ S.testBit i' = true ∧ ∃ o ∈ outsOf p.moves (i' : Int) op, o.name = nm ∧ o.to.toNat = j
def StBits2 (S i q : Nat) (nm : List UInt8) (l : List Ou) (q2 : Nat) : Prop := ∀ j, q2.testBit j = true ↔ q.testBit j = true ∨ (S.testBit i = true ∧ ∃ o ∈ l, o.name = nm ∧ o.to.toNat = j)
theorem StBits2.same {S i q q2 : Nat} {nm : List UInt8} {l : List Ou} {o : Ou} (h : StBits2 S i q nm l q2) (hn : S.testBit i = true → o.name = nm → q2.testBit o.to.toNat = true) : StBits2 S i q nm (l ++ [o]) q2 := fun j => by
  rw [h j]
  constructor
  · rintro (a | ⟨a, x, hx, b⟩)
    · exact .inl a
    · exact .inr ⟨a, x, List.mem_append_left _ hx, b⟩
  · rintro (a | ⟨a, x, hx, b, c⟩)
    · exact .inl a
    · rcases List.mem_append.1 hx with hx | hx
      · exact .inr ⟨a, x, hx, b, c⟩
      · obtain rfl := List.mem_singleton.mp hx
        have := hn a b
        rw [c] at this
        exact (h j).mp this
theorem StBits2.put {S i q q2 : Nat} {nm : List UInt8} {l : List Ou} {o : Ou} (h : StBits2 S i q nm l q2) (h1 : S.testBit i = true) (h2 : o.name = nm) : StBits2 S i q nm (l ++ [o]) (q2 ||| 2 ^ o.to.toNat) := fun j => by
  rw [bit_or, Bool.or_eq_true, h j, decide_eq_true_iff]
  constructor
  · rintro ((a | ⟨a, x, hx, b⟩) | a)
    · exact .inl a
    · exact .inr ⟨a, x, List.mem_append_left _ hx, b⟩
    · exact .inr ⟨h1, o, List.mem_append_right _ (List.mem_singleton.mpr rfl), h2, a⟩
  · rintro (a | ⟨a, x, hx, b, c⟩)
    · exact .inl (.inl a)
    · rcases List.mem_append.1 hx with hx | hx
      · exact .inl (.inr ⟨a, x, hx, b, c⟩)
      · obtain rfl := List.mem_singleton.mp hx
        exact .inr c
theorem StBits.next {p : Pro} {S i q q2 : Nat} {op nm : List UInt8} (h : StBits p S op nm i q) (h2 : StBits2 S i q nm (outsOf p.moves (i : Int) op) q2) : StBits p S op nm (i + 1) q2 := fun j => by
  rw [h2 j, h j]
  constructor
  · rintro (⟨i', a, b⟩ | a)
    · exact ⟨i', by omega, b⟩
    · exact ⟨i, by omega, a⟩
  · rintro ⟨i', a, b⟩
    by_cases e : i' = i
    · subst e; exact .inr b
    · exact .inl ⟨i', by omega, b⟩
theorem outsOf_mem {ms : List Mov} {i : Int} {op : List UInt8} {o : Ou} (h : o ∈ outsOf ms i op) : ∃ m ∈ ms, m.at_ = i ∧ m.op = op ∧ o ∈ m.outs := by
  unfold outsOf at h
  cases q : ms.find? (fun m => decide (m.at_ = i) && (m.op == op)) with
  | none => rw [q] at h; cases h
  | some m =>
    rw [q] at h
    have := List.find?_some q
    rw [Bool.and_eq_true, decide_eq_true_iff, beq_iff_eq] at this
    exact ⟨m, List.mem_of_find?_eq_some q, this.1, this.2, h⟩
/-- No two moves of an operation start from one state. -/
def OneM (ms : List Mov) : Prop := ∀ (i j : Nat) (m m' : Mov), i < j → ms[i]? = some m → ms[j]? = some m' → ¬ (m.op = m'.op ∧ m.at_ = m'.at_)
theorem one_of {ms : List Mov} (h : ∀ i, i < ms.length → dupM ms i = false) : OneM ms := fun i j m m' hij h1 h2 e => by
  have hj := (List.getElem?_eq_some_iff.1 h2).1
  have := h j hj
  unfold dupM at this
  rw [h2] at this
  simp only [Bool.or_eq_false_iff] at this
  have hc : ((ms.take j).map fun m => ((m.op, m.at_) : Stt)).contains (m'.op, m'.at_) = true := List.contains_iff_mem.mpr (List.mem_map.2 ⟨m, List.mem_of_getElem? (i := i) (by rw [List.getElem?_take_of_lt hij]; exact h1), by rw [e.1, e.2]⟩)
  rw [hc] at this
  cases this.1
theorem outsOf_is {ms : List Mov} (h1 : OneM ms) {m : Mov} (hm : m ∈ ms) : outsOf ms m.at_ m.op = m.outs := by
  unfold outsOf
  obtain ⟨k, hk⟩ := List.mem_iff_getElem?.1 hm
  have hl := (List.getElem?_eq_some_iff.1 hk).1
  have : ms.find? (fun x => decide (x.at_ = m.at_) && (x.op == m.op)) = some m := by
    rw [List.find?_eq_some_iff_getElem]
    refine ⟨by rw [decide_eq_true rfl, beq_self_eq_true]; rfl, k, hl, (List.getElem?_eq_some_iff.1 hk).2, fun j hj => ?_⟩
    have := h1 j k _ m hj (List.getElem?_eq_getElem (by omega)) hk
    rw [Bool.not_eq_true', Bool.and_eq_false_iff, decide_eq_false_iff_not, beq_eq_false_iff_ne]
    exact Classical.or_iff_not_imp_left.mpr fun h h2 => this ⟨h2, Classical.not_not.mp h⟩
  rw [this]
theorem stBits_step {p : Pro} (hf : Fits p) (h1 : OneM p.moves) {S q : Nat} {op nm : List UInt8} (h : StBits p S op nm p.states.length q) : q = stepS p S op nm := by
  refine Nat.eq_of_testBit_eq fun j => ?_
  rw [Bool.eq_iff_iff, h j, stepS_bit]
  constructor
  · rintro ⟨i, a, b, o, ho, c⟩
    obtain ⟨m, hm, e1, e2, hmo⟩ := outsOf_mem ho
    exact ⟨m, hm, e2, by rw [e1, Int.toNat_natCast]; exact b, o, hmo, c⟩
  · rintro ⟨m, hm, e, b, o, ho, c⟩
    have ha := hf.at_ m hm
    refine ⟨m.at_.toNat, by omega, b, o, ?_, c⟩
    rw [show ((m.at_.toNat : Nat) : Int) = m.at_ by omega, ← e, outsOf_is h1 hm]
    exact ho
end Go.Proofs.Ytgfenklcelfkiaa
