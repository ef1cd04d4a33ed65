/-
  Plain mathematics: numbers as rows of bits, the least first. (No walk here.)
-/
namespace Go.Proofs.YthlogaenbnhobaaDoor

/-- What a row of bits is worth. -/
def natOf : List Bool → Nat
  | [] => 0
  | b :: r => b.toNat + 2 * natOf r

/-- A number's row of bits, without noughts at its end. -/
def bitsOf (n : Nat) : List Bool := if h : n = 0 then [] else (n % 2 == 1) :: bitsOf (n / 2)
termination_by n
decreasing_by omega

theorem bitsOf_zero : bitsOf 0 = [] := by rw [bitsOf]; rfl
theorem bitsOf_pos {n : Nat} (h : n ≠ 0) : bitsOf n = (n % 2 == 1) :: bitsOf (n / 2) := by rw [bitsOf, dif_neg h]

theorem toNat_le (b : Bool) : b.toNat ≤ 1 := by cases b <;> decide

theorem natOf_bitsOf (n : Nat) : natOf (bitsOf n) = n := by
  induction n using Nat.strongRecOn with
  | ind n ih =>
    by_cases h : n = 0
    · subst h; rw [bitsOf_zero]; rfl
    · rw [bitsOf_pos h, natOf, ih (n / 2) (by omega)]
      rcases Nat.mod_two_eq_zero_or_one n with e | e <;> rw [e] <;> simp <;> omega

theorem natOf_append (a b : List Bool) : natOf (a ++ b) = natOf a + 2 ^ a.length * natOf b := by
  induction a with
  | nil => simp [natOf]
  | cons x r ih => rw [List.cons_append, natOf, natOf, ih, List.length_cons, Nat.pow_succ, Nat.mul_add, ← Nat.mul_assoc, Nat.mul_comm 2 (2 ^ r.length)]; omega

theorem natOf_snoc (a : List Bool) (b : Bool) : natOf (a ++ [b]) = natOf a + 2 ^ a.length * b.toNat := by
  rw [natOf_append]; simp [natOf]

theorem natOf_lt (l : List Bool) : natOf l < 2 ^ l.length := by
  induction l with
  | nil => simp [natOf]
  | cons b r ih => rw [natOf, List.length_cons, Nat.pow_succ]; have := toNat_le b; omega

/-- A row that ends with a one is the number's own. -/
theorem bitsOf_natOf_snoc (a : List Bool) : bitsOf (natOf (a ++ [true])) = a ++ [true] := by
  induction a with
  | nil =>
    rw [List.nil_append, natOf, natOf, bitsOf_pos (by decide)]
    rw [show (true.toNat + 2 * 0) / 2 = 0 by decide, bitsOf_zero]; rfl
  | cons x r ih =>
    rw [List.cons_append, natOf]
    have hp : natOf (r ++ [true]) ≠ 0 := by
      rw [natOf_snoc]
      have := Nat.two_pow_pos r.length
      simp
    have hx := toNat_le x
    rw [bitsOf_pos (by omega)]
    rw [show (x.toNat + 2 * natOf (r ++ [true])) / 2 = natOf (r ++ [true]) by omega, ih]
    have : ((x.toNat + 2 * natOf (r ++ [true])) % 2 == 1) = x := by
      rw [show (x.toNat + 2 * natOf (r ++ [true])) % 2 = x.toNat by omega]
      cases x <;> rfl
    rw [this]

theorem bitsOf_length (n k : Nat) (h : n < 2 ^ k) : (bitsOf n).length ≤ k := by
  induction k generalizing n with
  | zero => rw [show n = 0 by simpa using h, bitsOf_zero]; simp
  | succ k ih =>
    by_cases h0 : n = 0
    · subst h0; rw [bitsOf_zero]; simp
    · rw [bitsOf_pos h0, List.length_cons]
      have := ih (n / 2) (by rw [Nat.pow_succ] at h; omega)
      omega

theorem bitsOf_length_ge (n k : Nat) (h : 2 ^ k ≤ n) : k < (bitsOf n).length := by
  rcases Nat.lt_or_ge k (bitsOf n).length with g | g
  · exact g
  · exfalso
    have := natOf_lt (bitsOf n)
    rw [natOf_bitsOf] at this
    have h2 := Nat.pow_le_pow_right (show 0 < 2 by decide) g
    omega

/-- The last bit of a number that is not 0. -/
theorem bitsOf_last (n : Nat) (h : n ≠ 0) : ∃ a, bitsOf n = a ++ [true] := by
  induction n using Nat.strongRecOn with
  | ind n ih =>
    rw [bitsOf_pos h]
    by_cases h2 : n / 2 = 0
    · rw [h2, bitsOf_zero]
      have : n = 1 := by omega
      subst this
      exact ⟨[], rfl⟩
    · obtain ⟨a, ha⟩ := ih (n / 2) (by omega) h2
      exact ⟨(n % 2 == 1) :: a, by rw [ha]; rfl⟩

/-- A bit of a row, also beyond its end. -/
def bitAt (l : List Bool) (i : Nat) : Bool := l.getD i false

theorem natOf_split (l : List Bool) (i : Nat) : natOf l = natOf (l.take i) + 2 ^ i * natOf (l.drop i) := by
  rcases Nat.le_total i l.length with h | h
  · have := natOf_append (l.take i) (l.drop i)
    rw [List.take_append_drop, List.length_take, Nat.min_eq_left h] at this
    exact this
  · rw [List.take_of_length_le h, List.drop_eq_nil_of_le h]; simp [natOf]

theorem natOf_drop (l : List Bool) (i : Nat) : natOf (l.drop i) = (bitAt l i).toNat + 2 * natOf (l.drop (i + 1)) := by
  unfold bitAt
  rcases Nat.lt_or_ge i l.length with h | h
  · rw [List.drop_eq_getElem_cons h, natOf, List.getD_eq_getElem?_getD, List.getElem?_eq_getElem h]; rfl
  · rw [List.drop_eq_nil_of_le h, List.drop_eq_nil_of_le (by omega), List.getD_eq_getElem?_getD, List.getElem?_eq_none h]; rfl

theorem lt_of_length {a b : Nat} (h : (bitsOf a).length < (bitsOf b).length) : a < b := by
  rcases Nat.lt_or_ge a b with g | g
  · exact g
  · exfalso
    have h1 := natOf_lt (bitsOf a)
    rw [natOf_bitsOf] at h1
    have hb : b ≠ 0 := by intro hb; rw [hb, bitsOf_zero] at h; simp at h
    obtain ⟨x, hx⟩ := bitsOf_last b hb
    have h2 : natOf (bitsOf b) = b := natOf_bitsOf b
    rw [hx, natOf_snoc] at h2
    rw [hx, List.length_append] at h
    have h3 : 2 ^ (bitsOf a).length ≤ 2 ^ x.length := Nat.pow_le_pow_right (by decide) (by simpa using Nat.lt_succ_iff.1 h)
    simp at h2
    omega

theorem natOf_eq_at (l : List Bool) (i : Nat) : natOf l = natOf (l.take i) + 2 ^ i * ((bitAt l i).toNat + 2 * natOf (l.drop (i + 1))) := by
  rw [← natOf_drop]; exact natOf_split l i

/-- The uppermost bit in which two rows differ decides. -/
theorem lt_at {l m : List Bool} (i : Nat) (hd : natOf (l.drop (i + 1)) = natOf (m.drop (i + 1))) (hb : bitAt l i ≠ bitAt m i) : decide (natOf l < natOf m) = bitAt m i := by
  have a := natOf_eq_at l i
  have b := natOf_eq_at m i
  have ha := natOf_lt (l.take i)
  have hb2 := natOf_lt (m.take i)
  have h1 : 2 ^ (l.take i).length ≤ 2 ^ i := Nat.pow_le_pow_right (by decide) (List.length_take_le _ _)
  have h2 : 2 ^ (m.take i).length ≤ 2 ^ i := Nat.pow_le_pow_right (by decide) (List.length_take_le _ _)
  rw [hd] at a
  rw [Nat.mul_add] at a b
  generalize 2 ^ i * (2 * natOf (m.drop (i + 1))) = T at *
  generalize 2 ^ i = p at *
  cases hl : bitAt l i <;> cases hm : bitAt m i
  · rw [hl, hm] at hb; exact absurd rfl hb
  · rw [hl] at a; rw [hm] at b
    simp at a b
    exact decide_eq_true (by omega)
  · rw [hl] at a; rw [hm] at b
    simp at a b
    exact decide_eq_false (by omega)
  · rw [hl, hm] at hb; exact absurd rfl hb

theorem natOf_drop_eq {l m : List Bool} {i : Nat} (hd : natOf (l.drop (i + 1)) = natOf (m.drop (i + 1))) (hb : bitAt l i = bitAt m i) : natOf (l.drop i) = natOf (m.drop i) := by
  rw [natOf_drop l i, natOf_drop m i, hd, hb]
end Go.Proofs.YthlogaenbnhobaaDoor
