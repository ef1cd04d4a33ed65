/-
  Plain mathematics: fractions in lowest terms, what a numerator over a denominator becomes, sums and products. (No walk here.)
-/
import Derived.Test.YthlogaenbnhobaaDoorRatE
namespace Go.Proofs.YthlogaenbnhobaaDoor

/-- A right fraction. -/
structure Valid (n : Int) (d : Nat) : Prop where
  pos : 0 < d
  d_le : d ≤ 9223372036854775807
  n_le : n.natAbs ≤ 9223372036854775807
  low : Nat.gcd n.natAbs d = 1

/-- What P over Q becomes: numerator, denominator, error. -/
def resN (P : Int) (Q : Nat) : Int := fitN (decide (P < 0)) (P.natAbs / Nat.gcd P.natAbs Q) (Q / Nat.gcd P.natAbs Q)
def resD (P : Int) (Q : Nat) : Int := fitD (P.natAbs / Nat.gcd P.natAbs Q) (Q / Nat.gcd P.natAbs Q)
def resE (P : Int) (Q : Nat) : Int := fitE (P.natAbs / Nat.gcd P.natAbs Q) (Q / Nat.gcd P.natAbs Q)

theorem natAbs_eq_sign (P : Int) : P = (if decide (P < 0) = true then -(P.natAbs : Int) else (P.natAbs : Int)) := by
  by_cases h : P < 0
  · simp [h]; omega
  · simp [h]; omega

/-- Right fractions of one value are one fraction. -/
theorem Valid.unique {n m : Int} {d e : Nat} (h : Valid n d) (k : Valid m e) (he : n * (e : Int) = m * (d : Int)) : n = m ∧ d = e := by
  have ha : n.natAbs * e = m.natAbs * d := by
    have := congrArg Int.natAbs he
    simpa [Int.natAbs_mul] using this
  have d1 : d ∣ e := by
    have : d ∣ n.natAbs * e := ⟨m.natAbs, by rw [ha, Nat.mul_comm]⟩
    exact (Nat.Coprime.dvd_of_dvd_mul_left (Nat.Coprime.symm h.low) this)
  have d2 : e ∣ d := by
    have : e ∣ m.natAbs * d := ⟨n.natAbs, by rw [← ha, Nat.mul_comm]⟩
    exact (Nat.Coprime.dvd_of_dvd_mul_left (Nat.Coprime.symm k.low) this)
  have de : d = e := Nat.dvd_antisymm d1 d2
  subst de
  have hp := h.pos
  exact ⟨Int.eq_of_mul_eq_mul_right (by omega) he, rfl⟩

theorem lowest (P : Int) (Q : Nat) (hQ : 0 < Q) : Nat.gcd (P.natAbs / Nat.gcd P.natAbs Q) (Q / Nat.gcd P.natAbs Q) = 1 ∧ 0 < Q / Nat.gcd P.natAbs Q := by
  have hg : 0 < Nat.gcd P.natAbs Q := Nat.gcd_pos_of_pos_right _ hQ
  exact ⟨Nat.coprime_div_gcd_div_gcd hg, Nat.div_pos (Nat.le_of_dvd hQ (Nat.gcd_dvd_right _ _)) hg⟩

/-- Lowest terms are found by a cross product. -/
theorem reduced {p q x y : Nat} (hq : 0 < q) (hy : 0 < y) (hxy : Nat.gcd x y = 1) (h : x * q = p * y) : p / Nat.gcd p q = x ∧ q / Nat.gcd p q = y := by
  have g1 := Nat.div_mul_cancel (Nat.gcd_dvd_left p q)
  have g2 := Nat.div_mul_cancel (Nat.gcd_dvd_right p q)
  have hg : 0 < Nat.gcd p q := Nat.gcd_pos_of_pos_right _ hq
  have l1 : Nat.gcd (p / Nat.gcd p q) (q / Nat.gcd p q) = 1 := Nat.coprime_div_gcd_div_gcd hg
  revert l1 g1 g2 hg
  generalize p / Nat.gcd p q = a
  generalize q / Nat.gcd p q = b
  generalize Nat.gcd p q = g
  intro g1 g2 hg l1
  have c : x * b = a * y := by
    rw [← g1, ← g2] at h
    have : x * b * g = a * y * g := by rw [Nat.mul_assoc, h, Nat.mul_right_comm]
    exact Nat.eq_of_mul_eq_mul_right hg this
  have d1 : y ∣ b := Nat.Coprime.dvd_of_dvd_mul_left (Nat.Coprime.symm hxy) ⟨a, by rw [c, Nat.mul_comm]⟩
  have d2 : b ∣ y := Nat.Coprime.dvd_of_dvd_mul_left (Nat.Coprime.symm l1) ⟨x, by rw [← c, Nat.mul_comm]⟩
  have de : b = y := Nat.dvd_antisymm d2 d1
  subst de
  exact ⟨(Nat.eq_of_mul_eq_mul_right hy c).symm, rfl⟩

theorem res_ok {P : Int} {Q : Nat} (hQ : 0 < Q) (h : resE P Q = 0) : ∃ d : Nat, resD P Q = d ∧ Valid (resN P Q) d ∧ resN P Q * (Q : Int) = P * (d : Int) := by
  obtain ⟨l1, l2⟩ := lowest P Q hQ
  have g1 := Nat.div_mul_cancel (Nat.gcd_dvd_left P.natAbs Q)
  have g2 := Nat.div_mul_cancel (Nat.gcd_dvd_right P.natAbs Q)
  unfold resE fitE at h
  unfold resN resD fitN fitD
  generalize P.natAbs / Nat.gcd P.natAbs Q = x at *
  generalize Q / Nat.gcd P.natAbs Q = y at *
  generalize Nat.gcd P.natAbs Q = g at *
  by_cases c : x ≤ 9223372036854775807 ∧ y ≤ 9223372036854775807
  · rw [if_pos c, if_pos c]
    refine ⟨y, rfl, ⟨l2, c.2, ?_, ?_⟩, ?_⟩
    · split <;> omega
    · have : (if decide (P < 0) = true then -(x : Int) else (x : Int)).natAbs = x := by split <;> omega
      rw [this]; exact l1
    · have hP := natAbs_eq_sign P
      rw [← g1, ← g2] at *
      by_cases s : P < 0
      · simp only [s, decide_true, if_true] at hP ⊢
        rw [hP]; push_cast; rw [Int.neg_mul, Int.neg_mul, Int.mul_assoc, Int.mul_comm (y : Int)]
      · simp only [s, decide_false, Bool.false_eq_true, if_false] at hP ⊢
        rw [hP]; push_cast; rw [Int.mul_assoc, Int.mul_comm (y : Int)]
  · rw [if_neg c] at h
    exact absurd h (by decide)

theorem res_of {P n : Int} {Q d : Nat} (hQ : 0 < Q) (v : Valid n d) (h : n * (Q : Int) = P * (d : Int)) : resE P Q = 0 ∧ resN P Q = n ∧ resD P Q = d := by
  have hd := v.pos
  have ha : n.natAbs * Q = P.natAbs * d := by
    have := congrArg Int.natAbs h
    simpa [Int.natAbs_mul] using this
  have hsg : decide (P < 0) = decide (n < 0) := by
    have q0 : (0 : Int) < (Q : Int) := by omega
    have d0 : (0 : Int) < (d : Int) := by omega
    by_cases s : P < 0
    · have : P * (d : Int) < 0 := Int.mul_neg_of_neg_of_pos s d0
      rw [← h] at this
      have : n < 0 := by
        rcases Int.lt_or_le n 0 with g | g
        · exact g
        · have := Int.mul_nonneg g (Int.le_of_lt q0); omega
      simp [s, this]
    · have : 0 ≤ P * (d : Int) := Int.mul_nonneg (by omega) (Int.le_of_lt d0)
      rw [← h] at this
      have : ¬ n < 0 := by
        intro g
        have := Int.mul_neg_of_neg_of_pos g q0
        omega
      simp [s, this]
  have key := reduced hQ hd v.low ha
  unfold resE resN resD fitE fitN fitD
  have c : n.natAbs ≤ 9223372036854775807 ∧ d ≤ 9223372036854775807 := ⟨v.n_le, v.d_le⟩
  rw [key.1, key.2, hsg]
  simp only [if_pos c]
  exact ⟨trivial, (natAbs_eq_sign n).symm, trivial⟩

theorem res_no {P : Int} {Q : Nat} (h : resE P Q ≠ 0) : resE P Q = 3 ∧ resN P Q = 0 ∧ resD P Q = 0 := by
  unfold resE fitE at h
  unfold resE resN resD fitE fitN fitD
  by_cases c : P.natAbs / Nat.gcd P.natAbs Q ≤ 9223372036854775807 ∧ Q / Nat.gcd P.natAbs Q ≤ 9223372036854775807
  · rw [if_pos c] at h; exact absurd rfl h
  · rw [if_neg c, if_neg c, if_neg c]; exact ⟨rfl, rfl, rfl⟩

/-- What 'fit' makes of lowest terms is what they are. -/
theorem fit_res {P : Int} {Q x y : Nat} {s : Bool} (hq : 0 < Q) (hy : 0 < y) (hxy : Nat.gcd x y = 1) (h : x * Q = P.natAbs * y) (hs : P ≠ 0 → s = decide (P < 0)) :
    fitN s x y = resN P Q ∧ fitD x y = resD P Q ∧ fitE x y = resE P Q := by
  obtain ⟨k1, k2⟩ := reduced hq hy hxy h
  unfold resN resD resE
  rw [k1, k2]
  refine ⟨?_, rfl, rfl⟩
  by_cases hp : P = 0
  · have hx : x = 0 := by
      rw [hp, Int.natAbs_zero, Nat.zero_mul] at h
      rcases Nat.mul_eq_zero.1 h with h | h <;> omega
    subst hx
    unfold fitN
    simp
  · rw [hs hp]

theorem coprime_of_dvd {a b c d : Nat} (h : Nat.gcd a b = 1) (hc : c ∣ a) (hd : d ∣ b) : Nat.gcd c d = 1 :=
  Nat.Coprime.coprime_dvd_left hc (Nat.Coprime.symm (Nat.Coprime.coprime_dvd_left hd (Nat.Coprime.symm h)))

theorem product_res {n m : Int} {d e g h N D : Nat} (v : Valid n d) (u : Valid m e) (hg : g = Nat.gcd n.natAbs e) (hh : h = Nat.gcd m.natAbs d)
    (hN : N = n.natAbs / g * (m.natAbs / h)) (hD : D = d / h * (e / g)) :
    fitN (!(decide (n < 0) == decide (m < 0))) N D = resN (n * m) (d * e) ∧ fitD N D = resD (n * m) (d * e) ∧ fitE N D = resE (n * m) (d * e) := by
  have gp : 0 < g := by rw [hg]; exact Nat.gcd_pos_of_pos_right _ u.pos
  have hp : 0 < h := by rw [hh]; exact Nat.gcd_pos_of_pos_right _ v.pos
  have n1 : n.natAbs / g * g = n.natAbs := Nat.div_mul_cancel (by rw [hg]; exact Nat.gcd_dvd_left _ _)
  have e1 : e / g * g = e := Nat.div_mul_cancel (by rw [hg]; exact Nat.gcd_dvd_right _ _)
  have m1 : m.natAbs / h * h = m.natAbs := Nat.div_mul_cancel (by rw [hh]; exact Nat.gcd_dvd_left _ _)
  have d1 : d / h * h = d := Nat.div_mul_cancel (by rw [hh]; exact Nat.gcd_dvd_right _ _)
  have c1 : Nat.gcd (n.natAbs / g) (e / g) = 1 := by rw [hg]; exact Nat.coprime_div_gcd_div_gcd (by rw [← hg]; exact gp)
  have c2 : Nat.gcd (m.natAbs / h) (d / h) = 1 := by rw [hh]; exact Nat.coprime_div_gcd_div_gcd (by rw [← hh]; exact hp)
  have c3 : Nat.gcd (n.natAbs / g) (d / h) = 1 := coprime_of_dvd v.low ⟨g, n1.symm⟩ ⟨h, d1.symm⟩
  have c4 : Nat.gcd (m.natAbs / h) (e / g) = 1 := coprime_of_dvd u.low ⟨h, m1.symm⟩ ⟨g, e1.symm⟩
  have dp := v.pos
  have ep := u.pos
  have hy : 0 < D := by
    rw [hD]
    refine Nat.mul_pos ?_ ?_
    · rcases Nat.eq_zero_or_pos (d / h) with k | k
      · rw [k] at d1; omega
      · exact k
    · rcases Nat.eq_zero_or_pos (e / g) with k | k
      · rw [k] at e1; omega
      · exact k
  refine fit_res (Nat.mul_pos v.pos u.pos) hy ?_ ?_ ?_
  · rw [hN, hD]
    exact Nat.Coprime.mul_left (Nat.Coprime.mul_right c3 c1) (Nat.Coprime.mul_right c2 c4)
  · rw [hN, hD, Int.natAbs_mul]
    revert n1 e1 m1 d1
    generalize n.natAbs / g = a
    generalize m.natAbs / h = b
    generalize d / h = c
    generalize e / g = f
    intro n1 e1 m1 d1
    rw [← n1, ← e1, ← m1, ← d1]
    ac_rfl
  · intro hne
    have a0 : n ≠ 0 := by intro k; rw [k] at hne; simp at hne
    have b0 : m ≠ 0 := by intro k; rw [k] at hne; simp at hne
    by_cases s : n < 0 <;> by_cases t : m < 0
    · have := Int.mul_pos_of_neg_of_neg s t
      simp [s, t]; omega
    · have := Int.mul_neg_of_neg_of_pos s (show 0 < m by omega)
      simp [s, t, this]
    · have := Int.mul_neg_of_pos_of_neg (show 0 < n by omega) t
      simp [s, t, this]
    · have := Int.mul_pos (show 0 < n by omega) (show 0 < m by omega)
      simp [s, t]; omega

theorem plus_signed (n m : Int) (x y : Nat) :
    plusM (decide (n < 0)) (n.natAbs * x) (decide (m < 0)) (m.natAbs * y) = (n * x + m * y).natAbs ∧
    (n * x + m * y ≠ 0 → plusS (decide (n < 0)) (n.natAbs * x) (decide (m < 0)) (m.natAbs * y) = decide (n * x + m * y < 0)) := by
  have a : n * (x : Int) = if n < 0 then -((n.natAbs * x : Nat) : Int) else ((n.natAbs * x : Nat) : Int) := by
    split
    · have : n = -(n.natAbs : Int) := by omega
      push_cast; rw [← Int.neg_mul, ← this]
    · have : n = (n.natAbs : Int) := by omega
      push_cast; rw [← this]
  have b : m * (y : Int) = if m < 0 then -((m.natAbs * y : Nat) : Int) else ((m.natAbs * y : Nat) : Int) := by
    split
    · have : m = -(m.natAbs : Int) := by omega
      push_cast; rw [← Int.neg_mul, ← this]
    · have : m = (m.natAbs : Int) := by omega
      push_cast; rw [← this]
  rw [a, b]
  generalize n.natAbs * x = p
  generalize m.natAbs * y = q
  unfold plusM plusS
  by_cases s : n < 0 <;> by_cases t : m < 0 <;> simp only [s, t, decide_true, decide_false, if_true, if_false, Bool.false_eq_true, Bool.true_eq_false]
  · exact ⟨by omega, fun h => by simp; omega⟩
  · split <;> exact ⟨by omega, fun h => by simp; omega⟩
  · split <;> exact ⟨by omega, fun h => by simp; omega⟩
  · exact ⟨by omega, fun h => by simp; omega⟩

theorem sum_res {n m : Int} {d e g h T N D : Nat} {s : Bool} (v : Valid n d) (u : Valid m e) (hg : g = Nat.gcd d e)
    (hs : s = plusS (decide (n < 0)) (n.natAbs * (e / g)) (decide (m < 0)) (m.natAbs * (d / g))) (hT : T = plusM (decide (n < 0)) (n.natAbs * (e / g)) (decide (m < 0)) (m.natAbs * (d / g)))
    (hh : h = Nat.gcd g (T % g)) (hN : N = T / h) (hD : D = d / g * (e / h)) :
    fitN s N D = resN (n * e + m * d) (d * e) ∧ fitD N D = resD (n * e + m * d) (d * e) ∧ fitE N D = resE (n * e + m * d) (d * e) := by
  have dp := v.pos
  have ep := u.pos
  have gp : 0 < g := by rw [hg]; exact Nat.gcd_pos_of_pos_right _ ep
  have hp : 0 < h := by rw [hh]; exact Nat.gcd_pos_of_pos_left _ gp
  have hh2 : h = Nat.gcd T g := by rw [hh, Nat.gcd_comm g, ← Nat.gcd_rec, Nat.gcd_comm]
  have d1 : d / g * g = d := Nat.div_mul_cancel (by rw [hg]; exact Nat.gcd_dvd_left _ _)
  have e1 : e / g * g = e := Nat.div_mul_cancel (by rw [hg]; exact Nat.gcd_dvd_right _ _)
  have c1 : Nat.gcd (d / g) (e / g) = 1 := by rw [hg]; exact Nat.coprime_div_gcd_div_gcd (by rw [← hg]; exact gp)
  have k1 : g / h * h = g := Nat.div_mul_cancel (by rw [hh2]; exact Nat.gcd_dvd_right _ _)
  have k2 : T / h * h = T := Nat.div_mul_cancel (by rw [hh2]; exact Nat.gcd_dvd_left _ _)
  have c2 : Nat.gcd (T / h) (g / h) = 1 := by rw [hh2]; exact Nat.coprime_div_gcd_div_gcd (by rw [← hh2]; exact hp)
  have e2 : e / h = e / g * (g / h) := by
    have : e / g * (g / h) * h = e := by rw [Nat.mul_assoc, k1, e1]
    rw [← this, Nat.mul_div_cancel _ hp, this]
  obtain ⟨t1, t2⟩ := plus_signed n m (e / g) (d / g)
  rw [← hT] at t1
  rw [← hs] at t2
  have c3 : Nat.gcd n.natAbs (d / g) = 1 := coprime_of_dvd v.low (Nat.dvd_refl _) ⟨g, d1.symm⟩
  have c4 : Nat.gcd m.natAbs (e / g) = 1 := coprime_of_dvd u.low (Nat.dvd_refl _) ⟨g, e1.symm⟩
  have eP : n * (e : Int) + m * (d : Int) = (n * ((e / g : Nat) : Int) + m * ((d / g : Nat) : Int)) * (g : Int) := by
    conv => lhs; rw [← e1, ← d1]
    push_cast
    rw [Int.add_mul, Int.mul_assoc, Int.mul_assoc]
  rw [hD, e2]
  revert d1 e1 c1 k1 k2 c2 t1 t2 c3 c4 eP
  generalize d / g = a
  generalize e / g = b
  generalize g / h = c
  generalize hx : T / h = x
  intro d1 e1 c1 k1 k2 c2 t1 t2 c3 c4 eP
  have f1 : Nat.gcd T a = 1 := by
    have q1 : (((Nat.gcd T a : Nat)) : Int) ∣ n * (b : Int) := by
      have r1 : (((Nat.gcd T a : Nat)) : Int) ∣ n * (b : Int) + m * (a : Int) := by
        rw [← Int.natAbs_dvd_natAbs, ← t1, Int.natAbs_natCast]; exact Nat.gcd_dvd_left _ _
      have r2 : (((Nat.gcd T a : Nat)) : Int) ∣ m * (a : Int) := Int.dvd_mul_of_dvd_right (Int.natCast_dvd_natCast.2 (Nat.gcd_dvd_right _ _))
      exact (Int.dvd_add_left r2).1 r1
    have q2 : Nat.gcd T a ∣ n.natAbs * b := by
      have := Int.natAbs_dvd_natAbs.2 q1
      rwa [Int.natAbs_natCast, Int.natAbs_mul, Int.natAbs_natCast] at this
    have q3 : Nat.gcd (n.natAbs * b) a = 1 := Nat.Coprime.mul_left c3 (Nat.Coprime.symm c1)
    have := Nat.dvd_gcd q2 (Nat.gcd_dvd_right T a)
    rw [q3] at this
    exact Nat.dvd_one.1 this
  have f2 : Nat.gcd T b = 1 := by
    have q1 : (((Nat.gcd T b : Nat)) : Int) ∣ m * (a : Int) := by
      have r1 : (((Nat.gcd T b : Nat)) : Int) ∣ n * (b : Int) + m * (a : Int) := by
        rw [← Int.natAbs_dvd_natAbs, ← t1, Int.natAbs_natCast]; exact Nat.gcd_dvd_left _ _
      have r2 : (((Nat.gcd T b : Nat)) : Int) ∣ n * (b : Int) := Int.dvd_mul_of_dvd_right (Int.natCast_dvd_natCast.2 (Nat.gcd_dvd_right _ _))
      exact (Int.dvd_add_right r2).1 r1
    have q2 : Nat.gcd T b ∣ m.natAbs * a := by
      have := Int.natAbs_dvd_natAbs.2 q1
      rwa [Int.natAbs_natCast, Int.natAbs_mul, Int.natAbs_natCast] at this
    have q3 : Nat.gcd (m.natAbs * a) b = 1 := Nat.Coprime.mul_left c4 c1
    have := Nat.dvd_gcd q2 (Nat.gcd_dvd_right T b)
    rw [q3] at this
    exact Nat.dvd_one.1 this
  have xT : x ∣ T := ⟨h, k2.symm⟩
  have ap : 0 < a := by
    rcases Nat.eq_zero_or_pos a with k | k
    · rw [k] at d1; omega
    · exact k
  have bp : 0 < b := by
    rcases Nat.eq_zero_or_pos b with k | k
    · rw [k] at e1; omega
    · exact k
  have cp : 0 < c := by
    rcases Nat.eq_zero_or_pos c with k | k
    · rw [k] at k1; omega
    · exact k
  rw [hN, hx]
  refine fit_res (Nat.mul_pos dp ep) (Nat.mul_pos ap (Nat.mul_pos bp cp)) ?_ ?_ ?_
  · exact Nat.Coprime.mul_right (coprime_of_dvd f1 xT (Nat.dvd_refl _)) (Nat.Coprime.mul_right (coprime_of_dvd f2 xT (Nat.dvd_refl _)) c2)
  · rw [eP, Int.natAbs_mul, ← t1, Int.natAbs_natCast]
    rw [← k2, ← d1, ← e1, ← k1]
    ac_rfl
  · intro hne
    rw [eP] at hne ⊢
    have g0 : (0 : Int) < (g : Int) := by omega
    have hz : n * (b : Int) + m * (a : Int) ≠ 0 := by intro k; rw [k, Int.zero_mul] at hne; exact hne rfl
    rw [t2 hz]
    generalize n * (b : Int) + m * (a : Int) = z at *
    by_cases l : z < 0
    · have := Int.mul_neg_of_neg_of_pos l g0
      simp [l, this]
    · have := Int.mul_nonneg (show 0 ≤ z by omega) (Int.le_of_lt g0)
      simp [l]; omega
end Go.Proofs.YthlogaenbnhobaaDoor
