/-
  Two texts with a line feed between; a text at another place (plain). (Template: by-name.py fills it.)
-/
import Derived.Test.YtmmlmbfnabgobaaDoorLexL
namespace Go.Proofs.YtmmlmbfnabgobaaDoor

theorem spanL_app {p : UInt8 → Bool} {c : UInt8} (h : p c = false) (b : List UInt8) : ∀ m : List UInt8, spanL p (m ++ c :: b) = spanL p m
  | [] => by rw [List.nil_append, spanL_cons, if_neg (by simp [h]), spanL_nil]
  | d :: r => by rw [List.cons_append, spanL_cons, spanL_cons, spanL_app h b r]
theorem blanks_app (b a : List UInt8) : blanksL (a ++ 10 :: b) = if blanksL a = a.length then a.length + 1 + blanksL b else blanksL a := by
  fun_induction blanksL a with
  | case1 => rw [List.nil_append, blanksL_blk (by decide)]; simp; omega
  | case2 c r h ih =>
    rw [List.cons_append, blanksL_blk h, ih, List.length_cons]
    by_cases q : blanksL r = r.length
    · rw [if_pos q, if_pos (by omega)]; omega
    · rw [if_neg q, if_neg (by omega)]
  | case3 c r h h2 ih =>
    obtain rfl : c = 35 := by simpa using h2
    have le := spanL_le notNl r
    rw [List.cons_append, blanksL_cmt, spanL_app (by decide), List.drop_append_of_le_length le, ih, List.length_drop, List.length_cons]
    by_cases q : blanksL (r.drop (spanL notNl r)) = r.length - spanL notNl r
    · rw [if_pos q, if_pos (by omega)]; omega
    · rw [if_neg q, if_neg (by omega)]
  | case4 c r h h2 => rw [List.cons_append, blanksL_no (by simpa using h) (by simpa using h2), if_neg (by simp)]
theorem firstL_app (b : List UInt8) (c : UInt8) (r : List UInt8) : firstL (c :: r ++ 10 :: b) = firstL (c :: r) := by
  have e : c :: r ++ 10 :: b = c :: (r ++ 10 :: b) := rfl
  have s1 : spanL isLD (c :: (r ++ 10 :: b)) = spanL isLD (c :: r) := by rw [← e]; exact spanL_app (by decide) b (c :: r)
  have s2 : spanL isDig (c :: (r ++ 10 :: b)) = spanL isDig (c :: r) := by rw [← e]; exact spanL_app (by decide) b (c :: r)
  have s3 : signL (c :: (r ++ 10 :: b)) = signL (c :: r) := by
    rw [signL_eq, signL_eq]
    cases r with
    | nil => simp
    | cons d r => rfl
  rw [e, firstL_cons, firstL_cons, s1, s2, s3]

/-- A text at another place. -/
def LexAns.shift (k : Nat) : LexAns → LexAns
  | .bad a => .bad (a + k)
  | .ok l => .ok (l.map fun t => (t.1, t.2.1, t.2.2 + k))
theorem LexAns.shift_push (k : Nat) (t : Tok) (x : LexAns) : (x.push t).shift k = (x.shift k).push (t.1, t.2.1, t.2.2 + k) := by cases x <;> rfl

theorem lexR_shift (k : Nat) : ∀ (m : Nat) (l : List UInt8) (a : Nat), l.length ≤ m → lexR l (a + k) = (lexR l a).shift k := by
  intro m
  induction m with
  | zero =>
    intro l a hm
    obtain rfl : l = [] := List.eq_nil_of_length_eq_zero (by omega)
    rw [lexR_nil, lexR_nil]
    rfl
  | succ m ih =>
    intro l a hm
    have le := blanksL_le l
    cases q : l.drop (blanksL l) with
    | nil =>
      have h1 : blanksL l = l.length := by
        have := List.length_drop (i := blanksL l) (l := l)
        rw [q] at this
        simp at this
        omega
      rw [lexR_end h1, lexR_end h1]
      simp only [LexAns.shift, List.map_cons, List.map_nil]
      congr 4
      omega
    | cons c r =>
      have hl : (c :: r).length ≤ l.length := by rw [← q, List.length_drop]; omega
      cases f : (firstL (c :: r)).2.2 with
      | true =>
        have hp := firstL_pos f
        rw [lexR_tok q f, lexR_tok q f, LexAns.shift_push, ← ih _ _ (by rw [List.length_drop]; simp at hl ⊢; omega)]
        have e1 : a + k + blanksL l + (firstL (c :: r)).2.1 = a + blanksL l + (firstL (c :: r)).2.1 + k := by omega
        have e2 : a + k + blanksL l = a + blanksL l + k := by omega
        rw [e1, e2]
      | false =>
        rw [lexR_bad q f, lexR_bad q f]
        simp only [LexAns.shift]
        congr 1
        omega

/-- The tokens of two texts with a line feed between. -/
def LexAns.join (y : LexAns) : LexAns → LexAns
  | .bad a => .bad a
  | .ok l => y.pre l.dropLast
theorem lexR_some : ∀ (m : Nat) (l : List UInt8) (a : Nat) (ts : List Tok), l.length ≤ m → lexR l a = .ok ts → ts ≠ [] := by
  intro m l a ts _ h
  rw [lexR] at h
  split at h
  · split at h
    · intro e
      subst e
      revert h
      generalize lexR _ _ = x
      intro h
      cases x <;> cases h
    · cases h
  · injection h with h
    subst h
    simp
theorem LexAns.join_push (y : LexAns) (t : Tok) (x : LexAns) (h : x ≠ .ok []) : y.join (x.push t) = (y.join x).push t := by
  cases x with
  | bad a => rfl
  | ok l =>
    have hl : l ≠ [] := fun e => h (by rw [e])
    simp only [LexAns.join, LexAns.push]
    cases y with
    | bad a => rfl
    | ok m => simp [LexAns.pre, List.dropLast_cons_of_ne_nil hl]

theorem lexR_app (b : List UInt8) : ∀ (m : Nat) (l : List UInt8) (a : Nat), l.length ≤ m → lexR (l ++ 10 :: b) a = (lexR b (a + l.length + 1)).join (lexR l a) := by
  intro m
  induction m with
  | zero =>
    intro l a hm
    obtain rfl : l = [] := List.eq_nil_of_length_eq_zero (by omega)
    rw [lexR_nil, List.nil_append, lexR_blk (by decide)]
    simp [LexAns.join, LexAns.pre_nil]
  | succ m ih =>
    intro l a hm
    have le := blanksL_le l
    have bl := blanks_app b l
    cases q : l.drop (blanksL l) with
    | nil =>
      have h1 : blanksL l = l.length := by
        have := List.length_drop (i := blanksL l) (l := l)
        rw [q] at this
        simp at this
        omega
      rw [if_pos h1] at bl
      rw [lexR_end h1, lexR_pass (k := l.length + 1) (m := b) (by rw [← List.drop_drop, List.drop_left]; rfl) (by simp) (by omega)]
      simp [LexAns.join, LexAns.pre_nil, Nat.add_assoc]
    | cons c r =>
      have hl : (c :: r).length ≤ l.length := by rw [← q, List.length_drop]; omega
      have hne : ¬ blanksL l = l.length := fun e => by
        rw [e, List.drop_length] at q
        cases q
      rw [if_neg hne] at bl
      have q2 : (l ++ 10 :: b).drop (blanksL (l ++ 10 :: b)) = c :: (r ++ 10 :: b) := by
        rw [bl, List.drop_append_of_le_length le, q]
        rfl
      have fa := firstL_app b c r
      rw [List.cons_append] at fa
      have hfl := firstL_le (c :: r)
      cases f : (firstL (c :: r)).2.2 with
      | true =>
        have hp := firstL_pos f
        rw [lexR_tok q f, lexR_tok q2 (by rw [fa]; exact f), fa, bl]
        have e1 : (c :: (r ++ 10 :: b)).drop (firstL (c :: r)).2.1 = (c :: r).drop (firstL (c :: r)).2.1 ++ 10 :: b := by
          rw [← List.cons_append, List.drop_append_of_le_length hfl]
        have e2 : (c :: (r ++ 10 :: b)).take (firstL (c :: r)).2.1 = (c :: r).take (firstL (c :: r)).2.1 := by
          rw [← List.cons_append, List.take_append_of_le_length hfl]
        rw [e1, e2, ih _ _ (by rw [List.length_drop]; simp at hl ⊢; omega), LexAns.join_push _ _ _ (fun e => lexR_some _ _ _ _ (Nat.le_refl _) e rfl)]
        congr 3
        have : (c :: r).length = l.length - blanksL l := by rw [← q, List.length_drop]
        rw [List.length_drop, this]
        omega
      | false => rw [lexR_bad q f, lexR_bad q2 (by rw [fa]; exact f), bl]; rfl
end Go.Proofs.YtmmlmbfnabgobaaDoor
