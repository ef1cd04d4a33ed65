/-
  A text's tokens with blanks between (plain). (Template: by-name.py fills it.)
-/
import Derived.Test.YtmmlmbfnabgobaaDoorLexQ
namespace Go.Proofs.YtmmlmbfnabgobaaDoor

theorem firstL_sep {x : UInt8} (h1 : isLD x = false) (h2 : isDig x = false) (h3 : x ≠ 61) (h4 : x ≠ 62) (b : List UInt8) (c : UInt8) (r : List UInt8) : firstL (c :: r ++ x :: b) = firstL (c :: r) := by
  have e : c :: r ++ x :: b = c :: (r ++ x :: b) := rfl
  have s1 : spanL isLD (c :: (r ++ x :: b)) = spanL isLD (c :: r) := by rw [← e]; exact spanL_app h1 b (c :: r)
  have s2 : spanL isDig (c :: (r ++ x :: b)) = spanL isDig (c :: r) := by rw [← e]; exact spanL_app h2 b (c :: r)
  have s3 : signL (c :: (r ++ x :: b)) = signL (c :: r) := by
    rw [signL_eq, signL_eq]
    cases r with
    | nil => simp [h3, h4]
    | cons d r => rfl
  rw [e, firstL_cons, firstL_cons, s1, s2, s3]
theorem signL_none {c : UInt8} (r : List UInt8) (h1 : c ≠ 61) (h2 : c ≠ 45) (h3 : c ∉ singlesL) : signL (c :: r) = none := by
  rw [signL_eq, if_neg (by simp [h1, h2]), if_neg h3]
theorem first_bad {c : UInt8} (r : List UInt8) (h1 : isLet c = false) (h2 : isDig c = false) (h3 : c ∉ singlesL) (h4 : c ≠ 61) (h5 : c ≠ 45) : (firstL (c :: r)).2.2 = false := by
  rw [firstL_cons, if_neg (by simp [h1]), if_neg (by simp [h2]), signL_none r h4 h5 h3]
theorem first_notblk {c : UInt8} {r : List UInt8} (h : (firstL (c :: r)).2.2 = true) : isBlk c = false ∧ (c == 35) = false := by
  have no : ∀ d : UInt8, isLet d = false → isDig d = false → d ∉ singlesL → d ≠ 61 → d ≠ 45 → c ≠ d := fun d a1 a2 a3 a4 a5 e => by
    subst e
    rw [first_bad r a1 a2 a3 a4 a5] at h
    cases h
  have n1 := no 32 (by decide) (by decide) (by decide) (by decide) (by decide)
  have n2 := no 9 (by decide) (by decide) (by decide) (by decide) (by decide)
  have n3 := no 10 (by decide) (by decide) (by decide) (by decide) (by decide)
  have n4 := no 13 (by decide) (by decide) (by decide) (by decide) (by decide)
  have n5 := no 35 (by decide) (by decide) (by decide) (by decide) (by decide)
  refine ⟨?_, by simpa using n5⟩
  unfold isBlk
  simp [n1, n2, n3, n4]
theorem span_take (p : UInt8 → Bool) : ∀ l : List UInt8, spanL p (l.take (spanL p l)) = spanL p l
  | [] => rfl
  | c :: r => by
    rw [spanL_cons]
    cases h : p c with
    | false => rfl
    | true =>
      rw [if_pos rfl, List.take_succ_cons, spanL_cons, if_pos h, span_take p r]
theorem sign_take {c : UInt8} {r : List UInt8} {n : Nat} (h : signL (c :: r) = some n) : signL ((c :: r).take n) = some n := by
  rw [signL_eq] at h
  split at h
  · rename_i q
    injection h with h
    subst h
    cases r with
    | nil => simp at q
    | cons d r =>
      show signL (c :: [d]) = some 2
      rw [signL_eq, if_pos (by simpa using q)]
  · split at h
    · rename_i q
      injection h with h
      subst h
      show signL (c :: []) = some 1
      rw [signL_eq, if_neg (by simp), if_pos q]
    · cases h

/-- A token whose text is a token by itself. -/
def TokOk (t : Tok) : Prop := ∃ c r, t.2.1 = c :: r ∧ firstL (c :: r) = (t.1, (c :: r).length, true)
theorem first_take {c : UInt8} {r : List UInt8} (h : (firstL (c :: r)).2.2 = true) (a : Nat) : TokOk ((firstL (c :: r)).1, (c :: r).take (firstL (c :: r)).2.1, a) := by
  have hp := firstL_pos h
  obtain ⟨j, hj⟩ : ∃ j, (firstL (c :: r)).2.1 = j + 1 := ⟨(firstL (c :: r)).2.1 - 1, by omega⟩
  refine ⟨c, r.take j, by rw [hj]; rfl, ?_⟩
  have ht : (c :: r).take (firstL (c :: r)).2.1 = c :: r.take j := by rw [hj]; rfl
  have hlen : (c :: r.take j).length = (firstL (c :: r)).2.1 := by
    rw [← ht, List.length_take]
    exact Nat.min_eq_left (firstL_le _)
  rw [hlen]
  rw [firstL_cons c (r.take j)]
  rw [firstL_cons] at h ht ⊢
  split
  · rename_i g
    rw [if_pos g] at ht
    rw [← ht]
    dsimp only
    rw [span_take]
  · rename_i g
    rw [if_neg g] at h ht
    split
    · rename_i g2
      rw [if_pos g2] at h ht
      rw [← ht]
      dsimp only at h ⊢
      rw [span_take, h]
    · rename_i g2
      rw [if_neg g2] at h ht
      cases q : signL (c :: r) with
      | none => rw [q] at h; cases h
      | some n =>
        rw [q] at ht
        dsimp only at ht
        rw [← ht, sign_take q]

theorem lexR_toks : ∀ (m : Nat) (l : List UInt8) (a : Nat) (ts : List Tok), l.length ≤ m → lexR l a = .ok ts → (∀ t ∈ ts.dropLast, TokOk t) ∧ ∃ e, ts = ts.dropLast ++ [(3, [], e)] := by
  intro m
  induction m with
  | zero =>
    intro l a ts hm h
    obtain rfl : l = [] := List.eq_nil_of_length_eq_zero (by omega)
    rw [lexR_nil] at h
    injection h with h
    subst h
    exact ⟨fun t ht => (by simp at ht), a, rfl⟩
  | succ m ih =>
    intro l a ts hm h
    have le := blanksL_le l
    cases q : l.drop (blanksL l) with
    | nil =>
      have h1 : blanksL l = l.length := by
        have := List.length_drop (i := blanksL l) (l := l)
        rw [q] at this
        simp at this
        omega
      rw [lexR_end h1] at h
      injection h with h
      subst h
      exact ⟨fun t ht => (by simp at ht), _, rfl⟩
    | cons c r =>
      have hl : (c :: r).length ≤ l.length := by rw [← q, List.length_drop]; omega
      cases f : (firstL (c :: r)).2.2 with
      | false => rw [lexR_bad q f] at h; cases h
      | true =>
        have hp := firstL_pos f
        rw [lexR_tok q f] at h
        cases g : lexR ((c :: r).drop (firstL (c :: r)).2.1) (a + blanksL l + (firstL (c :: r)).2.1) with
        | bad p => rw [g] at h; cases h
        | ok us =>
          rw [g] at h
          injection h with h
          subst h
          obtain ⟨i1, e, i2⟩ := ih _ _ us (by rw [List.length_drop]; simp at hl ⊢; omega) g
          have hne : us ≠ [] := lexR_some _ _ _ _ (Nat.le_refl _) g
          rw [List.dropLast_cons_of_ne_nil hne]
          refine ⟨fun t ht => ?_, e, by rw [List.cons_append, ← i2]⟩
          rcases List.mem_cons.1 ht with rfl | ht
          · exact first_take f _
          · exact i1 t ht

/-- The texts of tokens with something behind each. -/
def catL (sep : List UInt8) : List Tok → List UInt8
  | [] => []
  | t :: r => t.2.1 ++ sep ++ catL sep r
theorem catL_snoc (sep : List UInt8) (t : Tok) : ∀ us : List Tok, catL sep (us ++ [t]) = catL sep us ++ t.2.1 ++ sep
  | [] => by simp [catL]
  | u :: r => by rw [List.cons_append, catL, catL_snoc sep t r, catL]; simp only [List.append_assoc]
theorem catL_len (sep : List UInt8) (h : sep.length ≤ 4) : ∀ us : List Tok, (∀ t ∈ us, t.2.1.length ≤ 2000) → (catL sep us).length ≤ us.length * 2004
  | [], _ => by simp [catL]
  | u :: r, hu => by
    have a := catL_len sep h r (fun t ht => hu t (List.mem_cons_of_mem _ ht))
    have b := hu u (List.mem_cons_self ..)
    rw [catL, List.length_append, List.length_append, List.length_cons, Nat.succ_mul]
    omega
/-- What stands between is passed over. -/
def Passed (sep : List UInt8) : Prop := (∃ x b, sep = x :: b ∧ isLD x = false ∧ isDig x = false ∧ x ≠ 61 ∧ x ≠ 62) ∧ ∀ (rest : List UInt8) (a : Nat), ∃ b, lexR (sep ++ rest) a = lexR rest b
theorem passed_blank : Passed [32] := ⟨⟨32, [], rfl, by decide, by decide, by decide, by decide⟩, fun rest a => ⟨a + 1, lexR_blk (by decide)⟩⟩
theorem passed_cmt : Passed [35, 32, 120, 10] := ⟨⟨35, [32, 120, 10], rfl, by decide, by decide, by decide, by decide⟩, fun rest a => ⟨a + (2 + 1) + 1, by
  have sp : spanL notNl (32 :: 120 :: 10 :: rest) = 2 := by
    rw [spanL_cons, if_pos (by decide), spanL_cons, if_pos (by decide), spanL_cons, if_neg (by decide)]
  show lexR (35 :: 32 :: 120 :: 10 :: rest) a = _
  rw [lexR_cmt, sp]
  show lexR (10 :: rest) _ = _
  rw [lexR_blk (by decide)]⟩⟩
theorem lex_again {sep : List UInt8} (hs : Passed sep) : ∀ (us : List Tok) (a : Nat), (∀ t ∈ us, TokOk t) → ∃ (ms : List Tok) (e : Nat), lexR (catL sep us) a = .ok (ms ++ [(3, [], e)]) ∧ ms.map (fun t => (t.1, t.2.1)) = us.map (fun t => (t.1, t.2.1))
  | [], a, _ => ⟨[], a, lexR_nil a, rfl⟩
  | t :: r, a, h => by
    obtain ⟨c, q, hc, hf⟩ := h t (List.mem_cons_self ..)
    obtain ⟨⟨x, y, rfl, h1, h2, h3, h4⟩, hpass⟩ := hs
    have hnb := first_notblk (r := q) (c := c) (by rw [hf])
    have fa := firstL_sep h1 h2 h3 h4 (y ++ catL (x :: y) r) c q
    have e : catL (x :: y) (t :: r) = c :: (q ++ x :: (y ++ catL (x :: y) r)) := by
      rw [catL, hc]
      simp
    rw [List.cons_append] at fa
    obtain ⟨b, hb⟩ := hpass (catL (x :: y) r) (a + (c :: q).length)
    obtain ⟨ms, e2, k1, k2⟩ := lex_again ⟨⟨x, y, rfl, h1, h2, h3, h4⟩, hpass⟩ r b (fun u hu => h u (List.mem_cons_of_mem _ hu))
    refine ⟨(t.1, c :: q, a) :: ms, e2, ?_, by rw [List.map_cons, List.map_cons, k2, hc]⟩
    rw [e, lexR_here hnb.1 hnb.2 (by rw [fa, hf]), fa, hf]
    dsimp only
    have d1 : (c :: (q ++ x :: (y ++ catL (x :: y) r))).drop (c :: q).length = x :: y ++ catL (x :: y) r := by
      rw [← List.cons_append, List.drop_left]
      rfl
    have d2 : (c :: (q ++ x :: (y ++ catL (x :: y) r))).take (c :: q).length = c :: q := by
      rw [← List.cons_append, List.take_left]
    rw [d1, d2, hb, k1]
    rfl
end Go.Proofs.YtmmlmbfnabgobaaDoor
