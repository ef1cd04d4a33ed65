/-
  Plain words for texts and tokens: letters, digits, blanks, the first token, all tokens. (Template: by-name.py fills it.)
-/
namespace Go.Proofs.YtabnjiijgbigbaaDoor

def letN (n : Nat) : Bool := (decide (65 ≤ n) && decide (n ≤ 90)) || (decide (97 ≤ n) && decide (n ≤ 122)) || decide (n = 95)
def digN (n : Nat) : Bool := decide (48 ≤ n) && decide (n ≤ 57)
def isLet (c : UInt8) : Bool := letN c.toNat
def isDig (c : UInt8) : Bool := digN c.toNat
def isLD (c : UInt8) : Bool := letN c.toNat || digN c.toNat
def isBlk (c : UInt8) : Bool := c == 32 || c == 9 || c == 10 || c == 13
def notNl (c : UInt8) : Bool := !(c == 10)

/-- The length of the longest beginning all of whose bytes fit. -/
def spanL (p : UInt8 → Bool) (l : List UInt8) : Nat := (l.takeWhile p).length

theorem spanL_nil (p : UInt8 → Bool) : spanL p [] = 0 := rfl
theorem spanL_cons (p : UInt8 → Bool) (c : UInt8) (r : List UInt8) : spanL p (c :: r) = if p c then spanL p r + 1 else 0 := by
  unfold spanL
  rw [List.takeWhile_cons]
  split <;> simp
theorem spanL_le (p : UInt8 → Bool) : ∀ l : List UInt8, spanL p l ≤ l.length
  | [] => Nat.le_refl _
  | c :: r => by
    have := spanL_le p r
    rw [spanL_cons, List.length_cons]
    split <;> omega
theorem drop_cons {l : List UInt8} {k : Nat} {c : UInt8} (h : l[k]? = some c) : l.drop k = c :: l.drop (k + 1) := by
  obtain ⟨hk, rfl⟩ := List.getElem?_eq_some_iff.1 h
  exact List.drop_eq_getElem_cons hk
theorem spanL_yes {p : UInt8 → Bool} {l : List UInt8} {k : Nat} {c : UInt8} (h : l[k]? = some c) (hp : p c = true) : spanL p (l.drop k) = spanL p (l.drop (k + 1)) + 1 := by
  rw [drop_cons h, spanL_cons, if_pos hp]
theorem spanL_no {p : UInt8 → Bool} {l : List UInt8} {k : Nat} {c : UInt8} (h : l[k]? = some c) (hp : p c = false) : spanL p (l.drop k) = 0 := by
  rw [drop_cons h, spanL_cons, if_neg (by simp [hp])]
theorem spanL_off {p : UInt8 → Bool} {l : List UInt8} {k : Nat} (h : l.length ≤ k) : spanL p (l.drop k) = 0 := by
  rw [List.drop_eq_nil_of_le h]
  rfl

/-- The length of the blanks with which a text begins. -/
def blanksL : List UInt8 → Nat
  | [] => 0
  | c :: r => if isBlk c then blanksL r + 1 else if c == 35 then 1 + spanL notNl r + blanksL (r.drop (spanL notNl r)) else 0
termination_by l => l.length
decreasing_by all_goals (simp only [List.length_drop, List.length_cons]; omega)

theorem blanksL_nil : blanksL [] = 0 := by rw [blanksL]
theorem blanksL_blk {c : UInt8} {r : List UInt8} (h : isBlk c = true) : blanksL (c :: r) = blanksL r + 1 := by
  rw [blanksL, if_pos h]
theorem blanksL_cmt {r : List UInt8} : blanksL (35 :: r) = 1 + spanL notNl r + blanksL (r.drop (spanL notNl r)) := by
  rw [blanksL, if_neg (by decide), if_pos (by decide)]
theorem blanksL_no {c : UInt8} {r : List UInt8} (h : isBlk c = false) (h2 : (c == 35) = false) : blanksL (c :: r) = 0 := by
  rw [blanksL, if_neg (by simp [h]), if_neg (by simp [h2])]
theorem blanksL_le (l : List UInt8) : blanksL l ≤ l.length := by
  fun_induction blanksL l with
  | case1 => exact Nat.le_refl _
  | case2 c r h ih => rw [List.length_cons]; omega
  | case3 c r h h2 ih => rw [List.length_drop] at ih; have := spanL_le notNl r; rw [List.length_cons]; omega
  | case4 c r h h2 => exact Nat.zero_le _
theorem blk_not35 {c : UInt8} (h : isBlk c = true) : c ≠ 35 := by
  intro e
  subst e
  exact absurd h (by decide)

def signsL : List (List UInt8) := [[61, 61], [45, 62], [123], [125], [40], [41], [59], [44], [46], [58], [61], [60], [43], [45], [42], [47], [124], [38]]
def singlesL : List UInt8 := [123, 125, 40, 41, 59, 44, 46, 58, 61, 60, 43, 45, 42, 47, 124, 38]
/-- The length of the sign with which a text begins. -/
def signL (l : List UInt8) : Option Nat := (signsL.find? fun g => g.isPrefixOf l).map (·.length)

/-- The kind and the length of the first token. -/
def firstL : List UInt8 → Nat × Nat × Bool
  | [] => (3, 0, true)
  | c :: r =>
    if isLet c then (0, spanL isLD (c :: r), true)
    else if isDig c then (1, spanL isDig (c :: r), decide (spanL isDig (c :: r) ≤ 18))
    else match signL (c :: r) with
      | some n => (2, n, true)
      | none => (0, 0, false)

theorem firstL_cons (c : UInt8) (r : List UInt8) : firstL (c :: r) = if isLet c then (0, spanL isLD (c :: r), true) else if isDig c then (1, spanL isDig (c :: r), decide (spanL isDig (c :: r) ≤ 18)) else match signL (c :: r) with
      | some n => (2, n, true)
      | none => (0, 0, false) := rfl
theorem signs_pos : ∀ g ∈ signsL, 1 ≤ g.length ∧ g.length ≤ 2 := by decide
theorem signL_pos {l : List UInt8} {n : Nat} (h : signL l = some n) : 1 ≤ n ∧ n ≤ l.length := by
  unfold signL at h
  obtain ⟨g, hg, rfl⟩ := Option.map_eq_some_iff.1 h
  refine ⟨(signs_pos g (List.mem_of_find?_eq_some hg)).1, ?_⟩
  have := List.find?_some hg
  exact (List.isPrefixOf_iff_prefix.1 this).length_le
theorem let_ld {c : UInt8} (h : isLet c = true) : isLD c = true := by unfold isLet at h; unfold isLD; rw [h]; rfl
theorem firstL_pos {c : UInt8} {r : List UInt8} (h : (firstL (c :: r)).2.2 = true) : 1 ≤ (firstL (c :: r)).2.1 := by
  rw [firstL_cons] at h ⊢
  split
  · rename_i g
    show 1 ≤ spanL isLD (c :: r)
    rw [spanL_cons, if_pos (let_ld g)]
    omega
  · split
    · rename_i g
      show 1 ≤ spanL isDig (c :: r)
      rw [spanL_cons, if_pos g]
      omega
    · rename_i g1 g2
      rw [if_neg g1, if_neg g2] at h
      split
      · rename_i n hn
        exact (signL_pos hn).1
      · rename_i hn
        rw [hn] at h
        cases h
theorem firstL_le (l : List UInt8) : (firstL l).2.1 ≤ l.length := by
  unfold firstL
  split
  · exact Nat.le_refl _
  · rename_i c r
    split
    · exact spanL_le _ _
    · split
      · exact spanL_le _ _
      · split
        · rename_i n hn
          exact (signL_pos hn).2
        · exact Nat.zero_le _

/-- A token: its kind, its text, where it begins. -/
abbrev Tok := Nat × List UInt8 × Nat
inductive LexAns where
  | bad (at_ : Nat)
  | ok (l : List Tok)
def LexAns.push (t : Tok) : LexAns → LexAns
  | .bad a => .bad a
  | .ok l => .ok (t :: l)
def LexAns.pre (ts : List Tok) : LexAns → LexAns
  | .bad a => .bad a
  | .ok l => .ok (ts ++ l)
theorem LexAns.pre_nil (x : LexAns) : x.pre [] = x := by cases x <;> rfl
theorem LexAns.pre_push (ts : List Tok) (t : Tok) (x : LexAns) : (x.push t).pre ts = x.pre (ts ++ [t]) := by
  cases x <;> simp [LexAns.pre, LexAns.push]

/-- The tokens of a text that begins at a place. -/
def lexR (l : List UInt8) (a : Nat) : LexAns :=
  if _h : blanksL l < l.length then
    if _h2 : (firstL (l.drop (blanksL l))).2.2 = true then
      (lexR ((l.drop (blanksL l)).drop (firstL (l.drop (blanksL l))).2.1) (a + blanksL l + (firstL (l.drop (blanksL l))).2.1)).push ((firstL (l.drop (blanksL l))).1, (l.drop (blanksL l)).take (firstL (l.drop (blanksL l))).2.1, a + blanksL l)
    else .bad (a + blanksL l)
  else .ok [(3, [], a + l.length)]
termination_by l.length
decreasing_by
  have e : 1 ≤ (firstL (l.drop (blanksL l))).2.1 := by
    cases q : l.drop (blanksL l) with
    | nil => have := List.length_drop (i := blanksL l) (l := l); rw [q] at this; simp at this; omega
    | cons c r => rw [q] at _h2; exact firstL_pos _h2
  rw [List.length_drop, List.length_drop]
  omega

theorem lexR_end {l : List UInt8} {a : Nat} (h : blanksL l = l.length) : lexR l a = .ok [(3, [], a + l.length)] := by
  rw [lexR, dif_neg (by omega)]
theorem lexR_nil (a : Nat) : lexR [] a = .ok [(3, [], a)] := by
  rw [lexR_end (by rw [blanksL_nil]; rfl)]
  rfl
theorem lexR_tok {l : List UInt8} {a : Nat} {c : UInt8} {r : List UInt8} (h : l.drop (blanksL l) = c :: r) (h2 : (firstL (c :: r)).2.2 = true) :
    lexR l a = (lexR ((c :: r).drop (firstL (c :: r)).2.1) (a + blanksL l + (firstL (c :: r)).2.1)).push ((firstL (c :: r)).1, (c :: r).take (firstL (c :: r)).2.1, a + blanksL l) := by
  have hl : blanksL l < l.length := by
    have := List.length_drop (i := blanksL l) (l := l)
    rw [h, List.length_cons] at this
    omega
  rw [lexR, dif_pos hl, h, dif_pos h2]
theorem lexR_bad {l : List UInt8} {a : Nat} {c : UInt8} {r : List UInt8} (h : l.drop (blanksL l) = c :: r) (h2 : (firstL (c :: r)).2.2 = false) : lexR l a = .bad (a + blanksL l) := by
  have hl : blanksL l < l.length := by
    have := List.length_drop (i := blanksL l) (l := l)
    rw [h, List.length_cons] at this
    omega
  rw [lexR, dif_pos hl, h, dif_neg (by simp [h2])]

/-- Blanks ahead are passed over. -/
theorem lexR_pass {l m : List UInt8} {a k : Nat} (hd : l.drop k = m) (hk : k ≤ l.length) (hb : blanksL l = k + blanksL m) : lexR l a = lexR m (a + k) := by
  have e : l.drop (blanksL l) = m.drop (blanksL m) := by rw [hb, ← hd, List.drop_drop]
  have hlen : m.length = l.length - k := by rw [← hd, List.length_drop]
  have le := blanksL_le l
  cases q : m.drop (blanksL m) with
  | nil =>
    have h1 : blanksL m = m.length := by
      have := List.length_drop (i := blanksL m) (l := m)
      have := blanksL_le m
      rw [q] at *
      simp at *
      omega
    rw [lexR_end (l := m) h1, lexR_end (l := l) (by omega)]
    congr 4
    omega
  | cons c r =>
    have q' : l.drop (blanksL l) = c :: r := e.trans q
    cases f : (firstL (c :: r)).2.2 with
    | true =>
      rw [lexR_tok q' f, lexR_tok q f, hb]
      simp only [Nat.add_assoc]
    | false =>
      rw [lexR_bad q' f, lexR_bad q f, hb]
      simp only [Nat.add_assoc]
theorem lexR_blk {c : UInt8} {r : List UInt8} {a : Nat} (h : isBlk c = true) : lexR (c :: r) a = lexR r (a + 1) :=
  lexR_pass rfl (by simp) (by rw [blanksL_blk h]; omega)
theorem lexR_cmt {r : List UInt8} {a : Nat} : lexR (35 :: r) a = lexR (r.drop (spanL notNl r)) (a + (spanL notNl r + 1)) := by
  refine lexR_pass (by rw [List.drop_succ_cons]) (by have := spanL_le notNl r; simp; omega) ?_
  rw [blanksL_cmt]
  omega
theorem lexR_here {c : UInt8} {r : List UInt8} {a : Nat} (h : isBlk c = false) (h35 : (c == 35) = false) (h2 : (firstL (c :: r)).2.2 = true) :
    lexR (c :: r) a = (lexR ((c :: r).drop (firstL (c :: r)).2.1) (a + (firstL (c :: r)).2.1)).push ((firstL (c :: r)).1, (c :: r).take (firstL (c :: r)).2.1, a) := by
  have e := blanksL_no (r := r) h h35
  have := lexR_tok (l := c :: r) (a := a) (by rw [e]; rfl) h2
  rw [e] at this
  simpa using this
theorem lexR_fault {c : UInt8} {r : List UInt8} {a : Nat} (h : isBlk c = false) (h35 : (c == 35) = false) (h2 : (firstL (c :: r)).2.2 = false) : lexR (c :: r) a = .bad a := by
  have e := blanksL_no (r := r) h h35
  have := lexR_bad (l := c :: r) (a := a) (by rw [e]; rfl) h2
  rw [e] at this
  simpa using this

/-- The sign at the beginning, as the reference finds it. -/
theorem signL_eq (c : UInt8) (r : List UInt8) : signL (c :: r) = if (c = 61 ∧ r.head? = some 61) ∨ (c = 45 ∧ r.head? = some 62) then some 2 else if c ∈ singlesL then some 1 else none := by
  have one : ∀ x : UInt8, List.isPrefixOf [x] (c :: r) = (x == c) := fun x => by simp [List.isPrefixOf]
  have two : ∀ x y : UInt8, List.isPrefixOf [x, y] (c :: r) = (x == c && r.head? == some y) := fun x y => by
    cases r with
    | nil => simp [List.isPrefixOf]
    | cons z r => simp [List.isPrefixOf, Bool.beq_eq_decide_eq, eq_comm]
  unfold signL signsL
  simp only [List.find?_cons, one, two, List.find?_nil]
  by_cases h : (c = 61 ∧ r.head? = some 61) ∨ (c = 45 ∧ r.head? = some 62)
  · rw [if_pos h]
    rcases h with ⟨rfl, h⟩ | ⟨rfl, h⟩ <;> simp [h]
  · rw [if_neg h]
    by_cases hm : c ∈ singlesL
    · rw [if_pos hm]
      simp only [singlesL, List.mem_cons, List.not_mem_nil, or_false] at hm
      rcases hm with rfl | rfl | rfl | rfl | rfl | rfl | rfl | rfl | rfl | rfl | rfl | rfl | rfl | rfl | rfl | rfl <;> simp at h ⊢ <;> rw [beq_eq_false_iff_ne.2 h] <;> simp
    · rw [if_neg hm]
      simp only [singlesL, List.mem_cons, List.not_mem_nil, or_false, not_or] at hm
      have : ∀ x : UInt8, ¬ c = x → (x == c) = false := fun x hx => by simpa using fun e => hx e.symm
      obtain ⟨g1, g2, g3, g4, g5, g6, g7, g8, g9, g10, g11, g12, g13, g14, g15, g16⟩ := hm
      simp [this _ g1, this _ g2, this _ g3, this _ g4, this _ g5, this _ g6, this _ g7, this _ g8, this _ g9, this _ g10, this _ g11, this _ g12, this _ g13, this _ g14, this _ g15, this _ g16]
end Go.Proofs.YtabnjiijgbigbaaDoor
