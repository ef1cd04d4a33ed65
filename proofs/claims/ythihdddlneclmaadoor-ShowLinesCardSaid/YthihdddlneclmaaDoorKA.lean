/-
  Nodes in memory. (Template: by-name.py fills it.)
-/
import Derived.Below
import Derived.Laws.OwnMore
import Derived.Deep.AppendLies
import Derived.Deep.Draws
import Derived.Maps.AppendAt
import Derived.RegionTactic
import Derived.OwnWalk
import Derived.Deep.RegionHeld
import Derived.Test.YthihdddlneclmaaDoorRows
import Derived.WalkKit
import Derived.WalkSpells
import Derived.WalkLawsBesides
import Derived.IntWalk
import Derived.Lib.Hide
import Derived.WalkSmall
import Derived.Deep.QuietTactic
import Derived.BigQuiet
import Derived.Deep.LoopGhost
import Derived.Lib.Strings
import Derived.Lib.LaidTab
import Derived.Laws.Rows
import Derived.Stop.LaidErr
import Derived.MakeChecks
import Derived.Test.YthihdddlneclmaaDoorShelf
import Derived.Lib.PathFns
import Derived.Lib.IndexBytes
import Derived.OneCell
import Derived.StillTailTactics
import Derived.BigRegion
import Derived.Deep.RegionHeld3
import Derived.Deep.Cut
namespace Go.Proofs.YthihdddlneclmaaDoor

def letN (n : Nat) : Bool := (decide (65 ≤ n) && decide (n ≤ 90)) || (decide (97 ≤ n) && decide (n ≤ 122)) || decide (n = 95)
def digN (n : Nat) : Bool := decide (48 ≤ n) && decide (n ≤ 57)
def isLet (c : UInt8) : Bool := letN c.toNat
def isDig (c : UInt8) : Bool := digN c.toNat
def isLD (c : UInt8) : Bool := letN c.toNat || digN c.toNat
def isBlk (c : UInt8) : Bool := c == 32 || c == 9 || c == 10 || c == 13
def notNl (c : UInt8) : Bool := !(c == 10)

/-- The length of the longest beginning all of whose bytes fit. -/
def spanL (p : UInt8 → Bool) (l : List UInt8) : Nat := (l.takeWhile p).length

theorem spanL_nil (p : UInt8 → Bool) : spanL p [] = 0 := rfl
theorem spanL_cons (p : UInt8 → Bool) (c : UInt8) (r : List UInt8) : spanL p (c :: r) = if p c then spanL p r + 1 else 0 := by
  unfold spanL
  rw [List.takeWhile_cons]
  split <;> simp
theorem spanL_le (p : UInt8 → Bool) : ∀ l : List UInt8, spanL p l ≤ l.length
  | [] => Nat.le_refl _
  | c :: r => by
    have := spanL_le p r
    rw [spanL_cons, List.length_cons]
    split <;> omega
theorem drop_cons {l : List UInt8} {k : Nat} {c : UInt8} (h : l[k]? = some c) : l.drop k = c :: l.drop (k + 1) := by
  obtain ⟨hk, rfl⟩ := List.getElem?_eq_some_iff.1 h
  exact List.drop_eq_getElem_cons hk
theorem spanL_yes {p : UInt8 → Bool} {l : List UInt8} {k : Nat} {c : UInt8} (h : l[k]? = some c) (hp : p c = true) : spanL p (l.drop k) = spanL p (l.drop (k + 1)) + 1 := by
  rw [drop_cons h, spanL_cons, if_pos hp]
theorem spanL_no {p : UInt8 → Bool} {l : List UInt8} {k : Nat} {c : UInt8} (h : l[k]? = some c) (hp : p c = false) : spanL p (l.drop k) = 0 := by
  rw [drop_cons h, spanL_cons, if_neg (by simp [hp])]
theorem spanL_off {p : UInt8 → Bool} {l : List UInt8} {k : Nat} (h : l.length ≤ k) : spanL p (l.drop k) = 0 := by
  rw [List.drop_eq_nil_of_le h]
  rfl

/-- The length of the blanks with which a text begins. -/
def blanksL : List UInt8 → Nat
  | [] => 0
  | c :: r => if isBlk c then blanksL r + 1 else if c == 35 then 1 + spanL notNl r + blanksL (r.drop (spanL notNl r)) else 0
termination_by l => l.length
decreasing_by all_goals (simp only [List.length_drop, List.length_cons]; omega)

theorem blanksL_nil : blanksL [] = 0 := by rw [blanksL]
theorem blanksL_blk {c : UInt8} {r : List UInt8} (h : isBlk c = true) : blanksL (c :: r) = blanksL r + 1 := by
  rw [blanksL, if_pos h]
theorem blanksL_cmt {r : List UInt8} : blanksL (35 :: r) = 1 + spanL notNl r + blanksL (r.drop (spanL notNl r)) := by
  rw [blanksL, if_neg (by decide), if_pos (by decide)]
theorem blanksL_no {c : UInt8} {r : List UInt8} (h : isBlk c = false) (h2 : (c == 35) = false) : blanksL (c :: r) = 0 := by
  rw [blanksL, if_neg (by simp [h]), if_neg (by simp [h2])]
theorem blanksL_le (l : List UInt8) : blanksL l ≤ l.length := by
  fun_induction blanksL l with
  | case1 => exact Nat.le_refl _
  | case2 c r h ih => rw [List.length_cons]; omega
  | case3 c r h h2 ih => rw [List.length_drop] at ih; have := spanL_le notNl r; rw [List.length_cons]; omega
  | case4 c r h h2 => exact Nat.zero_le _
theorem blk_not35 {c : UInt8} (h : isBlk c = true) : c ≠ 35 := by
  intro e
  subst e
  exact absurd h (by decide)

def signsL : List (List UInt8) := [[61, 61], [45, 62], [123], [125], [40], [41], [59], [44], [46], [58], [61], [60], [43], [45], [42], [47], [124], [38]]
def singlesL : List UInt8 := [123, 125, 40, 41, 59, 44, 46, 58, 61, 60, 43, 45, 42, 47, 124, 38]
/-- The length of the sign with which a text begins. -/
def signL (l : List UInt8) : Option Nat := (signsL.find? fun g => g.isPrefixOf l).map (·.length)

/-- The kind and the length of the first token. -/
def firstL : List UInt8 → Nat × Nat × Bool
  | [] => (3, 0, true)
  | c :: r =>
    if isLet c then (0, spanL isLD (c :: r), true)
    else if isDig c then (1, spanL isDig (c :: r), decide (spanL isDig (c :: r) ≤ 18))
    else match signL (c :: r) with
      | some n => (2, n, true)
      | none => (0, 0, false)

theorem firstL_cons (c : UInt8) (r : List UInt8) : firstL (c :: r) = if isLet c then (0, spanL isLD (c :: r), true) else if isDig c then (1, spanL isDig (c :: r), decide (spanL isDig (c :: r) ≤ 18)) else match signL (c :: r) with
      | some n => (2, n, true)
      | none => (0, 0, false) := rfl
theorem signs_pos : ∀ g ∈ signsL, 1 ≤ g.length ∧ g.length ≤ 2 := by decide
theorem signL_pos {l : List UInt8} {n : Nat} (h : signL l = some n) : 1 ≤ n ∧ n ≤ l.length := by
  unfold signL at h
  obtain ⟨g, hg, rfl⟩ := Option.map_eq_some_iff.1 h
  refine ⟨(signs_pos g (List.mem_of_find?_eq_some hg)).1, ?_⟩
  have := List.find?_some hg
  exact (List.isPrefixOf_iff_prefix.1 this).length_le
theorem let_ld {c : UInt8} (h : isLet c = true) : isLD c = true := by unfold isLet at h; unfold isLD; rw [h]; rfl
theorem firstL_pos {c : UInt8} {r : List UInt8} (h : (firstL (c :: r)).2.2 = true) : 1 ≤ (firstL (c :: r)).2.1 := by
  rw [firstL_cons] at h ⊢
  split
  · rename_i g
    show 1 ≤ spanL isLD (c :: r)
    rw [spanL_cons, if_pos (let_ld g)]
    omega
  · split
    · rename_i g
      show 1 ≤ spanL isDig (c :: r)
      rw [spanL_cons, if_pos g]
      omega
    · rename_i g1 g2
      rw [if_neg g1, if_neg g2] at h
      split
      · rename_i n hn
        exact (signL_pos hn).1
      · rename_i hn
        rw [hn] at h
        cases h
theorem firstL_le (l : List UInt8) : (firstL l).2.1 ≤ l.length := by
  unfold firstL
  split
  · exact Nat.le_refl _
  · rename_i c r
    split
    · exact spanL_le _ _
    · split
      · exact spanL_le _ _
      · split
        · rename_i n hn
          exact (signL_pos hn).2
        · exact Nat.zero_le _

/-- A token: its kind, its text, where it begins. -/
abbrev Tok := Nat × List UInt8 × Nat
inductive LexAns where
  | bad (at_ : Nat)
  | ok (l : List Tok)
def LexAns.push (t : Tok) : LexAns → LexAns
  | .bad a => .bad a
  | .ok l => .ok (t :: l)
def LexAns.pre (ts : List Tok) : LexAns → LexAns
  | .bad a => .bad a
  | .ok l => .ok (ts ++ l)
theorem LexAns.pre_nil (x : LexAns) : x.pre [] = x := by cases x <;> rfl
theorem LexAns.pre_push (ts : List Tok) (t : Tok) (x : LexAns) : (x.push t).pre ts = x.pre (ts ++ [t]) := by
  cases x <;> simp [LexAns.pre, LexAns.push]

/-- The tokens of a text that begins at a place. -/
def lexR (l : List UInt8) (a : Nat) : LexAns :=
  if _h : blanksL l < l.length then
    if _h2 : (firstL (l.drop (blanksL l))).2.2 = true then
      (lexR ((l.drop (blanksL l)).drop (firstL (l.drop (blanksL l))).2.1) (a + blanksL l + (firstL (l.drop (blanksL l))).2.1)).push ((firstL (l.drop (blanksL l))).1, (l.drop (blanksL l)).take (firstL (l.drop (blanksL l))).2.1, a + blanksL l)
    else .bad (a + blanksL l)
  else .ok [(3, [], a + l.length)]
termination_by l.length
decreasing_by
  have e : 1 ≤ (firstL (l.drop (blanksL l))).2.1 := by
    cases q : l.drop (blanksL l) with
    | nil => have := List.length_drop (i := blanksL l) (l := l); rw [q] at this; simp at this; omega
    | cons c r => rw [q] at _h2; exact firstL_pos _h2
  rw [List.length_drop, List.length_drop]
  omega

theorem lexR_end {l : List UInt8} {a : Nat} (h : blanksL l = l.length) : lexR l a = .ok [(3, [], a + l.length)] := by
  rw [lexR, dif_neg (by omega)]
theorem lexR_nil (a : Nat) : lexR [] a = .ok [(3, [], a)] := by
  rw [lexR_end (by rw [blanksL_nil]; rfl)]
  rfl
theorem lexR_tok {l : List UInt8} {a : Nat} {c : UInt8} {r : List UInt8} (h : l.drop (blanksL l) = c :: r) (h2 : (firstL (c :: r)).2.2 = true) :
    lexR l a = (lexR ((c :: r).drop (firstL (c :: r)).2.1) (a + blanksL l + (firstL (c :: r)).2.1)).push ((firstL (c :: r)).1, (c :: r).take (firstL (c :: r)).2.1, a + blanksL l) := by
  have hl : blanksL l < l.length := by
    have := List.length_drop (i := blanksL l) (l := l)
    rw [h, List.length_cons] at this
    omega
  rw [lexR, dif_pos hl, h, dif_pos h2]
theorem lexR_bad {l : List UInt8} {a : Nat} {c : UInt8} {r : List UInt8} (h : l.drop (blanksL l) = c :: r) (h2 : (firstL (c :: r)).2.2 = false) : lexR l a = .bad (a + blanksL l) := by
  have hl : blanksL l < l.length := by
    have := List.length_drop (i := blanksL l) (l := l)
    rw [h, List.length_cons] at this
    omega
  rw [lexR, dif_pos hl, h, dif_neg (by simp [h2])]

/-- Blanks ahead are passed over. -/
theorem lexR_pass {l m : List UInt8} {a k : Nat} (hd : l.drop k = m) (hk : k ≤ l.length) (hb : blanksL l = k + blanksL m) : lexR l a = lexR m (a + k) := by
  have e : l.drop (blanksL l) = m.drop (blanksL m) := by rw [hb, ← hd, List.drop_drop]
  have hlen : m.length = l.length - k := by rw [← hd, List.length_drop]
  have le := blanksL_le l
  cases q : m.drop (blanksL m) with
  | nil =>
    have h1 : blanksL m = m.length := by
      have := List.length_drop (i := blanksL m) (l := m)
      have := blanksL_le m
      rw [q] at *
      simp at *
      omega
    rw [lexR_end (l := m) h1, lexR_end (l := l) (by omega)]
    congr 4
    omega
  | cons c r =>
    have q' : l.drop (blanksL l) = c :: r := e.trans q
    cases f : (firstL (c :: r)).2.2 with
    | true =>
      rw [lexR_tok q' f, lexR_tok q f, hb]
      simp only [Nat.add_assoc]
    | false =>
      rw [lexR_bad q' f, lexR_bad q f, hb]
      simp only [Nat.add_assoc]
theorem lexR_blk {c : UInt8} {r : List UInt8} {a : Nat} (h : isBlk c = true) : lexR (c :: r) a = lexR r (a + 1) :=
  lexR_pass rfl (by simp) (by rw [blanksL_blk h]; omega)
theorem lexR_cmt {r : List UInt8} {a : Nat} : lexR (35 :: r) a = lexR (r.drop (spanL notNl r)) (a + (spanL notNl r + 1)) := by
  refine lexR_pass (by rw [List.drop_succ_cons]) (by have := spanL_le notNl r; simp; omega) ?_
  rw [blanksL_cmt]
  omega
theorem lexR_here {c : UInt8} {r : List UInt8} {a : Nat} (h : isBlk c = false) (h35 : (c == 35) = false) (h2 : (firstL (c :: r)).2.2 = true) :
    lexR (c :: r) a = (lexR ((c :: r).drop (firstL (c :: r)).2.1) (a + (firstL (c :: r)).2.1)).push ((firstL (c :: r)).1, (c :: r).take (firstL (c :: r)).2.1, a) := by
  have e := blanksL_no (r := r) h h35
  have := lexR_tok (l := c :: r) (a := a) (by rw [e]; rfl) h2
  rw [e] at this
  simpa using this
theorem lexR_fault {c : UInt8} {r : List UInt8} {a : Nat} (h : isBlk c = false) (h35 : (c == 35) = false) (h2 : (firstL (c :: r)).2.2 = false) : lexR (c :: r) a = .bad a := by
  have e := blanksL_no (r := r) h h35
  have := lexR_bad (l := c :: r) (a := a) (by rw [e]; rfl) h2
  rw [e] at this
  simpa using this

/-- The sign at the beginning, as the reference finds it. -/
theorem signL_eq (c : UInt8) (r : List UInt8) : signL (c :: r) = if (c = 61 ∧ r.head? = some 61) ∨ (c = 45 ∧ r.head? = some 62) then some 2 else if c ∈ singlesL then some 1 else none := by
  have one : ∀ x : UInt8, List.isPrefixOf [x] (c :: r) = (x == c) := fun x => by simp [List.isPrefixOf]
  have two : ∀ x y : UInt8, List.isPrefixOf [x, y] (c :: r) = (x == c && r.head? == some y) := fun x y => by
    cases r with
    | nil => simp [List.isPrefixOf]
    | cons z r => simp [List.isPrefixOf, Bool.beq_eq_decide_eq, eq_comm]
  unfold signL signsL
  simp only [List.find?_cons, one, two, List.find?_nil]
  by_cases h : (c = 61 ∧ r.head? = some 61) ∨ (c = 45 ∧ r.head? = some 62)
  · rw [if_pos h]
    rcases h with ⟨rfl, h⟩ | ⟨rfl, h⟩ <;> simp [h]
  · rw [if_neg h]
    by_cases hm : c ∈ singlesL
    · rw [if_pos hm]
      simp only [singlesL, List.mem_cons, List.not_mem_nil, or_false] at hm
      rcases hm with rfl | rfl | rfl | rfl | rfl | rfl | rfl | rfl | rfl | rfl | rfl | rfl | rfl | rfl | rfl | rfl <;> simp at h ⊢ <;> rw [beq_eq_false_iff_ne.2 h] <;> simp
    · rw [if_neg hm]
      simp only [singlesL, List.mem_cons, List.not_mem_nil, or_false, not_or] at hm
      have : ∀ x : UInt8, ¬ c = x → (x == c) = false := fun x hx => by simpa using fun e => hx e.symm
      obtain ⟨g1, g2, g3, g4, g5, g6, g7, g8, g9, g10, g11, g12, g13, g14, g15, g16⟩ := hm
      simp [this _ g1, this _ g2, this _ g3, this _ g4, this _ g5, this _ g6, this _ g7, this _ g8, this _ g9, this _ g10, this _ g11, this _ g12, this _ g13, this _ g14, this _ g15, this _ g16]
end Go.Proofs.YthihdddlneclmaaDoor

namespace Go.Proofs.YthihdddlneclmaaDoor
open Go.RowKit

/-! ### Steps of a region that draws -/
theorem cl.{u} {α : Type u} : (∀ (xs : List α) (i : Nat) (h : i < xs.toArray.size), xs.toArray[i] = xs[i]'(by simpa using h)) ∧ (∀ (a : α) (ys : List α) (i : Nat) (h : i + 1 < (a :: ys).length), (a :: ys)[i + 1] = ys[i]'(Nat.lt_of_succ_lt_succ h)) ∧ (∀ (a : α) (ys : List α) (h : 0 < (a :: ys).length), (a :: ys)[0]'h = a) ∧ (∀ (xs : List α) (i : Nat) (v : α), xs.toArray.setIfInBounds i v = (xs.set i v).toArray) ∧ (∀ (a v : α) (ys : List α), (a :: ys).set 0 v = v :: ys) ∧ ∀ (a v : α) (ys : List α) (i : Nat), (a :: ys).set (i + 1) v = a :: ys.set i v :=
  ⟨fun _ _ _ => List.getElem_toArray _, fun _ _ _ _ => rfl, fun _ _ _ => rfl, fun _ _ _ => List.setIfInBounds_toArray _ _ _, fun _ _ _ => rfl, fun _ _ _ _ => rfl⟩
section
variable {P : Program} {ops : Array Oper} {Q : Exit → Act → World → Prop} {md : Region.Mode} {S : World → Prop} {fuel : Nat} {listed : Array Bool} {a : Act} {w : World}
/-- A read is taken. -/
theorem tk (i : Nat) {oi : Oper} (hi : ops[i]? = some oi) {v : Value} (h : wpAnyH P md ops Q S fuel (listed.setIfInBounds i true) (a.put oi.dst v) w) (hy : ∀ w' : World, S w' → Sem.run P (execOp a.eval oi) w' = .ok (.value v) w' := by intro _ hS_; (try dsimp only at hS_); go_simp <;> with_reducible rfl)
    (hs : Region.noSelect ops = true := by kernel_rfl) (hf : Region.free md ops listed i = true := by kernel_rfl) (hr : (Region.ready md ops listed).contains i = true := by kernel_rfl) (hQ : ∀ c a w, Q (.panic c) (a.put oi.dst v) w → Q (.panic c) a w := by exact fun _ _ _ h => h) (hn : Region.wanted oi (yielded ops a.tmps) = true := by rfl) (hS : S w := by assumption) : wpAnyH P md ops Q S (fuel + 1) listed a w :=
  wpAnyH_take hi hs hf hr hQ (.inl ⟨hn, hy⟩) hS h
/-- One alone may come up. -/
theorem rd (i : Nat) {o : Oper} (ho : ops[i]? = some o) (h : ∀ K' : Act → World → Prop, Shut (∀ a w, S w → (S w → wpAnyH P md ops Q S fuel (listed.setIfInBounds i true) a w) → K' a w) → if Region.wanted o (yielded ops a.tmps) = true then Oper.wp P o a w K' Q else K' (a.put o.dst undef) w)
    (hr : Region.ready md ops listed = [i] := by kernel_rfl) : wpAnyH P md ops Q S (fuel + 1) listed a w := wpAnyH_ready hr (by simp) (AllReadyH.cons ho h AllReadyH.nil)
/-- What its guard keeps from running. -/
theorem tx (i : Nat) {oi : Oper} (hi : ops[i]? = some oi) (h : wpAnyH P md ops Q S fuel (listed.setIfInBounds i true) (a.put oi.dst undef) w)
    (hs : Region.noSelect ops = true := by kernel_rfl) (hf : Region.free md ops listed i = true := by kernel_rfl) (hr : (Region.ready md ops listed).contains i = true := by kernel_rfl) (hQ : ∀ c a w, Q (.panic c) (a.put oi.dst undef) w → Q (.panic c) a w := by exact fun _ _ _ h => h) (hn : Region.wanted oi (yielded ops a.tmps) = false := by rfl) (hS : S w := by assumption) : wpAnyH P md ops Q S (fuel + 1) listed a w :=
  wpAnyH_take hi hs hf hr hQ (.inr ⟨hn, rfl⟩) hS h
end

theorem block_of_add (a : Addr) (n : Nat) : (a.add n).block = a.block := by unfold Addr.add; split <;> rfl
theorem add_of_add (a : Addr) (i j : Nat) : (a.add i).add j = a.add (i + j) := by
  unfold Addr.add
  by_cases hi : i = 0 <;> by_cases hj : j = 0 <;> simp [hi, hj, Nat.add_assoc]

def Reads (w : World) (B size : Nat) (A : Option Addr) (n : Nat) (xs : List Value) : Prop :=
  xs.length = n * size ∧ (0 < n → ∃ ad, A = some ad ∧ ad.block < B ∧ ∀ j u, xs[j]? = some u → w.cell? (ad.add j) = some u)

section
variable {w w' : World} {B B' size n : Nat} {A : Option Addr} {xs : List Value}
theorem Reads.none_ : Reads w B size A 0 [] := ⟨by simp, fun h => absurd h (by omega)⟩
theorem Reads.at_ {k : Nat} (h : Reads w B 1 A n xs) (hk : k < n) : ∃ ad u, A = some ad ∧ ad.block < B ∧ xs[k]? = some u ∧ w.cell? (ad.add k) = some u := by
  obtain ⟨ad, e, hb, hc⟩ := h.2 (by omega)
  have hl : k < xs.length := by have := h.1; omega
  exact ⟨ad, xs[k], e, hb, List.getElem?_eq_getElem hl, hc k _ (List.getElem?_eq_getElem hl)⟩
theorem Reads.keep (h : Reads w B size A n xs) (hk : ∀ p : Addr, p.block < B → w'.cell? p = w.cell? p) : Reads w' B size A n xs :=
  ⟨h.1, fun hn => by
    obtain ⟨ad, e, hb, hc⟩ := h.2 hn
    exact ⟨ad, e, hb, fun j u hu => (hk _ (by rw [block_of_add]; exact hb)).trans (hc j u hu)⟩⟩
theorem Reads.more (h : Reads w B size A n xs) (hB : B ≤ B') : Reads w B' size A n xs :=
  ⟨h.1, fun hn => by
    obtain ⟨ad, e, hb, hc⟩ := h.2 hn
    exact ⟨ad, e, by omega, hc⟩⟩
theorem Reads.below (h : Reads w B size A n xs) (hb : Below B w w') : Reads w' B size A n xs := h.keep fun _ hp => hb.cell hp
theorem Reads.drew (h : Reads w B size A n xs) : Reads w.drew B size A n xs := h
theorem Reads.drewN (h : Reads w B size A n xs) (k : Nat) : Reads (w.drewN k) B size A n xs := h
theorem Reads.alloc (h : Reads w B size A n xs) (hB : B ≤ w.heap.size) (o : Obj) : Reads (w.alloc o) B size A n xs := h.keep fun p hp => World.cell?_alloc_lt w o p (by omega)
theorem Reads.setCell (h : Reads w B size A n xs) {p : Addr} (hB : B ≤ p.block) (u : Value) : Reads (w.setCell p u) B size A n xs :=
  h.keep fun q hq => World.cell?_setCell_other w p q u (fun e => by subst e; omega)
theorem Reads.grown (h : Reads w B size A n xs) {row : Option Nat} (hg : w.grownBy w' row) (hB : B ≤ w.heap.size) (hr : ∀ g, row = some g → B ≤ g) : Reads w' B size A n xs :=
  h.keep fun p hp => World.cell?_of_block (hg.block p.block (by omega) (fun e => by have := hr _ e.symm; omega))
theorem Reads.cut (h : Reads w B size A n xs) {k cap : Nat} (hk : k ≤ n) (hc : n ≤ cap) :
    Reads w B size (if cap = k then A else A.map (·.add (k * size))) (n - k) (xs.drop (k * size)) := by
  refine ⟨by rw [List.length_drop, h.1, Nat.sub_mul], fun hn => ?_⟩
  obtain ⟨ad, rfl, hb, hcell⟩ := h.2 (by omega)
  rw [if_neg (by omega)]
  refine ⟨ad.add (k * size), rfl, by rw [block_of_add]; exact hb, fun j u hu => ?_⟩
  rw [add_of_add]
  exact hcell _ u (by rw [← hu, List.getElem?_drop])
theorem Reads.of_own {base : Nat} {e : TypeId} {c : Nat} (h : w.ownsRow base e size (.slice A n c) n xs) : Reads w w.heap.size size A n xs := by
  refine ⟨h.1, fun hn => ?_⟩
  obtain ⟨g, cap, hv, _, hlt⟩ := h.form hn
  have hA : A = some ⟨g, 0, none⟩ := by injection hv
  subst hA
  exact ⟨_, rfl, hlt, h.cells (g := g) rfl⟩
end

section
variable {P : Program} (w : World)

theorem run_append_of_nil (base : Nat) (t ty e : TypeId) (i : TypeInfo) (size : Nat) (ht : P.underlying t = some (.slice e)) (hi : P.info? e = some i)
    (v : Value) (n : Nat) (xs : List Value) (hown : w.ownsRow base e size v n xs) (c : Nat) : (Builtin.append_ #[t, t] ty #[v, .slice none 0 c]).run P w = .ok v w := by
  rcases hown.2 with ⟨rfl, rfl⟩ | ⟨g, cap, cur, rfl, _, _, hnc, _⟩
  · simp [Builtin.append_, run_underlying ht, sizeOf, typeInfo, hi, Builtin.lenOf, Builtin.firstCells]
  · simp [Builtin.append_, run_underlying ht, sizeOf, typeInfo, hi, Builtin.lenOf, Builtin.firstCells, hnc, storeCells]

theorem run_append_any (base : Nat) (t ty e : TypeId) (i : TypeInfo) (z : Value) (size bytes : Nat) (ht : P.underlying t = some (.slice e)) (hi : P.info? e = some i) (hz : i.zero = some z)
    (hsize : i.size = size) (hby : i.bytes = bytes) (hzs : z.cells.size = size) (hsz : 0 < size)
    (v : Value) (n : Nat) (xs : List Value) (hown : w.ownsRow base e size v n xs)
    (B : Nat) (A : Option Addr) (m c : Nat) (news : List Value) (hr : Reads w B size A m news) (h1 : ∀ u ∈ news, u.oneCell' = true)
    (h63 : n + m ≤ maxLen) (hbytes : (n + m) * bytes ≤ 140737488355328) (hbase : base ≤ w.heap.size) :
    ∃ v' w', (Builtin.append_ #[t, t] ty #[v, .slice A m c]).run P w = .ok v' w' ∧ w'.ownsRow base e size v' (n + m) (xs ++ news) ∧ w.grownBy w' v.ownBlock ∧
      (v'.ownBlock = v.ownBlock ∨ v'.ownBlock = some w.heap.size) := by
  rcases A with _ | ad
  · have hm : m = 0 := by
      rcases Nat.eq_zero_or_pos m with h0 | h0
      · exact h0
      · obtain ⟨ad, h, _⟩ := hr.2 h0
        cases h
    subst hm
    have hn : news = [] := List.eq_nil_of_length_eq_zero (by simpa using hr.1)
    subst hn
    exact ⟨v, w, run_append_of_nil w base t ty e i size ht hi v n xs hown c, by simpa using hown, World.grownBy.refl w _, .inl rfl⟩
  · have hcells : ∀ j u, news[j]? = some u → w.cell? (ad.add j) = some u := by
      intro j u hu
      rcases Nat.eq_zero_or_pos m with h0 | h0
      · subst h0
        have hn : news = [] := List.eq_nil_of_length_eq_zero (by simpa using hr.1)
        subst hn
        simp at hu
      · obtain ⟨ad', h, _, hc⟩ := hr.2 h0
        injection h with h
        subst h
        exact hc j u hu
    obtain ⟨v', w', hrun, h2, h3, _, h5⟩ := run_append_own_at (P := P) w base t ty e i z size bytes ht hi hz hsize hby hzs hsz v n xs hown ad m c news hr.1 hcells h1 h63 hbytes hbase
    exact ⟨v', w', hrun, h2, h3, h5⟩

theorem wp_append_any {o : Oper} {a : Act} {K : Act → World → Prop} {Q : Exit → Act → World → Prop} (s x : Operand) (t : TypeId)
    (ho : o.op = .call { callee := .builtin .append, args := #[s, x], argTypes := #[t, t] })
    (base : Nat) (e : TypeId) (i : TypeInfo) (z : Value) (size bytes : Nat) (ht : P.underlying t = some (.slice e)) (hi : P.info? e = some i) (hz : i.zero = some z)
    (hsize : i.size = size) (hby : i.bytes = bytes) (hzs : z.cells.size = size) (hsz : 0 < size)
    (v : Value) (n : Nat) (xs : List Value) (hs : a.eval s = v) (hown : w.ownsRow base e size v n xs)
    (B : Nat) (A : Option Addr) (m c : Nat) (news : List Value) (hx : a.eval x = .slice A m c) (hr : Reads w B size A m news) (h1 : ∀ u ∈ news, u.oneCell' = true)
    (h63 : n + m ≤ maxLen) (hbytes : (n + m) * bytes ≤ 140737488355328) (hbase : base ≤ w.heap.size)
    (h : ∀ v' w', w'.ownsRow base e size v' (n + m) (xs ++ news) → w.grownBy w' v.ownBlock → (v'.ownBlock = v.ownBlock ∨ v'.ownBlock = some w.heap.size) → K (a.put o.dst v') w') : o.wp P a w K Q := by
  obtain ⟨v', w', hrun, h2, h3, h4⟩ := run_append_any (P := P) w base t o.type e i z size bytes ht hi hz hsize hby hzs hsz v n xs hown B A m c news hr h1 h63 hbytes hbase
  unfold Oper.wp execOp
  simp only [ho, resolve, invoke, builtin, Sem.run_bind, Sem.run_pure, Result.andThen_ok, List.map_toArray, List.map_cons, List.map_nil, hs, hx, hrun]
  exact h v' w' h2 h3 h4

theorem wpList_append_any {ops : Array Oper} {rest : List Oper} {o : Oper} {a : Act} {Q : Exit → Act → World → Prop} (hgd : o.guard = none) (s x : Operand) (t : TypeId)
    (ho : o.op = .call { callee := .builtin .append, args := #[s, x], argTypes := #[t, t] })
    (base : Nat) (e : TypeId) (i : TypeInfo) (z : Value) (size bytes : Nat) (ht : P.underlying t = some (.slice e)) (hi : P.info? e = some i) (hz : i.zero = some z)
    (hsize : i.size = size) (hby : i.bytes = bytes) (hzs : z.cells.size = size) (hsz : 0 < size)
    (v : Value) (n : Nat) (xs : List Value) (hs : a.eval s = v) (hown : w.ownsRow base e size v n xs)
    (B : Nat) (A : Option Addr) (m c : Nat) (news : List Value) (hx : a.eval x = .slice A m c) (hr : Reads w B size A m news) (h1 : ∀ u ∈ news, u.oneCell' = true)
    (h63 : n + m ≤ maxLen) (hbytes : (n + m) * bytes ≤ 140737488355328) (hbase : base ≤ w.heap.size)
    (h : ∀ v' w', w'.ownsRow base e size v' (n + m) (xs ++ news) → w.grownBy w' v.ownBlock → (v'.ownBlock = v.ownBlock ∨ v'.ownBlock = some w.heap.size) → wpList P ops Q rest (a.put o.dst v') w') : wpList P ops Q (o :: rest) a w :=
  wpList_plain hgd fun _ hK => wp_append_any w s x t ho base e i z size bytes ht hi hz hsize hby hzs hsz v n xs hs hown B A m c news hx hr h1 h63 hbytes hbase fun v' w' h2 h3 h4 => hK _ _ (h v' w' h2 h3 h4)

theorem step_append_any {ops : Array Oper} {o : Oper} {a : Act} {K : Act → World → Prop} {Q : Exit → Act → World → Prop} {E : Prop} (hgd : o.guard = none) (s x : Operand) (t : TypeId)
    (ho : o.op = .call { callee := .builtin .append, args := #[s, x], argTypes := #[t, t] })
    (base : Nat) (e : TypeId) (i : TypeInfo) (z : Value) (size bytes : Nat) (ht : P.underlying t = some (.slice e)) (hi : P.info? e = some i) (hz : i.zero = some z)
    (hsize : i.size = size) (hby : i.bytes = bytes) (hzs : z.cells.size = size) (hsz : 0 < size)
    (v : Value) (n : Nat) (xs : List Value) (hs : a.eval s = v) (hown : w.ownsRow base e size v n xs)
    (B : Nat) (A : Option Addr) (m c : Nat) (news : List Value) (hx : a.eval x = .slice A m c) (hr : Reads w B size A m news) (h1 : ∀ u ∈ news, u.oneCell' = true)
    (h63 : n + m ≤ maxLen) (hbytes : (n + m) * bytes ≤ 140737488355328) (hbase : base ≤ w.heap.size)
    (h : ∀ v' w', w'.ownsRow base e size v' (n + m) (xs ++ news) → w.grownBy w' v.ownBlock → (v'.ownBlock = v.ownBlock ∨ v'.ownBlock = some w.heap.size) → K (a.put o.dst v') w') :
    if Region.wanted o (yielded ops a.tmps) = true then Oper.wp P o a w K Q else E := by
  have hw : Region.wanted o (yielded ops a.tmps) = true := by simp [Region.wanted, hgd]
  rw [if_pos hw]
  exact wp_append_any w s x t ho base e i z size bytes ht hi hz hsize hby hzs hsz v n xs hs hown B A m c news hx hr h1 h63 hbytes hbase h
end
end Go.Proofs.YthihdddlneclmaaDoor

namespace Go.Proofs.YthihdddlneclmaaDoor
open Go.RowKit

theorem ret_int {k : IntKind} {a b : Int} (h : a = b) : Ending.returned (.int k a) = .returned (.int k b) := by rw [h]
theorem ret_bool {a b : Bool} (h : a = b) : Ending.returned (.bool a) = .returned (.bool b) := by rw [h]
/-- A text as a value. -/
abbrev txt (s : List UInt8) : Value := .string ⟨s.toArray⟩
/-- Nothing has turned. -/
def Still (w : World) (v : Value) (e : Ending) (w' : World) : Prop := e = .returned v ∧ w = w'

theorem byte_at {s : ByteArray} {k : Nat} (h : k < s.size) : s.data.toList[k]? = some s[k] := by
  rw [List.getElem?_eq_getElem (by simpa using h)]
  rfl
theorem drop_all {s : ByteArray} {k : Nat} (h : s.size ≤ k) : s.data.toList.drop k = [] := List.drop_eq_nil_of_le (by simpa using h)
theorem len_of (s : ByteArray) : s.data.toList.length = s.size := by simp

set_option maxHeartbeats 1000000 in
theorem letter_any (n : Nat) (w : World) :
    Calls Tryd.prog 53 #[.int .u8 n] w (Still w (.bool (letN n))) := by
  unfold letN
  go_enter Tryd.func53, Tryd.ntmps53
  go_wp2_with fail
  all_goals
    go_ret
    exact ⟨ret_bool (by
      rw [Bool.eq_iff_iff]
      simp only [Bool.or_eq_true, Bool.and_eq_true, decide_eq_true_eq]
      first | omega | (simp; omega)), rfl⟩

set_option maxHeartbeats 1000000 in
theorem digit_any (n : Nat) (w : World) :
    Calls Tryd.prog 73 #[.int .u8 n] w (Still w (.bool (digN n))) := by
  unfold digN
  go_enter Tryd.func73, Tryd.ntmps73
  go_wp2_with fail
  all_goals
    go_ret
    exact ⟨ret_bool (by
      rw [Bool.eq_iff_iff]
      simp only [Bool.and_eq_true, decide_eq_true_eq]
      first | omega | (simp; omega)), rfl⟩



set_option maxHeartbeats 1000000 in
theorem ld_any (n : Nat) (w : World) :
    Calls Tryd.prog 55 #[.int .u8 n] w (Still w (.bool (letN n || digN n))) := by
  have la := fun w => letter_any n w
  have da := fun w => digit_any n w
  generalize letN n = L at *
  generalize digN n = D at *
  cases L
  all_goals
    go_enter Tryd.func55, Tryd.ntmps55
    go_wp2_with (first
      | (go_at_call 53; (with_reducible refine (la _).mono ?_); rintro e w1 ⟨rfl, rfl⟩)
      | (go_at_call 73; (with_reducible refine (da _).mono ?_); rintro e w1 ⟨rfl, rfl⟩))
    go_ret
    exact ⟨rfl, rfl⟩

theorem isLD_eq (c : UInt8) : (letN c.toNat || digN c.toNat) = isLD c := rfl
theorem isDig_eq (c : UInt8) : digN c.toNat = isDig c := rfl
theorem isLet_eq (c : UInt8) : letN c.toNat = isLet c := rfl
theorem byte_eq (c d : UInt8) : decide (c.toNat = d.toNat) = (c == d) := by
  rw [Bool.eq_iff_iff]
  simp [UInt8.toNat_inj]
theorem ld_cases {c : UInt8} (h : isLD c = true) : isLet c = true ∨ (isLet c = false ∧ isDig c = true) := by
  have e : isLD c = (isLet c || isDig c) := rfl
  rw [e] at h
  generalize isLet c = a at *
  generalize isDig c = b at *
  clear e
  revert h
  revert a b
  decide
theorem ld_not {c : UInt8} (h : isLD c = false) : isLet c = false ∧ isDig c = false := by
  have e : isLD c = (isLet c || isDig c) := rfl
  rw [e] at h
  generalize isLet c = a at *
  generalize isDig c = b at *
  clear e
  revert h
  revert a b
  decide
theorem notNl_eq (c : UInt8) : (!decide (c.toNat = 10)) = notNl c := by
  unfold notNl
  rw [← byte_eq c 10]
  rfl

set_option maxHeartbeats 2000000 in
theorem span_ld (s : ByteArray) (w : World) (hs : s.size ≤ maxLen) :
    Calls Tryd.prog 54 #[.string s, .func (.func 55) #[] #[]] w (Still w (.int .i64 (spanL isLD s.data.toList))) := by
  unfold maxLen at hs
  obtain ⟨z, hz⟩ : ∃ z, z = spanL isLD s.data.toList := ⟨_, rfl⟩
  rw [← hz]
  have HZ := Lib.hid hz
  clear hz
  go_enter Tryd.func54, Tryd.ntmps54
  go_wp2_with fail
  go_loopg [5] s.size (fun g v5 wr => ∃ k : Nat, v5 = .int .i64 k ∧ k ≤ s.size ∧ g = s.size - k ∧ z = k + spanL isLD (s.data.toList.drop k) ∧ wr = w)
  case atStart => exact ⟨0, rfl, Nat.zero_le _, rfl, by rw [HZ.out]; simp, rfl⟩
  case round =>
    obtain ⟨k, rfl, hk, hg, hall, rfl⟩ := hrel
    have HA := Lib.hid hall
    clear hall
    by_cases hlt : k < s.size
    · have ca := fun w => ld_any s[k].toNat w
      have ce := isLD_eq s[k]
      have hb := byte_at hlt
      have HN := Lib.hid (fun hp => spanL_no (p := isLD) hb hp)
      have HY := Lib.hid (fun hp => spanL_yes (p := isLD) hb hp)
      rw [ce] at ca
      have i1 : (k : Int) < (s.size : Int) := by omega
      have i2 : (0 : Int) ≤ (k : Int) := by omega
      have wk : IntKind.i64.wrap ((k : Int) + 1) = (k : Int) + 1 := IntWalk.i64_in _ (by omega)
      have CA := Lib.hid ca
      have HK := Lib.hid (And.intro hlt hg)
      clear ca ce hb hg
      generalize isLD s[k] = R at *
      cases R
      · go_wp2_with (go_at_call 55; (with_reducible refine (CA.out _).mono ?_); rintro e w1 ⟨rfl, rfl⟩)
        go_ret
        exact ⟨ret_int (by have := HA.out; rw [HN.out trivial] at this; omega), rfl⟩
      · go_wp2_with (go_at_call 55; (with_reducible refine (CA.out _).mono ?_); rintro e w1 ⟨rfl, rfl⟩)
        go_roundg (s.size - (k + 1))
        case measure => have := HK.out; omega
        case rel => exact ⟨k + 1, by push_cast; rfl, by have := HK.out; omega, rfl, by have := HA.out; rw [HY.out trivial] at this; omega, rfl⟩
    · obtain rfl : k = s.size := by omega
      have HO := Lib.hid (spanL_off (p := isLD) (Nat.le_of_eq (len_of s)))
      clear hg hk hlt
      go_wp2_with fail
      go_ret
      exact ⟨ret_int (by have := HA.out; rw [HO.out] at this; omega), rfl⟩

set_option maxHeartbeats 2000000 in
theorem span_dig (s : ByteArray) (w : World) (hs : s.size ≤ maxLen) :
    Calls Tryd.prog 54 #[.string s, .func (.func 73) #[] #[]] w (Still w (.int .i64 (spanL isDig s.data.toList))) := by
  unfold maxLen at hs
  obtain ⟨z, hz⟩ : ∃ z, z = spanL isDig s.data.toList := ⟨_, rfl⟩
  rw [← hz]
  have HZ := Lib.hid hz
  clear hz
  go_enter Tryd.func54, Tryd.ntmps54
  go_wp2_with fail
  go_loopg [5] s.size (fun g v5 wr => ∃ k : Nat, v5 = .int .i64 k ∧ k ≤ s.size ∧ g = s.size - k ∧ z = k + spanL isDig (s.data.toList.drop k) ∧ wr = w)
  case atStart => exact ⟨0, rfl, Nat.zero_le _, rfl, by rw [HZ.out]; simp, rfl⟩
  case round =>
    obtain ⟨k, rfl, hk, hg, hall, rfl⟩ := hrel
    have HA := Lib.hid hall
    clear hall
    by_cases hlt : k < s.size
    · have ca := fun w => digit_any s[k].toNat w
      have ce := isDig_eq s[k]
      have hb := byte_at hlt
      have HN := Lib.hid (fun hp => spanL_no (p := isDig) hb hp)
      have HY := Lib.hid (fun hp => spanL_yes (p := isDig) hb hp)
      rw [ce] at ca
      have i1 : (k : Int) < (s.size : Int) := by omega
      have i2 : (0 : Int) ≤ (k : Int) := by omega
      have wk : IntKind.i64.wrap ((k : Int) + 1) = (k : Int) + 1 := IntWalk.i64_in _ (by omega)
      have CA := Lib.hid ca
      have HK := Lib.hid (And.intro hlt hg)
      clear ca ce hb hg
      generalize isDig s[k] = R at *
      cases R
      · go_wp2_with (go_at_call 73; (with_reducible refine (CA.out _).mono ?_); rintro e w1 ⟨rfl, rfl⟩)
        go_ret
        exact ⟨ret_int (by have := HA.out; rw [HN.out trivial] at this; omega), rfl⟩
      · go_wp2_with (go_at_call 73; (with_reducible refine (CA.out _).mono ?_); rintro e w1 ⟨rfl, rfl⟩)
        go_roundg (s.size - (k + 1))
        case measure => have := HK.out; omega
        case rel => exact ⟨k + 1, by push_cast; rfl, by have := HK.out; omega, rfl, by have := HA.out; rw [HY.out trivial] at this; omega, rfl⟩
    · obtain rfl : k = s.size := by omega
      have HO := Lib.hid (spanL_off (p := isDig) (Nat.le_of_eq (len_of s)))
      clear hg hk hlt
      go_wp2_with fail
      go_ret
      exact ⟨ret_int (by have := HA.out; rw [HO.out] at this; omega), rfl⟩


/-- Is a byte in a text? -/
def inL (n : Nat) (l : List UInt8) : Bool := l.any fun c => decide (c.toNat = n)
end Go.Proofs.YthihdddlneclmaaDoor

namespace Go.Proofs.YthihdddlneclmaaDoor
open Go.RowKit

/-- The table as a row lists it. -/
def strData {H : Type} (l : List (List UInt8)) : DataW H := .agg (l.map fun z => .lit (.string z))
/-- The block holds just these texts. -/
def StrRow (w : World) (g : Nat) (l : List (List UInt8)) : Prop := ∃ t fr, w.heap[g]? = some (.cells (l.map txt).toArray t fr)

theorem StrRow.below {w w' : World} {g : Nat} {l : List (List UInt8)} (h : StrRow w g l) (hb : Below w.heap.size w w') : StrRow w' g l := by
  obtain ⟨t, fr, e⟩ := h
  have hg : g < w.heap.size := by
    rcases Nat.lt_or_ge g w.heap.size with q | q
    · exact q
    · rw [Array.getElem?_eq_none q] at e; cases e
  exact ⟨t, fr, (hb.block g hg).trans e⟩

theorem cells_of_strs {H : Type} {enc : TypeId × Value → H} {P : Program} {w : World} {base : Nat} {sp : Nat → Bool} {held : Bool} {fuel : Nat} {t e : TypeId} {n : Nat} {cs : List Value} {zs : List (List UInt8)} {p : List MemPlace}
    (ht : P.underlying t = some (.array n e)) (he : P.underlying e = some .string) (hce : P.cellsOf e = 1) (hct : P.cellsOf t = n)
    (h : DataW.trod enc P w base sp held fuel t cs = some (strData zs, p)) : cs = zs.map txt := by
  cases fuel with
  | zero => simp [DataW.trod] at h
  | succ fuel =>
    simp only [DataW.trod, ht, hce, hct, Nat.mul_one] at h
    split at h
    · rename_i hl
      obtain ⟨xs, hm, hx⟩ := Option.map_eq_some_iff.1 h
      have hxs : xs.map (·.1) = zs.map fun z => (DataW.lit (.string z) : DataW H) := by
        have := congrArg Prod.fst hx
        simpa [strData] using this
      have hxl : xs.length = n := by simpa using Lib.mapM_length hm
      have hzl : zs.length = n := by
        have := congrArg List.length hxs
        simp at this
        omega
      apply List.ext_getElem?
      intro i
      by_cases hi : i < n
      · obtain ⟨b, hb, hf⟩ := Lib.mapM_at hm i i (by simp [hi])
        obtain ⟨z, hc, rfl, _⟩ := DataW.trod_string he hf
        have h1 : cs[i]? = some (.string z) := by
          have := congrArg (·[0]?) hc
          simpa [List.getElem?_take, List.getElem?_drop] using this
        have h2 : (xs.map (·.1))[i]? = some (DataW.lit (.string z.data.toList) : DataW H) := by simp [hb]
        rw [hxs] at h2
        simp only [List.getElem?_map, Option.map_eq_some_iff, DataW.lit.injEq, Lit.string.injEq] at h2
        obtain ⟨z', hz', rfl⟩ := h2
        simp [h1, hz', txt]
      · rw [List.getElem?_eq_none (by omega), List.getElem?_eq_none (by simp; omega)]
    · cases h

/-- From the row's condition: the table stands first on the list. -/
theorem strs_of_head {P : Program} {W : World} {name : String} {zs : List (List UInt8)} {rest : List (String × DataW Unit)} {g : Nat} {t e : TypeId} {n : Nat}
    (hg : P.globalNamed name = some g) (hty : (P.globals[g]?).map (·.type) = some t) (ht : P.underlying t = some (.array n e)) (he : P.underlying e = some .string) (hce : P.cellsOf e = 1) (hct : P.cellsOf t = n)
    (h : laidMet P ((name, strData zs) :: rest) W) : StrRow W g zs := by
  obtain ⟨ps, ⟨g', t', cs, fuel, p, q, hg', ht', hvar, hd, _, _⟩, _⟩ := h
  obtain rfl := Option.some.inj (hg.symm.trans hg')
  obtain rfl := Option.some.inj (hty.symm.trans ht')
  have hc := cells_of_strs ht he hce hct hd
  simp only [World.var?, hg, Option.bind_some] at hvar
  split at hvar
  · rename_i c ty fr hh
    have hvar := Option.some.inj hvar
    subst hvar
    exact ⟨ty, fr, by rw [hh, ← hc]⟩
  · cases hvar

def keysL : List (List UInt8) := [[112, 114, 111, 116, 111], [115, 116, 97, 116, 101], [102, 105, 110, 97, 108], [111, 112], [102, 110], [108, 101, 97, 115, 116], [97, 116], [116, 111], [105, 110], [108, 101, 116], [111, 112, 101, 110], [101, 108, 115, 101], [100, 111], [115, 112, 108, 105, 116], [99, 97, 108, 108], [105, 102], [119, 104, 105, 108, 101], [114, 101, 116, 117, 114, 110], [101, 120, 105, 116], [117, 110, 105, 113, 117, 101], [102, 117, 108, 108], [115, 104, 97, 114, 101], [105, 109, 109], [112, 117, 114, 101]]

theorem Tryd.gKeys : Tryd.prog.globalNamed "ballcock/lex.keywords" = some 3 := by kernel_rfl
theorem Tryd.gKeysType : (Tryd.prog.globals[3]?).map (·.type) = some 93 := by kernel_rfl
theorem Tryd.cellsS : Tryd.prog.cellsOf 9 = 1 := by kernel_rfl

end Go.Proofs.YthihdddlneclmaaDoor

namespace Go.Proofs.YthihdddlneclmaaDoor
open Go.RowKit

end Go.Proofs.YthihdddlneclmaaDoor

namespace Go.Proofs.YthihdddlneclmaaDoor
open Go.RowKit

def firstV (f : Nat × Nat × Bool) : Value := .tuple #[.int .i64 f.1, .int .i64 f.2.1, .bool f.2.2]
theorem not_empty {s : ByteArray} {c : UInt8} {r : List UInt8} (h : s.data.toList = c :: r) : s.toList.isEmpty = false := by
  rw [Lib.toList_data, h]
  rfl
theorem at_zero {s : ByteArray} {c : UInt8} {r : List UInt8} (h : s.data.toList = c :: r) (h0 : 0 < s.size) : s[0] = c := by
  have := byte_at h0
  rw [h] at this
  simpa using this.symm




theorem drop_consS {l : List (List UInt8)} {k : Nat} {c : List UInt8} (h : l[k]? = some c) : l.drop k = c :: l.drop (k + 1) := by
  obtain ⟨hk, rfl⟩ := List.getElem?_eq_some_iff.1 h
  exact List.drop_eq_getElem_cons hk
def signAns : Option Nat → Nat × Nat × Bool
  | some n => (2, n, true)
  | none => (0, 0, false)


end Go.Proofs.YthihdddlneclmaaDoor

namespace Go.Proofs.YthihdddlneclmaaDoor
open Go.RowKit

/-- A block that may be written, with all its cells. -/
def Blk (w : World) (b : Nat) (cs : Array Value) : Prop := ∃ ty, w.heap[b]? = some (.cells cs ty (0, 0))
section
variable {w w' : World} {b : Nat} {cs : Array Value}
theorem Blk.cell (h : Blk w b cs) (i : Nat) : w.cell? ⟨b, i, none⟩ = cs[i]? := by
  obtain ⟨ty, h⟩ := h
  simp [World.cell?, h]
theorem Blk.free (h : Blk w b cs) (i : Nat) : w.frozen? ⟨b, i, none⟩ = false := by
  obtain ⟨ty, h⟩ := h
  simp [World.frozen?, h]
theorem Blk.lt (h : Blk w b cs) : b < w.heap.size := by
  obtain ⟨ty, h⟩ := h
  exact lt_of_block h
theorem Blk.start (w : World) (cs : Array Value) (ty : TypeId) : Blk (w.alloc (.cells cs ty)) w.heap.size cs := ⟨ty, heap_alloc_new _ _⟩
theorem Blk.keepB {B : Nat} (h : Blk w b cs) (hb : Below B w w') (hlt : b < B) : Blk w' b cs := by
  obtain ⟨ty, h⟩ := h
  exact ⟨ty, (hb.block b hlt).trans h⟩
theorem Blk.keep (h : Blk w b cs) (hb : Below w.heap.size w w') : Blk w' b cs := h.keepB hb h.lt
theorem Blk.grown {row : Option Nat} (h : Blk w b cs) (hg : w.grownBy w' row) (hne : row ≠ some b) : Blk w' b cs := by
  have hl := h.lt
  obtain ⟨ty, h⟩ := h
  exact ⟨ty, (hg.block b hl (fun e => hne e.symm)).trans h⟩
theorem Blk.other (h : Blk w b cs) {p : Addr} (hp : p.block ≠ b) (v : Value) : Blk (w.setCell p v) b cs := by
  obtain ⟨ty, h⟩ := h
  exact ⟨ty, by rw [Below.heap_setCell _ _ _ _ (fun e => hp e.symm)]; exact h⟩
theorem Blk.set (h : Blk w b cs) (i : Nat) (v : Value) : Blk (w.setCell ⟨b, i, none⟩ v) b (cs.setIfInBounds i v) := by
  have hlt := h.lt
  obtain ⟨ty, h⟩ := h
  refine ⟨ty, ?_⟩
  have h' : w.heap[b] = .cells cs ty (0, 0) := by simpa [Array.getElem?_eq_getElem hlt] using h
  show (w.heap.modify b _)[b]? = _
  rw [Array.getElem?_eq_getElem (by simpa using hlt), Array.getElem_modify_self, h']
  rfl
theorem Blk.drew (h : Blk w b cs) : Blk w.drew b cs := h
end
theorem StrRow.grown {w w' : World} {g : Nat} {l : List (List UInt8)} {row : Option Nat} (h : StrRow w g l) (hg : w.grownBy w' row) (hne : row ≠ some g) : StrRow w' g l := by
  obtain ⟨t, fr, e⟩ := h
  exact ⟨t, fr, (hg.block g (lt_of_block e) (fun q => hne q.symm)).trans e⟩
theorem drew_grown {w w' : World} {row : Option Nat} (h : w.grownBy w' row) : w.grownBy w'.drew row := ⟨h.os, h.tape, h.output, h.size, h.block⟩
theorem grown_of_below {w w' : World} (h : Below w.heap.size w w') (row : Option Nat) : w.grownBy w' row := ⟨h.os, h.tape, h.output, h.size, fun k hk _ => h.block k hk⟩
theorem grown_trans {a b c : World} {row : Option Nat} (h : a.grownBy b row) (k : b.grownBy c row) : a.grownBy c row :=
  ⟨k.os.trans h.os, k.tape.trans h.tape, k.output.trans h.output, Nat.le_trans h.size k.size, fun i hi hne => (k.block i (Nat.lt_of_lt_of_le hi h.size) hne).trans (h.block i hi hne)⟩
theorem grown_set {w : World} {g j : Nat} {u : Value} : w.grownBy (w.setCell ⟨g, j, none⟩ u) (some g) :=
  ⟨rfl, rfl, rfl, by simp [World.setCell], fun k _ hk => Below.heap_setCell _ _ _ _ (fun e => hk (by rw [e]))⟩
theorem grown_below_of {B : Nat} {w w' : World} {row : Option Nat} (hg : w.grownBy w' row) (hB : B ≤ w.heap.size) (hr : ∀ k, row = some k → B ≤ k) : Below B w w' := (Below.refl B w).grown hg hB hr
theorem below_alloc1 (w : World) (a : Obj) : Below w.heap.size w (w.alloc a) := (Below.refl _ _).alloc (Nat.le_refl _) _

theorem grown_by_new {w w3 : World} {row : Option Nat} (h : w.grownBy w3 row) (x y z : Value) : w.grownBy (((w3.setCell ⟨w.heap.size, 0, none⟩ x).setCell ⟨w.heap.size, 1, none⟩ y).setCell ⟨w.heap.size, 2, none⟩ z) row := by
  refine ⟨h.os, h.tape, h.output, by simpa [World.setCell] using h.size, fun k hk hne => ?_⟩
  rw [Below.heap_setCell _ _ _ _ (by show k ≠ w.heap.size; omega), Below.heap_setCell _ _ _ _ (by show k ≠ w.heap.size; omega), Below.heap_setCell _ _ _ _ (by show k ≠ w.heap.size; omega)]
  exact h.block k hk hne

/-- What the function that reader makes answers: the token from place a on. -/
structure ReadAns where
  kind : Nat
  lo : Nat
  size : Nat
  ok : Bool
def readL (l : List UInt8) (a : Nat) : ReadAns :=
  let b := blanksL (l.drop a)
  let f := firstL (l.drop (a + b))
  ⟨f.1, a + b, f.2.1, f.2.2⟩
theorem readL_le (l : List UInt8) (a : Nat) (h : a ≤ l.length) : (readL l a).lo ≤ l.length ∧ (readL l a).lo + (readL l a).size ≤ l.length ∧ a ≤ (readL l a).lo := by
  have h1 := blanksL_le (l.drop a)
  rw [List.length_drop] at h1
  have h2 := firstL_le (l.drop (a + blanksL (l.drop a)))
  rw [List.length_drop] at h2
  unfold readL
  dsimp only
  omega
def ReadPut (w : World) (ba : Nat) (s : ByteArray) (r : ReadAns) (e : Ending) (w' : World) : Prop :=
  e = .returned (.tuple #[.agg #[.int .i64 r.kind, .string (s.extract r.lo (r.lo + r.size)), .int .i64 r.lo], .bool r.ok]) ∧ w.grownBy w' (some ba) ∧ Blk w' ba #[.int .i64 ((r.lo + r.size : Nat) : Int)]

end Go.Proofs.YthihdddlneclmaaDoor

namespace Go.Proofs.YthihdddlneclmaaDoor
open Go.RowKit

/-- Is it a word of the language? -/
def isKey (l : List UInt8) : Bool := keysL.any fun k => k == l
/-- May it be a name? -/
def isName (l : List UInt8) : Bool := (match l with | [] => false | c :: _ => isLet c) && decide (l.length ≤ 16) && decide (spanL isLD l = l.length) && !isKey l

theorem drop_consK {l : List (List UInt8)} {k : Nat} {c : List UInt8} (h : l[k]? = some c) : l.drop k = c :: l.drop (k + 1) := by
  obtain ⟨hk, rfl⟩ := List.getElem?_eq_some_iff.1 h
  exact List.drop_eq_getElem_cons hk
theorem keys_info : (Tryd.prog.info? 93).map (·.size) = some (keysL.map txt).toArray.size := by kernel_rfl
set_option maxRecDepth 10000 in
theorem key_at (k : Nat) (g : List UInt8) (h : keysL[k]? = some g) (w : World) : (Instr.index 93 (.agg (keysL.map txt).toArray) (.int .i64 k)).run Tryd.prog w = .ok (txt g) w := by
  have hk : k < 24 := by
    rcases Nat.lt_or_ge k 24 with q | q
    · exact q
    · rw [List.getElem?_eq_none (by exact q)] at h; cases h
  obtain rfl | k0 := Nat.eq_or_lt_of_le (show 0 ≤ k by omega)
  · obtain rfl : keysL.getD 0 [] = g := by rw [List.getD_eq_getElem?_getD, h]; rfl
    exact (show ∀ w : World, (Instr.index 93 (.agg (keysL.map txt).toArray) (.int .i64 (0 : Nat))).run Tryd.prog w = .ok (txt (keysL.getD 0 [])) w from fun _ => by kernel_rfl) w
  obtain rfl | k1 := Nat.eq_or_lt_of_le (show 1 ≤ k by omega)
  · obtain rfl : keysL.getD 1 [] = g := by rw [List.getD_eq_getElem?_getD, h]; rfl
    exact (show ∀ w : World, (Instr.index 93 (.agg (keysL.map txt).toArray) (.int .i64 (1 : Nat))).run Tryd.prog w = .ok (txt (keysL.getD 1 [])) w from fun _ => by kernel_rfl) w
  obtain rfl | k2 := Nat.eq_or_lt_of_le (show 2 ≤ k by omega)
  · obtain rfl : keysL.getD 2 [] = g := by rw [List.getD_eq_getElem?_getD, h]; rfl
    exact (show ∀ w : World, (Instr.index 93 (.agg (keysL.map txt).toArray) (.int .i64 (2 : Nat))).run Tryd.prog w = .ok (txt (keysL.getD 2 [])) w from fun _ => by kernel_rfl) w
  obtain rfl | k3 := Nat.eq_or_lt_of_le (show 3 ≤ k by omega)
  · obtain rfl : keysL.getD 3 [] = g := by rw [List.getD_eq_getElem?_getD, h]; rfl
    exact (show ∀ w : World, (Instr.index 93 (.agg (keysL.map txt).toArray) (.int .i64 (3 : Nat))).run Tryd.prog w = .ok (txt (keysL.getD 3 [])) w from fun _ => by kernel_rfl) w
  obtain rfl | k4 := Nat.eq_or_lt_of_le (show 4 ≤ k by omega)
  · obtain rfl : keysL.getD 4 [] = g := by rw [List.getD_eq_getElem?_getD, h]; rfl
    exact (show ∀ w : World, (Instr.index 93 (.agg (keysL.map txt).toArray) (.int .i64 (4 : Nat))).run Tryd.prog w = .ok (txt (keysL.getD 4 [])) w from fun _ => by kernel_rfl) w
  obtain rfl | k5 := Nat.eq_or_lt_of_le (show 5 ≤ k by omega)
  · obtain rfl : keysL.getD 5 [] = g := by rw [List.getD_eq_getElem?_getD, h]; rfl
    exact (show ∀ w : World, (Instr.index 93 (.agg (keysL.map txt).toArray) (.int .i64 (5 : Nat))).run Tryd.prog w = .ok (txt (keysL.getD 5 [])) w from fun _ => by kernel_rfl) w
  obtain rfl | k6 := Nat.eq_or_lt_of_le (show 6 ≤ k by omega)
  · obtain rfl : keysL.getD 6 [] = g := by rw [List.getD_eq_getElem?_getD, h]; rfl
    exact (show ∀ w : World, (Instr.index 93 (.agg (keysL.map txt).toArray) (.int .i64 (6 : Nat))).run Tryd.prog w = .ok (txt (keysL.getD 6 [])) w from fun _ => by kernel_rfl) w
  obtain rfl | k7 := Nat.eq_or_lt_of_le (show 7 ≤ k by omega)
  · obtain rfl : keysL.getD 7 [] = g := by rw [List.getD_eq_getElem?_getD, h]; rfl
    exact (show ∀ w : World, (Instr.index 93 (.agg (keysL.map txt).toArray) (.int .i64 (7 : Nat))).run Tryd.prog w = .ok (txt (keysL.getD 7 [])) w from fun _ => by kernel_rfl) w
  obtain rfl | k8 := Nat.eq_or_lt_of_le (show 8 ≤ k by omega)
  · obtain rfl : keysL.getD 8 [] = g := by rw [List.getD_eq_getElem?_getD, h]; rfl
    exact (show ∀ w : World, (Instr.index 93 (.agg (keysL.map txt).toArray) (.int .i64 (8 : Nat))).run Tryd.prog w = .ok (txt (keysL.getD 8 [])) w from fun _ => by kernel_rfl) w
  obtain rfl | k9 := Nat.eq_or_lt_of_le (show 9 ≤ k by omega)
  · obtain rfl : keysL.getD 9 [] = g := by rw [List.getD_eq_getElem?_getD, h]; rfl
    exact (show ∀ w : World, (Instr.index 93 (.agg (keysL.map txt).toArray) (.int .i64 (9 : Nat))).run Tryd.prog w = .ok (txt (keysL.getD 9 [])) w from fun _ => by kernel_rfl) w
  obtain rfl | k10 := Nat.eq_or_lt_of_le (show 10 ≤ k by omega)
  · obtain rfl : keysL.getD 10 [] = g := by rw [List.getD_eq_getElem?_getD, h]; rfl
    exact (show ∀ w : World, (Instr.index 93 (.agg (keysL.map txt).toArray) (.int .i64 (10 : Nat))).run Tryd.prog w = .ok (txt (keysL.getD 10 [])) w from fun _ => by kernel_rfl) w
  obtain rfl | k11 := Nat.eq_or_lt_of_le (show 11 ≤ k by omega)
  · obtain rfl : keysL.getD 11 [] = g := by rw [List.getD_eq_getElem?_getD, h]; rfl
    exact (show ∀ w : World, (Instr.index 93 (.agg (keysL.map txt).toArray) (.int .i64 (11 : Nat))).run Tryd.prog w = .ok (txt (keysL.getD 11 [])) w from fun _ => by kernel_rfl) w
  obtain rfl | k12 := Nat.eq_or_lt_of_le (show 12 ≤ k by omega)
  · obtain rfl : keysL.getD 12 [] = g := by rw [List.getD_eq_getElem?_getD, h]; rfl
    exact (show ∀ w : World, (Instr.index 93 (.agg (keysL.map txt).toArray) (.int .i64 (12 : Nat))).run Tryd.prog w = .ok (txt (keysL.getD 12 [])) w from fun _ => by kernel_rfl) w
  obtain rfl | k13 := Nat.eq_or_lt_of_le (show 13 ≤ k by omega)
  · obtain rfl : keysL.getD 13 [] = g := by rw [List.getD_eq_getElem?_getD, h]; rfl
    exact (show ∀ w : World, (Instr.index 93 (.agg (keysL.map txt).toArray) (.int .i64 (13 : Nat))).run Tryd.prog w = .ok (txt (keysL.getD 13 [])) w from fun _ => by kernel_rfl) w
  obtain rfl | k14 := Nat.eq_or_lt_of_le (show 14 ≤ k by omega)
  · obtain rfl : keysL.getD 14 [] = g := by rw [List.getD_eq_getElem?_getD, h]; rfl
    exact (show ∀ w : World, (Instr.index 93 (.agg (keysL.map txt).toArray) (.int .i64 (14 : Nat))).run Tryd.prog w = .ok (txt (keysL.getD 14 [])) w from fun _ => by kernel_rfl) w
  obtain rfl | k15 := Nat.eq_or_lt_of_le (show 15 ≤ k by omega)
  · obtain rfl : keysL.getD 15 [] = g := by rw [List.getD_eq_getElem?_getD, h]; rfl
    exact (show ∀ w : World, (Instr.index 93 (.agg (keysL.map txt).toArray) (.int .i64 (15 : Nat))).run Tryd.prog w = .ok (txt (keysL.getD 15 [])) w from fun _ => by kernel_rfl) w
  obtain rfl | k16 := Nat.eq_or_lt_of_le (show 16 ≤ k by omega)
  · obtain rfl : keysL.getD 16 [] = g := by rw [List.getD_eq_getElem?_getD, h]; rfl
    exact (show ∀ w : World, (Instr.index 93 (.agg (keysL.map txt).toArray) (.int .i64 (16 : Nat))).run Tryd.prog w = .ok (txt (keysL.getD 16 [])) w from fun _ => by kernel_rfl) w
  obtain rfl | k17 := Nat.eq_or_lt_of_le (show 17 ≤ k by omega)
  · obtain rfl : keysL.getD 17 [] = g := by rw [List.getD_eq_getElem?_getD, h]; rfl
    exact (show ∀ w : World, (Instr.index 93 (.agg (keysL.map txt).toArray) (.int .i64 (17 : Nat))).run Tryd.prog w = .ok (txt (keysL.getD 17 [])) w from fun _ => by kernel_rfl) w
  obtain rfl | k18 := Nat.eq_or_lt_of_le (show 18 ≤ k by omega)
  · obtain rfl : keysL.getD 18 [] = g := by rw [List.getD_eq_getElem?_getD, h]; rfl
    exact (show ∀ w : World, (Instr.index 93 (.agg (keysL.map txt).toArray) (.int .i64 (18 : Nat))).run Tryd.prog w = .ok (txt (keysL.getD 18 [])) w from fun _ => by kernel_rfl) w
  obtain rfl | k19 := Nat.eq_or_lt_of_le (show 19 ≤ k by omega)
  · obtain rfl : keysL.getD 19 [] = g := by rw [List.getD_eq_getElem?_getD, h]; rfl
    exact (show ∀ w : World, (Instr.index 93 (.agg (keysL.map txt).toArray) (.int .i64 (19 : Nat))).run Tryd.prog w = .ok (txt (keysL.getD 19 [])) w from fun _ => by kernel_rfl) w
  obtain rfl | k20 := Nat.eq_or_lt_of_le (show 20 ≤ k by omega)
  · obtain rfl : keysL.getD 20 [] = g := by rw [List.getD_eq_getElem?_getD, h]; rfl
    exact (show ∀ w : World, (Instr.index 93 (.agg (keysL.map txt).toArray) (.int .i64 (20 : Nat))).run Tryd.prog w = .ok (txt (keysL.getD 20 [])) w from fun _ => by kernel_rfl) w
  obtain rfl | k21 := Nat.eq_or_lt_of_le (show 21 ≤ k by omega)
  · obtain rfl : keysL.getD 21 [] = g := by rw [List.getD_eq_getElem?_getD, h]; rfl
    exact (show ∀ w : World, (Instr.index 93 (.agg (keysL.map txt).toArray) (.int .i64 (21 : Nat))).run Tryd.prog w = .ok (txt (keysL.getD 21 [])) w from fun _ => by kernel_rfl) w
  obtain rfl | k22 := Nat.eq_or_lt_of_le (show 22 ≤ k by omega)
  · obtain rfl : keysL.getD 22 [] = g := by rw [List.getD_eq_getElem?_getD, h]; rfl
    exact (show ∀ w : World, (Instr.index 93 (.agg (keysL.map txt).toArray) (.int .i64 (22 : Nat))).run Tryd.prog w = .ok (txt (keysL.getD 22 [])) w from fun _ => by kernel_rfl) w
  obtain rfl | k23 := Nat.eq_or_lt_of_le (show 23 ≤ k by omega)
  · obtain rfl : keysL.getD 23 [] = g := by rw [List.getD_eq_getElem?_getD, h]; rfl
    exact (show ∀ w : World, (Instr.index 93 (.agg (keysL.map txt).toArray) (.int .i64 (23 : Nat))).run Tryd.prog w = .ok (txt (keysL.getD 23 [])) w from fun _ => by kernel_rfl) w
  omega

set_option maxRecDepth 10000 in
set_option maxHeartbeats 4000000 in
theorem key_any (s : ByteArray) (w : World) (ht : StrRow w 3 keysL) :
    Calls Tryd.prog 56 #[.string s] w (Still w (.bool (isKey s.data.toList))) := by
  obtain ⟨z, hz⟩ : ∃ z, z = isKey s.data.toList := ⟨_, rfl⟩
  rw [← hz]
  obtain ⟨tt, fr, hrow⟩ := ht
  have hinfo := keys_info
  have hat := key_at
  generalize (keysL.map txt).toArray = SA at *
  have ROW := Lib.hid (And.intro hrow (And.intro hinfo hat))
  have HZ := Lib.hid hz
  clear hz hrow hinfo hat
  go_enter Tryd.func56, Tryd.ntmps56
  go_wp2_with (refine wpList_load_row rfl 93 _ rfl 3 rfl _ SA _ _ ROW.out.1 Tryd.underlying93 rfl ROW.out.2.1 ?_)
  go_loopg [6] 24 (fun g v6 wr => ∃ k : Nat, v6 = .int .i64 k ∧ k ≤ 24 ∧ g = 24 - k ∧ z = ((keysL.drop k).any fun k => k == s.data.toList) ∧ wr = w)
  case atStart => exact ⟨0, rfl, Nat.zero_le _, rfl, by rw [HZ.out]; rfl, rfl⟩
  case round =>
    obtain ⟨k, rfl, hk, hg, hall, rfl⟩ := hrel
    by_cases hlt : k < 24
    · obtain ⟨g, hgk⟩ : ∃ g, keysL[k]? = some g := ⟨_, List.getElem?_eq_getElem (by exact hlt)⟩
      have ix := ROW.out.2.2 k g hgk
      rw [drop_consK hgk, List.any_cons] at hall
      have i1 : (k : Int) < 24 := by omega
      have i2 : (0 : Int) ≤ (k : Int) := by omega
      have wk : IntKind.i64.wrap ((k : Int) + 1) = (k : Int) + 1 := IntWalk.i64_in _ (by omega)
      have HK := Lib.hid (And.intro hlt hg)
      have HA := Lib.hid hall
      clear hall hg hgk
      by_cases R : g = s.data.toList
      · go_wp2_with fail
        go_ret
        exact ⟨ret_bool (by rw [HA.out, beq_iff_eq.2 R]; rfl), rfl⟩
      · have R1 : (g == s.toList) = false := by rw [Lib.toList_data]; simpa using R
        have R2 := Lib.hid R
        clear R
        go_wp2_with fail
        go_roundg (24 - (k + 1))
        case measure => have := HK.out; omega
        case rel => exact ⟨k + 1, by push_cast; rfl, by have := HK.out; omega, rfl, by rw [HA.out, beq_eq_false_iff_ne.2 R2.out, Bool.false_or], rfl⟩
    · obtain rfl : k = 24 := by omega
      have HA := Lib.hid hall
      clear hg hk hlt hall
      go_wp2_with fail
      go_ret
      exact ⟨ret_bool (by rw [HA.out]; rfl), rfl⟩



theorem name_nil (s : ByteArray) (w : World) (h : s.data.toList = []) : Calls Tryd.prog 33 #[.string s] w (Still w (.bool (isName s.data.toList))) := by
  have hs : s = ⟨#[]⟩ := by
    apply ByteArray.ext
    apply Array.ext'
    exact h
  subst hs
  clear h
  go_enter Tryd.func33, Tryd.ntmps33
  go_wp2_with fail
  go_ret
  exact ⟨rfl, rfl⟩

set_option maxRecDepth 10000 in
set_option maxHeartbeats 4000000 in
theorem name_any (s : ByteArray) (w : World) (hs : s.size ≤ maxLen) (ht : StrRow w 3 keysL) :
    Calls Tryd.prog 33 #[.string s] w (Still w (.bool (isName s.data.toList))) := by
  cases h : s.data.toList with
  | nil => rw [← h]; exact name_nil s w h
  | cons c r =>
    have ka := fun w (h : StrRow w 3 keysL) => key_any s w h
    have sp := fun w => span_ld s w hs
    have la := fun w => letter_any c.toNat w
    rw [isLet_eq] at la
    have h0 : 0 < s.size := by rw [← len_of, h]; simp
    have hc := at_zero h h0
    have m := congrArg UInt8.toNat hc
    have e0 := not_empty h
    have hlen : (c :: r).length = s.size := by rw [← h, len_of]
    have hn : isName (c :: r) = (isLet c && decide (s.size ≤ 16) && decide (spanL isLD (c :: r) = s.size) && !isKey (c :: r)) := by
      unfold isName
      rw [hlen]
    rw [h] at ka sp
    rw [hn]
    generalize spanL isLD (c :: r) = q at *
    generalize isKey (c :: r) = K at *
    generalize isLet c = L at *
    have KA := Lib.hid (ka w ht)
    have SP := Lib.hid sp
    have LA := Lib.hid la
    generalize c.toNat = cn at *
    clear ka sp la ht h hc hn hlen hs
    by_cases h16 : s.size ≤ 16
    · have d16 : (s.size : Int) ≤ 16 := by omega
      by_cases hq : q = s.size
      · have dq : ((q : Int) == (s.size : Int)) = true := by rw [hq]; exact beq_self_eq_true _
        have HQ := Lib.hid (And.intro hq h16)
        clear hq
        cases L <;> cases K
        all_goals
          go_enter Tryd.func33, Tryd.ntmps33
          go_wp2_with (first | (go_at_call 53; (with_reducible refine (LA.out _).mono ?_); rintro e w1 ⟨rfl, rfl⟩) | (go_at_call 54; (with_reducible refine (SP.out _).mono ?_); rintro e w1 ⟨rfl, rfl⟩) | (go_at_call 56; (with_reducible refine KA.out.mono ?_); rintro e w1 ⟨rfl, rfl⟩))
          go_ret
          exact ⟨ret_bool (by rw [decide_eq_true HQ.out.1, decide_eq_true HQ.out.2]; rfl), rfl⟩
      · have dq : ((q : Int) == (s.size : Int)) = false := by simpa using fun e => hq (by omega)
        have HQ := Lib.hid (And.intro hq h16)
        clear hq
        cases L <;> cases K
        all_goals
          go_enter Tryd.func33, Tryd.ntmps33
          go_wp2_with (first | (go_at_call 53; (with_reducible refine (LA.out _).mono ?_); rintro e w1 ⟨rfl, rfl⟩) | (go_at_call 54; (with_reducible refine (SP.out _).mono ?_); rintro e w1 ⟨rfl, rfl⟩) | (go_at_call 56; (with_reducible refine KA.out.mono ?_); rintro e w1 ⟨rfl, rfl⟩))
          go_ret
          exact ⟨ret_bool (by rw [decide_eq_false HQ.out.1, decide_eq_true HQ.out.2]; rfl), rfl⟩
    · have d16 : ¬ (s.size : Int) ≤ 16 := by omega
      have HQ := Lib.hid h16
      clear h16
      go_enter Tryd.func33, Tryd.ntmps33
      go_wp2_with (first | (go_at_call 53; (with_reducible refine (LA.out _).mono ?_); rintro e w1 ⟨rfl, rfl⟩) | (go_at_call 54; (with_reducible refine (SP.out _).mono ?_); rintro e w1 ⟨rfl, rfl⟩) | (go_at_call 56; (with_reducible refine KA.out.mono ?_); rintro e w1 ⟨rfl, rfl⟩))
      go_ret
      exact ⟨ret_bool (by rw [decide_eq_false HQ.out]; simp), rfl⟩


end Go.Proofs.YthihdddlneclmaaDoor

namespace Go.Proofs.YthihdddlneclmaaDoor
open Go.RowKit

/-- A node: its kind, its words and numbers, its kids, where it begins. -/
structure Nd where
  kind : Int
  words : List (List UInt8)
  nums : List Int
  kids : List Int
  pos : Int
deriving DecidableEq

def nd0 : Nd := ⟨0, [], [], [], 0⟩
/-- The node in a place. -/
def ndAt (ns : List Nd) (k : Int) : Nd := (ns[k.toNat]?).getD nd0
def kindAt (ns : List Nd) (k : Int) : Int := (ndAt ns k).kind
/-- The number in a place. -/
def atI (p : List Int) (k : Int) : Int := (p[k.toNat]?).getD (-1)

/-! ### The parents -/
def kidsO (n at_ : Nat) : List Int → List Int → Option (List Int)
  | [], p => some p
  | k :: r, p => if k ≤ (at_ : Int) ∨ (n : Int) ≤ k ∨ 0 ≤ atI p k then none else kidsO n at_ r (p.set k.toNat at_)
def parK (ns : List Nd) : Nat → Option (List Int)
  | 0 => some (List.replicate ns.length (-1))
  | j + 1 => (parK ns j).bind fun p => if 0 < j ∧ atI p j < 0 then none else kidsO ns.length j (ndAt ns j).kids p
def parT (ns : List Nd) : Option (List Int) := if ns.length = 0 ∨ 1500 < ns.length then none else parK ns ns.length
/-! ### The depths -/
def depK (p : List Int) : Nat → List Int
  | 0 => []
  | j + 1 => depK p j ++ [if 0 ≤ atI p j then 1 + atI (depK p j) (atI p j) else 1]
def depT (p : List Int) : List Int := depK p p.length
def maxL : List Int → Int
  | [] => 0
  | x :: r => r.foldl max x
def deepB (ns : List Nd) : Int := match parT ns with
  | none => 0
  | some p => maxL (depT p)

/-! ### One node -/
def stmtB (k : Int) : Bool := decide (8 ≤ k) && decide (k ≤ 19) && !(k == 12) && !(k == 15)
def exprB (k : Int) : Bool := decide (20 ≤ k) && decide (k ≤ 23)
def argB (k : Int) : Bool := k == 15 || exprB k
def namesB (ws : List (List UInt8)) : Bool := ws.all isName
def numbersB (l : List Int) : Bool := l.all fun x => decide (0 ≤ x) && decide (x < 1000000000000000000)
def hasB (n : Nd) (w m : Nat) : Bool := decide (n.words.length = w) && decide (n.nums.length = m)
def isB (ks : List Int) (k : Int) : Bool := ks.contains k
def allB (ns : List Nd) (kids : List Int) (f : Int → Bool) : Bool := kids.all fun k => f (kindAt ns k)
def arePB (ns : List Nd) : List Int → List (Int → Bool) → Bool
  | [], [] => true
  | k :: r, f :: g => f (kindAt ns k) && arePB ns r g
  | _, _ => false
def whichB (ns : List Nd) (k : Int) : Int := match (ndAt ns k).nums with
  | [] => -1
  | x :: _ => x
def risesB (ns : List Nd) : List Int → Bool
  | [] => true
  | [_] => true
  | a :: b :: r => decide (whichB ns a < whichB ns b) && risesB ns (b :: r)
def num (n : Nd) (k : Nat) : Int := (n.nums[k]?).getD 0
def fracB (n : Nd) : Bool := decide (1 ≤ num n 1) && decide (1 ≤ num n 2)
def contractB (ns : List Nd) (n : Nd) : Bool := decide (num n 0 ≤ 4) && ((num n 1 == 0 && num n 2 == 0) || fracB n) && allB ns n.kids (isB [6]) && risesB ns n.kids
def partB (ns : List Nd) (n : Nd) : Bool :=
  !(num n 0 == 0) && decide (num n 0 ≤ 4) && fracB n && (arePB ns n.kids [isB [7]] || arePB ns n.kids [isB [6], isB [7]] && whichB ns (atI n.kids 0) == 2)
def listedB (ns : List Nd) (n : Nd) : Bool :=
  if n.kind = 0 then hasB n 0 0 && allB ns n.kids (isB [1, 4])
  else if n.kind = 1 then hasB n 1 0 && allB ns n.kids (isB [2, 3])
  else if n.kind = 2 then hasB n 1 1 && decide (num n 0 ≤ 1) && arePB ns n.kids []
  else if n.kind = 3 then decide (4 ≤ n.words.length) && decide (n.words.length % 2 = 0) && hasB n n.words.length 0 && arePB ns n.kids []
  else if n.kind = 4 then hasB n 1 0 && allB ns (n.kids.take (n.kids.length - 1)) (isB [5]) && arePB ns (n.kids.drop (n.kids.length - 1)) [isB [7]]
  else if n.kind = 5 then hasB n 1 0 && arePB ns n.kids [] || hasB n 2 3 && contractB ns n
  else if n.kind = 6 then decide (1 ≤ n.words.length) && hasB n n.words.length 1 && decide (num n 0 ≤ 2) && arePB ns n.kids []
  else if n.kind = 7 then hasB n 0 0 && allB ns n.kids stmtB
  else if n.kind = 8 ∨ n.kind = 9 then hasB n 1 0 && arePB ns n.kids [exprB]
  else if n.kind = 10 then hasB n 2 0 && arePB ns n.kids [isB [7], isB [7]]
  else if n.kind = 11 then hasB n 2 0 && allB ns n.kids (isB [12])
  else if n.kind = 12 then hasB n 1 0 && arePB ns n.kids [isB [7]]
  else if n.kind = 13 then hasB n 2 3 && partB ns n
  else if n.kind = 14 then (hasB n 1 0 || hasB n 2 0) && allB ns n.kids argB
  else if n.kind = 15 ∨ n.kind = 21 then hasB n 1 0 && arePB ns n.kids []
  else if n.kind = 16 then hasB n 0 0 && (arePB ns n.kids [exprB, isB [7]] || arePB ns n.kids [exprB, isB [7], isB [7]])
  else if n.kind = 17 then hasB n 0 0 && arePB ns n.kids [exprB, isB [7]]
  else if n.kind = 18 ∨ n.kind = 23 then hasB n 0 0 && arePB ns n.kids [exprB]
  else if n.kind = 19 then hasB n 0 0 && arePB ns n.kids []
  else if n.kind = 20 then hasB n 0 1 && arePB ns n.kids []
  else if n.kind = 22 then hasB n 0 1 && decide (num n 0 ≤ 5) && arePB ns n.kids [exprB, exprB]
  else false
def validB (ns : List Nd) (n : Nd) : Bool := namesB n.words && numbersB n.nums && listedB ns n
def rightN (ns : List Nd) : Bool := match parT ns with
  | none => false
  | some p => kindAt ns 0 == 0 && decide (maxL (depT p) ≤ 24) && ns.all (validB ns)

/-! ### The order of a walk -/
/-- The nodes below one, so deep at most. -/
def preF (ns : List Nd) : Nat → Int → List Int
  | 0, k => [k]
  | d + 1, k => k :: (ndAt ns k).kids.flatMap (preF ns d)
end Go.Proofs.YthihdddlneclmaaDoor

namespace Go.Proofs.YthihdddlneclmaaDoor
open Go.RowKit

/-! ### Slices of numbers and of texts -/
def IntsL (w : World) (v : Value) (l : List Int) : Prop := ∃ A c, v = .slice A l.length c ∧ l.length ≤ c ∧ c ≤ maxLen ∧ Reads w w.heap.size 1 A l.length (l.map (Value.int .i64))
theorem IntsL.below {w w' : World} {v : Value} {l : List Int} (h : IntsL w v l) (hb : Below w.heap.size w w') : IntsL w' v l := by
  obtain ⟨A, c, h1, h2, h3, h4⟩ := h
  exact ⟨A, c, h1, h2, h3, (h4.below hb).more hb.size⟩
theorem IntsL.nil (w : World) : IntsL w (.slice none 0 0) [] := ⟨none, 0, rfl, Nat.le_refl _, by decide, Reads.none_⟩
theorem IntsL.len {w : World} {v : Value} {l : List Int} (h : IntsL w v l) : l.length ≤ maxLen := by
  obtain ⟨_, _, _, a, b, _⟩ := h
  omega
theorem ints_at {w wr : World} {A : Option Addr} {n k : Nat} {l : List Int} {x : Int} (h4 : Reads w w.heap.size 1 A n (l.map (Value.int .i64))) (hb : Below w.heap.size w wr) (hx : l[k]? = some x) (hn : 0 < n) :
    ∃ ad, A = some ad ∧ wr.cell? (ad.add k) = some (.int .i64 x) := by
  obtain ⟨ad, e, hbk, hc⟩ := h4.2 hn
  exact ⟨ad, e, (hb.cell (p := ad.add k) (by rw [block_of_add]; exact hbk)).trans (hc k _ (by rw [List.getElem?_map, hx]; rfl))⟩
def StrsL (w : World) (v : Value) (l : List (List UInt8)) : Prop := ∃ A c, v = .slice A l.length c ∧ l.length ≤ c ∧ c ≤ maxLen ∧ Reads w w.heap.size 1 A l.length (l.map txt) ∧ ∀ s ∈ l, s.length ≤ maxLen
theorem StrsL.below {w w' : World} {v : Value} {l : List (List UInt8)} (h : StrsL w v l) (hb : Below w.heap.size w w') : StrsL w' v l := by
  obtain ⟨A, c, h1, h2, h3, h4, h5⟩ := h
  exact ⟨A, c, h1, h2, h3, (h4.below hb).more hb.size, h5⟩
theorem StrsL.nil (w : World) : StrsL w (.slice none 0 0) [] := ⟨none, 0, rfl, Nat.le_refl _, by decide, Reads.none_, fun s hs => by cases hs⟩
theorem StrsL.len {w : World} {v : Value} {l : List (List UInt8)} (h : StrsL w v l) : l.length ≤ maxLen := by
  obtain ⟨_, _, _, a, b, _⟩ := h
  omega
theorem strs_at {w wr : World} {A : Option Addr} {n k : Nat} {l : List (List UInt8)} {x : List UInt8} (h4 : Reads w w.heap.size 1 A n (l.map txt)) (hb : Below w.heap.size w wr) (hx : l[k]? = some x) (hn : 0 < n) :
    ∃ ad, A = some ad ∧ wr.cell? (ad.add k) = some (txt x) := by
  obtain ⟨ad, e, hbk, hc⟩ := h4.2 hn
  exact ⟨ad, e, (hb.cell (p := ad.add k) (by rw [block_of_add]; exact hbk)).trans (hc k _ (by rw [List.getElem?_map, hx]; rfl))⟩

/-! ### Nodes -/
/-- A node's three slices. -/
abbrev NdV := Value × Value × Value
def nodeCells : List (NdV × Nd) → List Value
  | [] => []
  | x :: r => .int .i64 x.2.kind :: x.1.1 :: x.1.2.1 :: x.1.2.2 :: .int .i64 x.2.pos :: nodeCells r
theorem nodeCells_length : ∀ l, (nodeCells l).length = l.length * 5
  | [] => rfl
  | x :: r => by
    simp only [nodeCells, List.length_cons, nodeCells_length r]
    omega
theorem nodeCells_append : ∀ (l m : List (NdV × Nd)), nodeCells (l ++ m) = nodeCells l ++ nodeCells m
  | [], m => rfl
  | x :: r, m => by rw [List.cons_append, nodeCells, nodeCells, nodeCells_append r m]; rfl
theorem nodeCells_at : ∀ (l : List (NdV × Nd)) (k : Nat) (x : NdV × Nd), l[k]? = some x → (nodeCells l)[k * 5]? = some (.int .i64 x.2.kind) ∧ (nodeCells l)[k * 5 + 1]? = some x.1.1 ∧ (nodeCells l)[k * 5 + 2]? = some x.1.2.1 ∧ (nodeCells l)[k * 5 + 3]? = some x.1.2.2 ∧ (nodeCells l)[k * 5 + 4]? = some (.int .i64 x.2.pos)
  | [], k, x, h => by simp at h
  | y :: r, 0, x, h => by
    obtain rfl : y = x := by simpa using h
    exact ⟨rfl, rfl, rfl, rfl, rfl⟩
  | y :: r, k + 1, x, h => by
    rw [List.getElem?_cons_succ] at h
    obtain ⟨a, b, c, d, e⟩ := nodeCells_at r k x h
    exact ⟨by rw [show (k + 1) * 5 = k * 5 + 1 + 1 + 1 + 1 + 1 by omega]; exact a, by rw [show (k + 1) * 5 + 1 = k * 5 + 1 + 1 + 1 + 1 + 1 + 1 by omega]; exact b, by rw [show (k + 1) * 5 + 2 = k * 5 + 2 + 1 + 1 + 1 + 1 + 1 by omega]; exact c, by rw [show (k + 1) * 5 + 3 = k * 5 + 3 + 1 + 1 + 1 + 1 + 1 by omega]; exact d, by rw [show (k + 1) * 5 + 4 = k * 5 + 4 + 1 + 1 + 1 + 1 + 1 by omega]; exact e⟩
def NdAt (w : World) (x : NdV × Nd) : Prop := StrsL w x.1.1 x.2.words ∧ IntsL w x.1.2.1 x.2.nums ∧ IntsL w x.1.2.2 x.2.kids
theorem NdAt.below {w w' : World} {x : NdV × Nd} (h : NdAt w x) (hb : Below w.heap.size w w') : NdAt w' x := ⟨h.1.below hb, h.2.1.below hb, h.2.2.below hb⟩
/-- A slice of nodes. -/
def NodesAt (w : World) (v : Value) (ns : List Nd) : Prop :=
  ∃ A c rs, v = .slice A ns.length c ∧ ns.length ≤ c ∧ c ≤ maxLen ∧ rs.map (·.2) = ns ∧ Reads w w.heap.size 5 A ns.length (nodeCells rs) ∧ ∀ x ∈ rs, NdAt w x
theorem NodesAt.below {w w' : World} {v : Value} {ns : List Nd} (h : NodesAt w v ns) (hb : Below w.heap.size w w') : NodesAt w' v ns := by
  obtain ⟨A, c, rs, h1, h2, h3, h4, h5, h6⟩ := h
  exact ⟨A, c, rs, h1, h2, h3, h4, (h5.below hb).more hb.size, fun x hx => (h6 x hx).below hb⟩
theorem NodesAt.nil (w : World) : NodesAt w (.slice none 0 0) [] := ⟨none, 0, [], rfl, Nat.le_refl _, by decide, rfl, Reads.none_, fun x hx => by cases hx⟩
theorem nodes_cells {w wr : World} {A : Option Addr} {n k : Nat} {rs : List (NdV × Nd)} {x : NdV × Nd} (h4 : Reads w w.heap.size 5 A n (nodeCells rs)) (hb : Below w.heap.size w wr) (hx : rs[k]? = some x) (hn : 0 < n) :
    ∃ ad, A = some ad ∧ wr.cell? (ad.add (k * 5)) = some (.int .i64 x.2.kind) ∧ wr.cell? ⟨(ad.add (k * 5)).block, (ad.add (k * 5)).off + 1, none⟩ = some x.1.1 ∧ wr.cell? ⟨(ad.add (k * 5)).block, (ad.add (k * 5)).off + 2, none⟩ = some x.1.2.1 ∧ wr.cell? ⟨(ad.add (k * 5)).block, (ad.add (k * 5)).off + 3, none⟩ = some x.1.2.2 ∧ wr.cell? ⟨(ad.add (k * 5)).block, (ad.add (k * 5)).off + 4, none⟩ = some (.int .i64 x.2.pos) := by
  obtain ⟨ad, e, hbk, hc⟩ := h4.2 hn
  obtain ⟨a, b, c, d, f⟩ := nodeCells_at rs k x hx
  have d0 := (hb.cell (p := ad.add (k * 5)) (by rw [block_of_add]; exact hbk)).trans (hc _ _ a)
  have d1 := (hb.cell (p := ad.add (k * 5 + 1)) (by rw [block_of_add]; exact hbk)).trans (hc _ _ b)
  have d2 := (hb.cell (p := ad.add (k * 5 + 2)) (by rw [block_of_add]; exact hbk)).trans (hc _ _ c)
  have d3 := (hb.cell (p := ad.add (k * 5 + 3)) (by rw [block_of_add]; exact hbk)).trans (hc _ _ d)
  have d4 := (hb.cell (p := ad.add (k * 5 + 4)) (by rw [block_of_add]; exact hbk)).trans (hc _ _ f)
  rw [← add_of_add] at d1 d2 d3 d4
  exact ⟨ad, e, d0, d1, d2, d3, d4⟩
end Go.Proofs.YthihdddlneclmaaDoor
