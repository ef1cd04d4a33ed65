/-
  Plain: how long the text of a right tree may be. (Template: by-name.py fills it.)
-/
import Derived.Test.YthihdddlneclmaaDoorKC
import Derived.Test.YthihdddlneclmaaDoorKD
import Derived.Lib.ItoaLen
namespace Go.Proofs.YthihdddlneclmaaDoor

/-- What a text comes to, from the byte ahead of it: none where a line ends with a blank, or is empty, or a byte isn't one that may stand there; else its last byte. -/
def runT : UInt8 → Txt → Option UInt8
  | p, [] => some p
  | p, c :: r => if c = 9 ∨ 127 ≤ c ∨ (c = 10 ∧ (p = 32 ∨ p = 10)) then none else runT c r
theorem runT_app : ∀ (a b : Txt) (p : UInt8), runT p (a ++ b) = (runT p a).bind fun q => runT q b
  | [], _, _ => rfl
  | c :: r, b, p => by
    rw [List.cons_append, runT, runT]
    split
    · rfl
    · exact runT_app r b c
/-- May stand anywhere. -/
def Any (x : Txt) : Prop := ∀ p, ∃ q, runT p x = some q
/-- .. and ends with a sign. -/
def Ends (x : Txt) : Prop := ∀ p, ∃ q, runT p x = some q ∧ 33 ≤ q
theorem Ends.any {x : Txt} (h : Ends x) : Any x := fun p => by
  obtain ⟨q, h, _⟩ := h p
  exact ⟨q, h⟩
theorem any_nil : Any [] := fun p => ⟨p, rfl⟩
theorem Any.app {x y : Txt} (h : Any x) (k : Any y) : Any (x ++ y) := fun p => by
  obtain ⟨q, h⟩ := h p
  obtain ⟨r, k⟩ := k q
  exact ⟨r, by rw [runT_app, h]; exact k⟩
theorem Any.ends {x y : Txt} (h : Any x) (k : Ends y) : Ends (x ++ y) := fun p => by
  obtain ⟨q, h⟩ := h p
  obtain ⟨r, k, v⟩ := k q
  exact ⟨r, by rw [runT_app, h]; exact k, v⟩
theorem Ends.line {x : Txt} (h : Ends x) : Any (x ++ [10]) := fun p => by
  obtain ⟨q, h, v⟩ := h p
  refine ⟨10, ?_⟩
  rw [runT_app, h]
  show runT q [10] = some 10
  have a : q ≠ 32 := fun e => by rw [e] at v; exact absurd v (by decide)
  have b : q ≠ 10 := fun e => by rw [e] at v; exact absurd v (by decide)
  simp [runT, a, b]
/-- Signs and blanks. -/
def plainB (c : UInt8) : Bool := decide (32 ≤ c) && decide (c < 127)
theorem any_plain : ∀ (x : Txt), x.all plainB = true → Any x
  | [], _ => any_nil
  | c :: r, h => fun p => by
    rw [List.all_cons, Bool.and_eq_true] at h
    obtain ⟨h1, h2⟩ := h
    unfold plainB at h1
    rw [Bool.and_eq_true, decide_eq_true_iff, decide_eq_true_iff] at h1
    obtain ⟨q, hq⟩ := any_plain r h2 c
    refine ⟨q, ?_⟩
    rw [runT, if_neg]
    · exact hq
    · rintro (e | e | ⟨e, _⟩)
      · rw [e] at h1; exact absurd h1.1 (by decide)
      · exact absurd h1.2 (by rw [UInt8.not_lt]; exact e)
      · rw [e] at h1; exact absurd h1.1 (by decide)
theorem ends_one {c : UInt8} (h : 33 ≤ c ∧ c < 127) : Ends [c] := fun p => by
  refine ⟨c, ?_, h.1⟩
  rw [runT, if_neg]
  · rfl
  · rintro (e | e | ⟨e, _⟩)
    · rw [e] at h; exact absurd h.1 (by decide)
    · exact absurd h.2 (by rw [UInt8.not_lt]; exact e)
    · rw [e] at h; exact absurd h.1 (by decide)
theorem any_flatten : ∀ (l : List Txt), (∀ x ∈ l, Any x) → Any l.flatten
  | [], _ => any_nil
  | x :: r, h => by
    rw [List.flatten_cons]
    exact (h x (List.mem_cons_self ..)).app (any_flatten r fun y hy => h y (List.mem_cons_of_mem _ hy))
theorem any_sep {s : Txt} (hs : Any s) : ∀ (l : List Txt), (∀ x ∈ l, Any x) → Any (sepT s l)
  | [], _ => any_nil
  | [x], h => h x (List.mem_cons_self ..)
  | x :: y :: r, h => by
    rw [sepT]
    exact ((h x (List.mem_cons_self ..)).app hs).app (any_sep hs (y :: r) fun z hz => h z (List.mem_cons_of_mem _ hz))
theorem ends_sep {s : Txt} (hs : Any s) : ∀ (l : List Txt), l ≠ [] → (∀ x ∈ l, Ends x) → Ends (sepT s l)
  | [], h, _ => absurd rfl h
  | [x], _, h => h x (List.mem_cons_self ..)
  | x :: y :: r, _, h => by
    rw [sepT]
    exact ((h x (List.mem_cons_self ..)).any.app hs).ends (ends_sep hs (y :: r) (by simp) fun z hz => h z (List.mem_cons_of_mem _ hz))
theorem any_ind (d : Nat) : Any (indT d) := any_plain _ (by
  unfold indT
  rw [List.all_eq_true]
  intro x hx
  rw [List.eq_of_mem_replicate hx]
  decide)
theorem any_lines (d : Nat) (ls : List Txt) (h : ∀ x ∈ ls, Ends x) : Any (linesT d ls) := by
  unfold linesT
  refine any_flatten _ fun y hy => ?_
  obtain ⟨x, hx, rfl⟩ := List.mem_map.1 hy
  exact ((any_ind d).ends (h x hx)).line
theorem any_open : Any [32, 123, 10] := fun p => by
  refine ⟨10, ?_⟩
  simp [runT]
theorem ends_braces (d : Nat) (ls : List Txt) (h : ∀ x ∈ ls, Ends x) : Ends (bracesT d ls) := by
  unfold bracesT
  split
  · exact (any_plain [32, 123, 32] (by decide)).ends (ends_one (c := 125) (by decide))
  · exact ((any_open.app (any_lines _ _ h)).app (any_ind d)).ends (ends_one (c := 125) (by decide))
/-! ### The parts -/
theorem any_dec (u : Nat) : Any (Lib.decDigits u) := by
  have one : ∀ k, k < 10 → Any [UInt8.ofNat (48 + k)] := fun k hk => any_plain _ (by
    have : k = 0 ∨ k = 1 ∨ k = 2 ∨ k = 3 ∨ k = 4 ∨ k = 5 ∨ k = 6 ∨ k = 7 ∨ k = 8 ∨ k = 9 := by omega
    rcases this with rfl | rfl | rfl | rfl | rfl | rfl | rfl | rfl | rfl | rfl <;> decide)
  induction u using Nat.strongRecOn with
  | _ u ih =>
    rw [Lib.decDigits]
    split
    · rename_i h; exact one u h
    · exact (ih (u / 10) (by omega)).app (one _ (Nat.mod_lt _ (by decide)))
theorem any_dig (n : Int) : Any (digT n) := by
  unfold digT Lib.itoa
  split
  · exact (any_plain [45] (by decide)).app (any_dec _)
  · exact any_dec _
theorem any_sign (k : Int) : Any (signT k) := any_plain _ (by unfold signT; repeat' split <;> try decide)
theorem any_kind (k : Int) : Any (kindT k) := any_plain _ (by unfold kindT; repeat' split <;> try decide)
theorem any_head (k : Int) : Any (headT k) := any_plain _ (by unfold headT; repeat' split <;> try decide)
/-- All words are made of signs. -/
def Words (ns : List Nd) : Prop := ∀ n ∈ ns, ∀ w ∈ n.words, w.all plainB = true
theorem words_at {ns : List Nd} (h : Words ns) (k : Int) : ∀ w ∈ (ndAt ns k).words, w.all plainB = true := by
  unfold ndAt
  cases e : ns[k.toNat]? with
  | none => intro w hw; cases hw
  | some n => exact h n (List.mem_of_getElem? e)
theorem any_word {n : Nd} (h : ∀ w ∈ n.words, w.all plainB = true) (k : Nat) : Any (word n k) := by
  unfold word
  cases e : n.words[k]? with
  | none => exact any_nil
  | some w => exact any_plain _ (h w (List.mem_of_getElem? e))
abbrev WN (n : Nd) : Prop := ∀ w ∈ n.words, w.all plainB = true
theorem any_expr {ns : List Nd} (h : Words ns) : ∀ (f : Nat) (n : Nd), WN n → Any (exprT ns f n)
  | 0, _, _ => any_nil
  | f + 1, n, hn => by
    have op : ∀ (m : Nd) (l : Nat), WN m → Any (if l ≤ strength m then exprT ns f m else [40] ++ exprT ns f m ++ [41]) := fun m l hm => by
      split
      · exact any_expr h f m hm
      · exact ((any_plain [40] (by decide)).app (any_expr h f m hm)).app (any_plain [41] (by decide))
    rw [exprT]
    dsimp only
    split
    · exact any_dig _
    split
    · exact any_word hn 0
    split
    · exact (any_plain [45] (by decide)).app (op _ _ (words_at h _))
    split
    · exact ((op _ _ (words_at h _)).app (any_sign _)).app (op _ _ (words_at h _))
    · exact any_nil
theorem any_names {n : Nd} (hn : WN n) : Any (namesT n) := (any_head _).app (any_sep (any_plain [124] (by decide)) _ fun x hx => any_plain _ (hn x hx))
theorem any_frac (a b : Int) : Any (fracT a b) := ((any_dig _).app (any_plain [47] (by decide))).app (any_dig _)
theorem any_param {ns : List Nd} (h : Words ns) {n : Nd} (hn : WN n) : Any (paramT ns n) := by
  unfold paramT
  refine (any_word hn 0).app ?_
  split
  · exact any_nil
  · refine (((((any_plain [58, 32] (by decide)).app (any_word hn 1)).app (any_plain [32] (by decide))).app (any_kind _)).app ?_).app (any_flatten _ fun x hx => ?_)
    · split
      · exact (any_plain [32, 108, 101, 97, 115, 116, 32] (by decide)).app (any_frac _ _)
      · exact any_nil
    · obtain ⟨k, _, rfl⟩ := List.mem_map.1 hx
      exact any_names (words_at h k)
theorem any_pairs : ∀ (l : List Txt), (∀ w ∈ l, w.all plainB = true) → ∀ x ∈ pairsT l, Any x
  | [], _, x, hx => by cases hx
  | [a], _, x, hx => by cases hx
  | a :: b :: r, h, x, hx => by
    rw [pairsT] at hx
    rcases List.mem_cons.1 hx with rfl | hx
    · exact ((any_plain a (h a (by simp))).app (any_plain [32] (by decide))).app (any_plain b (h b (by simp)))
    · exact any_pairs r (fun w hw => h w (by simp [hw])) x hx
theorem ends_part {n : Nd} (hn : WN n) : Ends (partT n) := by
  unfold partT
  refine Any.ends ?_ (ends_one (c := 59) (by decide))
  split
  · exact (((((any_plain [111, 112, 32] (by decide)).app (any_word hn 0)).app (any_plain [32] (by decide))).app (any_word hn 1)).app (any_plain [32, 45, 62, 32] (by decide))).app (any_sep (any_plain [44, 32] (by decide)) _ (any_pairs _ fun w hw => hn w (List.mem_of_mem_drop hw)))
  · split
    · exact (any_plain [115, 116, 97, 116, 101, 32] (by decide)).app (any_word hn 0)
    · exact (any_plain [102, 105, 110, 97, 108, 32] (by decide)).app (any_word hn 0)
theorem ends_set {ns : List Nd} (h : Words ns) (f : Nat) {n : Nd} (hn : WN n) : Ends (setT ns f n) := by
  unfold setT
  exact (((any_word hn 0).app (any_plain [32, 61, 32] (by decide))).app (any_expr h f _ (words_at h _))).ends (ends_one (c := 59) (by decide))
theorem any_arg {ns : List Nd} (h : Words ns) (f : Nat) {n : Nd} (hn : WN n) : Any (argT ns f n) := by
  unfold argT
  split
  · exact (any_plain [38] (by decide)).app (any_word hn 0)
  · exact any_expr h f n hn
end Go.Proofs.YthihdddlneclmaaDoor

namespace Go.Proofs.YthihdddlneclmaaDoor
open Go.RowKit

theorem ends_any_app {x y : Txt} (h : Any x) (k : Ends y) : Ends (x ++ y) := h.ends k
theorem ends_block {ns : List Nd} (d : Nat) (f : Nat) (P : Nd → Prop) (m : Nd) (h : KidsOk ns m.kids P) (hs : ∀ n, P n → (∃ k, n = ndAt ns k) → Ends (stmtT ns f (d + 1) n)) : Ends (bracesT d (m.kids.map fun k => stmtT ns f (d + 1) (ndAt ns k))) :=
  ends_braces d _ fun x hx => by
    obtain ⟨k, hk, rfl⟩ := List.mem_map.1 hx
    exact hs _ (h k hk).2.2 ⟨k, rfl⟩
theorem ends_stmt {ns : List Nd} (h : Words ns) : ∀ (f d : Nat) (n : Nd), WN n → StmtOk ns f n → Ends (stmtT ns f d n)
  | 0, _, _, _, hk => hk.elim
  | f + 1, d, n, hn, hk => by
    have ih := fun e n (hs : StmtOk ns f n) (hx : ∃ k, n = ndAt ns k) => ends_stmt h f e n (by obtain ⟨k, rfl⟩ := hx; exact words_at h k) hs
    have blk : ∀ (e : Nat) (m : Nd), BlockOk ns (fun x => StmtOk ns f x) m → Ends (bracesT e (m.kids.map fun k => stmtT ns f (e + 1) (ndAt ns k))) := fun e m hm => ends_block e f _ m hm (ih (e + 1))
    have ex : ∀ m, WN m → Any (exprT ns f m) := fun m hm => any_expr h f m hm
    have els : Any [32, 101, 108, 115, 101] := any_plain _ (by decide)
    rw [StmtOk] at hk
    rcases hk with ⟨hk, _, _⟩ | ⟨hk, _, ⟨j, k, hks⟩, hok⟩ | ⟨hk, _, hok⟩ | ⟨hk, _, _, l, k, hks, _, hok⟩ | ⟨hk, _, _⟩ | ⟨hk, k, r, hks, hr, _, hok⟩ | ⟨hk, j, k, hks, _, hok⟩ | ⟨hk, _⟩ | hk
    · rcases hk with hk | hk
      · have e : stmtT ns (f + 1) d n = [108, 101, 116, 32] ++ setT ns f n := by simp [stmtT, hk]
        rw [e]
        exact (any_plain _ (by decide)).ends (ends_set h f hn)
      · have e : stmtT ns (f + 1) d n = setT ns f n := by simp [stmtT, hk]
        rw [e]
        exact ends_set h f hn
    · have e : stmtT ns (f + 1) d n = [111, 112, 101, 110, 32] ++ word n 0 ++ [32] ++ word n 1 ++ sepT [32, 101, 108, 115, 101] (n.kids.map fun k => bracesT d ((ndAt ns k).kids.map fun k => stmtT ns f (d + 1) (ndAt ns k))) := by simp [stmtT, hk]
      rw [e]
      refine ((((any_plain _ (by decide)).app (any_word hn 0)).app (any_plain [32] (by decide))).app (any_word hn 1)).ends (ends_sep els _ (by rw [hks]; simp) fun x hx => ?_)
      obtain ⟨k, hk, rfl⟩ := List.mem_map.1 hx
      exact blk d _ (hok k hk).2.2
    · have e : stmtT ns (f + 1) d n = [100, 111, 32] ++ word n 0 ++ [46] ++ word n 1 ++ (if n.kids = [] then [59] else bracesT d (n.kids.map fun k => word (ndAt ns k) 0 ++ bracesT (d + 1) ((kidN ns (ndAt ns k) 0).kids.map fun k => stmtT ns f (d + 1 + 1) (ndAt ns k)))) := by simp [stmtT, hk]
      rw [e]
      refine ((((any_plain _ (by decide)).app (any_word hn 0)).app (any_plain [46] (by decide))).app (any_word hn 1)).ends ?_
      split
      · exact ends_one (c := 59) (by decide)
      · refine ends_braces d _ fun x hx => ?_
        obtain ⟨k, hk, rfl⟩ := List.mem_map.1 hx
        obtain ⟨_, k', hk', hb⟩ := (hok k hk).2.2
        refine (any_word (words_at h k) 0).ends (blk (d + 1) _ ?_)
        have e0 : kidN ns (ndAt ns k) 0 = ndAt ns k' := by unfold kidN atI; rw [hk']; rfl
        rw [e0]
        exact (hb k' (by simp)).2.2
    · have e : stmtT ns (f + 1) d n = [115, 112, 108, 105, 116, 32] ++ word n 0 ++ [32, 61, 32] ++ word n 1 ++ [32] ++ kindT (num n 0) ++ [32] ++ fracT (num n 1) (num n 2) ++ ((n.kids.take (n.kids.length - 1)).map fun k => namesT (ndAt ns k)).flatten ++ bracesT d ((kidN ns n (n.kids.length - 1)).kids.map fun k => stmtT ns f (d + 1) (ndAt ns k)) := by simp [stmtT, hk]
      rw [e]
      refine Any.ends ?_ (blk d _ ?_)
      · refine ((((((((any_plain _ (by decide)).app (any_word hn 0)).app (any_plain [32, 61, 32] (by decide))).app (any_word hn 1)).app (any_plain [32] (by decide))).app (any_kind _)).app (any_plain [32] (by decide))).app (any_frac _ _)).app (any_flatten _ fun x hx => ?_)
        obtain ⟨k, _, rfl⟩ := List.mem_map.1 hx
        exact any_names (words_at h k)
      · have e0 : kidN ns n (n.kids.length - 1) = ndAt ns k := by
          unfold kidN atI
          rw [hks]
          simp
        rw [e0]
        exact (hok k (by simp)).2.2
    · have e : stmtT ns (f + 1) d n = [99, 97, 108, 108, 32] ++ (if n.words.length = 2 then word n 1 ++ [32, 61, 32] else []) ++ word n 0 ++ [40] ++ sepT [44, 32] (n.kids.map fun k => argT ns f (ndAt ns k)) ++ [41, 59] := by simp [stmtT, hk]
      rw [e]
      refine Any.ends ?_ (show Ends ([41] ++ [59]) from (any_plain [41] (by decide)).ends (ends_one (c := 59) (by decide)))
      refine ((((any_plain _ (by decide)).app ?_).app (any_word hn 0)).app (any_plain [40] (by decide))).app (any_sep (any_plain [44, 32] (by decide)) _ fun x hx => ?_)
      · split
        · exact (any_word hn 1).app (any_plain [32, 61, 32] (by decide))
        · exact any_nil
      · obtain ⟨k, _, rfl⟩ := List.mem_map.1 hx
        exact any_arg h f (words_at h k)
    · have e : stmtT ns (f + 1) d n = [105, 102, 32] ++ exprT ns f (kidN ns n 0) ++ sepT [32, 101, 108, 115, 101] ((n.kids.drop 1).map fun k => bracesT d ((ndAt ns k).kids.map fun k => stmtT ns f (d + 1) (ndAt ns k))) := by simp [stmtT, hk]
      rw [e]
      refine ((any_plain _ (by decide)).app (ex _ (words_at h _))).ends (ends_sep els _ (by rw [hks]; simpa using hr) fun x hx => ?_)
      obtain ⟨k', hk', rfl⟩ := List.mem_map.1 hx
      rw [hks] at hk'
      exact blk d _ (hok k' (by simpa using hk')).2.2
    · have e : stmtT ns (f + 1) d n = [119, 104, 105, 108, 101, 32] ++ exprT ns f (kidN ns n 0) ++ bracesT d ((kidN ns n 1).kids.map fun k => stmtT ns f (d + 1) (ndAt ns k)) := by simp [stmtT, hk]
      rw [e]
      refine ((any_plain _ (by decide)).app (ex _ (words_at h _))).ends (blk d _ ?_)
      have e0 : kidN ns n 1 = ndAt ns k := by unfold kidN atI; rw [hks]; rfl
      rw [e0]
      exact (hok k (by simp)).2.2
    · have e : stmtT ns (f + 1) d n = [114, 101, 116, 117, 114, 110, 32] ++ exprT ns f (kidN ns n 0) ++ [59] := by simp [stmtT, hk]
      rw [e]
      exact ((any_plain _ (by decide)).app (ex _ (words_at h _))).ends (ends_one (c := 59) (by decide))
    · have e : stmtT ns (f + 1) d n = [101, 120, 105, 116] ++ [59] := by simp [stmtT, hk]
      rw [e]
      exact (any_plain _ (by decide)).ends (ends_one (c := 59) (by decide))
theorem ends_item {ns : List Nd} (h : Words ns) (f : Nat) (n : Nd) (hn : WN n) (hk : ItemOk ns f n) : Ends (itemT ns f n) := by
  rcases hk with ⟨hk, _, hok⟩ | ⟨hk, _, l, k, hks, _, hok⟩
  · unfold itemT
    rw [if_pos hk]
    refine ((any_plain _ (by decide)).app (any_word hn 0)).ends (ends_braces 0 _ fun x hx => ?_)
    obtain ⟨k, _, rfl⟩ := List.mem_map.1 hx
    exact ends_part (words_at h k)
  · unfold itemT
    rw [if_neg (by rw [hk]; decide)]
    refine Any.ends ?_ (ends_block 0 f (fun x => StmtOk ns f x) _ ?_ fun n hs ⟨k, hx⟩ => ends_stmt h f 1 n (by rw [hx]; exact words_at h k) hs)
    · refine ((((any_plain _ (by decide)).app (any_word hn 0)).app (any_plain [40] (by decide))).app (any_sep (any_plain [44, 32] (by decide)) _ fun x hx => ?_)).app (any_plain [41] (by decide))
      obtain ⟨k, _, rfl⟩ := List.mem_map.1 hx
      exact any_param h (words_at h k)
    · have e0 : kidN ns n (n.kids.length - 1) = ndAt ns k := by
        unfold kidN atI
        rw [hks]
        simp
      rw [e0]
      exact (hok k (by simp)).2.2
/-- The bytes of a name are signs. -/
theorem let_plain {c : UInt8} (h : isLD c = true) : plainB c = true := by
  have all : ∀ k : Fin 256, isLD (UInt8.ofNat k.val) = true → plainB (UInt8.ofNat k.val) = true := by decide +kernel
  have := all ⟨c.toNat, c.toNat_lt⟩
  simp only [UInt8.ofNat_toNat] at this
  exact this h
theorem span_all {f : UInt8 → Bool} : ∀ (l : List UInt8), spanL f l = l.length → l.all f = true
  | [], _ => rfl
  | c :: r, h => by
    unfold spanL at h
    rw [List.all_cons]
    cases hc : f c
    · simp [hc] at h
    · simp [hc] at h ⊢
      simpa using span_all r h
theorem name_plain {w : Txt} (h : isName w = true) : w.all plainB = true ∧ w.length ≤ 16 := by
  unfold isName at h
  simp only [Bool.and_eq_true, decide_eq_true_eq] at h
  obtain ⟨⟨⟨_, h16⟩, hs⟩, _⟩ := h
  refine ⟨List.all_eq_true.mpr fun c hc => let_plain (List.all_eq_true.mp (span_all _ hs) c hc), h16⟩
theorem words_right {ns : List Nd} (R : RightP ns) : Words ns := fun n hn w hw => by
  obtain ⟨i, hi⟩ := List.mem_iff_getElem?.mp hn
  exact (name_plain (List.all_eq_true.mp (R.node i n hi).1 w hw)).1
/-- What the law asks of a text. -/
def LineOk (s : Txt) : Prop := (∀ (i : Nat) (c : UInt8), s[i]? = some c → c ≠ 9 ∧ c < 127 ∧ (c = 10 → 0 < i → ∀ b : UInt8, s[i - 1]? = some b → b ≠ 32 ∧ b ≠ 10)) ∧ (s = [] ∨ ∃ y, s = y ++ [10])
theorem run_ok : ∀ (s : Txt) (p q : UInt8), runT p s = some q → (∀ (i : Nat) (c : UInt8), s[i]? = some c → c ≠ 9 ∧ c < 127 ∧ (c = 10 → ∀ b : UInt8, (if i = 0 then some p else s[i - 1]?) = some b → b ≠ 32 ∧ b ≠ 10))
  | [], p, q, h, i, c, hc => by simp at hc
  | a :: r, p, q, h, i, c, hc => by
    rw [runT] at h
    split at h
    · cases h
    · rename_i hb
      cases i with
      | zero =>
        obtain rfl : a = c := by simpa using hc
        refine ⟨fun e => hb (.inl e), by rw [← UInt8.not_le]; exact fun e => hb (.inr (.inl e)), fun e b hb2 => ?_⟩
        obtain rfl : p = b := by simpa using hb2
        exact ⟨fun e2 => hb (.inr (.inr ⟨e, .inl e2⟩)), fun e2 => hb (.inr (.inr ⟨e, .inr e2⟩))⟩
      | succ i =>
        obtain ⟨h1, h2, h3⟩ := run_ok r a q h i c (by simpa using hc)
        refine ⟨h1, h2, fun e b hb2 => h3 e b ?_⟩
        cases i with
        | zero => simpa using hb2
        | succ i => simpa using hb2
theorem show_lines {ns : List Nd} (hr : rightN ns = true) : LineOk (showT ns) := by
  have R := right_says hr
  have W := words_right R
  have e0 : showT ns = linesT 0 ((ndAt ns 0).kids.map fun k => itemT ns ns.length (ndAt ns k)) := by unfold showT; rw [hr]; rfl
  have en : ∀ x ∈ ((ndAt ns 0).kids.map fun k => itemT ns ns.length (ndAt ns k)), Ends x := fun x hx => by
    obtain ⟨k, hk, rfl⟩ := List.mem_map.1 hx
    exact ends_item W _ _ (words_at W k) (item_right R k hk).2.2
  rw [e0]
  generalize ((ndAt ns 0).kids.map fun k => itemT ns ns.length (ndAt ns k)) = L at en
  obtain ⟨q, hq⟩ := any_lines 0 L en 33
  refine ⟨fun i c hc => ?_, ?_⟩
  · obtain ⟨h1, h2, h3⟩ := run_ok _ _ _ hq i c hc
    exact ⟨h1, h2, fun e hi b hb => h3 e b (by rw [if_neg (by omega)]; exact hb)⟩
  · rcases List.eq_nil_or_concat L with rfl | ⟨l, x, rfl⟩
    · exact .inl rfl
    · refine .inr ⟨linesT 0 l ++ (indT 0 ++ x), ?_⟩
      unfold linesT
      simp
theorem show_lines_any (ns : List Nd) : LineOk (showT ns) := by
  cases hr : rightN ns
  · have e0 : showT ns = [] := by unfold showT; rw [hr]; rfl
    rw [e0]
    exact ⟨fun i c hc => by simp at hc, .inl rfl⟩
  · exact show_lines hr
end Go.Proofs.YthihdddlneclmaaDoor

namespace Go.Proofs.YthihdddlneclmaaDoor
open Go.RowKit

/-- How many nodes stand below one, and itself. -/
def szN (ns : List Nd) : Nat → Nd → Nat
  | 0, _ => 1
  | g + 1, n => 1 + (n.kids.map fun k => szN ns g (ndAt ns k)).sum
theorem sz_pos (ns : List Nd) : ∀ g n, 1 ≤ szN ns g n
  | 0, _ => Nat.le_refl _
  | g + 1, n => by rw [szN]; omega
theorem sz_pre (ns : List Nd) : ∀ g k, (preF ns g k).length = szN ns g (ndAt ns k)
  | 0, k => by rw [preF, szN]; rfl
  | g + 1, k => by
    rw [preF, szN, List.length_cons, List.length_flatMap]
    have e : ((ndAt ns k).kids.map fun a => (preF ns g a).length) = (ndAt ns k).kids.map fun k => szN ns g (ndAt ns k) := List.map_congr_left fun a _ => sz_pre ns g a
    rw [e]
    omega
theorem sum_le : ∀ (ks : List Int) (F G : Int → Nat) (C : Nat), (∀ k ∈ ks, F k ≤ C * G k) → (ks.map F).sum ≤ C * (ks.map G).sum
  | [], _, _, C, _ => by simp
  | k :: r, F, G, C, h => by
    have h1 := h k (by simp)
    have h2 := sum_le r F G C fun x hx => h x (by simp [hx])
    simp only [List.map_cons, List.sum_cons, Nat.mul_add]
    omega
theorem sum_const (ls : List Txt) (s c : Nat) (h : ∀ x ∈ ls, x.length ≤ c) : (ls.map fun x => x.length + s).sum ≤ ls.length * (c + s) := by
  induction ls with
  | nil => simp
  | cons x r ih =>
    have h1 := h x (by simp)
    have h2 := ih fun y hy => h y (by simp [hy])
    simp only [List.map_cons, List.sum_cons, List.length_cons, Nat.add_mul]
    omega
theorem ind_len (d : Nat) : (indT d).length = 2 * d := by unfold indT; rw [List.length_replicate]
theorem lines_len (d : Nat) (ls : List Txt) : (linesT d ls).length = (ls.map fun x => 2 * d + x.length + 1).sum := by
  unfold linesT
  rw [List.length_flatten, List.map_map]
  congr 1
  refine List.map_congr_left fun x _ => ?_
  simp only [Function.comp, List.length_append, ind_len, List.length_cons, List.length_nil]
theorem braces_len (d : Nat) (ls : List Txt) : (bracesT d ls).length ≤ (ls.map fun x => 2 * (d + 1) + x.length + 1).sum + 2 * d + 4 := by
  unfold bracesT
  split
  · simp
  · simp only [List.length_append, lines_len, ind_len, List.length_cons, List.length_nil]
    omega
theorem sep_len (s : Txt) : ∀ (ls : List Txt), (sepT s ls).length ≤ (ls.map fun x => x.length + s.length).sum
  | [] => by simp [sepT]
  | [x] => by simp [sepT]
  | x :: y :: r => by
    have := sep_len s (y :: r)
    rw [sepT]
    simp only [List.length_append, List.map_cons, List.sum_cons] at this ⊢
    omega
/-- A node's words and numbers are small, and few. -/
def WF (n : Nd) : Prop := (∀ w ∈ n.words, w.length ≤ 16) ∧ n.words.length ≤ 1000 ∧ ∀ x ∈ n.nums, NumOk x
theorem wf_nd0 : WF nd0 := ⟨(fun w hw => nomatch hw), by decide, (fun w hw => nomatch hw)⟩
theorem word_len {n : Nd} (h : WF n) (k : Nat) : (word n k).length ≤ 16 := by
  unfold word
  cases e : n.words[k]? with
  | none => simp
  | some w => exact h.1 w (List.mem_of_getElem? e)
theorem dig_len {n : Nd} (h : WF n) (k : Nat) : (digT (num n k)).length ≤ 21 := by
  have : NumOk (num n k) := by
    unfold num
    cases e : n.nums[k]? with
    | none => exact ⟨by decide, by decide⟩
    | some x => exact h.2.2 x (List.mem_of_getElem? e)
  unfold NumOk at this
  exact Lib.itoa_length_le _ (by omega) (by omega)
theorem kind_len (k : Int) : (kindT k).length ≤ 6 := by unfold kindT; repeat' split <;> try decide
theorem sign_len (k : Int) : (signT k).length ≤ 4 := by unfold signT; repeat' split <;> try decide
theorem head_len (k : Int) : (headT k).length ≤ 4 := by unfold headT; repeat' split <;> try decide
theorem names_len {n : Nd} (h : WF n) : (namesT n).length ≤ 17004 := by
  unfold namesT
  have h1 := head_len (num n 0)
  have h2 : (sepT [124] n.words).length ≤ (n.words.map fun x : Txt => x.length + 1).sum := sep_len [124] n.words
  have h3 : (n.words.map fun x : Txt => x.length + 1).sum ≤ n.words.length * (16 + 1) := sum_const n.words 1 16 h.1
  have := h.2.1
  simp only [List.length_append]
  have : n.words.length * (16 + 1) ≤ 17000 := by omega
  omega
theorem frac_len {n : Nd} (h : WF n) (i j : Nat) : (fracT (num n i) (num n j)).length ≤ 43 := by
  unfold fracT
  have h1 := dig_len h i
  have h2 := dig_len h j
  simp only [List.length_append, List.length_cons, List.length_nil]
  omega
theorem pairs_len : ∀ (l : List Txt), (∀ w ∈ l, w.length ≤ 16) → (pairsT l).length ≤ l.length ∧ ∀ x ∈ pairsT l, x.length ≤ 33
  | [], _ => ⟨by simp [pairsT], fun x hx => by simp [pairsT] at hx⟩
  | [a], _ => ⟨by simp [pairsT], fun x hx => by simp [pairsT] at hx⟩
  | a :: b :: r, h => by
    obtain ⟨i1, i2⟩ := pairs_len r fun w hw => h w (by simp [hw])
    have ha := h a (by simp)
    have hb := h b (by simp)
    rw [pairsT]
    refine ⟨by simp only [List.length_cons]; omega, fun x hx => ?_⟩
    rcases List.mem_cons.1 hx with rfl | hx
    · simp only [List.length_append, List.length_cons, List.length_nil]; omega
    · exact i2 x hx
theorem part_len {n : Nd} (h : WF n) : (partT n).length ≤ 40000 := by
  have w0 := word_len h 0
  have w1 := word_len h 1
  obtain ⟨p1, p2⟩ := pairs_len (n.words.drop 2) fun w hw => h.1 w (List.mem_of_mem_drop hw)
  have p3 : (sepT [44, 32] (pairsT (n.words.drop 2))).length ≤ ((pairsT (n.words.drop 2)).map fun x : Txt => x.length + 2).sum := sep_len [44, 32] (pairsT (n.words.drop 2))
  have p4 := sum_const _ 2 33 p2
  have := h.2.1
  have p5 : (pairsT (n.words.drop 2)).length ≤ 1000 := by rw [List.length_drop] at p1; omega
  have p6 : (pairsT (n.words.drop 2)).length * (33 + 2) ≤ 35000 := by omega
  unfold partT
  split
  · simp only [List.length_append, List.length_cons, List.length_nil]; omega
  · split <;> simp only [List.length_append, List.length_cons, List.length_nil] <;> omega
section
variable {ns : List Nd} (hw : ∀ k, WF (ndAt ns k))
include hw
theorem kids_len (ks : List Int) (g : Nat) : (ks.map fun k => (namesT (ndAt ns k)).length).sum ≤ 50000 * (ks.map fun k => szN ns g (ndAt ns k)).sum :=
  sum_le ks _ _ _ fun k _ => by
    have := names_len (hw k)
    have := sz_pos ns g (ndAt ns k)
    omega
theorem flatN_len (ks : List Int) (g : Nat) : ((ks.map fun k => namesT (ndAt ns k)).flatten).length ≤ 50000 * (ks.map fun k => szN ns g (ndAt ns k)).sum := by
  rw [List.length_flatten, List.map_map]
  exact kids_len hw ks g
theorem expr_len : ∀ (f g : Nat) (n : Nd), WF n → ExprOk ns f n → f ≤ g → (exprT ns f n).length + 100 ≤ 50000 * szN ns g n
  | 0, _, _, _, h, _ => h.elim
  | f + 1, g, n, hn, h, hg => by
    obtain ⟨g, rfl⟩ : ∃ g', g = g' + 1 := ⟨g - 1, by omega⟩
    have op : ∀ (m : Nd) (l : Nat), WF m → ExprOk ns f m → (if l ≤ strength m then exprT ns f m else [40] ++ exprT ns f m ++ [41]).length + 90 ≤ 50000 * szN ns g m := fun m l hm hx => by
      have := expr_len f g m hm hx (by omega)
      split
      · omega
      · simp only [List.length_append, List.length_cons, List.length_nil]; omega
    obtain ⟨_, ⟨hk, _⟩ | ⟨hk, _⟩ | ⟨hk, k, hi, hkn, hv⟩ | ⟨hk, j, k, hi, hjn, hv, hi2, hkn, hv2⟩⟩ := h
    · have e : exprT ns (f + 1) n = digT (num n 0) := by simp [exprT, hk]
      have := dig_len hn 0
      rw [e, szN]
      omega
    · have e : exprT ns (f + 1) n = word n 0 := by simp [exprT, hk]
      have := word_len hn 0
      rw [e, szN]
      omega
    · obtain ⟨r, hr⟩ : ∃ r, n.kids = (k : Int) :: r := by
        cases hks : n.kids with
        | nil => rw [hks] at hi; simp at hi
        | cons a r => rw [hks] at hi; simp at hi; exact ⟨r, by rw [hi]⟩
      have e : exprT ns (f + 1) n = [45] ++ (if 3 ≤ strength (ndAt ns k) then exprT ns f (ndAt ns k) else [40] ++ exprT ns f (ndAt ns k) ++ [41]) := by
        have e0 : kidN ns n 0 = ndAt ns k := by unfold kidN atI; rw [hr]; rfl
        simp [exprT, hk, e0]
      have := op _ 3 (hw k) hv
      rw [e, szN, hr]
      simp only [List.map_cons, List.sum_cons, List.length_append, List.length_cons, List.length_nil] at this ⊢
      omega
    · obtain ⟨r, hr⟩ : ∃ r, n.kids = (j : Int) :: (k : Int) :: r := by
        match hks : n.kids with
        | [] => rw [hks] at hi; simp at hi
        | [a] => rw [hks] at hi2; simp at hi2
        | a :: b :: r => rw [hks] at hi hi2; simp at hi hi2; exact ⟨r, by rw [hi, hi2]⟩
      have e : exprT ns (f + 1) n = (if max (strength n) 1 ≤ strength (ndAt ns j) then exprT ns f (ndAt ns j) else [40] ++ exprT ns f (ndAt ns j) ++ [41]) ++ signT (num n 0) ++ (if strength n + 1 ≤ strength (ndAt ns k) then exprT ns f (ndAt ns k) else [40] ++ exprT ns f (ndAt ns k) ++ [41]) := by
        have e0 : kidN ns n 0 = ndAt ns j := by unfold kidN atI; rw [hr]; rfl
        have e1 : kidN ns n 1 = ndAt ns k := by unfold kidN atI; rw [hr]; rfl
        simp [exprT, hk, e0, e1]
      have h1 := op _ (max (strength n) 1) (hw j) hv
      have h2 := op _ (strength n + 1) (hw k) hv2
      have h3 := sign_len (num n 0)
      rw [e, szN, hr]
      simp only [List.map_cons, List.sum_cons, List.length_append] at h1 h2 ⊢
      omega
theorem arg_len (f g : Nat) (n : Nd) (hn : WF n) (h : ArgOk ns f n) (hg : f ≤ g) : (argT ns f n).length + 10 ≤ 50000 * szN ns g n := by
  have := word_len hn 0
  have := sz_pos ns g n
  rcases h with ⟨hk, _⟩ | ⟨hk, hv⟩
  · unfold argT
    rw [if_pos hk]
    simp only [List.length_append, List.length_cons, List.length_nil]; omega
  · unfold argT
    rw [if_neg hk]
    have := expr_len hw f g n hn hv hg
    omega
theorem param_len (g : Nat) (n : Nd) (hn : WF n) : (paramT ns n).length + 10 ≤ 50000 * szN ns (g + 1) n := by
  have w0 := word_len hn 0
  have w1 := word_len hn 1
  have h1 := kind_len (num n 0)
  have h2 := frac_len hn 1 2
  have h3 := flatN_len hw n.kids g
  unfold paramT
  rw [szN]
  split
  · simp only [List.length_append, List.length_nil]; omega
  · split <;> simp only [List.length_append, List.length_cons, List.length_nil] <;> omega
theorem block_len (f g d : Nat) (P : Nd → Prop) (m : Nd) (hm : KidsOk ns m.kids P) (hd : d ≤ 3100) (h : ∀ n, WF n → P n → (stmtT ns f (d + 1) n).length + 2 * (d + 1) + 10 ≤ 50000 * szN ns g n) : (bracesT d (m.kids.map fun k => stmtT ns f (d + 1) (ndAt ns k))).length + 40000 ≤ 50000 * szN ns (g + 1) m := by
  have h1 := braces_len d (m.kids.map fun k => stmtT ns f (d + 1) (ndAt ns k))
  rw [List.map_map] at h1
  have h2 := sum_le m.kids (fun k => 2 * (d + 1) + (stmtT ns f (d + 1) (ndAt ns k)).length + 1) (fun k => szN ns g (ndAt ns k)) 50000 fun k hk => by
    have := h _ (hw k) (hm k hk).2.2
    omega
  have e : ((fun x : Txt => 2 * (d + 1) + x.length + 1) ∘ fun k => stmtT ns f (d + 1) (ndAt ns k)) = fun k => 2 * (d + 1) + (stmtT ns f (d + 1) (ndAt ns k)).length + 1 := rfl
  rw [e] at h1
  rw [szN]
  omega
theorem stmt_len : ∀ (f g d : Nat) (n : Nd), WF n → StmtOk ns f n → 3 * f ≤ g → d + 2 * f ≤ 3100 → (stmtT ns f d n).length + 2 * d + 10 ≤ 50000 * szN ns g n
  | 0, _, _, _, _, hk, _, _ => hk.elim
  | f + 1, g, d, n, hn, hk, hg, hd => by
    obtain ⟨g, rfl⟩ : ∃ g', g = g' + 3 := ⟨g - 3, by omega⟩
    have blk : ∀ (e h h2 : Nat) (m : Nd), h2 = h + 1 → g ≤ h → e ≤ d + 1 → BlockOk ns (fun x => StmtOk ns f x) m → (bracesT e (m.kids.map fun k => stmtT ns f (e + 1) (ndAt ns k))).length + 40000 ≤ 50000 * szN ns h2 m := fun e h h2 m e2 hh he hm => by
      subst e2
      exact block_len hw f h e _ m hm (by omega) fun n hn hs => stmt_len f h (e + 1) n hn hs (by omega) (by omega)
    have w0 := word_len hn 0
    have w1 := word_len hn 1
    rw [StmtOk] at hk
    rcases hk with ⟨hk, _, k, hks, hv⟩ | ⟨hk, _, ⟨j, k, hks⟩, hok⟩ | ⟨hk, _, hok⟩ | ⟨hk, _, _, l, k, hks, hol, hok⟩ | ⟨hk, _, hok⟩ | ⟨hk, k, r, hks, hr, hv, hok⟩ | ⟨hk, j, k, hks, hv, hok⟩ | ⟨hk, k, hks, hv⟩ | hk
    · have e0 : kidN ns n 0 = ndAt ns k := by unfold kidN atI; rw [hks]; rfl
      have h1 := expr_len hw f (g + 2) _ (hw k) (hv k (by simp)).2.2 (by omega)
      rcases hk with hk | hk
      · have e : stmtT ns (f + 1) d n = [108, 101, 116, 32] ++ (word n 0 ++ [32, 61, 32] ++ exprT ns f (ndAt ns k) ++ [59]) := by simp [stmtT, hk, setT, e0]
        rw [e, szN, hks]
        simp only [List.map_cons, List.map_nil, List.sum_cons, List.sum_nil, List.length_append, List.length_cons, List.length_nil]
        omega
      · have e : stmtT ns (f + 1) d n = (word n 0 ++ [32, 61, 32] ++ exprT ns f (ndAt ns k) ++ [59]) := by simp [stmtT, hk, setT, e0]
        rw [e, szN, hks]
        simp only [List.map_cons, List.map_nil, List.sum_cons, List.sum_nil, List.length_append, List.length_cons, List.length_nil]
        omega
    · have e : stmtT ns (f + 1) d n = [111, 112, 101, 110, 32] ++ word n 0 ++ [32] ++ word n 1 ++ sepT [32, 101, 108, 115, 101] (n.kids.map fun k => bracesT d ((ndAt ns k).kids.map fun k => stmtT ns f (d + 1) (ndAt ns k))) := by simp [stmtT, hk]
      have h1 := sep_len [32, 101, 108, 115, 101] (n.kids.map fun k => bracesT d ((ndAt ns k).kids.map fun k => stmtT ns f (d + 1) (ndAt ns k)))
      rw [List.map_map] at h1
      have h2 := sum_le n.kids (fun k => (bracesT d ((ndAt ns k).kids.map fun k => stmtT ns f (d + 1) (ndAt ns k))).length + 5) (fun k => szN ns (g + 2) (ndAt ns k)) 50000 fun k hk => by
        have := blk d (g + 1) (g + 2) _ rfl (by omega) (by omega) (hok k hk).2.2
        omega
      have h3 : (sepT [32, 101, 108, 115, 101] (n.kids.map fun k => bracesT d ((ndAt ns k).kids.map fun k => stmtT ns f (d + 1) (ndAt ns k)))).length ≤ 50000 * (n.kids.map fun k => szN ns (g + 2) (ndAt ns k)).sum := Nat.le_trans h1 h2
      rw [e, szN]
      simp only [List.length_append, List.length_cons, List.length_nil]
      omega
    · have e : stmtT ns (f + 1) d n = [100, 111, 32] ++ word n 0 ++ [46] ++ word n 1 ++ (if n.kids = [] then [59] else bracesT d (n.kids.map fun k => word (ndAt ns k) 0 ++ bracesT (d + 1) ((kidN ns (ndAt ns k) 0).kids.map fun k => stmtT ns f (d + 1 + 1) (ndAt ns k)))) := by simp [stmtT, hk]
      have h1 := braces_len d (n.kids.map fun k => word (ndAt ns k) 0 ++ bracesT (d + 1) ((kidN ns (ndAt ns k) 0).kids.map fun k => stmtT ns f (d + 1 + 1) (ndAt ns k)))
      rw [List.map_map] at h1
      have h2 := sum_le n.kids (fun k => 2 * (d + 1) + (word (ndAt ns k) 0 ++ bracesT (d + 1) ((kidN ns (ndAt ns k) 0).kids.map fun k => stmtT ns f (d + 1 + 1) (ndAt ns k))).length + 1) (fun k => szN ns (g + 2) (ndAt ns k)) 50000 fun k hk => by
        obtain ⟨_, k', hk', hb⟩ := (hok k hk).2.2
        have e0 : kidN ns (ndAt ns k) 0 = ndAt ns k' := by unfold kidN atI; rw [hk']; rfl
        rw [e0]
        have := blk (d + 1) g (g + 1) _ rfl (by omega) (by omega) (hb k' (by simp)).2.2
        have := word_len (hw k) 0
        rw [szN, hk']
        simp only [List.map_cons, List.map_nil, List.sum_cons, List.sum_nil, List.length_append]
        omega
      have h3 : (bracesT d (n.kids.map fun k => word (ndAt ns k) 0 ++ bracesT (d + 1) ((kidN ns (ndAt ns k) 0).kids.map fun k => stmtT ns f (d + 1 + 1) (ndAt ns k)))).length ≤ 50000 * (n.kids.map fun k => szN ns (g + 2) (ndAt ns k)).sum + 2 * d + 4 := Nat.le_trans h1 (by have := h2; simp only [Function.comp_def]; omega)
      rw [e, szN]
      split
      · simp only [List.length_append, List.length_cons, List.length_nil]; omega
      · simp only [List.length_append, List.length_cons, List.length_nil]; omega
    · have e : stmtT ns (f + 1) d n = [115, 112, 108, 105, 116, 32] ++ word n 0 ++ [32, 61, 32] ++ word n 1 ++ [32] ++ kindT (num n 0) ++ [32] ++ fracT (num n 1) (num n 2) ++ ((l).map fun k => namesT (ndAt ns k)).flatten ++ bracesT d ((ndAt ns k).kids.map fun k => stmtT ns f (d + 1) (ndAt ns k)) := by
        have e0 : kidN ns n (n.kids.length - 1) = ndAt ns k := by
          unfold kidN atI
          rw [hks]
          simp
        have e1 : n.kids.take (n.kids.length - 1) = l := by rw [hks]; simp
        have e3 : stmtT ns (f + 1) d n = [115, 112, 108, 105, 116, 32] ++ word n 0 ++ [32, 61, 32] ++ word n 1 ++ [32] ++ kindT (num n 0) ++ [32] ++ fracT (num n 1) (num n 2) ++ ((n.kids.take (n.kids.length - 1)).map fun k => namesT (ndAt ns k)).flatten ++ bracesT d ((kidN ns n (n.kids.length - 1)).kids.map fun k => stmtT ns f (d + 1) (ndAt ns k)) := by simp [stmtT, hk]
        rw [e3, e0, e1]
      have h1 := kind_len (num n 0)
      have h2 := frac_len hn 1 2
      have h3 := flatN_len hw l (g + 2)
      have h4 := blk d (g + 1) (g + 2) _ rfl (by omega) (by omega) (hok k (by simp)).2.2
      rw [e, szN, hks]
      simp only [List.map_append, List.sum_append, List.map_cons, List.map_nil, List.sum_cons, List.sum_nil, List.length_append, List.length_cons, List.length_nil] at h3 ⊢
      omega
    · have e : stmtT ns (f + 1) d n = [99, 97, 108, 108, 32] ++ (if n.words.length = 2 then word n 1 ++ [32, 61, 32] else []) ++ word n 0 ++ [40] ++ sepT [44, 32] (n.kids.map fun k => argT ns f (ndAt ns k)) ++ [41, 59] := by simp [stmtT, hk]
      have h1 := sep_len [44, 32] (n.kids.map fun k => argT ns f (ndAt ns k))
      rw [List.map_map] at h1
      have h2 := sum_le n.kids (fun k => (argT ns f (ndAt ns k)).length + 2) (fun k => szN ns (g + 2) (ndAt ns k)) 50000 fun k hk => by
        have := arg_len hw f (g + 2) _ (hw k) (hok k hk).2.2 (by omega)
        omega
      have h3 : (sepT [44, 32] (n.kids.map fun k => argT ns f (ndAt ns k))).length ≤ 50000 * (n.kids.map fun k => szN ns (g + 2) (ndAt ns k)).sum := Nat.le_trans h1 h2
      rw [e, szN]
      split <;> simp only [List.length_append, List.length_cons, List.length_nil] <;> omega
    · have e : stmtT ns (f + 1) d n = [105, 102, 32] ++ exprT ns f (ndAt ns k) ++ sepT [32, 101, 108, 115, 101] (r.map fun k => bracesT d ((ndAt ns k).kids.map fun k => stmtT ns f (d + 1) (ndAt ns k))) := by
        have e0 : kidN ns n 0 = ndAt ns k := by unfold kidN atI; rw [hks]; rfl
        have e1 : n.kids.drop 1 = r := by rw [hks]; rfl
        have e3 : stmtT ns (f + 1) d n = [105, 102, 32] ++ exprT ns f (kidN ns n 0) ++ sepT [32, 101, 108, 115, 101] ((n.kids.drop 1).map fun k => bracesT d ((ndAt ns k).kids.map fun k => stmtT ns f (d + 1) (ndAt ns k))) := by simp [stmtT, hk]
        rw [e3, e0, e1]
      have h0 := expr_len hw f (g + 2) _ (hw k) (hv k (by simp)).2.2 (by omega)
      have h1 := sep_len [32, 101, 108, 115, 101] (r.map fun k => bracesT d ((ndAt ns k).kids.map fun k => stmtT ns f (d + 1) (ndAt ns k)))
      rw [List.map_map] at h1
      have h2 := sum_le r (fun k => (bracesT d ((ndAt ns k).kids.map fun k => stmtT ns f (d + 1) (ndAt ns k))).length + 5) (fun k => szN ns (g + 2) (ndAt ns k)) 50000 fun k hk => by
        have := blk d (g + 1) (g + 2) _ rfl (by omega) (by omega) (hok k hk).2.2
        omega
      have h3 : (sepT [32, 101, 108, 115, 101] (r.map fun k => bracesT d ((ndAt ns k).kids.map fun k => stmtT ns f (d + 1) (ndAt ns k)))).length ≤ 50000 * (r.map fun k => szN ns (g + 2) (ndAt ns k)).sum := Nat.le_trans h1 h2
      rw [e, szN, hks]
      simp only [List.map_cons, List.sum_cons, List.length_append, List.length_cons, List.length_nil]
      omega
    · have e : stmtT ns (f + 1) d n = [119, 104, 105, 108, 101, 32] ++ exprT ns f (ndAt ns j) ++ bracesT d ((ndAt ns k).kids.map fun k => stmtT ns f (d + 1) (ndAt ns k)) := by
        have e0 : kidN ns n 0 = ndAt ns j := by unfold kidN atI; rw [hks]; rfl
        have e1 : kidN ns n 1 = ndAt ns k := by unfold kidN atI; rw [hks]; rfl
        simp [stmtT, hk, e0, e1]
      have h0 := expr_len hw f (g + 2) _ (hw j) (hv j (by simp)).2.2 (by omega)
      have h4 := blk d (g + 1) (g + 2) _ rfl (by omega) (by omega) (hok k (by simp)).2.2
      rw [e, szN, hks]
      simp only [List.map_cons, List.map_nil, List.sum_cons, List.sum_nil, List.length_append, List.length_cons, List.length_nil]
      omega
    · have e : stmtT ns (f + 1) d n = [114, 101, 116, 117, 114, 110, 32] ++ exprT ns f (ndAt ns k) ++ [59] := by
        have e0 : kidN ns n 0 = ndAt ns k := by unfold kidN atI; rw [hks]; rfl
        simp [stmtT, hk, e0]
      have h0 := expr_len hw f (g + 2) _ (hw k) (hv k (by simp)).2.2 (by omega)
      rw [e, szN, hks]
      simp only [List.map_cons, List.map_nil, List.sum_cons, List.sum_nil, List.length_append, List.length_cons, List.length_nil]
      omega
    · have e : stmtT ns (f + 1) d n = [101, 120, 105, 116, 59] := by simp [stmtT, hk]
      rw [e, szN]
      simp only [List.length_cons, List.length_nil]
      omega
theorem item_len (f : Nat) (hf : f ≤ 1500) (n : Nd) (hn : WF n) (h : ItemOk ns f n) : (itemT ns f n).length + 1 ≤ 50000 * szN ns (3 * f + 2) n := by
  have w0 := word_len hn 0
  rcases h with ⟨hk, _, hok⟩ | ⟨hk, _, l, k, hks, hol, hok⟩
  · have h1 := braces_len 0 (n.kids.map fun k => partT (ndAt ns k))
    rw [List.map_map] at h1
    have h2 := sum_le n.kids (fun k => 2 * (0 + 1) + (partT (ndAt ns k)).length + 1) (fun k => szN ns (3 * f + 1) (ndAt ns k)) 50000 fun k hk => by
      have := part_len (hw k)
      have := sz_pos ns (3 * f + 1) (ndAt ns k)
      omega
    have h3 : (bracesT 0 (n.kids.map fun k => partT (ndAt ns k))).length ≤ 50000 * (n.kids.map fun k => szN ns (3 * f + 1) (ndAt ns k)).sum + 4 := Nat.le_trans h1 (by have := h2; simp only [Function.comp_def]; omega)
    unfold itemT
    rw [if_pos hk, szN]
    simp only [List.length_append, List.length_cons, List.length_nil]
    omega
  · have e0 : kidN ns n (n.kids.length - 1) = ndAt ns k := by
      unfold kidN atI
      rw [hks]
      simp
    have e1 : n.kids.take (n.kids.length - 1) = l := by rw [hks]; simp
    have h1 := sep_len [44, 32] (l.map fun k => paramT ns (ndAt ns k))
    rw [List.map_map] at h1
    have h2 := sum_le l (fun k => (paramT ns (ndAt ns k)).length + 2) (fun k => szN ns (3 * f + 1) (ndAt ns k)) 50000 fun k hk => by
      have := param_len hw (3 * f) _ (hw k)
      omega
    have h3 : (sepT [44, 32] (l.map fun k => paramT ns (ndAt ns k))).length ≤ 50000 * (l.map fun k => szN ns (3 * f + 1) (ndAt ns k)).sum := Nat.le_trans h1 h2
    have h4 : (bracesT 0 ((ndAt ns k).kids.map fun k => stmtT ns f 1 (ndAt ns k))).length + 40000 ≤ 50000 * szN ns (3 * f + 1) (ndAt ns k) := block_len hw f (3 * f) 0 _ (ndAt ns k) (hok k (by simp)).2.2 (by omega) fun n hn hs => stmt_len hw f (3 * f) 1 n hn hs (by omega) (by omega)
    unfold itemT
    rw [if_neg (by rw [hk]; decide), e0, e1, szN, hks]
    simp only [List.map_append, List.sum_append, List.map_cons, List.map_nil, List.sum_cons, List.sum_nil, List.length_append, List.length_cons, List.length_nil] at h4 ⊢
    omega
end
theorem wf_right {ns : List Nd} (R : RightP ns) (hf : ∀ d ∈ ns, d.words.length ≤ 1000) (k : Int) : WF (ndAt ns k) := by
  unfold ndAt
  cases e : ns[k.toNat]? with
  | none => exact wf_nd0
  | some n =>
    obtain ⟨h1, h2, _⟩ := R.node _ n e
    exact ⟨fun w hw => (name_plain (List.all_eq_true.mp h1 w hw)).2, hf n (List.mem_of_getElem? e), fun x hx => nums_in h2 hx⟩
/-- A tree's text is short. -/
theorem show_len {ns : List Nd} (hf : ∀ d ∈ ns, d.words.length ≤ 1000) : (showT ns).length ≤ 75000000 := by
  cases hr : rightN ns
  · unfold showT
    rw [hr]
    simp
  · have R := right_says hr
    have hw := wf_right R hf
    cases hp : parT ns with
    | none => rw [rightN_none hp] at hr; cases hr
    | some p =>
      have L := parT_links hp
      have h1 := pre_len L (3 * ns.length + 3) 0 R.some_
      rw [sz_pre] at h1
      have e0 : showT ns = linesT 0 ((ndAt ns 0).kids.map fun k => itemT ns ns.length (ndAt ns k)) := by unfold showT; rw [hr]; rfl
      rw [e0, lines_len, List.map_map]
      have h2 := sum_le (ndAt ns 0).kids (fun k => 2 * 0 + (itemT ns ns.length (ndAt ns k)).length + 1) (fun k => szN ns (3 * ns.length + 2) (ndAt ns k)) 50000 fun k hk => by
        have := item_len hw ns.length R.len _ (hw k) (item_right R k hk).2.2
        omega
      have h3 : szN ns (3 * ns.length + 3) (ndAt ns ((0 : Nat) : Int)) = 1 + ((ndAt ns ((0 : Nat) : Int)).kids.map fun k => szN ns (3 * ns.length + 2) (ndAt ns k)).sum := by rw [szN]
      rw [h3] at h1
      rw [show ((0 : Nat) : Int) = 0 from rfl] at h1
      have := R.len
      have h4 : ((fun x : Txt => 2 * 0 + x.length + 1) ∘ fun k => itemT ns ns.length (ndAt ns k)) = fun k => 2 * 0 + (itemT ns ns.length (ndAt ns k)).length + 1 := rfl
      rw [h4]
      omega
end Go.Proofs.YthihdddlneclmaaDoor
