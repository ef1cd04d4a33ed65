/-
  Tokens in memory; the walk of package lex's Tokens. (Template: by-name.py fills it.)
-/
import Derived.Test.YtmmlmbfnabgobaaDoorLexE
namespace Go.Proofs.YtmmlmbfnabgobaaDoor
open Go.RowKit

/-- The cells of a row of tokens. -/
def tokCells : List Tok → List Value
  | [] => []
  | t :: r => .int .i64 t.1 :: txt t.2.1 :: .int .i64 t.2.2 :: tokCells r
theorem tokCells_length : ∀ l, (tokCells l).length = l.length * 3
  | [] => rfl
  | x :: r => by rw [tokCells, List.length_cons, List.length_cons, List.length_cons, tokCells_length r, List.length_cons]; omega
theorem tokCells_at : ∀ (l : List Tok) (k : Nat) (x : Tok), l[k]? = some x → (tokCells l)[k * 3]? = some (.int .i64 x.1) ∧ (tokCells l)[k * 3 + 1]? = some (txt x.2.1) ∧ (tokCells l)[k * 3 + 2]? = some (.int .i64 x.2.2)
  | [], k, x, h => by simp at h
  | y :: r, 0, x, h => by
    obtain rfl : y = x := by simpa using h
    exact ⟨rfl, rfl, rfl⟩
  | y :: r, k + 1, x, h => by
    rw [List.getElem?_cons_succ] at h
    obtain ⟨a, b, c⟩ := tokCells_at r k x h
    exact ⟨by rw [show (k + 1) * 3 = k * 3 + 1 + 1 + 1 by omega]; exact a, by rw [show (k + 1) * 3 + 1 = k * 3 + 1 + 1 + 1 + 1 by omega]; exact b, by rw [show (k + 1) * 3 + 2 = k * 3 + 2 + 1 + 1 + 1 by omega]; exact c⟩
theorem tokCells_append : ∀ (l m : List Tok), tokCells (l ++ m) = tokCells l ++ tokCells m
  | [], m => rfl
  | x :: r, m => by rw [List.cons_append, tokCells, tokCells, tokCells_append r m]; rfl

/-- A slice of tokens. -/
def TokensAt (w : World) (v : Value) (l : List Tok) : Prop := ∃ A c, v = .slice A l.length c ∧ l.length ≤ c ∧ c ≤ maxLen ∧ Reads w w.heap.size 3 A l.length (tokCells l)
theorem TokensAt.below {w w' : World} {v : Value} {l : List Tok} (h : TokensAt w v l) (hb : Below w.heap.size w w') : TokensAt w' v l := by
  obtain ⟨A, c, h1, h2, h3, h4⟩ := h
  exact ⟨A, c, h1, h2, h3, (h4.below hb).more hb.size⟩
theorem TokensAt.nil (w : World) : TokensAt w (.slice none 0 0) [] := ⟨none, 0, rfl, Nat.le_refl _, by decide, Reads.none_⟩
theorem TokensAt.own {w : World} {base : Nat} {v : Value} {ts : List Tok} (h : w.ownsRow base 32 3 v ts.length (tokCells ts)) : TokensAt w v ts := by
  have h0 := h
  rcases h.2 with ⟨rfl, hn⟩ | ⟨g, cap, cur, rfl, _, hh, hnc, hrest⟩
  · have hts : ts = [] := List.eq_nil_of_length_eq_zero hn
    subst hts
    exact TokensAt.nil w
  · exact ⟨some _, cap, rfl, hnc, hrest.1, Reads.of_own h0⟩
theorem infoTok : (Tryd.prog.info? 32).map (fun i => (i.zero, i.size, i.bytes)) = some (some (.agg #[.int .i64 0, .string ⟨#[]⟩, .int .i64 0]), 3, 32) := by kernel_rfl

/-- One step of the tokens. -/
theorem lex_step (l : List UInt8) (a : Nat) :
    ((readL l a).ok = false → lexR (l.drop a) a = .bad (readL l a).lo) ∧
    ((readL l a).ok = true → (readL l a).kind = 3 → lexR (l.drop a) a = .ok [(3, (l.drop (readL l a).lo).take (readL l a).size, (readL l a).lo)]) ∧
    ((readL l a).ok = true → ¬ (readL l a).kind = 3 → lexR (l.drop a) a = (lexR (l.drop ((readL l a).lo + (readL l a).size)) ((readL l a).lo + (readL l a).size)).push ((readL l a).kind, (l.drop (readL l a).lo).take (readL l a).size, (readL l a).lo) ∧ 1 ≤ (readL l a).size) := by
  unfold readL
  dsimp only
  have e : (l.drop a).drop (blanksL (l.drop a)) = l.drop (a + blanksL (l.drop a)) := List.drop_drop
  generalize hb : blanksL (l.drop a) = b at *
  cases q : l.drop (a + b) with
  | nil =>
    refine ⟨fun h => Bool.noConfusion h, fun _ _ => ?_, fun _ h => absurd rfl h⟩
    rw [q] at e
    have hl : blanksL (l.drop a) = (l.drop a).length := by
      have h1 := blanksL_le (l.drop a)
      have h2 := List.length_drop (i := b) (l := l.drop a)
      rw [e] at h2
      simp only [List.length_nil] at h2
      omega
    rw [lexR_end hl, ← hl, hb]
    rfl
  | cons c r =>
    rw [q] at e
    have kind : (firstL (c :: r)).2.2 = true → (firstL (c :: r)).1 ≠ 3 := by
      rw [firstL_cons]
      split
      · exact fun _ => (by simp)
      · split
        · exact fun _ => (by simp)
        · split
          · exact fun _ => (by simp)
          · exact fun _ => (by simp)
    refine ⟨fun h => ?_, fun h h3 => absurd h3 (kind h), fun h _ => ⟨?_, firstL_pos h⟩⟩
    · rw [lexR_bad (by rw [hb]; exact e) h, hb]
    · rw [lexR_tok (by rw [hb]; exact e) h, hb, ← q, List.drop_drop]

/-- What Tokens answers. -/
def TokPut (w : World) : LexAns → Ending → World → Prop
  | .bad a, e, w' => e = .returned (.tuple #[.slice none 0 0, .agg #[.int .i64 10, .int .i64 a]]) ∧ Below w.heap.size w w'
  | .ok ts, e, w' => ∃ A c, e = .returned (.tuple #[.slice A ts.length c, .agg #[.int .i64 0, .int .i64 0]]) ∧ TokensAt w' (.slice A ts.length c) ts ∧ Below w.heap.size w w'

/-- What stands in memory while Tokens runs. -/
structure TokS (W wr : World) (bs : Nat) (s : ByteArray) (a : Nat) (v : Value) (ts : List Tok) : Prop where
  A : Blk wr (bs + 1) #[.int .i64 a]
  S : Blk wr bs #[.string s]
  F : Blk wr W.heap.size #[.int .i64 0, .int .i64 0]
  own : wr.ownsRow (bs + 2) 32 3 v ts.length (tokCells ts)
  T : StrRow wr 1 signsL
  below : Below W.heap.size W wr
  lt : W.heap.size < bs
  sg : 1 < W.heap.size
section
variable {W wr w' : World} {bs a : Nat} {s : ByteArray} {v : Value} {ts : List Tok}
theorem TokS.keep (h : TokS W wr bs s a v ts) (hb : Below wr.heap.size wr w') : TokS W w' bs s a v ts :=
  ⟨h.A.keep hb, h.S.keep hb, h.F.keep hb, h.own.kept (grown_of_below hb none) (by cases hv : v.ownBlock <;> simp), h.T.below hb, h.below.trans (hb.mono h.below.size), h.lt, h.sg⟩
theorem TokS.read {a' : Nat} (h : TokS W wr bs s a v ts) (hg : wr.grownBy w' (some (bs + 1))) (hA : Blk w' (bs + 1) #[.int .i64 a']) : TokS W w' bs s a' v ts := by
  have hl := h.lt
  have hs := h.sg
  refine ⟨hA, h.S.grown hg (fun e => by have := Option.some.inj e; omega), h.F.grown hg (fun e => by have := Option.some.inj e; omega), h.own.kept hg (.inr fun e => ?_), h.T.grown hg (fun e => by have := Option.some.inj e; omega), h.below.grown hg h.below.size (fun k hk => by have := Option.some.inj hk; omega), hl, hs⟩
  have := (h.own.lt _ e).1
  omega
theorem TokS.push {t : Tok} {v' : Value} (h : TokS W wr bs s a v ts) (hown : w'.ownsRow (bs + 2) 32 3 v' (ts.length + 1) (tokCells ts ++ [.int .i64 t.1, txt t.2.1, .int .i64 t.2.2])) (hg : wr.grownBy w' v.ownBlock) : TokS W w' bs s a v' (ts ++ [t]) := by
  have hl := h.lt
  have hs := h.sg
  have ne : ∀ b, b < bs + 2 → v.ownBlock ≠ some b := fun b hb e => by have := (h.own.lt _ e).1; omega
  refine ⟨h.A.grown hg (ne _ (by omega)), h.S.grown hg (ne _ (by omega)), h.F.grown hg (ne _ (by omega)), ?_, h.T.grown hg (ne _ (by omega)), h.below.grown hg h.below.size (fun k hk => by have := (h.own.lt _ hk).1; omega), hl, hs⟩
  rw [List.length_append, tokCells_append]
  exact hown
end
theorem oneTok (k a : Int) (s : List UInt8) : ∀ u ∈ [Value.int .i64 k, txt s, .int .i64 a], u.oneCell' = true := fun u hu => by
  simp at hu
  rcases hu with rfl | rfl | rfl <;> rfl
theorem txt_of {s : ByteArray} {l : List UInt8} (h : s.data.toList = l) : Value.string s = txt l := by
  subst h
  rfl
end Go.Proofs.YtmmlmbfnabgobaaDoor
