/-
  Names collected, each once: the plain words, and the state in memory. (Template: by-name.py fills it.)
-/
import Derived.Test.YtgfenklcelfkiaaAutEc
import Derived.Test.YtgfenklcelfkiaaAutSq
namespace Go.Proofs.Ytgfenklcelfkiaa
open Go.RowKit

/-! ### Plain -/
/-- A name is added, if it isn't there. -/
def addL (L : List (List UInt8)) (s : List UInt8) : List (List UInt8) := if L.contains s then L else L ++ [s]
def outM (op : List UInt8) (L : List (List UInt8)) (m : Mov) : List (List UInt8) := if m.op = op then m.outs.foldl (fun L o => addL L o.name) L else L
/-- The names of an operation's outcomes; the operations. -/
def outcomesL (p : Pro) (op : List UInt8) : List (List UInt8) := p.moves.foldl (outM op) []
def opsL (p : Pro) : List (List UInt8) := p.moves.foldl (fun L m => addL L m.op) []
theorem addL_mem {L : List (List UInt8)} {s t : List UInt8} : t ∈ addL L s ↔ t ∈ L ∨ t = s := by
  unfold addL
  split
  · rename_i h
    constructor
    · exact .inl
    · rintro (a | rfl)
      · exact a
      · exact List.contains_iff_mem.mp h
  · simp
theorem addL_len (L : List (List UInt8)) (s : List UInt8) : (addL L s).length ≤ L.length + 1 := by
  unfold addL
  split
  · omega
  · simp
theorem outs_mem (os : List Ou) : ∀ (L : List (List UInt8)) (t : List UInt8), t ∈ os.foldl (fun L o => addL L o.name) L ↔ t ∈ L ∨ ∃ o ∈ os, o.name = t := by
  induction os with
  | nil => intro L t; simp
  | cons x r ih =>
    intro L t
    rw [List.foldl_cons, ih, addL_mem]
    constructor
    · rintro ((a | rfl) | ⟨o, ho, e⟩)
      · exact .inl a
      · exact .inr ⟨x, List.mem_cons_self .., rfl⟩
      · exact .inr ⟨o, List.mem_cons_of_mem _ ho, e⟩
    · rintro (a | ⟨o, ho, e⟩)
      · exact .inl (.inl a)
      · rcases List.mem_cons.1 ho with rfl | ho
        · exact .inl (.inr e.symm)
        · exact .inr ⟨o, ho, e⟩
theorem outMs_mem (op : List UInt8) (ms : List Mov) : ∀ (L : List (List UInt8)) (t : List UInt8), t ∈ ms.foldl (outM op) L ↔ t ∈ L ∨ ∃ m ∈ ms, m.op = op ∧ ∃ o ∈ m.outs, o.name = t := by
  induction ms with
  | nil => intro L t; simp
  | cons x r ih =>
    intro L t
    have e : t ∈ outM op L x ↔ t ∈ L ∨ (x.op = op ∧ ∃ o ∈ x.outs, o.name = t) := by
      unfold outM
      split
      · rename_i h
        rw [outs_mem]
        simp [h]
      · rename_i h
        simp [h]
    rw [List.foldl_cons, ih, e]
    constructor
    · rintro ((a | a) | ⟨m, hm, a⟩)
      · exact .inl a
      · exact .inr ⟨x, List.mem_cons_self .., a⟩
      · exact .inr ⟨m, List.mem_cons_of_mem _ hm, a⟩
    · rintro (a | ⟨m, hm, a⟩)
      · exact .inl (.inl a)
      · rcases List.mem_cons.1 hm with rfl | hm
        · exact .inl (.inr a)
        · exact .inr ⟨m, hm, a⟩
theorem outcomesL_mem (p : Pro) (op t : List UInt8) : t ∈ outcomesL p op ↔ ∃ m ∈ p.moves, m.op = op ∧ ∃ o ∈ m.outs, o.name = t := by
  unfold outcomesL
  rw [outMs_mem]
  simp
theorem opMs_mem (ms : List Mov) : ∀ (L : List (List UInt8)) (t : List UInt8), t ∈ ms.foldl (fun L m => addL L m.op) L ↔ t ∈ L ∨ ∃ m ∈ ms, m.op = t := by
  induction ms with
  | nil => intro L t; simp
  | cons x r ih =>
    intro L t
    rw [List.foldl_cons, ih, addL_mem]
    constructor
    · rintro ((a | rfl) | ⟨o, ho, e⟩)
      · exact .inl a
      · exact .inr ⟨x, List.mem_cons_self .., rfl⟩
      · exact .inr ⟨o, List.mem_cons_of_mem _ ho, e⟩
    · rintro (a | ⟨o, ho, e⟩)
      · exact .inl (.inl a)
      · rcases List.mem_cons.1 ho with rfl | ho
        · exact .inl (.inr e.symm)
        · exact .inr ⟨o, ho, e⟩
theorem opsL_mem (p : Pro) (t : List UInt8) : t ∈ opsL p ↔ ∃ m ∈ p.moves, m.op = t := by
  unfold opsL
  rw [opMs_mem]
  simp
theorem outs_len (os : List Ou) : ∀ (L : List (List UInt8)), (os.foldl (fun L o => addL L o.name) L).length ≤ L.length + os.length := by
  induction os with
  | nil => intro L; simp
  | cons x r ih =>
    intro L
    have := ih (addL L x.name)
    have := addL_len L x.name
    rw [List.foldl_cons, List.length_cons]
    omega
theorem outMs_len (op : List UInt8) (ms : List Mov) : ∀ (L : List (List UInt8)), (∀ m ∈ ms, m.outs.length ≤ 80) → (ms.foldl (outM op) L).length ≤ L.length + 80 * ms.length := by
  induction ms with
  | nil => intro L _; simp
  | cons x r ih =>
    intro L h
    have := ih (outM op L x) (fun m hm => h m (List.mem_cons_of_mem _ hm))
    have hx := h x (List.mem_cons_self ..)
    have : (outM op L x).length ≤ L.length + 80 := by
      unfold outM
      split
      · have := outs_len x.outs L; omega
      · omega
    rw [List.foldl_cons, List.length_cons]
    omega
theorem opMs_len (ms : List Mov) : ∀ (L : List (List UInt8)), (ms.foldl (fun L m => addL L m.op) L).length ≤ L.length + ms.length := by
  induction ms with
  | nil => intro L; simp
  | cons x r ih =>
    intro L
    have := ih (addL L x.op)
    have := addL_len L x.op
    rw [List.foldl_cons, List.length_cons]
    omega
theorem outM_next {ms : List Mov} {k : Nat} {m : Mov} (op : List UInt8) (h : ms[k]? = some m) : (ms.take (k + 1)).foldl (outM op) [] = outM op ((ms.take k).foldl (outM op) []) m := by
  rw [List.take_add_one, h, List.foldl_append]; rfl
theorem outO_next {os : List Ou} {k : Nat} {o : Ou} (L : List (List UInt8)) (h : os[k]? = some o) : (os.take (k + 1)).foldl (fun L o => addL L o.name) L = addL ((os.take k).foldl (fun L o => addL L o.name) L) o.name := by
  rw [List.take_add_one, h, List.foldl_append]; rfl
theorem opM_next {ms : List Mov} {k : Nat} {m : Mov} (h : ms[k]? = some m) : (ms.take (k + 1)).foldl (fun L m => addL L m.op) [] = addL ((ms.take k).foldl (fun L m => addL L m.op) []) m.op := by
  rw [List.take_add_one, h, List.foldl_append]; rfl

/-! ### In memory -/
/-- A row of texts of the call's own. -/
def TxtOwn (w : World) (B : Nat) (v : Value) (L : List (List UInt8)) : Prop := w.ownsRow B 9 1 v L.length (L.map txt)
/-- The names so far, and a function of fresh's that has been given just these. -/
structure NamS (w0 wr : World) (bx bm : Nat) (v : Value) (n : Nat) (L : List (List UInt8)) : Prop where
  fre : ∃ seen, FreS wr bx bm seen ∧ (∀ s, seen.contains s = L.contains s) ∧ seen.length ≤ n
  own : TxtOwn wr w0.heap.size v L
  len : L.length ≤ n
  off : ∀ k, v.ownBlock = some k → k ≠ bx ∧ k ≠ bm
  below : Below w0.heap.size w0 wr
  ge : w0.heap.size ≤ bx ∧ w0.heap.size ≤ bm
theorem NamS.keep {w0 wr w2 : World} {bx bm n : Nat} {v : Value} {L : List (List UInt8)} (h : NamS w0 wr bx bm v n L) (hb : Below wr.heap.size wr w2) : NamS w0 w2 bx bm v n L := by
  obtain ⟨s, h1, h2, h3⟩ := h.fre
  exact ⟨⟨s, h1.keep hb, h2, h3⟩, ownRow_below h.own hb, h.len, h.off, h.below.trans (hb.mono h.below.size), h.ge⟩
theorem NamS.more {w0 wr : World} {bx bm n n' : Nat} {v : Value} {L : List (List UInt8)} (h : NamS w0 wr bx bm v n L) (hn : n ≤ n') : NamS w0 wr bx bm v n' L := by
  obtain ⟨s, h1, h2, h3⟩ := h.fre
  exact ⟨⟨s, h1, h2, Nat.le_trans h3 hn⟩, h.own, Nat.le_trans h.len hn, h.off, h.below, h.ge⟩
/-- The names so far while the function has been asked: it knows s, the row doesn't yet. -/
structure NamT (w0 wr : World) (bx bm : Nat) (v : Value) (n : Nat) (L : List (List UInt8)) (s : List UInt8) : Prop where
  fre : ∃ seen, FreS wr bx bm (s :: seen) ∧ (∀ s, seen.contains s = L.contains s) ∧ seen.length ≤ n
  own : TxtOwn wr w0.heap.size v L
  len : L.length ≤ n
  off : ∀ k, v.ownBlock = some k → k ≠ bx ∧ k ≠ bm
  below : Below w0.heap.size w0 wr
  ge : w0.heap.size ≤ bx ∧ w0.heap.size ≤ bm
theorem NamT.keep {w0 wr w2 : World} {bx bm n : Nat} {v : Value} {L : List (List UInt8)} {s : List UInt8} (h : NamT w0 wr bx bm v n L s) (hb : Below wr.heap.size wr w2) : NamT w0 w2 bx bm v n L s := by
  obtain ⟨s', h1, h2, h3⟩ := h.fre
  exact ⟨⟨s', h1.keep hb, h2, h3⟩, ownRow_below h.own hb, h.len, h.off, h.below.trans (hb.mono h.below.size), h.ge⟩
/-- The function is asked. -/
theorem nam_ask {w0 wr : World} {bx bm n : Nat} {v : Value} {L : List (List UInt8)} (h : NamS w0 wr bx bm v n L) (s : List UInt8) (hn : n < 1000000) (hs : s.length ≤ maxLen) :
    Calls Try.prog 52 #[txt s, .pointer (some ⟨bx, 0, none⟩)] wr fun e w' => e = .returned (.bool (!L.contains s)) ∧ NamT w0 w' bx bm v n L s ∧ wr.grownBy w' (some bm) := by
  obtain ⟨seen, h1, h2, h3⟩ := h.fre
  refine (fresh1_any wr bx bm seen s h1 (by omega) hs).mono ?_
  rintro e w' ⟨he, hf, hg⟩
  refine ⟨by rw [he, h2], ⟨⟨seen, hf, h2, h3⟩, ?_, h.len, h.off, h.below.trans (grown_below_of hg h.below.size (fun k hk => by injection hk with hk; have := h.ge.2; omega)), h.ge⟩, hg⟩
  exact h.own.kept hg (.inr (fun e => (h.off bm e).2 rfl))
theorem contains_cons {seen L : List (List UInt8)} {s : List UInt8} (h : ∀ t, seen.contains t = L.contains t) (t : List UInt8) : (s :: seen).contains t = (addL L s).contains t := by
  rw [Bool.eq_iff_iff, List.contains_iff_mem, List.contains_iff_mem, addL_mem, List.mem_cons]
  have := h t
  rw [Bool.eq_iff_iff, List.contains_iff_mem, List.contains_iff_mem] at this
  rw [this]
  exact Or.comm
theorem NamT.old {w0 wr : World} {bx bm n : Nat} {v : Value} {L : List (List UInt8)} {s : List UInt8} (h : NamT w0 wr bx bm v n L s) (hc : L.contains s = true) : NamS w0 wr bx bm v (n + 1) (addL L s) := by
  obtain ⟨seen, h1, h2, h3⟩ := h.fre
  have e : addL L s = L := by unfold addL; rw [if_pos hc]
  refine ⟨⟨_, h1, contains_cons h2, by rw [List.length_cons]; omega⟩, by rw [e]; exact h.own, by rw [e]; have := h.len; omega, h.off, h.below, h.ge⟩
/-- The name is appended. -/
theorem NamT.put {w0 wr w2 : World} {bx bm n : Nat} {v v' : Value} {L : List (List UInt8)} {s : List UInt8} (h : NamT w0 wr bx bm v n L s) (hc : L.contains s = false) (hown : w2.ownsRow w0.heap.size 9 1 v' (L.length + 1) (L.map txt ++ [txt s])) (hg : wr.grownBy w2 v.ownBlock) (hl : v'.ownBlock = v.ownBlock ∨ v'.ownBlock = some wr.heap.size) : NamS w0 w2 bx bm v' (n + 1) (addL L s) := by
  obtain ⟨seen, h1, h2, h3⟩ := h.fre
  have e : addL L s = L ++ [s] := by unfold addL; rw [if_neg (by rw [hc]; simp)]
  have l1 := h1.box.lt
  have l2 := h1.map.lt
  refine ⟨⟨_, h1.grown hg (fun q => (h.off bx q).1 rfl) (fun q => (h.off bm q).2 rfl), contains_cons h2, by rw [List.length_cons]; omega⟩, ?_, by rw [e, List.length_append, List.length_singleton]; have := h.len; omega, ?_, h.below.trans (grown_below_of hg h.below.size (fun k hk => (h.own.lt k hk).1)), h.ge⟩
  · rw [e]
    unfold TxtOwn
    rw [List.length_append, List.length_singleton, List.map_append]
    exact hown
  · intro k hk
    rcases hl with q | q
    · exact h.off k (q ▸ hk)
    · rw [q] at hk
      injection hk with hk
      omega
end Go.Proofs.Ytgfenklcelfkiaa
