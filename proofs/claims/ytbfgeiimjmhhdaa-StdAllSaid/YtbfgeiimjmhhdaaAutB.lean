/-
  A map that counts texts, in memory; the walks of package auto's fresh at texts and of the function that it makes. (Template: by-name.py fills it.)
-/
import Derived.Test.YtbfgeiimjmhhdaaAutA
namespace Go.Proofs.Ytbfgeiimjmhhdaa
open Go.RowKit Go.Maps

theorem grown_of_below {w w' : World} (h : Below w.heap.size w w') (row : Option Nat) : w.grownBy w' row := ⟨h.os, h.tape, h.output, h.size, fun k hk _ => h.block k hk⟩
theorem grown_set {w : World} {g j : Nat} {u : Value} : w.grownBy (w.setCell ⟨g, j, none⟩ u) (some g) :=
  ⟨rfl, rfl, rfl, by simp [World.setCell], fun k _ hk => Below.heap_setCell _ _ _ _ (fun e => hk (by rw [e]))⟩
theorem grown_below_of {B : Nat} {w w' : World} {row : Option Nat} (hg : w.grownBy w' row) (hB : B ≤ w.heap.size) (hr : ∀ k, row = some k → B ≤ k) : Below B w w' := (Below.refl B w).grown hg hB hr
theorem below_alloc1 (w : World) (a : Obj) : Below w.heap.size w (w.alloc a) := (Below.refl _ _).alloc (Nat.le_refl _) _
theorem belowD (w : World) : Below w.heap.size w w.drew := (Below.refl _ _).drew

theorem lawS : Keyed Try.prog 9 := string_keyed Try.underlying9
theorem zeroI (w : World) : (zeroValue 3).run Try.prog w = .ok (.int .i64 0) w := by kernel_rfl
/-- Block b is a map that holds how often each text stands in L. -/
def MapS (w : World) (b : Nat) (L : List (List UInt8)) : Prop :=
  ∃ D : DataW Unit, w.ownsMap Try.prog 9 (plainElem Try.prog 3) b L.length D ∧ IsMap D ∧ ∀ s : List UInt8, D.atKey (.string s) (.lit (.int .i64 0)) = .lit (.int .i64 (L.count s))
theorem MapS.made (w : World) : MapS (w.alloc (.map #[] 0)) w.heap.size [] := ⟨.map [], World.ownsMap_made _ _ _ _, isMap_empty, fun _ => rfl⟩
theorem MapS.lt {w : World} {b : Nat} {L : List (List UInt8)} (h : MapS w b L) : b < w.heap.size := by
  obtain ⟨D, h1, _⟩ := h
  exact h1.lt
theorem MapS.keepB {w w' : World} {b B : Nat} {L : List (List UInt8)} (h : MapS w b L) (hb : Below B w w') (hlt : b < B) : MapS w' b L := by
  obtain ⟨D, ⟨es, cl, h1, h2⟩, h3⟩ := h
  exact ⟨D, ⟨es, cl, (hb.block b hlt).trans h1, h2⟩, h3⟩
theorem MapS.keep {w w' : World} {b : Nat} {L : List (List UInt8)} (h : MapS w b L) (hb : Below w.heap.size w w') : MapS w' b L := h.keepB hb h.lt
theorem MapS.grown {w w' : World} {row : Option Nat} {b : Nat} {L : List (List UInt8)} (h : MapS w b L) (hg : w.grownBy w' row) (hne : row ≠ some b) : MapS w' b L := by
  have hlt := h.lt
  obtain ⟨D, ⟨es, cl, h1, h2⟩, h3⟩ := h
  exact ⟨D, ⟨es, cl, (hg.block b hlt (fun e => hne e.symm)).trans h1, h2⟩, h3⟩
/-- What is a map is no row of cells. -/
theorem MapS.not_blk {w : World} {b c : Nat} {L : List (List UInt8)} {cs : Array Value} (h : MapS w b L) (k : Blk w c cs) : b ≠ c := by
  rintro rfl
  obtain ⟨D, ⟨es, cl, h1, _⟩, _⟩ := h
  obtain ⟨ty, h2⟩ := k
  rw [h1] at h2
  cases h2
section
variable {w : World} {ops : Array Oper} {rest : List Oper} {o : Oper} {a : Act} {Q : Exit → Act → World → Prop}
theorem wp_lookS (m x : Operand) (t : TypeId) (hg : o.guard = none) (hop : o.op = Op.lookup t m x false) (ht : Try.prog.underlying t = some (.map 9 3)) (b : Nat) (L : List (List UInt8))
    (hm : a.eval m = .map (some b)) (h : MapS w b L) (s : List UInt8) (hx : a.eval x = txt s) (hk : s.length ≤ maxLen)
    (hK : wpList Try.prog ops Q rest (a.put o.dst (.int .i64 (L.count s))) w) : wpList Try.prog ops Q (o :: rest) a w := by
  obtain ⟨D, h1, h2, h3⟩ := h
  refine wpList_lookup_own_int w hg m x t hop 9 3 .i64 lawS ht Try.underlying3 (zeroI w) b _ D hm h1 _ _ hx (WideMaps.keyOf_string_mk Try.underlying9 (by show s.toArray.size ≤ maxLen; rw [List.size_toArray]; exact hk)) ?_
  intro c hat _
  have e := (h3 s).symm.trans hat
  injection e with e
  injection e with _ e
  rw [← e]
  exact hK
theorem wp_putS (m x v : Operand) (t : TypeId) (hg : o.guard = none) (hop : o.op = Op.mapUpdate t m x v) (ht : Try.prog.underlying t = some (.map 9 3)) (b : Nat) (L : List (List UInt8))
    (hm : a.eval m = .map (some b)) (h : MapS w b L) (hn : L.length < maxLen) (s : List UInt8) (hx : a.eval x = txt s) (hv : a.eval v = .int .i64 ((L.count s : Int) + 1)) (hk : s.length ≤ maxLen)
    (hK : ∀ w', MapS w' b (s :: L) → w.grownBy w' (some b) → wpList Try.prog ops Q rest (a.put o.dst undef) w') : wpList Try.prog ops Q (o :: rest) a w := by
  obtain ⟨D, h1, h2, h3⟩ := h
  have hc : L.count s ≤ L.length := List.count_le_length
  refine wpList_mapUpdate_own w hg m x v t hop 9 3 lawS ht _ b _ D hm h1 hn _ _ _ hx hv (WideMaps.keyOf_string_mk Try.underlying9 (by show s.toArray.size ≤ maxLen; rw [List.size_toArray]; exact hk)) (.lit (.int .i64 ((L.count s : Int) + 1))) [] (plainElem_int Try.underlying3 (WalkArith.wf_i64 (by unfold maxLen at hn; omega))) ?_
  intro w' k1 k2
  refine hK w' ⟨_, k1, h2.put _ _, fun u => ?_⟩ k2
  by_cases e : s = u
  · subst e
    rw [List.count_cons_self]
    exact atKey_put_same h2 (by trivial) _ _
  · rw [List.count_cons_of_ne e]
    exact (atKey_put_other (by intro q; injection q with q; exact e q.symm) _ _).trans (h3 u)
end
/-- A function of fresh's stands ready: it has been given the texts of L. -/
structure FreS (w : World) (bx bm : Nat) (L : List (List UInt8)) : Prop where
  box : Blk w bx #[.map (some bm)]
  map : MapS w bm L
theorem FreS.keep {w w' : World} {bx bm : Nat} {L : List (List UInt8)} (h : FreS w bx bm L) (hb : Below w.heap.size w w') : FreS w' bx bm L := ⟨h.box.keep hb, h.map.keep hb⟩
theorem FreS.grown {w w' : World} {row : Option Nat} {bx bm : Nat} {L : List (List UInt8)} (h : FreS w bx bm L) (hg : w.grownBy w' row) (h1 : row ≠ some bx) (h2 : row ≠ some bm) : FreS w' bx bm L := ⟨h.box.grown hg h1, h.map.grown hg h2⟩
end Go.Proofs.Ytbfgeiimjmhhdaa
