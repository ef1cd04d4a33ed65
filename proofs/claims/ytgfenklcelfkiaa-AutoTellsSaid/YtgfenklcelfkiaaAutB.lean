/-
  A map that counts texts, in memory; the walks of package auto's fresh at texts and of the function that it makes. (Template: by-name.py fills it.)
-/
import Derived.Test.YtgfenklcelfkiaaAutA
namespace Go.Proofs.Ytgfenklcelfkiaa
open Go.RowKit Go.Maps

theorem grown_of_below {w w' : World} (h : Below w.heap.size w w') (row : Option Nat) : w.grownBy w' row := ⟨h.os, h.tape, h.output, h.size, fun k hk _ => h.block k hk⟩
theorem grown_set {w : World} {g j : Nat} {u : Value} : w.grownBy (w.setCell ⟨g, j, none⟩ u) (some g) :=
  ⟨rfl, rfl, rfl, by simp [World.setCell], fun k _ hk => Below.heap_setCell _ _ _ _ (fun e => hk (by rw [e]))⟩
theorem grown_below_of {B : Nat} {w w' : World} {row : Option Nat} (hg : w.grownBy w' row) (hB : B ≤ w.heap.size) (hr : ∀ k, row = some k → B ≤ k) : Below B w w' := (Below.refl B w).grown hg hB hr
theorem below_alloc1 (w : World) (a : Obj) : Below w.heap.size w (w.alloc a) := (Below.refl _ _).alloc (Nat.le_refl _) _
theorem belowD (w : World) : Below w.heap.size w w.drew := (Below.refl _ _).drew

theorem lawS : Keyed Try.prog 9 := string_keyed Try.underlying9
theorem zeroI (w : World) : (zeroValue 3).run Try.prog w = .ok (.int .i64 0) w := by kernel_rfl
/-- Block b is a map that holds how often each text stands in L. -/
def MapS (w : World) (b : Nat) (L : List (List UInt8)) : Prop :=
  ∃ D : DataW Unit, w.ownsMap Try.prog 9 (plainElem Try.prog 3) b L.length D ∧ IsMap D ∧ ∀ s : List UInt8, D.atKey (.string s) (.lit (.int .i64 0)) = .lit (.int .i64 (L.count s))
theorem MapS.made (w : World) : MapS (w.alloc (.map #[] 0)) w.heap.size [] := ⟨.map [], World.ownsMap_made _ _ _ _, isMap_empty, fun _ => rfl⟩
theorem MapS.lt {w : World} {b : Nat} {L : List (List UInt8)} (h : MapS w b L) : b < w.heap.size := by
  obtain ⟨D, h1, _⟩ := h
  exact h1.lt
theorem MapS.keepB {w w' : World} {b B : Nat} {L : List (List UInt8)} (h : MapS w b L) (hb : Below B w w') (hlt : b < B) : MapS w' b L := by
  obtain ⟨D, ⟨es, cl, h1, h2⟩, h3⟩ := h
  exact ⟨D, ⟨es, cl, (hb.block b hlt).trans h1, h2⟩, h3⟩
theorem MapS.keep {w w' : World} {b : Nat} {L : List (List UInt8)} (h : MapS w b L) (hb : Below w.heap.size w w') : MapS w' b L := h.keepB hb h.lt
theorem MapS.grown {w w' : World} {row : Option Nat} {b : Nat} {L : List (List UInt8)} (h : MapS w b L) (hg : w.grownBy w' row) (hne : row ≠ some b) : MapS w' b L := by
  have hlt := h.lt
  obtain ⟨D, ⟨es, cl, h1, h2⟩, h3⟩ := h
  exact ⟨D, ⟨es, cl, (hg.block b hlt (fun e => hne e.symm)).trans h1, h2⟩, h3⟩
/-- What is a map is no row of cells. -/
theorem MapS.not_blk {w : World} {b c : Nat} {L : List (List UInt8)} {cs : Array Value} (h : MapS w b L) (k : Blk w c cs) : b ≠ c := by
  rintro rfl
  obtain ⟨D, ⟨es, cl, h1, _⟩, _⟩ := h
  obtain ⟨ty, h2⟩ := k
  rw [h1] at h2
  cases h2
section
variable {w : World} {ops : Array Oper} {rest : List Oper} {o : Oper} {a : Act} {Q : Exit → Act → World → Prop}
theorem wp_lookS (m x : Operand) (t : TypeId) (hg : o.guard = none) (hop : o.op = Op.lookup t m x false) (ht : Try.prog.underlying t = some (.map 9 3)) (b : Nat) (L : List (List UInt8))
    (hm : a.eval m = .map (some b)) (h : MapS w b L) (s : List UInt8) (hx : a.eval x = txt s) (hk : s.length ≤ maxLen)
    (hK : wpList Try.prog ops Q rest (a.put o.dst (.int .i64 (L.count s))) w) : wpList Try.prog ops Q (o :: rest) a w := by
  obtain ⟨D, h1, h2, h3⟩ := h
  refine wpList_lookup_own_int w hg m x t hop 9 3 .i64 lawS ht Try.underlying3 (zeroI w) b _ D hm h1 _ _ hx (WideMaps.keyOf_string_mk Try.underlying9 (by show s.toArray.size ≤ maxLen; rw [List.size_toArray]; exact hk)) ?_
  intro c hat _
  have e := (h3 s).symm.trans hat
  injection e with e
  injection e with _ e
  rw [← e]
  exact hK
theorem wp_putS (m x v : Operand) (t : TypeId) (hg : o.guard = none) (hop : o.op = Op.mapUpdate t m x v) (ht : Try.prog.underlying t = some (.map 9 3)) (b : Nat) (L : List (List UInt8))
    (hm : a.eval m = .map (some b)) (h : MapS w b L) (hn : L.length < maxLen) (s : List UInt8) (hx : a.eval x = txt s) (hv : a.eval v = .int .i64 ((L.count s : Int) + 1)) (hk : s.length ≤ maxLen)
    (hK : ∀ w', MapS w' b (s :: L) → w.grownBy w' (some b) → wpList Try.prog ops Q rest (a.put o.dst undef) w') : wpList Try.prog ops Q (o :: rest) a w := by
  obtain ⟨D, h1, h2, h3⟩ := h
  have hc : L.count s ≤ L.length := List.count_le_length
  refine wpList_mapUpdate_own w hg m x v t hop 9 3 lawS ht _ b _ D hm h1 hn _ _ _ hx hv (WideMaps.keyOf_string_mk Try.underlying9 (by show s.toArray.size ≤ maxLen; rw [List.size_toArray]; exact hk)) (.lit (.int .i64 ((L.count s : Int) + 1))) [] (plainElem_int Try.underlying3 (WalkArith.wf_i64 (by unfold maxLen at hn; omega))) ?_
  intro w' k1 k2
  refine hK w' ⟨_, k1, h2.put _ _, fun u => ?_⟩ k2
  by_cases e : s = u
  · subst e
    rw [List.count_cons_self]
    exact atKey_put_same h2 (by trivial) _ _
  · rw [List.count_cons_of_ne e]
    exact (atKey_put_other (by intro q; injection q with q; exact e q.symm) _ _).trans (h3 u)
end
/-- The function that fresh makes at texts, with its variable's block. -/
def frF (bx : Nat) : Value := .func (.func 52) #[] #[.pointer (some ⟨bx, 0, none⟩)]
/-- A function of fresh's stands ready: it has been given the texts of L. -/
structure FreS (w : World) (bx bm : Nat) (L : List (List UInt8)) : Prop where
  box : Blk w bx #[.map (some bm)]
  map : MapS w bm L
theorem FreS.keep {w w' : World} {bx bm : Nat} {L : List (List UInt8)} (h : FreS w bx bm L) (hb : Below w.heap.size w w') : FreS w' bx bm L := ⟨h.box.keep hb, h.map.keep hb⟩
theorem FreS.grown {w w' : World} {row : Option Nat} {bx bm : Nat} {L : List (List UInt8)} (h : FreS w bx bm L) (hg : w.grownBy w' row) (h1 : row ≠ some bx) (h2 : row ≠ some bm) : FreS w' bx bm L := ⟨h.box.grown hg h1, h.map.grown hg h2⟩
set_option maxHeartbeats 1000000 in
theorem fresh_any (w : World) : Calls Try.prog 29 #[] w fun e w' => ∃ bx bm, e = .returned (frF bx) ∧ FreS w' bx bm [] ∧ w.heap.size ≤ bx ∧ w.heap.size ≤ bm ∧ Below w.heap.size w w' := by
  have hmm := @run_makeMap Try.prog
  have hmf : ∀ (fn : Fn) (first cap : Array Value) (w : World), (Instr.makeFunc fn first cap).run Try.prog w = .ok (.func fn first cap) w := fun _ _ _ _ => rfl
  go_enter Try.func29, Try.ntmps29
  go_wp2_with fail
  go_ret
  have a1 := below_alloc1 w (.map #[] 0)
  have a2 := below_alloc1 (w.alloc (.map #[] 0)) (.cells #[.map (some w.heap.size)] 83)
  have b := Blk.start (w.alloc (.map #[] 0)) #[.map (some w.heap.size)] 83
  rw [World.size_alloc] at b
  exact ⟨w.heap.size + 1, w.heap.size, rfl, ⟨b, (MapS.made w).keep a2⟩, Nat.le_succ _, Nat.le_refl _, a1.trans (a2.mono a1.size)⟩
set_option maxHeartbeats 1000000 in
theorem fresh1_any (w : World) (bx bm : Nat) (L : List (List UInt8)) (s : List UInt8) (h : FreS w bx bm L) (hn : L.length < 1000000) (hs : s.length ≤ maxLen) :
    Calls Try.prog 52 #[txt s, .pointer (some ⟨bx, 0, none⟩)] w fun e w' => e = .returned (.bool (!L.contains s)) ∧ FreS w' bx bm (s :: L) ∧ w.grownBy w' (some bm) := by
  have c0 := h.box.cell 0
  have HH := Lib.hid h
  have hc : L.count s ≤ L.length := List.count_le_length
  have wk : IntKind.i64.wrap ((L.count s : Int) + 1) = (L.count s : Int) + 1 := IntWalk.i64_in _ (by omega)
  have hct : (L.contains s = true ∧ ¬ ((L.count s : Int) + 1 = 1)) ∨ (L.contains s = false ∧ (L.count s : Int) + 1 = 1) := by
    cases q : L.contains s with
    | true =>
      have := List.count_pos_iff.mpr (List.contains_iff_mem.mp q)
      exact .inl ⟨rfl, by omega⟩
    | false =>
      have := List.count_eq_zero.mpr (fun m => by rw [List.contains_iff_mem.mpr m] at q; cases q)
      exact .inr ⟨rfl, by omega⟩
  simp only [List.getElem?_toArray, List.getElem?_cons_zero] at c0
  have K := Lib.hid (And.intro hn hs)
  clear h hn hs hc
  generalize L.contains s = B at *
  have HT := Lib.hid hct
  clear hct
  generalize hC : L.count s = C at *
  have HC := Lib.hid hC
  clear hC
  go_enter Try.func52, Try.ntmps52
  go_upto_region 2 with (first
    | (at_lookup; refine wp_lookS _ _ _ rfl rfl Try.underlying83 bm L rfl HH.out.map s rfl K.out.2 ?_; rw [HC.out])
    | (at_mapUpdate; refine wp_putS _ _ _ _ rfl rfl Try.underlying83 bm L rfl HH.out.map (by have := K.out.1; unfold maxLen; omega) s rfl (by first | (rw [HC.out]; rfl) | (rw [HC.out]; simp [wk]; done)) K.out.2 ?_; intro w1 hm1 hg1; have H1 := Lib.hid (And.intro hm1 hg1); clear hm1 hg1))
  have hb1 := HH.out.box.grown H1.out.2 (fun e => by injection e with e; exact HH.out.map.not_blk HH.out.box e)
  have c1 := hb1.cell 0
  simp only [List.getElem?_toArray, List.getElem?_cons_zero] at c1
  have H2 := Lib.hid (And.intro (FreS.mk hb1 H1.out.1) H1.out.2)
  have HC2 := Lib.hid (show (s :: L).count s = C + 1 from by rw [List.count_cons_self, HC.out])
  clear hb1 H1
  go_wp2_with (at_lookup; refine wp_lookS _ _ _ rfl rfl Try.underlying83 bm (s :: L) rfl H2.out.1.map s rfl K.out.2 ?_; rw [HC2.out])
  go_ret
  refine ⟨?_, H2.out⟩
  show Ending.returned (.bool ((C : Int) + 1 == 1)) = _
  rcases HT.out with ⟨q, i1⟩ | ⟨q, i1⟩
  · rw [q, show ((C : Int) + 1 == 1) = false from beq_eq_false_iff_ne.mpr i1]
    rfl
  · rw [q, show ((C : Int) + 1 == 1) = true from beq_iff_eq.mpr i1]
    rfl
end Go.Proofs.Ytgfenklcelfkiaa
