/-
  Blocks known whole; the walk of the function that package lex's reader makes. (Template: by-name.py fills it.)
-/
import Derived.Test.YtmmlmbfnabgobaaDoorLexD
import Derived.OneCell
import Derived.StillTailTactics
import Derived.BigRegion
import Derived.Deep.RegionHeld3
import Derived.Deep.Cut
namespace Go.Proofs.YtmmlmbfnabgobaaDoor
open Go.RowKit

/-- A block that may be written, with all its cells. -/
def Blk (w : World) (b : Nat) (cs : Array Value) : Prop := ∃ ty, w.heap[b]? = some (.cells cs ty (0, 0))
section
variable {w w' : World} {b : Nat} {cs : Array Value}
theorem Blk.cell (h : Blk w b cs) (i : Nat) : w.cell? ⟨b, i, none⟩ = cs[i]? := by
  obtain ⟨ty, h⟩ := h
  simp [World.cell?, h]
theorem Blk.free (h : Blk w b cs) (i : Nat) : w.frozen? ⟨b, i, none⟩ = false := by
  obtain ⟨ty, h⟩ := h
  simp [World.frozen?, h]
theorem Blk.lt (h : Blk w b cs) : b < w.heap.size := by
  obtain ⟨ty, h⟩ := h
  exact lt_of_block h
theorem Blk.start (w : World) (cs : Array Value) (ty : TypeId) : Blk (w.alloc (.cells cs ty)) w.heap.size cs := ⟨ty, heap_alloc_new _ _⟩
theorem Blk.keepB {B : Nat} (h : Blk w b cs) (hb : Below B w w') (hlt : b < B) : Blk w' b cs := by
  obtain ⟨ty, h⟩ := h
  exact ⟨ty, (hb.block b hlt).trans h⟩
theorem Blk.keep (h : Blk w b cs) (hb : Below w.heap.size w w') : Blk w' b cs := h.keepB hb h.lt
theorem Blk.grown {row : Option Nat} (h : Blk w b cs) (hg : w.grownBy w' row) (hne : row ≠ some b) : Blk w' b cs := by
  have hl := h.lt
  obtain ⟨ty, h⟩ := h
  exact ⟨ty, (hg.block b hl (fun e => hne e.symm)).trans h⟩
theorem Blk.other (h : Blk w b cs) {p : Addr} (hp : p.block ≠ b) (v : Value) : Blk (w.setCell p v) b cs := by
  obtain ⟨ty, h⟩ := h
  exact ⟨ty, by rw [Below.heap_setCell _ _ _ _ (fun e => hp e.symm)]; exact h⟩
theorem Blk.set (h : Blk w b cs) (i : Nat) (v : Value) : Blk (w.setCell ⟨b, i, none⟩ v) b (cs.setIfInBounds i v) := by
  have hlt := h.lt
  obtain ⟨ty, h⟩ := h
  refine ⟨ty, ?_⟩
  have h' : w.heap[b] = .cells cs ty (0, 0) := by simpa [Array.getElem?_eq_getElem hlt] using h
  show (w.heap.modify b _)[b]? = _
  rw [Array.getElem?_eq_getElem (by simpa using hlt), Array.getElem_modify_self, h']
  rfl
theorem Blk.drew (h : Blk w b cs) : Blk w.drew b cs := h
end
theorem StrRow.grown {w w' : World} {g : Nat} {l : List (List UInt8)} {row : Option Nat} (h : StrRow w g l) (hg : w.grownBy w' row) (hne : row ≠ some g) : StrRow w' g l := by
  obtain ⟨t, fr, e⟩ := h
  exact ⟨t, fr, (hg.block g (lt_of_block e) (fun q => hne q.symm)).trans e⟩
theorem drew_grown {w w' : World} {row : Option Nat} (h : w.grownBy w' row) : w.grownBy w'.drew row := ⟨h.os, h.tape, h.output, h.size, h.block⟩
theorem grown_of_below {w w' : World} (h : Below w.heap.size w w') (row : Option Nat) : w.grownBy w' row := ⟨h.os, h.tape, h.output, h.size, fun k hk _ => h.block k hk⟩
theorem grown_trans {a b c : World} {row : Option Nat} (h : a.grownBy b row) (k : b.grownBy c row) : a.grownBy c row :=
  ⟨k.os.trans h.os, k.tape.trans h.tape, k.output.trans h.output, Nat.le_trans h.size k.size, fun i hi hne => (k.block i (Nat.lt_of_lt_of_le hi h.size) hne).trans (h.block i hi hne)⟩
theorem grown_set {w : World} {g j : Nat} {u : Value} : w.grownBy (w.setCell ⟨g, j, none⟩ u) (some g) :=
  ⟨rfl, rfl, rfl, by simp [World.setCell], fun k _ hk => Below.heap_setCell _ _ _ _ (fun e => hk (by rw [e]))⟩
theorem grown_below_of {B : Nat} {w w' : World} {row : Option Nat} (hg : w.grownBy w' row) (hB : B ≤ w.heap.size) (hr : ∀ k, row = some k → B ≤ k) : Below B w w' := (Below.refl B w).grown hg hB hr
theorem below_alloc1 (w : World) (a : Obj) : Below w.heap.size w (w.alloc a) := (Below.refl _ _).alloc (Nat.le_refl _) _

theorem grown_by_new {w w3 : World} {row : Option Nat} (h : w.grownBy w3 row) (x y z : Value) : w.grownBy (((w3.setCell ⟨w.heap.size, 0, none⟩ x).setCell ⟨w.heap.size, 1, none⟩ y).setCell ⟨w.heap.size, 2, none⟩ z) row := by
  refine ⟨h.os, h.tape, h.output, by simpa [World.setCell] using h.size, fun k hk hne => ?_⟩
  rw [Below.heap_setCell _ _ _ _ (by show k ≠ w.heap.size; omega), Below.heap_setCell _ _ _ _ (by show k ≠ w.heap.size; omega), Below.heap_setCell _ _ _ _ (by show k ≠ w.heap.size; omega)]
  exact h.block k hk hne

/-- What the function that reader makes answers: the token from place a on. -/
structure ReadAns where
  kind : Nat
  lo : Nat
  size : Nat
  ok : Bool
def readL (l : List UInt8) (a : Nat) : ReadAns :=
  let b := blanksL (l.drop a)
  let f := firstL (l.drop (a + b))
  ⟨f.1, a + b, f.2.1, f.2.2⟩
theorem readL_le (l : List UInt8) (a : Nat) (h : a ≤ l.length) : (readL l a).lo ≤ l.length ∧ (readL l a).lo + (readL l a).size ≤ l.length ∧ a ≤ (readL l a).lo := by
  have h1 := blanksL_le (l.drop a)
  rw [List.length_drop] at h1
  have h2 := firstL_le (l.drop (a + blanksL (l.drop a)))
  rw [List.length_drop] at h2
  unfold readL
  dsimp only
  omega
def ReadPut (w : World) (ba : Nat) (s : ByteArray) (r : ReadAns) (e : Ending) (w' : World) : Prop :=
  e = .returned (.tuple #[.agg #[.int .i64 r.kind, .string (s.extract r.lo (r.lo + r.size)), .int .i64 r.lo], .bool r.ok]) ∧ w.grownBy w' (some ba) ∧ Blk w' ba #[.int .i64 ((r.lo + r.size : Nat) : Int)]

set_option maxRecDepth 10000 in
set_option maxHeartbeats 4000000 in
theorem read_any (w : World) (ba bs : Nat) (s : ByteArray) (a : Nat) (hs : s.size ≤ maxLen) (ha : a ≤ s.size) (ht : StrRow w 1 signsL) (hA : Blk w ba #[.int .i64 a]) (hS : Blk w bs #[.string s]) (hne : ba ≠ bs) (hg : 1 ≠ ba) :
    Calls Tryd.prog 27 #[.pointer (some ⟨ba, 0, none⟩), .pointer (some ⟨bs, 0, none⟩)] w (ReadPut w ba s (readL s.data.toList a)) := by
  have hle := readL_le s.data.toList a (by rw [len_of]; exact ha)
  have hx := fun k => Lib.extract_to_end s k
  have bl := fun w => blanks_any (s.extract a s.size) w (by rw [ByteArray.size_extract]; omega)
  rw [hx a] at bl
  have fi := fun w (h : StrRow w 1 signsL) => first_any (s.extract (a + blanksL (s.data.toList.drop a)) s.size) w (by rw [ByteArray.size_extract]; omega) h
  rw [hx] at fi
  rw [len_of] at hle
  unfold readL at hle ⊢
  dsimp only at hle ⊢
  generalize firstL (s.data.toList.drop (a + blanksL (s.data.toList.drop a))) = f at *
  generalize blanksL (s.data.toList.drop a) = b at *
  obtain ⟨f1, f2, f3⟩ := f
  unfold firstV at fi
  dsimp only at *
  unfold maxLen at hs
  have BL := Lib.hid bl
  have FI := Lib.hid fi
  have HL := Lib.hid hle
  have HT := Lib.hid ht
  clear bl fi hx hle ht
  have a0 := below_alloc1 w (.cells #[.int .i64 0, .string ⟨#[]⟩, .int .i64 0] 32)
  have LA := hA.lt
  have LS := hS.lt
  have R0 := Lib.hid (Blk.start w #[.int .i64 0, .string ⟨#[]⟩, .int .i64 0] 32)
  have GA := Lib.hid (And.intro (hA.keep a0) (And.intro (hS.keep a0) (And.intro (HT.out.below a0) (grown_of_below a0 (some ba)))))
  have g0 := GA.out.1.cell 0
  have g1 := GA.out.2.1.cell 0
  have g2 := GA.out.1.free 0
  have LZ := a0.size
  clear hA hS a0
  go_enter Tryd.func27, Tryd.ntmps27
  go_wp2_with fail
  generalize w.alloc (.cells #[.int .i64 0, .string ⟨#[]⟩, .int .i64 0] 32) = w1 at *
  have wb : IntKind.i64.wrap ((a : Int) + (b : Int)) = (a : Int) + (b : Int) := IntWalk.i64_in _ (by have := HL.out; omega)
  have i0 : (0 : Int) ≤ (a : Int) := by omega
  have i1 : (a : Int) ≤ (s.size : Int) := by omega
  refine wp_region_still_tail 6 (by kernel_rfl) (by kernel_rfl) ?_
  simp only [List.take_succ_cons, List.take_zero, List.drop_succ_cons, List.drop_zero]
  iterate 4 still_step
  still_call ((BL.out _).mono fun _ _ h => ⟨h.1, h.2.symm⟩)
  still_step
  refine wpStill_nil ?_
  change wpList _ _ _ _ _ w1.drew
  go_upto_region 2 with fail
  have H2 : Blk (w1.setCell ⟨ba, 0, none⟩ (.int .i64 ((a : Int) + (b : Int)))).drew ba #[.int .i64 ((a : Int) + (b : Int))] ∧ Blk (w1.setCell ⟨ba, 0, none⟩ (.int .i64 ((a : Int) + (b : Int)))).drew bs #[.string s] ∧ StrRow (w1.setCell ⟨ba, 0, none⟩ (.int .i64 ((a : Int) + (b : Int)))).drew 1 signsL ∧ w.grownBy (w1.setCell ⟨ba, 0, none⟩ (.int .i64 ((a : Int) + (b : Int)))).drew (some ba) ∧ Blk (w1.setCell ⟨ba, 0, none⟩ (.int .i64 ((a : Int) + (b : Int)))).drew w.heap.size #[.int .i64 0, .string ⟨#[]⟩, .int .i64 0] :=
    ⟨(GA.out.1.set 0 _).drew, (GA.out.2.1.other hne _).drew, GA.out.2.2.1.grown (drew_grown grown_set) (fun e => hg (Option.some.inj e).symm), grown_trans GA.out.2.2.2 (drew_grown grown_set), (R0.out.other (Nat.ne_of_lt LA) _).drew⟩
  have GA := Lib.hid H2
  clear H2 R0 g0 g1 g2 wb
  generalize (w1.setCell ⟨ba, 0, none⟩ (.int .i64 ((a : Int) + (b : Int)))).drew = w2 at *
  have g0 := GA.out.1.cell 0
  have g1 := GA.out.2.1.cell 0
  have LA2 := GA.out.1.lt
  have LS2 := GA.out.2.1.lt
  have i0 : (0 : Int) ≤ (a : Int) + (b : Int) := by omega
  have i1 : (a : Int) + (b : Int) ≤ (s.size : Int) := by have := HL.out; omega
  have en : ((a : Int) + (b : Int)).toNat = a + b := by omega
  go_upto_region 3 with (go_at_call 29; (with_reducible refine (FI.out _ GA.out.2.2.1).mono ?_); rintro e w1 ⟨rfl, rfl⟩)
  have wc : IntKind.i64.wrap ((a : Int) + (b : Int) + (f2 : Int)) = (a : Int) + (b : Int) + (f2 : Int) := IntWalk.i64_in _ (by have := HL.out; omega)
  have i2 : (a : Int) + (b : Int) ≤ (a : Int) + (b : Int) + (f2 : Int) := by omega
  have i3 : (a : Int) + (b : Int) + (f2 : Int) ≤ (s.size : Int) := by have := HL.out; omega
  have em : ((a : Int) + (b : Int) + (f2 : Int)).toNat = a + b + f2 := by omega
  refine wp_region_noPanic ?_
  refine wp_region_held_drew (S := fun w' => (w'.cell? ⟨ba, 0, none⟩ = some (.int .i64 ((a : Int) + (b : Int))) ∧ w'.cell? ⟨bs, 0, none⟩ = some (.string s)) ∧ (w2.heap.size ≤ w'.heap.size)) (by kernel_rfl) ⟨⟨g0, g1⟩, Nat.le_refl _⟩ (fun hHeld => ?_)
  refine wpAnyH_take (i := 0) (oi := _) (v := ?_) rfl (by kernel_rfl) (by kernel_rfl) (by kernel_rfl) (fun _ _ _ h => h) (Or.inl ⟨by rfl, ?_⟩) (by assumption) ?_
  rotate_left
  · intro ww hSw
    (try dsimp only at hSw)
    go_simp <;> with_reducible rfl
  (try simp only [List.getElem_toArray, List.getElem_cons_zero, Act.put, List.setIfInBounds_toArray, List.set_cons_zero, List.set_cons_succ])
  refine wpAnyH_take (i := 1) (oi := _) (v := ?_) rfl (by kernel_rfl) (by kernel_rfl) (by kernel_rfl) (fun _ _ _ h => h) (Or.inl ⟨by rfl, ?_⟩) (by assumption) ?_
  rotate_left
  · intro ww hSw
    (try dsimp only at hSw)
    go_simp <;> with_reducible rfl
  (try simp only [List.getElem_toArray, List.getElem_cons_succ, List.getElem_cons_zero, Act.put, List.setIfInBounds_toArray, List.set_cons_zero, List.set_cons_succ])
  refine wpAnyH_take (i := 2) (oi := _) (v := ?_) rfl (by kernel_rfl) (by kernel_rfl) (by kernel_rfl) (fun _ _ _ h => h) (Or.inl ⟨by rfl, ?_⟩) (by assumption) ?_
  rotate_left
  · intro ww hSw
    (try dsimp only at hSw)
    go_simp <;> with_reducible rfl
  (try simp only [List.getElem_toArray, List.getElem_cons_succ, List.getElem_cons_zero, Act.put, List.setIfInBounds_toArray, List.set_cons_zero, List.set_cons_succ])
  refine wpAnyH_take (i := 3) (oi := _) (v := ?_) rfl (by kernel_rfl) (by kernel_rfl) (by kernel_rfl) (fun _ _ _ h => h) (Or.inl ⟨by rfl, ?_⟩) (by assumption) ?_
  rotate_left
  · intro ww hSw
    (try dsimp only at hSw)
    go_simp <;> with_reducible rfl
  (try simp only [List.getElem_toArray, List.getElem_cons_succ, List.getElem_cons_zero, Act.put, List.setIfInBounds_toArray, List.set_cons_zero, List.set_cons_succ])
  refine wpAnyH_take (i := 4) (oi := _) (v := ?_) rfl (by kernel_rfl) (by kernel_rfl) (by kernel_rfl) (fun _ _ _ h => h) (Or.inl ⟨by rfl, ?_⟩) (by assumption) ?_
  rotate_left
  · intro ww hSw
    (try dsimp only at hSw)
    go_simp <;> with_reducible rfl
  (try simp only [List.getElem_toArray, List.getElem_cons_succ, List.getElem_cons_zero, Act.put, List.setIfInBounds_toArray, List.set_cons_zero, List.set_cons_succ])
  refine wpAnyH_take (i := 5) (oi := _) (v := ?_) rfl (by kernel_rfl) (by kernel_rfl) (by kernel_rfl) (fun _ _ _ h => h) (Or.inl ⟨by rfl, ?_⟩) (by assumption) ?_
  rotate_left
  · intro ww hSw
    (try dsimp only at hSw)
    go_simp <;> with_reducible rfl
  (try simp only [List.getElem_toArray, List.getElem_cons_succ, List.getElem_cons_zero, Act.put, List.setIfInBounds_toArray, List.set_cons_zero, List.set_cons_succ])
  refine wpAnyH_take (i := 6) (oi := _) (v := ?_) rfl (by kernel_rfl) (by kernel_rfl) (by kernel_rfl) (fun _ _ _ h => h) (Or.inl ⟨by rfl, ?_⟩) (by assumption) ?_
  rotate_left
  · intro ww hSw
    (try dsimp only at hSw)
    go_simp <;> with_reducible rfl
  (try simp only [List.getElem_toArray, List.getElem_cons_succ, List.getElem_cons_zero, Act.put, List.setIfInBounds_toArray, List.set_cons_zero, List.set_cons_succ])
  refine wpAnyH_take (i := 7) (oi := _) (v := ?_) rfl (by kernel_rfl) (by kernel_rfl) (by kernel_rfl) (fun _ _ _ h => h) (Or.inl ⟨by rfl, ?_⟩) (by assumption) ?_
  rotate_left
  · intro ww hSw
    (try dsimp only at hSw)
    go_simp <;> with_reducible rfl
  (try simp only [List.getElem_toArray, List.getElem_cons_succ, List.getElem_cons_zero, Act.put, List.setIfInBounds_toArray, List.set_cons_zero, List.set_cons_succ])
  refine wpAnyH_take (i := 8) (oi := _) (v := ?_) rfl (by kernel_rfl) (by kernel_rfl) (by kernel_rfl) (fun _ _ _ h => h) (Or.inl ⟨by rfl, ?_⟩) (by assumption) ?_
  rotate_left
  · intro ww hSw
    (try dsimp only at hSw)
    go_simp <;> with_reducible rfl
  (try simp only [List.getElem_toArray, List.getElem_cons_succ, List.getElem_cons_zero, Act.put, List.setIfInBounds_toArray, List.set_cons_zero, List.set_cons_succ])
  refine wpAnyH_ready (rs := [9]) (by kernel_rfl) (by simp) ?_
  refine AllReadyH.cons (o := _) rfl (fun K hK => ?_) AllReadyH.nil
  go_simp
  refine hK.out _ _ ?_ (fun hH2 => ?_)
  · exact ⟨⟨by go_simp, by go_simp⟩, by simp⟩
  clear hK K hHeld
  have hHeld := hH2
  clear hH2
  (try simp only [List.getElem_toArray, List.getElem_cons_succ, List.getElem_cons_zero, Act.put, List.setIfInBounds_toArray, List.set_cons_zero, List.set_cons_succ])
  refine wpAnyH_ready (rs := [10]) (by kernel_rfl) (by simp) ?_
  refine AllReadyH.cons (o := _) rfl (fun K hK => ?_) AllReadyH.nil
  go_simp
  refine hK.out _ _ ?_ (fun hH2 => ?_)
  · exact ⟨⟨by go_simp, by go_simp⟩, by simp⟩
  clear hK K hHeld
  have hHeld := hH2
  clear hH2
  (try simp only [List.getElem_toArray, List.getElem_cons_succ, List.getElem_cons_zero, Act.put, List.setIfInBounds_toArray, List.set_cons_zero, List.set_cons_succ])
  refine wpAnyH_done (by kernel_rfl) ?_ _
  refine NoPanic.normal ?_
  go_upto_region 4 with fail
  have H3 : Blk (w2.alloc (.cells #[.int .i64 f1, .string (s.extract (a + b) (a + b + f2)), .int .i64 ((a : Int) + (b : Int))] 32)).drew ba #[.int .i64 ((a : Int) + (b : Int))] ∧ w.grownBy (w2.alloc (.cells #[.int .i64 f1, .string (s.extract (a + b) (a + b + f2)), .int .i64 ((a : Int) + (b : Int))] 32)).drew (some ba) ∧ Blk (w2.alloc (.cells #[.int .i64 f1, .string (s.extract (a + b) (a + b + f2)), .int .i64 ((a : Int) + (b : Int))] 32)).drew w.heap.size #[.int .i64 0, .string ⟨#[]⟩, .int .i64 0] ∧ Blk (w2.alloc (.cells #[.int .i64 f1, .string (s.extract (a + b) (a + b + f2)), .int .i64 ((a : Int) + (b : Int))] 32)).drew w2.heap.size #[.int .i64 f1, .string (s.extract (a + b) (a + b + f2)), .int .i64 ((a : Int) + (b : Int))] :=
    ⟨(GA.out.1.keep (below_alloc1 _ _)).drew, grown_trans GA.out.2.2.2.1 (drew_grown (grown_of_below (below_alloc1 _ _) _)), (GA.out.2.2.2.2.keep (below_alloc1 _ _)).drew, (Blk.start _ _ _).drew⟩
  have L2 := GA.out.2.2.2.2.lt
  have G3 := Lib.hid H3
  clear H3 g0 g1 GA hHeld wc i2 i3 em en i0 i1
  generalize (w2.alloc (.cells #[.int .i64 f1, .string (s.extract (a + b) (a + b + f2)), .int .i64 ((a : Int) + (b : Int))] 32)).drew = w3 at *
  have d0 := G3.out.1.cell 0
  have d1 := G3.out.1.free 0
  have t0 := G3.out.2.2.2.cell 0
  have t1 := G3.out.2.2.2.cell 1
  have t2 := G3.out.2.2.2.cell 2
  have r0 := G3.out.2.2.1.cell 0
  have r1 := G3.out.2.2.1.cell 1
  have r2 := G3.out.2.2.1.cell 2
  have q0 := G3.out.2.2.1.free 0
  have q1 := G3.out.2.2.1.free 1
  have q2 := G3.out.2.2.1.free 2
  have n1 : w2.heap.size ≠ ba := by omega
  have n2 : w.heap.size ≠ ba := by omega
  have n3 : w.heap.size ≠ w2.heap.size := by omega
  have wd : IntKind.i64.wrap ((a : Int) + (b : Int) + (f2 : Int)) = (a : Int) + (b : Int) + (f2 : Int) := IntWalk.i64_in _ (by have := HL.out; omega)
  go_wp2_with fail
  have B4 := (G3.out.2.2.1.other (p := ⟨ba, 0, none⟩) (fun e => n2 e.symm) (.int .i64 ((a : Int) + (b : Int) + (f2 : Int))))
  have B5 := ((B4.set 0 (.int .i64 f1)).set 1 (.string (s.extract (a + b) (a + b + f2)))).set 2 (.int .i64 ((a : Int) + (b : Int)))
  have BA := (((G3.out.1.set 0 (.int .i64 ((a : Int) + (b : Int) + (f2 : Int)))).other (p := ⟨w.heap.size, 0, none⟩) n2 (.int .i64 f1)).other (p := ⟨w.heap.size, 1, none⟩) n2 (.string (s.extract (a + b) (a + b + f2)))).other (p := ⟨w.heap.size, 2, none⟩) n2 (.int .i64 ((a : Int) + (b : Int)))
  have GW := grown_trans G3.out.2.1 (grown_set (g := ba) (j := 0) (u := (.int .i64 ((a : Int) + (b : Int) + (f2 : Int)))))
  have GZ := grown_by_new GW (.int .i64 f1) (.string (s.extract (a + b) (a + b + f2))) (.int .i64 ((a : Int) + (b : Int)))
  have c0 := B5.cell 0
  have c1 := B5.cell 1
  have c2 := B5.cell 2
  exact bodyPost_ret (v := .tuple #[.agg #[.int .i64 f1, .string (s.extract (a + b) (a + b + f2)), .int .i64 ((a : Int) + (b : Int))], .bool f3]) (by simp [results, Tryd.results27, go_sem, c0, c1, c2]) rfl ⟨by push_cast; rfl, GZ, by push_cast; exact BA⟩
end Go.Proofs.YtmmlmbfnabgobaaDoor
