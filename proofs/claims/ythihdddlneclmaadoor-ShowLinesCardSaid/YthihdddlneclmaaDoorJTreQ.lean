/-
  The walk of package tree's listed, kind by kind. (Template: by-name.py fills it; gen/genTreQ.py writes it.)
-/
import Derived.Test.YthihdddlneclmaaDoorKB
import Derived.Test.YthihdddlneclmaaDoorJTreG
namespace Go.Proofs.YthihdddlneclmaaDoor
open Go.RowKit

section
variable {P : Program} {ops : Array Oper} {Q : Exit → Act → World → Prop} {md : Region.Mode} {S : World → Prop} {fuel : Nat} {listed : Array Bool} {a : Act} {w : World}
/-- A read is taken (guards by the kernel). -/
theorem tkk (i : Nat) {oi : Oper} (hi : ops[i]? = some oi) {v : Value} (h : wpAnyH P md ops Q S fuel (listed.setIfInBounds i true) (a.put oi.dst v) w) (hy : ∀ w' : World, S w' → Sem.run P (execOp a.eval oi) w' = .ok (.value v) w' := by intro _ hS_; (try dsimp only at hS_); go_simp <;> with_reducible rfl)
    (hs : Region.noSelect ops = true := by kernel_rfl) (hf : Region.free md ops listed i = true := by kernel_rfl) (hr : (Region.ready md ops listed).contains i = true := by kernel_rfl) (hQ : ∀ c a w, Q (.panic c) (a.put oi.dst v) w → Q (.panic c) a w := by exact fun _ _ _ h => h) (hn : Region.wanted oi (yielded ops a.tmps) = true := by kernel_rfl) (hS : S w := by assumption) : wpAnyH P md ops Q S (fuel + 1) listed a w :=
  wpAnyH_take hi hs hf hr hQ (.inl ⟨hn, hy⟩) hS h
/-- What its guard keeps from running (guards by the kernel). -/
theorem txk (i : Nat) {oi : Oper} (hi : ops[i]? = some oi) (h : wpAnyH P md ops Q S fuel (listed.setIfInBounds i true) (a.put oi.dst undef) w)
    (hs : Region.noSelect ops = true := by kernel_rfl) (hf : Region.free md ops listed i = true := by kernel_rfl) (hr : (Region.ready md ops listed).contains i = true := by kernel_rfl) (hQ : ∀ c a w, Q (.panic c) (a.put oi.dst undef) w → Q (.panic c) a w := by exact fun _ _ _ h => h) (hn : Region.wanted oi (yielded ops a.tmps) = false := by kernel_rfl) (hS : S w := by assumption) : wpAnyH P md ops Q S (fuel + 1) listed a w :=
  wpAnyH_take hi hs hf hr hQ (.inr ⟨hn, rfl⟩) hS h
end
/-! ### Slices that a call lists -/
theorem cell_lit (w : World) (cs : Array Value) (ty : TypeId) (j : Nat) (u : Value) (h : cs[j]? = some u) : (w.alloc (.cells cs ty)).cell? (Addr.add ⟨w.heap.size, 0, none⟩ j) = some u := by
  rw [Addr.add_lit, Nat.zero_add, (Blk.start w cs ty).cell j]
  exact h
theorem reads_lit (w : World) (us : List Value) (ty : TypeId) : Reads (w.alloc (.cells us.toArray ty)) (w.alloc (.cells us.toArray ty)).heap.size 1 (some ⟨w.heap.size, 0, none⟩) us.length us :=
  ⟨by simp, fun _ => ⟨_, rfl, (Blk.start w us.toArray ty).lt, fun j u hj => cell_lit w us.toArray ty j u (by simpa using hj)⟩⟩
theorem ints_lit (w : World) (l : List Int) (ty : TypeId) (h : l.length ≤ maxLen) : IntsL (w.alloc (.cells (l.map (Value.int .i64)).toArray ty)) (.slice (some ⟨w.heap.size, 0, none⟩) l.length l.length) l :=
  ⟨_, _, rfl, Nat.le_refl _, h, by simpa using reads_lit w (l.map (Value.int .i64)) ty⟩
def TstsAt (w : World) : List Tst → List Value → Prop
  | [], [] => True
  | t :: ts, u :: us => TstAt w t u ∧ TstsAt w ts us
  | _, _ => False
theorem tsts_of {w : World} : ∀ {ts : List Tst} {us : List Value}, TstsAt w ts us → us.length = ts.length ∧ ∀ (i : Nat) (t : Tst) (u : Value), ts[i]? = some t → us[i]? = some u → TstAt w t u
  | [], [], _ => ⟨rfl, fun i t u h => by simp at h⟩
  | [], _ :: _, h => h.elim
  | _ :: _, [], h => h.elim
  | t :: ts, u :: us, h => by
    obtain ⟨h1, h2⟩ := tsts_of h.2
    refine ⟨by rw [List.length_cons, List.length_cons, h1], fun i t' u' a b => ?_⟩
    cases i with
    | zero =>
      obtain rfl : t = t' := by simpa using a
      obtain rfl : u = u' := by simpa using b
      exact h.1
    | succ i => exact h2 i t' u' (by simpa using a) (by simpa using b)
theorem fns_lit (w : World) (ts : List Tst) (us : List Value) (ty : TypeId) (hm : us.length ≤ maxLen) (h : TstsAt (w.alloc (.cells us.toArray ty)) ts us) : FnsL (w.alloc (.cells us.toArray ty)) (.slice (some ⟨w.heap.size, 0, none⟩) us.length us.length) ts := by
  obtain ⟨h1, h2⟩ := tsts_of h
  exact ⟨_, us.length, us, by rw [h1], by rw [h1]; exact Nat.le_refl _, hm, h1, by rw [← h1]; exact reads_lit w us ty, h2⟩
theorem is_lit1 (w : World) (a : Int) (ty : TypeId) : Calls Tryd.prog 34 #[.slice (some ⟨w.heap.size, 0, none⟩) 1 1] (w.alloc (.cells #[.int .i64 a] ty)) fun e w' => (∃ u, e = .returned u ∧ TstAt w' (.is [a]) u) ∧ Below (w.alloc (.cells #[.int .i64 a] ty)).heap.size (w.alloc (.cells #[.int .i64 a] ty)) w' := is_any _ _ [a] (ints_lit w [a] ty (by simp [maxLen]))
theorem is_lit1D (w : World) (a : Int) (ty : TypeId) : Calls Tryd.prog 34 #[.slice (some ⟨w.heap.size, 0, none⟩) 1 1] (w.alloc (.cells #[.int .i64 a] ty)).drew fun e w' => (∃ u, e = .returned u ∧ TstAt w' (.is [a]) u) ∧ Below (w.alloc (.cells #[.int .i64 a] ty)).drew.heap.size (w.alloc (.cells #[.int .i64 a] ty)).drew w' := is_any _ _ [a] ((ints_lit w [a] ty (by simp [maxLen])).below (belowD _))
theorem is_lit2 (w : World) (a b : Int) (ty : TypeId) : Calls Tryd.prog 34 #[.slice (some ⟨w.heap.size, 0, none⟩) 2 2] (w.alloc (.cells #[.int .i64 a, .int .i64 b] ty)) fun e w' => (∃ u, e = .returned u ∧ TstAt w' (.is [a, b]) u) ∧ Below (w.alloc (.cells #[.int .i64 a, .int .i64 b] ty)).heap.size (w.alloc (.cells #[.int .i64 a, .int .i64 b] ty)) w' := is_any _ _ [a, b] (ints_lit w [a, b] ty (by simp [maxLen]))
theorem has_len {n : Nd} {a b : Nat} (h : hasB n a b = true) : n.words.length = a ∧ n.nums.length = b := by
  unfold hasB at h
  rw [Bool.and_eq_true, decide_eq_true_eq, decide_eq_true_eq] at h
  exact h
theorem fns_nil (w : World) : FnsL w (.slice none 0 0) [] := ⟨none, 0, [], rfl, Nat.le_refl _, by decide, rfl, Reads.none_, fun i t u h => by simp at h⟩
end Go.Proofs.YthihdddlneclmaaDoor
