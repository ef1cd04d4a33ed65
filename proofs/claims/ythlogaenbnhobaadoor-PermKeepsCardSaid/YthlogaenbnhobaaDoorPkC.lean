/-
  A row of parts in the call's own memory; bytes among the arguments. (Template: by-name.py fills it.)
-/
import Derived.Test.YthlogaenbnhobaaDoorPkB
import Derived.Test.YthlogaenbnhobaaDoorPmF
import Derived.Deep.LoopGhost
namespace Go.Proofs.YthlogaenbnhobaaDoor
open Go.RowKit

/-- Bytes of older memory. -/
def BytL (w : World) (v : Value) (l : List Int) : Prop := ∃ A c, v = .slice A l.length c ∧ l.length ≤ c ∧ c ≤ maxLen ∧ Reads w w.heap.size 1 A l.length (l.map (Value.int .u8)) ∧ ∀ x ∈ l, 0 ≤ x ∧ x ≤ 255
theorem bytl_at {w wr : World} {A : Option Addr} {n k : Nat} {l : List Int} {x : Int} (h4 : Reads w w.heap.size 1 A n (l.map (Value.int .u8))) (hb : Below w.heap.size w wr) (hx : l[k]? = some x) (hn : 0 < n) :
    ∃ ad, A = some ad ∧ wr.cell? (ad.add k) = some (.int .u8 x) := by
  obtain ⟨ad, e, hbk, hc⟩ := h4.2 hn
  exact ⟨ad, e, (hb.cell (p := ad.add k) (by rw [block_of_add]; exact hbk)).trans (hc k _ (by rw [List.getElem?_map, hx]; rfl))⟩

theorem infoPm : (Tryd.prog.info? 28).map (fun i => (i.zero, i.size, i.bytes)) = some (some (.agg #[.int .i64 0, .int .i64 0, .int .i64 0, .int .i64 0, .int .u32 0]), 5, 40) := by kernel_rfl
theorem list_ownP (w : World) (cs : Array Value) (ty : TypeId) (size n : Nat) (hs : cs.size = n * size) (hn : n ≤ maxLen) : (w.alloc (.cells cs ty)).ownsRow w.heap.size ty size (.slice (some ⟨w.heap.size, 0, none⟩) n n) n cs.toList :=
  ⟨by rw [Array.length_toList]; exact hs, .inr ⟨_, n, cs, rfl, Nat.le_refl _, TBlk.start w cs ty, Nat.le_refl _, hn, hs, by rw [← hs, ← Array.length_toList, List.take_length]⟩⟩
theorem cell_litP (w : World) (cs : Array Value) (ty : TypeId) (j : Nat) (u : Value) (h : cs[j]? = some u) : (w.alloc (.cells cs ty)).cell? ((⟨w.heap.size, 0, none⟩ : Addr).add j) = some u := by
  rw [Addr.add_lit, Nat.zero_add, (Blk.start w cs ty).cell j]
  exact h
theorem reads_litsP (w : World) (us : List Value) (ty : TypeId) (n size : Nat) (h : us.length = n * size) : Reads (w.alloc (.cells us.toArray ty)) (w.alloc (.cells us.toArray ty)).heap.size size (some ⟨w.heap.size, 0, none⟩) n us :=
  ⟨h, fun _ => ⟨_, rfl, (Blk.start w us.toArray ty).lt, fun j u hj => cell_litP w us.toArray ty j u (by simpa using hj)⟩⟩
/-- A row of parts of the call's own. -/
def RowP (w : World) (B : Nat) (v : Value) (l : List Pt) : Prop := w.ownsRow B 28 5 v l.length (ptCells l)
theorem RowP.keep {w w' : World} {B : Nat} {v : Value} {l : List Pt} (h : RowP w B v l) (hb : Below w.heap.size w w') : RowP w' B v l := ownRow_below h hb
theorem RowP.shape {w : World} {B : Nat} {v : Value} {l : List Pt} (h : RowP w B v l) (hn : 0 < l.length) : ∃ g c, v = .slice (some ⟨g, 0, none⟩) l.length c ∧ l.length ≤ c ∧ c ≤ maxLen ∧ B ≤ g ∧ g < w.heap.size := by
  rcases h.2 with ⟨_, e⟩ | ⟨g, cap, cur, rfl, hb, hg, hnc, hcm, hcs, _⟩
  · omega
  · exact ⟨g, cap, rfl, hnc, hcm, hb, (Array.getElem?_eq_some_iff.1 hg).1⟩
theorem RowP.cells {w : World} {B g n c k : Nat} {l : List Pt} {x : Pt} (h : RowP w B (.slice (some ⟨g, 0, none⟩) n c) l) (hn : n = l.length) (hx : l[k]? = some x) :
    (w.cell? ⟨g, k * 5, none⟩ = some (.int .i64 x.1) ∧ w.cell? ⟨g, k * 5 + 1, none⟩ = some (.int .i64 1) ∧ w.cell? ⟨g, k * 5 + 2, none⟩ = some (.int .i64 (pwI x.2.1)) ∧ w.cell? ⟨g, k * 5 + 3, none⟩ = some (.int .i64 (-1)) ∧ w.cell? ⟨g, k * 5 + 4, none⟩ = some (.int .u32 x.2.2)) ∧
    ∀ j, w.frozen? ⟨g, j, none⟩ = false := by
  have hk := (List.getElem?_eq_some_iff.1 hx).1
  subst hn
  have at_ : ∀ j u, (ptCells l)[j]? = some u → w.cell? ⟨g, j, none⟩ = some u := fun j u hj => by
    have hl := (List.getElem?_eq_some_iff.1 hj).1
    rw [ptCells_length] at hl
    have := World.ownsRow.cellAt h j hl
    rwa [hj] at this
  obtain ⟨a, b, d, e, f⟩ := ptCells_at l k x hx
  refine ⟨⟨at_ _ _ a, at_ _ _ b, at_ _ _ d, at_ _ _ e, at_ _ _ f⟩, fun j => ?_⟩
  rcases h.2 with ⟨q, _⟩ | ⟨g', cap, cur, q, hb, hg, _⟩
  · cases q
  · injection q with q _ _
    injection q with q
    injection q with q _ _
    subst q
    exact Blk.free ⟨_, hg⟩ j
/-- One part is put anew. -/
theorem RowP.put {w : World} {B g n c k : Nat} {l : List Pt} (h : RowP w B (.slice (some ⟨g, 0, none⟩) n c) l) (hn : n = l.length) (hk : k < l.length) (x : Pt) :
    RowP (((((w.setCell ⟨g, k * 5, none⟩ (.int .i64 x.1)).setCell ⟨g, k * 5 + 1, none⟩ (.int .i64 1)).setCell ⟨g, k * 5 + 2, none⟩ (.int .i64 (pwI x.2.1))).setCell ⟨g, k * 5 + 3, none⟩ (.int .i64 (-1))).setCell ⟨g, k * 5 + 4, none⟩ (.int .u32 x.2.2)) B (.slice (some ⟨g, 0, none⟩) n c) (l.set k x) := by
  subst hn
  unfold RowP at h ⊢
  rw [List.length_set, ptCells_set l k x hk]
  exact ((((h.stored _ _).1.stored _ _).1.stored _ _).1.stored _ _).1.stored _ _ |>.1
/-- One more split of a part. -/
theorem split_none (x : Pt) (p : Int) (hr : restK x.1 p = -1) (w : World) (ht : RestTab w) :
    Calls Tryd.prog 7 #[permV x.1 1 (pwI x.2.1) (-1) x.2.2, .int .i64 p, ratV 1 2, .int .u32 (setOf x p)] w fun e w' => e = .returned (noSplit 2) ∧ Below w.heap.size w w' :=
  split_bad x.1 1 (pwI x.2.1) (-1) x.2.2 p (setOf x p) 1 2 w ht (.inl (by rw [hr]; rfl))
theorem split_part (x : Pt) (p : Int) (he : x.2.1 < 12) (hr : restK x.1 p ≠ -1) (w : World) (ht : RestTab w) :
    Calls Tryd.prog 7 #[permV x.1 1 (pwI x.2.1) (-1) x.2.2, .int .i64 p, ratV 1 2, .int .u32 (setOf x p)] w fun e w' => e = .returned (.tuple #[permV (restK x.1 p) 1 (pwI (x.2.1 + 1)) (-1) (keptS x.1 x.2.2 p (setOf x p)), permV p 1 (pwI (x.2.1 + 1)) (-1) (keptS x.1 x.2.2 p (setOf x p)), .int .i64 0]) ∧ Below w.heap.size w w' := by
  have mu := fun w => mul_to (pow_valid (e := x.2.1) (by omega)) half (pow_valid (e := x.2.1 + 1) (by omega)) (by rw [Nat.pow_succ]; omega) w
  have := split_good x.1 1 (pwI x.2.1) (-1) x.2.2 p (setOf x p) half (by decide) (by decide) w ht (by simpa using hr) (kept_yes x p) 1 1 (pwI (x.2.1 + 1)) 0 1 (pwI (x.2.1 + 1)) 0 mu sub_half mu
  unfold splitV at this
  rwa [if_pos rfl, if_pos rfl] at this
end Go.Proofs.YthlogaenbnhobaaDoor
