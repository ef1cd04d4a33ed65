/-
  Words for the walks of Value. (Template: by-name.py fills it; gen/genVal.py writes it.)
-/
import Derived.Test.YtkinbbhbencipaaJH
import Derived.Test.YtkinbbhbencipaaJTermD2
import Derived.Deep.CutRange
namespace Go.Proofs.Ytkinbbhbencipaa
open Go.RowKit

theorem sumK_none {l m : List (Int × Int)} {kx : Int × Int} {k : Nat} (h : sumK l m kx k = none) : ∀ n : Nat, k ≤ n → sumK l m kx n = none
  | 0, hn => by
    obtain rfl : k = 0 := by omega
    exact h
  | n + 1, hn => by
    rcases Nat.lt_or_ge n k with g | g
    · obtain rfl : k = n + 1 := by omega
      exact h
    · rw [sumK, sumK_none h n g]
      rfl
theorem sumK_okT {l m : List (Int × Int)} {kx : Int × Int} (hl : AllOk l) (hm : allR (m.take 8) = true) (hw : Wide m) (hx : OkR kx) (k : Nat) (s : Int × Int) (hk : k ≤ 8) (h : sumK l m kx k = some s) : OkR s := by
  rw [← sumK_take l m kx k hk] at h
  exact sumK_ok hl (allOk_of hm fun x hx => hw x (List.mem_of_mem_take hx)) hx k s h
theorem sumK_next {l m : List (Int × Int)} {kx s : Int × Int} {k : Nat} (h : sumK l m kx k = some s) (e1 : (mulH (atL l k) (atL m k)).2 = 0) (e2 : (addH s (mulH (atL l k) (atL m k)).1).2 = 0) : sumK l m kx (k + 1) = some (addH s (mulH (atL l k) (atL m k)).1).1 := by
  rw [sumK, h]
  show (if _ then _ else _) = _
  rw [if_pos ⟨e1, e2⟩]
theorem sumK_stop {l m : List (Int × Int)} {kx s : Int × Int} {k : Nat} (h : sumK l m kx k = some s) (e : ¬ ((mulH (atL l k) (atL m k)).2 = 0 ∧ (addH s (mulH (atL l k) (atL m k)).1).2 = 0)) : sumK l m kx (k + 1) = none := by
  rw [sumK, h]
  show (if _ then _ else _) = _
  rw [if_neg e]

/-- What stands in Value at the beginning: the term, the result's room. -/
structure BoxV (w wr : World) (s : Value) (xn xd : Int) : Prop where
  F : FracBox wr w.heap.size s (.int .i64 xn) (.int .i64 xd)
  E : RatAt wr (w.heap.size + 1) 0 0
  e0 : wr.frozen? ⟨w.heap.size + 1, 0, none⟩ = false
  e1 : wr.frozen? ⟨w.heap.size + 1, 1, none⟩ = false
  below : Below w.heap.size w wr
theorem BoxV.keep {w wr w2 : World} {s : Value} {xn xd : Int} (h : BoxV w wr s xn xd) (hb : Below wr.heap.size wr w2) : BoxV w w2 s xn xd :=
  ⟨h.F.keep hb, h.E.keep hb, keep_free hb h.E.lt h.e0, keep_free hb h.E.lt h.e1, h.below.trans (hb.mono h.below.size)⟩

/-- What stands in Value: the term, the result's room, the sum. -/
structure ValS (w wr : World) (b : Nat) (s : Value) (xn xd : Int) (sn sd : Int) : Prop where
  F : FracBox wr w.heap.size s (.int .i64 xn) (.int .i64 xd)
  E : RatAt wr (w.heap.size + 1) 0 0
  e0 : wr.frozen? ⟨w.heap.size + 1, 0, none⟩ = false
  e1 : wr.frozen? ⟨w.heap.size + 1, 1, none⟩ = false
  S : RatAt wr b sn sd
  s0 : wr.frozen? ⟨b, 0, none⟩ = false
  s1 : wr.frozen? ⟨b, 1, none⟩ = false
  lt : w.heap.size + 1 < b
  below : Below w.heap.size w wr
section
variable {w wr w2 : World} {b : Nat} {s : Value} {xn xd sn sd : Int}
theorem ValS.keep (h : ValS w wr b s xn xd sn sd) (hb : Below wr.heap.size wr w2) : ValS w w2 b s xn xd sn sd :=
  ⟨h.F.keep hb, h.E.keep hb, keep_free hb h.E.lt h.e0, keep_free hb h.E.lt h.e1, h.S.keep hb, keep_free hb h.S.lt h.s0, keep_free hb h.S.lt h.s1, h.lt, h.below.trans (hb.mono h.below.size)⟩
theorem ValS.store (h : ValS w wr b s xn xd sn sd) (p q : Int) : ValS w ((wr.setCell ⟨b, 0, none⟩ (.int .i64 p)).setCell ⟨b, 1, none⟩ (.int .i64 q)) b s xn xd p q := by
  have hl := h.lt
  have hb : Below b wr ((wr.setCell ⟨b, 0, none⟩ (.int .i64 p)).setCell ⟨b, 1, none⟩ (.int .i64 q)) := ((Below.refl b wr).setCell (p := ⟨b, 0, none⟩) (Nat.le_refl b) _).setCell (p := ⟨b, 1, none⟩) (Nat.le_refl b) _
  obtain ⟨c0, c1⟩ := set_pair (x := .int .i64 p) (y := .int .i64 q) h.S.k0 h.S.k1
  exact ⟨h.F.keepB hb (by omega), h.E.keepB hb (by omega), (hb.frozen (p := ⟨w.heap.size + 1, 0, none⟩) hl).trans h.e0, (hb.frozen (p := ⟨w.heap.size + 1, 1, none⟩) hl).trans h.e1, ⟨c0, c1, by rw [World.size_setCell, World.size_setCell]; exact h.S.lt⟩, by rw [World.frozen?_setCell, World.frozen?_setCell]; exact h.s0, by rw [World.frozen?_setCell, World.frozen?_setCell]; exact h.s1, hl, h.below.trans (hb.mono (by omega))⟩
theorem vals_of {A : Prop} (h : A ∧ ValS w wr b s xn xd sn sd) : ValS w wr b s xn xd sn sd := h.2
/-- .. with two fractions of rows that came in. -/
theorem hold_vals {p p' o o' : Addr} {x1 x2 y1 y2 : Value} {A : Prop} (hb : Below wr.heap.size wr w2)
    (h : (A ∧ (wr.cell? p = some x1 ∧ wr.cell? p' = some x2) ∧ (wr.cell? o = some y1 ∧ wr.cell? o' = some y2)) ∧ ValS w wr b s xn xd sn sd) :
    (w2.cell? ⟨w.heap.size, 0, none⟩ = some s ∧ (w2.cell? p = some x1 ∧ w2.cell? p' = some x2) ∧ (w2.cell? o = some y1 ∧ w2.cell? o' = some y2)) ∧ ValS w w2 b s xn xd sn sd := by
  obtain ⟨⟨_, ⟨a, b⟩, ⟨c, d⟩⟩, H⟩ := h
  have k : ∀ {p : Addr} {u : Value}, wr.cell? p = some u → w2.cell? p = some u := fun hc => (hb.cell (World.block_lt_of_cell? _ _ hc)).trans hc
  exact ⟨⟨(H.keep hb).F.k0, ⟨k a, k b⟩, ⟨k c, k d⟩⟩, H.keep hb⟩
end
/-- What the round's region leaves. -/
def ValMid (w : World) (b : Nat) (s : Value) (xn xd sn sd p q e : Int) (v8 v9 : Value) (wx : World) : Prop :=
  ∃ c, v8 = .pointer (some ⟨c, 0, none⟩) ∧ v9 = .int .i64 e ∧ RatAt wx c p q ∧ ValS w wx b s xn xd sn sd
theorem vmid_fill {w wA wr : World} {b c : Nat} {s : Value} {xn xd sn sd p q e : Int} (h : ValS w wA b s xn xd sn sd) (hc : HoleC wA wr c) :
    ValMid w b s xn xd sn sd p q e (.pointer (some ⟨c, 0, none⟩)) (.int .i64 e) ((wr.setCell ⟨c, 0, none⟩ (.int .i64 p)).setCell ⟨c, 1, none⟩ (.int .i64 q)) :=
  ⟨_, rfl, rfl, (hc.fill p q).2, h.keep (hc.fill p q).1⟩
theorem vmid_alloc {w wA : World} {b : Nat} {s : Value} {xn xd sn sd p q e : Int} (h : ValS w wA b s xn xd sn sd) (ty : TypeId) :
    ValMid w b s xn xd sn sd p q e (.pointer (some ⟨wA.heap.size, 0, none⟩)) (.int .i64 e) (wA.alloc (.cells #[.int .i64 p, .int .i64 q] ty)) :=
  ⟨_, rfl, rfl, RatAt.start wA p q ty, h.keep (below_alloc1 _ _)⟩
theorem vhole_of {w wA : World} {b : Nat} {s : Value} {xn xd sn sd : Int} {A : Prop} {ty : TypeId} (_ : A ∧ ValS w (wA.alloc (.cells #[.int .i64 0, .int .i64 0] ty)) b s xn xd sn sd) : HoleC wA (wA.alloc (.cells #[.int .i64 0, .int .i64 0] ty)) wA.heap.size := HoleC.start wA ty
theorem vhole_of2 {w wq : World} {b : Nat} {s : Value} {xn xd sn sd : Int} {A : Prop} {ty : TypeId} (_ : A ∧ ValS w (wq.alloc (.cells #[.int .i64 0, .int .i64 0] ty)).drew b s xn xd sn sd) : HoleC wq.drew (wq.alloc (.cells #[.int .i64 0, .int .i64 0] ty)).drew wq.heap.size := HoleC.start wq.drew ty

/-- The parameter's and the result's blocks. -/
theorem val_boxes (w : World) (x y z : Value) (ty ty' : TypeId) : FracBox ((w.alloc (.cells #[x, y, z] ty)).alloc (.cells #[.int .i64 0, .int .i64 0] ty')) w.heap.size x y z ∧ RatAt ((w.alloc (.cells #[x, y, z] ty)).alloc (.cells #[.int .i64 0, .int .i64 0] ty')) (w.heap.size + 1) 0 0 ∧
    (((w.alloc (.cells #[x, y, z] ty)).alloc (.cells #[.int .i64 0, .int .i64 0] ty')).frozen? ⟨w.heap.size + 1, 0, none⟩ = false ∧ ((w.alloc (.cells #[x, y, z] ty)).alloc (.cells #[.int .i64 0, .int .i64 0] ty')).frozen? ⟨w.heap.size + 1, 1, none⟩ = false) ∧
    Below w.heap.size w ((w.alloc (.cells #[x, y, z] ty)).alloc (.cells #[.int .i64 0, .int .i64 0] ty')) := by
  have h := RatAt.start (w.alloc (.cells #[x, y, z] ty)) 0 0 ty'
  rw [World.size_alloc] at h
  exact ⟨(FracBox.start w x y z ty).keep (below_alloc1 _ _), h, ⟨by go_simp, by go_simp⟩, below_alloc2 _ _ _⟩
theorem take_min (m : List (Int × Int)) : m.take (min m.length 8) = m.take 8 := by
  rcases Nat.le_total m.length 8 with h | h
  · rw [Nat.min_eq_left h, List.take_of_length_le (Nat.le_refl _), List.take_of_length_le h]
  · rw [Nat.min_eq_right h]
theorem valT_no {l m : List (Int × Int)} {kx : Int × Int} (h : ¬ (rightT l kx.1 kx.2 = true ∧ allR (m.take 8) = true)) : valT l m kx = ((0, 0), 2) := if_neg h
theorem valT_end {l m : List (Int × Int)} {kx s : Int × Int} (h : rightT l kx.1 kx.2 = true ∧ allR (m.take 8) = true) (e : sumK l m kx (min l.length m.length) = some s) : valT l m kx = (s, 0) := by
  unfold valT
  rw [if_pos h, e]
theorem valT_over {l m : List (Int × Int)} {kx : Int × Int} (h : rightT l kx.1 kx.2 = true ∧ allR (m.take 8) = true) (e : sumK l m kx (min l.length m.length) = none) : valT l m kx = ((0, 0), 3) := by
  unfold valT
  rw [if_pos h, e]
theorem take_right {m : List (Int × Int)} (h : allR (m.take 8) = true) (hm : Wide m) {k : Nat} (hk : k < 8) : OkR (atL m k) := by
  rw [← atL_take hk]
  exact (allOk_of h fun x hx => hm x (List.mem_of_mem_take hx)).at k
end Go.Proofs.Ytkinbbhbencipaa
