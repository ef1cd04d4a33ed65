/-
  The walk of package tree's Build. (Template: by-name.py fills it.)
-/
import Derived.Test.YtabnjiijgbigbaaDoorKH
import Derived.Maps.OwnOps
import Derived.Maps.Views
import Derived.Deep.RegionWith
import Derived.Deep.CutRange
import Derived.Test.YtabnjiijgbigbaaDoorKX
namespace Go.Proofs.YtabnjiijgbigbaaDoor
open Go.RowKit Go.Maps

/-- What a list of entries says at a key, the latest first. -/
def look0 : List (Int × Int) → Int → Int
  | [], _ => 0
  | x :: r, k => if x.1 = k then x.2 else look0 r k
theorem lawI : Keyed Tryd.prog 3 := int_keyed Tryd.underlying3
theorem zeroI (w : World) : (zeroValue 3).run Tryd.prog w = .ok (.int .i64 0) w := by kernel_rfl
def MapII (w : World) (b n : Nat) (L : List (Int × Int)) : Prop :=
  ∃ D : DataW Unit, w.ownsMap Tryd.prog 3 (plainElem Tryd.prog 3) b n D ∧ IsMap D ∧ ∀ k : Int, D.atKey (.int .i64 k) (.lit (.int .i64 0)) = .lit (.int .i64 (look0 L k))
theorem MapII.made (w : World) : MapII (w.alloc (.map #[] 0)) w.heap.size 0 [] := ⟨.map [], World.ownsMap_made _ _ _ _, isMap_empty, fun _ => rfl⟩
theorem MapII.lt {w : World} {b n : Nat} {L : List (Int × Int)} (h : MapII w b n L) : b < w.heap.size := by
  obtain ⟨D, h1, _⟩ := h
  exact h1.lt
theorem MapII.keepB {w w' : World} {b n B : Nat} {L : List (Int × Int)} (h : MapII w b n L) (hb : Below B w w') (hlt : b < B) : MapII w' b n L := by
  obtain ⟨D, ⟨es, cl, h1, h2⟩, h3⟩ := h
  exact ⟨D, ⟨es, cl, (hb.block b hlt).trans h1, h2⟩, h3⟩
theorem MapII.keep {w w' : World} {b n : Nat} {L : List (Int × Int)} (h : MapII w b n L) (hb : Below w.heap.size w w') : MapII w' b n L := h.keepB hb h.lt
theorem MapII.grown {w w' : World} {row : Option Nat} {b n : Nat} {L : List (Int × Int)} (h : MapII w b n L) (hg : w.grownBy w' row) (hne : row ≠ some b) : MapII w' b n L := by
  have hlt := h.lt
  obtain ⟨D, ⟨es, cl, h1, h2⟩, h3⟩ := h
  exact ⟨D, ⟨es, cl, (hg.block b hlt (fun e => hne e.symm)).trans h1, h2⟩, h3⟩
theorem wf_int {a : Int} (h : 0 ≤ a ∧ a ≤ 1000000) : (Lit.int .i64 a).wf = true := WalkArith.wf_i64 (by omega)
section
variable {w : World} {ops : Array Oper} {rest : List Oper} {o : Oper} {a : Act} {Q : Exit → Act → World → Prop}
theorem wp_lookI (m x : Operand) (t : TypeId) (hg : o.guard = none) (hop : o.op = Op.lookup t m x false) (ht : Tryd.prog.underlying t = some (.map 3 3)) (b n : Nat) (L : List (Int × Int))
    (hm : a.eval m = .map (some b)) (h : MapII w b n L) (key : Int) (hx : a.eval x = .int .i64 key) (hk : (Lit.int .i64 key).wf = true)
    (hK : wpList Tryd.prog ops Q rest (a.put o.dst (.int .i64 (look0 L key))) w) : wpList Tryd.prog ops Q (o :: rest) a w := by
  obtain ⟨D, h1, h2, h3⟩ := h
  refine wpList_lookup_own_int w hg m x t hop 3 3 .i64 lawI ht Tryd.underlying3 (zeroI w) b n D hm h1 _ _ hx (keyOf_int_mk Tryd.underlying3 hk) ?_
  intro c hat _
  rw [h3] at hat
  injection hat with hat
  injection hat with _ hat
  rw [← hat]
  exact hK
theorem wp_putI (m x v : Operand) (t : TypeId) (hg : o.guard = none) (hop : o.op = Op.mapUpdate t m x v) (ht : Tryd.prog.underlying t = some (.map 3 3)) (b n : Nat) (L : List (Int × Int))
    (hm : a.eval m = .map (some b)) (h : MapII w b n L) (hn : n < maxLen) (key val : Int) (hx : a.eval x = .int .i64 key) (hv : a.eval v = .int .i64 val) (hk : (Lit.int .i64 key).wf = true) (hw : (Lit.int .i64 val).wf = true)
    (hK : ∀ w', MapII w' b (n + 1) ((key, val) :: L) → w.grownBy w' (some b) → wpList Tryd.prog ops Q rest (a.put o.dst undef) w') : wpList Tryd.prog ops Q (o :: rest) a w := by
  obtain ⟨D, h1, h2, h3⟩ := h
  refine wpList_mapUpdate_own w hg m x v t hop 3 3 lawI ht _ b n D hm h1 hn _ _ _ hx hv (keyOf_int_mk Tryd.underlying3 hk) (.lit (.int .i64 val)) [] (plainElem_int Tryd.underlying3 hw) ?_
  intro w' k1 k2
  refine hK w' ⟨_, k1, h2.put _ _, fun k => ?_⟩ k2
  · rw [look0]
    split
    · rename_i e
      have e : key = k := e
      subst e
      exact atKey_put_same h2 (by trivial) _ _
    · rename_i e
      exact (atKey_put_other (by intro q; injection q with _ q; exact e q.symm) _ _).trans (h3 k)
end
end Go.Proofs.YtabnjiijgbigbaaDoor

namespace Go.Proofs.YtabnjiijgbigbaaDoor
open Go.RowKit Go.Maps

theorem ownRow_below {w w1 : World} {base n size : Nat} {e : TypeId} {v : Value} {xs : List Value} (h : w.ownsRow base e size v n xs) (hb : Below w.heap.size w w1) : w1.ownsRow base e size v n xs :=
  h.kept (row := none) ⟨hb.os, hb.tape, hb.output, hb.size, fun k hk _ => hb.block k hk⟩ (by cases v.ownBlock <;> simp)
theorem ownRow_less {w : World} {b b' n size : Nat} {e : TypeId} {v : Value} {xs : List Value} (h : w.ownsRow b e size v n xs) (hb : b' ≤ b) : w.ownsRow b' e size v n xs := by
  refine ⟨h.1, h.2.imp id ?_⟩
  rintro ⟨g, cap, cur, h1, h2, h3⟩
  exact ⟨g, cap, cur, h1, Nat.le_trans hb h2, h3⟩
theorem ownRow_set {w : World} {base n size g j : Nat} {e : TypeId} {v u : Value} {xs : List Value} (h : w.ownsRow base e size v n xs) (hg : g < base) : (w.setCell ⟨g, j, none⟩ u).ownsRow base e size v n xs := by
  refine ⟨h.1, h.2.imp id ?_⟩
  rintro ⟨g', cap, cur, h1, h2, h3, h4⟩
  refine ⟨g', cap, cur, h1, h2, ?_, h4⟩
  rw [heap_setCell_other w ⟨g, j, none⟩ g' u (by show g' ≠ g; omega)]
  exact h3
/-- A node whose slices are rows of the call's own, from block B on. -/
def NdOwn (w : World) (B : Nat) (x : NdV × Nd) : Prop :=
  w.ownsRow B 9 1 x.1.1 x.2.words.length (x.2.words.map txt) ∧ w.ownsRow B 2 1 x.1.2.1 x.2.nums.length (x.2.nums.map (Value.int .i64)) ∧ w.ownsRow B 3 1 x.1.2.2 x.2.kids.length (x.2.kids.map (Value.int .i64)) ∧ ∀ s ∈ x.2.words, s.length ≤ maxLen
/-- Its three slices lie in blocks of their own. -/
def NdApart (x : NdV) : Prop := (∀ b, x.1.ownBlock = some b → x.2.1.ownBlock ≠ some b ∧ x.2.2.ownBlock ≠ some b) ∧ ∀ b, x.2.1.ownBlock = some b → x.2.2.ownBlock ≠ some b
theorem ints_own {w : World} {B : Nat} {e : TypeId} {v : Value} {l : List Int} (h : w.ownsRow B e 1 v l.length (l.map (Value.int .i64))) : IntsL w v l := by
  rcases h.2 with ⟨rfl, q⟩ | ⟨g, cap, cur, rfl, _, _, h1, h2, _⟩
  · have : l = [] := List.length_eq_zero_iff.mp q
    subst this
    exact IntsL.nil _
  · exact ⟨_, cap, rfl, h1, h2, Reads.of_own h⟩
theorem strs_own {w : World} {B : Nat} {e : TypeId} {v : Value} {l : List (List UInt8)} (h : w.ownsRow B e 1 v l.length (l.map txt)) (hs : ∀ s ∈ l, s.length ≤ maxLen) : StrsL w v l := by
  rcases h.2 with ⟨rfl, q⟩ | ⟨g, cap, cur, rfl, _, _, h1, h2, _⟩
  · have : l = [] := List.length_eq_zero_iff.mp q
    subst this
    exact StrsL.nil _
  · exact ⟨_, cap, rfl, h1, h2, Reads.of_own h, hs⟩
theorem NdOwn.at_ {w : World} {B : Nat} {x : NdV × Nd} (h : NdOwn w B x) : NdAt w x := ⟨strs_own h.1 h.2.2.2, ints_own h.2.1, ints_own h.2.2.1⟩
theorem NdOwn.keep {w w' : World} {B : Nat} {x : NdV × Nd} (h : NdOwn w B x) (hb : Below w.heap.size w w') : NdOwn w' B x := ⟨ownRow_below h.1 hb, ownRow_below h.2.1 hb, ownRow_below h.2.2.1 hb, h.2.2.2⟩

/-- A node whose slices are no larger than memory. -/
def SizedD (d : Nd) : Prop := d.words.length * 16 ≤ 140737488355328 ∧ d.nums.length * 8 ≤ 140737488355328 ∧ d.kids.length * 8 ≤ 140737488355328
def movedM (L : List (Int × Int)) (d : Nd) : Nd := ⟨d.kind, d.words, d.nums, d.kids.map (look0 L), d.pos⟩
/-- What stands in memory behind the copies. -/
structure MovS (w wx : World) (kd ps : Int) (ws : List (List UInt8)) (nums ks : List Int) (y1 y2 y3 : Value) : Prop where
  box : Blk wx w.heap.size #[.int .i64 kd, y1, y2, y3, .int .i64 ps]
  res : Blk wx (w.heap.size + 1) #[.int .i64 0, .slice none 0 0, .slice none 0 0, .slice none 0 0, .int .i64 0]
  o1 : wx.ownsRow (w.heap.size + 2) 9 1 y1 ws.length (ws.map txt)
  o2 : wx.ownsRow (w.heap.size + 2) 2 1 y2 nums.length (nums.map (Value.int .i64))
  o3 : wx.ownsRow (w.heap.size + 2) 3 1 y3 ks.length (ks.map (Value.int .i64))
  ap : NdApart (y1, y2, y3)
  below : Below w.heap.size w wx
theorem movs_of {w w2 w4 w5 w6 : World} {kd ps : Int} {ws : List (List UInt8)} {nums ks : List Int} {x1 x2 x3 y1 y2 y3 : Value} (hb : Below w.heap.size w w2) (hz : w2.heap.size = w.heap.size + 2)
    (B : Blk w2 w.heap.size #[.int .i64 kd, x1, x2, x3, .int .i64 ps]) (R : Blk w2 (w.heap.size + 1) #[.int .i64 0, .slice none 0 0, .slice none 0 0, .slice none 0 0, .int .i64 0])
    (b4 : Below w2.heap.size w2 w4) (b5 : Below w4.heap.size w4 w5) (b6 : Below w5.heap.size w5 w6)
    (p1 : w4.ownsRow w2.heap.size 9 1 y1 ws.length (ws.map txt)) (p2 : w5.ownsRow w4.heap.size 2 1 y2 nums.length (nums.map (Value.int .i64))) (p3 : w6.ownsRow w5.heap.size 3 1 y3 ks.length (ks.map (Value.int .i64))) :
    MovS w (((w6.setCell ⟨w.heap.size, 1, none⟩ y1).setCell ⟨w.heap.size, 2, none⟩ y2).setCell ⟨w.heap.size, 3, none⟩ y3) kd ps ws nums ks y1 y2 y3 := by
  have s4 := b4.size
  have s5 := b5.size
  have B6 := ((B.keep b4).keep b5).keep b6
  have R6 := ((R.keep b4).keep b5).keep b6
  have q1 := p1.lt
  have q2 := p2.lt
  have q3 := p3.lt
  have ne : ∀ j : Nat, (⟨w.heap.size, j, none⟩ : Addr).block ≠ w.heap.size + 1 := fun _ => by show w.heap.size ≠ w.heap.size + 1; omega
  refine ⟨?_, ((R6.other (ne 1) _).other (ne 2) _).other (ne 3) _, ?_, ?_, ?_, ⟨fun b h => ⟨fun k => ?_, fun k => ?_⟩, fun b h k => ?_⟩, ?_⟩
  · have := ((B6.set 1 y1).set 2 y2).set 3 y3
    simpa using this
  · exact ownRow_set (ownRow_set (ownRow_set (ownRow_less (ownRow_below (ownRow_below p1 b5) b6) (by omega)) (by omega)) (by omega)) (by omega)
  · exact ownRow_set (ownRow_set (ownRow_set (ownRow_less (ownRow_below p2 b6) (by omega)) (by omega)) (by omega)) (by omega)
  · exact ownRow_set (ownRow_set (ownRow_set (ownRow_less p3 (by omega)) (by omega)) (by omega)) (by omega)
  · have := q1 _ h
    have := q2 _ k
    omega
  · have := q1 _ h
    have := q3 _ k
    omega
  · have := q2 _ h
    have := q3 _ k
    omega
  · exact (((((hb.trans (b4.mono (by omega))).trans (b5.mono (by omega))).trans (b6.mono (by omega))).setCell (Nat.le_refl _) _).setCell (Nat.le_refl _) _).setCell (Nat.le_refl _) _
theorem MovS.step {w wr : World} {kd ps u : Int} {ws : List (List UInt8)} {nums l : List Int} {y1 y2 : Value} {g n d j : Nat} (h : MovS w wr kd ps ws nums l y1 y2 (.slice (some ⟨g, 0, none⟩) n d)) (hn : l.length = n) :
    MovS w (wr.setCell ⟨g, j, none⟩ (.int .i64 u)) kd ps ws nums (l.set j u) y1 y2 (.slice (some ⟨g, 0, none⟩) n d) := by
  have hg := h.o3.lt g rfl
  have h3 := h.o3
  rw [hn] at h3
  have st := h3.stored j (.int .i64 u)
  have k1 := fun (q : y1.ownBlock = some g) => (h.ap.1 g q).2 rfl
  have k2 := fun (q : y2.ownBlock = some g) => h.ap.2 g q rfl
  refine ⟨h.box.other (by show g ≠ w.heap.size; omega) _, h.res.other (by show g ≠ w.heap.size + 1; omega) _, ?_, ?_, ?_, h.ap, h.below.setCell (by show w.heap.size ≤ g; omega) _⟩
  · exact h.o1.kept st.2 (.inr k1)
  · exact h.o2.kept st.2 (.inr k2)
  · rw [List.length_set, hn, List.map_set]
    exact st.1
/-- Five cells of a row are a node's. -/
def set5 (w : World) (g o : Nat) (a b c d e : Value) : World := ((((w.setCell ⟨g, o, none⟩ a).setCell ⟨g, o + 1, none⟩ b).setCell ⟨g, o + 2, none⟩ c).setCell ⟨g, o + 3, none⟩ d).setCell ⟨g, o + 4, none⟩ e
theorem MovS.done {w wr : World} {kd ps : Int} {ws : List (List UInt8)} {nums ks : List Int} {y1 y2 y3 : Value} (h : MovS w wr kd ps ws nums ks y1 y2 y3) (ht : ∀ s ∈ ws, s.length ≤ maxLen) :
    Blk (set5 wr (w.heap.size + 1) 0 (.int .i64 kd) y1 y2 y3 (.int .i64 ps)) (w.heap.size + 1) #[.int .i64 kd, y1, y2, y3, .int .i64 ps] ∧
    NdOwn (set5 wr (w.heap.size + 1) 0 (.int .i64 kd) y1 y2 y3 (.int .i64 ps)) w.heap.size ((y1, y2, y3), ⟨kd, ws, nums, ks, ps⟩) ∧ NdApart (y1, y2, y3) ∧
    Below w.heap.size w (set5 wr (w.heap.size + 1) 0 (.int .i64 kd) y1 y2 y3 (.int .i64 ps)) := by
  have lt : w.heap.size + 1 < w.heap.size + 2 := by omega
  have ge : w.heap.size ≤ w.heap.size + 1 := by omega
  have tw : w.heap.size ≤ w.heap.size + 2 := by omega
  refine ⟨?_, ⟨?_, ?_, ?_, ht⟩, h.ap, ?_⟩
  · have := ((((h.res.set 0 (.int .i64 kd)).set 1 y1).set 2 y2).set 3 y3).set 4 (.int .i64 ps)
    simpa [set5] using this
  · exact ownRow_less (ownRow_set (ownRow_set (ownRow_set (ownRow_set (ownRow_set h.o1 lt) lt) lt) lt) lt) tw
  · exact ownRow_less (ownRow_set (ownRow_set (ownRow_set (ownRow_set (ownRow_set h.o2 lt) lt) lt) lt) lt) tw
  · exact ownRow_less (ownRow_set (ownRow_set (ownRow_set (ownRow_set (ownRow_set h.o3 lt) lt) lt) lt) lt) tw
  · exact ((((h.below.setCell ge _).setCell ge _).setCell ge _).setCell ge _).setCell ge _
theorem half_len (f : Int → Int) {ks : List Int} {j : Nat} : ((ks.take j).map f ++ ks.drop j).length = ks.length := by
  rw [List.length_append, List.length_map, ← List.length_append, List.take_append_drop]
theorem half_at (f : Int → Int) {ks : List Int} {j : Nat} {x : Int} (hx : ks[j]? = some x) : ((ks.take j).map f ++ ks.drop j)[j]? = some x := by
  have hj := (List.getElem?_eq_some_iff.mp hx).1
  rw [List.getElem?_append_right (by simp; omega), List.length_map, List.length_take, Nat.min_eq_left (by omega), Nat.sub_self, List.getElem?_drop, Nat.add_zero]
  exact hx
theorem half_set (f : Int → Int) {ks : List Int} {j : Nat} {x : Int} (hx : ks[j]? = some x) : ((ks.take j).map f ++ ks.drop j).set j (f x) = (ks.take (j + 1)).map f ++ ks.drop (j + 1) := by
  obtain ⟨hj, e⟩ := List.getElem?_eq_some_iff.mp hx
  rw [List.set_append_right _ _ (by simp; omega), List.length_map, List.length_take, Nat.min_eq_left (by omega), Nat.sub_self, List.drop_eq_getElem_cons hj, List.take_add_one, hx, List.map_append, List.append_assoc]
  rfl
theorem txt_one : ∀ (l : List (List UInt8)), ∀ u ∈ l.map txt, u.oneCell' = true := fun l u hu => by
  obtain ⟨x, _, rfl⟩ := List.mem_map.1 hu
  rfl
theorem int_one : ∀ (l : List Int), ∀ u ∈ l.map (Value.int .i64), u.oneCell' = true := fun l u hu => by
  obtain ⟨x, _, rfl⟩ := List.mem_map.1 hu
  rfl
end Go.Proofs.YtabnjiijgbigbaaDoor

namespace Go.Proofs.YtabnjiijgbigbaaDoor
open Go.RowKit

/-- One of a node's slices lies in block b. -/
def InB (y : NdV) (b : Nat) : Prop := y.1.ownBlock = some b ∨ y.2.1.ownBlock = some b ∨ y.2.2.ownBlock = some b
theorem NdOwn.lt {w : World} {B b : Nat} {x : NdV × Nd} (h : NdOwn w B x) (hb : InB x.1 b) : B ≤ b ∧ b < w.heap.size := by
  rcases hb with q | q | q
  · exact h.1.lt _ q
  · exact h.2.1.lt _ q
  · exact h.2.2.1.lt _ q
theorem NdOwn.less {w : World} {B B' : Nat} {x : NdV × Nd} (h : NdOwn w B x) (hb : B' ≤ B) : NdOwn w B' x := ⟨ownRow_less h.1 hb, ownRow_less h.2.1 hb, ownRow_less h.2.2.1 hb, h.2.2.2⟩
theorem ownRow_grown {w w' : World} {row : Option Nat} {base n size : Nat} {e : TypeId} {v : Value} {xs : List Value} (h : w.ownsRow base e size v n xs) (hg : w.grownBy w' row) (hn : ∀ b, row = some b → v.ownBlock ≠ some b) : w'.ownsRow base e size v n xs :=
  h.kept hg (by
    rcases row with _ | b
    · cases v.ownBlock <;> simp
    · exact .inr (hn b rfl))
theorem NdOwn.grown {w w' : World} {row : Option Nat} {B : Nat} {x : NdV × Nd} (h : NdOwn w B x) (hg : w.grownBy w' row) (hn : ∀ b, row = some b → ¬ InB x.1 b) : NdOwn w' B x :=
  ⟨ownRow_grown h.1 hg fun b hb q => hn b hb (.inl q), ownRow_grown h.2.1 hg fun b hb q => hn b hb (.inr (.inl q)), ownRow_grown h.2.2.1 hg fun b hb q => hn b hb (.inr (.inr q)), h.2.2.2⟩
structure RowO (W wr : World) (g cap : Nat) (rs : List (NdV × Nd)) : Prop where
  own : wr.ownsRow W.heap.size 30 5 (.slice (some ⟨g, 0, none⟩) rs.length cap) rs.length (nodeCells rs)
  each : ∀ x ∈ rs, NdOwn wr W.heap.size x ∧ NdApart x.1 ∧ ¬ InB x.1 g
  lone : ∀ (i j : Nat) (x y : NdV × Nd) (b : Nat), rs[i]? = some x → rs[j]? = some y → InB x.1 b → InB y.1 b → i = j
  below : Below W.heap.size W wr
theorem nodeCells_set : ∀ (rs : List (NdV × Nd)) (k : Nat) (x : NdV × Nd), k < rs.length →
    (((((nodeCells rs).set (k * 5) (.int .i64 x.2.kind)).set (k * 5 + 1) x.1.1).set (k * 5 + 2) x.1.2.1).set (k * 5 + 3) x.1.2.2).set (k * 5 + 4) (.int .i64 x.2.pos) = nodeCells (rs.set k x)
  | [], k, x, h => absurd h (Nat.not_lt_zero _)
  | y :: r, 0, x, _ => rfl
  | y :: r, k + 1, x, h => by
    have := nodeCells_set r k x (by simpa using h)
    rw [List.set_cons_succ, nodeCells, nodeCells, ← this, show (k + 1) * 5 = k * 5 + 1 + 1 + 1 + 1 + 1 by omega]
    rfl
theorem grown_set5 {w : World} {g o : Nat} {a b c d e : Value} : w.grownBy (set5 w g o a b c d e) (some g) :=
  ((((grown_set (w := w) (g := g) (j := o) (u := a)).trans grown_set).trans grown_set).trans grown_set).trans grown_set
section
variable {W wr w' : World} {g cap : Nat} {rs : List (NdV × Nd)}
theorem RowO.keep (h : RowO W wr g cap rs) (hb : Below wr.heap.size wr w') : RowO W w' g cap rs :=
  ⟨ownRow_below h.own hb, fun x hx => ⟨(h.each x hx).1.keep hb, (h.each x hx).2⟩, h.lone, h.below.trans (hb.mono h.below.size)⟩
theorem RowO.ge (h : RowO W wr g cap rs) : W.heap.size ≤ g ∧ g < wr.heap.size := h.own.lt g rfl
theorem RowO.put (h : RowO W wr g cap rs) (hb : Below wr.heap.size wr w') {y : NdV × Nd} (hy : NdOwn w' wr.heap.size y) (ha : NdApart y.1) {k : Nat} (hk : k < rs.length) :
    RowO W (set5 w' g (k * 5) (.int .i64 y.2.kind) y.1.1 y.1.2.1 y.1.2.2 (.int .i64 y.2.pos)) g cap (rs.set k y) := by
  have hg := h.ge
  have h' := h.keep hb
  have old : ∀ (i : Nat) (x : NdV × Nd) (b : Nat), rs[i]? = some x → InB x.1 b → b < wr.heap.size := fun i x b hx hb => ((h.each x (List.mem_of_getElem? hx)).1.lt hb).2
  have new : ∀ b, InB y.1 b → wr.heap.size ≤ b := fun b hb => (hy.lt hb).1
  refine ⟨?_, fun x hx => ?_, fun i j x z b hx hz ix iz => ?_, ?_⟩
  · rw [List.length_set, ← nodeCells_set rs k y hk]
    exact ((((h'.own.stored _ _).1.stored _ _).1.stored _ _).1.stored _ _).1.stored _ _ |>.1
  · rcases List.mem_or_eq_of_mem_set hx with q | rfl
    · have e := h'.each x q
      exact ⟨e.1.grown grown_set5 (fun b hb => by injection hb with hb; subst hb; exact e.2.2), e.2⟩
    · have off : ¬ InB x.1 g := fun q => by have := new g q; omega
      exact ⟨(hy.less h.below.size).grown grown_set5 (fun b hb => by injection hb with hb; subst hb; exact off), ha, off⟩
  · rw [List.getElem?_set] at hx hz
    by_cases q1 : k = i
    · rw [if_pos q1] at hx
      by_cases q2 : k = j
      · exact q1.symm.trans q2
      · rw [if_neg q2] at hz
        rw [if_pos (by omega)] at hx
        injection hx with hx
        subst hx
        have := old j z b hz iz
        have := new b ix
        omega
    · rw [if_neg q1] at hx
      by_cases q2 : k = j
      · rw [if_pos q2, if_pos (by omega)] at hz
        injection hz with hz
        subst hz
        have := old i x b hx ix
        have := new b iz
        omega
      · rw [if_neg q2] at hz
        exact h.lone i j x z b hx hz ix iz
  · exact h'.below.grown grown_set5 h'.below.size (fun k hk => by injection hk with hk; subst hk; exact hg.1)
theorem RowO.nodes (h : RowO W wr g cap rs) : NodesAt wr (.slice (some ⟨g, 0, none⟩) rs.length cap) (rs.map (·.2)) := by
  rcases h.own.2 with ⟨e, _⟩ | ⟨g', cap', cur, e, _, _, h1, h2, _⟩
  · cases e
  · injection e with e1 e2 e3
    subst e3
    refine ⟨_, cap, rs, by rw [List.length_map], by rw [List.length_map]; exact h1, h2, rfl, ?_, fun x hx => (h.each x hx).1.at_⟩
    rw [List.length_map]
    exact Reads.of_own h.own
end
/-- A row that make has made. -/
def z5 : NdV × Nd := ((.slice none 0 0, .slice none 0 0, .slice none 0 0), nd0)
theorem z5_own (w : World) (B : Nat) : NdOwn w B z5 ∧ NdApart z5.1 ∧ ∀ b, ¬ InB z5.1 b := by
  refine ⟨⟨World.ownsRow_nil _ _ _ _, World.ownsRow_nil _ _ _ _, World.ownsRow_nil _ _ _ _, fun s hs => by cases hs⟩, ⟨fun b h => (by cases h), fun b h => (by cases h)⟩, fun b h => ?_⟩
  rcases h with q | q | q <;> cases q
theorem cells_z5 : ∀ n : Nat, nodeCells (List.replicate n z5) = (List.replicate n [Value.int .i64 0, .slice none 0 0, .slice none 0 0, .slice none 0 0, .int .i64 0]).flatten
  | 0 => rfl
  | n + 1 => by
    rw [List.replicate_succ, nodeCells, cells_z5 n, List.replicate_succ, List.flatten_cons]
    rfl
theorem rowO_made {W w : World} (hb : Below W.heap.size W w) {n : Nat} (hn : n ≤ maxLen) {cs : Array Value} (hc : cs.toList = nodeCells (List.replicate n z5)) : RowO W (w.alloc (.cells cs 30)) w.heap.size n (List.replicate n z5) := by
  have hs : cs.size = n * 5 := by rw [← Array.length_toList, hc, nodeCells_length, List.length_replicate]
  refine ⟨?_, fun x hx => ?_, fun i j x y b hx _ ix _ => ?_, hb.alloc hb.size _⟩
  · rw [List.length_replicate]
    refine ⟨by rw [nodeCells_length, List.length_replicate], .inr ⟨w.heap.size, n, cs, rfl, hb.size, heap_alloc_new w _, Nat.le_refl _, hn, hs, ?_⟩⟩
    rw [hc, List.take_of_length_le (by rw [nodeCells_length, List.length_replicate]; exact Nat.le_refl _)]
  · rw [List.eq_of_mem_replicate hx]
    exact ⟨(z5_own _ _).1, (z5_own w 0).2.1, (z5_own w 0).2.2 _⟩
  · rw [List.eq_of_mem_replicate (List.mem_of_getElem? hx)] at ix
    exact absurd ix ((z5_own w 0).2.2 b)
end Go.Proofs.YtabnjiijgbigbaaDoor

namespace Go.Proofs.YtabnjiijgbigbaaDoor
open Go.RowKit Go.Maps

/-! ### Plain -/
/-- The places that Build lists: what stands k-th in W is k. -/
def prs (W : List Int) : Nat → List (Int × Int)
  | 0 => []
  | k + 1 => ((W[k]?).getD 0, (k : Int)) :: prs W k
theorem nodup_inj {W : List Int} (hn : W.Nodup) {i j : Nat} (hi : i < W.length) (hj : j < W.length) (h : W[i] = W[j]) : i = j := by
  rw [List.nodup_iff_pairwise_ne, List.pairwise_iff_getElem] at hn
  rcases Nat.lt_trichotomy i j with q | q | q
  · exact absurd h (hn i j hi hj q)
  · exact q
  · exact absurd h.symm (hn j i hj hi q)
theorem look_prs {W : List Int} (hn : W.Nodup) : ∀ (k i : Nat) (x : Int), i < k → k ≤ W.length → W[i]? = some x → look0 (prs W k) x = i
  | 0, i, x, h, _, _ => absurd h (Nat.not_lt_zero _)
  | k + 1, i, x, h, hk, hx => by
    have hy : W[k]? = some W[k] := List.getElem?_eq_getElem (by omega)
    rw [prs, look0, hy]
    show (if W[k] = x then (k : Int) else look0 (prs W k) x) = i
    by_cases e : i = k
    · subst e
      rw [hx] at hy
      injection hy with hy
      rw [if_pos hy.symm]
    · rw [if_neg (fun q => e ?_), look_prs hn k i x (by omega) (by omega) hx]
      rw [q] at hy
      obtain ⟨h1, h2⟩ := List.getElem?_eq_some_iff.mp hx
      obtain ⟨h3, h4⟩ := List.getElem?_eq_some_iff.mp hy
      exact nodup_inj hn h1 h3 (h2.trans h4.symm)
theorem moved_is {ns : List Nd} {W : List Int} (O : Order ns W) {a : Nat} {d : Nd} (hd : ns[a]? = some d) : movedM (prs W W.length) d = movedN W d := by
  unfold movedM movedN
  congr 1
  apply List.map_congr_left
  intro c hc
  obtain ⟨c', rfl, hl⟩ := kid_nat O.kids hd hc
  obtain ⟨i, hi, hp, hil⟩ := place_in O hl
  rw [hp, look_prs O.nodup W.length i _ (by rw [O.len]; exact hil) (Nat.le_refl _) hi]
theorem made_node (n : Nat) : (madeCells #[Value.int .i64 0, .slice none 0 0, .slice none 0 0, .slice none 0 0, .int .i64 0] (n * 5)).toList = nodeCells (List.replicate n z5) := by
  have e : ∀ m, (madeCells #[Value.int .i64 0, .slice none 0 0, .slice none 0 0, .slice none 0 0, .int .i64 0] m).toList = (List.range m).map fun i => #[Value.int .i64 0, .slice none 0 0, .slice none 0 0, .slice none 0 0, .int .i64 0][i % 5]! := fun m => by
    unfold madeCells
    simp
  rw [e]
  induction n with
  | zero => rfl
  | succ n ih =>
    rw [show (n + 1) * 5 = 5 + n * 5 by omega, List.range_add, List.map_append, List.map_map, List.replicate_succ, nodeCells, ← ih]
    have : ((fun i => #[Value.int .i64 0, .slice none 0 0, .slice none 0 0, .slice none 0 0, .int .i64 0][i % 5]!) ∘ fun x => 5 + x) = fun i => #[Value.int .i64 0, .slice none 0 0, .slice none 0 0, .slice none 0 0, .int .i64 0][i % 5]! := by
      funext i
      show _[(5 + i) % 5]! = _
      rw [Nat.add_mod_left]
    rw [this]
    rfl
theorem make_nodes (w : World) (n : Nat) (hn : n ≤ 1500) : (Instr.makeSlice 22 (.int .i64 (n : Int)) (.int .i64 (n : Int))).run Tryd.prog w = .ok (.slice (some ⟨w.heap.size, 0, none⟩) n n) (w.alloc (.cells (madeCells #[Value.int .i64 0, .slice none 0 0, .slice none 0 0, .slice none 0 0, .int .i64 0] (n * 5)) 30)) := by
  obtain ⟨i, hi, hz, hs, hb⟩ := info_three infoNode
  have hr := run_make (P := Tryd.prog) w 22 30 i _ Tryd.underlying22 hi hz .i64 .i64 (n : Int) (n : Int) (by omega) (Int.le_refl _) (by rw [hb]; omega) (by omega)
  simp only [Int.toNat_natCast, hs] at hr
  exact hr
end Go.Proofs.YtabnjiijgbigbaaDoor

namespace Go.Proofs.YtabnjiijgbigbaaDoor
open Go.RowKit Go.Maps

def newT (ns : List Nd) : List Nd := builtT ns (walkT ns)
theorem newT_wrong {ns : List Nd} (h : rightN ns = false) : newT ns = [] := by
  unfold newT walkT
  rw [if_neg (by rw [h]; decide)]
  rfl
/-- What Build answers. -/
def BuiltPut (w : World) (ns : List Nd) (e : Ending) (w' : World) : Prop :=
  (newT ns = [] ∧ e = .returned (.slice none 0 0) ∧ Below w.heap.size w w') ∨
  ∃ g rs, 0 < rs.length ∧ rs.map (·.2) = newT ns ∧ e = .returned (.slice (some ⟨g, 0, none⟩) rs.length rs.length) ∧ RowO w w' g rs.length rs
set_option maxHeartbeats 4000000 in
theorem build_wrong (w : World) (v : Value) (ns : List Nd) (h : NodesAt w v ns) (ht : StrRow w 0 keysL) (hr : rightN ns = false) :
    Calls Tryd.prog 7 #[v, .int .i64 0] w (BuiltPut w ns) := by
  have rt := right_of valid_any w v ns h ht
  rw [hr] at rt
  have FIN := Lib.hid (newT_wrong hr)
  obtain ⟨A, c, rfl⟩ : ∃ A c, v = .slice A ns.length c := by obtain ⟨A, c, _, e, _⟩ := h; exact ⟨A, c, e⟩
  have RT := Lib.hid rt
  generalize ns.length = n at *
  rcases Nat.eq_zero_or_pos n with h0 | h0
  · subst h0
    clear h ht hr rt
    go_enter Tryd.func7, Tryd.ntmps7
    go_wp2_with fail
    go_ret
    exact .inl ⟨FIN.out, rfl, Below.refl _ _⟩
  · have i1 : ¬ (n : Int) ≤ 0 := by omega
    have i2 : n ≠ 0 := by omega
    clear h ht hr rt h0
    go_enter Tryd.func7, Tryd.ntmps7
    go_wp2_with (go_at_call 9; (with_reducible refine RT.out.mono ?_); rintro e w1 ⟨rfl, hb⟩; have HB := Lib.hid hb; clear hb)
    go_ret
    exact .inl ⟨FIN.out, rfl, HB.out⟩
end Go.Proofs.YtabnjiijgbigbaaDoor
