/-
  Words for the walk of the reference's Do of terms. (Template: by-name.py fills it; gen/genRDo.py writes it.)
-/
import Derived.Test.YtkinbbhbencipaaJTermR
import Derived.Test.YtkinbbhbencipaaJNumL
import Derived.Test.YtkinbbhbencipaaJB
import Derived.Test.YtkinbbhbencipaaJA
import Derived.Test.YtkinbbhbencipaaJD
import Derived.Test.YtkinbbhbencipaaJNumM
import Derived.Deep.CutRange
namespace Go.Proofs.Ytkinbbhbencipaa
open Go.RowKit

theorem set_pair {w1 : World} {b : Nat} {x y u0 u1 : Value} (h0 : w1.cell? ⟨b, 0, none⟩ = some u0) (h1 : w1.cell? ⟨b, 1, none⟩ = some u1) :
    ((w1.setCell ⟨b, 0, none⟩ x).setCell ⟨b, 1, none⟩ y).cell? ⟨b, 0, none⟩ = some x ∧ ((w1.setCell ⟨b, 0, none⟩ x).setCell ⟨b, 1, none⟩ y).cell? ⟨b, 1, none⟩ = some y := by
  obtain ⟨v0, g0⟩ := cell?_setCell_some (p := ⟨b, 1, none⟩) (x := y) (cell?_setCell_some (p := ⟨b, 0, none⟩) (x := x) h0).choose_spec
  obtain ⟨v1, g1⟩ := cell?_setCell_some (p := ⟨b, 1, none⟩) (x := y) (cell?_setCell_some (p := ⟨b, 0, none⟩) (x := x) h1).choose_spec
  have e0 := g0
  rw [set_two (by decide)] at e0
  exact ⟨g0.trans (congrArg some (cell_set_rev e0)), g1.trans (congrArg some (cell_set_rev g1))⟩


theorem trimL_take (l : List (Int × Int)) : l.take (trimL l).length = trimL l := by
  have h : trimL l <+: l := by
    unfold trimL
    have := List.reverse_prefix.2 (List.dropWhile_suffix (fun x : Int × Int => x.1 == 0) (l := l.reverse))
    rwa [List.reverse_reverse] at this
  exact (List.prefix_iff_eq_take.1 h).symm

theorem trim_step {l : List (Int × Int)} {k : Nat} {x : Int × Int} (hx : l[k]? = some x) : (trimL (l.take (k + 1))).length = if x.1 = 0 then (trimL (l.take k)).length else k + 1 := by
  have hl : k < l.length := by
    rcases Nat.lt_or_ge k l.length with g | g
    · exact g
    · rw [List.getElem?_eq_none g] at hx; cases hx
  have et : l.take (k + 1) = l.take k ++ [x] := by
    have e : l[k] = x := by rw [List.getElem?_eq_getElem hl] at hx; exact Option.some.inj hx
    rw [← e, ← List.take_succ_eq_append_getElem hl]
  rw [et, trimL_snoc]
  split
  · rfl
  · rw [← et, List.length_take]
    omega

theorem below_rowed {wx w5 : World} (hg : (wx.drew.alloc (.cells #[] 25)).grownBy w5 (Value.slice (some ⟨wx.heap.size, 0, none⟩) 0 0).ownBlock) : Below wx.heap.size wx w5 :=
  ((below_drew wx).trans (below_alloc1 wx.drew _)).grown hg (by simp) (fun q hq => by
    have e : wx.heap.size = q := by simpa [Value.ownBlock] using hq
    omega)

end Go.Proofs.Ytkinbbhbencipaa

namespace Go.Proofs.Ytkinbbhbencipaa
open Go.RowKit

end Go.Proofs.Ytkinbbhbencipaa

namespace Go.Proofs.Ytkinbbhbencipaa
open Go.RowKit

theorem fitN_nought (s : Bool) (k : Nat) : fitN s 0 k = 0 := by
  unfold fitN
  split
  · cases s <;> simp
  · rfl

theorem toV_res {P : Int} {Q N : Nat} {S : Bool} (hN : N = P.natAbs) (hs : P ≠ 0 → S = decide (P < 0)) : toV N Q S = resV P Q := by
  subst hN
  unfold toV resV resN resD resE
  by_cases hP : P = 0
  · subst hP
    simp [fitN_nought]
  · rw [hs hP]

theorem plus_nought (s t : Bool) (X : Nat) : plusM s X t 0 = X ∧ plusS s X t 0 = s := by
  unfold plusM plusS
  refine ⟨?_, ?_⟩
  · split
    · rfl
    · rw [if_neg (Nat.not_lt_zero _)]; rfl
  · split
    · rfl
    · rw [if_neg (Nat.not_lt_zero _)]

theorem add_same (n m : Int) (d e : Nat) : toV (plusM (decide (n < 0)) (n.natAbs * (e : Int).natAbs) (decide (m < 0)) (m.natAbs * (d : Int).natAbs)) ((d : Int).natAbs * (e : Int).natAbs) (plusS (decide (n < 0)) (n.natAbs * (e : Int).natAbs) (decide (m < 0)) (m.natAbs * (d : Int).natAbs)) = resV (n * e + m * d) (d * e) := by
  rw [Int.natAbs_natCast, Int.natAbs_natCast]
  obtain ⟨a, b⟩ := plus_signed n m e d
  exact toV_res a b

theorem sub_parts (n m : Int) (d e : Nat) : plusM (decide (n < 0)) (n.natAbs * e) (!decide (m < 0)) (m.natAbs * d) = (n * e - m * d).natAbs ∧
    (n * e - m * d ≠ 0 → plusS (decide (n < 0)) (n.natAbs * e) (!decide (m < 0)) (m.natAbs * d) = decide (n * e - m * d < 0)) := by
  obtain ⟨a, b⟩ := plus_signed n (-m) e d
  rw [Int.natAbs_neg] at a b
  rw [show n * e + -m * d = n * e - m * d by rw [Int.neg_mul]; omega] at a b
  by_cases hm : m = 0
  · subst hm
    rw [show (0 : Int).natAbs * d = 0 by simp] at a b ⊢
    obtain ⟨x1, x2⟩ := plus_nought (decide (n < 0)) (decide (-(0 : Int) < 0)) (n.natAbs * e)
    obtain ⟨y1, y2⟩ := plus_nought (decide (n < 0)) (!decide ((0 : Int) < 0)) (n.natAbs * e)
    rw [x1] at a
    rw [x2] at b
    rw [y1, y2]
    exact ⟨a, b⟩
  · have : (!decide (m < 0)) = decide (-m < 0) := by
      by_cases h : m < 0
      · rw [decide_eq_true h, decide_eq_false (by omega)]; rfl
      · rw [decide_eq_false h, decide_eq_true (by omega)]; rfl
    rw [this]
    exact ⟨a, b⟩

theorem sub_same (n m : Int) (d e : Nat) : toV (plusM (decide (n < 0)) (n.natAbs * (e : Int).natAbs) (!decide (m < 0)) (m.natAbs * (d : Int).natAbs)) ((d : Int).natAbs * (e : Int).natAbs) (plusS (decide (n < 0)) (n.natAbs * (e : Int).natAbs) (!decide (m < 0)) (m.natAbs * (d : Int).natAbs)) = resV (n * e - m * d) (d * e) := by
  rw [Int.natAbs_natCast, Int.natAbs_natCast]
  obtain ⟨a, b⟩ := sub_parts n m d e
  exact toV_res a b

theorem mul_sign (n m : Int) (h : n * m ≠ 0) : (decide (n < 0) != decide (m < 0)) = decide (n * m < 0) := by
  have hn : n ≠ 0 := fun e => h (by rw [e, Int.zero_mul])
  have hm : m ≠ 0 := fun e => h (by rw [e, Int.mul_zero])
  by_cases a : n < 0 <;> by_cases b : m < 0
  · have := Int.mul_pos_of_neg_of_neg a b
    rw [decide_eq_true a, decide_eq_true b, decide_eq_false (by omega)]; rfl
  · have := Int.mul_neg_of_neg_of_pos a (show 0 < m by omega)
    rw [decide_eq_true a, decide_eq_false b, decide_eq_true this]; rfl
  · have := Int.mul_neg_of_pos_of_neg (show 0 < n by omega) b
    rw [decide_eq_false a, decide_eq_true b, decide_eq_true this]; rfl
  · have := Int.mul_pos (show 0 < n by omega) (show 0 < m by omega)
    rw [decide_eq_false a, decide_eq_false b, decide_eq_false (by omega)]; rfl

theorem mul_same (n m : Int) (d e : Nat) : toV (n.natAbs * m.natAbs) ((d : Int).natAbs * (e : Int).natAbs) (decide (n < 0) != decide (m < 0)) = resV (n * m) (d * e) := by
  rw [Int.natAbs_natCast, Int.natAbs_natCast]
  exact toV_res (Int.natAbs_mul n m).symm (mul_sign n m)

theorem div_same (n m : Int) (d e : Nat) (he : 0 < e) : toV (n.natAbs * (e : Int).natAbs) ((d : Int).natAbs * m.natAbs) (decide (n < 0) != decide (m < 0)) = resV (n * (if m < 0 then -(e : Int) else e)) (d * m.natAbs) := by
  rw [Int.natAbs_natCast, Int.natAbs_natCast]
  have hs : decide (m < 0) = decide ((if m < 0 then -(e : Int) else e) < 0) := by
    split
    · rename_i h
      rw [decide_eq_true h, decide_eq_true (by omega)]
    · rename_i h
      rw [decide_eq_false h, decide_eq_false (by omega)]
  have ha : (if m < 0 then -(e : Int) else (e : Int)).natAbs = e := by split <;> omega
  generalize (if m < 0 then -(e : Int) else (e : Int)) = E at *
  rw [hs]
  exact toV_res (by rw [Int.natAbs_mul, ha]) (mul_sign n E)
end Go.Proofs.Ytkinbbhbencipaa

namespace Go.Proofs.Ytkinbbhbencipaa
open Go.RowKit


theorem grown_belowR {w4 w5 : World} {B n : Nat} {v : Value} {xs : List Value} {o : Obj} (hB : B ≤ w4.heap.size) (hown : w4.ownsRow B 25 2 v n xs) (hg : (w4.alloc o).grownBy w5 v.ownBlock) : Below B w4 w5 :=
  ((Below.refl B w4).alloc hB o).grown hg (by simp; omega) (fun _ hk => own_block hown hk)
theorem FracBox.setC {w : World} {b : Nat} {x y z : Value} (h : FracBox w b x y z) (u : Value) : FracBox (w.setCell ⟨b, 0, none⟩ u) b u y z where
  k0 := World.cell?_setCell_same _ _ _ h.k0
  k1 := (World.cell?_setCell_other _ _ _ _ (by simp)).trans h.k1
  k2 := (World.cell?_setCell_other _ _ _ _ (by simp)).trans h.k2
  l0 := by rw [World.frozen?_setCell]; exact h.l0
  l1 := by rw [World.frozen?_setCell]; exact h.l1
  l2 := by rw [World.frozen?_setCell]; exact h.l2
  lt := by rw [World.size_setCell]; exact h.lt

theorem one_pair (w : World) (x y : Value) : ∀ (j : Nat) (u : Value), [x, y][j]? = some u → (w.alloc (.cells #[x, y] 25)).cell? ((⟨w.heap.size, 0, none⟩ : Addr).add j) = some u := by
  intro j u hu
  match j, hu with
  | 0, hu =>
    obtain rfl : x = u := by simpa using hu
    show (w.alloc _).cell? ⟨w.heap.size, 0, none⟩ = _
    go_simp
  | 1, hu =>
    obtain rfl : y = u := by simpa using hu
    show (w.alloc _).cell? ⟨w.heap.size, 1, none⟩ = _
    go_simp
  | j + 2, hu => simp at hu

/-- What is done so far. -/
def doneK (h : How) (l m : List (Int × Int)) (k : Nat) : List (Int × Int) := (List.range k).map fun i : Nat => (h (atL l i) (atL m i)).1
theorem doneK_len (h : How) (l m : List (Int × Int)) (k : Nat) : (doneK h l m k).length = k := by simp [doneK]
theorem doneK_end (h : How) (l m : List (Int × Int)) : doneK h l m (max l.length m.length) = combL h l m := rfl
theorem doneK_next (h : How) (l m : List (Int × Int)) (k : Nat) : doneK h l m (k + 1) = doneK h l m k ++ [(h (atL l k) (atL m k)).1] := by
  unfold doneK
  rw [List.range_succ, List.map_append]
  rfl
theorem ratCells_append : ∀ (a b : List (Int × Int)), ratCells (a ++ b) = ratCells a ++ ratCells b
  | [], b => rfl
  | x :: r, b => by rw [List.cons_append, ratCells, ratCells, ratCells_append r b]; rfl

/-- What stands in the reference's Do behind its first call: the parameters, the result, the constant, the term that is made, its row. -/
structure DoS (w wr : World) (b k : Nat) (s : Value) (xn xd : Int) (t : Value) (yn yd zn zd : Int) (v : Value) (xs : List (Int × Int)) : Prop where
  F : FracBox wr w.heap.size s (.int .i64 xn) (.int .i64 xd)
  G : FracBox wr (w.heap.size + 1) t (.int .i64 yn) (.int .i64 yd)
  E : FracBox wr (w.heap.size + 1 + 1) (.slice none 0 0) (.int .i64 0) (.int .i64 0)
  O : FracBox wr (b + 1) v (.int .i64 zn) (.int .i64 zd)
  o : wr.ownsRow (b + 2) 25 2 v k (ratCells xs)
  lt : w.heap.size + 1 + 1 < b
  below : Below w.heap.size w wr

section
variable {w wr w2 : World} {b k : Nat} {s t v : Value} {xn xd yn yd zn zd : Int} {xs : List (Int × Int)}
theorem DoS.keep (h : DoS w wr b k s xn xd t yn yd zn zd v xs) (hb : Below wr.heap.size wr w2) : DoS w w2 b k s xn xd t yn yd zn zd v xs :=
  ⟨h.F.keep hb, h.G.keep hb, h.E.keep hb, h.O.keep hb, own_belowR h.o hb, h.lt, h.below.trans (hb.mono h.below.size)⟩
theorem dos_of {A : Prop} (h : A ∧ DoS w wr b k s xn xd t yn yd zn zd v xs) : DoS w wr b k s xn xd t yn yd zn zd v xs := h.2
theorem DoS.cells {c : Nat} {p q : Int} (h : DoS w wr b k s xn xd t yn yd zn zd v xs) (hr : RatAt wr c p q) :
    ((wr.cell? ⟨w.heap.size, 0, none⟩ = some s ∧ wr.cell? ⟨w.heap.size, 1, none⟩ = some (.int .i64 xn) ∧ wr.cell? ⟨w.heap.size, 2, none⟩ = some (.int .i64 xd)) ∧ (wr.cell? ⟨c, 0, none⟩ = some (.int .i64 p) ∧ wr.cell? ⟨c, 1, none⟩ = some (.int .i64 q)) ∧ RatAt wr c p q) ∧ DoS w wr b k s xn xd t yn yd zn zd v xs :=
  ⟨⟨⟨h.F.k0, h.F.k1, h.F.k2⟩, ⟨hr.k0, hr.k1⟩, hr⟩, h⟩
theorem hold_dos {c : Nat} {p q : Int} {A B : Prop} (hb : Below wr.heap.size wr w2) (h : (A ∧ B ∧ RatAt wr c p q) ∧ DoS w wr b k s xn xd t yn yd zn zd v xs) :
    ((w2.cell? ⟨w.heap.size, 0, none⟩ = some s ∧ w2.cell? ⟨w.heap.size, 1, none⟩ = some (.int .i64 xn) ∧ w2.cell? ⟨w.heap.size, 2, none⟩ = some (.int .i64 xd)) ∧ (w2.cell? ⟨c, 0, none⟩ = some (.int .i64 p) ∧ w2.cell? ⟨c, 1, none⟩ = some (.int .i64 q)) ∧ RatAt w2 c p q) ∧ DoS w w2 b k s xn xd t yn yd zn zd v xs :=
  (h.2.keep hb).cells (h.1.2.2.keep hb)
/-- A fraction's room that a region has made. -/
structure HoleC (wA wr : World) (c : Nat) : Prop where
  hc : c = wA.heap.size
  k0 : wr.cell? ⟨c, 0, none⟩ = some (.int .i64 0)
  k1 : wr.cell? ⟨c, 1, none⟩ = some (.int .i64 0)
  l0 : wr.frozen? ⟨c, 0, none⟩ = false
  l1 : wr.frozen? ⟨c, 1, none⟩ = false
  lt : c < wr.heap.size
  below : Below wA.heap.size wA wr
theorem HoleC.start (wA : World) (ty : TypeId) : HoleC wA (wA.alloc (.cells #[.int .i64 0, .int .i64 0] ty)) wA.heap.size where
  hc := rfl
  k0 := by go_simp
  k1 := by go_simp
  l0 := by go_simp
  l1 := by go_simp
  lt := by simp
  below := below_alloc1 _ _
theorem HoleC.keep {wA wr w2 : World} {c : Nat} (h : HoleC wA wr c) (hb : Below wr.heap.size wr w2) : HoleC wA w2 c :=
  have z := hb.size
  have l := h.lt
  ⟨h.hc, keep_cell hb l h.k0, keep_cell hb l h.k1, keep_free hb l h.l0, keep_free hb l h.l1, by omega, h.below.trans (hb.mono h.below.size)⟩
theorem hole_of {w wA : World} {b k : Nat} {s t v : Value} {xn xd yn yd zn zd : Int} {xs : List (Int × Int)} {A : Prop} {ty : TypeId} (_ : A ∧ DoS w (wA.alloc (.cells #[.int .i64 0, .int .i64 0] ty)) b k s xn xd t yn yd zn zd v xs) : HoleC wA (wA.alloc (.cells #[.int .i64 0, .int .i64 0] ty)) wA.heap.size := HoleC.start wA ty
theorem hole_of2 {w wq : World} {b k : Nat} {s t v : Value} {xn xd yn yd zn zd : Int} {xs : List (Int × Int)} {A : Prop} {ty : TypeId} (_ : A ∧ DoS w (wq.alloc (.cells #[.int .i64 0, .int .i64 0] ty)).drew b k s xn xd t yn yd zn zd v xs) : HoleC wq.drew (wq.alloc (.cells #[.int .i64 0, .int .i64 0] ty)).drew wq.heap.size := HoleC.start wq.drew ty
theorem HoleC.fill {wA wr : World} {c : Nat} (h : HoleC wA wr c) (p q : Int) : Below wA.heap.size wA ((wr.setCell ⟨c, 0, none⟩ (.int .i64 p)).setCell ⟨c, 1, none⟩ (.int .i64 q)) ∧ RatAt ((wr.setCell ⟨c, 0, none⟩ (.int .i64 p)).setCell ⟨c, 1, none⟩ (.int .i64 q)) c p q := by
  obtain ⟨c0, c1⟩ := set_pair (x := .int .i64 p) (y := .int .i64 q) h.k0 h.k1
  have e := h.hc
  exact ⟨(h.below.setCell (by show _ ≤ c; omega) _).setCell (by show _ ≤ c; omega) _, c0, c1, by rw [World.size_setCell, World.size_setCell]; exact h.lt⟩
theorem own_shape {w : World} {B n : Nat} {v : Value} {xs : List Value} (h : w.ownsRow B 25 2 v n xs) : ∃ A c, v = .slice A n c := by
  rcases h.2 with ⟨rfl, rfl⟩ | ⟨g, cap, cur, rfl, _⟩
  · exact ⟨none, 0, rfl⟩
  · exact ⟨_, cap, rfl⟩

/-- What the round's region leaves. -/
def DoMidT (w : World) (b k : Nat) (s : Value) (xn xd : Int) (t : Value) (yn yd zn zd : Int) (v : Value) (xs : List (Int × Int)) (p q e : Int) (v13 v14 : Value) (wx : World) : Prop :=
  ∃ c, v13 = .pointer (some ⟨c, 0, none⟩) ∧ v14 = .int .i64 e ∧ RatAt wx c p q ∧ DoS w wx b k s xn xd t yn yd zn zd v xs
theorem mid_fill {w wA wr : World} {b k c : Nat} {s t v : Value} {xn xd yn yd zn zd p q e : Int} {xs : List (Int × Int)} (h : DoS w wA b k s xn xd t yn yd zn zd v xs) (hc : HoleC wA wr c) :
    DoMidT w b k s xn xd t yn yd zn zd v xs p q e (.pointer (some ⟨c, 0, none⟩)) (.int .i64 e) ((wr.setCell ⟨c, 0, none⟩ (.int .i64 p)).setCell ⟨c, 1, none⟩ (.int .i64 q)) :=
  ⟨_, rfl, rfl, (hc.fill p q).2, h.keep (hc.fill p q).1⟩
theorem mid_alloc {w wA : World} {b k : Nat} {s t v : Value} {xn xd yn yd zn zd p q e : Int} {xs : List (Int × Int)} (h : DoS w wA b k s xn xd t yn yd zn zd v xs) (ty : TypeId) :
    DoMidT w b k s xn xd t yn yd zn zd v xs p q e (.pointer (some ⟨wA.heap.size, 0, none⟩)) (.int .i64 e) (wA.alloc (.cells #[.int .i64 p, .int .i64 q] ty)) :=
  ⟨_, rfl, rfl, RatAt.start wA p q ty, h.keep (below_alloc1 _ _)⟩

/-- One more element. -/
theorem DoS.push {w4 w7 : World} {v' : Value} {q : Int × Int} {o : Obj} (h : DoS w w4 b k s xn xd t yn yd zn zd v xs) (hg : (w4.alloc o).grownBy w7 v.ownBlock) (ho : w7.ownsRow (b + 2) 25 2 v' (k + 1) (ratCells xs ++ [.int .i64 q.1, .int .i64 q.2])) :
    DoS w (w7.setCell ⟨b + 1, 0, none⟩ v') b (k + 1) s xn xd t yn yd zn zd v' (xs ++ [q]) := by
  have hl := h.lt
  have ol := h.O.lt
  have g := grown_belowR (by omega) h.o hg
  have e : ratCells (xs ++ [q]) = ratCells xs ++ [.int .i64 q.1, .int .i64 q.2] := ratCells_append xs [q]
  have hb : Below (b + 1) w7 (w7.setCell ⟨b + 1, 0, none⟩ v') := (Below.refl (b + 1) w7).setCell (p := ⟨b + 1, 0, none⟩) (Nat.le_refl _) v'
  have gb := (g.mono (Nat.le_succ _)).trans hb
  refine ⟨h.F.keepB gb (by omega), h.G.keepB gb (by omega), h.E.keepB gb (by omega), (h.O.keepB g (by omega)).setC v', ?_, hl, h.below.trans (gb.mono (by omega))⟩
  rw [e]
  exact ownsRow_setCell_below ho (by show b + 1 < b + 2; omega) v'
end

end Go.Proofs.Ytkinbbhbencipaa
