/-
  Words for the walk of the reference's Do of terms. (Template: by-name.py fills it; gen/genRDo.py writes it.)
-/
import Derived.Test.YtocmhidkfjahcaaJTermY
import Derived.Test.YtocmhidkfjahcaaJD
import Derived.Test.YtocmhidkfjahcaaJNumM
import Derived.Test.YtocmhidkfjahcaaJNumO
import Derived.Test.YtocmhidkfjahcaaJRatP
import Derived.Deep.CutRange
namespace Go.Proofs.Ytocmhidkfjahcaa
open Go.RowKit

theorem rdo_add (w : World) (x y : Int × Int) (hx : OkR x) (hy : OkR y) :
    Calls Try.prog 69 #[.int .i64 0, ratV x.1 x.2, ratV y.1 y.2] w fun r w2 => r = .returned (.tuple #[ratV (addH x y).1.1 (addH x y).1.2, .int .i64 (addH x y).2]) ∧ Below w.heap.size w w2 := by
  obtain ⟨d, e, v⟩ := hx
  obtain ⟨d', e', v'⟩ := hy
  have := do_add v v' w
  rw [add_same] at this
  unfold addH resT
  rw [e, e']
  exact this
theorem rdo_mul (w : World) (x y : Int × Int) (hx : OkR x) (hy : OkR y) :
    Calls Try.prog 69 #[.int .i64 2, ratV x.1 x.2, ratV y.1 y.2] w fun r w2 => r = .returned (.tuple #[ratV (mulH x y).1.1 (mulH x y).1.2, .int .i64 (mulH x y).2]) ∧ Below w.heap.size w w2 := by
  obtain ⟨d, e, v⟩ := hx
  obtain ⟨d', e', v'⟩ := hy
  have := do_mul v v' w
  rw [mul_same] at this
  unfold mulH resT
  rw [e, e']
  exact this

theorem grown_belowR {w4 w5 : World} {B n : Nat} {v : Value} {xs : List Value} {o : Obj} (hB : B ≤ w4.heap.size) (hown : w4.ownsRow B 36 2 v n xs) (hg : (w4.alloc o).grownBy w5 v.ownBlock) : Below B w4 w5 :=
  ((Below.refl B w4).alloc hB o).grown hg (by simp; omega) (fun _ hk => own_block hown hk)
theorem FracBox.setC {w : World} {b : Nat} {x y z : Value} (h : FracBox w b x y z) (u : Value) : FracBox (w.setCell ⟨b, 0, none⟩ u) b u y z where
  k0 := World.cell?_setCell_same _ _ _ h.k0
  k1 := (World.cell?_setCell_other _ _ _ _ (by simp)).trans h.k1
  k2 := (World.cell?_setCell_other _ _ _ _ (by simp)).trans h.k2
  l0 := by rw [World.frozen?_setCell]; exact h.l0
  l1 := by rw [World.frozen?_setCell]; exact h.l1
  l2 := by rw [World.frozen?_setCell]; exact h.l2
  lt := by rw [World.size_setCell]; exact h.lt

theorem one_pair (w : World) (x y : Value) : ∀ (j : Nat) (u : Value), [x, y][j]? = some u → (w.alloc (.cells #[x, y] 36)).cell? ((⟨w.heap.size, 0, none⟩ : Addr).add j) = some u := by
  intro j u hu
  match j, hu with
  | 0, hu =>
    obtain rfl : x = u := by simpa using hu
    show (w.alloc _).cell? ⟨w.heap.size, 0, none⟩ = _
    go_simp
  | 1, hu =>
    obtain rfl : y = u := by simpa using hu
    show (w.alloc _).cell? ⟨w.heap.size, 1, none⟩ = _
    go_simp
  | j + 2, hu => simp at hu

/-- What is done so far. -/
def doneK (h : How) (l m : List (Int × Int)) (k : Nat) : List (Int × Int) := (List.range k).map fun i : Nat => (h (atL l i) (atL m i)).1
theorem doneK_len (h : How) (l m : List (Int × Int)) (k : Nat) : (doneK h l m k).length = k := by simp [doneK]
theorem doneK_end (h : How) (l m : List (Int × Int)) : doneK h l m (max l.length m.length) = combL h l m := rfl
theorem doneK_next (h : How) (l m : List (Int × Int)) (k : Nat) : doneK h l m (k + 1) = doneK h l m k ++ [(h (atL l k) (atL m k)).1] := by
  unfold doneK
  rw [List.range_succ, List.map_append]
  rfl
theorem ratCells_append : ∀ (a b : List (Int × Int)), ratCells (a ++ b) = ratCells a ++ ratCells b
  | [], b => rfl
  | x :: r, b => by rw [List.cons_append, ratCells, ratCells, ratCells_append r b]; rfl

/-- What stands in the reference's Do behind its first call: the parameters, the result, the constant, the term that is made, its row. -/
structure DoS (w wr : World) (b k : Nat) (s : Value) (xn xd : Int) (t : Value) (yn yd zn zd : Int) (v : Value) (xs : List (Int × Int)) : Prop where
  F : FracBox wr w.heap.size s (.int .i64 xn) (.int .i64 xd)
  G : FracBox wr (w.heap.size + 1) t (.int .i64 yn) (.int .i64 yd)
  E : FracBox wr (w.heap.size + 1 + 1) (.slice none 0 0) (.int .i64 0) (.int .i64 0)
  O : FracBox wr (b + 1) v (.int .i64 zn) (.int .i64 zd)
  o : wr.ownsRow (b + 2) 36 2 v k (ratCells xs)
  lt : w.heap.size + 1 + 1 < b
  below : Below w.heap.size w wr

section
variable {w wr w2 : World} {b k : Nat} {s t v : Value} {xn xd yn yd zn zd : Int} {xs : List (Int × Int)}
theorem DoS.keep (h : DoS w wr b k s xn xd t yn yd zn zd v xs) (hb : Below wr.heap.size wr w2) : DoS w w2 b k s xn xd t yn yd zn zd v xs :=
  ⟨h.F.keep hb, h.G.keep hb, h.E.keep hb, h.O.keep hb, own_belowR h.o hb, h.lt, h.below.trans (hb.mono h.below.size)⟩
theorem dos_of {A : Prop} (h : A ∧ DoS w wr b k s xn xd t yn yd zn zd v xs) : DoS w wr b k s xn xd t yn yd zn zd v xs := h.2
theorem DoS.cells {c : Nat} {p q : Int} (h : DoS w wr b k s xn xd t yn yd zn zd v xs) (hr : RatAt wr c p q) :
    ((wr.cell? ⟨w.heap.size, 0, none⟩ = some s ∧ wr.cell? ⟨w.heap.size, 1, none⟩ = some (.int .i64 xn) ∧ wr.cell? ⟨w.heap.size, 2, none⟩ = some (.int .i64 xd)) ∧ (wr.cell? ⟨c, 0, none⟩ = some (.int .i64 p) ∧ wr.cell? ⟨c, 1, none⟩ = some (.int .i64 q)) ∧ RatAt wr c p q) ∧ DoS w wr b k s xn xd t yn yd zn zd v xs :=
  ⟨⟨⟨h.F.k0, h.F.k1, h.F.k2⟩, ⟨hr.k0, hr.k1⟩, hr⟩, h⟩
theorem hold_dos {c : Nat} {p q : Int} {A B : Prop} (hb : Below wr.heap.size wr w2) (h : (A ∧ B ∧ RatAt wr c p q) ∧ DoS w wr b k s xn xd t yn yd zn zd v xs) :
    ((w2.cell? ⟨w.heap.size, 0, none⟩ = some s ∧ w2.cell? ⟨w.heap.size, 1, none⟩ = some (.int .i64 xn) ∧ w2.cell? ⟨w.heap.size, 2, none⟩ = some (.int .i64 xd)) ∧ (w2.cell? ⟨c, 0, none⟩ = some (.int .i64 p) ∧ w2.cell? ⟨c, 1, none⟩ = some (.int .i64 q)) ∧ RatAt w2 c p q) ∧ DoS w w2 b k s xn xd t yn yd zn zd v xs :=
  (h.2.keep hb).cells (h.1.2.2.keep hb)
/-- A fraction's room that a region has made. -/
structure HoleC (wA wr : World) (c : Nat) : Prop where
  hc : c = wA.heap.size
  k0 : wr.cell? ⟨c, 0, none⟩ = some (.int .i64 0)
  k1 : wr.cell? ⟨c, 1, none⟩ = some (.int .i64 0)
  l0 : wr.frozen? ⟨c, 0, none⟩ = false
  l1 : wr.frozen? ⟨c, 1, none⟩ = false
  lt : c < wr.heap.size
  below : Below wA.heap.size wA wr
theorem HoleC.start (wA : World) (ty : TypeId) : HoleC wA (wA.alloc (.cells #[.int .i64 0, .int .i64 0] ty)) wA.heap.size where
  hc := rfl
  k0 := by go_simp
  k1 := by go_simp
  l0 := by go_simp
  l1 := by go_simp
  lt := by simp
  below := below_alloc1 _ _
theorem HoleC.keep {wA wr w2 : World} {c : Nat} (h : HoleC wA wr c) (hb : Below wr.heap.size wr w2) : HoleC wA w2 c :=
  have z := hb.size
  have l := h.lt
  ⟨h.hc, keep_cell hb l h.k0, keep_cell hb l h.k1, keep_free hb l h.l0, keep_free hb l h.l1, by omega, h.below.trans (hb.mono h.below.size)⟩
theorem hole_of {w wA : World} {b k : Nat} {s t v : Value} {xn xd yn yd zn zd : Int} {xs : List (Int × Int)} {A : Prop} {ty : TypeId} (_ : A ∧ DoS w (wA.alloc (.cells #[.int .i64 0, .int .i64 0] ty)) b k s xn xd t yn yd zn zd v xs) : HoleC wA (wA.alloc (.cells #[.int .i64 0, .int .i64 0] ty)) wA.heap.size := HoleC.start wA ty
theorem hole_of2 {w wq : World} {b k : Nat} {s t v : Value} {xn xd yn yd zn zd : Int} {xs : List (Int × Int)} {A : Prop} {ty : TypeId} (_ : A ∧ DoS w (wq.alloc (.cells #[.int .i64 0, .int .i64 0] ty)).drew b k s xn xd t yn yd zn zd v xs) : HoleC wq.drew (wq.alloc (.cells #[.int .i64 0, .int .i64 0] ty)).drew wq.heap.size := HoleC.start wq.drew ty
theorem HoleC.fill {wA wr : World} {c : Nat} (h : HoleC wA wr c) (p q : Int) : Below wA.heap.size wA ((wr.setCell ⟨c, 0, none⟩ (.int .i64 p)).setCell ⟨c, 1, none⟩ (.int .i64 q)) ∧ RatAt ((wr.setCell ⟨c, 0, none⟩ (.int .i64 p)).setCell ⟨c, 1, none⟩ (.int .i64 q)) c p q := by
  obtain ⟨c0, c1⟩ := set_pair (x := .int .i64 p) (y := .int .i64 q) h.k0 h.k1
  have e := h.hc
  exact ⟨(h.below.setCell (by show _ ≤ c; omega) _).setCell (by show _ ≤ c; omega) _, c0, c1, by rw [World.size_setCell, World.size_setCell]; exact h.lt⟩
theorem own_shape {w : World} {B n : Nat} {v : Value} {xs : List Value} (h : w.ownsRow B 36 2 v n xs) : ∃ A c, v = .slice A n c := by
  rcases h.2 with ⟨rfl, rfl⟩ | ⟨g, cap, cur, rfl, _⟩
  · exact ⟨none, 0, rfl⟩
  · exact ⟨_, cap, rfl⟩

/-- What the round's region leaves. -/
def DoMidT (w : World) (b k : Nat) (s : Value) (xn xd : Int) (t : Value) (yn yd zn zd : Int) (v : Value) (xs : List (Int × Int)) (p q e : Int) (v13 v14 : Value) (wx : World) : Prop :=
  ∃ c, v13 = .pointer (some ⟨c, 0, none⟩) ∧ v14 = .int .i64 e ∧ RatAt wx c p q ∧ DoS w wx b k s xn xd t yn yd zn zd v xs
theorem mid_fill {w wA wr : World} {b k c : Nat} {s t v : Value} {xn xd yn yd zn zd p q e : Int} {xs : List (Int × Int)} (h : DoS w wA b k s xn xd t yn yd zn zd v xs) (hc : HoleC wA wr c) :
    DoMidT w b k s xn xd t yn yd zn zd v xs p q e (.pointer (some ⟨c, 0, none⟩)) (.int .i64 e) ((wr.setCell ⟨c, 0, none⟩ (.int .i64 p)).setCell ⟨c, 1, none⟩ (.int .i64 q)) :=
  ⟨_, rfl, rfl, (hc.fill p q).2, h.keep (hc.fill p q).1⟩
theorem mid_alloc {w wA : World} {b k : Nat} {s t v : Value} {xn xd yn yd zn zd p q e : Int} {xs : List (Int × Int)} (h : DoS w wA b k s xn xd t yn yd zn zd v xs) (ty : TypeId) :
    DoMidT w b k s xn xd t yn yd zn zd v xs p q e (.pointer (some ⟨wA.heap.size, 0, none⟩)) (.int .i64 e) (wA.alloc (.cells #[.int .i64 p, .int .i64 q] ty)) :=
  ⟨_, rfl, rfl, RatAt.start wA p q ty, h.keep (below_alloc1 _ _)⟩

/-- One more element. -/
theorem DoS.push {w4 w7 : World} {v' : Value} {q : Int × Int} {o : Obj} (h : DoS w w4 b k s xn xd t yn yd zn zd v xs) (hg : (w4.alloc o).grownBy w7 v.ownBlock) (ho : w7.ownsRow (b + 2) 36 2 v' (k + 1) (ratCells xs ++ [.int .i64 q.1, .int .i64 q.2])) :
    DoS w (w7.setCell ⟨b + 1, 0, none⟩ v') b (k + 1) s xn xd t yn yd zn zd v' (xs ++ [q]) := by
  have hl := h.lt
  have ol := h.O.lt
  have g := grown_belowR (by omega) h.o hg
  have e : ratCells (xs ++ [q]) = ratCells xs ++ [.int .i64 q.1, .int .i64 q.2] := ratCells_append xs [q]
  have hb : Below (b + 1) w7 (w7.setCell ⟨b + 1, 0, none⟩ v') := (Below.refl (b + 1) w7).setCell (p := ⟨b + 1, 0, none⟩) (Nat.le_refl _) v'
  have gb := (g.mono (Nat.le_succ _)).trans hb
  refine ⟨h.F.keepB gb (by omega), h.G.keepB gb (by omega), h.E.keepB gb (by omega), (h.O.keepB g (by omega)).setC v', ?_, hl, h.below.trans (gb.mono (by omega))⟩
  rw [e]
  exact ownsRow_setCell_below ho (by show b + 1 < b + 2; omega) v'
end

set_option maxRecDepth 4000 in
set_option maxHeartbeats 2000000 in
theorem rown_wrong (w : World) (v : Value) (l : List (Int × Int)) (kn kd : Int) (h : RatsAt w v l) (hw : Wide l) (h1 : -9223372036854775808 ≤ kn) (h2 : kn ≤ 9223372036854775807) (h3 : -9223372036854775808 ≤ kd) (h4 : kd ≤ 9223372036854775807) (hr : rightT l kn kd = false) :
    Calls Try.prog 40 #[.agg #[v, .int .i64 kn, .int .i64 kd]] w (TermNew w [] 0 1) := by
  have rt := fun (w' : World) (hb : Below w.heap.size w w') => r2right_any w' v l kn kd (h.below hb) hw h1 h2 h3 h4
  rw [hr] at rt
  obtain ⟨A, c, rfl, _, _, _⟩ := id h
  generalize l.length = n at *
  have HS := own_start w A n c kn kd
  have RT := Lib.hid rt
  have ZE := Lib.hid rzero_any
  clear h hw h1 h2 h3 h4 hr rt
  have hb0 := below_alloc2 w (.cells #[.slice A n c, .int .i64 kn, .int .i64 kd] 39) (.cells #[.slice none 0 0, .int .i64 0, .int .i64 0] 39)
  go_enter Try.func40, Try.ntmps40
  go_wp2_with (first
    | (go_at_call 39; (with_reducible refine (RT.out _ hb0).mono ?_); rintro e w1 ⟨rfl, hb⟩; have HS := keep_own hb HS)
    | (go_at_call 46; (with_reducible refine (ZE.out _).mono ?_); rintro e w2 ⟨rfl, hb2⟩; have HS := keep_own hb2 HS; obtain ⟨_, hz, _, ⟨i0, i1, i2⟩, ⟨j0, j1, j2⟩⟩ := id HS))
  obtain ⟨c0, c1, c2, hB⟩ := three_result (w := w) rfl (set_own1 (o := 2) (x := .int .i64 1) (set_own1 (o := 1) (x := .int .i64 0) (set_own1 (o := 0) (x := .slice none 0 0) HS)))
  exact bodyPost_ret (v := .agg #[.slice none 0 0, .int .i64 0, .int .i64 1]) (by simp [results, Try.results40, go_sem, c0, c1, c2]) rfl ⟨_, rfl, RatsAt.nil _, hB, Fresh.none_ _ _ _⟩
end Go.Proofs.Ytocmhidkfjahcaa
