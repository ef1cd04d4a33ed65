/-
  The walk of the reference's Do. (Template: by-name.py fills it.)
-/
import Derived.Test.YthlogaenbnhobaaDoorNumK
import Derived.Test.YthlogaenbnhobaaDoorRatG
namespace Go.Proofs.YthlogaenbnhobaaDoor
open Go.RowKit

theorem keep_do {w w1 w2 : World} {x0 x1 y0 y1 z0 z1 : Value} (hb : Below w1.heap.size w1 w2)
    (h : (w1.cell? ⟨w.heap.size, 0, none⟩ = some x0 ∧ w1.cell? ⟨w.heap.size, 1, none⟩ = some x1 ∧ w1.cell? ⟨w.heap.size + 1, 0, none⟩ = some y0 ∧ w1.cell? ⟨w.heap.size + 1, 1, none⟩ = some y1 ∧ w1.cell? ⟨w.heap.size + 1 + 1, 0, none⟩ = some z0 ∧ w1.cell? ⟨w.heap.size + 1 + 1, 1, none⟩ = some z1) ∧ w.heap.size + 2 < w1.heap.size ∧ Below w.heap.size w w1 ∧ (w1.frozen? ⟨w.heap.size + 1 + 1, 0, none⟩ = false ∧ w1.frozen? ⟨w.heap.size + 1 + 1, 1, none⟩ = false)) :
    (w2.cell? ⟨w.heap.size, 0, none⟩ = some x0 ∧ w2.cell? ⟨w.heap.size, 1, none⟩ = some x1 ∧ w2.cell? ⟨w.heap.size + 1, 0, none⟩ = some y0 ∧ w2.cell? ⟨w.heap.size + 1, 1, none⟩ = some y1 ∧ w2.cell? ⟨w.heap.size + 1 + 1, 0, none⟩ = some z0 ∧ w2.cell? ⟨w.heap.size + 1 + 1, 1, none⟩ = some z1) ∧ w.heap.size + 2 < w2.heap.size ∧ Below w.heap.size w w2 ∧ (w2.frozen? ⟨w.heap.size + 1 + 1, 0, none⟩ = false ∧ w2.frozen? ⟨w.heap.size + 1 + 1, 1, none⟩ = false) := by
  obtain ⟨⟨a0, a1, a2, a3, a4, a5⟩, g, k, ⟨m0, m1⟩⟩ := h
  have hs := hb.size
  exact ⟨⟨keep_cell hb (by omega) a0, keep_cell hb (by omega) a1, keep_cell hb (by omega) a2, keep_cell hb (by omega) a3, keep_cell hb (by omega) a4, keep_cell hb (by omega) a5⟩, by omega, k.trans (hb.mono k.size), ⟨keep_free hb (by omega) m0, keep_free hb (by omega) m1⟩⟩


theorem do_of {w w1 : World} {n d m e : Int} (B : Boxes w w1 n d m e) : (w1.cell? ⟨w.heap.size, 0, none⟩ = some (.int .i64 n) ∧ w1.cell? ⟨w.heap.size, 1, none⟩ = some (.int .i64 d) ∧ w1.cell? ⟨w.heap.size + 1, 0, none⟩ = some (.int .i64 m) ∧ w1.cell? ⟨w.heap.size + 1, 1, none⟩ = some (.int .i64 e) ∧ w1.cell? ⟨w.heap.size + 1 + 1, 0, none⟩ = some (.int .i64 0) ∧ w1.cell? ⟨w.heap.size + 1 + 1, 1, none⟩ = some (.int .i64 0)) ∧ w.heap.size + 2 < w1.heap.size ∧ Below w.heap.size w w1 ∧ (w1.frozen? ⟨w.heap.size + 1 + 1, 0, none⟩ = false ∧ w1.frozen? ⟨w.heap.size + 1 + 1, 1, none⟩ = false) :=
  ⟨⟨B.c0, B.c1, B.c2, B.c3, B.i0, B.i1⟩, B.size, B.below, B.j0, B.j1⟩

theorem do_of_drew {w w1 : World} {n d m e : Int} (B : Boxes w w1 n d m e) : (w1.drew.cell? ⟨w.heap.size, 0, none⟩ = some (.int .i64 n) ∧ w1.drew.cell? ⟨w.heap.size, 1, none⟩ = some (.int .i64 d) ∧ w1.drew.cell? ⟨w.heap.size + 1, 0, none⟩ = some (.int .i64 m) ∧ w1.drew.cell? ⟨w.heap.size + 1, 1, none⟩ = some (.int .i64 e) ∧ w1.drew.cell? ⟨w.heap.size + 1 + 1, 0, none⟩ = some (.int .i64 0) ∧ w1.drew.cell? ⟨w.heap.size + 1 + 1, 1, none⟩ = some (.int .i64 0)) ∧ w.heap.size + 2 < w1.drew.heap.size ∧ Below w.heap.size w w1.drew ∧ (w1.drew.frozen? ⟨w.heap.size + 1 + 1, 0, none⟩ = false ∧ w1.drew.frozen? ⟨w.heap.size + 1 + 1, 1, none⟩ = false) :=
  ⟨⟨B.c0, B.c1, B.c2, B.c3, B.i0, B.i1⟩, B.size, B.below.drew, B.j0, B.j1⟩

theorem boxes_of {w w1 : World} {n d m e : Int} (h : (w1.cell? ⟨w.heap.size, 0, none⟩ = some (.int .i64 n) ∧ w1.cell? ⟨w.heap.size, 1, none⟩ = some (.int .i64 d) ∧ w1.cell? ⟨w.heap.size + 1, 0, none⟩ = some (.int .i64 m) ∧ w1.cell? ⟨w.heap.size + 1, 1, none⟩ = some (.int .i64 e) ∧ w1.cell? ⟨w.heap.size + 1 + 1, 0, none⟩ = some (.int .i64 0) ∧ w1.cell? ⟨w.heap.size + 1 + 1, 1, none⟩ = some (.int .i64 0)) ∧ w.heap.size + 2 < w1.heap.size ∧ Below w.heap.size w w1 ∧ (w1.frozen? ⟨w.heap.size + 1 + 1, 0, none⟩ = false ∧ w1.frozen? ⟨w.heap.size + 1 + 1, 1, none⟩ = false)) : Boxes w w1 n d m e := by
  obtain ⟨⟨a0, a1, a2, a3, a4, a5⟩, g, k, m0, m1⟩ := h
  exact ⟨a0, a1, a2, a3, a4, a5, m0, m1, g, k⟩

theorem do_below {w w1 : World} {A B C : Prop} (h : A ∧ B ∧ Below w.heap.size w w1 ∧ C) : Below w.heap.size w w1 := h.2.2.1

/-- The numbers of blocks that the walk sets side by side. -/
theorem do_sizes {w w1 : World} {A C : Prop} (h : A ∧ w.heap.size + 2 < w1.heap.size ∧ C) : w.heap.size < w1.heap.size ∧ w.heap.size + 1 < w1.heap.size ∧ w.heap.size + 1 + 1 < w1.heap.size := by
  have := h.2.1
  omega

theorem below_first {W w2 : World} {o : Obj} (hb : Below (W.alloc o).heap.size (W.alloc o) w2) : Below W.heap.size W w2 := (below_alloc1 W o).trans (hb.mono (by simp))
theorem below_second {W w2 : World} {o o' : Obj} (hb : Below ((W.alloc o).alloc o').heap.size ((W.alloc o).alloc o') w2) : Below W.heap.size W w2 := (below_alloc2 W o o').trans (hb.mono (by simp; omega))

/-- A new block behind a call. -/
theorem box_one {W w2 : World} {x y z : Value} {ty : TypeId} (hb : Below (W.alloc (.cells #[x, y, z] ty)).heap.size (W.alloc (.cells #[x, y, z] ty)) w2) : FracBox w2 W.heap.size x y z := (FracBox.start W x y z ty).keep hb
theorem box_two {W w2 : World} {x y z x' y' z' : Value} {ty ty' : TypeId} (hb : Below ((W.alloc (.cells #[x, y, z] ty)).alloc (.cells #[x', y', z'] ty')).heap.size ((W.alloc (.cells #[x, y, z] ty)).alloc (.cells #[x', y', z'] ty')) w2) :
    FracBox w2 W.heap.size x y z ∧ FracBox w2 (W.heap.size + 1) x' y' z' :=
  ⟨((FracBox.start W x y z ty).keep (below_alloc1 _ _)).keep hb, by
    have h := (FracBox.start (W.alloc (.cells #[x, y, z] ty)) x' y' z' ty').keep hb
    rwa [World.size_alloc] at h⟩
theorem box_one_drew {W w2 : World} {x y z : Value} {ty : TypeId} (hb : Below (W.drew.alloc (.cells #[x, y, z] ty)).heap.size (W.drew.alloc (.cells #[x, y, z] ty)) w2) : FracBox w2 W.heap.size x y z := box_one (W := W.drew) hb
theorem box_two_drew {W w2 : World} {x y z x' y' z' : Value} {ty ty' : TypeId} (hb : Below ((W.drew.alloc (.cells #[x, y, z] ty)).alloc (.cells #[x', y', z'] ty')).heap.size ((W.drew.alloc (.cells #[x, y, z] ty)).alloc (.cells #[x', y', z'] ty')) w2) :
    FracBox w2 W.heap.size x y z ∧ FracBox w2 (W.heap.size + 1) x' y' z' := box_two (W := W.drew) hb

theorem box_one_out {W w2 : World} {x y z : Value} {ty : TypeId} (hb : Below (W.alloc (.cells #[x, y, z] ty)).drew.heap.size (W.alloc (.cells #[x, y, z] ty)).drew w2) : FracBox w2 W.heap.size x y z := box_one (W := W.drew) hb
theorem box_two_out {W w2 : World} {x y z x' y' z' : Value} {ty ty' : TypeId} (hb : Below ((W.alloc (.cells #[x, y, z] ty)).alloc (.cells #[x', y', z'] ty')).drew.heap.size ((W.alloc (.cells #[x, y, z] ty)).alloc (.cells #[x', y', z'] ty')).drew w2) :
    FracBox w2 W.heap.size x y z ∧ FracBox w2 (W.heap.size + 1) x' y' z' := box_two (W := W.drew) hb

theorem NumAt.inside {w : World} {B : Nat} {v : Value} {l : List Bool} (h : NumAt w v l) (f : Fresh B v) : 0 < l.length → ∀ k, v.ownBlock = some k → B ≤ k ∧ k < w.heap.size := by
  intro hl k hk
  refine ⟨f k hk, ?_⟩
  obtain ⟨A, c, rfl, _, _, h4⟩ := h
  obtain ⟨ad, rfl, hb, _⟩ := h4.2 hl
  have : ad.block = k := by simpa [Value.ownBlock] using hk
  omega
theorem NumAt.alloc_ {w : World} {v : Value} {l : List Bool} (h : NumAt w v l) (o : Obj) : NumAt (w.alloc o) v l := h.below (below_alloc1 w o)
theorem NumAt.set_ne {w : World} {v : Value} {l : List Bool} (h : NumAt w v l) {p : Addr} (hne : 0 < l.length → ∀ k, v.ownBlock = some k → k ≠ p.block) (x : Value) : NumAt (w.setCell p x) v l := by
  obtain ⟨A, c, rfl, h2, h3, h4⟩ := h
  refine ⟨A, c, rfl, h2, h3, h4.1, fun hn => ?_⟩
  obtain ⟨ad, rfl, hb, hc⟩ := h4.2 hn
  have := hne hn ad.block rfl
  refine ⟨ad, rfl, by rw [World.size_setCell]; exact hb, fun j u hu => ?_⟩
  rw [World.cell?_setCell_other _ _ _ _ (fun e => by have := congrArg Addr.block e; rw [block_of_add] at this; omega)]
  exact hc j u hu

theorem NumAt.set_out {w : World} {v : Value} {l : List Bool} {B T : Nat} (h : NumAt w v l) (hi : 0 < l.length → ∀ k, v.ownBlock = some k → B ≤ k ∧ k < T) {p : Addr} (hp : p.block < B ∨ T ≤ p.block) (x : Value) : NumAt (w.setCell p x) v l :=
  h.set_ne (fun hl k hk => by have := hi hl k hk; omega) x

theorem FracBox.write {w : World} {b : Nat} {x y z : Value} (h : FracBox w b x y z) (x' y' z' : Value) : FracBox (((w.setCell ⟨b, 0, none⟩ x').setCell ⟨b, 1, none⟩ y').setCell ⟨b, 2, none⟩ z') b x' y' z' := by
  obtain ⟨m0, m1, m2, m3, m4, m5, m6⟩ := h
  exact ⟨by go_simp, by go_simp, by go_simp, by go_simp, by go_simp, by go_simp, by simpa using m6⟩
theorem FracBox.other {w : World} {b : Nat} {x y z : Value} (h : FracBox w b x y z) {p : Addr} (hp : p.block ≠ b) (v : Value) : FracBox (w.setCell p v) b x y z := by
  obtain ⟨m0, m1, m2, m3, m4, m5, m6⟩ := h
  have o := fun (k : Nat) => World.cell?_setCell_other w p ⟨b, k, none⟩ v (fun e => by rw [e] at hp; exact hp rfl)
  exact ⟨(o 0).trans m0, (o 1).trans m1, (o 2).trans m2, by rw [World.frozen?_setCell]; exact m3, by rw [World.frozen?_setCell]; exact m4, by rw [World.frozen?_setCell]; exact m5, by rw [World.size_setCell]; exact m6⟩
theorem FracBox.alloc {w : World} {b : Nat} {x y z : Value} (h : FracBox w b x y z) (o : Obj) : FracBox (w.alloc o) b x y z := h.keep (below_alloc1 _ _)
theorem FracBox.start_at {w : World} {b : Nat} (h : w.heap.size = b) (x y z : Value) (ty : TypeId) : FracBox (w.alloc (.cells #[x, y, z] ty)) b x y z := by
  subst h
  exact FracBox.start w x y z ty
theorem FracBox.start' (w : World) (o : Obj) (x y z : Value) (ty : TypeId) : FracBox ((w.alloc o).alloc (.cells #[x, y, z] ty)) (w.heap.size + 1) x y z := by
  have h := FracBox.start (w.alloc o) x y z ty
  rwa [World.size_alloc] at h

/-- A number's row lies in another block than c. -/
def Apart (v : Value) (l : List Bool) (c : Nat) : Prop := 0 < l.length → ∀ k, v.ownBlock = some k → k ≠ c
theorem apart_of {v : Value} {l : List Bool} {B T c : Nat} (hi : 0 < l.length → ∀ k, v.ownBlock = some k → B ≤ k ∧ k < T) (hp : c < B ∨ T ≤ c) : Apart v l c :=
  fun hl k hk => by have := hi hl k hk; omega

/-- What lies in memory behind the two conversions. -/
def DoMid (w : World) (n D m E : Int) (p q : Value) (wx : World) : Prop := ∃ b c x1 x2 y1 y2, p = .pointer (some ⟨b, 0, none⟩) ∧ q = .pointer (some ⟨c, 0, none⟩) ∧ b ≠ c ∧ w.heap.size + 2 < b ∧ w.heap.size + 2 < c ∧
  FracBox wx b x1 x2 (.bool (decide (n < 0))) ∧ FracBox wx c y1 y2 (.bool (decide (m < 0))) ∧ NumAt wx x1 (bitsOf n.natAbs) ∧ NumAt wx x2 (bitsOf D.natAbs) ∧ NumAt wx y1 (bitsOf m.natAbs) ∧ NumAt wx y2 (bitsOf E.natAbs) ∧ Boxes w wx n D m E ∧ Apart x1 (bitsOf n.natAbs) c ∧ Apart x2 (bitsOf D.natAbs) c ∧ Apart y1 (bitsOf m.natAbs) c ∧ Apart y2 (bitsOf E.natAbs) c

theorem do_drew {w w1 : World} {n D m E : Int} (h : (w1.cell? ⟨w.heap.size, 0, none⟩ = some (.int .i64 n) ∧ w1.cell? ⟨w.heap.size, 1, none⟩ = some (.int .i64 D) ∧ w1.cell? ⟨w.heap.size + 1, 0, none⟩ = some (.int .i64 m) ∧ w1.cell? ⟨w.heap.size + 1, 1, none⟩ = some (.int .i64 E) ∧ w1.cell? ⟨w.heap.size + 1 + 1, 0, none⟩ = some (.int .i64 0) ∧ w1.cell? ⟨w.heap.size + 1 + 1, 1, none⟩ = some (.int .i64 0)) ∧ w.heap.size + 2 < w1.heap.size ∧ Below w.heap.size w w1 ∧ (w1.frozen? ⟨w.heap.size + 1 + 1, 0, none⟩ = false ∧ w1.frozen? ⟨w.heap.size + 1 + 1, 1, none⟩ = false)) : ((w1.drew).cell? ⟨w.heap.size, 0, none⟩ = some (.int .i64 n) ∧ (w1.drew).cell? ⟨w.heap.size, 1, none⟩ = some (.int .i64 D) ∧ (w1.drew).cell? ⟨w.heap.size + 1, 0, none⟩ = some (.int .i64 m) ∧ (w1.drew).cell? ⟨w.heap.size + 1, 1, none⟩ = some (.int .i64 E) ∧ (w1.drew).cell? ⟨w.heap.size + 1 + 1, 0, none⟩ = some (.int .i64 0) ∧ (w1.drew).cell? ⟨w.heap.size + 1 + 1, 1, none⟩ = some (.int .i64 0)) ∧ w.heap.size + 2 < (w1.drew).heap.size ∧ Below w.heap.size w (w1.drew) ∧ ((w1.drew).frozen? ⟨w.heap.size + 1 + 1, 0, none⟩ = false ∧ (w1.drew).frozen? ⟨w.heap.size + 1 + 1, 1, none⟩ = false) := ⟨h.1, h.2.1, h.2.2.1.drew, h.2.2.2⟩

theorem do_set {w w1 : World} {n D m E : Int} {p : Addr} (hp : w.heap.size + 2 < p.block) (x : Value) (h : (w1.cell? ⟨w.heap.size, 0, none⟩ = some (.int .i64 n) ∧ w1.cell? ⟨w.heap.size, 1, none⟩ = some (.int .i64 D) ∧ w1.cell? ⟨w.heap.size + 1, 0, none⟩ = some (.int .i64 m) ∧ w1.cell? ⟨w.heap.size + 1, 1, none⟩ = some (.int .i64 E) ∧ w1.cell? ⟨w.heap.size + 1 + 1, 0, none⟩ = some (.int .i64 0) ∧ w1.cell? ⟨w.heap.size + 1 + 1, 1, none⟩ = some (.int .i64 0)) ∧ w.heap.size + 2 < w1.heap.size ∧ Below w.heap.size w w1 ∧ (w1.frozen? ⟨w.heap.size + 1 + 1, 0, none⟩ = false ∧ w1.frozen? ⟨w.heap.size + 1 + 1, 1, none⟩ = false)) : ((w1.setCell p x).cell? ⟨w.heap.size, 0, none⟩ = some (.int .i64 n) ∧ (w1.setCell p x).cell? ⟨w.heap.size, 1, none⟩ = some (.int .i64 D) ∧ (w1.setCell p x).cell? ⟨w.heap.size + 1, 0, none⟩ = some (.int .i64 m) ∧ (w1.setCell p x).cell? ⟨w.heap.size + 1, 1, none⟩ = some (.int .i64 E) ∧ (w1.setCell p x).cell? ⟨w.heap.size + 1 + 1, 0, none⟩ = some (.int .i64 0) ∧ (w1.setCell p x).cell? ⟨w.heap.size + 1 + 1, 1, none⟩ = some (.int .i64 0)) ∧ w.heap.size + 2 < (w1.setCell p x).heap.size ∧ Below w.heap.size w (w1.setCell p x) ∧ ((w1.setCell p x).frozen? ⟨w.heap.size + 1 + 1, 0, none⟩ = false ∧ (w1.setCell p x).frozen? ⟨w.heap.size + 1 + 1, 1, none⟩ = false) := by
  obtain ⟨⟨a0, a1, a2, a3, a4, a5⟩, g, k, ⟨m0, m1⟩⟩ := h
  have o := fun (q : Addr) (hq : q.block ≤ w.heap.size + 2) => World.cell?_setCell_other w1 p q x (fun e => by rw [e] at hp; omega)
  have h0 : w.heap.size ≤ w.heap.size + 2 := by omega
  have h1 : w.heap.size + 1 ≤ w.heap.size + 2 := by omega
  have h2 : w.heap.size + 1 + 1 ≤ w.heap.size + 2 := by omega
  exact ⟨⟨(o ⟨_, 0, none⟩ h0).trans a0, (o ⟨_, 1, none⟩ h0).trans a1, (o ⟨_, 0, none⟩ h1).trans a2, (o ⟨_, 1, none⟩ h1).trans a3, (o ⟨_, 0, none⟩ h2).trans a4, (o ⟨_, 1, none⟩ h2).trans a5⟩, by rw [World.size_setCell]; exact g, k.setCell (by omega) x, by rw [World.frozen?_setCell]; exact m0, by rw [World.frozen?_setCell]; exact m1⟩

theorem len_70 {n : Nat} (h : n ≤ 9223372036854775807) : (bitsOf n).length ≤ 70 := Nat.le_trans (len_64 (Nat.lt_of_le_of_lt h (by decide))) (by decide)


theorem mul_140 {N E : Nat} (h1 : (bitsOf N).length ≤ 70) (h2 : (bitsOf E).length ≤ 70) : N * E < 2 ^ 140 := by
  have h := Nat.mul_lt_mul'' (lt_of_len h1) (lt_of_len h2)
  rwa [← Nat.pow_add] at h
theorem mul_len {N E : Nat} (h1 : (bitsOf N).length ≤ 70) (h2 : (bitsOf E).length ≤ 70) : (bitsOf (N * E)).length ≤ 298 := Nat.le_trans (bitsOf_length _ 140 (mul_140 h1 h2)) (by decide)
theorem plus_len {N E M D : Nat} {s t : Bool} (h1 : (bitsOf N).length ≤ 70) (h2 : (bitsOf E).length ≤ 70) (h3 : (bitsOf M).length ≤ 70) (h4 : (bitsOf D).length ≤ 70) : (bitsOf (plusM s (N * E) t (M * D))).length ≤ 298 := by
  have a := mul_140 h1 h2
  have b := mul_140 h3 h4
  have c : plusM s (N * E) t (M * D) ≤ N * E + M * D := by unfold plusM; split <;> (try split) <;> omega
  exact Nat.le_trans (bitsOf_length _ 141 (by omega)) (by decide)


theorem keep_boxes2 {w w1 w2 : World} {b c : Nat} {x1 x2 x3 y1 y2 y3 : Value} (hb : Below w1.heap.size w1 w2) (h : (w1.cell? ⟨b, 0, none⟩ = some x1 ∧ w1.cell? ⟨b, 1, none⟩ = some x2 ∧ w1.cell? ⟨b, 2, none⟩ = some x3 ∧ w1.cell? ⟨c, 0, none⟩ = some y1 ∧ w1.cell? ⟨c, 1, none⟩ = some y2 ∧ w1.cell? ⟨c, 2, none⟩ = some y3) ∧ (w.heap.size + 2 < b ∧ w.heap.size + 2 < c ∧ b < w1.heap.size ∧ c < w1.heap.size) ∧ Below w.heap.size w w1 ∧ (w1.cell? ⟨w.heap.size + 1 + 1, 0, none⟩ = some (cellD w1 ⟨w.heap.size + 1 + 1, 0, none⟩) ∧ w1.cell? ⟨w.heap.size + 1 + 1, 1, none⟩ = some (cellD w1 ⟨w.heap.size + 1 + 1, 1, none⟩)) ∧ (w1.frozen? ⟨w.heap.size + 1 + 1, 0, none⟩ = false ∧ w1.frozen? ⟨w.heap.size + 1 + 1, 1, none⟩ = false)) : (w2.cell? ⟨b, 0, none⟩ = some x1 ∧ w2.cell? ⟨b, 1, none⟩ = some x2 ∧ w2.cell? ⟨b, 2, none⟩ = some x3 ∧ w2.cell? ⟨c, 0, none⟩ = some y1 ∧ w2.cell? ⟨c, 1, none⟩ = some y2 ∧ w2.cell? ⟨c, 2, none⟩ = some y3) ∧ (w.heap.size + 2 < b ∧ w.heap.size + 2 < c ∧ b < w2.heap.size ∧ c < w2.heap.size) ∧ Below w.heap.size w w2 ∧ (w2.cell? ⟨w.heap.size + 1 + 1, 0, none⟩ = some (cellD w2 ⟨w.heap.size + 1 + 1, 0, none⟩) ∧ w2.cell? ⟨w.heap.size + 1 + 1, 1, none⟩ = some (cellD w2 ⟨w.heap.size + 1 + 1, 1, none⟩)) ∧ (w2.frozen? ⟨w.heap.size + 1 + 1, 0, none⟩ = false ∧ w2.frozen? ⟨w.heap.size + 1 + 1, 1, none⟩ = false) := by
  obtain ⟨⟨a0, a1, a2, a3, a4, a5⟩, ⟨s1, s2, s3, s4⟩, k, ⟨i0, i1⟩, ⟨j0, j1⟩⟩ := h
  have hs := hb.size
  exact ⟨⟨keep_cell hb s3 a0, keep_cell hb s3 a1, keep_cell hb s3 a2, keep_cell hb s4 a3, keep_cell hb s4 a4, keep_cell hb s4 a5⟩, ⟨s1, s2, by omega, by omega⟩, k.trans (hb.mono k.size), ⟨cellD_of (keep_cell hb (by omega) i0), cellD_of (keep_cell hb (by omega) i1)⟩, ⟨keep_free hb (by omega) j0, keep_free hb (by omega) j1⟩⟩

theorem set_boxes2 {w w1 : World} {b c : Nat} {x1 x2 x3 y1 y2 y3 : Value} {o : Nat} {x : Value} (h : (w1.cell? ⟨b, 0, none⟩ = some x1 ∧ w1.cell? ⟨b, 1, none⟩ = some x2 ∧ w1.cell? ⟨b, 2, none⟩ = some x3 ∧ w1.cell? ⟨c, 0, none⟩ = some y1 ∧ w1.cell? ⟨c, 1, none⟩ = some y2 ∧ w1.cell? ⟨c, 2, none⟩ = some y3) ∧ (w.heap.size + 2 < b ∧ w.heap.size + 2 < c ∧ b < w1.heap.size ∧ c < w1.heap.size) ∧ Below w.heap.size w w1 ∧ (w1.cell? ⟨w.heap.size + 1 + 1, 0, none⟩ = some (cellD w1 ⟨w.heap.size + 1 + 1, 0, none⟩) ∧ w1.cell? ⟨w.heap.size + 1 + 1, 1, none⟩ = some (cellD w1 ⟨w.heap.size + 1 + 1, 1, none⟩)) ∧ (w1.frozen? ⟨w.heap.size + 1 + 1, 0, none⟩ = false ∧ w1.frozen? ⟨w.heap.size + 1 + 1, 1, none⟩ = false)) : ((w1.setCell ⟨w.heap.size + 1 + 1, o, none⟩ x).cell? ⟨b, 0, none⟩ = some x1 ∧ (w1.setCell ⟨w.heap.size + 1 + 1, o, none⟩ x).cell? ⟨b, 1, none⟩ = some x2 ∧ (w1.setCell ⟨w.heap.size + 1 + 1, o, none⟩ x).cell? ⟨b, 2, none⟩ = some x3 ∧ (w1.setCell ⟨w.heap.size + 1 + 1, o, none⟩ x).cell? ⟨c, 0, none⟩ = some y1 ∧ (w1.setCell ⟨w.heap.size + 1 + 1, o, none⟩ x).cell? ⟨c, 1, none⟩ = some y2 ∧ (w1.setCell ⟨w.heap.size + 1 + 1, o, none⟩ x).cell? ⟨c, 2, none⟩ = some y3) ∧ (w.heap.size + 2 < b ∧ w.heap.size + 2 < c ∧ b < (w1.setCell ⟨w.heap.size + 1 + 1, o, none⟩ x).heap.size ∧ c < (w1.setCell ⟨w.heap.size + 1 + 1, o, none⟩ x).heap.size) ∧ Below w.heap.size w (w1.setCell ⟨w.heap.size + 1 + 1, o, none⟩ x) ∧ ((w1.setCell ⟨w.heap.size + 1 + 1, o, none⟩ x).cell? ⟨w.heap.size + 1 + 1, 0, none⟩ = some (cellD (w1.setCell ⟨w.heap.size + 1 + 1, o, none⟩ x) ⟨w.heap.size + 1 + 1, 0, none⟩) ∧ (w1.setCell ⟨w.heap.size + 1 + 1, o, none⟩ x).cell? ⟨w.heap.size + 1 + 1, 1, none⟩ = some (cellD (w1.setCell ⟨w.heap.size + 1 + 1, o, none⟩ x) ⟨w.heap.size + 1 + 1, 1, none⟩)) ∧ ((w1.setCell ⟨w.heap.size + 1 + 1, o, none⟩ x).frozen? ⟨w.heap.size + 1 + 1, 0, none⟩ = false ∧ (w1.setCell ⟨w.heap.size + 1 + 1, o, none⟩ x).frozen? ⟨w.heap.size + 1 + 1, 1, none⟩ = false) := by
  obtain ⟨⟨a0, a1, a2, a3, a4, a5⟩, ⟨s1, s2, s3, s4⟩, k, ⟨i0, i1⟩, ⟨j0, j1⟩⟩ := h
  have q : ∀ b o', b ≠ w.heap.size + 1 + 1 → (w1.setCell ⟨w.heap.size + 1 + 1, o, none⟩ x).cell? ⟨b, o', none⟩ = w1.cell? ⟨b, o', none⟩ := fun b o' hb => World.cell?_setCell_other _ _ _ _ (by intro e; injection e with e; exact hb e.symm)
  exact ⟨⟨(q _ _ (by omega)).trans a0, (q _ _ (by omega)).trans a1, (q _ _ (by omega)).trans a2, (q _ _ (by omega)).trans a3, (q _ _ (by omega)).trans a4, (q _ _ (by omega)).trans a5⟩, ⟨s1, s2, by rw [World.size_setCell]; exact s3, by rw [World.size_setCell]; exact s4⟩, k.setCell (by show w.heap.size ≤ w.heap.size + 1 + 1; omega) _, ⟨cellD_set i0, cellD_set i1⟩, ⟨by rw [World.frozen?_setCell]; exact j0, by rw [World.frozen?_setCell]; exact j1⟩⟩

theorem two_start {w w1 : World} {n D m E : Int} {b c : Nat} {x1 x2 x3 y1 y2 y3 : Value} (BX : Boxes w w1 n D m E) (F : FracBox w1 b x1 x2 x3) (G : FracBox w1 c y1 y2 y3) (hb : w.heap.size + 2 < b) (hc : w.heap.size + 2 < c) : ((w1.drew).cell? ⟨b, 0, none⟩ = some x1 ∧ (w1.drew).cell? ⟨b, 1, none⟩ = some x2 ∧ (w1.drew).cell? ⟨b, 2, none⟩ = some x3 ∧ (w1.drew).cell? ⟨c, 0, none⟩ = some y1 ∧ (w1.drew).cell? ⟨c, 1, none⟩ = some y2 ∧ (w1.drew).cell? ⟨c, 2, none⟩ = some y3) ∧ (w.heap.size + 2 < b ∧ w.heap.size + 2 < c ∧ b < (w1.drew).heap.size ∧ c < (w1.drew).heap.size) ∧ Below w.heap.size w (w1.drew) ∧ ((w1.drew).cell? ⟨w.heap.size + 1 + 1, 0, none⟩ = some (cellD (w1.drew) ⟨w.heap.size + 1 + 1, 0, none⟩) ∧ (w1.drew).cell? ⟨w.heap.size + 1 + 1, 1, none⟩ = some (cellD (w1.drew) ⟨w.heap.size + 1 + 1, 1, none⟩)) ∧ ((w1.drew).frozen? ⟨w.heap.size + 1 + 1, 0, none⟩ = false ∧ (w1.drew).frozen? ⟨w.heap.size + 1 + 1, 1, none⟩ = false) :=
  ⟨⟨F.k0, F.k1, F.k2, G.k0, G.k1, G.k2⟩, ⟨hb, hc, F.lt, G.lt⟩, BX.below.drew, ⟨cellD_of BX.i0, cellD_of BX.i1⟩, ⟨BX.j0, BX.j1⟩⟩

theorem below_drewn {w w1 : World} (h : Below w.drew.heap.size w.drew w1) : Below w.heap.size w w1 := (below_drew w).trans h

theorem do_result {w w1 : World} {x y : Value} {A B F : Prop} {f : World} (hf : f = (w1.setCell ⟨w.heap.size + 1 + 1, 0, none⟩ x).setCell ⟨w.heap.size + 1 + 1, 1, none⟩ y)
    (h : A ∧ B ∧ Below w.heap.size w f ∧ (f.cell? ⟨w.heap.size + 1 + 1, 0, none⟩ = some (cellD f ⟨w.heap.size + 1 + 1, 0, none⟩) ∧ f.cell? ⟨w.heap.size + 1 + 1, 1, none⟩ = some (cellD f ⟨w.heap.size + 1 + 1, 1, none⟩)) ∧ F) :
    f.cell? ⟨w.heap.size + 1 + 1, 0, none⟩ = some x ∧ f.cell? ⟨w.heap.size + 1 + 1, 1, none⟩ = some y ∧ Below w.heap.size w f := by
  obtain ⟨_, _, k, ⟨i0, i1⟩, _⟩ := h
  subst hf
  refine ⟨?_, i1.trans (congrArg some (cell_set_rev i1)), k⟩
  have e := i0
  rw [set_two (by decide)] at e
  exact i0.trans (congrArg some (cell_set_rev e))
end Go.Proofs.YthlogaenbnhobaaDoor
