/-
  The walks of package rat's Add, Sub, Mul, Div at right fractions. (Template: by-name.py fills it.)
-/
import Derived.Test.YthlogaenbnhobaaDoorRatF
namespace Go.Proofs.YthlogaenbnhobaaDoor
open Go.RowKit

theorem Valid.right {n : Int} {d : Nat} (v : Valid n d) : rightB n d = true := by
  have := v.pos; have := v.n_le
  exact decide_eq_true ⟨by omega, by omega, by rw [Int.natAbs_natCast]; exact v.low⟩

theorem valid_of {n d : Int} (h : rightB n d = true) (h1 : -9223372036854775808 ≤ n) (h2 : n ≤ 9223372036854775807) (h4 : d ≤ 9223372036854775807) : ∃ k : Nat, d = k ∧ Valid n k := by
  obtain ⟨a, b, c⟩ := of_decide_eq_true h
  exact ⟨d.toNat, by omega, ⟨by omega, by omega, by omega, by rw [← c]; congr 1; omega⟩⟩

theorem right_yes {n : Int} {d : Nat} (v : Valid n d) (w : World) : Calls Tryd.prog 24 #[ratV n d] w fun e w' => e = .returned (.bool true) ∧ Below w.heap.size w w' := by
  have := v.pos; have := v.n_le; have := v.d_le
  have := right_any n d w (by omega) (by omega) (by omega) (by omega)
  rwa [v.right] at this

/-- The value of a result. -/
abbrev resV (P : Int) (Q : Nat) : Value := .tuple #[ratV (resN P Q) (resD P Q), .int .i64 (resE P Q)]

theorem sum_valid {n m : Int} {d e : Nat} (v : Valid n d) (u : Valid m e) (w : World) :
    Calls Tryd.prog 26 #[ratV n d, ratV m e] w fun r w' => r = .returned (resV (n * e + m * d) (d * e)) ∧ Below w.heap.size w w' := by
  have vp := v.pos; have vn := v.n_le; have vd := v.d_le
  have up := u.pos; have un := u.n_le; have ud := u.d_le
  obtain ⟨a, b, c⟩ := sum_res v u rfl rfl rfl rfl rfl rfl
  have hT2 : plusM (decide (n < 0)) (n.natAbs * (e / Nat.gcd d e)) (decide (m < 0)) (m.natAbs * (d / Nat.gcd d e)) < 340282366920938463463374607431768211456 := by
    have x1 : e / Nat.gcd d e ≤ 9223372036854775807 := Nat.le_trans (Nat.div_le_self _ _) ud
    have y1 : d / Nat.gcd d e ≤ 9223372036854775807 := Nat.le_trans (Nat.div_le_self _ _) vd
    have p1 : n.natAbs * (e / Nat.gcd d e) ≤ 9223372036854775807 * 9223372036854775807 := Nat.mul_le_mul vn x1
    have p2 : m.natAbs * (d / Nat.gcd d e) ≤ 9223372036854775807 * 9223372036854775807 := Nat.mul_le_mul un y1
    unfold plusM
    split
    · omega
    · split <;> omega
  have := sum_any n m d e w (by omega) (by omega) (by omega) (by omega) vp vd up ud _ _ _ _ _ _ rfl rfl rfl hT2 rfl rfl rfl
  rwa [a, b, c] at this

theorem product_valid {n m : Int} {d e : Nat} (v : Valid n d) (u : Valid m e) (w : World) :
    Calls Tryd.prog 25 #[ratV n d, ratV m e] w fun r w' => r = .returned (resV (n * m) (d * e)) ∧ Below w.heap.size w w' := by
  have vp := v.pos; have vn := v.n_le; have vd := v.d_le
  have up := u.pos; have un := u.n_le; have ud := u.d_le
  obtain ⟨a, b, c⟩ := product_res v u rfl rfl rfl rfl
  have := product_any n m d e w (by omega) (by omega) (by omega) (by omega) vp vd up ud _ _ rfl rfl _ _ rfl rfl
  rwa [a, b, c] at this


theorem below_alloc2 (w : World) (a b : Obj) : Below w.heap.size w ((w.alloc a).alloc b) := ((Below.refl _ _).alloc (Nat.le_refl _) _).alloc (by simp) _

theorem below_drew (w : World) : Below w.heap.size w w.drew := (Below.refl _ _).drew
theorem negated_below (n d : Int) (w : World) (h1 : -9223372036854775807 ≤ n) (h2 : n ≤ 9223372036854775807) :
    Calls Tryd.prog 27 #[ratV n d] w fun e w' => e = .returned (ratV (-n) d) ∧ Below w.heap.size w w' :=
  (negated_any n d w h1 h2).mono fun _ _ ⟨he, hw⟩ => ⟨he, by rw [hw]; exact below_alloc2 _ _ _⟩

set_option maxHeartbeats 1000000 in
theorem mul_valid {n m : Int} {d e : Nat} (v : Valid n d) (u : Valid m e) (w : World) :
    Calls Tryd.prog 14 #[ratV n d, ratV m e] w fun r w' => r = .returned (resV (n * m) (d * e)) ∧ Below w.heap.size w w' := by
  have ra := fun w => right_yes v w
  have rb := fun w => right_yes u w
  have su := fun w => product_valid v u w
  unfold resV at su ⊢
  generalize resN (n * m) (d * e) = F1 at *
  generalize resD (n * m) (d * e) = F2 at *
  generalize resE (n * m) (d * e) = F3 at *
  clear v u
  go_enter Tryd.func14, Tryd.ntmps14
  go_upto_region 1 with fail
  have B := Boxes.start w n d m e 0 25
  go_wp2_with (first
    | (go_at_call 24; (first | with_reducible refine (ra _).mono ?_ | with_reducible refine (rb _).mono ?_); rintro e w1 ⟨rfl, hb⟩; have B := B.keep hb; have c0 := B.c0; have c1 := B.c1; have c2 := B.c2; have c3 := B.c3)
    | (go_at_call 25; (with_reducible refine (su _).mono ?_); rintro e w1 ⟨rfl, hb⟩; have B := B.keep hb; have i0 := B.i0; have i1 := B.i1; have j0 := B.j0; have j1 := B.j1; have HB := Lib.hid B.below))
  exact bodyPost_ret (v := .tuple #[ratV F1 F2, .int .i64 F3]) (by simp [results, Tryd.results14, go_sem, i0, i1]) rfl ⟨rfl, below_two HB.out⟩

/-- A fraction in its block. -/
structure RatAt (w1 : World) (b : Nat) (n d : Int) : Prop where
  k0 : w1.cell? ⟨b, 0, none⟩ = some (.int .i64 n)
  k1 : w1.cell? ⟨b, 1, none⟩ = some (.int .i64 d)
  lt : b < w1.heap.size

theorem RatAt.start (w : World) (n d : Int) (ty : TypeId) : RatAt (w.alloc (.cells #[.int .i64 n, .int .i64 d] ty)) w.heap.size n d where
  k0 := by go_simp
  k1 := by go_simp
  lt := by simp

theorem RatAt.keep {w1 w2 : World} {b : Nat} {n d : Int} (h : RatAt w1 b n d) (hb : Below w1.heap.size w1 w2) : RatAt w2 b n d :=
  have z := hb.size
  have l := h.lt
  { k0 := keep_cell hb l h.k0, k1 := keep_cell hb l h.k1, lt := by omega }

theorem half : Valid 1 2 := ⟨by decide, by decide, by decide, by decide⟩
theorem third : Valid 1 3 := ⟨by decide, by decide, by decide, by decide⟩
theorem big : Valid 4611686018427387904 1 := ⟨by decide, by decide, by decide, by decide⟩
theorem two : Valid 2 1 := ⟨by decide, by decide, by decide, by decide⟩

end Go.Proofs.YthlogaenbnhobaaDoor
