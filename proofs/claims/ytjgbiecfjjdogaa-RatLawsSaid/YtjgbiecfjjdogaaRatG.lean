/-
  The walks of package rat's Add, Sub, Mul, Div at right fractions. (Template: by-name.py fills it.)
-/
import Derived.Test.YtjgbiecfjjdogaaRatF
namespace Go.Proofs.Ytjgbiecfjjdogaa
open Go.RowKit

theorem Valid.right {n : Int} {d : Nat} (v : Valid n d) : rightB n d = true := by
  have := v.pos; have := v.n_le
  exact decide_eq_true ⟨by omega, by omega, by rw [Int.natAbs_natCast]; exact v.low⟩

theorem valid_of {n d : Int} (h : rightB n d = true) (h1 : -9223372036854775808 ≤ n) (h2 : n ≤ 9223372036854775807) (h4 : d ≤ 9223372036854775807) : ∃ k : Nat, d = k ∧ Valid n k := by
  obtain ⟨a, b, c⟩ := of_decide_eq_true h
  exact ⟨d.toNat, by omega, ⟨by omega, by omega, by omega, by rw [← c]; congr 1; omega⟩⟩

theorem right_yes {n : Int} {d : Nat} (v : Valid n d) (w : World) : Calls Try.prog 12 #[ratV n d] w fun e w' => e = .returned (.bool true) ∧ Below w.heap.size w w' := by
  have := v.pos; have := v.n_le; have := v.d_le
  have := right_any n d w (by omega) (by omega) (by omega) (by omega)
  rwa [v.right] at this

/-- The value of a result. -/
abbrev resV (P : Int) (Q : Nat) : Value := .tuple #[ratV (resN P Q) (resD P Q), .int .i64 (resE P Q)]

theorem sum_valid {n m : Int} {d e : Nat} (v : Valid n d) (u : Valid m e) (w : World) :
    Calls Try.prog 26 #[ratV n d, ratV m e] w fun r w' => r = .returned (resV (n * e + m * d) (d * e)) ∧ Below w.heap.size w w' := by
  have vp := v.pos; have vn := v.n_le; have vd := v.d_le
  have up := u.pos; have un := u.n_le; have ud := u.d_le
  obtain ⟨a, b, c⟩ := sum_res v u rfl rfl rfl rfl rfl rfl
  have hT2 : plusM (decide (n < 0)) (n.natAbs * (e / Nat.gcd d e)) (decide (m < 0)) (m.natAbs * (d / Nat.gcd d e)) < 340282366920938463463374607431768211456 := by
    have x1 : e / Nat.gcd d e ≤ 9223372036854775807 := Nat.le_trans (Nat.div_le_self _ _) ud
    have y1 : d / Nat.gcd d e ≤ 9223372036854775807 := Nat.le_trans (Nat.div_le_self _ _) vd
    have p1 : n.natAbs * (e / Nat.gcd d e) ≤ 9223372036854775807 * 9223372036854775807 := Nat.mul_le_mul vn x1
    have p2 : m.natAbs * (d / Nat.gcd d e) ≤ 9223372036854775807 * 9223372036854775807 := Nat.mul_le_mul un y1
    unfold plusM
    split
    · omega
    · split <;> omega
  have := sum_any n m d e w (by omega) (by omega) (by omega) (by omega) vp vd up ud _ _ _ _ _ _ rfl rfl rfl hT2 rfl rfl rfl
  rwa [a, b, c] at this

theorem product_valid {n m : Int} {d e : Nat} (v : Valid n d) (u : Valid m e) (w : World) :
    Calls Try.prog 28 #[ratV n d, ratV m e] w fun r w' => r = .returned (resV (n * m) (d * e)) ∧ Below w.heap.size w w' := by
  have vp := v.pos; have vn := v.n_le; have vd := v.d_le
  have up := u.pos; have un := u.n_le; have ud := u.d_le
  obtain ⟨a, b, c⟩ := product_res v u rfl rfl rfl rfl
  have := product_any n m d e w (by omega) (by omega) (by omega) (by omega) vp vd up ud _ _ rfl rfl _ _ rfl rfl
  rwa [a, b, c] at this

set_option maxHeartbeats 1000000 in
theorem add_valid {n m : Int} {d e : Nat} (v : Valid n d) (u : Valid m e) (w : World) :
    Calls Try.prog 13 #[ratV n d, ratV m e] w fun r w' => r = .returned (resV (n * e + m * d) (d * e)) ∧ Below w.heap.size w w' := by
  have ra := fun w => right_yes v w
  have rb := fun w => right_yes u w
  have su := fun w => sum_valid v u w
  unfold resV at su ⊢
  generalize resN (n * e + m * d) (d * e) = F1 at *
  generalize resD (n * e + m * d) (d * e) = F2 at *
  generalize resE (n * e + m * d) (d * e) = F3 at *
  clear v u
  go_enter Try.func13, Try.ntmps13
  go_upto_region 1 with fail
  have B := Boxes.start w n d m e 0 23
  go_wp2_with (first
    | (go_at_call 12; (first | with_reducible refine (ra _).mono ?_ | with_reducible refine (rb _).mono ?_); rintro e w1 ⟨rfl, hb⟩; have B := B.keep hb; have c0 := B.c0; have c1 := B.c1; have c2 := B.c2; have c3 := B.c3)
    | (go_at_call 26; (with_reducible refine (su _).mono ?_); rintro e w1 ⟨rfl, hb⟩; have B := B.keep hb; have i0 := B.i0; have i1 := B.i1; have j0 := B.j0; have j1 := B.j1; have HB := Lib.hid B.below))
  exact bodyPost_ret (v := .tuple #[ratV F1 F2, .int .i64 F3]) (by simp [results, Try.results13, go_sem, i0, i1]) rfl ⟨rfl, below_two HB.out⟩

theorem below_alloc2 (w : World) (a b : Obj) : Below w.heap.size w ((w.alloc a).alloc b) := ((Below.refl _ _).alloc (Nat.le_refl _) _).alloc (by simp) _

theorem below_drew (w : World) : Below w.heap.size w w.drew := (Below.refl _ _).drew
theorem negated_below (n d : Int) (w : World) (h1 : -9223372036854775807 ≤ n) (h2 : n ≤ 9223372036854775807) :
    Calls Try.prog 27 #[ratV n d] w fun e w' => e = .returned (ratV (-n) d) ∧ Below w.heap.size w w' :=
  (negated_any n d w h1 h2).mono fun _ _ ⟨he, hw⟩ => ⟨he, by rw [hw]; exact below_alloc2 _ _ _⟩

theorem Valid.neg {n : Int} {d : Nat} (v : Valid n d) : Valid (-n) d := ⟨v.pos, v.d_le, by rw [Int.natAbs_neg]; exact v.n_le, by rw [Int.natAbs_neg]; exact v.low⟩

/-- What stands during the last region of Sub and of Div. -/
theorem keep_rats {w w1 w2 : World} {n d m e : Value} (hb : Below w1.heap.size w1 w2)
    (h : (w1.cell? ⟨w.heap.size, 0, none⟩ = some n ∧ w1.cell? ⟨w.heap.size, 1, none⟩ = some d ∧ w1.cell? ⟨w.heap.size + 1, 0, none⟩ = some m ∧ w1.cell? ⟨w.heap.size + 1, 1, none⟩ = some e) ∧ w.heap.size + 2 < w1.heap.size ∧ Below w.heap.size w w1 ∧ (w1.cell? ⟨w.heap.size + 1 + 1, 0, none⟩ = some (cellD w1 ⟨w.heap.size + 1 + 1, 0, none⟩) ∧ w1.cell? ⟨w.heap.size + 1 + 1, 1, none⟩ = some (cellD w1 ⟨w.heap.size + 1 + 1, 1, none⟩)) ∧ (w1.frozen? ⟨w.heap.size + 1 + 1, 0, none⟩ = false ∧ w1.frozen? ⟨w.heap.size + 1 + 1, 1, none⟩ = false)) :
    (w2.cell? ⟨w.heap.size, 0, none⟩ = some n ∧ w2.cell? ⟨w.heap.size, 1, none⟩ = some d ∧ w2.cell? ⟨w.heap.size + 1, 0, none⟩ = some m ∧ w2.cell? ⟨w.heap.size + 1, 1, none⟩ = some e) ∧ w.heap.size + 2 < w2.heap.size ∧ Below w.heap.size w w2 ∧ (w2.cell? ⟨w.heap.size + 1 + 1, 0, none⟩ = some (cellD w2 ⟨w.heap.size + 1 + 1, 0, none⟩) ∧ w2.cell? ⟨w.heap.size + 1 + 1, 1, none⟩ = some (cellD w2 ⟨w.heap.size + 1 + 1, 1, none⟩)) ∧ (w2.frozen? ⟨w.heap.size + 1 + 1, 0, none⟩ = false ∧ w2.frozen? ⟨w.heap.size + 1 + 1, 1, none⟩ = false) := by
  obtain ⟨⟨a, b, c, f⟩, g, k, ⟨i0, i1⟩, j0, j1⟩ := h
  have hs := hb.size
  have q : ∀ o, w2.cell? ⟨w.heap.size + 1 + 1, o, none⟩ = w1.cell? ⟨w.heap.size + 1 + 1, o, none⟩ := fun o => hb.cell (p := ⟨w.heap.size + 1 + 1, o, none⟩) (by simp; omega)
  have r : ∀ o, w2.frozen? ⟨w.heap.size + 1 + 1, o, none⟩ = w1.frozen? ⟨w.heap.size + 1 + 1, o, none⟩ := fun o => hb.frozen (p := ⟨w.heap.size + 1 + 1, o, none⟩) (by simp; omega)
  exact ⟨⟨keep_cell hb (by omega) a, keep_cell hb (by omega) b, keep_cell hb (by omega) c, keep_cell hb (by omega) f⟩, by omega, k.trans (hb.mono (by omega)), ⟨cellD_of ((q _).trans i0), cellD_of ((q _).trans i1)⟩, by rw [r]; exact j0, by rw [r]; exact j1⟩

theorem set_rats {w w1 : World} {n d m e : Value} {o : Nat} {x : Value}
    (h : (w1.cell? ⟨w.heap.size, 0, none⟩ = some n ∧ w1.cell? ⟨w.heap.size, 1, none⟩ = some d ∧ w1.cell? ⟨w.heap.size + 1, 0, none⟩ = some m ∧ w1.cell? ⟨w.heap.size + 1, 1, none⟩ = some e) ∧ w.heap.size + 2 < w1.heap.size ∧ Below w.heap.size w w1 ∧ (w1.cell? ⟨w.heap.size + 1 + 1, 0, none⟩ = some (cellD w1 ⟨w.heap.size + 1 + 1, 0, none⟩) ∧ w1.cell? ⟨w.heap.size + 1 + 1, 1, none⟩ = some (cellD w1 ⟨w.heap.size + 1 + 1, 1, none⟩)) ∧ (w1.frozen? ⟨w.heap.size + 1 + 1, 0, none⟩ = false ∧ w1.frozen? ⟨w.heap.size + 1 + 1, 1, none⟩ = false)) :
    ((w1.setCell ⟨w.heap.size + 1 + 1, o, none⟩ x).cell? ⟨w.heap.size, 0, none⟩ = some n ∧ (w1.setCell ⟨w.heap.size + 1 + 1, o, none⟩ x).cell? ⟨w.heap.size, 1, none⟩ = some d ∧ (w1.setCell ⟨w.heap.size + 1 + 1, o, none⟩ x).cell? ⟨w.heap.size + 1, 0, none⟩ = some m ∧ (w1.setCell ⟨w.heap.size + 1 + 1, o, none⟩ x).cell? ⟨w.heap.size + 1, 1, none⟩ = some e) ∧ w.heap.size + 2 < (w1.setCell ⟨w.heap.size + 1 + 1, o, none⟩ x).heap.size ∧ Below w.heap.size w (w1.setCell ⟨w.heap.size + 1 + 1, o, none⟩ x) ∧ ((w1.setCell ⟨w.heap.size + 1 + 1, o, none⟩ x).cell? ⟨w.heap.size + 1 + 1, 0, none⟩ = some (cellD (w1.setCell ⟨w.heap.size + 1 + 1, o, none⟩ x) ⟨w.heap.size + 1 + 1, 0, none⟩) ∧ (w1.setCell ⟨w.heap.size + 1 + 1, o, none⟩ x).cell? ⟨w.heap.size + 1 + 1, 1, none⟩ = some (cellD (w1.setCell ⟨w.heap.size + 1 + 1, o, none⟩ x) ⟨w.heap.size + 1 + 1, 1, none⟩)) ∧ ((w1.setCell ⟨w.heap.size + 1 + 1, o, none⟩ x).frozen? ⟨w.heap.size + 1 + 1, 0, none⟩ = false ∧ (w1.setCell ⟨w.heap.size + 1 + 1, o, none⟩ x).frozen? ⟨w.heap.size + 1 + 1, 1, none⟩ = false) := by
  obtain ⟨⟨a, b, c, f⟩, g, k, ⟨i0, i1⟩, j0, j1⟩ := h
  have q : ∀ b' o', b' < w.heap.size + 1 + 1 → (w1.setCell ⟨w.heap.size + 1 + 1, o, none⟩ x).cell? ⟨b', o', none⟩ = w1.cell? ⟨b', o', none⟩ := fun b' o' hb => World.cell?_setCell_far _ _ _ _ (by simp; omega)
  exact ⟨⟨by rw [q _ _ (by omega)]; exact a, by rw [q _ _ (by omega)]; exact b, by rw [q _ _ (by omega)]; exact c, by rw [q _ _ (by omega)]; exact f⟩, by rw [World.size_setCell]; exact g, k.setCell (by simp; omega) _, ⟨cellD_set i0, cellD_set i1⟩, by rw [World.frozen?_setCell]; exact j0, by rw [World.frozen?_setCell]; exact j1⟩

theorem Boxes.rats {w w1 : World} {n d m e : Int} (h : Boxes w w1 n d m e) :
    (w1.cell? ⟨w.heap.size, 0, none⟩ = some (.int .i64 n) ∧ w1.cell? ⟨w.heap.size, 1, none⟩ = some (.int .i64 d) ∧ w1.cell? ⟨w.heap.size + 1, 0, none⟩ = some (.int .i64 m) ∧ w1.cell? ⟨w.heap.size + 1, 1, none⟩ = some (.int .i64 e)) ∧ w.heap.size + 2 < w1.heap.size ∧ Below w.heap.size w w1 ∧ (w1.cell? ⟨w.heap.size + 1 + 1, 0, none⟩ = some (cellD w1 ⟨w.heap.size + 1 + 1, 0, none⟩) ∧ w1.cell? ⟨w.heap.size + 1 + 1, 1, none⟩ = some (cellD w1 ⟨w.heap.size + 1 + 1, 1, none⟩)) ∧ (w1.frozen? ⟨w.heap.size + 1 + 1, 0, none⟩ = false ∧ w1.frozen? ⟨w.heap.size + 1 + 1, 1, none⟩ = false) :=
  ⟨⟨h.c0, h.c1, h.c2, h.c3⟩, h.size, h.below, ⟨cellD_of h.i0, cellD_of h.i1⟩, h.j0, h.j1⟩

theorem rat_result {w w1 : World} {x y : Value} {A B F : Prop} {f : World} (hf : f = (w1.setCell ⟨w.heap.size + 1 + 1, 0, none⟩ x).setCell ⟨w.heap.size + 1 + 1, 1, none⟩ y)
    (h : A ∧ B ∧ Below w.heap.size w f ∧ (f.cell? ⟨w.heap.size + 1 + 1, 0, none⟩ = some (cellD f ⟨w.heap.size + 1 + 1, 0, none⟩) ∧ f.cell? ⟨w.heap.size + 1 + 1, 1, none⟩ = some (cellD f ⟨w.heap.size + 1 + 1, 1, none⟩)) ∧ F) :
    f.cell? ⟨w.heap.size + 1 + 1, 0, none⟩ = some x ∧ f.cell? ⟨w.heap.size + 1 + 1, 1, none⟩ = some y ∧ Below w.heap.size w f := by
  obtain ⟨_, _, k, ⟨i0, i1⟩, _⟩ := h
  subst hf
  refine ⟨?_, i1.trans (congrArg some (cell_set_rev i1)), k⟩
  have e := i0
  rw [set_two (by decide)] at e
  exact i0.trans (congrArg some (cell_set_rev e))

set_option maxHeartbeats 1000000 in
theorem sub_valid {n m : Int} {d e : Nat} (v : Valid n d) (u : Valid m e) (w : World) :
    Calls Try.prog 14 #[ratV n d, ratV m e] w fun r w' => r = .returned (resV (n * e - m * d) (d * e)) ∧ Below w.heap.size w w' := by
  have ra := fun w => right_yes v w
  have rb := fun w => right_yes u w
  have su := fun w => sum_valid v u.neg w
  have hp : n * e + -m * d = n * e - m * d := by rw [Int.neg_mul]; omega
  rw [hp] at su
  clear hp
  unfold resV at su ⊢
  generalize resN (n * e - m * d) (d * e) = F1 at *
  generalize resD (n * e - m * d) (d * e) = F2 at *
  generalize resE (n * e - m * d) (d * e) = F3 at *
  have un := u.n_le
  have ne := fun w => negated_below m e w (by omega) (by omega)
  clear v u un
  go_enter Try.func14, Try.ntmps14
  go_upto_region 1 with fail
  have B := Boxes.start w n d m e 0 23
  go_wp2_with (go_at_call 12; (first | with_reducible refine (ra _).mono ?_ | with_reducible refine (rb _).mono ?_); rintro e w1 ⟨rfl, hb⟩; have B := B.keep hb; have c0 := B.c0; have c1 := B.c1; have c2 := B.c2; have c3 := B.c3)
  go_region_held3 (fun w' => (w'.cell? ⟨w.heap.size, 0, none⟩ = some (.int .i64 n) ∧ w'.cell? ⟨w.heap.size, 1, none⟩ = some (.int .i64 d) ∧ w'.cell? ⟨w.heap.size + 1, 0, none⟩ = some (.int .i64 m) ∧ w'.cell? ⟨w.heap.size + 1, 1, none⟩ = some (.int .i64 e)) ∧ w.heap.size + 2 < w'.heap.size ∧ Below w.heap.size w w' ∧ (w'.cell? ⟨w.heap.size + 1 + 1, 0, none⟩ = some (cellD w' ⟨w.heap.size + 1 + 1, 0, none⟩) ∧ w'.cell? ⟨w.heap.size + 1 + 1, 1, none⟩ = some (cellD w' ⟨w.heap.size + 1 + 1, 1, none⟩)) ∧ (w'.frozen? ⟨w.heap.size + 1 + 1, 0, none⟩ = false ∧ w'.frozen? ⟨w.heap.size + 1 + 1, 1, none⟩ = false))
    (first
      | with_reducible assumption
      | with_reducible exact keep_rats (by with_reducible assumption) (by with_reducible assumption)
      | with_reducible exact set_rats (set_rats (by with_reducible assumption))
      | exact (B.keep (below_drew _)).rats)
    (first
      | (go_at_call 27; (with_reducible refine (ne _).mono ?_); rintro e w' ⟨rfl, hb⟩)
      | (go_at_call 26; (with_reducible refine (su _).mono ?_); rintro e w' ⟨rfl, hb⟩))
  go_wp2_with fail
  obtain ⟨c0, c1, hB⟩ := rat_result rfl (by with_reducible assumption)
  exact bodyPost_ret (v := .tuple #[ratV F1 F2, .int .i64 F3]) (by simp [results, Try.results14, go_sem, c0, c1]) rfl ⟨rfl, hB⟩

set_option maxHeartbeats 1000000 in
theorem mul_valid {n m : Int} {d e : Nat} (v : Valid n d) (u : Valid m e) (w : World) :
    Calls Try.prog 15 #[ratV n d, ratV m e] w fun r w' => r = .returned (resV (n * m) (d * e)) ∧ Below w.heap.size w w' := by
  have ra := fun w => right_yes v w
  have rb := fun w => right_yes u w
  have su := fun w => product_valid v u w
  unfold resV at su ⊢
  generalize resN (n * m) (d * e) = F1 at *
  generalize resD (n * m) (d * e) = F2 at *
  generalize resE (n * m) (d * e) = F3 at *
  clear v u
  go_enter Try.func15, Try.ntmps15
  go_upto_region 1 with fail
  have B := Boxes.start w n d m e 0 23
  go_wp2_with (first
    | (go_at_call 12; (first | with_reducible refine (ra _).mono ?_ | with_reducible refine (rb _).mono ?_); rintro e w1 ⟨rfl, hb⟩; have B := B.keep hb; have c0 := B.c0; have c1 := B.c1; have c2 := B.c2; have c3 := B.c3)
    | (go_at_call 28; (with_reducible refine (su _).mono ?_); rintro e w1 ⟨rfl, hb⟩; have B := B.keep hb; have i0 := B.i0; have i1 := B.i1; have j0 := B.j0; have j1 := B.j1; have HB := Lib.hid B.below))
  exact bodyPost_ret (v := .tuple #[ratV F1 F2, .int .i64 F3]) (by simp [results, Try.results15, go_sem, i0, i1]) rfl ⟨rfl, below_two HB.out⟩

theorem Valid.inv {m : Int} {e : Nat} (u : Valid m e) (h : m ≠ 0) : Valid (if m < 0 then -(e : Int) else e) m.natAbs := by
  have up := u.pos; have ud := u.d_le
  refine ⟨by omega, u.n_le, by split <;> omega, ?_⟩
  have : (if m < 0 then -(e : Int) else (e : Int)).natAbs = e := by split <;> omega
  rw [this, Nat.gcd_comm]; exact u.low

theorem inverted_valid {m : Int} {e : Nat} (u : Valid m e) (w : World) :
    Calls Try.prog 29 #[ratV m e] w fun r w' => r = .returned (ratV (if m < 0 then -(e : Int) else e) m.natAbs) ∧ Below w.heap.size w w' := by
  have up := u.pos; have ud := u.d_le; have un := u.n_le
  by_cases s : m < 0
  · rw [if_pos s]
    have := inverted_neg m e w (by omega) s (by omega) (by omega)
    rwa [show -m = (m.natAbs : Int) by omega] at this
  · rw [if_neg s]
    have := inverted_pos m e w s
    rwa [show ratV (e : Int) m = ratV (e : Int) (m.natAbs : Int) by rw [show (m.natAbs : Int) = m by omega]] at this

set_option maxHeartbeats 1000000 in
theorem div_valid {n m : Int} {d e : Nat} (v : Valid n d) (u : Valid m e) (h : m ≠ 0) (w : World) :
    Calls Try.prog 16 #[ratV n d, ratV m e] w fun r w' => r = .returned (resV (n * (if m < 0 then -(e : Int) else e)) (d * m.natAbs)) ∧ Below w.heap.size w w' := by
  have ra := fun w => right_yes v w
  have rb := fun w => right_yes u w
  have iv := fun w => inverted_valid u w
  have su := fun w => product_valid v (u.inv h) w
  unfold resV at su ⊢
  generalize (if m < 0 then -(e : Int) else (e : Int)) = E at *
  generalize resN (n * E) (d * m.natAbs) = F1 at *
  generalize resD (n * E) (d * m.natAbs) = F2 at *
  generalize resE (n * E) (d * m.natAbs) = F3 at *
  have hm : (m == 0) = false := by simpa using h
  clear v u h
  go_enter Try.func16, Try.ntmps16
  go_upto_region 1 with fail
  have B := Boxes.start w n d m e 0 23
  go_wp2_with (go_at_call 12; (first | with_reducible refine (ra _).mono ?_ | with_reducible refine (rb _).mono ?_); rintro e w1 ⟨rfl, hb⟩; have B := B.keep hb; have c0 := B.c0; have c1 := B.c1; have c2 := B.c2; have c3 := B.c3)
  go_region_held3 (fun w' => (w'.cell? ⟨w.heap.size, 0, none⟩ = some (.int .i64 n) ∧ w'.cell? ⟨w.heap.size, 1, none⟩ = some (.int .i64 d) ∧ w'.cell? ⟨w.heap.size + 1, 0, none⟩ = some (.int .i64 m) ∧ w'.cell? ⟨w.heap.size + 1, 1, none⟩ = some (.int .i64 e)) ∧ w.heap.size + 2 < w'.heap.size ∧ Below w.heap.size w w' ∧ (w'.cell? ⟨w.heap.size + 1 + 1, 0, none⟩ = some (cellD w' ⟨w.heap.size + 1 + 1, 0, none⟩) ∧ w'.cell? ⟨w.heap.size + 1 + 1, 1, none⟩ = some (cellD w' ⟨w.heap.size + 1 + 1, 1, none⟩)) ∧ (w'.frozen? ⟨w.heap.size + 1 + 1, 0, none⟩ = false ∧ w'.frozen? ⟨w.heap.size + 1 + 1, 1, none⟩ = false))
    (first
      | with_reducible assumption
      | with_reducible exact keep_rats (by with_reducible assumption) (by with_reducible assumption)
      | with_reducible exact set_rats (set_rats (by with_reducible assumption))
      | exact (B.keep (below_drew _)).rats)
    (first
      | (go_at_call 29; (with_reducible refine (iv _).mono ?_); rintro e w' ⟨rfl, hb⟩)
      | (go_at_call 28; (with_reducible refine (su _).mono ?_); rintro e w' ⟨rfl, hb⟩))
  go_wp2_with fail
  obtain ⟨c0, c1, hB⟩ := rat_result rfl (by with_reducible assumption)
  exact bodyPost_ret (v := .tuple #[ratV F1 F2, .int .i64 F3]) (by simp [results, Try.results16, go_sem, c0, c1]) rfl ⟨rfl, hB⟩

set_option maxHeartbeats 1000000 in
theorem div_nought {n : Int} {d e : Nat} (v : Valid n d) (u : Valid 0 e) (w : World) :
    Calls Try.prog 16 #[ratV n d, ratV 0 e] w fun r w' => r = .returned (.tuple #[ratV 0 0, .int .i64 2]) ∧ Below w.heap.size w w' := by
  have ra := fun w => right_yes v w
  have rb := fun w => right_yes u w
  clear v u
  go_enter Try.func16, Try.ntmps16
  go_upto_region 1 with fail
  have B := Boxes.start w n d 0 e 0 23
  go_wp2_with (go_at_call 12; (first | with_reducible refine (ra _).mono ?_ | with_reducible refine (rb _).mono ?_); rintro e w1 ⟨rfl, hb⟩; have B := B.keep hb; have c0 := B.c0; have c1 := B.c1; have c2 := B.c2; have c3 := B.c3; have i0 := B.i0; have i1 := B.i1; have j0 := B.j0; have j1 := B.j1)
  exact bodyPost_ret (v := .tuple #[ratV 0 0, .int .i64 2]) (by simp [results, Try.results16, go_sem, i0, i1]) rfl ⟨rfl, below_two B.below⟩

theorem keep_pair {w w1 w2 : World} {n d m e : Value} (hb : Below w1.heap.size w1 w2)
    (h : (w1.cell? ⟨w.heap.size, 0, none⟩ = some n ∧ w1.cell? ⟨w.heap.size, 1, none⟩ = some d ∧ w1.cell? ⟨w.heap.size + 1, 0, none⟩ = some m ∧ w1.cell? ⟨w.heap.size + 1, 1, none⟩ = some e) ∧ w.heap.size + 1 < w1.heap.size ∧ Below w.heap.size w w1) :
    (w2.cell? ⟨w.heap.size, 0, none⟩ = some n ∧ w2.cell? ⟨w.heap.size, 1, none⟩ = some d ∧ w2.cell? ⟨w.heap.size + 1, 0, none⟩ = some m ∧ w2.cell? ⟨w.heap.size + 1, 1, none⟩ = some e) ∧ w.heap.size + 1 < w2.heap.size ∧ Below w.heap.size w w2 := by
  obtain ⟨⟨a, b, c, f⟩, g, k⟩ := h
  have hs := hb.size
  exact ⟨⟨keep_cell hb (by omega) a, keep_cell hb (by omega) b, keep_cell hb (by omega) c, keep_cell hb (by omega) f⟩, by omega, k.trans (hb.mono (by omega))⟩

theorem start_pair (w : World) (n d m e : Int) (ty : TypeId) :
    (((w.alloc (.cells #[.int .i64 n, .int .i64 d] ty)).alloc (.cells #[.int .i64 m, .int .i64 e] ty)).cell? ⟨w.heap.size, 0, none⟩ = some (.int .i64 n) ∧ ((w.alloc (.cells #[.int .i64 n, .int .i64 d] ty)).alloc (.cells #[.int .i64 m, .int .i64 e] ty)).cell? ⟨w.heap.size, 1, none⟩ = some (.int .i64 d) ∧ ((w.alloc (.cells #[.int .i64 n, .int .i64 d] ty)).alloc (.cells #[.int .i64 m, .int .i64 e] ty)).cell? ⟨w.heap.size + 1, 0, none⟩ = some (.int .i64 m) ∧ ((w.alloc (.cells #[.int .i64 n, .int .i64 d] ty)).alloc (.cells #[.int .i64 m, .int .i64 e] ty)).cell? ⟨w.heap.size + 1, 1, none⟩ = some (.int .i64 e)) ∧ w.heap.size + 1 < ((w.alloc (.cells #[.int .i64 n, .int .i64 d] ty)).alloc (.cells #[.int .i64 m, .int .i64 e] ty)).heap.size ∧ Below w.heap.size w ((w.alloc (.cells #[.int .i64 n, .int .i64 d] ty)).alloc (.cells #[.int .i64 m, .int .i64 e] ty)) :=
  ⟨⟨by go_simp, by go_simp, by go_simp, by go_simp⟩, by simp, below_alloc2 _ _ _⟩

theorem below_of_pair {w w1 : World} {A B : Prop} (h : A ∧ B ∧ Below w.heap.size w w1) : Below w.heap.size w w1 := h.2.2

theorem field_wide (s : Bool) (T : Nat) (w : World) : (Instr.field 50 (wideV s T) 0).run Try.prog w = .ok (.bool s) w := by kernel_rfl

/-- The order of two fractions. -/
def cmpV (n m : Int) (d e : Nat) : Int := if n * e < m * d then -1 else if n * e = m * d then 0 else 1

theorem cmp_sign {n m : Int} {d e : Nat} (v : Valid n d) (u : Valid m e) (h : ¬ (n = m ∧ d = e)) :
    plusS (decide (n < 0)) (n.natAbs * (e / 1)) (decide (-m < 0)) ((-m).natAbs * (d / 1)) = decide (n * e < m * d) ∧ n * (e : Int) ≠ m * (d : Int) := by
  have hne : n * (e : Int) ≠ m * (d : Int) := fun k => h (v.unique u k)
  refine ⟨?_, hne⟩
  have := (plus_signed n (-m) (e / 1) (d / 1)).2
  rw [Nat.div_one, Nat.div_one] at *
  rw [this (by rw [Int.neg_mul]; omega)]
  congr 1
  rw [Int.neg_mul]
  apply propext
  omega

set_option maxHeartbeats 1000000 in
theorem compare_valid {n m : Int} {d e : Nat} (v : Valid n d) (u : Valid m e) (w : World) :
    Calls Try.prog 17 #[ratV n d, ratV m e] w fun r w' => r = .returned (.int .i64 (cmpV n m d e)) ∧ Below w.heap.size w w' := by
  by_cases h : n = m ∧ d = e
  · obtain ⟨rfl, rfl⟩ := h
    have hc : cmpV n n d d = 0 := by unfold cmpV; simp
    rw [hc]
    clear hc v u
    go_enter Try.func17, Try.ntmps17
    go_wp2_with fail
    go_ret
    exact ⟨rfl, below_alloc2 _ _ _⟩
  · have ra := fun w => right_yes v w
    have rb := fun w => right_yes u w
    have un := u.n_le; have ud := u.d_le; have vn := v.n_le; have vd := v.d_le
    have ne := fun w => negated_below m e w (by omega) (by omega)
    have ac := fun w => across_any n (-m) d e 1 w (by omega) (by omega) (by omega) (by omega) vd ud (by omega) (by omega)
    obtain ⟨sg, hn⟩ := cmp_sign v u h
    rw [sg] at ac
    simp only [Int.natCast_one] at ac
    generalize plusM (decide (n < 0)) (n.natAbs * (e / 1)) (decide (-m < 0)) ((-m).natAbs * (d / 1)) = T at *
    have hc : cmpV n m d e = if decide (n * (e : Int) < m * (d : Int)) = true then -1 else 1 := by
      unfold cmpV
      by_cases l : n * (e : Int) < m * (d : Int)
      · simp [l]
      · simp [l, hn]
    rw [hc]
    generalize decide (n * (e : Int) < m * (d : Int)) = s at *
    have h2 : (n == m) = false ∨ (n == m) = true ∧ ((d : Int) == (e : Int)) = false := by
      by_cases k : n = m
      · right; exact ⟨by simpa using k, by simp; intro l; exact h ⟨k, by omega⟩⟩
      · left; simpa using k
    have fw := fun w' => field_wide s T w'
    clear v u un ud vn vd hc hn h sg
    have B := start_pair w n d m e 23
    rcases h2 with h2 | ⟨h2, h3⟩
    all_goals
      cases s
      all_goals
        simp only [Bool.false_eq_true, if_false, if_true]
        go_enter Try.func17, Try.ntmps17
        go_upto_region 3 with (go_at_call 12; (first | with_reducible refine (ra _).mono ?_ | with_reducible refine (rb _).mono ?_); rintro e w1 ⟨rfl, hb⟩; have B := keep_pair hb B; obtain ⟨⟨c0, c1, c2, c3⟩, _⟩ := id B)
        go_region_held3 (fun w' => (w'.cell? ⟨w.heap.size, 0, none⟩ = some (.int .i64 n) ∧ w'.cell? ⟨w.heap.size, 1, none⟩ = some (.int .i64 d) ∧ w'.cell? ⟨w.heap.size + 1, 0, none⟩ = some (.int .i64 m) ∧ w'.cell? ⟨w.heap.size + 1, 1, none⟩ = some (.int .i64 e)) ∧ w.heap.size + 1 < w'.heap.size ∧ Below w.heap.size w w')
          (first
            | with_reducible assumption
            | with_reducible exact keep_pair (by with_reducible assumption) (by with_reducible assumption)
            | exact keep_pair (below_drew _) B)
          (first
            | (go_at_call 27; (with_reducible refine (ne _).mono ?_); rintro e w' ⟨rfl, hb⟩)
            | (go_at_call 30; (with_reducible refine (ac _).mono ?_); rintro e w' ⟨rfl, hb⟩))
        go_wp2_with fail
        go_ret
        exact ⟨rfl, below_of_pair (by with_reducible assumption)⟩

/-- A fraction in its block. -/
structure RatAt (w1 : World) (b : Nat) (n d : Int) : Prop where
  k0 : w1.cell? ⟨b, 0, none⟩ = some (.int .i64 n)
  k1 : w1.cell? ⟨b, 1, none⟩ = some (.int .i64 d)
  lt : b < w1.heap.size

theorem RatAt.start (w : World) (n d : Int) (ty : TypeId) : RatAt (w.alloc (.cells #[.int .i64 n, .int .i64 d] ty)) w.heap.size n d where
  k0 := by go_simp
  k1 := by go_simp
  lt := by simp

theorem RatAt.keep {w1 w2 : World} {b : Nat} {n d : Int} (h : RatAt w1 b n d) (hb : Below w1.heap.size w1 w2) : RatAt w2 b n d :=
  have z := hb.size
  have l := h.lt
  { k0 := keep_cell hb l h.k0, k1 := keep_cell hb l h.k1, lt := by omega }

theorem half : Valid 1 2 := ⟨by decide, by decide, by decide, by decide⟩
theorem third : Valid 1 3 := ⟨by decide, by decide, by decide, by decide⟩
theorem big : Valid 4611686018427387904 1 := ⟨by decide, by decide, by decide, by decide⟩
theorem two : Valid 2 1 := ⟨by decide, by decide, by decide, by decide⟩

set_option maxHeartbeats 1000000 in
theorem awake_yes (w : World) : Calls Try.prog 9 #[] w fun r w' => r = .returned (.bool true) ∧ Below w.heap.size w w' := by
  have ad : ∀ w, Calls Try.prog 13 #[ratV 1 2, ratV 1 3] w fun r w' => r = .returned (.tuple #[ratV 5 6, .int .i64 0]) ∧ Below w.heap.size w w' := by
    intro w
    have := add_valid half third w
    obtain ⟨a, b, c⟩ := res_of (P := 1 * (3 : Nat) + 1 * (2 : Nat)) (Q := 2 * 3) (n := 5) (d := 6) (by decide) ⟨by decide, by decide, by decide, by decide⟩ (by decide)
    unfold resV at this
    rwa [a, b, c] at this
  have mu : ∀ w, Calls Try.prog 15 #[ratV 4611686018427387904 1, ratV 2 1] w fun r w' => r = .returned (.tuple #[ratV 0 0, .int .i64 3]) ∧ Below w.heap.size w w' := by
    intro w
    have := mul_valid big two w
    have h : resE (4611686018427387904 * 2) (1 * 1) ≠ 0 := by decide
    obtain ⟨a, b, c⟩ := res_no h
    unfold resV at this
    rwa [a, b, c] at this
  go_enter Try.func9, Try.ntmps9
  go_upto_region 2 with (go_at_call 13; (with_reducible refine (ad _).mono ?_); rintro e w1 ⟨rfl, hb⟩)
  have R := RatAt.start w1 5 6 23
  have b1 := hb.trans ((below_alloc1 w1 (.cells #[.int .i64 5, .int .i64 6] 23)).mono hb.size)
  clear hb
  go_upto_region 3 with (go_at_call 15; (with_reducible refine (mu _).mono ?_); rintro e w2 ⟨rfl, hb⟩)
  have R := (R.keep hb).keep (below_alloc1 w2 (.cells #[.int .i64 0, .int .i64 0] 23))
  have k0 := R.k0
  have k1 := R.k1
  have b2 := hb.trans ((below_alloc1 w2 (.cells #[.int .i64 0, .int .i64 0] 23)).mono hb.size)
  clear R hb ad mu
  go_wp2_with fail
  go_ret
  exact ⟨rfl, b1.trans (b2.mono b1.size)⟩
end Go.Proofs.Ytjgbiecfjjdogaa
