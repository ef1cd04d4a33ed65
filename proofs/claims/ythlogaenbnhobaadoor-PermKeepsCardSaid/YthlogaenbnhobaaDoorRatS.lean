/-
  The walks of package rat's Sub and Div at right fractions. (Template: by-name.py fills it.)
-/
import Derived.Test.YthlogaenbnhobaaDoorRatH
namespace Go.Proofs.YthlogaenbnhobaaDoor
open Go.RowKit



theorem Valid.neg {n : Int} {d : Nat} (v : Valid n d) : Valid (-n) d := ⟨v.pos, v.d_le, by rw [Int.natAbs_neg]; exact v.n_le, by rw [Int.natAbs_neg]; exact v.low⟩

/-- What stands during the last region of Sub and of Div. -/
theorem keep_rats {w w1 w2 : World} {n d m e : Value} (hb : Below w1.heap.size w1 w2)
    (h : (w1.cell? ⟨w.heap.size, 0, none⟩ = some n ∧ w1.cell? ⟨w.heap.size, 1, none⟩ = some d ∧ w1.cell? ⟨w.heap.size + 1, 0, none⟩ = some m ∧ w1.cell? ⟨w.heap.size + 1, 1, none⟩ = some e) ∧ w.heap.size + 2 < w1.heap.size ∧ Below w.heap.size w w1 ∧ (w1.cell? ⟨w.heap.size + 1 + 1, 0, none⟩ = some (cellD w1 ⟨w.heap.size + 1 + 1, 0, none⟩) ∧ w1.cell? ⟨w.heap.size + 1 + 1, 1, none⟩ = some (cellD w1 ⟨w.heap.size + 1 + 1, 1, none⟩)) ∧ (w1.frozen? ⟨w.heap.size + 1 + 1, 0, none⟩ = false ∧ w1.frozen? ⟨w.heap.size + 1 + 1, 1, none⟩ = false)) :
    (w2.cell? ⟨w.heap.size, 0, none⟩ = some n ∧ w2.cell? ⟨w.heap.size, 1, none⟩ = some d ∧ w2.cell? ⟨w.heap.size + 1, 0, none⟩ = some m ∧ w2.cell? ⟨w.heap.size + 1, 1, none⟩ = some e) ∧ w.heap.size + 2 < w2.heap.size ∧ Below w.heap.size w w2 ∧ (w2.cell? ⟨w.heap.size + 1 + 1, 0, none⟩ = some (cellD w2 ⟨w.heap.size + 1 + 1, 0, none⟩) ∧ w2.cell? ⟨w.heap.size + 1 + 1, 1, none⟩ = some (cellD w2 ⟨w.heap.size + 1 + 1, 1, none⟩)) ∧ (w2.frozen? ⟨w.heap.size + 1 + 1, 0, none⟩ = false ∧ w2.frozen? ⟨w.heap.size + 1 + 1, 1, none⟩ = false) := by
  obtain ⟨⟨a, b, c, f⟩, g, k, ⟨i0, i1⟩, j0, j1⟩ := h
  have hs := hb.size
  have q : ∀ o, w2.cell? ⟨w.heap.size + 1 + 1, o, none⟩ = w1.cell? ⟨w.heap.size + 1 + 1, o, none⟩ := fun o => hb.cell (p := ⟨w.heap.size + 1 + 1, o, none⟩) (by simp; omega)
  have r : ∀ o, w2.frozen? ⟨w.heap.size + 1 + 1, o, none⟩ = w1.frozen? ⟨w.heap.size + 1 + 1, o, none⟩ := fun o => hb.frozen (p := ⟨w.heap.size + 1 + 1, o, none⟩) (by simp; omega)
  exact ⟨⟨keep_cell hb (by omega) a, keep_cell hb (by omega) b, keep_cell hb (by omega) c, keep_cell hb (by omega) f⟩, by omega, k.trans (hb.mono (by omega)), ⟨cellD_of ((q _).trans i0), cellD_of ((q _).trans i1)⟩, by rw [r]; exact j0, by rw [r]; exact j1⟩

theorem set_rats {w w1 : World} {n d m e : Value} {o : Nat} {x : Value}
    (h : (w1.cell? ⟨w.heap.size, 0, none⟩ = some n ∧ w1.cell? ⟨w.heap.size, 1, none⟩ = some d ∧ w1.cell? ⟨w.heap.size + 1, 0, none⟩ = some m ∧ w1.cell? ⟨w.heap.size + 1, 1, none⟩ = some e) ∧ w.heap.size + 2 < w1.heap.size ∧ Below w.heap.size w w1 ∧ (w1.cell? ⟨w.heap.size + 1 + 1, 0, none⟩ = some (cellD w1 ⟨w.heap.size + 1 + 1, 0, none⟩) ∧ w1.cell? ⟨w.heap.size + 1 + 1, 1, none⟩ = some (cellD w1 ⟨w.heap.size + 1 + 1, 1, none⟩)) ∧ (w1.frozen? ⟨w.heap.size + 1 + 1, 0, none⟩ = false ∧ w1.frozen? ⟨w.heap.size + 1 + 1, 1, none⟩ = false)) :
    ((w1.setCell ⟨w.heap.size + 1 + 1, o, none⟩ x).cell? ⟨w.heap.size, 0, none⟩ = some n ∧ (w1.setCell ⟨w.heap.size + 1 + 1, o, none⟩ x).cell? ⟨w.heap.size, 1, none⟩ = some d ∧ (w1.setCell ⟨w.heap.size + 1 + 1, o, none⟩ x).cell? ⟨w.heap.size + 1, 0, none⟩ = some m ∧ (w1.setCell ⟨w.heap.size + 1 + 1, o, none⟩ x).cell? ⟨w.heap.size + 1, 1, none⟩ = some e) ∧ w.heap.size + 2 < (w1.setCell ⟨w.heap.size + 1 + 1, o, none⟩ x).heap.size ∧ Below w.heap.size w (w1.setCell ⟨w.heap.size + 1 + 1, o, none⟩ x) ∧ ((w1.setCell ⟨w.heap.size + 1 + 1, o, none⟩ x).cell? ⟨w.heap.size + 1 + 1, 0, none⟩ = some (cellD (w1.setCell ⟨w.heap.size + 1 + 1, o, none⟩ x) ⟨w.heap.size + 1 + 1, 0, none⟩) ∧ (w1.setCell ⟨w.heap.size + 1 + 1, o, none⟩ x).cell? ⟨w.heap.size + 1 + 1, 1, none⟩ = some (cellD (w1.setCell ⟨w.heap.size + 1 + 1, o, none⟩ x) ⟨w.heap.size + 1 + 1, 1, none⟩)) ∧ ((w1.setCell ⟨w.heap.size + 1 + 1, o, none⟩ x).frozen? ⟨w.heap.size + 1 + 1, 0, none⟩ = false ∧ (w1.setCell ⟨w.heap.size + 1 + 1, o, none⟩ x).frozen? ⟨w.heap.size + 1 + 1, 1, none⟩ = false) := by
  obtain ⟨⟨a, b, c, f⟩, g, k, ⟨i0, i1⟩, j0, j1⟩ := h
  have q : ∀ b' o', b' < w.heap.size + 1 + 1 → (w1.setCell ⟨w.heap.size + 1 + 1, o, none⟩ x).cell? ⟨b', o', none⟩ = w1.cell? ⟨b', o', none⟩ := fun b' o' hb => World.cell?_setCell_far _ _ _ _ (by simp; omega)
  exact ⟨⟨by rw [q _ _ (by omega)]; exact a, by rw [q _ _ (by omega)]; exact b, by rw [q _ _ (by omega)]; exact c, by rw [q _ _ (by omega)]; exact f⟩, by rw [World.size_setCell]; exact g, k.setCell (by simp; omega) _, ⟨cellD_set i0, cellD_set i1⟩, by rw [World.frozen?_setCell]; exact j0, by rw [World.frozen?_setCell]; exact j1⟩

theorem Boxes.rats {w w1 : World} {n d m e : Int} (h : Boxes w w1 n d m e) :
    (w1.cell? ⟨w.heap.size, 0, none⟩ = some (.int .i64 n) ∧ w1.cell? ⟨w.heap.size, 1, none⟩ = some (.int .i64 d) ∧ w1.cell? ⟨w.heap.size + 1, 0, none⟩ = some (.int .i64 m) ∧ w1.cell? ⟨w.heap.size + 1, 1, none⟩ = some (.int .i64 e)) ∧ w.heap.size + 2 < w1.heap.size ∧ Below w.heap.size w w1 ∧ (w1.cell? ⟨w.heap.size + 1 + 1, 0, none⟩ = some (cellD w1 ⟨w.heap.size + 1 + 1, 0, none⟩) ∧ w1.cell? ⟨w.heap.size + 1 + 1, 1, none⟩ = some (cellD w1 ⟨w.heap.size + 1 + 1, 1, none⟩)) ∧ (w1.frozen? ⟨w.heap.size + 1 + 1, 0, none⟩ = false ∧ w1.frozen? ⟨w.heap.size + 1 + 1, 1, none⟩ = false) :=
  ⟨⟨h.c0, h.c1, h.c2, h.c3⟩, h.size, h.below, ⟨cellD_of h.i0, cellD_of h.i1⟩, h.j0, h.j1⟩

theorem rat_result {w w1 : World} {x y : Value} {A B F : Prop} {f : World} (hf : f = (w1.setCell ⟨w.heap.size + 1 + 1, 0, none⟩ x).setCell ⟨w.heap.size + 1 + 1, 1, none⟩ y)
    (h : A ∧ B ∧ Below w.heap.size w f ∧ (f.cell? ⟨w.heap.size + 1 + 1, 0, none⟩ = some (cellD f ⟨w.heap.size + 1 + 1, 0, none⟩) ∧ f.cell? ⟨w.heap.size + 1 + 1, 1, none⟩ = some (cellD f ⟨w.heap.size + 1 + 1, 1, none⟩)) ∧ F) :
    f.cell? ⟨w.heap.size + 1 + 1, 0, none⟩ = some x ∧ f.cell? ⟨w.heap.size + 1 + 1, 1, none⟩ = some y ∧ Below w.heap.size w f := by
  obtain ⟨_, _, k, ⟨i0, i1⟩, _⟩ := h
  subst hf
  refine ⟨?_, i1.trans (congrArg some (cell_set_rev i1)), k⟩
  have e := i0
  rw [set_two (by decide)] at e
  exact i0.trans (congrArg some (cell_set_rev e))

set_option maxHeartbeats 1000000 in
theorem sub_valid {n m : Int} {d e : Nat} (v : Valid n d) (u : Valid m e) (w : World) :
    Calls Tryd.prog 15 #[ratV n d, ratV m e] w fun r w' => r = .returned (resV (n * e - m * d) (d * e)) ∧ Below w.heap.size w w' := by
  have ra := fun w => right_yes v w
  have rb := fun w => right_yes u w
  have su := fun w => sum_valid v u.neg w
  have hp : n * e + -m * d = n * e - m * d := by rw [Int.neg_mul]; omega
  rw [hp] at su
  clear hp
  unfold resV at su ⊢
  generalize resN (n * e - m * d) (d * e) = F1 at *
  generalize resD (n * e - m * d) (d * e) = F2 at *
  generalize resE (n * e - m * d) (d * e) = F3 at *
  have un := u.n_le
  have ne := fun w => negated_below m e w (by omega) (by omega)
  clear v u un
  go_enter Tryd.func15, Tryd.ntmps15
  go_upto_region 1 with fail
  have B := Boxes.start w n d m e 0 25
  go_wp2_with (go_at_call 24; (first | with_reducible refine (ra _).mono ?_ | with_reducible refine (rb _).mono ?_); rintro e w1 ⟨rfl, hb⟩; have B := B.keep hb; have c0 := B.c0; have c1 := B.c1; have c2 := B.c2; have c3 := B.c3)
  go_region_held3 (fun w' => (w'.cell? ⟨w.heap.size, 0, none⟩ = some (.int .i64 n) ∧ w'.cell? ⟨w.heap.size, 1, none⟩ = some (.int .i64 d) ∧ w'.cell? ⟨w.heap.size + 1, 0, none⟩ = some (.int .i64 m) ∧ w'.cell? ⟨w.heap.size + 1, 1, none⟩ = some (.int .i64 e)) ∧ w.heap.size + 2 < w'.heap.size ∧ Below w.heap.size w w' ∧ (w'.cell? ⟨w.heap.size + 1 + 1, 0, none⟩ = some (cellD w' ⟨w.heap.size + 1 + 1, 0, none⟩) ∧ w'.cell? ⟨w.heap.size + 1 + 1, 1, none⟩ = some (cellD w' ⟨w.heap.size + 1 + 1, 1, none⟩)) ∧ (w'.frozen? ⟨w.heap.size + 1 + 1, 0, none⟩ = false ∧ w'.frozen? ⟨w.heap.size + 1 + 1, 1, none⟩ = false))
    (first
      | with_reducible assumption
      | with_reducible exact keep_rats (by with_reducible assumption) (by with_reducible assumption)
      | with_reducible exact set_rats (set_rats (by with_reducible assumption))
      | exact (B.keep (below_drew _)).rats)
    (first
      | (go_at_call 27; (with_reducible refine (ne _).mono ?_); rintro e w' ⟨rfl, hb⟩)
      | (go_at_call 26; (with_reducible refine (su _).mono ?_); rintro e w' ⟨rfl, hb⟩))
  go_wp2_with fail
  obtain ⟨c0, c1, hB⟩ := rat_result rfl (by with_reducible assumption)
  exact bodyPost_ret (v := .tuple #[ratV F1 F2, .int .i64 F3]) (by simp [results, Tryd.results15, go_sem, c0, c1]) rfl ⟨rfl, hB⟩

theorem Valid.inv {m : Int} {e : Nat} (u : Valid m e) (h : m ≠ 0) : Valid (if m < 0 then -(e : Int) else e) m.natAbs := by
  have up := u.pos; have ud := u.d_le
  refine ⟨by omega, u.n_le, by split <;> omega, ?_⟩
  have : (if m < 0 then -(e : Int) else (e : Int)).natAbs = e := by split <;> omega
  rw [this, Nat.gcd_comm]; exact u.low




theorem sub_to {n m x : Int} {d e y : Nat} (v : Valid n d) (u : Valid m e) (z : Valid x y) (h : x * ((d * e : Nat) : Int) = (n * e - m * d) * (y : Int)) (w : World) :
    Calls Tryd.prog 15 #[ratV n d, ratV m e] w fun r w' => r = .returned (.tuple #[ratV x y, .int .i64 0]) ∧ Below w.heap.size w w' := by
  obtain ⟨a, b, c⟩ := res_of (Nat.mul_pos v.pos u.pos) z h
  have := sub_valid v u w
  unfold resV at this
  rwa [a, b, c] at this

end Go.Proofs.YthlogaenbnhobaaDoor
