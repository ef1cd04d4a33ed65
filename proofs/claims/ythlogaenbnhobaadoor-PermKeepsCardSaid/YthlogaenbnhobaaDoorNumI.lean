/-
  The walk of the reference's To: the right fraction of long numbers. (Template: by-name.py fills it.)
-/
import Derived.Test.YthlogaenbnhobaaDoorNumH
namespace Go.Proofs.YthlogaenbnhobaaDoor
open Go.RowKit

/-- The block of the parameter and that of the result. -/
structure BoxF (w w1 : World) (x y z : Value) : Prop where
  c0 : w1.cell? ⟨w.heap.size, 0, none⟩ = some x
  c1 : w1.cell? ⟨w.heap.size, 1, none⟩ = some y
  c2 : w1.cell? ⟨w.heap.size, 2, none⟩ = some z
  i0 : w1.cell? ⟨w.heap.size + 1, 0, none⟩ = some (.int .i64 0)
  i1 : w1.cell? ⟨w.heap.size + 1, 1, none⟩ = some (.int .i64 0)
  j0 : w1.frozen? ⟨w.heap.size + 1, 0, none⟩ = false
  j1 : w1.frozen? ⟨w.heap.size + 1, 1, none⟩ = false
  size : w.heap.size + 1 < w1.heap.size
  below : Below w.heap.size w w1

theorem BoxF.start (w : World) (A : Option Addr) (n c : Nat) (B : Option Addr) (m d : Nat) (s : Bool) (ty ty' : TypeId) : BoxF w ((w.alloc (.cells #[.slice A n c, .slice B m d, .bool s] ty)).alloc (.cells #[.int .i64 0, .int .i64 0] ty')) (.slice A n c) (.slice B m d) (.bool s) where
  c0 := by go_simp
  c1 := by go_simp
  c2 := by go_simp
  i0 := by go_simp
  i1 := by go_simp
  j0 := by go_simp
  j1 := by go_simp
  size := by simp
  below := below_alloc2 _ _ _

theorem BoxF.keep {w w1 w2 : World} {x y z : Value} (h : BoxF w w1 x y z) (hb : Below w1.heap.size w1 w2) : BoxF w w2 x y z :=
  have s := h.size
  have t := hb.size
  { c0 := keep_cell hb (by omega) h.c0, c1 := keep_cell hb (by omega) h.c1, c2 := keep_cell hb (by omega) h.c2
    i0 := keep_cell hb (by omega) h.i0, i1 := keep_cell hb (by omega) h.i1, j0 := keep_free hb (by omega) h.j0, j1 := keep_free hb (by omega) h.j1
    size := by omega, below := h.below.trans (hb.mono (by omega)) }

theorem Fresh.any (v : Value) : Fresh 0 v := fun _ _ => Nat.zero_le _

/-- What To answers. -/
def toV (N D : Nat) (m : Bool) : Value := .tuple #[ratV (fitN m (N / Nat.gcd N D) (D / Nat.gcd N D)) (fitD (N / Nat.gcd N D) (D / Nat.gcd N D)), .int .i64 (fitE (N / Nat.gcd N D) (D / Nat.gcd N D))]

set_option maxHeartbeats 4000000 in
theorem to_num (w : World) (B : Nat) (v : Value) (N D : Nat) (m : Bool) (h : FracAt w B v N D m) (hN : (bitsOf N).length ≤ 298) (hD : (bitsOf D).length ≤ 298) (hD0 : 0 < D) :
    Calls Tryd.prog 18 #[v] w fun e w' => e = .returned (toV N D m) ∧ Below w.heap.size w w' := by
  obtain ⟨vn, vd, rfl, hn, hd, _, _⟩ := h
  have hn' := hn
  have hd' := hd
  obtain ⟨A, c, rfl, _, _, _⟩ := hn'
  obtain ⟨E, d, rfl, _, _, _⟩ := hd'
  have BX := BoxF.start w A (bitsOf N).length c E (bitsOf D).length d m 52 25
  have hg0 : 0 < Nat.gcd N D := Nat.gcd_pos_of_pos_right _ hD0
  have hgl : (bitsOf (Nat.gcd N D)).length ≤ 298 := Nat.le_trans (len_le (Nat.le_of_dvd hD0 (Nat.gcd_dvd_right N D))) hD
  have hal : (bitsOf (N / Nat.gcd N D)).length ≤ 298 := Nat.le_trans (len_le (Nat.div_le_self _ _)) hN
  have hbl : (bitsOf (D / Nat.gcd N D)).length ≤ 298 := Nat.le_trans (len_le (Nat.div_le_self _ _)) hD
  have cm := fun (w1 : World) (hb : Below w.heap.size w w1) => common_num w1 _ _ N D (hn.below hb) (hd.below hb) hN hD 0 (Nat.zero_le _) (Fresh.any _) (Fresh.any _)
  have d1 := fun (w1 : World) (g : Value) (hb : Below w.heap.size w w1) (hg : NumAt w1 g (bitsOf (Nat.gcd N D))) => div_num w1 _ _ N (Nat.gcd N D) (hn.below hb) hg hN hgl hg0
  have d2 := fun (w1 : World) (g : Value) (hb : Below w.heap.size w w1) (hg : NumAt w1 g (bitsOf (Nat.gcd N D))) => div_num w1 _ _ D (Nat.gcd N D) (hd.below hb) hg hD hgl hg0
  have v1 := fun (w1 : World) (g : Value) (hg : NumAt w1 g (bitsOf (N / Nat.gcd N D))) => value_num w1 g _ hg hal
  have v2 := fun (w1 : World) (g : Value) (hg : NumAt w1 g (bitsOf (D / Nat.gcd N D))) => value_num w1 g _ hg hbl
  unfold toV
  generalize N / Nat.gcd N D = P at *
  generalize D / Nat.gcd N D = Q at *
  clear hn hd hN hD hD0 hg0 hgl hal hbl
  by_cases hP : P < 9223372036854775808
  · by_cases hQ : Q < 9223372036854775808
    · have e1 : valV P = .tuple #[.int .i64 P, .bool true] := if_pos hP
      have e2 : valV Q = .tuple #[.int .i64 Q, .bool true] := if_pos hQ
      have hPQ : P ≤ 9223372036854775807 ∧ Q ≤ 9223372036854775807 := ⟨by omega, by omega⟩
      have f1 : fitN m P Q = (if m then -(P : Int) else P) := if_pos hPQ
      have f2 : fitD P Q = Q := if_pos hPQ
      have f3 : fitE P Q = 0 := if_pos hPQ
      rw [e1] at v1
      rw [e2] at v2
      rw [f1, f2, f3]
      clear hPQ f1 f2 f3 e1 e2
      cases m
      · go_enter Tryd.func18, Tryd.ntmps18
        go_upto_region 1 with fail
        have k1 := cm _ BX.below
        obtain ⟨c0, c1, c2, i0, i1, j0, j1, _, _⟩ := id BX
        go_wp2_with (first
          | (go_at_call 28; (with_reducible refine k1.mono ?_); rintro e w1 ⟨g, rfl, hg, hb, _⟩; have BX := BX.keep hb; clear hb; obtain ⟨c0, c1, c2, i0, i1, j0, j1, _, _⟩ := id BX; have k2 := d1 w1 g BX.below hg)
          | (go_at_call 30; (with_reducible refine k2.mono ?_); rintro e w2 ⟨q1, r1, rfl, hq1, hr1, hb, _⟩; have BX := BX.keep hb; have hg := hg.below hb; clear k2; obtain ⟨c0, c1, c2, i0, i1, j0, j1, _, _⟩ := id BX; have k3 := d2 w2 g BX.below hg)
          | (go_at_call 30; (with_reducible refine k3.mono ?_); rintro e w3 ⟨q2, r2, rfl, hq2, hr2, hb, _⟩; have BX := BX.keep hb; have hq1 := hq1.below hb; clear k3; obtain ⟨c0, c1, c2, i0, i1, j0, j1, _, _⟩ := id BX; have k4 := v1 w3 q1 hq1; have k5 := v2 w3 q2 hq2)
          | (go_at_call 31; (with_reducible refine k4.mono ?_); rintro e w4 ⟨rfl, rfl⟩)
          | (go_at_call 31; (with_reducible refine k5.mono ?_); rintro e w4 ⟨rfl, rfl⟩))
        exact bodyPost_ret (v := .tuple #[ratV (P : Int) (Q : Int), .int .i64 0]) (by simp [results, Tryd.results18, go_sem, i0, i1]) rfl ⟨rfl, (BX.below.setCell (by show w.heap.size ≤ w.heap.size + 1; omega) _).setCell (by show w.heap.size ≤ w.heap.size + 1; omega) _⟩
      · go_enter Tryd.func18, Tryd.ntmps18
        go_upto_region 1 with fail
        have k1 := cm _ BX.below
        obtain ⟨c0, c1, c2, i0, i1, j0, j1, _, _⟩ := id BX
        go_wp2_with (first
          | (go_at_call 28; (with_reducible refine k1.mono ?_); rintro e w1 ⟨g, rfl, hg, hb, _⟩; have BX := BX.keep hb; clear hb; obtain ⟨c0, c1, c2, i0, i1, j0, j1, _, _⟩ := id BX; have k2 := d1 w1 g BX.below hg)
          | (go_at_call 30; (with_reducible refine k2.mono ?_); rintro e w2 ⟨q1, r1, rfl, hq1, hr1, hb, _⟩; have BX := BX.keep hb; have hg := hg.below hb; clear k2; obtain ⟨c0, c1, c2, i0, i1, j0, j1, _, _⟩ := id BX; have k3 := d2 w2 g BX.below hg)
          | (go_at_call 30; (with_reducible refine k3.mono ?_); rintro e w3 ⟨q2, r2, rfl, hq2, hr2, hb, _⟩; have BX := BX.keep hb; have hq1 := hq1.below hb; clear k3; obtain ⟨c0, c1, c2, i0, i1, j0, j1, _, _⟩ := id BX; have k4 := v1 w3 q1 hq1; have k5 := v2 w3 q2 hq2)
          | (go_at_call 31; (with_reducible refine k4.mono ?_); rintro e w4 ⟨rfl, rfl⟩)
          | (go_at_call 31; (with_reducible refine k5.mono ?_); rintro e w4 ⟨rfl, rfl⟩))
        exact bodyPost_ret (v := .tuple #[ratV (-(P : Int)) (Q : Int), .int .i64 0]) (by simp [results, Tryd.results18, go_sem, i0, i1]) rfl ⟨rfl, (BX.below.setCell (by show w.heap.size ≤ w.heap.size + 1; omega) _).setCell (by show w.heap.size ≤ w.heap.size + 1; omega) _⟩
    · have e1 : valV P = .tuple #[.int .i64 P, .bool true] := if_pos hP
      have e2 : valV Q = .tuple #[.int .i64 0, .bool false] := if_neg hQ
      have hPQ : ¬ (P ≤ 9223372036854775807 ∧ Q ≤ 9223372036854775807) := by omega
      have f1 : fitN m P Q = 0 := if_neg hPQ
      have f2 : fitD P Q = 0 := if_neg hPQ
      have f3 : fitE P Q = 3 := if_neg hPQ
      rw [e1] at v1
      rw [e2] at v2
      rw [f1, f2, f3]
      clear hPQ f1 f2 f3 e1 e2
      go_enter Tryd.func18, Tryd.ntmps18
      go_upto_region 1 with fail
      have k1 := cm _ BX.below
      obtain ⟨c0, c1, c2, i0, i1, j0, j1, _, _⟩ := id BX
      go_wp2_with (first
        | (go_at_call 28; (with_reducible refine k1.mono ?_); rintro e w1 ⟨g, rfl, hg, hb, _⟩; have BX := BX.keep hb; clear hb; obtain ⟨c0, c1, c2, i0, i1, j0, j1, _, _⟩ := id BX; have k2 := d1 w1 g BX.below hg)
        | (go_at_call 30; (with_reducible refine k2.mono ?_); rintro e w2 ⟨q1, r1, rfl, hq1, hr1, hb, _⟩; have BX := BX.keep hb; have hg := hg.below hb; clear k2; obtain ⟨c0, c1, c2, i0, i1, j0, j1, _, _⟩ := id BX; have k3 := d2 w2 g BX.below hg)
        | (go_at_call 30; (with_reducible refine k3.mono ?_); rintro e w3 ⟨q2, r2, rfl, hq2, hr2, hb, _⟩; have BX := BX.keep hb; have hq1 := hq1.below hb; clear k3; obtain ⟨c0, c1, c2, i0, i1, j0, j1, _, _⟩ := id BX; have k4 := v1 w3 q1 hq1; have k5 := v2 w3 q2 hq2)
        | (go_at_call 31; (with_reducible refine k4.mono ?_); rintro e w4 ⟨rfl, rfl⟩)
        | (go_at_call 31; (with_reducible refine k5.mono ?_); rintro e w4 ⟨rfl, rfl⟩))
      exact bodyPost_ret (v := .tuple #[ratV 0 0, .int .i64 3]) (by simp [results, Tryd.results18, go_sem, i0, i1]) rfl ⟨rfl, (BX.below.setCell (by show w.heap.size ≤ w.heap.size + 1; omega) _).setCell (by show w.heap.size ≤ w.heap.size + 1; omega) _⟩
  · have e1 : valV P = .tuple #[.int .i64 0, .bool false] := if_neg hP
    obtain ⟨nq, bq, e2⟩ : ∃ (n : Int) (b : Bool), valV Q = .tuple #[.int .i64 n, .bool b] := by
      unfold valV
      split
      · exact ⟨_, _, rfl⟩
      · exact ⟨_, _, rfl⟩
    have hPQ : ¬ (P ≤ 9223372036854775807 ∧ Q ≤ 9223372036854775807) := by omega
    have f1 : fitN m P Q = 0 := if_neg hPQ
    have f2 : fitD P Q = 0 := if_neg hPQ
    have f3 : fitE P Q = 3 := if_neg hPQ
    rw [e1] at v1
    rw [e2] at v2
    rw [f1, f2, f3]
    clear hPQ f1 f2 f3 e1 e2
    go_enter Tryd.func18, Tryd.ntmps18
    go_upto_region 1 with fail
    have k1 := cm _ BX.below
    obtain ⟨c0, c1, c2, i0, i1, j0, j1, _, _⟩ := id BX
    go_wp2_with (first
      | (go_at_call 28; (with_reducible refine k1.mono ?_); rintro e w1 ⟨g, rfl, hg, hb, _⟩; have BX := BX.keep hb; clear hb; obtain ⟨c0, c1, c2, i0, i1, j0, j1, _, _⟩ := id BX; have k2 := d1 w1 g BX.below hg)
      | (go_at_call 30; (with_reducible refine k2.mono ?_); rintro e w2 ⟨q1, r1, rfl, hq1, hr1, hb, _⟩; have BX := BX.keep hb; have hg := hg.below hb; clear k2; obtain ⟨c0, c1, c2, i0, i1, j0, j1, _, _⟩ := id BX; have k3 := d2 w2 g BX.below hg)
      | (go_at_call 30; (with_reducible refine k3.mono ?_); rintro e w3 ⟨q2, r2, rfl, hq2, hr2, hb, _⟩; have BX := BX.keep hb; have hq1 := hq1.below hb; clear k3; obtain ⟨c0, c1, c2, i0, i1, j0, j1, _, _⟩ := id BX; have k4 := v1 w3 q1 hq1; have k5 := v2 w3 q2 hq2)
      | (go_at_call 31; (with_reducible refine k4.mono ?_); rintro e w4 ⟨rfl, rfl⟩)
      | (go_at_call 31; (with_reducible refine k5.mono ?_); rintro e w4 ⟨rfl, rfl⟩))
    exact bodyPost_ret (v := .tuple #[ratV 0 0, .int .i64 3]) (by simp [results, Tryd.results18, go_sem, i0, i1]) rfl ⟨rfl, (BX.below.setCell (by show w.heap.size ≤ w.heap.size + 1; omega) _).setCell (by show w.heap.size ≤ w.heap.size + 1; omega) _⟩
end Go.Proofs.YthlogaenbnhobaaDoor
