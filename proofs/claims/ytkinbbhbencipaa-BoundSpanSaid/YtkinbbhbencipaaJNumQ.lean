/-
  The walks of the reference's New, digits and Show. (Template: by-name.py fills it.)
-/
import Derived.Test.YtkinbbhbencipaaJB
import Derived.Test.YtkinbbhbencipaaJRatShow
import Derived.Laws.IdiomStrings
namespace Go.Proofs.Ytkinbbhbencipaa
open Go.RowKit

theorem len_298 {n : Nat} (h : n ≤ 9223372036854775808) : (bitsOf n).length ≤ 298 := Nat.le_trans (len_64 (Nat.lt_of_le_of_lt h (by decide))) (by decide)

/-- The one block of New. -/
structure HoleAt (w w1 : World) : Prop where
  i0 : w1.cell? ⟨w.heap.size, 0, none⟩ = some (.int .i64 0)
  i1 : w1.cell? ⟨w.heap.size, 1, none⟩ = some (.int .i64 0)
  j0 : w1.frozen? ⟨w.heap.size, 0, none⟩ = false
  j1 : w1.frozen? ⟨w.heap.size, 1, none⟩ = false
  lt : w.heap.size < w1.heap.size
  below : Below w.heap.size w w1

theorem HoleAt.start (w : World) (ty : TypeId) : HoleAt w (w.alloc (.cells #[.int .i64 0, .int .i64 0] ty)) where
  i0 := by go_simp
  i1 := by go_simp
  j0 := by go_simp
  j1 := by go_simp
  lt := by simp
  below := below_alloc1 _ _

theorem HoleAt.keep {w w1 w2 : World} (h : HoleAt w w1) (hb : Below w1.heap.size w1 w2) : HoleAt w w2 :=
  have z := hb.size
  have l := h.lt
  { i0 := keep_cell hb l h.i0, i1 := keep_cell hb l h.i1, j0 := keep_free hb l h.j0, j1 := keep_free hb l h.j1, lt := by omega, below := h.below.trans (hb.mono h.below.size) }

set_option maxHeartbeats 2000000 in
theorem rnew_any (n d : Int) (w : World) (h1 : -9223372036854775808 ≤ n) (h2 : n ≤ 9223372036854775807) (h3 : -9223372036854775808 ≤ d) (h4 : d ≤ 9223372036854775807) (h : d ≠ 0) :
    Calls Try.prog 12 #[.int .i64 n, .int .i64 d] w fun r w' => r = .returned (toV n.natAbs d.natAbs (decide (n < 0) != decide (d < 0))) ∧ Below w.heap.size w w' := by
  have s1 := Lib.hid (fun w => rsize_any n w h1 h2)
  have s2 := Lib.hid (fun w => rsize_any d w h3 h4)
  obtain ⟨Sg, hSg⟩ : ∃ s, decide (n < 0) = s := ⟨_, rfl⟩
  obtain ⟨Tg, hTg⟩ : ∃ s, decide (d < 0) = s := ⟨_, rfl⟩
  have hd0 : (d == 0) = false := by simpa using h
  have tt := fun (w' : World) (B : Nat) (v : Value) (k : FracAt w' B v n.natAbs d.natAbs (Sg != Tg)) => to_num w' B v _ _ (Sg != Tg) k (len_298 (by omega)) (len_298 (by omega)) (by omega)
  obtain ⟨p1, p2, p3, hV⟩ : ∃ p1 p2 p3, toV n.natAbs d.natAbs (Sg != Tg) = .tuple #[ratV p1 p2, .int .i64 p3] := ⟨_, _, _, rfl⟩
  rw [hV] at tt
  rw [hSg, hTg, hV]
  have TO := Lib.hid tt
  clear tt hV h1 h2 h3 h4 h
  have B := HoleAt.start w 25
  go_enter Try.func12, Try.ntmps12
  go_wp2_with (first
    | (go_at_call 29; (with_reducible refine (s1.out _).mono ?_); rintro e wa ⟨va, rfl, hva, hba, _⟩; obtain ⟨A1, e1, rfl, hr1⟩ := id hva; clear hr1; have HVA := Lib.hid hva; clear hva; have B := B.keep hba)
    | (go_at_call 29; (with_reducible refine (s2.out _).mono ?_); rintro e wb ⟨vb, rfl, hvb, hbb, _⟩; obtain ⟨A2, e2, rfl, hr2⟩ := id hvb; clear hr2; have HVB := Lib.hid hvb; clear hvb; have B := B.keep hbb)
    | (go_at_call 28; (refine (TO.out _ 0 _ ⟨_, _, rfl, HVA.out.below hbb, HVB.out, Fresh.any _, Fresh.any _⟩).mono ?_); rintro e wf ⟨rfl, hbf⟩; have B := B.keep hbf; obtain ⟨i0, i1, j0, j1, lt, _⟩ := id B))
  exact bodyPost_ret (v := .tuple #[ratV p1 p2, .int .i64 p3]) (by simp [results, Try.results12, go_sem, i0, i1]) rfl ⟨rfl, (B.below.setCell (Nat.le_refl _) _).setCell (Nat.le_refl _) _⟩

set_option maxHeartbeats 400000 in
theorem rnew_nought (n : Int) (w : World) :
    Calls Try.prog 12 #[.int .i64 n, .int .i64 0] w fun r w' => r = .returned (.tuple #[ratV 0 0, .int .i64 2]) ∧ Below w.heap.size w w' := by
  go_enter Try.func12, Try.ntmps12
  go_wp2_with fail
  exact bodyPost_ret (v := .tuple #[ratV 0 0, .int .i64 2]) (by simp [results, Try.results12, go_sem]) rfl ⟨rfl, below_alloc1 _ _⟩

theorem nat_digit (k : Nat) (h : k < 10) : (UInt8.ofNat (48 + k)).toNat = 48 + k := by
  rw [UInt8.toNat_ofNat']
  omega


theorem dec_short (u : Nat) (h : u ≤ 9223372036854775807) : (Lib.decDigits u).length ≤ 19 := by
  have := dec_len u 18 (by omega)
  omega




end Go.Proofs.Ytkinbbhbencipaa
