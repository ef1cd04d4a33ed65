/-
  How a law over terms is opened: a term as an argument. (Template: by-name.py fills it.)
-/
import Derived.Test.YtkgndeiddjkhmaaDoorTermL
import Derived.Test.YtkgndeiddjkhmaaDoorRatK
import Derived.Deep.SlicePairs
import Derived.Carry
namespace Go.Proofs.YtkgndeiddjkhmaaDoor
open Go.RowKit Go.WideShapes Go.ChangeShapes Go.ChangeAt Go.Joins Go.Deep

theorem ratCells_inv : ∀ (l : List (Int × Int)) (j : Nat) (u : Value), (ratCells l)[j]? = some u → ∃ i x, l[i]? = some x ∧ ((j = i * 2 ∧ u = .int .i64 x.1) ∨ (j = i * 2 + 1 ∧ u = .int .i64 x.2))
  | [], j, u, h => by simp [ratCells] at h
  | y :: r, 0, u, h => ⟨0, y, rfl, .inl ⟨rfl, by simpa [ratCells] using h.symm⟩⟩
  | y :: r, 1, u, h => ⟨0, y, rfl, .inr ⟨rfl, by simpa [ratCells] using h.symm⟩⟩
  | y :: r, j + 2, u, h => by
    obtain ⟨i, x, hx, hc⟩ := ratCells_inv r j u (by simpa [ratCells] using h)
    refine ⟨i + 1, x, by simpa using hx, ?_⟩
    rcases hc with ⟨rfl, rfl⟩ | ⟨rfl, rfl⟩
    · exact .inl ⟨by omega, rfl⟩
    · exact .inr ⟨by omega, rfl⟩

section
variable {H : Type} {enc : TypeId × Value → H} {w : World} {base : Nat} {spare : Nat → Bool} {held : Bool}

/-- A slice of fractions that reads as data is a row of fractions. -/
theorem open_rats {fuel : Nat} {c0 : Value} {x : DataW H × List MemPlace} (h : DataW.trod enc Tryd.prog w base spare held fuel 22 [c0] = some x) : ∃ l, RatsAt w c0 l ∧ Wide l := by
  rcases open_slice_pairs Tryd.underlying22 Tryd.underlying24 Tryd.cellsRat rfl rfl (by kernel_rfl) (by kernel_rfl) h with ⟨hc, _⟩ | ⟨a, len, cap, m, n, V0, V1, D0, D1, P0, P1, hc, hb, hl, hm, hmm, _, hi⟩
  · obtain rfl : c0 = .slice none 0 0 := by simpa using hc
    exact ⟨[], RatsAt.nil w, fun x hx => by cases hx⟩
  · obtain rfl : c0 = .slice (some a) len cap := by simpa using hc
    have hlm : len ≤ m := by rw [hmm]; split <;> omega
    have each : ∀ i, i < len → ∃ q : Int × Int, (w.cell? (a.add (i * 2)) = some (.int .i64 q.1) ∧ w.cell? (a.add (i * 2 + 1)) = some (.int .i64 q.2)) ∧ (-9223372036854775808 ≤ q.1 ∧ q.1 ≤ 9223372036854775807) ∧ (-9223372036854775808 ≤ q.2 ∧ q.2 ≤ 9223372036854775807) := by
      intro i hil
      obtain ⟨c0, c1, t0, t1⟩ := hi i (by omega)
      obtain ⟨n0, e0, _, w0⟩ := DataW.trod_int Tryd.underlying2 t0
      obtain ⟨n1, e1, _, w1⟩ := DataW.trod_int Tryd.underlying2 t1
      simp only [List.cons.injEq, and_true] at e0 e1
      rw [e0] at c0
      rw [e1] at c1
      exact ⟨(n0, n1), ⟨c0, c1⟩, wf_i64 w0, wf_i64 w1⟩
    obtain ⟨q, hq⟩ := choose_lt each
    have hlen : ((List.range len).map q).length = len := by simp
    refine ⟨(List.range len).map q, ⟨some a, cap, by rw [hlen], by rw [hlen]; exact hl, hm, ?_⟩, fun x hx => ?_⟩
    · rw [hlen]
      refine ⟨by rw [ratCells_length, hlen], fun hn => ⟨a, rfl, ?_, fun j u hu => ?_⟩⟩
      · have := World.block_lt_of_cell? _ _ (hq 0 hn).1.1
        rwa [block_of_add] at this
      · obtain ⟨i, x, hx, hc⟩ := ratCells_inv _ j u hu
        rw [List.getElem?_map] at hx
        have hil : i < len := by
          rcases Nat.lt_or_ge i len with g | g
          · exact g
          · rw [List.getElem?_eq_none (by simpa using g)] at hx; cases hx
        rw [List.getElem?_range hil] at hx
        obtain rfl : q i = x := by simpa using hx
        rcases hc with ⟨rfl, rfl⟩ | ⟨rfl, rfl⟩
        · exact (hq i hil).1.1
        · exact (hq i hil).1.2
    · obtain ⟨i, hil, rfl⟩ := List.mem_map.1 hx
      exact (hq i (List.mem_range.1 hil)).2

set_option maxRecDepth 10000 in
/-- A term among the arguments. -/
theorem open_term {b0 : Nat} {r : Reach} {v : Value} {d : DataW H} {p : List MemPlace} (hv : Value.okWide Tryd.prog w r b0 26 v) (h : DataW.Trod enc Tryd.prog w base spare held 26 v d p) :
    ∃ s l kn kd, v = .agg #[s, .int .i64 kn, .int .i64 kd] ∧ RatsAt w s l ∧ Wide l ∧ (-9223372036854775808 ≤ kn ∧ kn ≤ 9223372036854775807) ∧ (-9223372036854775808 ≤ kd ∧ kd ≤ 9223372036854775807) := by
  obtain ⟨⟨cs⟩, rfl, hsz⟩ := okWide_struct Tryd.underlying26 hv
  have hC : Tryd.prog.cellsOf 26 = 3 := by kernel_rfl
  have hA : Tryd.prog.cellsOf 22 = 1 := by kernel_rfl
  match cs, hsz.trans hC with
  | [c0, c1, c2], _ =>
    obtain ⟨fuel, hf⟩ := h
    obtain ⟨xs, n, _, _, _, hlen, hg⟩ := DataW.trod_struct Tryd.underlying26 hf
    match xs, hlen with
    | [y0, y1], _ =>
      have g0 := hg 0 _ rfl
      have g1 := hg 1 _ rfl
      simp [hA, Tryd.cellsRat, Value.cells] at g0 g1
      obtain ⟨l, hl, hw⟩ := open_rats g0
      obtain ⟨ys, n', _, _, _, hlen', hg'⟩ := DataW.trod_struct Tryd.underlying24 g1
      match ys, hlen' with
      | [z0, z1], _ =>
        have hI : Tryd.prog.cellsOf 2 = 1 := by kernel_rfl
        have k0 := hg' 0 _ rfl
        have k1 := hg' 1 _ rfl
        simp [hI] at k0 k1
        obtain ⟨n0, e0, _, w0⟩ := DataW.trod_int Tryd.underlying2 k0
        obtain ⟨n1, e1, _, w1⟩ := DataW.trod_int Tryd.underlying2 k1
        simp only [List.cons.injEq, and_true] at e0 e1
        subst e0 e1
        exact ⟨c0, l, n0, n1, rfl, hl, hw, wf_i64 w0, wf_i64 w1⟩
end
end Go.Proofs.YtkgndeiddjkhmaaDoor
