/-
  A slice of nodes among the arguments, none of its slices too long for a machine. (Template: by-name.py fills it.)
-/
import Derived.Test.YthihdddlneclmaaDoorKF
import Derived.Test.YthihdddlneclmaaDoorOpens
import Derived.OpenShut
import Derived.ChangeSlices
import Derived.SliceStrings
import Derived.Deep.Slices
import Derived.SizedLaws
namespace Go.Proofs.YthihdddlneclmaaDoor
open Go.RowKit Go.ChangeShapes Go.WideShapes Go.ChangeAt Go.Joins Go.Deep

theorem weights_all {H : Type} {P : Program} {e : TypeId} : ∀ {ds : List (DataW H)} {d : DataW H}, d ∈ ds → ∀ n ∈ d.weights P e, n ∈ DataW.weightsAll P e ds
  | d0 :: ds, d, hd, n, hn => by
    simp only [DataW.weightsAll, List.mem_append]
    rcases List.mem_cons.mp hd with rfl | hd
    · exact .inl hn
    · exact .inr (weights_all hd n hn)
theorem nodeCells_inv : ∀ (l : List (NdV × Nd)) (j : Nat) (u : Value), (nodeCells l)[j]? = some u → ∃ i x, l[i]? = some x ∧ ((j = i * 5 ∧ u = .int .i64 x.2.kind) ∨ (j = i * 5 + 1 ∧ u = x.1.1) ∨ (j = i * 5 + 2 ∧ u = x.1.2.1) ∨ (j = i * 5 + 3 ∧ u = x.1.2.2) ∨ (j = i * 5 + 4 ∧ u = .int .i64 x.2.pos))
  | [], j, u, h => by simp [nodeCells] at h
  | y :: r, 0, u, h => ⟨0, y, rfl, .inl ⟨rfl, by simpa [nodeCells] using h.symm⟩⟩
  | y :: r, 1, u, h => ⟨0, y, rfl, .inr (.inl ⟨rfl, by simpa [nodeCells] using h.symm⟩)⟩
  | y :: r, 2, u, h => ⟨0, y, rfl, .inr (.inr (.inl ⟨rfl, by simpa [nodeCells] using h.symm⟩))⟩
  | y :: r, 3, u, h => ⟨0, y, rfl, .inr (.inr (.inr (.inl ⟨rfl, by simpa [nodeCells] using h.symm⟩)))⟩
  | y :: r, 4, u, h => ⟨0, y, rfl, .inr (.inr (.inr (.inr ⟨rfl, by simpa [nodeCells] using h.symm⟩)))⟩
  | y :: r, j + 5, u, h => by
    obtain ⟨i, x, hx, hc⟩ := nodeCells_inv r j u (by simpa [nodeCells] using h)
    refine ⟨i + 1, x, by simpa using hx, ?_⟩
    rcases hc with ⟨a, b⟩ | ⟨a, b⟩ | ⟨a, b⟩ | ⟨a, b⟩ | ⟨a, b⟩
    · exact .inl ⟨by omega, b⟩
    · exact .inr (.inl ⟨by omega, b⟩)
    · exact .inr (.inr (.inl ⟨by omega, b⟩))
    · exact .inr (.inr (.inr (.inl ⟨by omega, b⟩)))
    · exact .inr (.inr (.inr (.inr ⟨by omega, b⟩)))
section
variable {H : Type} {enc : TypeId × Value → H} {P : Program} {w : World} {base : Nat} {spare : Nat → Bool} {held : Bool}
theorem open_intsL {t e : TypeId} {fuel : Nat} {c : Value} {x : DataW H × List MemPlace} (ht : P.underlying t = some (.slice e)) (he : P.underlying e = some (.int .i64)) (hc : P.cellsOf e = 1) (hb : P.bytesOf e = 8) (h : DataW.trod enc P w base spare held fuel t [c] = some x) :
    ∃ l, IntsL w c l ∧ ((∀ n ∈ x.1.weights P t, n ≤ reachBytes) → l.length * 8 ≤ reachBytes) := by
  rcases open_ints ht he hc h with ⟨e1, rfl⟩ | ⟨a, len, cap, zs, e1, _, hl, hm, hz, rfl, hat, _⟩
  · obtain rfl : c = .slice none 0 0 := by simpa using e1
    exact ⟨[], IntsL.nil w, fun _ => by simp⟩
  · obtain rfl : c = .slice (some a) len cap := by simpa using e1
    have hlz : len ≤ zs.length := by rw [hz]; split <;> omega
    have hlen : (zs.take len).length = len := by rw [List.length_take]; omega
    refine ⟨zs.take len, ⟨some a, cap, by rw [hlen], by rw [hlen]; exact hl, hm, ?_⟩, fun hw => ?_⟩
    · rw [hlen]
      refine ⟨by rw [List.length_map, hlen, Nat.mul_one], fun hn => ⟨a, rfl, ?_, fun j u hu => ?_⟩⟩
      · have := World.block_lt_of_cell? _ _ (hat 0 (by omega))
        rwa [block_of_add] at this
      · rw [List.getElem?_map] at hu
        cases hq : (zs.take len)[j]? with
        | none => rw [hq] at hu; cases hu
        | some y =>
          rw [hq] at hu
          obtain rfl : Value.int .i64 y = u := by simpa using hu
          have hj : j < len := by
            have := (List.getElem?_eq_some_iff.mp hq).1
            omega
          rw [List.getElem?_take_of_lt hj] at hq
          rw [hat j (by omega), List.getD_eq_getElem?_getD, hq]
          rfl
    · have := hw ((lits (H := H) IntKind.i64 (zs.take len)).length * 8 + (lits (H := H) IntKind.i64 (zs.drop len)).length * 8) (by
        simp only [DataW.weights, ht, hb, List.mem_cons]
        exact .inl (by rw [Nat.add_mul]))
      simp only [lits, List.length_map] at this
      omega
theorem open_strsL {t e : TypeId} {fuel : Nat} {c : Value} {x : DataW H × List MemPlace} (ht : P.underlying t = some (.slice e)) (he : P.underlying e = some .string) (hc : P.cellsOf e = 1) (hb : P.bytesOf e = 16) (h : DataW.trod enc P w base spare held fuel t [c] = some x) :
    ∃ l, StrsL w c l ∧ ((∀ n ∈ x.1.weights P t, n ≤ reachBytes) → l.length * 16 ≤ reachBytes) := by
  rcases open_strings ht he hc h with ⟨e1, rfl⟩ | ⟨a, len, cap, ss, e1, _, hl, hm, hz, rfl, hat, hsz⟩
  · obtain rfl : c = .slice none 0 0 := by simpa using e1
    exact ⟨[], StrsL.nil w, fun _ => by simp⟩
  · obtain rfl : c = .slice (some a) len cap := by simpa using e1
    have hlz : len ≤ ss.length := by rw [hz]; split <;> omega
    have hlen : ((ss.take len).map fun s => s.data.toList).length = len := by rw [List.length_map, List.length_take]; omega
    refine ⟨(ss.take len).map fun s => s.data.toList, ⟨some a, cap, by rw [hlen], by rw [hlen]; exact hl, hm, ?_, fun s hs => ?_⟩, fun hw => ?_⟩
    · rw [hlen]
      refine ⟨by rw [List.length_map, hlen, Nat.mul_one], fun hn => ⟨a, rfl, ?_, fun j u hu => ?_⟩⟩
      · have := World.block_lt_of_cell? _ _ (hat 0 (by omega))
        rwa [block_of_add] at this
      · rw [List.getElem?_map, List.getElem?_map] at hu
        cases hq : (ss.take len)[j]? with
        | none => rw [hq] at hu; cases hu
        | some y =>
          rw [hq] at hu
          obtain rfl : txt y.data.toList = u := by simpa using hu
          have hj : j < len := by
            have := (List.getElem?_eq_some_iff.mp hq).1
            rw [List.length_take] at this
            omega
          rw [List.getElem?_take_of_lt hj] at hq
          rw [hat j (by omega), List.getD_eq_getElem?_getD, hq]
          cases y
          rfl
    · obtain ⟨s', hs', rfl⟩ := List.mem_map.1 hs
      have := hsz s' (List.mem_of_mem_take hs')
      show s'.data.toList.length ≤ maxLen
      rw [Array.length_toList]
      exact this
    · have := hw ((strs (H := H) (ss.take len)).length * 16 + (strs (H := H) (ss.drop len)).length * 16) (by
        simp only [DataW.weights, ht, hb, List.mem_cons]
        exact .inl (by rw [Nat.add_mul]))
      simp only [strs, List.length_map, List.length_take] at this
      rw [hlen]
      omega
end
section
variable {H : Type} {enc : TypeId × Value → H} {w : World} {base : Nat} {spare : Nat → Bool} {held : Bool}
set_option maxRecDepth 10000 in
/-- Five cells that read as a node. -/
theorem open_ncells {fuel : Nat} {cs : List Value} {x : DataW H × List MemPlace} (hl : cs.length = 5) (h : DataW.trod enc Tryd.prog w base spare held fuel 30 cs = some x) :
    ∃ q : NdV × Nd, cs = [.int .i64 q.2.kind, q.1.1, q.1.2.1, q.1.2.2, .int .i64 q.2.pos] ∧ NdAt w q ∧ ((∀ n ∈ x.1.weights Tryd.prog 30, n ≤ reachBytes) → q.2.words.length * 16 ≤ reachBytes ∧ q.2.nums.length * 8 ≤ reachBytes ∧ q.2.kids.length * 8 ≤ reachBytes) := by
  have hC : Tryd.prog.cellsOf 3 = 1 := by kernel_rfl
  have hC2 : Tryd.prog.cellsOf 2 = 1 := by kernel_rfl
  have hC3 : Tryd.prog.cellsOf 9 = 1 := by kernel_rfl
  have hD1 : Tryd.prog.cellsOf 26 = 1 := by kernel_rfl
  have hD2 : Tryd.prog.cellsOf 28 = 1 := by kernel_rfl
  have hD3 : Tryd.prog.cellsOf 27 = 1 := by kernel_rfl
  have hB : Tryd.prog.bytesOf 3 = 8 := by kernel_rfl
  have hB2 : Tryd.prog.bytesOf 2 = 8 := by kernel_rfl
  have hB3 : Tryd.prog.bytesOf 9 = 16 := by kernel_rfl
  match cs, hl with
  | [c0, c1, c2, c3, c4], _ =>
    obtain ⟨xs, n, _, rfl, _, hlen, hg⟩ := DataW.trod_struct Tryd.underlying30 h
    match xs, hlen with
    | [y0, y1, y2, y3, y4], _ =>
      have g0 := hg 0 _ rfl
      have g1 := hg 1 _ rfl
      have g2 := hg 2 _ rfl
      have g3 := hg 3 _ rfl
      have g4 := hg 4 _ rfl
      simp [hC, hD1, hD2, hD3] at g0 g1 g2 g3 g4
      obtain ⟨n0, e0, _, w0⟩ := DataW.trod_int Tryd.underlying3 g0
      obtain ⟨n4, e4, _, w4⟩ := DataW.trod_int Tryd.underlying3 g4
      obtain ⟨l1, s1, b1⟩ := open_strsL Tryd.underlying27 Tryd.underlying9 hC3 hB3 g1
      obtain ⟨l2, s2, b2⟩ := open_intsL Tryd.underlying28 Tryd.underlying2 hC2 hB2 g2
      obtain ⟨l3, s3, b3⟩ := open_intsL Tryd.underlying26 Tryd.underlying3 hC hB g3
      simp only [List.cons.injEq, and_true] at e0 e4
      subst e0 e4
      refine ⟨((c1, c2, c3), ⟨n0, l1, l2, l3, n4⟩), rfl, ⟨s1, s2, s3⟩, fun hw => ?_⟩
      simp only [DataW.weights, Tryd.underlying30, List.map_cons, List.map_nil] at hw
      exact ⟨b1 fun m hm => hw m (DataW.weights_mem_each (j := 1) rfl rfl m hm), b2 fun m hm => hw m (DataW.weights_mem_each (j := 2) rfl rfl m hm), b3 fun m hm => hw m (DataW.weights_mem_each (j := 3) rfl rfl m hm)⟩
theorem ex_lt {α : Type} [Inhabited α] {n : Nat} {p : Nat → α → Prop} (h : ∀ i, i < n → ∃ a, p i a) : ∃ f : Nat → α, ∀ i, i < n → p i (f i) :=
  ⟨fun i => if q : i < n then Classical.choose (h i q) else default, fun i q => by dsimp only; rw [dif_pos q]; exact Classical.choose_spec (h i q)⟩
instance : Inhabited (NdV × Nd) := ⟨((undef, undef, undef), nd0)⟩
set_option maxRecDepth 10000 in
/-- A slice of nodes among the arguments. -/
theorem open_nodes {b0 : Nat} {r : Reach} {v : Value} {d : DataW H} {p : List MemPlace} (hv : Value.okWide Tryd.prog w r b0 22 v) (h : DataW.Trod enc Tryd.prog w base spare held 22 v d p) : ∃ ns, NodesAt w v ns ∧ ((∀ n ∈ d.weights Tryd.prog 22, n ≤ reachBytes) → SizedN ns) := by
  obtain ⟨a, len, cap, rfl⟩ := okWide_slice Tryd.underlying22 hv
  obtain ⟨fuel, hf⟩ := h
  have hC : Tryd.prog.cellsOf 30 = 5 := by kernel_rfl
  rcases open_slice Tryd.underlying22 (by simpa [Value.cells] using hf) with ⟨hc, _⟩ | ⟨ad, len', cap', m, n, D, Pl, hc, hb, hl, hm, hmm, hx, hi⟩
  · obtain ⟨rfl, rfl, rfl⟩ : a = none ∧ len = 0 ∧ cap = 0 := by simpa using hc
    exact ⟨[], NodesAt.nil w, fun _ x hx => by cases hx⟩
  · obtain ⟨rfl, rfl, rfl⟩ : a = some ad ∧ len = len' ∧ cap = cap' := by simpa using hc
    have hlm : len ≤ m := by rw [hmm]; split <;> omega
    rw [hC] at hi
    have hd : d = .slice ((List.range len).map D) ((List.range (m - len)).map fun j => D (len + j)) := (Prod.mk.inj hx).1
    have each : ∀ i, i < len → ∃ q : NdV × Nd, (w.cell? (ad.add (i * 5)) = some (.int .i64 q.2.kind) ∧ w.cell? (ad.add (i * 5 + 1)) = some q.1.1 ∧ w.cell? (ad.add (i * 5 + 2)) = some q.1.2.1 ∧ w.cell? (ad.add (i * 5 + 3)) = some q.1.2.2 ∧ w.cell? (ad.add (i * 5 + 4)) = some (.int .i64 q.2.pos)) ∧ NdAt w q ∧ ((∀ n ∈ (D i).weights Tryd.prog 30, n ≤ reachBytes) → q.2.words.length * 16 ≤ reachBytes ∧ q.2.nums.length * 8 ≤ reachBytes ∧ q.2.kids.length * 8 ≤ reachBytes) := by
      intro i hil
      obtain ⟨cs', h1, h2⟩ := hi i (by omega)
      obtain ⟨_, hcl, hat⟩ := World.cells?_some h1
      obtain ⟨q, e, hr, hw⟩ := open_ncells hcl h2
      subst e
      have g0 := hat 0 (by omega)
      have g1 := hat 1 (by omega)
      have g2 := hat 2 (by omega)
      have g3 := hat 3 (by omega)
      have g4 := hat 4 (by omega)
      rw [add_of_add] at g0 g1 g2 g3 g4
      exact ⟨q, ⟨g0, g1, g2, g3, g4⟩, hr, hw⟩
    obtain ⟨q, hq⟩ := ex_lt each
    have hlen : ((List.range len).map fun i => (q i).2).length = len := by simp
    refine ⟨(List.range len).map fun i => (q i).2, ⟨some ad, cap, (List.range len).map q, by rw [hlen], by rw [hlen]; exact hl, hm, by rw [List.map_map]; rfl, ?_, fun x hx => ?_⟩, fun hw t ht => ?_⟩
    · rw [hlen]
      refine ⟨by rw [nodeCells_length, List.length_map, List.length_range], fun hn => ⟨ad, rfl, ?_, fun j u hu => ?_⟩⟩
      · have := World.block_lt_of_cell? _ _ (hq 0 hn).1.1
        rwa [block_of_add] at this
      · obtain ⟨i, x, hx, hc⟩ := nodeCells_inv _ j u hu
        rw [List.getElem?_map] at hx
        have hil : i < len := by
          rcases Nat.lt_or_ge i len with g | g
          · exact g
          · rw [List.getElem?_eq_none (by simpa using g)] at hx; cases hx
        rw [List.getElem?_range hil] at hx
        obtain rfl : q i = x := by simpa using hx
        rcases hc with ⟨rfl, rfl⟩ | ⟨rfl, rfl⟩ | ⟨rfl, rfl⟩ | ⟨rfl, rfl⟩ | ⟨rfl, rfl⟩
        · exact (hq i hil).1.1
        · exact (hq i hil).1.2.1
        · exact (hq i hil).1.2.2.1
        · exact (hq i hil).1.2.2.2.1
        · exact (hq i hil).1.2.2.2.2
    · obtain ⟨i, hil, rfl⟩ := List.mem_map.1 hx
      exact (hq i (List.mem_range.1 hil)).2.1
    · obtain ⟨i, hil, rfl⟩ := List.mem_map.1 ht
      have := (hq i (List.mem_range.1 hil)).2.2 (fun n hn => hw n (by
        rw [hd]
        simp only [DataW.weights, Tryd.underlying22, List.mem_cons, List.mem_append]
        exact .inr (.inl (weights_all (List.mem_map.mpr ⟨i, hil, rfl⟩) n hn))))
      have hr : reachBytes = 140737488351232 := rfl
      omega
end
end Go.Proofs.YthihdddlneclmaaDoor
