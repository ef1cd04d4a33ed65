/-
  A protocol among the arguments, nothing of it too long for a machine. (Template: by-name.py fills it.)
-/
import Derived.Test.YtgfenklcelfkiaaAutW
import Derived.Test.YtgfenklcelfkiaaOpens
import Derived.OpenShut
import Derived.ChangeSlices
import Derived.SliceStrings
import Derived.Deep.Slices
import Derived.SizedLaws
namespace Go.Proofs.Ytgfenklcelfkiaa
open Go.RowKit Go.ChangeShapes Go.WideShapes Go.ChangeAt Go.Joins Go.Deep

theorem weights_all {H : Type} {P : Program} {e : TypeId} : ∀ {ds : List (DataW H)} {d : DataW H}, d ∈ ds → ∀ n ∈ d.weights P e, n ∈ DataW.weightsAll P e ds
  | d0 :: ds, d, hd, n, hn => by
    simp only [DataW.weightsAll, List.mem_append]
    rcases List.mem_cons.mp hd with rfl | hd
    · exact .inl hn
    · exact .inr (weights_all hd n hn)
theorem rowC_inv {α : Type} {f : α → List Value} {m : Nat} (hf : ∀ x, (f x).length = m) : ∀ (l : List α) (j : Nat) (u : Value), (rowC f l)[j]? = some u → ∃ i x r, l[i]? = some x ∧ r < m ∧ j = i * m + r ∧ (f x)[r]? = some u
  | [], j, u, h => by simp [rowC] at h
  | y :: l, j, u, h => by
    rw [rowC] at h
    by_cases q : j < m
    · rw [List.getElem?_append_left (by rw [hf]; exact q)] at h
      exact ⟨0, y, j, rfl, q, by omega, h⟩
    · rw [List.getElem?_append_right (by rw [hf]; omega), hf] at h
      obtain ⟨i, x, r, h1, h2, h3, h4⟩ := rowC_inv hf l (j - m) u h
      exact ⟨i + 1, x, r, h1, h2, by rw [Nat.add_mul]; omega, h4⟩
theorem ex_lt {α : Type} [Inhabited α] {n : Nat} {p : Nat → α → Prop} (h : ∀ i, i < n → ∃ a, p i a) : ∃ f : Nat → α, ∀ i, i < n → p i (f i) :=
  ⟨fun i => if q : i < n then Classical.choose (h i q) else default, fun i q => by dsimp only; rw [dif_pos q]; exact Classical.choose_spec (h i q)⟩
section
variable {H : Type} {enc : TypeId × Value → H} {P : Program} {w : World} {base : Nat} {spare : Nat → Bool} {held : Bool} {α : Type} [Inhabited α]
/-- A slice of structs among the arguments. -/
theorem open_sl {m bb : Nat} {f : α → List Value} {R : World → α → Prop} {Sz : α → Prop} {t e : TypeId} {fuel : Nat} {c : Value} {x : DataW H × List MemPlace} (hf : ∀ x, (f x).length = m) (hm0 : 0 < m) (ht : P.underlying t = some (.slice e)) (hC : P.cellsOf e = m) (hB : P.bytesOf e = bb)
    (each : ∀ (fuel : Nat) (cs : List Value) (x : DataW H × List MemPlace), cs.length = m → DataW.trod enc P w base spare held fuel e cs = some x → ∃ q : α, cs = f q ∧ R w q ∧ ((∀ n ∈ x.1.weights P e, n ≤ reachBytes) → Sz q))
    (h : DataW.trod enc P w base spare held fuel t [c] = some x) : ∃ l : List α, SlAt m f R w c l ∧ ((∀ n ∈ x.1.weights P t, n ≤ reachBytes) → l.length * bb ≤ reachBytes ∧ ∀ q ∈ l, Sz q) := by
  rcases open_slice ht h with ⟨hc, rfl⟩ | ⟨ad, len, cap, m', n, D, Pl, hc, hb, hl, hm, hmm, hx, hi⟩
  · obtain rfl : c = .slice none 0 0 := by simpa using hc
    exact ⟨[], SlAt.nil m f R w, fun _ => ⟨by simp, fun q hq => by cases hq⟩⟩
  · obtain rfl : c = .slice (some ad) len cap := by simpa using hc
    have hlm : len ≤ m' := by rw [hmm]; split <;> omega
    rw [hC] at hi
    have hd : x.1 = .slice ((List.range len).map D) ((List.range (m' - len)).map fun j => D (len + j)) := by rw [hx]
    have ea : ∀ i, i < len → ∃ q : α, (∀ r u, (f q)[r]? = some u → w.cell? (ad.add (i * m + r)) = some u) ∧ R w q ∧ ((∀ n ∈ (D i).weights P e, n ≤ reachBytes) → Sz q) := by
      intro i hil
      obtain ⟨cs', h1, h2⟩ := hi i (by omega)
      obtain ⟨_, hcl, hat⟩ := World.cells?_some h1
      obtain ⟨q, e1, hr, hw⟩ := each _ _ _ hcl h2
      subst e1
      refine ⟨q, fun r u hu => ?_, hr, hw⟩
      have hr2 := (List.getElem?_eq_some_iff.1 hu).1
      rw [hf] at hr2
      have g := hat r hr2
      rw [add_of_add] at g
      rw [g, ← hu]
    obtain ⟨q, hq⟩ := ex_lt ea
    have hlen : ((List.range len).map q).length = len := by simp
    refine ⟨(List.range len).map q, ⟨some ad, cap, by rw [hlen], by rw [hlen]; exact hl, hm, ?_, fun y hy => ?_⟩, fun hw => ⟨?_, fun y hy => ?_⟩⟩
    · rw [hlen]
      refine ⟨by rw [rowC_length hf, hlen], fun hn => ⟨ad, rfl, ?_, fun j u hu => ?_⟩⟩
      · have h0 := (hq 0 hn).1 0 ((f (q 0))[0]'(by rw [hf]; exact hm0)) (List.getElem?_eq_getElem _)
        have := World.block_lt_of_cell? _ _ h0
        rwa [block_of_add] at this
      · obtain ⟨i, y, r, h1, h2, h3, h4⟩ := rowC_inv hf _ j u hu
        rw [List.getElem?_map] at h1
        have hil : i < len := by
          rcases Nat.lt_or_ge i len with g | g
          · exact g
          · rw [List.getElem?_eq_none (by simpa using g)] at h1; cases h1
        rw [List.getElem?_range hil] at h1
        obtain rfl : q i = y := by simpa using h1
        rw [h3]
        exact (hq i hil).1 r u h4
    · obtain ⟨i, hil, rfl⟩ := List.mem_map.1 hy
      exact (hq i (List.mem_range.1 hil)).2.1
    · have := hw ((((List.range len).map D).length + ((List.range (m' - len)).map fun j => D (len + j)).length) * P.bytesOf e) (by rw [hd]; simp [DataW.weights, ht])
      rw [hB, List.length_map, List.length_range, Nat.add_mul] at this
      rw [hlen]
      omega
    · obtain ⟨i, hil, rfl⟩ := List.mem_map.1 hy
      refine (hq i (List.mem_range.1 hil)).2.2 fun n hn => hw n ?_
      rw [hd]
      simp only [DataW.weights, ht, List.mem_cons, List.mem_append]
      exact .inr (.inl (weights_all (List.mem_map.mpr ⟨i, hil, rfl⟩) n hn))
end
instance : Inhabited Ou := ⟨⟨[], 0⟩⟩
instance : Inhabited Sta := ⟨⟨[], false⟩⟩
instance : Inhabited (Value × Mov) := ⟨(undef, ⟨[], 0, []⟩)⟩
section
variable {H : Type} {enc : TypeId × Value → H} {w : World} {base : Nat} {spare : Nat → Bool} {held : Bool}
set_option maxRecDepth 10000 in
theorem open_oucells {fuel : Nat} {cs : List Value} {x : DataW H × List MemPlace} (hl : cs.length = 2) (h : DataW.trod enc Try.prog w base spare held fuel 69 cs = some x) :
    ∃ q : Ou, cs = ouC q ∧ q.name.length ≤ maxLen ∧ ((∀ n ∈ x.1.weights Try.prog 69, n ≤ reachBytes) → q.name.length ≤ reachBytes) := by
  have hC : Try.prog.cellsOf 3 = 1 := by kernel_rfl
  have hC3 : Try.prog.cellsOf 9 = 1 := by kernel_rfl
  match cs, hl with
  | [c0, c1], _ =>
    obtain ⟨xs, n, _, rfl, _, hlen, hg⟩ := DataW.trod_struct Try.underlying69 h
    match xs, hlen with
    | [y0, y1], _ =>
      have g0 := hg 0 _ rfl
      have g1 := hg 1 _ rfl
      simp [hC, hC3] at g0 g1
      obtain ⟨s, e0, f0, hs⟩ := DataW.trod_string Try.underlying9 g0
      obtain ⟨n1, e1, _, _⟩ := DataW.trod_int Try.underlying3 g1
      simp only [List.cons.injEq, and_true] at e0 e1
      subst e0 e1
      refine ⟨⟨s.data.toList, n1⟩, by cases s; rfl, by rw [Array.length_toList]; exact hs, fun hw => ?_⟩
      simp only [DataW.weights, Try.underlying69, List.map_cons, List.map_nil] at hw
      exact hw _ (DataW.weights_mem_each (j := 0) rfl rfl _ (by rw [f0]; simp [DataW.weights]))
set_option maxRecDepth 10000 in
theorem open_stcells {fuel : Nat} {cs : List Value} {x : DataW H × List MemPlace} (hl : cs.length = 2) (h : DataW.trod enc Try.prog w base spare held fuel 53 cs = some x) :
    ∃ q : Sta, cs = stC q ∧ q.name.length ≤ maxLen ∧ ((∀ n ∈ x.1.weights Try.prog 53, n ≤ reachBytes) → q.name.length ≤ reachBytes) := by
  have hC : Try.prog.cellsOf 4 = 1 := by kernel_rfl
  have hC3 : Try.prog.cellsOf 9 = 1 := by kernel_rfl
  match cs, hl with
  | [c0, c1], _ =>
    obtain ⟨xs, n, _, rfl, _, hlen, hg⟩ := DataW.trod_struct Try.underlying53 h
    match xs, hlen with
    | [y0, y1], _ =>
      have g0 := hg 0 _ rfl
      have g1 := hg 1 _ rfl
      simp [hC, hC3] at g0 g1
      obtain ⟨s, e0, f0, hs⟩ := DataW.trod_string Try.underlying9 g0
      obtain ⟨n1, e1, _⟩ := DataW.trod_bool Try.underlying4 g1
      simp only [List.cons.injEq, and_true] at e0 e1
      subst e0 e1
      refine ⟨⟨s.data.toList, n1⟩, by cases s; rfl, by rw [Array.length_toList]; exact hs, fun hw => ?_⟩
      simp only [DataW.weights, Try.underlying53, List.map_cons, List.map_nil] at hw
      exact hw _ (DataW.weights_mem_each (j := 0) rfl rfl _ (by rw [f0]; simp [DataW.weights]))
set_option maxRecDepth 10000 in
theorem open_mvcells {fuel : Nat} {cs : List Value} {x : DataW H × List MemPlace} (hl : cs.length = 3) (h : DataW.trod enc Try.prog w base spare held fuel 43 cs = some x) :
    ∃ q : Value × Mov, cs = mvC q ∧ (q.2.op.length ≤ maxLen ∧ OutsAt w q.1 q.2.outs) ∧ ((∀ n ∈ x.1.weights Try.prog 43, n ≤ reachBytes) → q.2.op.length ≤ reachBytes ∧ q.2.outs.length ≤ reachBytes ∧ ∀ o ∈ q.2.outs, o.name.length ≤ reachBytes) := by
  have hC : Try.prog.cellsOf 3 = 1 := by kernel_rfl
  have hC2 : Try.prog.cellsOf 41 = 1 := by kernel_rfl
  have hC3 : Try.prog.cellsOf 9 = 1 := by kernel_rfl
  have hC4 : Try.prog.cellsOf 69 = 2 := by kernel_rfl
  have hB4 : Try.prog.bytesOf 69 = 24 := by kernel_rfl
  match cs, hl with
  | [c0, c1, c2], _ =>
    obtain ⟨xs, n, _, rfl, _, hlen, hg⟩ := DataW.trod_struct Try.underlying43 h
    match xs, hlen with
    | [y0, y1, y2], _ =>
      have g0 := hg 0 _ rfl
      have g1 := hg 1 _ rfl
      have g2 := hg 2 _ rfl
      simp [hC, hC2, hC3] at g0 g1 g2
      obtain ⟨s, e0, f0, hs⟩ := DataW.trod_string Try.underlying9 g0
      obtain ⟨n1, e1, _, _⟩ := DataW.trod_int Try.underlying3 g1
      obtain ⟨l, hS, hW⟩ := open_sl (α := Ou) (m := 2) (bb := 24) (f := ouC) (R := fun _ x => x.name.length ≤ maxLen) (Sz := fun x => x.name.length ≤ reachBytes) ouC_len (by omega) Try.underlying41 hC4 hB4 (fun fuel cs x h1 h2 => open_oucells h1 h2) g2
      simp only [List.cons.injEq, and_true] at e0 e1
      subst e0 e1
      refine ⟨(c2, ⟨s.data.toList, n1, l⟩), by cases s; rfl, ⟨by rw [Array.length_toList]; exact hs, hS⟩, fun hw => ?_⟩
      simp only [DataW.weights, Try.underlying43, List.map_cons, List.map_nil] at hw
      obtain ⟨a, b⟩ := hW fun m hm => hw m (DataW.weights_mem_each (j := 2) rfl rfl m hm)
      exact ⟨hw _ (DataW.weights_mem_each (j := 0) rfl rfl _ (by rw [f0]; simp [DataW.weights])), by dsimp only; omega, b⟩
/-- What the form's own reach says of a protocol. -/
structure RchP (p : Pro) : Prop where
  name : p.name.length ≤ reachBytes
  st : p.states.length ≤ reachBytes
  mv : p.moves.length ≤ reachBytes
  out : ∀ m ∈ p.moves, m.outs.length ≤ reachBytes
  ns : ∀ s ∈ p.states, s.name.length ≤ reachBytes
  no : ∀ m ∈ p.moves, m.op.length ≤ reachBytes ∧ ∀ o ∈ m.outs, o.name.length ≤ reachBytes
theorem RchP.cnt {p : Pro} (h : RchP p) : CntP p := by
  have r : reachBytes = 140737488351232 := rfl
  exact ⟨by have := h.st; omega, by have := h.mv; omega, fun m hm => by have := h.out m hm; omega⟩
theorem le_sum : ∀ (l : List Mov) (m : Mov), m ∈ l → m.outs.length ≤ (l.map (·.outs.length)).sum
  | x :: r, m, hm => by
    rw [List.map_cons, List.sum_cons]
    rcases List.mem_cons.1 hm with rfl | hm
    · omega
    · have := le_sum r m hm; omega
theorem RchP.sz {p : Pro} (h : RchP p) (hs : sizeP p ≤ 80) : SzP p := by
  have r : reachBytes = 140737488351232 := rfl
  unfold sizeP at hs
  exact ⟨by have := h.name; omega, by omega, by omega, fun m hm => by have := le_sum p.moves m hm; omega, fun s hs => by have := h.ns s hs; omega, fun m hm => ⟨by have := (h.no m hm).1; omega, fun o ho => by have := (h.no m hm).2 o ho; omega⟩⟩
set_option maxRecDepth 10000 in
theorem open_proto {b0 : Nat} {r : Reach} {v : Value} {d : DataW H} {pl : List MemPlace} (hv : Value.okWide Try.prog w r b0 25 v) (h : DataW.Trod enc Try.prog w base spare held 25 v d pl) :
    ∃ (vs vm : Value) (p : Pro), v = proV vs vm p ∧ ProAt w vs vm p ∧ ((∀ n ∈ d.weights Try.prog 25, n ≤ reachBytes) → RchP p) := by
  obtain ⟨⟨cs⟩, rfl, hsz⟩ := okWide_struct Try.underlying25 hv
  have hC : Try.prog.cellsOf 25 = 3 := by kernel_rfl
  have hC1 : Try.prog.cellsOf 22 = 1 := by kernel_rfl
  have hC2 : Try.prog.cellsOf 23 = 1 := by kernel_rfl
  have hC3 : Try.prog.cellsOf 9 = 1 := by kernel_rfl
  have hC4 : Try.prog.cellsOf 53 = 2 := by kernel_rfl
  have hB4 : Try.prog.bytesOf 53 = 24 := by kernel_rfl
  have hC5 : Try.prog.cellsOf 43 = 3 := by kernel_rfl
  have hB5 : Try.prog.bytesOf 43 = 48 := by kernel_rfl
  obtain ⟨fuel, hf⟩ := h
  have hf2 : DataW.trod enc Try.prog w base spare held fuel 25 cs = some (d, pl) := by simpa [Value.cells] using hf
  have hl : cs.length = 3 := by simpa using hsz.trans hC
  match cs, hl with
  | [c0, c1, c2], _ =>
    obtain ⟨xs, n, _, hx, _, hlen, hg⟩ := DataW.trod_struct Try.underlying25 hf2
    have hd := (Prod.mk.inj hx).1
    match xs, hlen with
    | [y0, y1, y2], _ =>
      have g0 := hg 0 _ rfl
      have g1 := hg 1 _ rfl
      have g2 := hg 2 _ rfl
      simp [hC1, hC2, hC3] at g0 g1 g2
      obtain ⟨s, e0, f0, hs⟩ := DataW.trod_string Try.underlying9 g0
      obtain ⟨ls, hS, hW1⟩ := open_sl (α := Sta) (m := 2) (bb := 24) (f := stC) (R := fun _ x => x.name.length ≤ maxLen) (Sz := fun x => x.name.length ≤ reachBytes) stC_len (by omega) Try.underlying22 hC4 hB4 (fun fuel cs x h1 h2 => open_stcells h1 h2) g1
      obtain ⟨lm, hM, hW2⟩ := open_sl (α := Value × Mov) (m := 3) (bb := 48) (f := mvC) (R := fun w x => x.2.op.length ≤ maxLen ∧ OutsAt w x.1 x.2.outs) (Sz := fun q => q.2.op.length ≤ reachBytes ∧ q.2.outs.length ≤ reachBytes ∧ ∀ o ∈ q.2.outs, o.name.length ≤ reachBytes) mvC_len (by omega) Try.underlying23 hC5 hB5 (fun fuel cs x h1 h2 => open_mvcells h1 h2) g2
      simp only [List.cons.injEq, and_true] at e0
      subst e0
      refine ⟨c1, c2, ⟨s.data.toList, ls, lm.map (·.2)⟩, by cases s; rfl, ⟨by rw [Array.length_toList]; exact hs, hS, ⟨lm, rfl, hM⟩⟩, fun hw => ?_⟩
      rw [hd] at hw
      simp only [DataW.weights, Try.underlying25, List.map_cons, List.map_nil] at hw
      obtain ⟨a1, b1⟩ := hW1 fun m hm => hw m (DataW.weights_mem_each (j := 1) rfl rfl m hm)
      obtain ⟨a2, b2⟩ := hW2 fun m hm => hw m (DataW.weights_mem_each (j := 2) rfl rfl m hm)
      refine ⟨hw _ (DataW.weights_mem_each (j := 0) rfl rfl _ (by rw [f0]; simp [DataW.weights])), by dsimp only; omega, by rw [List.length_map]; omega, ?_, b1, ?_⟩
      · intro m hm
        obtain ⟨q, hq, rfl⟩ := List.mem_map.1 hm
        exact (b2 q hq).2.1
      · intro m hm
        obtain ⟨q, hq, rfl⟩ := List.mem_map.1 hm
        exact ⟨(b2 q hq).1, (b2 q hq).2.2⟩
end
end Go.Proofs.Ytgfenklcelfkiaa
