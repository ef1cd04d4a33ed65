/-
  What stands in memory in the reference's Solve: a row of terms, rows of numbers. (Template: by-name.py fills it.)
-/
import Derived.Test.YtocmhidkfjahcaaJGauZ
import Derived.Test.YtocmhidkfjahcaaJG
namespace Go.Proofs.Ytocmhidkfjahcaa
open Go.RowKit

abbrev IRow := Value × List Int
def rowS (vl : Value) (R : List IRow) (b : Nat) : Prop := vl.ownBlock = some b ∨ ∃ x ∈ R, x.1.ownBlock = some b
def Afar (x y : IRow) : Prop := ∀ b, x.1.ownBlock = some b → y.1.ownBlock ≠ some b
theorem Afar.symm {x y : IRow} (h : Afar x y) : Afar y x := fun b hb q => h b q hb

structure RowsS (W w : World) (vl : Value) (l : List Trm) (R : List IRow) : Prop where
  l : OwnT w W.heap.size vl l (rowS vl R)
  r : ∀ x ∈ R, w.ownsRow W.heap.size 3 1 x.1 x.2.length (intV x.2)
  lr : ∀ x ∈ R, ∀ b, vl.ownBlock = some b → x.1.ownBlock ≠ some b
  rr : R.Pairwise Afar
  below : Below W.heap.size W w

section
variable {W w w' : World} {vl vl' v' : Value} {l : List Trm} {R A B : List IRow} {x : IRow} {l' : List Int}
theorem kept_row {y : IRow} {row : Option Nat} (h : w.ownsRow W.heap.size 3 1 y.1 y.2.length (intV y.2)) (hg : w.grownBy w' row) (hn : ∀ b, row = some b → y.1.ownBlock ≠ some b) : w'.ownsRow W.heap.size 3 1 y.1 y.2.length (intV y.2) := by
  refine h.kept hg ?_
  cases q : row with
  | none => cases hv : y.1.ownBlock <;> simp
  | some b => exact .inr (hn b q)
theorem RowsS.keep (h : RowsS W w vl l R) (hb : Below w.heap.size w w') : RowsS W w' vl l R :=
  ⟨h.l.below hb, fun y hy => kept_row (h.r y hy) (grown_of_below hb none) fun b q => (by cases q), h.lr, h.rr, h.below.trans (hb.mono h.below.size)⟩
theorem RowsS.lt (h : RowsS W w vl l R) : ∀ b, rowS vl R b → W.heap.size ≤ b ∧ b < w.heap.size := by
  intro b hb
  rcases hb with g | ⟨y, hy, g⟩
  · exact h.l.lt b g
  · exact (h.r y hy).lt b g
/-- A row of numbers is written, or grows. -/
theorem RowsS.row (h : RowsS W w vl l (A ++ x :: B)) (hown : w'.ownsRow W.heap.size 3 1 v' l'.length (intV l')) (hg : w.grownBy w' x.1.ownBlock) (hv : v'.ownBlock = x.1.ownBlock ∨ v'.ownBlock = some w.heap.size) : RowsS W w' vl l (A ++ (v', l') :: B) := by
  obtain ⟨pA, pB, pAB⟩ := List.pairwise_append.1 h.rr
  obtain ⟨pxB, pB⟩ := List.pairwise_cons.1 pB
  have hx : x ∈ A ++ x :: B := by simp
  have old : ∀ y, y ∈ A ∨ y ∈ B → y ∈ A ++ x :: B ∧ Afar x y := fun y hy => by
    rcases hy with q | q
    · exact ⟨by simp [q], (pAB y q x (by simp)).symm⟩
    · exact ⟨by simp [q], pxB y q⟩
  have split : ∀ y, y ∈ A ++ (v', l') :: B → y = (v', l') ∨ (y ∈ A ∨ y ∈ B) := fun y hy => by
    rcases List.mem_append.1 hy with q | q
    · exact .inr (.inl q)
    · rcases List.mem_cons.1 q with q | q
      · exact .inl q
      · exact .inr (.inr q)
  have lw := h.lt
  have ap : ∀ y, y ∈ A ++ x :: B → Afar x y → Afar (v', l') y := fun y hy hxy b hb => by
    rcases hv with e | e
    · exact hxy b (e ▸ hb)
    · have hb : v'.ownBlock = some b := hb
      rw [e] at hb
      injection hb with hb
      intro q
      have := (lw b (.inr ⟨y, hy, q⟩)).2
      omega
  have hs3 : ∀ b, rowS vl (A ++ (v', l') :: B) b → rowS vl (A ++ x :: B) b ∨ w.heap.size ≤ b := by
    intro b hb
    rcases hb with g | ⟨y, hy, g⟩
    · exact .inl (.inl g)
    · rcases split y hy with q | q
      · subst q
        rcases hv with e | e
        · exact .inl (.inr ⟨x, hx, e ▸ g⟩)
        · have g : v'.ownBlock = some b := g
          rw [e] at g
          injection g with g
          exact .inr (by omega)
      · exact .inl (.inr ⟨y, (old y q).1, g⟩)
  have l0 : OwnT w W.heap.size vl l (fun b => rowS vl (A ++ x :: B) b ∨ rowS vl (A ++ (v', l') :: B) b) := h.l.mono fun b hb => hb.elim .inl (hs3 b)
  refine ⟨(l0.other hg fun b hb => ⟨.inl (.inr ⟨x, hx, hb⟩), fun q => h.lr x hx b q hb⟩).mono fun b hb => .inl (.inr hb), fun y hy => ?_, fun y hy b hb => ?_, ?_, h.below.grown hg h.below.size fun k hk => ((h.r x hx).lt k hk).1⟩
  · rcases split y hy with q | q
    · subst q
      exact hown
    · exact kept_row (h.r y (old y q).1) hg fun b hb => (old y q).2 b hb
  · rcases split y hy with q | q
    · subst q
      rcases hv with e | e
      · show v'.ownBlock ≠ some b
        rw [e]
        exact h.lr x hx b hb
      · show v'.ownBlock ≠ some b
        rw [e]
        intro q
        injection q with q
        have := (lw b (.inl hb)).2
        omega
    · exact h.lr y (old y q).1 b hb
  · refine List.pairwise_append.2 ⟨pA, List.pairwise_cons.2 ⟨fun y hy => ap y (old y (.inr hy)).1 (old y (.inr hy)).2, pB⟩, fun y hy z hz => ?_⟩
    rcases List.mem_cons.1 hz with q | q
    · subst q
      exact (ap y (old y (.inl hy)).1 (old y (.inl hy)).2).symm
    · exact pAB y hy z (by simp [q])
/-- Another row of terms. -/
theorem RowsS.take {us : List Trm} (h : RowsS W w vl l R) (o : OwnT w' w.heap.size vl' us (fun b => vl'.ownBlock = some b ∨ rowS vl R b)) (hb : Below w.heap.size w w') : RowsS W w' vl' us R := by
  have h' := h.keep hb
  refine ⟨(o.base h.below.size).mono fun b q => .inl ?_, h'.r, fun x hx b q e => ?_, h.rr, h'.below⟩
  · rcases q with q | q
    · exact .inl q
    · exact .inr (.inr q)
  · have a := (o.lt b q).1
    have c := (h.lt b (.inr ⟨x, hx, e⟩)).2
    omega
/-- One more term. -/
theorem RowsS.push {vt : Value} {t : Trm} {rs : List (Value × Trm)} (h : RowsS W w vl l R) (h1 : rs.map (·.2) = l) (h3 : ∀ x ∈ rs, RatsAt w x.1 x.2.1 ∧ Off (rowS vl R) x.1 x.2.1)
    (hown : w'.ownsRow W.heap.size 39 3 vl' (l.length + 1) (termCells rs ++ [vt, .int .i64 t.2.1, .int .i64 t.2.2])) (hg : w.grownBy w' vl.ownBlock) (hv : vl'.ownBlock = vl.ownBlock ∨ vl'.ownBlock = some w.heap.size) (hr : RatsAt w vt t.1) (ho : Off (rowS vl R) vt t.1) : RowsS W w' vl' (l ++ [t]) R := by
  have lw := h.lt
  have hs3 : ∀ b, rowS vl' R b → rowS vl R b ∨ w.heap.size ≤ b := by
    intro b hb
    rcases hb with g | g
    · rcases hv with e | e
      · exact .inl (.inl (e ▸ g))
      · rw [e] at g
        injection g with g
        exact .inr (by omega)
    · exact .inl (.inr g)
  refine ⟨OwnT.appended h1 h3 hown hg (fun b hb => .inl hb) hr ho hs3, fun y hy => kept_row (h.r y hy) hg fun b hb => h.lr y hy b hb, fun y hy b hb => ?_, h.rr, h.below.grown hg h.below.size fun k hk => (h.l.lt k hk).1⟩
  rcases hv with e | e
  · exact h.lr y hy b (e ▸ hb)
  · rw [e] at hb
    injection hb with hb
    intro q
    have := (lw b (.inr ⟨y, hy, q⟩)).2
    omega
/-- A number of a row. -/
theorem RowsS.at_ (h : RowsS W w vl l R) (hx : x ∈ R) {i : Nat} {z : Int} (hz : x.2[i]? = some z) : ∃ g cap, x.1 = .slice (some ⟨g, 0, none⟩) x.2.length cap ∧ W.heap.size ≤ g ∧ w.cell? ⟨g, i, none⟩ = some (.int .i64 z) ∧ w.frozen? ⟨g, i, none⟩ = false := by
  obtain ⟨v, is⟩ := x
  have h0 := h.r _ hx
  dsimp only at h0 hz ⊢
  have hl := get_lt hz
  rcases h0.2 with ⟨_, q⟩ | ⟨g, cap, cur, rfl, hb, _⟩
  · omega
  · refine ⟨g, cap, rfl, hb, ?_, h0.frozenAt _⟩
    rw [h0.cellAt _ (by omega), intV, List.getElem?_map, hz]
    rfl
/-- A number is stored. -/
theorem RowsS.stored {g n cap i : Nat} {is : List Int} {z : Int} (h : RowsS W w vl l (A ++ (.slice (some ⟨g, 0, none⟩) n cap, is) :: B)) (hn : n = is.length) : RowsS W (w.setCell ⟨g, i, none⟩ (.int .i64 z)) vl l (A ++ (.slice (some ⟨g, 0, none⟩) n cap, is.set i z) :: B) := by
  have h0 := h.r (.slice (some ⟨g, 0, none⟩) n cap, is) (by simp)
  dsimp only at h0
  subst hn
  obtain ⟨a, b⟩ := h0.stored i (.int .i64 z)
  refine h.row ?_ b (.inl rfl)
  rw [List.length_set, intV, List.map_set]
  exact a
theorem rows_start (w : World) : RowsS w w (.slice none 0 0) [] [(.slice none 0 0, [])] :=
  ⟨OwnT.nil _ _ _, fun y hy => by rw [List.mem_singleton] at hy; subst hy; exact World.ownsRow_nil _ _ _ _, fun y _ b hb => (by cases hb), List.pairwise_singleton _ _, Below.refl _ _⟩
theorem RowsS.more (h : RowsS W w vl l R) : RowsS W w vl l (R ++ [(.slice none 0 0, [])]) := by
  refine ⟨h.l.mono fun b hb => .inl ?_, fun y hy => ?_, fun y hy b hb => ?_, ?_, h.below⟩
  · rcases hb with q | ⟨y, hy, q⟩
    · exact .inl q
    · rcases List.mem_append.1 hy with g | g
      · exact .inr ⟨y, g, q⟩
      · rw [List.mem_singleton] at g
        subst g
        cases q
  · rcases List.mem_append.1 hy with g | g
    · exact h.r y g
    · rw [List.mem_singleton] at g
      subst g
      exact World.ownsRow_nil _ _ _ _
  · rcases List.mem_append.1 hy with g | g
    · exact h.lr y g b hb
    · rw [List.mem_singleton] at g
      subst g
      intro q
      cases q
  · refine List.pairwise_append.2 ⟨h.rr, List.pairwise_singleton _ _, fun y _ z hz b _ q => ?_⟩
    rw [List.mem_singleton] at hz
    subst hz
    cases q
end
end Go.Proofs.Ytocmhidkfjahcaa
