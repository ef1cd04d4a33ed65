/-
  The walk of package auto's copiedOuts. (Template: by-name.py fills it.)
-/
import Derived.Test.YtgfenklcelfkiaaAutL
namespace Go.Proofs.Ytgfenklcelfkiaa
open Go.RowKit

theorem ouC_one {l : List Ou} : ∀ u ∈ rowC ouC l, u.oneCell' = true := by
  induction l with
  | nil => intro u hu; cases hu
  | cons x r ih =>
    intro u hu
    rw [rowC, List.mem_append] at hu
    rcases hu with hu | hu
    · unfold ouC at hu
      simp only [List.mem_cons, List.not_mem_nil, or_false] at hu
      rcases hu with rfl | rfl <;> rfl
    · exact ih u hu
theorem stC_one {l : List Sta} : ∀ u ∈ rowC stC l, u.oneCell' = true := by
  induction l with
  | nil => intro u hu; cases hu
  | cons x r ih =>
    intro u hu
    rw [rowC, List.mem_append] at hu
    rcases hu with hu | hu
    · unfold stC at hu
      simp only [List.mem_cons, List.not_mem_nil, or_false] at hu
      rcases hu with rfl | rfl <;> rfl
    · exact ih u hu
theorem set_same {α : Type} {l : List α} {i : Nat} {x : α} (h : l[i]? = some x) : l.set i x = l := by
  obtain ⟨hi, e⟩ := List.getElem?_eq_some_iff.1 h
  rw [← e]
  exact List.set_getElem_self hi
theorem rowC_out {os : List Ou} {r : Nat} {x : Ou} (h : os[r]? = some x) : (rowC ouC os)[r * 2]? = some (txt x.name) ∧ (rowC ouC os)[r * 2 + 1]? = some (.int .i64 x.to) :=
  ⟨(rowC_at ouC_len os r 0 x h (by omega)).trans rfl, (rowC_at ouC_len os r 1 x h (by omega)).trans rfl⟩
theorem rowC_state {os : List Sta} {r : Nat} {x : Sta} (h : os[r]? = some x) : (rowC stC os)[r * 2]? = some (txt x.name) ∧ (rowC stC os)[r * 2 + 1]? = some (.bool x.final) :=
  ⟨(rowC_at stC_len os r 0 x h (by omega)).trans rfl, (rowC_at stC_len os r 1 x h (by omega)).trans rfl⟩
theorem rowC_move {os : List (Value × Mov)} {r : Nat} {x : Value × Mov} (h : os[r]? = some x) : (rowC mvC os)[r * 3]? = some (txt x.2.op) ∧ (rowC mvC os)[r * 3 + 1]? = some (.int .i64 x.2.at_) ∧ (rowC mvC os)[r * 3 + 2]? = some x.1 :=
  ⟨(rowC_at mvC_len os r 0 x h (by omega)).trans rfl, (rowC_at mvC_len os r 1 x h (by omega)).trans rfl, (rowC_at mvC_len os r 2 x h (by omega)).trans rfl⟩
/-- Outcomes in memory of the call's own. -/
def OutsOwn (w : World) (B : Nat) (v : Value) (os : List Ou) : Prop := w.ownsRow B 69 2 v os.length (rowC ouC os)
theorem OutsOwn.outs {w : World} {B : Nat} {v : Value} {os : List Ou} (h : OutsOwn w B v os) (hs : ∀ o ∈ os, o.name.length ≤ maxLen) : OutsAt w v os := by
  obtain ⟨A, c, rfl⟩ := own_shape h
  obtain ⟨a, b, d⟩ := reads_own h
  exact ⟨A, c, rfl, a, b, d, hs⟩
set_option maxHeartbeats 4000000 in
theorem copiedOuts_any (w : World) (v : Value) (os : List Ou) (h : OutsAt w v os) (hl : os.length ≤ 80) (hs : ∀ o ∈ os, o.name.length ≤ 281474976710656) :
    Calls Try.prog 39 #[v] w fun e w' => ∃ A c, e = .returned (.slice A os.length c) ∧ OutsOwn w' w.heap.size (.slice A os.length c) os ∧ Below w.heap.size w w' := by
  obtain ⟨A, c, rfl, h1, h2, h3, h4⟩ := h
  have CL := Lib.hid (tclone_Out w A os.length c _ h3 ouC_one (Nat.le_trans h1 h2) (by omega))
  have HS := Lib.hid (And.intro hl hs)
  clear h1 h2 h3 h4 hl hs
  go_enter Try.func39, Try.ntmps39
  go_wp2_with (go_at_call 54; (with_reducible refine CL.out.mono ?_); rintro e w1 ⟨A1, c1, rfl, ho, hb⟩; have H1 := Lib.hid (And.intro ho hb); clear ho hb)
  go_loopg [10] os.length (fun g v10 wr => ∃ r : Nat, v10 = .int .i64 r ∧ r ≤ os.length ∧ g = os.length - r ∧ OutsOwn wr w.heap.size (.slice A1 os.length c1) os ∧ Below w.heap.size w wr)
  case atStart => exact ⟨0, rfl, Nat.zero_le _, rfl, H1.out.1, H1.out.2⟩
  case round =>
    obtain ⟨r, rfl, hr, hg, ho, hb⟩ := hrel
    by_cases hrn : r = os.length
    · have FIN := Lib.hid (And.intro ho hb)
      have i1 : decide (r < os.length) = false := decide_eq_false (by omega)
      clear hr hg hrn ho hb
      go_wp2_with fail
      go_ret
      exact ⟨_, _, rfl, FIN.out⟩
    · have hlt : r < os.length := by omega
      obtain ⟨x, hx⟩ : ∃ x, os[r]? = some x := ⟨_, List.getElem?_eq_getElem hlt⟩
      obtain ⟨g, cp, e3, hgb, _⟩ := World.ownsRow.form ho (by omega)
      injection e3 with e3 _ e4
      subst e3 e4
      obtain ⟨q0, q1⟩ := rowC_out hx
      have d0 := (World.ownsRow.cellAt ho (r * 2) (by omega)).trans q0
      have d1 := (World.ownsRow.cellAt ho (r * 2 + 1) (by omega)).trans q1
      have f0 := World.ownsRow.frozenAt ho (r * 2)
      have i1 : (r : Int) < (os.length : Int) := by omega
      have i2 : (0 : Int) ≤ (r : Int) := by omega
      have wk : IntKind.i64.wrap ((r : Int) + 1) = (r : Int) + 1 := IntWalk.i64_in _ (by have := HS.out.1; omega)
      have SC := Lib.hid (fun (wr : World) => sclone_any x.name wr (HS.out.2 x (List.mem_of_getElem? hx)))
      have HK := Lib.hid (And.intro hlt (And.intro hg (And.intro ho (And.intro hb (And.intro q0 hgb)))))
      clear hrn hlt hr hg hx ho hb q0 q1 hgb
      go_wp2_with (go_at_call 47; (with_reducible refine (SC.out _).mono ?_); rintro e w2 ⟨rfl, hb2⟩; have a3 := (below_alloc1 wr _).trans (hb2.mono (below_alloc1 wr _).size); have O2 := ownRow_below HK.out.2.2.1 a3; have f2 := World.ownsRow.frozenAt O2 (r * 2); have d2 := (World.ownsRow.cellAt O2 (r * 2) (by have := HK.out.1; omega)).trans HK.out.2.2.2.2.1; have H2 := Lib.hid (And.intro O2 a3); clear O2 a3 hb2)
      go_roundg (os.length - (r + 1))
      case measure => have := HK.out.1; have := HK.out.2.1; omega
      case rel =>
        refine ⟨r + 1, by push_cast; rfl, HK.out.1, rfl, ?_, (HK.out.2.2.2.1.trans (H2.out.2.mono HK.out.2.2.2.1.size)).setCell HK.out.2.2.2.2.2 _⟩
        have := (World.ownsRow.stored H2.out.1 (r * 2) (txt x.name)).1
        rw [set_same HK.out.2.2.2.2.1] at this
        exact this
end Go.Proofs.Ytgfenklcelfkiaa
