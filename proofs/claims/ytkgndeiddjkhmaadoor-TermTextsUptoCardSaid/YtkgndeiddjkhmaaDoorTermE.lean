/-
  The walk of slices.Clone on rows of fractions. (Template: by-name.py fills it.)
-/
import Derived.Test.YtkgndeiddjkhmaaDoorTermD
import Derived.Test.YtkgndeiddjkhmaaDoorNumE
namespace Go.Proofs.YtkgndeiddjkhmaaDoor
open Go.RowKit

theorem infoR : (Tryd.prog.info? 24).map (fun i => (i.zero, i.size, i.bytes)) = some (some (.agg #[.int .i64 0, .int .i64 0]), 2, 16) := by kernel_rfl

/-- A row of the call's own is a row of fractions. -/
theorem own_rats {w : World} {base : Nat} {l : List (Int × Int)} {v : Value} (h : w.ownsRow base 24 2 v l.length (ratCells l)) : RatsAt w v l := by
  have h0 := h
  rcases h.2 with ⟨rfl, hn⟩ | ⟨g, cap, cur, rfl, _, hh, hnc, hrest⟩
  · have : l = [] := List.eq_nil_of_length_eq_zero (by simpa using hn)
    subst this
    exact RatsAt.nil w
  · exact ⟨some _, cap, rfl, hnc, hrest.1, Reads.of_own h0⟩

/-- A row that a call answers, in its own memory, in a world where all that is older is as it was. -/
def RatsNew (w : World) (l : List (Int × Int)) (e : Ending) (w' : World) : Prop := ∃ v', e = .returned v' ∧ RatsAt w' v' l ∧ Below w.heap.size w w' ∧ Fresh w.heap.size v'

theorem own_empty (w : World) : (w.alloc (.cells #[] 24)).ownsRow w.heap.size 24 2 (.slice (some ⟨w.heap.size, 0, none⟩) 0 0) 0 [] :=
  ⟨rfl, .inr ⟨w.heap.size, 0, #[], rfl, Nat.le_refl _, heap_alloc_new w _, Nat.le_refl _, by decide, rfl, rfl⟩⟩

theorem ratCells_one : ∀ (l : List (Int × Int)), ∀ u ∈ ratCells l, u.oneCell' = true
  | [], u, h => by cases h
  | x :: r, u, h => by
    rw [ratCells, List.mem_cons, List.mem_cons] at h
    rcases h with rfl | rfl | h
    · rfl
    · rfl
    · exact ratCells_one r u h

theorem own_block {w : World} {base k n : Nat} {v : Value} {xs : List Value} (h : w.ownsRow base 24 2 v n xs) (hk : v.ownBlock = some k) : base ≤ k := by
  rcases h.2 with ⟨rfl, _⟩ | ⟨g, cap, cur, rfl, hg, _⟩
  · cases hk
  · have : g = k := by simpa [Value.ownBlock] using hk
    omega

theorem nil_no (w : World) (ad : Addr) (n c : Nat) : (binOp .eql 22 (.slice (some ad) n c) (.slice none 0 0)).run Tryd.prog w = .ok (.bool false) w := by kernel_rfl
theorem nil_yes (w : World) (n c : Nat) : (binOp .eql 22 (.slice none n c) (.slice none 0 0)).run Tryd.prog w = .ok (.bool true) w := by kernel_rfl

set_option maxRecDepth 4000 in
set_option maxHeartbeats 2000000 in
theorem clone_any (w : World) (v : Value) (l : List (Int × Int)) (h : RatsAt w v l) (hl : l.length ≤ 1000) :
    Calls Tryd.prog 35 #[v] w (RatsNew w l) := by
  obtain ⟨i0, hi, hz0, hz1, hz2⟩ := info_parts infoR
  obtain ⟨A, c, rfl, h2, h3, h4⟩ := h
  rcases A with _ | ad
  · have hn : l = [] := by
      rcases Nat.eq_zero_or_pos l.length with h0 | h0
      · exact List.eq_nil_of_length_eq_zero h0
      · obtain ⟨_, e, _⟩ := h4.2 h0
        cases e
    subst hn
    have hq := nil_yes w 0 c
    clear h2 h3 h4 hl
    go_enter Tryd.func35, Tryd.ntmps35
    go_wp2_with fail
    go_ret
    exact ⟨_, rfl, RatsAt.nil w, Below.refl _ _, Fresh.none_ _ _ _⟩
  · have hq := nil_no w ad l.length c
    go_enter Tryd.func35, Tryd.ntmps35
    go_wp2_with (at_builtin; refine wpList_append_any _ rfl _ _ 22 rfl w.heap.size 24 i0 (.agg #[.int .i64 0, .int .i64 0]) 2 16 Tryd.underlying22 hi hz0 hz1 hz2 rfl (by decide) _ 0 [] rfl (own_empty w) w.heap.size (some ad) _ c _ rfl (h4.alloc (Nat.le_refl _) _) ?c2 ?c3 ?c4 ?c5 ?_)
    case c2 => exact ratCells_one l
    case c3 => unfold maxLen; omega
    case c4 => omega
    case c5 => simp
    intro v' w1 hown' hgrow _
    have hown2 : w1.ownsRow w.heap.size 24 2 v' l.length (ratCells l) := hown'
    have hb : Below w.heap.size w w1 := by
      refine (below_alloc1 w _).grown hgrow (by simp) (fun k hk => ?_)
      have e : w.heap.size = k := by simpa [Value.ownBlock] using hk
      omega
    have FIN := Lib.hid (And.intro (own_rats hown2) (And.intro hb (fun k hk => own_block hown2 hk : Fresh w.heap.size v')))
    clear hown' hown2 hgrow hb h4 hq
    go_wp2_with fail
    go_ret
    exact ⟨_, rfl, FIN.out.1, FIN.out.2.1, FIN.out.2.2⟩
end Go.Proofs.YtkgndeiddjkhmaaDoor
