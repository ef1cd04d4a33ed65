/-
  Deep. (Template: by-name.py fills it.)
-/
import Derived.Test.YtabnjiijgbigbaaDoorTreK
namespace Go.Proofs.YtabnjiijgbigbaaDoor
open Go.RowKit

theorem parents_none {w : World} {v : Value} {ns : List Nd} (h : NodesAt w v ns) (hp : parT ns = none) :
    Calls Tryd.prog 19 #[v] w fun e w' => e = .returned (.tuple #[.slice none 0 0, .bool false]) ∧ Below w.heap.size w w' :=
  (parents_any w v ns h).mono fun e w' q => by
    obtain ⟨hb, hm⟩ := q
    rw [hp] at hm
    exact ⟨hm, hb⟩
theorem parents_some {w : World} {v : Value} {ns : List Nd} {p : List Int} (h : NodesAt w v ns) (hp : parT ns = some p) :
    Calls Tryd.prog 19 #[v] w fun e w' => ∃ g c, e = .returned (.tuple #[.slice (some ⟨g, 0, none⟩) ns.length c, .bool true]) ∧ PIn w' g p ∧ Below w.heap.size w w' :=
  (parents_any w v ns h).mono fun e w' q => by
    obtain ⟨hb, hm⟩ := q
    rw [hp] at hm
    obtain ⟨g, c, e, _, _, _, h⟩ := hm
    exact ⟨g, c, e, h, hb⟩
theorem parT_facts {ns : List Nd} {p : List Int} (h : parT ns = some p) : 1 ≤ ns.length ∧ ns.length ≤ 1500 ∧ p.length = ns.length ∧ Ahead p := by
  have h0 := h
  unfold parT at h
  split at h
  · cases h
  · exact ⟨by omega, by omega, parK_len _ _ _ h, parK_ahead _ _ _ h⟩
/-- The depths, then the greatest. -/
theorem depths_of {w : World} {g c : Nat} {ns : List Nd} {p : List Int} (h : parT ns = some p) (hP : PIn w g p) :
    Calls Tryd.prog 21 #[.slice (some ⟨g, 0, none⟩) ns.length c] w fun e w' => ∃ g2 c2, e = .returned (.slice (some ⟨g2, 0, none⟩) ns.length c2) ∧ PIn w' g2 (depT p) ∧ Below w.heap.size w w' := by
  obtain ⟨f1, f2, f3, f4⟩ := parT_facts h
  exact (depths_any w g c ns.length p hP f3 f1 f2 f4).mono fun e w' ⟨b, g2, c2, e, _, _, q⟩ => ⟨g2, c2, e, q, b⟩
theorem max_of {w : World} {g c : Nat} {ns : List Nd} {p : List Int} (h : parT ns = some p) (hP : PIn w g (depT p)) :
    Calls Tryd.prog 20 #[.slice (some ⟨g, 0, none⟩) ns.length c] w fun e w' => e = .returned (.int .i64 (maxL (depT p))) ∧ w = w' := by
  obtain ⟨f1, f2, f3, f4⟩ := parT_facts h
  exact tmax_any w g c ns.length (depT p) hP (by unfold depT; rw [depK_len, f3]) f1 f2
theorem deepB_none {ns : List Nd} (h : parT ns = none) : deepB ns = 0 := by
  unfold deepB
  rw [h]
theorem deepB_some {ns : List Nd} {p : List Int} (h : parT ns = some p) : deepB ns = maxL (depT p) := by
  unfold deepB
  rw [h]

set_option maxHeartbeats 2000000 in
theorem deep_any (w : World) (v : Value) (ns : List Nd) (h : NodesAt w v ns) :
    Calls Tryd.prog 10 #[v] w fun e w' => e = .returned (.int .i64 (deepB ns)) ∧ Below w.heap.size w w' := by
  cases hp : parT ns with
  | none =>
    have pn := parents_none h hp
    rw [deepB_none hp]
    clear h hp
    go_enter Tryd.func10, Tryd.ntmps10
    go_wp2_with (go_at_call 19; (with_reducible refine pn.mono ?_); rintro e w1 ⟨rfl, hb⟩; have HB := Lib.hid hb; clear hb)
    go_ret
    exact ⟨rfl, HB.out⟩
  | some p =>
    have pn := parents_some h hp
    rw [deepB_some hp]
    have DE := Lib.hid (fun w g c => depths_of (w := w) (g := g) (c := c) hp)
    have MX := Lib.hid (fun w g c => max_of (w := w) (g := g) (c := c) hp)
    clear h hp
    go_enter Tryd.func10, Tryd.ntmps10
    go_wp2_with (first
      | (go_at_call 19; (with_reducible refine pn.mono ?_); rintro e w1 ⟨g, c, rfl, hP, hb⟩; have HB := Lib.hid (And.intro hP hb); clear hP hb)
      | (go_at_call 21; (with_reducible refine (DE.out _ _ _ HB.out.1).mono ?_); rintro e w2 ⟨g2, c2, rfl, hP2, hb2⟩; have HC := Lib.hid (And.intro hP2 hb2); clear hP2 hb2)
      | (go_at_call 20; (with_reducible refine (MX.out _ _ _ HC.out.1).mono ?_); rintro e w3 ⟨rfl, rfl⟩))
    go_ret
    exact ⟨rfl, HB.out.2.trans (HC.out.2.mono HB.out.2.size)⟩
end Go.Proofs.YtabnjiijgbigbaaDoor
