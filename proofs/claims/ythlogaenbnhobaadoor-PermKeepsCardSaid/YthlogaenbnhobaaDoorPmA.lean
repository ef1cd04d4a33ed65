/-
  Package perm's table, and its small functions. (Template: by-name.py fills it.)
-/
import Derived.Test.YthlogaenbnhobaaDoorRatB
import Derived.Test.YthlogaenbnhobaaDoorRatQ
import Derived.Test.YthlogaenbnhobaaDoorRatK
import Derived.Test.YthlogaenbnhobaaDoorTbk
import Derived.Lib.LaidTab
import Derived.Stop.LaidErr
import Derived.MakeChecks
namespace Go.Proofs.YthlogaenbnhobaaDoor
open Go.RowKit

/-- A permission's value. -/
abbrev permV (k n d r s : Int) : Value := .agg #[.int .i64 k, .int .i64 n, .int .i64 d, .int .i64 r, .int .u32 s]
/-- Its block. -/
abbrev permC (k n d r s : Int) : Array Value := #[.int .i64 k, .int .i64 n, .int .i64 d, .int .i64 r, .int .u32 s]

/-! ### The table -/
def restRows : List (List Int) := [[-1, 4, 2, 3, 1], [-1, 4, -1, -1, 1], [-1, -1, 2, -1, 2], [-1, -1, -1, 3, -1], [-1, -1, -1, -1, 4]]
def restN (a b : Nat) : Int := (restRows.getD a []).getD b (-1)
/-- The kind of the rest, by those of the permission and of the part; -1: none. -/
def restK (k p : Int) : Int := if 0 ≤ k ∧ k < 5 ∧ 0 ≤ p ∧ p < 5 then restN k.toNat p.toNat else -1
theorem restK_nat {a b : Nat} (ha : a < 5) (hb : b < 5) : restK a b = restN a b := by
  unfold restK
  rw [if_pos (by omega), Int.toNat_natCast, Int.toNat_natCast]
def RestTab (w : World) : Prop := 0 < w.heap.size ∧ ∀ a b : Nat, a < 5 → b < 5 → w.cell? ⟨0, a * 5 + b, none⟩ = some (.int .i64 (restN a b))
theorem RestTab.below {w w' : World} (h : RestTab w) (hb : Below w.heap.size w w') : RestTab w' :=
  ⟨Nat.lt_of_lt_of_le h.1 hb.size, fun a b ha hb' => (hb.cell (p := ⟨_, a * 5 + b, none⟩) h.1).trans (h.2 a b ha hb')⟩

/-- Cells of an array of arrays of integers. -/
theorem cells_of_tabs {H : Type} {enc : TypeId × Value → H} {P : Program} {w : World} {base : Nat} {sp : Nat → Bool} {held : Bool} {fuel : Nat} {t e f : TypeId} {n m : Nat} {k : IntKind} {cs : List Value} {zss : List (List Int)} {p : List MemPlace}
    (ht : P.underlying t = some (.array n e)) (he : P.underlying e = some (.array m f)) (hf : P.underlying f = some (.int k)) (hcf : P.cellsOf f = 1) (hce : P.cellsOf e = m)
    (h : DataW.trod enc P w base sp held fuel t cs = some (.agg (zss.map (Lib.tabData k)), p)) : ∀ i z, i < n → zss[i]? = some z → (cs.drop (i * m)).take m = z.map fun x => Value.int k x := by
  cases fuel with
  | zero => simp [DataW.trod] at h
  | succ fuel =>
    simp only [DataW.trod, ht, hce] at h
    split at h
    · rename_i hl
      obtain ⟨xs, hm, hx⟩ := Option.map_eq_some_iff.1 h
      have hxs : xs.map (·.1) = zss.map (Lib.tabData k) := by
        have := congrArg Prod.fst hx
        simpa using this
      intro i z hi hz
      obtain ⟨b, hb, hq⟩ := Lib.mapM_at hm i i (by simp [hi])
      have h2 : (xs.map (·.1))[i]? = some b.1 := by simp [hb]
      rw [hxs, List.getElem?_map, hz] at h2
      have hb1 : Lib.tabData k z = b.1 := Option.some.inj h2
      obtain ⟨b1, b2⟩ := b
      subst hb1
      exact Lib.cells_of_tab he hf hcf hce hq
    · cases h

theorem Tryd.gRests : Tryd.prog.globalNamed "ballcock/perm.rests" = some 0 := by kernel_rfl
theorem Tryd.gRestsType : (Tryd.prog.globals[0]?).map (·.type) = some 58 := by kernel_rfl
set_option maxRecDepth 10000 in
theorem rests_of {W : World} (h : laidMetH Tryd.prog [("ballcock/perm.rests", Rows.laid_ballcock_perm_rests)] W) : RestTab W := by
  rw [MakeChecks.laidMetH_plain _ _ _ (by kernel_rfl)] at h
  obtain ⟨ps, ⟨g', t', cs, fuel, p, q, hg', ht', hvar, hd, _, _⟩, _⟩ := h
  obtain rfl := Option.some.inj (Tryd.gRests.symm.trans hg')
  obtain rfl := Option.some.inj (Tryd.gRestsType.symm.trans ht')
  have hc := cells_of_tabs (zss := restRows) Tryd.underlying58 Tryd.underlying34 Tryd.underlying3 (by kernel_rfl) (by kernel_rfl) hd
  simp only [World.var?, Tryd.gRests, Option.bind_some] at hvar
  split at hvar
  · rename_i c ty fr hh
    have hvar := Option.some.inj hvar
    subst hvar
    refine ⟨?_, fun a b ha hb => ?_⟩
    · rcases Nat.lt_or_ge 0 W.heap.size with q | q
      · exact q
      · rw [Array.getElem?_eq_none q] at hh; cases hh
    · have hz : restRows[a]? = some (restRows.getD a []) := by
        rw [List.getD_eq_getElem?_getD]
        have : a < restRows.length := ha
        simp [this]
      have hcc := hc a _ ha hz
      have h1 : ((c.toList.drop (a * 5)).take 5)[b]? = some (.int .i64 (restN a b)) := by
        rw [hcc, List.getElem?_map]
        have hh : ∀ a, a < 5 → ∀ b, b < 5 → (restRows.getD a [])[b]? = some (restN a b) := by decide
        have := hh a ha b hb
        rw [this]; rfl
      rw [List.getElem?_take, if_pos hb, List.getElem?_drop] at h1
      simp only [World.cell?, hh]
      simpa using h1
  · cases hvar

/-! ### The small functions -/
theorem number_any (n : Int) (w : World) : Calls Tryd.prog 9 #[.int .i64 n] w fun e w' => e = .returned (ratV n 1) ∧ Below w.heap.size w w' := by
  go_enter Tryd.func9, Tryd.ntmps9
  go_wp2_with fail
  exact bodyPost_ret (v := ratV n 1) (by simp [results, Tryd.results9, go_sem]) rfl ⟨rfl, below_alloc1 _ _⟩

theorem isKind_any (k : Int) (w : World) : Calls Tryd.prog 21 #[.int .i64 k] w fun e w' => e = .returned (.bool (decide (0 ≤ k) && decide (k < 5))) ∧ w' = w := by
  by_cases a : 0 ≤ k
  · by_cases b : k < 5
    · rw [decide_eq_true a, decide_eq_true b]
      have a1 : decide (k ≥ 0) = true := decide_eq_true a
      have b1 : decide (k < 5) = true := decide_eq_true b
      clear a b
      go_enter Tryd.func21, Tryd.ntmps21
      go_wp2_with fail
      go_ret
      exact ⟨rfl, rfl⟩
    · rw [decide_eq_true a, decide_eq_false b]
      have a1 : decide (k ≥ 0) = true := decide_eq_true a
      have b1 : decide (k < 5) = false := decide_eq_false b
      clear a b
      go_enter Tryd.func21, Tryd.ntmps21
      go_wp2_with fail
      go_ret
      exact ⟨rfl, rfl⟩
  · rw [decide_eq_false a]
    have a1 : decide (k ≥ 0) = false := decide_eq_false a
    clear a
    go_enter Tryd.func21, Tryd.ntmps21
    go_wp2_with fail
    go_ret
    exact ⟨rfl, rfl⟩
end Go.Proofs.YthlogaenbnhobaaDoor
