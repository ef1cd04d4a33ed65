/-
  A table of texts that a row lists: what the variable's block holds. (Template: by-name.py fills it.)
-/
import Derived.Test.YtabnjiijgbigbaaDoorLexB
import Derived.Lib.LaidTab
import Derived.Laws.Rows
import Derived.Stop.LaidErr
import Derived.MakeChecks
namespace Go.Proofs.YtabnjiijgbigbaaDoor
open Go.RowKit

/-- The table as a row lists it. -/
def strData {H : Type} (l : List (List UInt8)) : DataW H := .agg (l.map fun z => .lit (.string z))
/-- The block holds just these texts. -/
def StrRow (w : World) (g : Nat) (l : List (List UInt8)) : Prop := ∃ t fr, w.heap[g]? = some (.cells (l.map txt).toArray t fr)

theorem StrRow.below {w w' : World} {g : Nat} {l : List (List UInt8)} (h : StrRow w g l) (hb : Below w.heap.size w w') : StrRow w' g l := by
  obtain ⟨t, fr, e⟩ := h
  have hg : g < w.heap.size := by
    rcases Nat.lt_or_ge g w.heap.size with q | q
    · exact q
    · rw [Array.getElem?_eq_none q] at e; cases e
  exact ⟨t, fr, (hb.block g hg).trans e⟩

theorem cells_of_strs {H : Type} {enc : TypeId × Value → H} {P : Program} {w : World} {base : Nat} {sp : Nat → Bool} {held : Bool} {fuel : Nat} {t e : TypeId} {n : Nat} {cs : List Value} {zs : List (List UInt8)} {p : List MemPlace}
    (ht : P.underlying t = some (.array n e)) (he : P.underlying e = some .string) (hce : P.cellsOf e = 1) (hct : P.cellsOf t = n)
    (h : DataW.trod enc P w base sp held fuel t cs = some (strData zs, p)) : cs = zs.map txt := by
  cases fuel with
  | zero => simp [DataW.trod] at h
  | succ fuel =>
    simp only [DataW.trod, ht, hce, hct, Nat.mul_one] at h
    split at h
    · rename_i hl
      obtain ⟨xs, hm, hx⟩ := Option.map_eq_some_iff.1 h
      have hxs : xs.map (·.1) = zs.map fun z => (DataW.lit (.string z) : DataW H) := by
        have := congrArg Prod.fst hx
        simpa [strData] using this
      have hxl : xs.length = n := by simpa using Lib.mapM_length hm
      have hzl : zs.length = n := by
        have := congrArg List.length hxs
        simp at this
        omega
      apply List.ext_getElem?
      intro i
      by_cases hi : i < n
      · obtain ⟨b, hb, hf⟩ := Lib.mapM_at hm i i (by simp [hi])
        obtain ⟨z, hc, rfl, _⟩ := DataW.trod_string he hf
        have h1 : cs[i]? = some (.string z) := by
          have := congrArg (·[0]?) hc
          simpa [List.getElem?_take, List.getElem?_drop] using this
        have h2 : (xs.map (·.1))[i]? = some (DataW.lit (.string z.data.toList) : DataW H) := by simp [hb]
        rw [hxs] at h2
        simp only [List.getElem?_map, Option.map_eq_some_iff, DataW.lit.injEq, Lit.string.injEq] at h2
        obtain ⟨z', hz', rfl⟩ := h2
        simp [h1, hz', txt]
      · rw [List.getElem?_eq_none (by omega), List.getElem?_eq_none (by simp; omega)]
    · cases h

/-- From the row's condition: the table stands first on the list. -/
theorem strs_of_head {P : Program} {W : World} {name : String} {zs : List (List UInt8)} {rest : List (String × DataW Unit)} {g : Nat} {t e : TypeId} {n : Nat}
    (hg : P.globalNamed name = some g) (hty : (P.globals[g]?).map (·.type) = some t) (ht : P.underlying t = some (.array n e)) (he : P.underlying e = some .string) (hce : P.cellsOf e = 1) (hct : P.cellsOf t = n)
    (h : laidMet P ((name, strData zs) :: rest) W) : StrRow W g zs := by
  obtain ⟨ps, ⟨g', t', cs, fuel, p, q, hg', ht', hvar, hd, _, _⟩, _⟩ := h
  obtain rfl := Option.some.inj (hg.symm.trans hg')
  obtain rfl := Option.some.inj (hty.symm.trans ht')
  have hc := cells_of_strs ht he hce hct hd
  simp only [World.var?, hg, Option.bind_some] at hvar
  split at hvar
  · rename_i c ty fr hh
    have hvar := Option.some.inj hvar
    subst hvar
    exact ⟨ty, fr, by rw [hh, ← hc]⟩
  · cases hvar

def keysL : List (List UInt8) := [[112, 114, 111, 116, 111], [115, 116, 97, 116, 101], [102, 105, 110, 97, 108], [111, 112], [102, 110], [108, 101, 97, 115, 116], [97, 116], [116, 111], [105, 110], [108, 101, 116], [111, 112, 101, 110], [101, 108, 115, 101], [100, 111], [115, 112, 108, 105, 116], [99, 97, 108, 108], [105, 102], [119, 104, 105, 108, 101], [114, 101, 116, 117, 114, 110], [101, 120, 105, 116], [117, 110, 105, 113, 117, 101], [102, 117, 108, 108], [115, 104, 97, 114, 101], [105, 109, 109], [112, 117, 114, 101]]

theorem Tryd.gKeys : Tryd.prog.globalNamed "ballcock/lex.keywords" = some 0 := by kernel_rfl
theorem Tryd.gKeysType : (Tryd.prog.globals[0]?).map (·.type) = some 81 := by kernel_rfl
theorem Tryd.cellsS : Tryd.prog.cellsOf 9 = 1 := by kernel_rfl

end Go.Proofs.YtabnjiijgbigbaaDoor
