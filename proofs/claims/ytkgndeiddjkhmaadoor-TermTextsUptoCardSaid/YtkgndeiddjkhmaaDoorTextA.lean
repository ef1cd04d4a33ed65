/-
  Names in memory; the walk of package term's name, the reference's digit. (Template: by-name.py fills it.)
-/
import Derived.Test.YtkgndeiddjkhmaaDoorTermI
namespace Go.Proofs.YtkgndeiddjkhmaaDoor
open Go.RowKit

/-- A slice of texts. -/
def NamesAt (w : World) (v : Value) (ns : List (List UInt8)) : Prop := ∃ A c, v = .slice A ns.length c ∧ ns.length ≤ c ∧ c ≤ maxLen ∧ Reads w w.heap.size 1 A ns.length (ns.map txt)

theorem NamesAt.below {w w' : World} {v : Value} {ns : List (List UInt8)} (h : NamesAt w v ns) (hb : Below w.heap.size w w') : NamesAt w' v ns := by
  obtain ⟨A, c, h1, h2, h3, h4⟩ := h
  exact ⟨A, c, h1, h2, h3, (h4.below hb).more hb.size⟩
theorem NamesAt.nil (w : World) : NamesAt w (.slice none 0 0) [] := ⟨none, 0, rfl, Nat.le_refl _, by decide, Reads.none_⟩

theorem names_cell {w : World} {A : Option Addr} {n k : Nat} {ns : List (List UInt8)} {s : List UInt8} (h4 : Reads w w.heap.size 1 A n (ns.map txt)) (hx : ns[k]? = some s) (hn : 0 < n) :
    ∃ ad, A = some ad ∧ w.cell? (ad.add k) = some (txt s) := by
  obtain ⟨ad, ha, _, hc⟩ := h4.2 hn
  exact ⟨ad, ha, hc _ _ (by rw [List.getElem?_map, hx]; rfl)⟩

/-- A variable's name. -/
def nameL (ns : List (List UInt8)) (k : Nat) : List UInt8 := (ns[k]?).getD [120, UInt8.ofNat (48 + k)]

set_option maxRecDepth 4000 in
set_option maxHeartbeats 1000000 in
theorem name_any (w : World) (v : Value) (ns : List (List UInt8)) (h : NamesAt w v ns) (k : Nat) (hk : k < 8) :
    Calls Tryd.prog 43 #[.int .i64 k, v] w fun r w' => r = .returned (txt (nameL ns k)) ∧ Below w.heap.size w w' := by
  obtain ⟨A, c, rfl, h2, h3, h4⟩ := h
  by_cases hn : k < ns.length
  · obtain ⟨s, hs⟩ : ∃ s, ns[k]? = some s := ⟨_, List.getElem?_eq_getElem hn⟩
    obtain ⟨ad, rfl, d1⟩ := names_cell h4 hs (by omega)
    have e : nameL ns k = s := by unfold nameL; rw [hs]; rfl
    rw [e]
    have i1 : (k : Int) < (ns.length : Int) := by omega
    have i2 : (0 : Int) ≤ (k : Int) := by omega
    have q1 : decide (k < ns.length) = true := decide_eq_true hn
    clear h2 h3 h4 hs e hn hk
    generalize ns.length = n at *
    go_enter Tryd.func43, Tryd.ntmps43
    go_wp2_with fail
    go_ret
    exact ⟨rfl, Below.refl _ _⟩
  · have e : nameL ns k = [120, UInt8.ofNat (48 + k)] := by unfold nameL; rw [List.getElem?_eq_none (by omega)]; rfl
    rw [e]
    have it0 := Tryd.strconv_Itoa_small k (by omega) w
    rw [Lib.decDigits_one (show k < 10 by omega)] at it0
    have it : Calls Tryd.prog 63 #[.int .i64 k] w fun e w' => e = .returned (txt [UInt8.ofNat (48 + k)]) ∧ w' = w := it0
    have q1 : decide (k < ns.length) = false := decide_eq_false hn
    clear it0 e h2 h3 h4 hn hk
    generalize ns.length = n at *
    generalize UInt8.ofNat (48 + k) = bt at *
    go_enter Tryd.func43, Tryd.ntmps43
    go_wp2_with (go_at_call 63; (with_reducible refine it.mono ?_); rintro e w1 ⟨rfl, rfl⟩)
    exact bodyPost_ret (v := .string ((⟨#[120]⟩ : ByteArray) ++ ⟨#[bt]⟩)) (by simp [results, Tryd.results43, go_sem]) rfl ⟨rfl, Below.refl _ _⟩
end Go.Proofs.YtkgndeiddjkhmaaDoor
