/-
  The walks of package term's trimmed, and of the reference's Small. (Template: by-name.py fills it.)
-/
import Derived.Test.YtkgndeiddjkhmaaDoorTermB
namespace Go.Proofs.YtkgndeiddjkhmaaDoor
open Go.RowKit

/-- A row without the noughts at its end. -/
def trimL (l : List (Int × Int)) : List (Int × Int) := (l.reverse.dropWhile fun x => x.1 == 0).reverse

theorem trimL_snoc (a : List (Int × Int)) (x : Int × Int) : trimL (a ++ [x]) = if x.1 = 0 then trimL a else a ++ [x] := by
  unfold trimL
  rw [List.reverse_append, List.reverse_singleton, List.singleton_append, List.dropWhile_cons]
  by_cases h : x.1 = 0
  · rw [if_pos h, if_pos (by simpa using h)]
  · rw [if_neg h, if_neg (by simpa using h), List.reverse_cons, List.reverse_reverse]

theorem ratCells_take : ∀ (l : List (Int × Int)) (k : Nat), ratCells (l.take k) = (ratCells l).take (k * 2)
  | [], k => by simp [ratCells]
  | x :: r, 0 => by simp [ratCells]
  | x :: r, k + 1 => by
    rw [List.take_succ_cons, ratCells, ratCells, ratCells_take r k, show (k + 1) * 2 = k * 2 + 1 + 1 by omega, List.take_succ_cons, List.take_succ_cons]

theorem RatsAt.take {w : World} {A : Option Addr} {n c k : Nat} {l : List (Int × Int)} (h1 : l.length = n) (h2 : n ≤ c) (h3 : c ≤ maxLen) (h4 : Reads w w.heap.size 2 A n (ratCells l)) (hk : k ≤ n) : RatsAt w (.slice A k c) (l.take k) := by
  have e : (l.take k).length = k := by rw [List.length_take]; omega
  refine ⟨A, c, by rw [e], by omega, h3, ?_⟩
  refine ⟨by rw [ratCells_length], fun hn => ?_⟩
  obtain ⟨ad, ha, hb, hc⟩ := h4.2 (by omega)
  refine ⟨ad, ha, hb, fun j u hu => hc j u ?_⟩
  rw [ratCells_take, List.getElem?_take] at hu
  split at hu
  · exact hu
  · cases hu

/-- A row that a call answers, where the world is as it was. -/
def RatsSame (w : World) (v : Value) (l : List (Int × Int)) (e : Ending) (w' : World) : Prop := ∃ v', e = .returned v' ∧ RatsAt w v' l ∧ w = w' ∧ v'.ownBlock = v.ownBlock

set_option maxHeartbeats 2000000 in
theorem trimmed_any (w : World) (v : Value) (l : List (Int × Int)) (h : RatsAt w v l) :
    Calls Tryd.prog 36 #[v] w (RatsSame w v (trimL l)) := by
  obtain ⟨A, c, rfl, h2, h3, h4⟩ := h
  have h5 := h3
  unfold maxLen at h5
  obtain ⟨n, hn⟩ : ∃ n, n = l.length := ⟨_, rfl⟩
  rw [← hn] at h2 h4 ⊢
  have HN := Lib.hid hn
  clear hn
  have hn6 : n ≤ 9223372036854775807 := by omega
  go_enter Tryd.func36, Tryd.ntmps36
  go_wp2_with fail
  go_loopg [0] n (fun g v0 wx => w = wx ∧ ∃ k : Nat, k ≤ n ∧ g = k ∧ v0 = .slice A k c ∧ trimL (l.take k) = trimL l)
  case atStart => exact ⟨rfl, n, Nat.le_refl _, rfl, rfl, by rw [List.take_of_length_le (by rw [HN.out]; exact Nat.le_refl _)]⟩
  case round =>
    obtain ⟨rfl, k, hk, hg, rfl, ht⟩ := hrel
    have HT := Lib.hid ht
    have HG := Lib.hid hg
    clear ht hg
    by_cases hk0 : k = 0
    · subst hk0
      have fin : RatsAt w (.slice A 0 c) (trimL l) := by
        rw [← HT.out]
        exact RatsAt.take HN.out.symm h2 h3 h4 (Nat.zero_le n)
      have FIN := Lib.hid fin
      clear fin
      go_wp2_with fail
      go_ret
      exact ⟨_, rfl, FIN.out, rfl, by cases A <;> rfl⟩
    · have hk1 : (0 : Int) < (k : Int) := by omega
      have hkl : k - 1 < l.length := by have := HN.out; omega
      have hs : k - 1 + 1 = k := by omega
      have wk : IntKind.i64.wrap ((k : Int) - 1) = ((k - 1 : Nat) : Int) := by rw [IntWalk.i64_in _ (by omega)]; omega
      obtain ⟨x, hx⟩ : ∃ x, l[k - 1]? = some x := ⟨_, List.getElem?_eq_getElem hkl⟩
      obtain ⟨ad, rfl, d1, _⟩ := rats_cells h4 (Below.refl _ _) hx (by omega)
      have hi1 : ((k - 1 : Nat) : Int) < (k : Int) := by omega
      have hi0 : (0 : Int) ≤ ((k - 1 : Nat) : Int) := by omega
      have hic : ((k - 1 : Nat) : Int) ≤ (c : Int) := by omega
      have et : l.take k = l.take (k - 1) ++ [x] := by
        have e : l[k - 1] = x := by rw [List.getElem?_eq_getElem hkl] at hx; exact Option.some.inj hx
        rw [← e, ← List.take_succ_eq_append_getElem hkl, hs]
      have tr := HT.out
      rw [et, trimL_snoc] at tr
      by_cases hz : x.1 = 0
      · rw [if_pos hz] at tr
        rw [hz] at d1
        have TR := Lib.hid tr
        have HX := Lib.hid (And.intro hx hs)
        clear et tr hz hx hs hkl
        go_wp2_with fail
        go_roundg (k - 1)
        case measure => have := HG.out; omega
        case rel => exact ⟨rfl, k - 1, by omega, rfl, rfl, TR.out⟩
      · rw [if_neg hz, ← et] at tr
        have fin : RatsAt w (.slice (some ad) k c) (trimL l) := by rw [← tr]; exact RatsAt.take HN.out.symm h2 h3 h4 hk
        have FIN := Lib.hid fin
        have hz' : (x.1 == 0) = false := by simpa using hz
        clear et tr hz hx hs hkl fin
        go_wp2_with fail
        go_ret
        exact ⟨_, rfl, FIN.out, rfl, rfl⟩

theorem small_any (w : World) (v : Value) (l : List (Int × Int)) (kn kd : Int) (h : RatsAt w v l) :
    Calls Tryd.prog 10 #[.agg #[v, .int .i64 kn, .int .i64 kd]] w fun r w' => r = .returned (.bool (decide (l.length ≤ 12))) ∧ Below w.heap.size w w' := by
  obtain ⟨A, c, rfl, _, _, _⟩ := h
  have e : decide ((l.length : Int) ≤ 12) = decide (l.length ≤ 12) := decide_eq_decide.2 (by omega)
  go_enter Tryd.func10, Tryd.ntmps10
  go_wp2_with fail
  go_ret
  exact ⟨by rw [← e]; rfl, below_alloc1 _ _⟩
end Go.Proofs.YtkgndeiddjkhmaaDoor
