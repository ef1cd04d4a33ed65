/-
  How a law over terms is opened: a term as an argument. (Template: by-name.py fills it.)
-/
import Derived.Test.YtkinbbhbencipaaWords
import Derived.Test.YtkinbbhbencipaaJA
import Derived.Deep.LoopGhost
import Derived.Test.YtkinbbhbencipaaJB
import Derived.BigQuiet
import Derived.Deep.QuietTactic
import Derived.Test.YtkinbbhbencipaaJRatShow
import Derived.Deep.SlicePairs
import Derived.Carry
namespace Go.Proofs.Ytkinbbhbencipaa
open Go.RowKit

/-- The cells of a row of fractions. -/
def ratCells : List (Int × Int) → List Value
  | [] => []
  | x :: r => .int .i64 x.1 :: .int .i64 x.2 :: ratCells r

theorem ratCells_length : ∀ l, (ratCells l).length = l.length * 2
  | [] => rfl
  | x :: r => by rw [ratCells, List.length_cons, List.length_cons, ratCells_length r, List.length_cons]; omega
theorem ratCells_at : ∀ (l : List (Int × Int)) (k : Nat) (x : Int × Int), l[k]? = some x → (ratCells l)[k * 2]? = some (.int .i64 x.1) ∧ (ratCells l)[k * 2 + 1]? = some (.int .i64 x.2)
  | [], k, x, h => by simp at h
  | y :: r, 0, x, h => by
    obtain rfl : y = x := by simpa using h
    exact ⟨rfl, rfl⟩
  | y :: r, k + 1, x, h => by
    rw [List.getElem?_cons_succ] at h
    obtain ⟨a, b⟩ := ratCells_at r k x h
    exact ⟨by rw [show (k + 1) * 2 = k * 2 + 1 + 1 by omega]; exact a, by rw [show (k + 1) * 2 + 1 = k * 2 + 1 + 1 + 1 by omega]; exact b⟩

/-- A slice of fractions. -/
def RatsAt (w : World) (v : Value) (l : List (Int × Int)) : Prop := ∃ A c, v = .slice A l.length c ∧ l.length ≤ c ∧ c ≤ maxLen ∧ Reads w w.heap.size 2 A l.length (ratCells l)

theorem RatsAt.below {w w' : World} {v : Value} {l : List (Int × Int)} (h : RatsAt w v l) (hb : Below w.heap.size w w') : RatsAt w' v l := by
  obtain ⟨A, c, h1, h2, h3, h4⟩ := h
  exact ⟨A, c, h1, h2, h3, (h4.below hb).more hb.size⟩
theorem RatsAt.nil (w : World) : RatsAt w (.slice none 0 0) [] := ⟨none, 0, rfl, Nat.le_refl _, by decide, Reads.none_⟩
theorem rats_at {w : World} {A : Option Addr} {n : Nat} {l : List (Int × Int)} (h4 : Reads w w.heap.size 2 A n (ratCells l)) {k : Nat} {x : Int × Int} (hk : l[k]? = some x) (hn : 0 < n) :
    ∃ ad, A = some ad ∧ w.cell? (ad.add (k * 2)) = some (.int .i64 x.1) ∧ w.cell? (ad.add (k * 2 + 1)) = some (.int .i64 x.2) := by
  obtain ⟨ad, ha, _, hc⟩ := h4.2 hn
  obtain ⟨a, b⟩ := ratCells_at l k x hk
  exact ⟨ad, ha, hc _ _ a, hc _ _ b⟩

def allR (l : List (Int × Int)) : Bool := l.all fun x => rightB x.1 x.2

/-- All numbers of the row are of 64 bits. -/
def Wide (l : List (Int × Int)) : Prop := ∀ x, x ∈ l → (-9223372036854775808 ≤ x.1 ∧ x.1 ≤ 9223372036854775807) ∧ (-9223372036854775808 ≤ x.2 ∧ x.2 ≤ 9223372036854775807)

set_option maxHeartbeats 1000000 in
theorem notright_any (n d : Int) (w : World) (ra : ∀ w, Calls Try.prog 55 #[ratV n d] w fun r w' => r = .returned (.bool (rightB n d)) ∧ Below w.heap.size w w') :
    Calls Try.prog 84 #[ratV n d] w fun r w' => r = .returned (.bool (!rightB n d)) ∧ Below w.heap.size w w' := by
  have L := (Live.start w).box n d
  generalize rightB n d = R at *
  go_enter Try.func84, Try.ntmps84
  go_wp2_with (go_at_call 55; (with_reducible refine (ra _).mono ?_); rintro e w1 ⟨rfl, hb⟩; have L := L.call hb)
  go_ret
  exact ⟨rfl, L.below⟩

theorem allR_take {l : List (Int × Int)} {k : Nat} {x : Int × Int} (hk : l[k]? = some x) (h : allR (l.take k) = true) : allR (l.take (k + 1)) = rightB x.1 x.2 := by
  have hl : k < l.length := by
    rcases Nat.lt_or_ge k l.length with g | g
    · exact g
    · rw [List.getElem?_eq_none g] at hk; cases hk
  unfold allR at *
  rw [List.take_succ_eq_append_getElem hl, List.all_append, h, Bool.true_and]
  have e : l[k] = x := by rw [List.getElem?_eq_getElem hl] at hk; exact Option.some.inj hk
  rw [e]
  simp
theorem allR_bad {l : List (Int × Int)} {k : Nat} {x : Int × Int} (hk : l[k]? = some x) (h : rightB x.1 x.2 = false) : allR l = false := by
  unfold allR
  rw [List.all_eq_false]
  exact ⟨x, List.mem_of_getElem? hk, by rw [h]; decide⟩

set_option maxHeartbeats 2000000 in
theorem index_any (w : World) (v : Value) (l : List (Int × Int)) (h : RatsAt w v l) (hw : Wide l) :
    Calls Try.prog 92 #[v, .func (.func 84) #[] #[]] w fun r w' => ∃ z : Int, r = .returned (.int .i64 z) ∧ (decide (0 ≤ z) = !allR l) ∧ Below w.heap.size w w' := by
  obtain ⟨A, c, rfl, h2, h3, h4⟩ := h
  have h5 := h3
  unfold maxLen at h5
  obtain ⟨n, hn⟩ : ∃ n, n = l.length := ⟨_, rfl⟩
  rw [← hn] at h2 h4 ⊢
  have HN := Lib.hid (And.intro hn (And.intro hw (And.intro h2 h5)))
  have H4 := Lib.hid h4
  clear hn hw h2 h3 h4 h5
  go_enter Try.func92, Try.ntmps92
  go_wp2_with fail
  go_loopg [8] n (fun g v8 wr => ∃ k : Nat, v8 = .int .i64 k ∧ k ≤ n ∧ g = n - k ∧ allR (l.take k) = true ∧ Below w.heap.size w wr)
  case atStart => exact ⟨0, rfl, Nat.zero_le _, rfl, by rw [List.take_zero]; rfl, Below.refl _ _⟩
  case round =>
    obtain ⟨k, rfl, hk, hg, hall, hb⟩ := hrel
    by_cases hkn : k = n
    · have hal : allR l = true := by rw [hkn, HN.out.1, List.take_length] at hall; exact hall
      subst hkn
      have HB := Lib.hid (And.intro hal hb)
      clear hk hg hall hb hal
      go_wp2_with fail
      go_ret
      exact ⟨-1, rfl, by rw [HB.out.1]; rfl, HB.out.2⟩
    · have hlt : k < n := by omega
      obtain ⟨x, hx⟩ : ∃ x, l[k]? = some x := ⟨_, List.getElem?_eq_getElem (by have := HN.out.1; omega)⟩
      obtain ⟨ad, rfl, c1, c2⟩ := rats_at H4.out hx (by omega)
      obtain ⟨hx1, hx2⟩ := HN.out.2.1 x (List.mem_of_getElem? hx)
      have hbk : ad.block < w.heap.size := by
        obtain ⟨_, e, hb, _⟩ := H4.out.2 (by omega)
        injection e with e
        subst e
        exact hb
      have d1 := (hb.cell (p := ad.add (k * 2)) (by rw [block_of_add]; exact hbk)).trans c1
      have d2 := (hb.cell (p := ad.add (k * 2 + 1)) (by rw [block_of_add]; exact hbk)).trans c2
      rw [← add_of_add] at d2
      have d3 : wr.cell? ⟨(ad.add (k * 2)).block, (ad.add (k * 2)).off + 1, none⟩ = some (.int .i64 x.2) := d2
      clear d2
      have nr := fun w => notright_any x.1 x.2 w (fun w => right_any x.1 x.2 w hx1.1 hx1.2 hx2.1 hx2.2)
      have nxt := allR_take hx hall
      have bad := @allR_bad l k x hx
      have i1 : (k : Int) < (n : Int) := by omega
      have i2 : (0 : Int) ≤ (k : Int) := by omega
      have wk : IntKind.i64.wrap ((k : Int) + 1) = (k : Int) + 1 := IntWalk.i64_in _ (by have := HN.out; omega)
      generalize rightB x.1 x.2 = R at *
      generalize x.1 = xn at *
      generalize x.2 = xd at *
      have HK := Lib.hid (And.intro hlt (And.intro hg hb))
      have NX := Lib.hid (And.intro nxt bad)
      clear hk hg hall hb hkn hlt hx hx1 hx2 c1 c2 hbk nxt bad
      cases R
      · go_wp2_with (go_at_call 84; (with_reducible refine (nr _).mono ?_); rintro e w1 ⟨rfl, hb1⟩)
        go_ret
        exact ⟨k, rfl, by rw [NX.out.2 trivial]; simp, HK.out.2.2.trans (hb1.mono HK.out.2.2.size)⟩
      · go_wp2_with (go_at_call 84; (with_reducible refine (nr _).mono ?_); rintro e w1 ⟨rfl, hb1⟩)
        go_roundg (n - (k + 1))
        case measure => have := HK.out; omega
        case rel => exact ⟨k + 1, by push_cast; rfl, by have := HK.out; omega, rfl, NX.out.1, HK.out.2.2.trans (hb1.mono HK.out.2.2.size)⟩

set_option maxHeartbeats 1000000 in
theorem contains_any (w : World) (v : Value) (l : List (Int × Int)) (h : RatsAt w v l) (hw : Wide l) :
    Calls Try.prog 83 #[v, .func (.func 84) #[] #[]] w fun r w' => r = .returned (.bool (!allR l)) ∧ Below w.heap.size w w' := by
  have ix := index_any w v l h hw
  clear h hw
  generalize allR l = R at *
  go_enter Try.func83, Try.ntmps83
  go_wp2_with (go_at_call 92; (with_reducible refine ix.mono ?_); rintro e w1 ⟨z, rfl, hz, hb⟩)
  go_ret
  exact ⟨by rw [← hz]; rfl, hb⟩

set_option maxHeartbeats 1000000 in
theorem allright_any (w : World) (v : Value) (l : List (Int × Int)) (h : RatsAt w v l) (hw : Wide l) :
    Calls Try.prog 66 #[v] w fun r w' => r = .returned (.bool (allR l)) ∧ Below w.heap.size w w' := by
  have ix := contains_any w v l h hw
  clear h hw
  generalize allR l = R at *
  go_enter Try.func66, Try.ntmps66
  go_wp2_with (go_at_call 83; (with_reducible refine ix.mono ?_); rintro e w1 ⟨rfl, hb⟩)
  go_ret
  exact ⟨by simp, hb⟩
end Go.Proofs.Ytkinbbhbencipaa

namespace Go.Proofs.Ytkinbbhbencipaa
open Go.RowKit

/-- Is a term right? -/
def rightT (l : List (Int × Int)) (kn kd : Int) : Bool := decide (l.length ≤ 8) && rightB kn kd && allR l

set_option maxHeartbeats 2000000 in
theorem tright_any (w : World) (v : Value) (l : List (Int × Int)) (kn kd : Int) (h : RatsAt w v l) (hw : Wide l) (h1 : -9223372036854775808 ≤ kn) (h2 : kn ≤ 9223372036854775807) (h3 : -9223372036854775808 ≤ kd) (h4 : kd ≤ 9223372036854775807) :
    Calls Try.prog 33 #[.agg #[v, .int .i64 kn, .int .i64 kd]] w fun r w' => r = .returned (.bool (rightT l kn kd)) ∧ Below w.heap.size w w' := by
  have ra := fun w => right_any kn kd w h1 h2 h3 h4
  have al := Lib.hid (fun (w' : World) (hb : Below w.heap.size w w') => allright_any w' v l (h.below hb) hw)
  obtain ⟨A, c, rfl, h5, h6, _⟩ := id h
  have hn : l.length ≤ 9223372036854775807 := by unfold maxLen at h6; omega
  unfold rightT
  clear h hw h1 h2 h3 h4 h5 h6
  generalize rightB kn kd = R at *
  generalize allR l = Q at *
  generalize l.length = n at *
  have F := FracBox.start w (.slice A n c) (.int .i64 kn) (.int .i64 kd) 27
  have hb0 := below_alloc1 w (.cells #[.slice A n c, .int .i64 kn, .int .i64 kd] 27)
  by_cases hl : n ≤ 8
  · have i1 : (n : Int) ≤ 8 := by omega
    have i2 : decide ((n : Int) ≤ 8) = true := decide_eq_true i1
    rw [decide_eq_true hl]
    clear hl hn
    cases R
    · go_enter Try.func33, Try.ntmps33
      go_wp2_with (go_at_call 55; (with_reducible refine (ra _).mono ?_); rintro e w1 ⟨rfl, hb⟩)
      go_ret
      exact ⟨rfl, hb0.trans (hb.mono hb0.size)⟩
    · go_enter Try.func33, Try.ntmps33
      go_wp2_with (first
        | (go_at_call 55; (with_reducible refine (ra _).mono ?_); rintro e w1 ⟨rfl, hb⟩; have F := F.keep hb; have b1 := hb0.trans (hb.mono hb0.size); have k0 := F.k0; have k1 := F.k1; have k2 := F.k2)
        | (go_at_call 66; (with_reducible refine (al.out _ b1).mono ?_); rintro e w2 ⟨rfl, hb2⟩))
      go_ret
      exact ⟨rfl, b1.trans (hb2.mono b1.size)⟩
  · have i2 : decide ((n : Int) ≤ 8) = false := decide_eq_false (by omega)
    have i3 : ¬ (n : Int) ≤ 8 := by omega
    rw [decide_eq_false hl]
    clear hl hn
    go_enter Try.func33, Try.ntmps33
    go_wp2_with fail
    go_ret
    exact ⟨rfl, hb0⟩

/-- A fraction's place in a row, its cells as the walk spells them. -/
theorem rats_cells {w wr : World} {A : Option Addr} {n k : Nat} {l : List (Int × Int)} {x : Int × Int} (h4 : Reads w w.heap.size 2 A n (ratCells l)) (hb : Below w.heap.size w wr) (hx : l[k]? = some x) (hn : 0 < n) :
    ∃ ad, A = some ad ∧ wr.cell? (ad.add (k * 2)) = some (.int .i64 x.1) ∧ wr.cell? ⟨(ad.add (k * 2)).block, (ad.add (k * 2)).off + 1, none⟩ = some (.int .i64 x.2) := by
  obtain ⟨ad, rfl, c1, c2⟩ := rats_at h4 hx hn
  have hbk : ad.block < w.heap.size := by
    obtain ⟨_, e, hb, _⟩ := h4.2 hn
    injection e with e
    subst e
    exact hb
  have d1 := (hb.cell (p := ad.add (k * 2)) (by rw [block_of_add]; exact hbk)).trans c1
  have d2 := (hb.cell (p := ad.add (k * 2 + 1)) (by rw [block_of_add]; exact hbk)).trans c2
  rw [← add_of_add] at d2
  exact ⟨ad, rfl, d1, d2⟩

theorem rightT_bad {l : List (Int × Int)} {kn kd : Int} (h : allR l = false) : rightT l kn kd = false := by
  unfold rightT
  rw [h, Bool.and_false]

end Go.Proofs.Ytkinbbhbencipaa

namespace Go.Proofs.Ytkinbbhbencipaa
open Go.RowKit

/-- A row without the noughts at its end. -/
def trimL (l : List (Int × Int)) : List (Int × Int) := (l.reverse.dropWhile fun x => x.1 == 0).reverse

theorem trimL_snoc (a : List (Int × Int)) (x : Int × Int) : trimL (a ++ [x]) = if x.1 = 0 then trimL a else a ++ [x] := by
  unfold trimL
  rw [List.reverse_append, List.reverse_singleton, List.singleton_append, List.dropWhile_cons]
  by_cases h : x.1 = 0
  · rw [if_pos h, if_pos (by simpa using h)]
  · rw [if_neg h, if_neg (by simpa using h), List.reverse_cons, List.reverse_reverse]

theorem ratCells_take : ∀ (l : List (Int × Int)) (k : Nat), ratCells (l.take k) = (ratCells l).take (k * 2)
  | [], k => by simp [ratCells]
  | x :: r, 0 => by simp [ratCells]
  | x :: r, k + 1 => by
    rw [List.take_succ_cons, ratCells, ratCells, ratCells_take r k, show (k + 1) * 2 = k * 2 + 1 + 1 by omega, List.take_succ_cons, List.take_succ_cons]

theorem RatsAt.take {w : World} {A : Option Addr} {n c k : Nat} {l : List (Int × Int)} (h1 : l.length = n) (h2 : n ≤ c) (h3 : c ≤ maxLen) (h4 : Reads w w.heap.size 2 A n (ratCells l)) (hk : k ≤ n) : RatsAt w (.slice A k c) (l.take k) := by
  have e : (l.take k).length = k := by rw [List.length_take]; omega
  refine ⟨A, c, by rw [e], by omega, h3, ?_⟩
  refine ⟨by rw [ratCells_length], fun hn => ?_⟩
  obtain ⟨ad, ha, hb, hc⟩ := h4.2 (by omega)
  refine ⟨ad, ha, hb, fun j u hu => hc j u ?_⟩
  rw [ratCells_take, List.getElem?_take] at hu
  split at hu
  · exact hu
  · cases hu

/-- A row that a call answers, where the world is as it was. -/
def RatsSame (w : World) (v : Value) (l : List (Int × Int)) (e : Ending) (w' : World) : Prop := ∃ v', e = .returned v' ∧ RatsAt w v' l ∧ w = w' ∧ v'.ownBlock = v.ownBlock

set_option maxHeartbeats 2000000 in
theorem trimmed_any (w : World) (v : Value) (l : List (Int × Int)) (h : RatsAt w v l) :
    Calls Try.prog 77 #[v] w (RatsSame w v (trimL l)) := by
  obtain ⟨A, c, rfl, h2, h3, h4⟩ := h
  have h5 := h3
  unfold maxLen at h5
  obtain ⟨n, hn⟩ : ∃ n, n = l.length := ⟨_, rfl⟩
  rw [← hn] at h2 h4 ⊢
  have HN := Lib.hid hn
  clear hn
  have hn6 : n ≤ 9223372036854775807 := by omega
  go_enter Try.func77, Try.ntmps77
  go_wp2_with fail
  go_loopg [0] n (fun g v0 wx => w = wx ∧ ∃ k : Nat, k ≤ n ∧ g = k ∧ v0 = .slice A k c ∧ trimL (l.take k) = trimL l)
  case atStart => exact ⟨rfl, n, Nat.le_refl _, rfl, rfl, by rw [List.take_of_length_le (by rw [HN.out]; exact Nat.le_refl _)]⟩
  case round =>
    obtain ⟨rfl, k, hk, hg, rfl, ht⟩ := hrel
    have HT := Lib.hid ht
    have HG := Lib.hid hg
    clear ht hg
    by_cases hk0 : k = 0
    · subst hk0
      have fin : RatsAt w (.slice A 0 c) (trimL l) := by
        rw [← HT.out]
        exact RatsAt.take HN.out.symm h2 h3 h4 (Nat.zero_le n)
      have FIN := Lib.hid fin
      clear fin
      go_wp2_with fail
      go_ret
      exact ⟨_, rfl, FIN.out, rfl, by cases A <;> rfl⟩
    · have hk1 : (0 : Int) < (k : Int) := by omega
      have hkl : k - 1 < l.length := by have := HN.out; omega
      have hs : k - 1 + 1 = k := by omega
      have wk : IntKind.i64.wrap ((k : Int) - 1) = ((k - 1 : Nat) : Int) := by rw [IntWalk.i64_in _ (by omega)]; omega
      obtain ⟨x, hx⟩ : ∃ x, l[k - 1]? = some x := ⟨_, List.getElem?_eq_getElem hkl⟩
      obtain ⟨ad, rfl, d1, _⟩ := rats_cells h4 (Below.refl _ _) hx (by omega)
      have hi1 : ((k - 1 : Nat) : Int) < (k : Int) := by omega
      have hi0 : (0 : Int) ≤ ((k - 1 : Nat) : Int) := by omega
      have hic : ((k - 1 : Nat) : Int) ≤ (c : Int) := by omega
      have et : l.take k = l.take (k - 1) ++ [x] := by
        have e : l[k - 1] = x := by rw [List.getElem?_eq_getElem hkl] at hx; exact Option.some.inj hx
        rw [← e, ← List.take_succ_eq_append_getElem hkl, hs]
      have tr := HT.out
      rw [et, trimL_snoc] at tr
      by_cases hz : x.1 = 0
      · rw [if_pos hz] at tr
        rw [hz] at d1
        have TR := Lib.hid tr
        have HX := Lib.hid (And.intro hx hs)
        clear et tr hz hx hs hkl
        go_wp2_with fail
        go_roundg (k - 1)
        case measure => have := HG.out; omega
        case rel => exact ⟨rfl, k - 1, by omega, rfl, rfl, TR.out⟩
      · rw [if_neg hz, ← et] at tr
        have fin : RatsAt w (.slice (some ad) k c) (trimL l) := by rw [← tr]; exact RatsAt.take HN.out.symm h2 h3 h4 hk
        have FIN := Lib.hid fin
        have hz' : (x.1 == 0) = false := by simpa using hz
        clear et tr hz hx hs hkl fin
        go_wp2_with fail
        go_ret
        exact ⟨_, rfl, FIN.out, rfl, rfl⟩

theorem small_any (w : World) (v : Value) (l : List (Int × Int)) (kn kd : Int) (h : RatsAt w v l) :
    Calls Try.prog 9 #[.agg #[v, .int .i64 kn, .int .i64 kd]] w fun r w' => r = .returned (.bool (decide (l.length ≤ 12))) ∧ Below w.heap.size w w' := by
  obtain ⟨A, c, rfl, _, _, _⟩ := h
  have e : decide ((l.length : Int) ≤ 12) = decide (l.length ≤ 12) := decide_eq_decide.2 (by omega)
  go_enter Try.func9, Try.ntmps9
  go_wp2_with fail
  go_ret
  exact ⟨by rw [← e]; rfl, below_alloc1 _ _⟩
end Go.Proofs.Ytkinbbhbencipaa

namespace Go.Proofs.Ytkinbbhbencipaa
open Go.RowKit

theorem take_next {l m : List (Int × Int)} {k : Nat} {x : Int × Int} (h : l.take k = m.take k) (hx : l[k]? = some x) (hy : m[k]? = some x) : l.take (k + 1) = m.take (k + 1) := by
  rw [List.take_add_one, List.take_add_one, h, hx, hy]

end Go.Proofs.Ytkinbbhbencipaa

namespace Go.Proofs.Ytkinbbhbencipaa
open Go.RowKit

theorem infoR : (Try.prog.info? 25).map (fun i => (i.zero, i.size, i.bytes)) = some (some (.agg #[.int .i64 0, .int .i64 0]), 2, 16) := by kernel_rfl

/-- A row of the call's own is a row of fractions. -/
theorem own_rats {w : World} {base : Nat} {l : List (Int × Int)} {v : Value} (h : w.ownsRow base 25 2 v l.length (ratCells l)) : RatsAt w v l := by
  have h0 := h
  rcases h.2 with ⟨rfl, hn⟩ | ⟨g, cap, cur, rfl, _, hh, hnc, hrest⟩
  · have : l = [] := List.eq_nil_of_length_eq_zero (by simpa using hn)
    subst this
    exact RatsAt.nil w
  · exact ⟨some _, cap, rfl, hnc, hrest.1, Reads.of_own h0⟩

/-- A row that a call answers, in its own memory, in a world where all that is older is as it was. -/
def RatsNew (w : World) (l : List (Int × Int)) (e : Ending) (w' : World) : Prop := ∃ v', e = .returned v' ∧ RatsAt w' v' l ∧ Below w.heap.size w w' ∧ Fresh w.heap.size v'

theorem own_empty (w : World) : (w.alloc (.cells #[] 25)).ownsRow w.heap.size 25 2 (.slice (some ⟨w.heap.size, 0, none⟩) 0 0) 0 [] :=
  ⟨rfl, .inr ⟨w.heap.size, 0, #[], rfl, Nat.le_refl _, heap_alloc_new w _, Nat.le_refl _, by decide, rfl, rfl⟩⟩

theorem ratCells_one : ∀ (l : List (Int × Int)), ∀ u ∈ ratCells l, u.oneCell' = true
  | [], u, h => by cases h
  | x :: r, u, h => by
    rw [ratCells, List.mem_cons, List.mem_cons] at h
    rcases h with rfl | rfl | h
    · rfl
    · rfl
    · exact ratCells_one r u h

theorem own_block {w : World} {base k n : Nat} {v : Value} {xs : List Value} (h : w.ownsRow base 25 2 v n xs) (hk : v.ownBlock = some k) : base ≤ k := by
  rcases h.2 with ⟨rfl, _⟩ | ⟨g, cap, cur, rfl, hg, _⟩
  · cases hk
  · have : g = k := by simpa [Value.ownBlock] using hk
    omega

theorem nil_no (w : World) (ad : Addr) (n c : Nat) : (binOp .eql 23 (.slice (some ad) n c) (.slice none 0 0)).run Try.prog w = .ok (.bool false) w := by kernel_rfl
theorem nil_yes (w : World) (n c : Nat) : (binOp .eql 23 (.slice none n c) (.slice none 0 0)).run Try.prog w = .ok (.bool true) w := by kernel_rfl

end Go.Proofs.Ytkinbbhbencipaa

namespace Go.Proofs.Ytkinbbhbencipaa
open Go.RowKit

/-- A term that a call answers, its row in its own memory. -/
def TermNew (w : World) (l : List (Int × Int)) (kn kd : Int) (e : Ending) (w' : World) : Prop := ∃ v, e = .returned (.agg #[v, .int .i64 kn, .int .i64 kd]) ∧ RatsAt w' v l ∧ Below w.heap.size w w' ∧ Fresh w.heap.size v

theorem RatsAt.setCell {w : World} {B : Nat} {v : Value} {l : List (Int × Int)} (h : RatsAt w v l) (f : Fresh B v) {p : Addr} (hp : p.block < B) (x : Value) : RatsAt (w.setCell p x) v l := by
  obtain ⟨A, c, rfl, h2, h3, h4⟩ := h
  refine ⟨A, c, rfl, h2, h3, h4.1, fun hn => ?_⟩
  obtain ⟨ad, rfl, hb, hc⟩ := h4.2 hn
  have := f ad.block rfl
  refine ⟨ad, rfl, by rw [World.size_setCell]; exact hb, fun j u hu => ?_⟩
  rw [World.cell?_setCell_other _ _ _ _ (fun e => by have := congrArg Addr.block e; rw [block_of_add] at this; omega)]
  exact hc j u hu

theorem trimL_len (l : List (Int × Int)) : (trimL l).length ≤ l.length := by
  unfold trimL
  rw [List.length_reverse]
  have := (List.dropWhile_sublist (fun x : Int × Int => x.1 == 0) (l := l.reverse)).length_le
  rwa [List.length_reverse] at this

set_option maxHeartbeats 1000000 in
theorem zero_any (w : World) : Calls Try.prog 57 #[] w fun r w' => r = .returned (.agg #[.slice none 0 0, .int .i64 0, .int .i64 1]) ∧ Below w.heap.size w w' := by
  go_enter Try.func57, Try.ntmps57
  go_wp2_with fail
  exact bodyPost_ret (v := .agg #[.slice none 0 0, .int .i64 0, .int .i64 1]) (by simp [results, Try.results57, go_sem]) rfl ⟨rfl, below_alloc1 _ _⟩

theorem keep_own {w w1 w2 : World} {x0 x1 x2 : Value} (hb : Below w1.heap.size w1 w2)
    (h : (w1.cell? ⟨w.heap.size, 0, none⟩ = some x0 ∧ w1.cell? ⟨w.heap.size, 1, none⟩ = some x1 ∧ w1.cell? ⟨w.heap.size, 2, none⟩ = some x2) ∧ w.heap.size + 1 < w1.heap.size ∧ Below w.heap.size w w1 ∧ (w1.cell? ⟨w.heap.size + 1, 0, none⟩ = some (cellD w1 ⟨w.heap.size + 1, 0, none⟩) ∧ w1.cell? ⟨w.heap.size + 1, 1, none⟩ = some (cellD w1 ⟨w.heap.size + 1, 1, none⟩) ∧ w1.cell? ⟨w.heap.size + 1, 2, none⟩ = some (cellD w1 ⟨w.heap.size + 1, 2, none⟩)) ∧ (w1.frozen? ⟨w.heap.size + 1, 0, none⟩ = false ∧ w1.frozen? ⟨w.heap.size + 1, 1, none⟩ = false ∧ w1.frozen? ⟨w.heap.size + 1, 2, none⟩ = false)) :
    (w2.cell? ⟨w.heap.size, 0, none⟩ = some x0 ∧ w2.cell? ⟨w.heap.size, 1, none⟩ = some x1 ∧ w2.cell? ⟨w.heap.size, 2, none⟩ = some x2) ∧ w.heap.size + 1 < w2.heap.size ∧ Below w.heap.size w w2 ∧ (w2.cell? ⟨w.heap.size + 1, 0, none⟩ = some (cellD w2 ⟨w.heap.size + 1, 0, none⟩) ∧ w2.cell? ⟨w.heap.size + 1, 1, none⟩ = some (cellD w2 ⟨w.heap.size + 1, 1, none⟩) ∧ w2.cell? ⟨w.heap.size + 1, 2, none⟩ = some (cellD w2 ⟨w.heap.size + 1, 2, none⟩)) ∧ (w2.frozen? ⟨w.heap.size + 1, 0, none⟩ = false ∧ w2.frozen? ⟨w.heap.size + 1, 1, none⟩ = false ∧ w2.frozen? ⟨w.heap.size + 1, 2, none⟩ = false) := by
  obtain ⟨⟨a0, a1, a2⟩, g, k, ⟨i0, i1, i2⟩, ⟨j0, j1, j2⟩⟩ := h
  have hs := hb.size
  exact ⟨⟨keep_cell hb (by omega) a0, keep_cell hb (by omega) a1, keep_cell hb (by omega) a2⟩, by omega, k.trans (hb.mono k.size), ⟨cellD_of (keep_cell hb (by omega) i0), cellD_of (keep_cell hb (by omega) i1), cellD_of (keep_cell hb (by omega) i2)⟩, ⟨keep_free hb (by omega) j0, keep_free hb (by omega) j1, keep_free hb (by omega) j2⟩⟩

theorem set_own1 {w w1 : World} {x0 x1 x2 : Value} {o : Nat} {x : Value}
    (h : (w1.cell? ⟨w.heap.size, 0, none⟩ = some x0 ∧ w1.cell? ⟨w.heap.size, 1, none⟩ = some x1 ∧ w1.cell? ⟨w.heap.size, 2, none⟩ = some x2) ∧ w.heap.size + 1 < w1.heap.size ∧ Below w.heap.size w w1 ∧ (w1.cell? ⟨w.heap.size + 1, 0, none⟩ = some (cellD w1 ⟨w.heap.size + 1, 0, none⟩) ∧ w1.cell? ⟨w.heap.size + 1, 1, none⟩ = some (cellD w1 ⟨w.heap.size + 1, 1, none⟩) ∧ w1.cell? ⟨w.heap.size + 1, 2, none⟩ = some (cellD w1 ⟨w.heap.size + 1, 2, none⟩)) ∧ (w1.frozen? ⟨w.heap.size + 1, 0, none⟩ = false ∧ w1.frozen? ⟨w.heap.size + 1, 1, none⟩ = false ∧ w1.frozen? ⟨w.heap.size + 1, 2, none⟩ = false)) :
    ((w1.setCell ⟨w.heap.size + 1, o, none⟩ x).cell? ⟨w.heap.size, 0, none⟩ = some x0 ∧ (w1.setCell ⟨w.heap.size + 1, o, none⟩ x).cell? ⟨w.heap.size, 1, none⟩ = some x1 ∧ (w1.setCell ⟨w.heap.size + 1, o, none⟩ x).cell? ⟨w.heap.size, 2, none⟩ = some x2) ∧ w.heap.size + 1 < (w1.setCell ⟨w.heap.size + 1, o, none⟩ x).heap.size ∧ Below w.heap.size w (w1.setCell ⟨w.heap.size + 1, o, none⟩ x) ∧ ((w1.setCell ⟨w.heap.size + 1, o, none⟩ x).cell? ⟨w.heap.size + 1, 0, none⟩ = some (cellD (w1.setCell ⟨w.heap.size + 1, o, none⟩ x) ⟨w.heap.size + 1, 0, none⟩) ∧ (w1.setCell ⟨w.heap.size + 1, o, none⟩ x).cell? ⟨w.heap.size + 1, 1, none⟩ = some (cellD (w1.setCell ⟨w.heap.size + 1, o, none⟩ x) ⟨w.heap.size + 1, 1, none⟩) ∧ (w1.setCell ⟨w.heap.size + 1, o, none⟩ x).cell? ⟨w.heap.size + 1, 2, none⟩ = some (cellD (w1.setCell ⟨w.heap.size + 1, o, none⟩ x) ⟨w.heap.size + 1, 2, none⟩)) ∧ ((w1.setCell ⟨w.heap.size + 1, o, none⟩ x).frozen? ⟨w.heap.size + 1, 0, none⟩ = false ∧ (w1.setCell ⟨w.heap.size + 1, o, none⟩ x).frozen? ⟨w.heap.size + 1, 1, none⟩ = false ∧ (w1.setCell ⟨w.heap.size + 1, o, none⟩ x).frozen? ⟨w.heap.size + 1, 2, none⟩ = false) := by
  obtain ⟨⟨a0, a1, a2⟩, g, k, ⟨i0, i1, i2⟩, ⟨j0, j1, j2⟩⟩ := h
  have q : ∀ b o', b ≠ w.heap.size + 1 → (w1.setCell ⟨w.heap.size + 1, o, none⟩ x).cell? ⟨b, o', none⟩ = w1.cell? ⟨b, o', none⟩ := fun b o' hb => World.cell?_setCell_other _ _ _ _ (by intro e; injection e with e; exact hb e.symm)
  exact ⟨⟨(q _ _ (by omega)).trans a0, (q _ _ (by omega)).trans a1, (q _ _ (by omega)).trans a2⟩, by rw [World.size_setCell]; exact g, k.setCell (by show w.heap.size ≤ w.heap.size + 1; omega) _, ⟨cellD_set i0, cellD_set i1, cellD_set i2⟩, ⟨by rw [World.frozen?_setCell]; exact j0, by rw [World.frozen?_setCell]; exact j1, by rw [World.frozen?_setCell]; exact j2⟩⟩


theorem own_start (w : World) (A : Option Addr) (n c : Nat) (kn kd : Int) : ((((w.alloc (.cells #[.slice A n c, .int .i64 kn, .int .i64 kd] 27)).alloc (.cells #[.slice none 0 0, .int .i64 0, .int .i64 0] 27))).cell? ⟨w.heap.size, 0, none⟩ = some (.slice A n c) ∧ (((w.alloc (.cells #[.slice A n c, .int .i64 kn, .int .i64 kd] 27)).alloc (.cells #[.slice none 0 0, .int .i64 0, .int .i64 0] 27))).cell? ⟨w.heap.size, 1, none⟩ = some (.int .i64 kn) ∧ (((w.alloc (.cells #[.slice A n c, .int .i64 kn, .int .i64 kd] 27)).alloc (.cells #[.slice none 0 0, .int .i64 0, .int .i64 0] 27))).cell? ⟨w.heap.size, 2, none⟩ = some (.int .i64 kd)) ∧ w.heap.size + 1 < (((w.alloc (.cells #[.slice A n c, .int .i64 kn, .int .i64 kd] 27)).alloc (.cells #[.slice none 0 0, .int .i64 0, .int .i64 0] 27))).heap.size ∧ Below w.heap.size w (((w.alloc (.cells #[.slice A n c, .int .i64 kn, .int .i64 kd] 27)).alloc (.cells #[.slice none 0 0, .int .i64 0, .int .i64 0] 27))) ∧ ((((w.alloc (.cells #[.slice A n c, .int .i64 kn, .int .i64 kd] 27)).alloc (.cells #[.slice none 0 0, .int .i64 0, .int .i64 0] 27))).cell? ⟨w.heap.size + 1, 0, none⟩ = some (cellD (((w.alloc (.cells #[.slice A n c, .int .i64 kn, .int .i64 kd] 27)).alloc (.cells #[.slice none 0 0, .int .i64 0, .int .i64 0] 27))) ⟨w.heap.size + 1, 0, none⟩) ∧ (((w.alloc (.cells #[.slice A n c, .int .i64 kn, .int .i64 kd] 27)).alloc (.cells #[.slice none 0 0, .int .i64 0, .int .i64 0] 27))).cell? ⟨w.heap.size + 1, 1, none⟩ = some (cellD (((w.alloc (.cells #[.slice A n c, .int .i64 kn, .int .i64 kd] 27)).alloc (.cells #[.slice none 0 0, .int .i64 0, .int .i64 0] 27))) ⟨w.heap.size + 1, 1, none⟩) ∧ (((w.alloc (.cells #[.slice A n c, .int .i64 kn, .int .i64 kd] 27)).alloc (.cells #[.slice none 0 0, .int .i64 0, .int .i64 0] 27))).cell? ⟨w.heap.size + 1, 2, none⟩ = some (cellD (((w.alloc (.cells #[.slice A n c, .int .i64 kn, .int .i64 kd] 27)).alloc (.cells #[.slice none 0 0, .int .i64 0, .int .i64 0] 27))) ⟨w.heap.size + 1, 2, none⟩)) ∧ ((((w.alloc (.cells #[.slice A n c, .int .i64 kn, .int .i64 kd] 27)).alloc (.cells #[.slice none 0 0, .int .i64 0, .int .i64 0] 27))).frozen? ⟨w.heap.size + 1, 0, none⟩ = false ∧ (((w.alloc (.cells #[.slice A n c, .int .i64 kn, .int .i64 kd] 27)).alloc (.cells #[.slice none 0 0, .int .i64 0, .int .i64 0] 27))).frozen? ⟨w.heap.size + 1, 1, none⟩ = false ∧ (((w.alloc (.cells #[.slice A n c, .int .i64 kn, .int .i64 kd] 27)).alloc (.cells #[.slice none 0 0, .int .i64 0, .int .i64 0] 27))).frozen? ⟨w.heap.size + 1, 2, none⟩ = false) :=
  ⟨⟨by go_simp, by go_simp, by go_simp⟩, by simp, below_alloc2 _ _ _, ⟨cellD_of (v := .slice none 0 0) (by go_simp), cellD_of (v := .int .i64 0) (by go_simp), cellD_of (v := .int .i64 0) (by go_simp)⟩, ⟨by go_simp, by go_simp, by go_simp⟩⟩

theorem one_belowT {w w1 : World} {A B C : Prop} (h : A ∧ B ∧ Below w.heap.size w w1 ∧ C) : Below w.heap.size w w1 := h.2.2.1


end Go.Proofs.Ytkinbbhbencipaa

namespace Go.Proofs.Ytkinbbhbencipaa
open Go.RowKit

theorem keep_same {w w1 w2 : World} {x0 x1 x2 y0 y1 y2 : Value} (hb : Below w1.heap.size w1 w2)
    (h : (w1.cell? ⟨w.heap.size, 0, none⟩ = some x0 ∧ w1.cell? ⟨w.heap.size, 1, none⟩ = some x1 ∧ w1.cell? ⟨w.heap.size, 2, none⟩ = some x2 ∧ w1.cell? ⟨w.heap.size + 1, 0, none⟩ = some y0 ∧ w1.cell? ⟨w.heap.size + 1, 1, none⟩ = some y1 ∧ w1.cell? ⟨w.heap.size + 1, 2, none⟩ = some y2) ∧ w.heap.size + 1 < w1.heap.size ∧ Below w.heap.size w w1) :
    (w2.cell? ⟨w.heap.size, 0, none⟩ = some x0 ∧ w2.cell? ⟨w.heap.size, 1, none⟩ = some x1 ∧ w2.cell? ⟨w.heap.size, 2, none⟩ = some x2 ∧ w2.cell? ⟨w.heap.size + 1, 0, none⟩ = some y0 ∧ w2.cell? ⟨w.heap.size + 1, 1, none⟩ = some y1 ∧ w2.cell? ⟨w.heap.size + 1, 2, none⟩ = some y2) ∧ w.heap.size + 1 < w2.heap.size ∧ Below w.heap.size w w2 := by
  obtain ⟨⟨a0, a1, a2, a3, a4, a5⟩, g, k⟩ := h
  have hs := hb.size
  exact ⟨⟨keep_cell hb (by omega) a0, keep_cell hb (by omega) a1, keep_cell hb (by omega) a2, keep_cell hb (by omega) a3, keep_cell hb (by omega) a4, keep_cell hb (by omega) a5⟩, by omega, k.trans (hb.mono k.size)⟩


theorem same_start (w : World) (A A' : Option Addr) (n c n' c' : Nat) (kn kd : Int) : ((((w.alloc (.cells #[.slice A n c, .int .i64 kn, .int .i64 kd] 27)).alloc (.cells #[.slice A' n' c', .int .i64 kn, .int .i64 kd] 27))).cell? ⟨w.heap.size, 0, none⟩ = some (.slice A n c) ∧ (((w.alloc (.cells #[.slice A n c, .int .i64 kn, .int .i64 kd] 27)).alloc (.cells #[.slice A' n' c', .int .i64 kn, .int .i64 kd] 27))).cell? ⟨w.heap.size, 1, none⟩ = some (.int .i64 kn) ∧ (((w.alloc (.cells #[.slice A n c, .int .i64 kn, .int .i64 kd] 27)).alloc (.cells #[.slice A' n' c', .int .i64 kn, .int .i64 kd] 27))).cell? ⟨w.heap.size, 2, none⟩ = some (.int .i64 kd) ∧ (((w.alloc (.cells #[.slice A n c, .int .i64 kn, .int .i64 kd] 27)).alloc (.cells #[.slice A' n' c', .int .i64 kn, .int .i64 kd] 27))).cell? ⟨w.heap.size + 1, 0, none⟩ = some (.slice A' n' c') ∧ (((w.alloc (.cells #[.slice A n c, .int .i64 kn, .int .i64 kd] 27)).alloc (.cells #[.slice A' n' c', .int .i64 kn, .int .i64 kd] 27))).cell? ⟨w.heap.size + 1, 1, none⟩ = some (.int .i64 kn) ∧ (((w.alloc (.cells #[.slice A n c, .int .i64 kn, .int .i64 kd] 27)).alloc (.cells #[.slice A' n' c', .int .i64 kn, .int .i64 kd] 27))).cell? ⟨w.heap.size + 1, 2, none⟩ = some (.int .i64 kd)) ∧ w.heap.size + 1 < (((w.alloc (.cells #[.slice A n c, .int .i64 kn, .int .i64 kd] 27)).alloc (.cells #[.slice A' n' c', .int .i64 kn, .int .i64 kd] 27))).heap.size ∧ Below w.heap.size w (((w.alloc (.cells #[.slice A n c, .int .i64 kn, .int .i64 kd] 27)).alloc (.cells #[.slice A' n' c', .int .i64 kn, .int .i64 kd] 27))) :=
  ⟨⟨by go_simp, by go_simp, by go_simp, by go_simp, by go_simp, by go_simp⟩, by simp, below_alloc2 _ _ _⟩

theorem same_below {w w1 : World} {A B : Prop} (h : A ∧ B ∧ Below w.heap.size w w1) : Below w.heap.size w w1 := h.2.2

end Go.Proofs.Ytkinbbhbencipaa

namespace Go.Proofs.Ytkinbbhbencipaa
open Go.RowKit

theorem dropWhile_twice {α : Type} (p : α → Bool) : ∀ l : List α, (l.dropWhile p).dropWhile p = l.dropWhile p
  | [] => rfl
  | x :: r => by
    rw [List.dropWhile_cons]
    split
    · exact dropWhile_twice p r
    · rename_i h
      rw [List.dropWhile_cons, if_neg h]

/-- The own form's own form is itself. -/
theorem trimL_twice (l : List (Int × Int)) : trimL (trimL l) = trimL l := by
  unfold trimL
  rw [List.reverse_reverse, dropWhile_twice]

theorem trimL_sub (l : List (Int × Int)) : ∀ x, x ∈ trimL l → x ∈ l := by
  intro x hx
  unfold trimL at hx
  rw [List.mem_reverse] at hx
  exact List.mem_reverse.1 ((List.dropWhile_sublist _).mem hx)

theorem wide_trim {l : List (Int × Int)} (h : Wide l) : Wide (trimL l) := fun x hx => h x (trimL_sub l x hx)

theorem right_trim {l : List (Int × Int)} {kn kd : Int} (h : rightT l kn kd = true) : rightT (trimL l) kn kd = true := by
  unfold rightT allR at *
  simp only [Bool.and_eq_true, decide_eq_true_eq, List.all_eq_true] at *
  exact ⟨⟨Nat.le_trans (trimL_len l) h.1.1, h.1.2⟩, fun x hx => h.2 x (trimL_sub l x hx)⟩

/-- The last of an own form is not nought. -/
theorem trimL_last (l : List (Int × Int)) : ∀ x, (trimL l)[(trimL l).length - 1]? = some x → 0 < (trimL l).length → x.1 ≠ 0 := by
  intro x hx hl hz
  have e : (trimL l).getLast? = some x := by rw [List.getLast?_eq_getElem?]; exact hx
  unfold trimL at e
  rw [List.getLast?_reverse] at e
  cases hd : l.reverse.dropWhile (fun x => x.1 == 0) with
  | nil => rw [hd] at e; cases e
  | cons y r =>
    rw [hd] at e
    obtain rfl : y = x := by simpa using e
    have := List.head?_dropWhile_not (fun x : Int × Int => x.1 == 0) l.reverse
    rw [hd] at this
    simp [hz] at this
end Go.Proofs.Ytkinbbhbencipaa

namespace Go.Proofs.Ytkinbbhbencipaa
open Go.RowKit

/-- A variable's fraction. -/
def atL (l : List (Int × Int)) (i : Int) : Int × Int := if 0 ≤ i then (l[i.toNat]?).getD (0, 1) else (0, 1)

theorem atL_out {l : List (Int × Int)} {i : Int} (h : i < 0 ∨ (l.length : Int) ≤ i) : atL l i = (0, 1) := by
  unfold atL
  split
  · rw [List.getElem?_eq_none (by omega)]
    rfl
  · rfl
theorem atL_in {l : List (Int × Int)} {k : Nat} {x : Int × Int} (h : l[k]? = some x) : atL l (k : Int) = x := by
  unfold atL
  rw [if_pos (by omega), Int.toNat_natCast, h]
  rfl


set_option maxHeartbeats 2000000 in
theorem tat_any (w : World) (v : Value) (l : List (Int × Int)) (kn kd i : Int) (h : RatsAt w v l) :
    Calls Try.prog 46 #[.agg #[v, .int .i64 kn, .int .i64 kd], .int .i64 i] w fun r w' => r = .returned (ratV (atL l i).1 (atL l i).2) ∧ Below w.heap.size w w' := by
  obtain ⟨A, c, rfl, h2, h3, h4⟩ := h
  have hb0 := below_alloc2 w (.cells #[.slice A l.length c, .int .i64 kn, .int .i64 kd] 27) (.cells #[.int .i64 0, .int .i64 0] 25)
  by_cases hi : i < 0
  · rw [atL_out (.inl hi)]
    have d1 : decide (i < 0) = true := decide_eq_true hi
    clear h2 h3 h4
    go_enter Try.func46, Try.ntmps46
    go_wp2_with fail
    exact bodyPost_ret (v := ratV 0 1) (by simp [results, Try.results46, go_sem]) rfl ⟨rfl, (below_alloc2 _ _ _)⟩
  · have d1 : decide (i < 0) = false := decide_eq_false hi
    by_cases hl : (l.length : Int) ≤ i
    · rw [atL_out (.inr hl)]
      have d2 : decide ((l.length : Int) ≤ i) = true := decide_eq_true hl
      clear h2 h3 h4
      generalize l.length = n at *
      go_enter Try.func46, Try.ntmps46
      go_wp2_with fail
      exact bodyPost_ret (v := ratV 0 1) (by simp [results, Try.results46, go_sem]) rfl ⟨rfl, (below_alloc2 _ _ _)⟩
    · obtain ⟨k, rfl⟩ : ∃ k : Nat, i = k := ⟨i.toNat, by omega⟩
      have hk : k < l.length := by omega
      obtain ⟨x, hx⟩ : ∃ x, l[k]? = some x := ⟨_, List.getElem?_eq_getElem hk⟩
      rw [atL_in hx]
      obtain ⟨ad, rfl, d3, d4⟩ := rats_cells h4 hb0 hx (by omega)
      have d2 : decide ((l.length : Int) ≤ (k : Int)) = false := decide_eq_false hl
      have i1 : (k : Int) < (l.length : Int) := by omega
      have i2 : (0 : Int) ≤ (k : Int) := by omega
      clear h2 h3 h4 hx hi hl hk
      generalize l.length = n at *
      go_enter Try.func46, Try.ntmps46
      go_wp2_with fail
      exact bodyPost_ret (v := ratV x.1 x.2) (by simp [results, Try.results46, go_sem]) rfl ⟨rfl, (below_alloc2 _ _ _)⟩
end Go.Proofs.Ytkinbbhbencipaa

namespace Go.Proofs.Ytkinbbhbencipaa
open Go.RowKit

/-- A right fraction. -/
def OkR (x : Int × Int) : Prop := ∃ d : Nat, x.2 = d ∧ Valid x.1 d
def AllOk (l : List (Int × Int)) : Prop := ∀ x, x ∈ l → OkR x

theorem okR_of {x : Int × Int} (h : rightB x.1 x.2 = true) (hx : (-9223372036854775808 ≤ x.1 ∧ x.1 ≤ 9223372036854775807) ∧ (-9223372036854775808 ≤ x.2 ∧ x.2 ≤ 9223372036854775807)) : OkR x :=
  valid_of h hx.1.1 hx.1.2 hx.2.2
theorem OkR.right {x : Int × Int} (h : OkR x) : rightB x.1 x.2 = true := by
  obtain ⟨d, e, v⟩ := h
  rw [e]
  exact v.right
theorem OkR.wide {x : Int × Int} (h : OkR x) : (-9223372036854775808 ≤ x.1 ∧ x.1 ≤ 9223372036854775807) ∧ (-9223372036854775808 ≤ x.2 ∧ x.2 ≤ 9223372036854775807) := by
  obtain ⟨d, e, v⟩ := h
  have := v.pos; have := v.n_le; have := v.d_le
  omega
theorem OkR.pos {x : Int × Int} (h : OkR x) : 0 < x.2.toNat := by
  obtain ⟨d, e, v⟩ := h
  have := v.pos
  omega
theorem OkR.eta {x : Int × Int} (h : OkR x) : x.2 = (x.2.toNat : Int) ∧ Valid x.1 x.2.toNat := by
  obtain ⟨d, e, v⟩ := h
  rw [e]
  exact ⟨rfl, v⟩
theorem okR_nought : OkR (0, 1) := ⟨1, rfl, by decide, by decide, by decide, by decide⟩
theorem allOk_of {l : List (Int × Int)} (h : allR l = true) (hw : Wide l) : AllOk l := fun x hx => okR_of (List.all_eq_true.1 h x hx) (hw x hx)
theorem AllOk.all {l : List (Int × Int)} (h : AllOk l) : allR l = true := List.all_eq_true.2 fun x hx => (h x hx).right
theorem AllOk.wide {l : List (Int × Int)} (h : AllOk l) : Wide l := fun x hx => (h x hx).wide
theorem AllOk.at {l : List (Int × Int)} (h : AllOk l) (i : Int) : OkR (atL l i) := by
  unfold atL
  split
  · cases e : l[i.toNat]? with
    | none => exact okR_nought
    | some x => exact h x (List.mem_of_getElem? e)
  · exact okR_nought
theorem AllOk.trim {l : List (Int × Int)} (h : AllOk l) : AllOk (trimL l) := fun x hx => h x (trimL_sub l x hx)
theorem right_parts {l : List (Int × Int)} {kn kd : Int} (h : rightT l kn kd = true) (hw : Wide l) (h1 : -9223372036854775808 ≤ kn) (h2 : kn ≤ 9223372036854775807) (h3 : -9223372036854775808 ≤ kd) (h4 : kd ≤ 9223372036854775807) : l.length ≤ 8 ∧ AllOk l ∧ OkR (kn, kd) := by
  unfold rightT at h
  simp only [Bool.and_eq_true, decide_eq_true_eq] at h
  exact ⟨h.1.1, allOk_of h.2 hw, okR_of h.1.2 ⟨⟨h1, h2⟩, h3, h4⟩⟩
theorem right_mk {l : List (Int × Int)} {kn kd : Int} (h : l.length ≤ 8) (ha : AllOk l) (hk : OkR (kn, kd)) : rightT l kn kd = true := by
  unfold rightT
  rw [ha.all, decide_eq_true h, hk.right]
  rfl

/-- A result: the fraction, and the error. -/
def resT (P : Int) (Q : Nat) : (Int × Int) × Int := ((resN P Q, resD P Q), resE P Q)
theorem resT_ok {P : Int} {Q : Nat} (hQ : 0 < Q) (h : (resT P Q).2 = 0) : OkR (resT P Q).1 := by
  obtain ⟨d, h1, h2, _⟩ := res_ok hQ h
  exact ⟨d, h1, h2⟩
theorem resT_no {P : Int} {Q : Nat} (h : (resT P Q).2 ≠ 0) : resT P Q = ((0, 0), 3) := by
  obtain ⟨a, b, c⟩ := res_no h
  unfold resT
  rw [a, b, c]

/-- How two fractions are put together. -/
abbrev How := (Int × Int) → (Int × Int) → (Int × Int) × Int
structure HowOk (h : How) : Prop where
  ok : ∀ x y, OkR x → OkR y → (h x y).2 = 0 → OkR (h x y).1
  no : ∀ x y, OkR x → OkR y → (h x y).2 ≠ 0 → h x y = ((0, 0), 3)
def addH : How := fun x y => resT (x.1 * y.2 + y.1 * x.2) (x.2.toNat * y.2.toNat)
def mulH : How := fun x y => resT (x.1 * y.1) (x.2.toNat * y.2.toNat)
def scaleH (k : Int × Int) : How := fun x _ => mulH x k
theorem addH_ok : HowOk addH := ⟨fun _ _ hx hy h => resT_ok (Nat.mul_pos hx.pos hy.pos) h, fun _ _ _ _ h => resT_no h⟩
theorem mulH_ok : HowOk mulH := ⟨fun _ _ hx hy h => resT_ok (Nat.mul_pos hx.pos hy.pos) h, fun _ _ _ _ h => resT_no h⟩
theorem scaleH_ok {k : Int × Int} (hk : OkR k) : HowOk (scaleH k) := ⟨fun x _ hx _ h => mulH_ok.ok x k hx hk h, fun x _ hx _ h => mulH_ok.no x k hx hk h⟩

/-- The first k are done, the others still 0, 0. -/
def rowK (h : How) (l m : List (Int × Int)) (n k : Nat) : List (Int × Int) := (List.range n).map fun i : Nat => if i < k then (h (atL l i) (atL m i)).1 else (0, 0)
def combL (h : How) (l m : List (Int × Int)) : List (Int × Int) := (List.range (max l.length m.length)).map fun i : Nat => (h (atL l i) (atL m i)).1
def combOk (h : How) (l m : List (Int × Int)) (k : Nat) : Prop := ∀ i : Nat, i < k → (h (atL l i) (atL m i)).2 = 0

theorem rowK_len (h : How) (l m : List (Int × Int)) (n k : Nat) : (rowK h l m n k).length = n := by simp [rowK]
theorem combL_len (h : How) (l m : List (Int × Int)) : (combL h l m).length = max l.length m.length := by simp [combL]
theorem rowK_end (h : How) (l m : List (Int × Int)) : rowK h l m (max l.length m.length) (max l.length m.length) = combL h l m := by
  unfold rowK combL
  refine List.map_congr_left fun i hi => ?_
  rw [if_pos (List.mem_range.1 hi)]
theorem rowK_next (h : How) (l m : List (Int × Int)) (n k : Nat) : rowK h l m n (k + 1) = (rowK h l m n k).set k (h (atL l k) (atL m k)).1 := by
  apply List.ext_getElem?
  intro i
  rw [List.getElem?_set]
  simp only [rowK_len]
  by_cases hi : i < n
  · rw [rowK, rowK, List.getElem?_map, List.getElem?_map, List.getElem?_range hi]
    simp only [Option.map_some]
    by_cases e : k = i
    · subst e
      rw [if_pos rfl, if_pos hi, if_pos (by omega)]
    · rw [if_neg e]
      by_cases g : i < k
      · rw [if_pos g, if_pos (by omega)]
      · rw [if_neg g, if_neg (by omega)]
  · rw [List.getElem?_eq_none (by rw [rowK_len]; omega), List.getElem?_eq_none (by rw [rowK_len]; omega)]
    by_cases e : k = i
    · rw [if_pos e, if_neg (by omega)]
    · rw [if_neg e]
theorem ratCells_set : ∀ (l : List (Int × Int)) (k : Nat) (x : Int × Int), ratCells (l.set k x) = ((ratCells l).set (k * 2) (.int .i64 x.1)).set (k * 2 + 1) (.int .i64 x.2)
  | [], k, x => by simp [ratCells]
  | y :: r, 0, x => by simp [ratCells]
  | y :: r, k + 1, x => by
    rw [List.set_cons_succ, ratCells, ratCells, ratCells_set r k x, show (k + 1) * 2 = k * 2 + 1 + 1 by omega, show k * 2 + 1 + 1 + 1 = (k * 2 + 1) + 1 + 1 by omega]
    simp only [List.set_cons_succ]
theorem rowK_start (h : How) (l m : List (Int × Int)) (n : Nat) : (madeCells (.agg #[.int .i64 0, .int .i64 0] : Value).cells (n * 2)).toList = ratCells (rowK h l m n 0) := by
  apply List.ext_getElem?
  intro j
  have hl : (ratCells (rowK h l m n 0)).length = n * 2 := by rw [ratCells_length, rowK_len]
  by_cases hj : j < n * 2
  · have a : (madeCells (.agg #[.int .i64 0, .int .i64 0] : Value).cells (n * 2)).toList[j]? = some (.int .i64 0) := by
      rw [Array.getElem?_toList]
      unfold madeCells
      rw [Array.getElem?_map, Array.getElem?_range, if_pos hj]
      simp only [Option.map_some, Value.cells]
      rcases Nat.mod_two_eq_zero_or_one j with e | e <;> simp [e]
    rw [a]
    have : j < (ratCells (rowK h l m n 0)).length := by omega
    obtain ⟨u, hu⟩ : ∃ u, (ratCells (rowK h l m n 0))[j]? = some u := ⟨_, List.getElem?_eq_getElem this⟩
    rw [hu]
    have key : ∀ (q : List (Int × Int)), (∀ x, x ∈ q → x = (0, 0)) → ∀ (j : Nat) (u : Value), (ratCells q)[j]? = some u → u = Value.int .i64 0 := by
      intro q
      induction q with
      | nil => intro _ j u hu; simp [ratCells] at hu
      | cons y r ih =>
        intro hq j u hu
        obtain rfl := hq y (by simp)
        match j, hu with
        | 0, hu => simpa [ratCells] using hu.symm
        | 1, hu => simpa [ratCells] using hu.symm
        | j + 2, hu => exact ih (fun x hx => hq x (by simp [hx])) j u (by simpa [ratCells] using hu)
    rw [key _ (fun x hx => by
      unfold rowK at hx
      obtain ⟨i, _, rfl⟩ := List.mem_map.1 hx
      rw [if_neg (by omega)]) j u hu]
  · rw [List.getElem?_eq_none (by rw [Array.length_toList, size_madeCells]; omega), List.getElem?_eq_none (by omega)]
theorem combL_ok {h : How} (hh : HowOk h) {l m : List (Int × Int)} (hl : AllOk l) (hm : AllOk m) (hc : combOk h l m (max l.length m.length)) : AllOk (combL h l m) := by
  intro x hx
  unfold combL at hx
  obtain ⟨i, hi, rfl⟩ := List.mem_map.1 hx
  exact hh.ok _ _ (hl.at i) (hm.at i) (hc i (List.mem_range.1 hi))
end Go.Proofs.Ytkinbbhbencipaa

namespace Go.Proofs.Ytkinbbhbencipaa
open Go.RowKit

/-- Both parameters in their blocks. -/
theorem two_boxes (w : World) (x y z x' y' z' : Value) (ty : TypeId) : FracBox ((w.alloc (.cells #[x, y, z] ty)).alloc (.cells #[x', y', z'] ty)) w.heap.size x y z ∧ FracBox ((w.alloc (.cells #[x, y, z] ty)).alloc (.cells #[x', y', z'] ty)) (w.heap.size + 1) x' y' z' :=
  ⟨(FracBox.start w x y z ty).keep (below_alloc1 _ _), by
    have h := FracBox.start (w.alloc (.cells #[x, y, z] ty)) x' y' z' ty
    rwa [World.size_alloc] at h⟩

theorem FracBox.drewN {w : World} {b : Nat} {x y z : Value} (h : FracBox w b x y z) (q : Nat) : FracBox (w.drewN q) b x y z := h.keep (below_drewN (Below.refl _ _) _)

end Go.Proofs.Ytkinbbhbencipaa

namespace Go.Proofs.Ytkinbbhbencipaa
open Go.RowKit

theorem infoS : (Try.prog.info? 9).map (fun i => (i.zero, i.size, i.bytes)) = some (some (.string ⟨#[]⟩), 1, 16) := by kernel_rfl

/-- The summands' texts. -/
def sums (nm : Nat → List UInt8) : Nat → List (Int × Int) → List (List UInt8)
  | _, [] => []
  | k, x :: r => (if x.1 = 0 then [] else [showL x.1 x.2.toNat ++ 42 :: nm k]) ++ sums nm (k + 1) r

theorem sums_append (nm : Nat → List UInt8) : ∀ (a b : List (Int × Int)) (k : Nat), sums nm k (a ++ b) = sums nm k a ++ sums nm (k + a.length) b
  | [], b, k => by simp [sums]
  | x :: r, b, k => by
    rw [List.cons_append, sums, sums, sums_append nm r b (k + 1), List.length_cons, List.append_assoc]
    congr 3
    omega

theorem sums_next {nm : Nat → List UInt8} {l : List (Int × Int)} {k : Nat} {x : Int × Int} (hx : l[k]? = some x) :
    sums nm 0 (l.take (k + 1)) = sums nm 0 (l.take k) ++ (if x.1 = 0 then [] else [showL x.1 x.2.toNat ++ 42 :: nm k]) := by
  have hl : k < l.length := by
    rcases Nat.lt_or_ge k l.length with g | g
    · exact g
    · rw [List.getElem?_eq_none g] at hx; cases hx
  have e : l[k] = x := by rw [List.getElem?_eq_getElem hl] at hx; exact Option.some.inj hx
  rw [List.take_succ_eq_append_getElem hl, sums_append, e, List.length_take, Nat.min_eq_left (Nat.le_of_lt hl), Nat.zero_add]
  simp [sums]

/-- A text as a value. -/
abbrev txt (s : List UInt8) : Value := .string ⟨s.toArray⟩

theorem one_txt {w : World} {s : Value} : ∀ (j : Nat) (u : Value), [s][j]? = some u → (w.alloc (.cells #[s] 9)).cell? ((⟨w.heap.size, 0, none⟩ : Addr).add j) = some u := by
  intro j u h
  rcases j with _ | j
  · have : s = u := by simpa using h
    subst this
    show (w.alloc (.cells #[s] 9)).cell? ⟨w.heap.size, 0, none⟩ = _
    go_simp
  · simp at h

theorem own_ge' {w : World} {base k n : Nat} {v : Value} {xs : List Value} (h : w.ownsRow base 9 1 v n xs) (hk : v.ownBlock = some k) : base ≤ k := by
  rcases h.2 with ⟨rfl, _⟩ | ⟨g, cap, cur, rfl, hg, _⟩
  · cases hk
  · have : g = k := by simpa [Value.ownBlock] using hk
    omega

theorem below_push' {w0 w w1 : World} {n : Nat} {v : Value} {xs : List Value} {o : Obj} (hb : Below w0.heap.size w0 w) (hown : w.ownsRow w0.heap.size 9 1 v n xs) (hg : (w.alloc o).grownBy w1 v.ownBlock) : Below w0.heap.size w0 w1 :=
  (hb.alloc hb.size o).grown hg (by have := hb.size; simp; omega) (fun _ hk => own_ge' hown hk)

theorem own_below {w w1 : World} {base n : Nat} {v : Value} {xs : List Value} (h : w.ownsRow base 9 1 v n xs) (hb : Below w.heap.size w w1) : w1.ownsRow base 9 1 v n xs := by
  refine ⟨h.1, ?_⟩
  rcases h.2 with h0 | ⟨g, cap, cur, a, b, c, d⟩
  · exact .inl h0
  · refine .inr ⟨g, cap, cur, a, b, ?_, d⟩
    have hg : g < w.heap.size := by
      rcases Nat.lt_or_ge g w.heap.size with q | q
      · exact q
      · rw [Array.getElem?_eq_none q] at c; cases c
    rw [hb.block g hg]
    exact c

theorem grown_below {w4 w5 : World} {B n : Nat} {v : Value} {xs : List Value} {o : Obj} (hB : B ≤ w4.heap.size) (hown : w4.ownsRow B 9 1 v n xs) (hg : (w4.alloc o).grownBy w5 v.ownBlock) : Below B w4 w5 :=
  ((Below.refl B w4).alloc hB o).grown hg (by simp; omega) (fun _ hk => own_ge' hown hk)

theorem FracBox.keep_ {w1 w2 : World} {b B : Nat} {x y z : Value} (h : FracBox w1 b x y z) (hb : Below B w1 w2) (hlt : b < B) : FracBox w2 b x y z :=
  have t := hb.size
  have l := h.lt
  { k0 := (hb.cell (p := ⟨b, 0, none⟩) hlt).trans h.k0, k1 := (hb.cell (p := ⟨b, 1, none⟩) hlt).trans h.k1, k2 := (hb.cell (p := ⟨b, 2, none⟩) hlt).trans h.k2
    l0 := (hb.frozen (p := ⟨b, 0, none⟩) hlt).trans h.l0, l1 := (hb.frozen (p := ⟨b, 1, none⟩) hlt).trans h.l1, l2 := (hb.frozen (p := ⟨b, 2, none⟩) hlt).trans h.l2, lt := by omega }

theorem bytes_one (a c : List UInt8) : (⟨a.toArray⟩ ++ ⟨#[42]⟩ ++ ⟨c.toArray⟩ : ByteArray) = ⟨(a ++ 42 :: c).toArray⟩ := by
  apply ByteArray.ext
  simp

theorem sums_len (nm : Nat → List UInt8) : ∀ (l : List (Int × Int)) (k : Nat), (sums nm k l).length ≤ l.length
  | [], k => by simp [sums]
  | x :: r, k => by
    have := sums_len nm r (k + 1)
    rw [sums, List.length_append, List.length_cons]
    split <;> simp <;> omega

theorem showL_len {n : Int} {d : Nat} (v : Valid n d) : (showL n d).length ≤ 41 := by
  have vn := v.n_le; have vd := v.d_le
  have a := itoa_len (n := n) (by omega) (by omega)
  have b := itoa_len (n := (d : Int)) (by omega) (by omega)
  unfold showL
  rw [List.length_append]
  split
  · simp; omega
  · simp; omega



theorem sums_bound {nm : Nat → List UInt8} (hsz : ∀ k, (nm k).length ≤ 1099511627776) : ∀ (l : List (Int × Int)) (k : Nat), (∀ x ∈ l, (showL x.1 x.2.toNat).length ≤ 41) → ∀ s ∈ sums nm k l, s.length ≤ 2199023255552
  | [], k, _, s, hs => by simp [sums] at hs
  | x :: r, k, h, s, hs => by
    rw [sums, List.mem_append] at hs
    rcases hs with hs | hs
    · split at hs
      · cases hs
      · have e : s = showL x.1 x.2.toNat ++ 42 :: nm k := by simpa using hs
        have a := h x (List.mem_cons_self ..)
        have b := hsz k
        rw [e, List.length_append, List.length_cons]
        omega
    · exact sums_bound hsz r (k + 1) (fun y hy => h y (List.mem_cons_of_mem _ hy)) s hs


/-- The texts of the summands, the constant with them. -/
def allSums (nm : Nat → List UInt8) (l : List (Int × Int)) (kn kd : Int) : List (List UInt8) :=
  sums nm 0 l ++ if kn = 0 ∧ (sums nm 0 l).length ≠ 0 then [] else [showL kn kd.toNat]

end Go.Proofs.Ytkinbbhbencipaa

namespace Go.Proofs.Ytkinbbhbencipaa
open Go.RowKit



theorem half_rats (w : World) : RatsAt (w.alloc (.cells #[.int .i64 1, .int .i64 2] 25)) (.slice (some ⟨w.heap.size, 0, none⟩) 1 1) [(1, 2)] := by
  refine ⟨some _, 1, rfl, Nat.le_refl _, by decide, rfl, fun _ => ⟨_, rfl, by simp, fun j u hu => ?_⟩⟩
  rcases j with _ | _ | j
  · obtain rfl : Value.int .i64 1 = u := by simpa [ratCells] using hu
    show (w.alloc _).cell? ⟨w.heap.size, 0, none⟩ = _
    go_simp
  · obtain rfl : Value.int .i64 2 = u := by simpa [ratCells] using hu
    show (w.alloc _).cell? ⟨w.heap.size, 1, none⟩ = _
    go_simp
  · simp [ratCells] at hu

theorem half_right : rightT [(1, 2)] 3 1 = true := by
  unfold rightT allR
  rw [half.right |> fun (h : rightB 1 ((2 : Nat) : Int) = true) => (show ([((1 : Int), (2 : Int))].all fun x => rightB x.1 x.2) = true by simpa using h)]
  rw [show rightB 3 1 = true from (show Valid 3 1 from ⟨by decide, by decide, by decide, by decide⟩).right]
  rfl

end Go.Proofs.Ytkinbbhbencipaa

namespace Go.Proofs.Ytkinbbhbencipaa
open Go.RowKit Go.WideShapes Go.ChangeShapes Go.ChangeAt Go.Joins Go.Deep

theorem ratCells_inv : ∀ (l : List (Int × Int)) (j : Nat) (u : Value), (ratCells l)[j]? = some u → ∃ i x, l[i]? = some x ∧ ((j = i * 2 ∧ u = .int .i64 x.1) ∨ (j = i * 2 + 1 ∧ u = .int .i64 x.2))
  | [], j, u, h => by simp [ratCells] at h
  | y :: r, 0, u, h => ⟨0, y, rfl, .inl ⟨rfl, by simpa [ratCells] using h.symm⟩⟩
  | y :: r, 1, u, h => ⟨0, y, rfl, .inr ⟨rfl, by simpa [ratCells] using h.symm⟩⟩
  | y :: r, j + 2, u, h => by
    obtain ⟨i, x, hx, hc⟩ := ratCells_inv r j u (by simpa [ratCells] using h)
    refine ⟨i + 1, x, by simpa using hx, ?_⟩
    rcases hc with ⟨rfl, rfl⟩ | ⟨rfl, rfl⟩
    · exact .inl ⟨by omega, rfl⟩
    · exact .inr ⟨by omega, rfl⟩

section
variable {H : Type} {enc : TypeId × Value → H} {w : World} {base : Nat} {spare : Nat → Bool} {held : Bool}

/-- A slice of fractions that reads as data is a row of fractions. -/
theorem open_rats {fuel : Nat} {c0 : Value} {x : DataW H × List MemPlace} (h : DataW.trod enc Try.prog w base spare held fuel 23 [c0] = some x) : ∃ l, RatsAt w c0 l ∧ Wide l := by
  rcases open_slice_pairs Try.underlying23 Try.underlying25 Try.cellsRat rfl rfl (by kernel_rfl) (by kernel_rfl) h with ⟨hc, _⟩ | ⟨a, len, cap, m, n, V0, V1, D0, D1, P0, P1, hc, hb, hl, hm, hmm, _, hi⟩
  · obtain rfl : c0 = .slice none 0 0 := by simpa using hc
    exact ⟨[], RatsAt.nil w, fun x hx => by cases hx⟩
  · obtain rfl : c0 = .slice (some a) len cap := by simpa using hc
    have hlm : len ≤ m := by rw [hmm]; split <;> omega
    have each : ∀ i, i < len → ∃ q : Int × Int, (w.cell? (a.add (i * 2)) = some (.int .i64 q.1) ∧ w.cell? (a.add (i * 2 + 1)) = some (.int .i64 q.2)) ∧ (-9223372036854775808 ≤ q.1 ∧ q.1 ≤ 9223372036854775807) ∧ (-9223372036854775808 ≤ q.2 ∧ q.2 ≤ 9223372036854775807) := by
      intro i hil
      obtain ⟨c0, c1, t0, t1⟩ := hi i (by omega)
      obtain ⟨n0, e0, _, w0⟩ := DataW.trod_int Try.underlying2 t0
      obtain ⟨n1, e1, _, w1⟩ := DataW.trod_int Try.underlying2 t1
      simp only [List.cons.injEq, and_true] at e0 e1
      rw [e0] at c0
      rw [e1] at c1
      exact ⟨(n0, n1), ⟨c0, c1⟩, wf_i64 w0, wf_i64 w1⟩
    obtain ⟨q, hq⟩ := choose_lt each
    have hlen : ((List.range len).map q).length = len := by simp
    refine ⟨(List.range len).map q, ⟨some a, cap, by rw [hlen], by rw [hlen]; exact hl, hm, ?_⟩, fun x hx => ?_⟩
    · rw [hlen]
      refine ⟨by rw [ratCells_length, hlen], fun hn => ⟨a, rfl, ?_, fun j u hu => ?_⟩⟩
      · have := World.block_lt_of_cell? _ _ (hq 0 hn).1.1
        rwa [block_of_add] at this
      · obtain ⟨i, x, hx, hc⟩ := ratCells_inv _ j u hu
        rw [List.getElem?_map] at hx
        have hil : i < len := by
          rcases Nat.lt_or_ge i len with g | g
          · exact g
          · rw [List.getElem?_eq_none (by simpa using g)] at hx; cases hx
        rw [List.getElem?_range hil] at hx
        obtain rfl : q i = x := by simpa using hx
        rcases hc with ⟨rfl, rfl⟩ | ⟨rfl, rfl⟩
        · exact (hq i hil).1.1
        · exact (hq i hil).1.2
    · obtain ⟨i, hil, rfl⟩ := List.mem_map.1 hx
      exact (hq i (List.mem_range.1 hil)).2

set_option maxRecDepth 10000 in
/-- A term among the arguments. -/
theorem open_term {b0 : Nat} {r : Reach} {v : Value} {d : DataW H} {p : List MemPlace} (hv : Value.okWide Try.prog w r b0 27 v) (h : DataW.Trod enc Try.prog w base spare held 27 v d p) :
    ∃ s l kn kd, v = .agg #[s, .int .i64 kn, .int .i64 kd] ∧ RatsAt w s l ∧ Wide l ∧ (-9223372036854775808 ≤ kn ∧ kn ≤ 9223372036854775807) ∧ (-9223372036854775808 ≤ kd ∧ kd ≤ 9223372036854775807) := by
  obtain ⟨⟨cs⟩, rfl, hsz⟩ := okWide_struct Try.underlying27 hv
  have hC : Try.prog.cellsOf 27 = 3 := by kernel_rfl
  have hA : Try.prog.cellsOf 23 = 1 := by kernel_rfl
  match cs, hsz.trans hC with
  | [c0, c1, c2], _ =>
    obtain ⟨fuel, hf⟩ := h
    obtain ⟨xs, n, _, _, _, hlen, hg⟩ := DataW.trod_struct Try.underlying27 hf
    match xs, hlen with
    | [y0, y1], _ =>
      have g0 := hg 0 _ rfl
      have g1 := hg 1 _ rfl
      simp [hA, Try.cellsRat, Value.cells] at g0 g1
      obtain ⟨l, hl, hw⟩ := open_rats g0
      obtain ⟨ys, n', _, _, _, hlen', hg'⟩ := DataW.trod_struct Try.underlying25 g1
      match ys, hlen' with
      | [z0, z1], _ =>
        have hI : Try.prog.cellsOf 2 = 1 := by kernel_rfl
        have k0 := hg' 0 _ rfl
        have k1 := hg' 1 _ rfl
        simp [hI] at k0 k1
        obtain ⟨n0, e0, _, w0⟩ := DataW.trod_int Try.underlying2 k0
        obtain ⟨n1, e1, _, w1⟩ := DataW.trod_int Try.underlying2 k1
        simp only [List.cons.injEq, and_true] at e0 e1
        subst e0 e1
        exact ⟨c0, l, n0, n1, rfl, hl, hw, wf_i64 w0, wf_i64 w1⟩
end
end Go.Proofs.Ytkinbbhbencipaa
