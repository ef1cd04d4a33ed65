/-
  Lists of fractions in memory; the walks of package term's allRight, Right. (Template: by-name.py fills it.)
-/
import Derived.Test.YtkgndeiddjkhmaaDoorWords
import Derived.Test.YtkgndeiddjkhmaaDoorRatH
import Derived.Deep.LoopGhost
namespace Go.Proofs.YtkgndeiddjkhmaaDoor
open Go.RowKit

/-- The cells of a row of fractions. -/
def ratCells : List (Int × Int) → List Value
  | [] => []
  | x :: r => .int .i64 x.1 :: .int .i64 x.2 :: ratCells r

theorem ratCells_length : ∀ l, (ratCells l).length = l.length * 2
  | [] => rfl
  | x :: r => by rw [ratCells, List.length_cons, List.length_cons, ratCells_length r, List.length_cons]; omega
theorem ratCells_at : ∀ (l : List (Int × Int)) (k : Nat) (x : Int × Int), l[k]? = some x → (ratCells l)[k * 2]? = some (.int .i64 x.1) ∧ (ratCells l)[k * 2 + 1]? = some (.int .i64 x.2)
  | [], k, x, h => by simp at h
  | y :: r, 0, x, h => by
    obtain rfl : y = x := by simpa using h
    exact ⟨rfl, rfl⟩
  | y :: r, k + 1, x, h => by
    rw [List.getElem?_cons_succ] at h
    obtain ⟨a, b⟩ := ratCells_at r k x h
    exact ⟨by rw [show (k + 1) * 2 = k * 2 + 1 + 1 by omega]; exact a, by rw [show (k + 1) * 2 + 1 = k * 2 + 1 + 1 + 1 by omega]; exact b⟩

/-- A slice of fractions. -/
def RatsAt (w : World) (v : Value) (l : List (Int × Int)) : Prop := ∃ A c, v = .slice A l.length c ∧ l.length ≤ c ∧ c ≤ maxLen ∧ Reads w w.heap.size 2 A l.length (ratCells l)

theorem RatsAt.below {w w' : World} {v : Value} {l : List (Int × Int)} (h : RatsAt w v l) (hb : Below w.heap.size w w') : RatsAt w' v l := by
  obtain ⟨A, c, h1, h2, h3, h4⟩ := h
  exact ⟨A, c, h1, h2, h3, (h4.below hb).more hb.size⟩
theorem RatsAt.nil (w : World) : RatsAt w (.slice none 0 0) [] := ⟨none, 0, rfl, Nat.le_refl _, by decide, Reads.none_⟩
theorem rats_at {w : World} {A : Option Addr} {n : Nat} {l : List (Int × Int)} (h4 : Reads w w.heap.size 2 A n (ratCells l)) {k : Nat} {x : Int × Int} (hk : l[k]? = some x) (hn : 0 < n) :
    ∃ ad, A = some ad ∧ w.cell? (ad.add (k * 2)) = some (.int .i64 x.1) ∧ w.cell? (ad.add (k * 2 + 1)) = some (.int .i64 x.2) := by
  obtain ⟨ad, ha, _, hc⟩ := h4.2 hn
  obtain ⟨a, b⟩ := ratCells_at l k x hk
  exact ⟨ad, ha, hc _ _ a, hc _ _ b⟩

def allR (l : List (Int × Int)) : Bool := l.all fun x => rightB x.1 x.2

/-- All numbers of the row are of 64 bits. -/
def Wide (l : List (Int × Int)) : Prop := ∀ x, x ∈ l → (-9223372036854775808 ≤ x.1 ∧ x.1 ≤ 9223372036854775807) ∧ (-9223372036854775808 ≤ x.2 ∧ x.2 ≤ 9223372036854775807)

set_option maxHeartbeats 1000000 in
theorem notright_any (n d : Int) (w : World) (ra : ∀ w, Calls Tryd.prog 29 #[ratV n d] w fun r w' => r = .returned (.bool (rightB n d)) ∧ Below w.heap.size w w') :
    Calls Tryd.prog 53 #[ratV n d] w fun r w' => r = .returned (.bool (!rightB n d)) ∧ Below w.heap.size w w' := by
  have L := (Live.start w).box n d
  generalize rightB n d = R at *
  go_enter Tryd.func53, Tryd.ntmps53
  go_wp2_with (go_at_call 29; (with_reducible refine (ra _).mono ?_); rintro e w1 ⟨rfl, hb⟩; have L := L.call hb)
  go_ret
  exact ⟨rfl, L.below⟩

theorem allR_take {l : List (Int × Int)} {k : Nat} {x : Int × Int} (hk : l[k]? = some x) (h : allR (l.take k) = true) : allR (l.take (k + 1)) = rightB x.1 x.2 := by
  have hl : k < l.length := by
    rcases Nat.lt_or_ge k l.length with g | g
    · exact g
    · rw [List.getElem?_eq_none g] at hk; cases hk
  unfold allR at *
  rw [List.take_succ_eq_append_getElem hl, List.all_append, h, Bool.true_and]
  have e : l[k] = x := by rw [List.getElem?_eq_getElem hl] at hk; exact Option.some.inj hk
  rw [e]
  simp
theorem allR_bad {l : List (Int × Int)} {k : Nat} {x : Int × Int} (hk : l[k]? = some x) (h : rightB x.1 x.2 = false) : allR l = false := by
  unfold allR
  rw [List.all_eq_false]
  exact ⟨x, List.mem_of_getElem? hk, by rw [h]; decide⟩

set_option maxHeartbeats 2000000 in
theorem index_any (w : World) (v : Value) (l : List (Int × Int)) (h : RatsAt w v l) (hw : Wide l) :
    Calls Tryd.prog 73 #[v, .func (.func 53) #[] #[]] w fun r w' => ∃ z : Int, r = .returned (.int .i64 z) ∧ (decide (0 ≤ z) = !allR l) ∧ Below w.heap.size w w' := by
  obtain ⟨A, c, rfl, h2, h3, h4⟩ := h
  have h5 := h3
  unfold maxLen at h5
  obtain ⟨n, hn⟩ : ∃ n, n = l.length := ⟨_, rfl⟩
  rw [← hn] at h2 h4 ⊢
  have HN := Lib.hid (And.intro hn (And.intro hw (And.intro h2 h5)))
  have H4 := Lib.hid h4
  clear hn hw h2 h3 h4 h5
  go_enter Tryd.func73, Tryd.ntmps73
  go_wp2_with fail
  go_loopg [8] n (fun g v8 wr => ∃ k : Nat, v8 = .int .i64 k ∧ k ≤ n ∧ g = n - k ∧ allR (l.take k) = true ∧ Below w.heap.size w wr)
  case atStart => exact ⟨0, rfl, Nat.zero_le _, rfl, by rw [List.take_zero]; rfl, Below.refl _ _⟩
  case round =>
    obtain ⟨k, rfl, hk, hg, hall, hb⟩ := hrel
    by_cases hkn : k = n
    · have hal : allR l = true := by rw [hkn, HN.out.1, List.take_length] at hall; exact hall
      subst hkn
      have HB := Lib.hid (And.intro hal hb)
      clear hk hg hall hb hal
      go_wp2_with fail
      go_ret
      exact ⟨-1, rfl, by rw [HB.out.1]; rfl, HB.out.2⟩
    · have hlt : k < n := by omega
      obtain ⟨x, hx⟩ : ∃ x, l[k]? = some x := ⟨_, List.getElem?_eq_getElem (by have := HN.out.1; omega)⟩
      obtain ⟨ad, rfl, c1, c2⟩ := rats_at H4.out hx (by omega)
      obtain ⟨hx1, hx2⟩ := HN.out.2.1 x (List.mem_of_getElem? hx)
      have hbk : ad.block < w.heap.size := by
        obtain ⟨_, e, hb, _⟩ := H4.out.2 (by omega)
        injection e with e
        subst e
        exact hb
      have d1 := (hb.cell (p := ad.add (k * 2)) (by rw [block_of_add]; exact hbk)).trans c1
      have d2 := (hb.cell (p := ad.add (k * 2 + 1)) (by rw [block_of_add]; exact hbk)).trans c2
      rw [← add_of_add] at d2
      have d3 : wr.cell? ⟨(ad.add (k * 2)).block, (ad.add (k * 2)).off + 1, none⟩ = some (.int .i64 x.2) := d2
      clear d2
      have nr := fun w => notright_any x.1 x.2 w (fun w => right_any x.1 x.2 w hx1.1 hx1.2 hx2.1 hx2.2)
      have nxt := allR_take hx hall
      have bad := @allR_bad l k x hx
      have i1 : (k : Int) < (n : Int) := by omega
      have i2 : (0 : Int) ≤ (k : Int) := by omega
      have wk : IntKind.i64.wrap ((k : Int) + 1) = (k : Int) + 1 := IntWalk.i64_in _ (by have := HN.out; omega)
      generalize rightB x.1 x.2 = R at *
      generalize x.1 = xn at *
      generalize x.2 = xd at *
      have HK := Lib.hid (And.intro hlt (And.intro hg hb))
      have NX := Lib.hid (And.intro nxt bad)
      clear hk hg hall hb hkn hlt hx hx1 hx2 c1 c2 hbk nxt bad
      cases R
      · go_wp2_with (go_at_call 53; (with_reducible refine (nr _).mono ?_); rintro e w1 ⟨rfl, hb1⟩)
        go_ret
        exact ⟨k, rfl, by rw [NX.out.2 trivial]; simp, HK.out.2.2.trans (hb1.mono HK.out.2.2.size)⟩
      · go_wp2_with (go_at_call 53; (with_reducible refine (nr _).mono ?_); rintro e w1 ⟨rfl, hb1⟩)
        go_roundg (n - (k + 1))
        case measure => have := HK.out; omega
        case rel => exact ⟨k + 1, by push_cast; rfl, by have := HK.out; omega, rfl, NX.out.1, HK.out.2.2.trans (hb1.mono HK.out.2.2.size)⟩

set_option maxHeartbeats 1000000 in
theorem contains_any (w : World) (v : Value) (l : List (Int × Int)) (h : RatsAt w v l) (hw : Wide l) :
    Calls Tryd.prog 52 #[v, .func (.func 53) #[] #[]] w fun r w' => r = .returned (.bool (!allR l)) ∧ Below w.heap.size w w' := by
  have ix := index_any w v l h hw
  clear h hw
  generalize allR l = R at *
  go_enter Tryd.func52, Tryd.ntmps52
  go_wp2_with (go_at_call 73; (with_reducible refine ix.mono ?_); rintro e w1 ⟨z, rfl, hz, hb⟩)
  go_ret
  exact ⟨by rw [← hz]; rfl, hb⟩

set_option maxHeartbeats 1000000 in
theorem allright_any (w : World) (v : Value) (l : List (Int × Int)) (h : RatsAt w v l) (hw : Wide l) :
    Calls Tryd.prog 33 #[v] w fun r w' => r = .returned (.bool (allR l)) ∧ Below w.heap.size w w' := by
  have ix := contains_any w v l h hw
  clear h hw
  generalize allR l = R at *
  go_enter Tryd.func33, Tryd.ntmps33
  go_wp2_with (go_at_call 52; (with_reducible refine ix.mono ?_); rintro e w1 ⟨rfl, hb⟩)
  go_ret
  exact ⟨by simp, hb⟩
end Go.Proofs.YtkgndeiddjkhmaaDoor
