/-
  The walk of slices.Equal on rows of fractions. (Template: by-name.py fills it.)
-/
import Derived.Test.YtkgndeiddjkhmaaDoorTermC
import Derived.BigQuiet
import Derived.Deep.QuietTactic
namespace Go.Proofs.YtkgndeiddjkhmaaDoor
open Go.RowKit

theorem take_next {l m : List (Int × Int)} {k : Nat} {x : Int × Int} (h : l.take k = m.take k) (hx : l[k]? = some x) (hy : m[k]? = some x) : l.take (k + 1) = m.take (k + 1) := by
  rw [List.take_add_one, List.take_add_one, h, hx, hy]

set_option maxHeartbeats 2000000 in
theorem equal_any (w : World) (v v' : Value) (l m : List (Int × Int)) (h : RatsAt w v l) (h' : RatsAt w v' m) :
    Calls Tryd.prog 47 #[v, v'] w fun r w' => r = .returned (.bool (decide (l = m))) ∧ Below w.heap.size w w' := by
  obtain ⟨A, c, rfl, h2, h3, h4⟩ := h
  obtain ⟨A', c', rfl, h2', h3', h4'⟩ := h'
  obtain ⟨V, hV⟩ : ∃ V, V = decide (l = m) := ⟨_, rfl⟩
  rw [← hV]
  have HV := Lib.hid hV
  have hmx : l.length ≤ 9223372036854775807 := by unfold maxLen at h3; omega
  by_cases hlen : l.length = m.length
  · rw [← hlen] at h4' ⊢
    obtain ⟨n, hn⟩ : ∃ n, n = l.length := ⟨_, rfl⟩
    rw [← hn] at h4 h4' ⊢
    have HN := Lib.hid (And.intro hn (And.intro (hn.trans hlen) (And.intro h4 (And.intro h4' (hn ▸ hmx)))))
    clear hV h2 h3 h4 h2' h3' h4' hn hlen hmx
    go_enter Tryd.func47, Tryd.ntmps47
    go_wp2_with fail
    go_loopg [13] n (fun g v13 wr => ∃ k : Nat, v13 = .int .i64 k ∧ k ≤ n ∧ g = n - k ∧ l.take k = m.take k ∧ Below w.heap.size w wr)
    case atStart => exact ⟨0, rfl, Nat.zero_le _, rfl, rfl, Below.refl _ _⟩
    case round =>
      obtain ⟨k, rfl, hk, hg, hall, hb⟩ := hrel
      by_cases hkn : k = n
      · have e : l = m := by
          have a := HN.out
          rw [hkn, List.take_of_length_le (by rw [a.1]; exact Nat.le_refl _), List.take_of_length_le (by rw [a.2.1]; exact Nat.le_refl _)] at hall
          exact hall
        obtain rfl : V = true := HV.out.trans (decide_eq_true e)
        subst hkn
        have HB := Lib.hid hb
        clear hk hg hall hb e
        go_wp2_with fail
        go_ret
        exact ⟨rfl, HB.out⟩
      · have hlt : k < n := by omega
        obtain ⟨x, hx⟩ : ∃ x, l[k]? = some x := ⟨_, List.getElem?_eq_getElem (by have := HN.out.1; omega)⟩
        obtain ⟨y, hy⟩ : ∃ y, m[k]? = some y := ⟨_, List.getElem?_eq_getElem (by have := HN.out.2.1; omega)⟩
        obtain ⟨ad, rfl, d1, d3⟩ := rats_cells HN.out.2.2.1 hb hx (by omega)
        obtain ⟨ad', rfl, d1', d3'⟩ := rats_cells HN.out.2.2.2.1 hb hy (by omega)
        have i1 : (k : Int) < (n : Int) := by omega
        have i2 : (0 : Int) ≤ (k : Int) := by omega
        have wk : IntKind.i64.wrap ((k : Int) + 1) = (k : Int) + 1 := IntWalk.i64_in _ (by have := HN.out; omega)
        have hns : x ≠ y → l ≠ m := fun a b => by rw [b, hy] at hx; exact a (Option.some.inj hx).symm
        have hxy : (x.1 == y.1) = false ∨ (x.1 == y.1) = true ∧ (x.2 == y.2) = false ∨ x = y := by
          by_cases a : x.1 = y.1
          · by_cases b : x.2 = y.2
            · exact .inr (.inr (Prod.ext a b))
            · exact .inr (.inl ⟨by simpa using a, by simpa using b⟩)
          · exact .inl (by simpa using a)
        have HK := Lib.hid (And.intro hlt (And.intro hg (And.intro hb (And.intro hall (And.intro hx hy)))))
        have NS := Lib.hid hns
        clear hk hg hall hb hkn hlt hx hy hns
        rcases hxy with e1 | ⟨e1, e2⟩ | rfl
        · obtain rfl : V = false := HV.out.trans (decide_eq_false (NS.out (fun a => by rw [a] at e1; simp at e1)))
          go_upto_region 6 with fail
          go_quiet (fail)
          go_wp2_with fail
          go_ret
          exact ⟨rfl, below_drewN HK.out.2.2.1 _⟩
        · obtain rfl : V = false := HV.out.trans (decide_eq_false (NS.out (fun a => by rw [a] at e2; simp at e2)))
          go_upto_region 6 with fail
          go_quiet (fail)
          go_wp2_with fail
          go_ret
          exact ⟨rfl, below_drewN HK.out.2.2.1 _⟩
        · go_upto_region 6 with fail
          go_quiet (fail)
          go_wp2_with fail
          go_roundg (n - (k + 1))
          case measure => have := HK.out; omega
          case rel => exact ⟨k + 1, by push_cast; rfl, by have := HK.out; omega, rfl, take_next HK.out.2.2.2.1 HK.out.2.2.2.2.1 HK.out.2.2.2.2.2, below_drewN HK.out.2.2.1 _⟩
  · obtain rfl : V = false := hV.trans (decide_eq_false (fun e => hlen (by rw [e])))
    have hl1 : ((l.length : Int) == (m.length : Int)) = false := by simpa using fun e => hlen (by omega)
    have hl2 : ((l.length : Int) != (m.length : Int)) = true := by simpa using fun e => hlen (by omega)
    generalize l.length = a at *
    generalize m.length = b at *
    clear hV h4 h4' hlen
    go_enter Tryd.func47, Tryd.ntmps47
    go_wp2_with fail
    go_ret
    exact ⟨rfl, Below.refl _ _⟩
end Go.Proofs.YtkgndeiddjkhmaaDoor
