/-
  The walk of the reference's Equal of two terms. (Template: by-name.py fills it.)
-/
import Derived.Test.YtkgndeiddjkhmaaDoorTermD
import Derived.Test.YtkgndeiddjkhmaaDoorNumJ
namespace Go.Proofs.YtkgndeiddjkhmaaDoor
open Go.RowKit

/-- Both parameters in their blocks. -/
theorem two_boxes (w : World) (x y z x' y' z' : Value) (ty : TypeId) : FracBox ((w.alloc (.cells #[x, y, z] ty)).alloc (.cells #[x', y', z'] ty)) w.heap.size x y z ∧ FracBox ((w.alloc (.cells #[x, y, z] ty)).alloc (.cells #[x', y', z'] ty)) (w.heap.size + 1) x' y' z' :=
  ⟨(FracBox.start w x y z ty).keep (below_alloc1 _ _), by
    have h := FracBox.start (w.alloc (.cells #[x, y, z] ty)) x' y' z' ty
    rwa [World.size_alloc] at h⟩

theorem FracBox.drewN {w : World} {b : Nat} {x y z : Value} (h : FracBox w b x y z) (q : Nat) : FracBox (w.drewN q) b x y z := h.keep (below_drewN (Below.refl _ _) _)

set_option maxHeartbeats 4000000 in
theorem r2equal_any (w : World) (v v' : Value) (l m : List (Int × Int)) (kn kd kn' kd' : Int) (h : RatsAt w v l) (h' : RatsAt w v' m) :
    Calls Tryd.prog 14 #[.agg #[v, .int .i64 kn, .int .i64 kd], .agg #[v', .int .i64 kn', .int .i64 kd']] w fun r w' => r = .returned (.bool (decide (l = m ∧ kn = kn' ∧ kd = kd'))) ∧ Below w.heap.size w w' := by
  obtain ⟨A, c, rfl, h2, h3, h4⟩ := h
  obtain ⟨A', c', rfl, h2', h3', h4'⟩ := h'
  obtain ⟨V, hV⟩ : ∃ V, V = decide (l = m ∧ kn = kn' ∧ kd = kd') := ⟨_, rfl⟩
  rw [← hV]
  have hmx : l.length ≤ 9223372036854775807 := by unfold maxLen at h3; omega
  have hb0 := below_alloc2 w (.cells #[.slice A l.length c, .int .i64 kn, .int .i64 kd] 26) (.cells #[.slice A' m.length c', .int .i64 kn', .int .i64 kd'] 26)
  obtain ⟨F, G⟩ := two_boxes w (.slice A l.length c) (.int .i64 kn) (.int .i64 kd) (.slice A' m.length c') (.int .i64 kn') (.int .i64 kd') 26
  have hk : (kn == kn') = false ∨ (kn == kn') = true ∧ (kd == kd') = false ∨ kn = kn' ∧ kd = kd' := by
    by_cases a : kn = kn'
    · by_cases b : kd = kd'
      · exact .inr (.inr ⟨a, b⟩)
      · exact .inr (.inl ⟨by simpa using a, by simpa using b⟩)
    · exact .inl (by simpa using a)
  rcases hk with e1 | ⟨e1, e2⟩ | ⟨rfl, rfl⟩
  · obtain rfl : V = false := hV.trans (decide_eq_false (fun a => by rw [a.2.1] at e1; simp at e1))
    clear hV h4 h4' F G
    go_enter Tryd.func14, Tryd.ntmps14
    go_wp2_with fail
    go_ret
    exact ⟨rfl, hb0⟩
  · obtain rfl : V = false := hV.trans (decide_eq_false (fun a => by rw [a.2.2] at e2; simp at e2))
    clear hV h4 h4' F G
    go_enter Tryd.func14, Tryd.ntmps14
    go_wp2_with fail
    go_ret
    exact ⟨rfl, hb0⟩
  by_cases hlen : l.length = m.length
  · have HV := Lib.hid hV
    rw [← hlen] at h4' F G hb0 ⊢
    obtain ⟨n, hn⟩ : ∃ n, n = l.length := ⟨_, rfl⟩
    rw [← hn] at h4 h4' F G hb0 ⊢
    have HN := Lib.hid (And.intro hn (And.intro (hn.trans hlen) (And.intro h4 (And.intro h4' (hn ▸ hmx)))))
    clear hV h2 h3 h4 h2' h3' h4' hn hlen hmx
    go_enter Tryd.func14, Tryd.ntmps14
    go_wp2_with fail
    go_loopg [5] n (fun g v5 wr => ∃ k : Nat, v5 = .int .i64 k ∧ k ≤ n ∧ g = n - k ∧ l.take k = m.take k ∧ FracBox wr w.heap.size (.slice A n c) (.int .i64 kn) (.int .i64 kd) ∧ FracBox wr (w.heap.size + 1) (.slice A' n c') (.int .i64 kn) (.int .i64 kd) ∧ Below w.heap.size w wr)
    case atStart => exact ⟨0, rfl, Nat.zero_le _, rfl, rfl, F, G, hb0⟩
    case round =>
      clear F G hb0
      obtain ⟨k, rfl, hk, hg, hall, F, G, hb⟩ := hrel
      have k0 := F.k0; have g0 := G.k0
      by_cases hkn : k = n
      · have e : l = m := by
          have a := HN.out
          rw [hkn, List.take_of_length_le (by rw [a.1]; exact Nat.le_refl _), List.take_of_length_le (by rw [a.2.1]; exact Nat.le_refl _)] at hall
          exact hall
        obtain rfl : V = true := HV.out.trans (decide_eq_true (by simpa using e))
        subst hkn
        have HB := Lib.hid hb
        clear hk hg hall hb e F G
        go_wp2_with fail
        go_ret
        exact ⟨rfl, HB.out⟩
      · have hlt : k < n := by omega
        obtain ⟨x, hx⟩ : ∃ x, l[k]? = some x := ⟨_, List.getElem?_eq_getElem (by have := HN.out.1; omega)⟩
        obtain ⟨y, hy⟩ : ∃ y, m[k]? = some y := ⟨_, List.getElem?_eq_getElem (by have := HN.out.2.1; omega)⟩
        obtain ⟨ad, rfl, d1, d3⟩ := rats_cells HN.out.2.2.1 hb hx (by omega)
        obtain ⟨ad', rfl, d1', d3'⟩ := rats_cells HN.out.2.2.2.1 hb hy (by omega)
        have i1 : (k : Int) < (n : Int) := by omega
        have i2 : (0 : Int) ≤ (k : Int) := by omega
        have wk : IntKind.i64.wrap ((k : Int) + 1) = (k : Int) + 1 := IntWalk.i64_in _ (by have := HN.out; omega)
        have hns : x ≠ y → l ≠ m := fun a b => by rw [b, hy] at hx; exact a (Option.some.inj hx).symm
        have hxy : (x.1 == y.1) = false ∨ (x.1 == y.1) = true ∧ (x.2 == y.2) = false ∨ x = y := by
          by_cases a : x.1 = y.1
          · by_cases b : x.2 = y.2
            · exact .inr (.inr (Prod.ext a b))
            · exact .inr (.inl ⟨by simpa using a, by simpa using b⟩)
          · exact .inl (by simpa using a)
        have HK := Lib.hid (And.intro hlt (And.intro hg (And.intro hb (And.intro hall (And.intro hx (And.intro hy (And.intro F G)))))))
        have NS := Lib.hid hns
        clear hk hg hall hb hkn hlt hx hy hns F G
        rcases hxy with e1 | ⟨e1, e2⟩ | rfl
        · obtain rfl : V = false := HV.out.trans (decide_eq_false (fun q => NS.out (fun a => by rw [a] at e1; simp at e1) q.1))
          go_upto_region 6 with fail
          go_quiet (fail)
          go_wp2_with fail
          go_ret
          exact ⟨rfl, below_drewN HK.out.2.2.1 _⟩
        · obtain rfl : V = false := HV.out.trans (decide_eq_false (fun q => NS.out (fun a => by rw [a] at e2; simp at e2) q.1))
          go_upto_region 6 with fail
          go_quiet (fail)
          go_wp2_with fail
          go_ret
          exact ⟨rfl, below_drewN HK.out.2.2.1 _⟩
        · go_upto_region 6 with fail
          go_quiet (fail)
          go_wp2_with fail
          go_roundg (n - (k + 1))
          case measure => have := HK.out; omega
          case rel => exact ⟨k + 1, by push_cast; rfl, by have := HK.out; omega, rfl, take_next HK.out.2.2.2.1 HK.out.2.2.2.2.1 HK.out.2.2.2.2.2.1, HK.out.2.2.2.2.2.2.1.drewN _, HK.out.2.2.2.2.2.2.2.drewN _, below_drewN HK.out.2.2.1 _⟩
  · obtain rfl : V = false := hV.trans (decide_eq_false (fun e => hlen (by rw [e.1])))
    have hl1 : ((l.length : Int) == (m.length : Int)) = false := by simpa using fun e => hlen (by omega)
    have hl2 : ((l.length : Int) != (m.length : Int)) = true := by simpa using fun e => hlen (by omega)
    generalize l.length = a at *
    generalize m.length = b at *
    clear hV h4 h4' hlen F G
    go_enter Tryd.func14, Tryd.ntmps14
    go_wp2_with fail
    go_ret
    exact ⟨rfl, hb0⟩
end Go.Proofs.YtkgndeiddjkhmaaDoor
