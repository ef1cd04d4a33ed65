/-
  The walks of package tree's numbers, names, has, is; slices.Index, Contains of numbers. (Template: by-name.py fills it.)
-/
import Derived.Test.YtabnjiijgbigbaaDoorTreB
import Derived.Test.YtabnjiijgbigbaaDoorLexK
import Derived.BigQuiet
import Derived.Deep.QuietTactic
namespace Go.Proofs.YtabnjiijgbigbaaDoor
open Go.RowKit

theorem all_snoc {α : Type} {f : α → Bool} {l : List α} {k : Nat} {x : α} (hk : l[k]? = some x) (h : (l.take k).all f = true) : (l.take (k + 1)).all f = f x := by
  rw [List.take_add_one, hk, List.all_append, h, Bool.true_and]
  simp
theorem all_not {α : Type} {f : α → Bool} {l : List α} {k : Nat} {x : α} (hk : l[k]? = some x) (h : f x = false) : l.all f = false := by
  rw [List.all_eq_false]
  exact ⟨x, List.mem_of_getElem? hk, by rw [h]; decide⟩

set_option maxHeartbeats 2000000 in
theorem numbers_any (w : World) (v : Value) (l : List Int) (h : IntsL w v l) :
    Calls Tryd.prog 39 #[v] w fun e w' => e = .returned (.bool (numbersB l)) ∧ w = w' := by
  obtain ⟨A, cp, rfl, h2, h3, h4⟩ := h
  obtain ⟨n, hn⟩ : ∃ n, n = l.length := ⟨_, rfl⟩
  have hmx : n ≤ 9223372036854775807 := by unfold maxLen at h3; omega
  rw [← hn] at h2 h4 ⊢
  have HN := Lib.hid (And.intro hn hmx)
  have H4 := Lib.hid h4
  clear hn h2 h3 h4 hmx
  go_enter Tryd.func39, Tryd.ntmps39
  go_wp2_with fail
  go_loopg [7] n (fun g v7 wr => w = wr ∧ ∃ k : Nat, v7 = .int .i64 k ∧ k ≤ n ∧ g = n - k ∧ numbersB (l.take k) = true)
  case atStart => exact ⟨rfl, 0, rfl, Nat.zero_le _, rfl, rfl⟩
  case round =>
    obtain ⟨rfl, k, rfl, hk, hg, hall⟩ := hrel
    by_cases hkn : k = n
    · have e : l.take k = l := by rw [hkn, HN.out.1]; exact List.take_length
      rw [e] at hall
      have FIN := Lib.hid hall
      subst hkn
      clear hk hg hall e
      go_wp2_with fail
      go_ret
      exact ⟨by rw [FIN.out]; rfl, rfl⟩
    · have hlt : k < n := by omega
      obtain ⟨x, hx⟩ : ∃ x, l[k]? = some x := ⟨_, List.getElem?_eq_getElem (by have := HN.out.1; omega)⟩
      obtain ⟨ad, rfl, d0⟩ := ints_at H4.out (Below.refl _ _) hx (by omega)
      have nxt : numbersB (l.take (k + 1)) = _ := all_snoc hx hall
      have bad : _ → numbersB l = false := all_not hx
      have i1 : (k : Int) < (n : Int) := by omega
      have i2 : (0 : Int) ≤ (k : Int) := by omega
      have wk : IntKind.i64.wrap ((k : Int) + 1) = (k : Int) + 1 := IntWalk.i64_in _ (by have := HN.out.2; omega)
      have HK := Lib.hid (And.intro hlt hg)
      have NX := Lib.hid (And.intro nxt bad)
      clear nxt bad hx hkn hlt hk hg hall
      by_cases q1 : x < 0
      · have e : numbersB l = false := NX.out.2 (by rw [decide_eq_false (show ¬ 0 ≤ x by omega)]; rfl)
        have FIN := Lib.hid e
        clear e
        go_wp2_with fail
        go_ret
        exact ⟨by rw [FIN.out]; rfl, rfl⟩
      · by_cases q2 : 1000000000000000000 ≤ x
        · have e : numbersB l = false := NX.out.2 (by rw [decide_eq_false (show ¬ x < 1000000000000000000 by omega), Bool.and_false])
          have FIN := Lib.hid e
          clear e
          go_wp2_with fail
          go_ret
          exact ⟨by rw [FIN.out]; rfl, rfl⟩
        · have e := Lib.hid (NX.out.1.trans (by rw [decide_eq_true (show 0 ≤ x by omega), decide_eq_true (show x < 1000000000000000000 by omega)]; rfl : _ = true))
          go_wp2_with fail
          go_roundg (n - (k + 1))
          case measure => have := HK.out; omega
          case rel => exact ⟨rfl, k + 1, by push_cast; rfl, by have := HK.out; omega, rfl, e.out⟩

set_option maxHeartbeats 2000000 in
theorem names_any (w : World) (v : Value) (l : List (List UInt8)) (h : StrsL w v l) (ht : StrRow w 0 keysL) :
    Calls Tryd.prog 38 #[v] w fun e w' => e = .returned (.bool (namesB l)) ∧ w = w' := by
  obtain ⟨A, cp, rfl, h2, h3, h4, h5⟩ := h
  obtain ⟨n, hn⟩ : ∃ n, n = l.length := ⟨_, rfl⟩
  have hmx : n ≤ 9223372036854775807 := by unfold maxLen at h3; omega
  rw [← hn] at h2 h4 ⊢
  have HN := Lib.hid (And.intro hn (And.intro hmx (And.intro h5 ht)))
  have H4 := Lib.hid h4
  clear hn h2 h3 h4 hmx h5 ht
  go_enter Tryd.func38, Tryd.ntmps38
  go_wp2_with fail
  go_loopg [7] n (fun g v7 wr => w = wr ∧ ∃ k : Nat, v7 = .int .i64 k ∧ k ≤ n ∧ g = n - k ∧ namesB (l.take k) = true)
  case atStart => exact ⟨rfl, 0, rfl, Nat.zero_le _, rfl, rfl⟩
  case round =>
    obtain ⟨rfl, k, rfl, hk, hg, hall⟩ := hrel
    by_cases hkn : k = n
    · have e : l.take k = l := by rw [hkn, HN.out.1]; exact List.take_length
      rw [e] at hall
      have FIN := Lib.hid hall
      subst hkn
      clear hk hg hall e
      go_wp2_with fail
      go_ret
      exact ⟨by rw [FIN.out]; rfl, rfl⟩
    · have hlt : k < n := by omega
      obtain ⟨x, hx⟩ : ∃ x, l[k]? = some x := ⟨_, List.getElem?_eq_getElem (by have := HN.out.1; omega)⟩
      obtain ⟨ad, rfl, d0⟩ := strs_at H4.out (Below.refl _ _) hx (by omega)
      have nxt : namesB (l.take (k + 1)) = isName x := all_snoc hx hall
      have bad : isName x = false → namesB l = false := all_not hx
      have na := name_any ⟨x.toArray⟩ w (by show x.toArray.size ≤ maxLen; simpa using HN.out.2.2.1 x (List.mem_of_getElem? hx)) HN.out.2.2.2
      have na : Calls Tryd.prog 47 #[txt x] w (Still w (.bool (isName x))) := by simpa using na
      have i1 : (k : Int) < (n : Int) := by omega
      have i2 : (0 : Int) ≤ (k : Int) := by omega
      have wk : IntKind.i64.wrap ((k : Int) + 1) = (k : Int) + 1 := IntWalk.i64_in _ (by have := HN.out.2.1; omega)
      have HK := Lib.hid (And.intro hlt hg)
      have NX := Lib.hid (And.intro nxt bad)
      have NA := Lib.hid na
      clear nxt bad hx hkn hlt hk hg hall na
      generalize isName x = B at *
      cases B
      · have FIN := Lib.hid (NX.out.2 rfl)
        go_wp2_with (go_at_call 47; (with_reducible refine NA.out.mono ?_); rintro e1 w1 ⟨rfl, rfl⟩)
        go_ret
        exact ⟨by rw [FIN.out]; rfl, rfl⟩
      · go_wp2_with (go_at_call 47; (with_reducible refine NA.out.mono ?_); rintro e1 w1 ⟨rfl, rfl⟩)
        go_roundg (n - (k + 1))
        case measure => have := HK.out; omega
        case rel => exact ⟨rfl, k + 1, by push_cast; rfl, by have := HK.out; omega, rfl, NX.out.1⟩

/-- A node as a value. -/
def ndV (x : NdV × Nd) : Value := .agg #[.int .i64 x.2.kind, x.1.1, x.1.2.1, x.1.2.2, .int .i64 x.2.pos]
set_option maxHeartbeats 1000000 in
theorem has_any (w : World) (x : NdV × Nd) (a b : Nat) (h : NdAt w x) :
    Calls Tryd.prog 49 #[ndV x, .int .i64 a, .int .i64 b] w fun e w' => e = .returned (.bool (hasB x.2 a b)) ∧ Below w.heap.size w w' := by
  obtain ⟨⟨A, c, e1, _⟩, ⟨A2, c2, e2, _⟩, A3, c3, e3, _⟩ := h
  obtain ⟨⟨v1, v2, v3⟩, kd, ws, ns, ks, ps⟩ := x
  dsimp only at e1 e2 e3
  subst e1 e2 e3
  unfold ndV hasB
  dsimp only
  have hb := Lib.hid (below_alloc1 w (.cells #[.int .i64 kd, .slice A ws.length c, .slice A2 ns.length c2, .slice A3 ks.length c3, .int .i64 ps] 30))
  by_cases q : ws.length = a
  · have t1 : ((ws.length : Int) == (a : Int)) = true := by rw [q]; exact beq_self_eq_true _
    by_cases q2 : ns.length = b
    · have t2 : ((ns.length : Int) == (b : Int)) = true := by rw [q2]; exact beq_self_eq_true _
      have Q := Lib.hid (And.intro q q2)
      clear q q2
      go_enter Tryd.func49, Tryd.ntmps49
      go_wp2_with fail
      go_ret
      exact ⟨by rw [decide_eq_true Q.out.1, decide_eq_true Q.out.2]; rfl, hb.out⟩
    · have t2 : ((ns.length : Int) == (b : Int)) = false := by simpa using fun e => q2 (by omega)
      have Q := Lib.hid (And.intro q q2)
      clear q q2
      go_enter Tryd.func49, Tryd.ntmps49
      go_wp2_with fail
      go_ret
      exact ⟨by rw [decide_eq_true Q.out.1, decide_eq_false Q.out.2]; rfl, hb.out⟩
  · have t1 : ((ws.length : Int) == (a : Int)) = false := by simpa using fun e => q (by omega)
    have Q := Lib.hid q
    clear q
    go_enter Tryd.func49, Tryd.ntmps49
    go_wp2_with fail
    go_ret
    exact ⟨by rw [decide_eq_false Q.out]; rfl, hb.out⟩

/-! ### Numbers in a list -/
theorem int_snoc {l : List Int} {k : Nat} {x c : Int} (hk : l[k]? = some x) (h : (l.take k).contains c = false) : (l.take (k + 1)).contains c = (c == x) := by
  rw [List.take_add_one, hk, List.contains_eq_any_beq, List.any_append, ← List.contains_eq_any_beq, h, Bool.false_or]
  simp
set_option maxHeartbeats 2000000 in
theorem tidx_any (w : World) (v : Value) (l : List Int) (c : Int) (h : IntsL w v l) :
    Calls Tryd.prog 75 #[v, .int .i64 c] w fun e w' => (∃ z : Int, e = .returned (.int .i64 z) ∧ decide (0 ≤ z) = l.contains c) ∧ w = w' := by
  obtain ⟨A, cp, rfl, h2, h3, h4⟩ := h
  obtain ⟨n, hn⟩ : ∃ n, n = l.length := ⟨_, rfl⟩
  have hmx : n ≤ 9223372036854775807 := by unfold maxLen at h3; omega
  rw [← hn] at h2 h4 ⊢
  have HN := Lib.hid (And.intro hn hmx)
  have H4 := Lib.hid h4
  clear hn h2 h3 h4 hmx
  go_enter Tryd.func75, Tryd.ntmps75
  go_wp2_with fail
  go_loopg [8] n (fun g v8 wr => w = wr ∧ ∃ k : Nat, v8 = .int .i64 k ∧ k ≤ n ∧ g = n - k ∧ (l.take k).contains c = false)
  case atStart => exact ⟨rfl, 0, rfl, Nat.zero_le _, rfl, rfl⟩
  case round =>
    obtain ⟨rfl, k, rfl, hk, hg, hall⟩ := hrel
    by_cases hkn : k = n
    · have e : l.take k = l := by rw [hkn, HN.out.1]; exact List.take_length
      rw [e] at hall
      have FIN := Lib.hid (show decide ((0 : Int) ≤ -1) = l.contains c from by rw [hall]; rfl)
      subst hkn
      clear hk hg hall e
      go_wp2_with fail
      go_ret
      exact ⟨⟨_, rfl, FIN.out⟩, rfl⟩
    · have hlt : k < n := by omega
      obtain ⟨x, hx⟩ : ∃ x, l[k]? = some x := ⟨_, List.getElem?_eq_getElem (by have := HN.out.1; omega)⟩
      obtain ⟨ad, rfl, d0⟩ := ints_at H4.out (Below.refl _ _) hx (by omega)
      have nxt := int_snoc (c := c) hx hall
      have hit : (c == x) = true → decide ((0 : Int) ≤ (k : Int)) = l.contains c := fun q => by
        have q : c = x := by simpa using q
        rw [show l.contains c = true by rw [q]; simpa using List.mem_of_getElem? hx]
        exact decide_eq_true (by omega)
      have i1 : (k : Int) < (n : Int) := by omega
      have i2 : (0 : Int) ≤ (k : Int) := by omega
      have wk : IntKind.i64.wrap ((k : Int) + 1) = (k : Int) + 1 := IntWalk.i64_in _ (by have := HN.out.2; omega)
      have HK := Lib.hid (And.intro hlt hg)
      have NX := Lib.hid (And.intro nxt hit)
      clear nxt hit hx hkn hlt hk hg hall
      cases hq : (c == x)
      · go_wp2_with fail
        go_roundg (n - (k + 1))
        case measure => have := HK.out; omega
        case rel => exact ⟨rfl, k + 1, by push_cast; rfl, by have := HK.out; omega, rfl, NX.out.1.trans hq⟩
      · go_wp2_with fail
        go_ret
        exact ⟨⟨_, rfl, NX.out.2 hq⟩, rfl⟩
set_option maxHeartbeats 1000000 in
theorem tcon_any (w : World) (v : Value) (l : List Int) (c : Int) (h : IntsL w v l) :
    Calls Tryd.prog 67 #[v, .int .i64 c] w fun e w' => e = .returned (.bool (l.contains c)) ∧ w = w' := by
  have ix := tidx_any w v l c h
  clear h
  go_enter Tryd.func67, Tryd.ntmps67
  go_wp2_with (go_at_call 75; (with_reducible refine ix.mono ?_); rintro e w1 ⟨⟨z, rfl, hz⟩, rfl⟩; have HZ := Lib.hid hz; clear hz)
  go_ret
  exact ⟨by rw [← HZ.out]; rfl, rfl⟩
end Go.Proofs.YtabnjiijgbigbaaDoor
