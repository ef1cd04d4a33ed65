/-
  The walk of the reference's first. (Template: by-name.py fills it.)
-/
import Derived.Test.YtocmhidkfjahcaaJGauW
namespace Go.Proofs.Ytocmhidkfjahcaa
open Go.RowKit

/-- A term that isn't taken in which a variable stands. -/
def selF (x : Int) (t : Trm) (k : Int) : Bool := decide (k < 0) && prHas x t
/-- The first one, or -1. -/
def FirstOf (x : Int) (ts : List Trm) (tk : List Int) (z : Int) : Prop :=
  (z = -1 ∧ ∀ (i : Nat) (t : Trm) (k : Int), ts[i]? = some t → tk[i]? = some k → selF x t k = false) ∨
  ∃ i : Nat, z = i ∧ (∃ t k, ts[i]? = some t ∧ tk[i]? = some k ∧ selF x t k = true) ∧ ∀ (j : Nat) (t : Trm) (k : Int), j < i → ts[j]? = some t → tk[j]? = some k → selF x t k = false
def FirstPut (w : World) (x : Int) (ts : List Trm) (tk : List Int) (e : Ending) (w' : World) : Prop := ∃ z : Int, e = .returned (.int .i64 z) ∧ FirstOf x ts tk z ∧ Below w.heap.size w w'

set_option maxRecDepth 10000 in
set_option maxHeartbeats 4000000 in
theorem rfirst_any (w : World) (v vt : Value) (ts : List Trm) (tk : List Int) (x : Int) (h : TermsAt w v ts) (ht : IntsAt w vt tk) (hl : tk.length = ts.length) :
    Calls Try.prog 41 #[v, vt, .int .i64 x] w (FirstPut w x ts tk) := by
  obtain ⟨A, c, rs, rfl, h2, h3, h4, h5, h6⟩ := h
  obtain ⟨B, d, rfl, g2, g3, g4⟩ := ht
  rw [hl] at g4 ⊢
  obtain ⟨n, hn⟩ : ∃ n, n = ts.length := ⟨_, rfl⟩
  have hrn : rs.length = n := by rw [hn, ← h4, List.length_map]
  have hmx : n ≤ 9223372036854775807 := by unfold maxLen at h3; omega
  rw [← hn] at h2 h5 g4 hl ⊢
  have HN := Lib.hid (And.intro hrn (And.intro h4 (And.intro hmx (And.intro h6 (And.intro hn hl)))))
  have H5 := Lib.hid (And.intro h5 g4)
  clear hn hrn h2 h3 h4 h5 h6 hmx g2 g3 g4 hl
  go_enter Try.func41, Try.ntmps41
  go_wp2_with fail
  go_loopg [7] n (fun g v7 wr => ∃ k : Nat, v7 = .int .i64 k ∧ k ≤ n ∧ g = n - k ∧ (∀ (j : Nat) (t : Trm) (y : Int), j < k → ts[j]? = some t → tk[j]? = some y → selF x t y = false) ∧ Below w.heap.size w wr)
  case atStart => exact ⟨0, rfl, Nat.zero_le _, rfl, fun j _ _ hj => absurd hj (Nat.not_lt_zero _), Below.refl _ _⟩
  case round =>
    obtain ⟨k, rfl, hk, hg, hall, hb⟩ := hrel
    by_cases hkn : k = n
    · have FIN := Lib.hid (show FirstPut w x ts tk (.returned (.int .i64 (-1))) wr from ⟨-1, rfl, .inl ⟨rfl, fun i t y hi hy => hall i t y (by have := get_lt hi; have := HN.out.2.2.2.2.1; omega) hi hy⟩, hb⟩)
      subst hkn
      clear hk hg hall hb
      go_wp2_with fail
      go_ret
      exact FIN.out
    · have hlt : k < n := by omega
      obtain ⟨u, hu⟩ : ∃ u, rs[k]? = some u := ⟨_, List.getElem?_eq_getElem (by have := HN.out.1; omega)⟩
      obtain ⟨y, hy⟩ : ∃ y, tk[k]? = some y := ⟨_, List.getElem?_eq_getElem (by have := HN.out.2.2.2.2.2; omega)⟩
      obtain ⟨ad, rfl, d0, d1, d2⟩ := terms_cells H5.out.1 hb hu (by omega)
      obtain ⟨bd, rfl, e1⟩ := ints_cells H5.out.2 hb hy (by omega)
      have hr := (HN.out.2.2.2.1 u (List.mem_of_getElem? hu)).below hb
      have hut : ts[k]? = some u.2 := by rw [← HN.out.2.1, List.getElem?_map, hu]; rfl
      have at_ := rat_any wr u.1 u.2.1 u.2.2.1 u.2.2.2 x hr
      have nxt : selF x u.2 y = false → ∀ (j : Nat) (t : Trm) (z : Int), j < k + 1 → ts[j]? = some t → tk[j]? = some z → selF x t z = false := fun q j t z hj h1 h2 => by
        rcases Nat.lt_or_ge j k with g | g
        · exact hall j t z g h1 h2
        · obtain rfl : j = k := by omega
          rw [hut] at h1
          rw [hy] at h2
          obtain rfl := Option.some.inj h1
          obtain rfl := Option.some.inj h2
          exact q
      have hit : selF x u.2 y = true → FirstOf x ts tk k := fun q => .inr ⟨k, rfl, ⟨_, _, hut, hy, q⟩, hall⟩
      have sel : selF x u.2 y = (decide (y < 0) && ((atL u.2.1 x).1 != 0)) := rfl
      have i1 : (k : Int) < (n : Int) := by omega
      have i2 : (0 : Int) ≤ (k : Int) := by omega
      have wk : IntKind.i64.wrap ((k : Int) + 1) = (k : Int) + 1 := IntWalk.i64_in _ (by have := HN.out.2.2.1; omega)
      generalize atL u.2.1 x = r at *
      obtain ⟨r1, r2⟩ := r
      have hfd : ∀ w : World, (Instr.field 36 (.agg #[.int .i64 r1, .int .i64 r2]) 0).run Try.prog w = .ok (.int .i64 r1) w := fun _ => by kernel_rfl
      obtain ⟨u0, ul, u1, u2⟩ := u
      dsimp only at *
      rw [sel] at nxt hit
      have HB := Lib.hid hb
      have HK := Lib.hid (And.intro hlt hg)
      have AT := Lib.hid at_
      have NX := Lib.hid (And.intro nxt hit)
      clear hr hut nxt hit hu hy hkn hlt hk hg hall hb at_ sel
      by_cases hy0 : y < 0
      rotate_left
      · have f1 : decide (y < 0) = false := decide_eq_false hy0
        go_wp2_with fail
        go_roundg (n - (k + 1))
        case measure => have := HK.out; omega
        case rel => exact ⟨k + 1, by push_cast; rfl, by have := HK.out; omega, rfl, NX.out.1 (by rw [decide_eq_false (by omega)]; rfl), HB.out⟩
      · have f1 : decide (y < 0) = true := decide_eq_true hy0
        cases hR : (r1 != 0)
        · go_wp2_with (go_at_call 20; (with_reducible refine AT.out.mono ?_); rintro e w1 ⟨rfl, hb1⟩)
          go_roundg (n - (k + 1))
          case measure => have := HK.out; omega
          case rel => exact ⟨k + 1, by push_cast; rfl, by have := HK.out; omega, rfl, NX.out.1 (by rw [hR, Bool.and_false]), HB.out.trans (hb1.mono HB.out.size)⟩
        · go_wp2_with (go_at_call 20; (with_reducible refine AT.out.mono ?_); rintro e w1 ⟨rfl, hb1⟩)
          go_ret
          exact ⟨k, rfl, NX.out.2 (by rw [decide_eq_true (by omega), hR]; rfl), HB.out.trans (hb1.mono HB.out.size)⟩
end Go.Proofs.Ytocmhidkfjahcaa
