/-
  The walks of package rat's numbers of 128 bits: times, smaller, plus, rest, over. Conditions: the numbers lie in their kinds. (Template: by-name.py fills it.)
-/
import Derived.Test.YthlogaenbnhobaaDoorRatDiv
import Derived.Shelf.Spec.BitsCarry
import Derived.Deep.RegionHeld3
import Derived.Deep.RegionWith
namespace Go.Proofs.YthlogaenbnhobaaDoor
open Go.RowKit

/-- The upper and the lower word. -/
def up (m : Nat) : Nat := m / 18446744073709551616
def lw (m : Nat) : Nat := m % 18446744073709551616
theorem lw_lt (m : Nat) : lw m < 18446744073709551616 := Nat.mod_lt _ (by decide)
theorem up_lt {m : Nat} (h : m < 340282366920938463463374607431768211456) : up m < 18446744073709551616 := by unfold up; omega
theorem up_lw (m : Nat) : up m * 18446744073709551616 + lw m = m := by unfold up lw; omega
abbrev wideV (s : Bool) (m : Nat) : Value := .agg #[.bool s, .int .u64 (up m : Nat), .int .u64 (lw m : Nat)]

theorem mul64 (x y : Nat) (w : World) (hx : x < 18446744073709551616) (hy : y < 18446744073709551616) :
    Calls Tryd.prog 39 #[.int .u64 x, .int .u64 y] w fun e w' => e = .returned (.tuple #[.int .u64 (up (x * y) : Nat), .int .u64 (lw (x * y) : Nat)]) ∧ w = w' :=
  (Tryd.bits_Mul64 x y hx hy w).mono fun _ _ ⟨he, hw⟩ => ⟨he, hw.symm⟩

set_option maxHeartbeats 400000 in
theorem times_any (n : Int) (b : Nat) (w : World) (h1 : -9223372036854775808 ≤ n) (h2 : n ≤ 9223372036854775807) (h3 : b < 18446744073709551616) :
    Calls Tryd.prog 45 #[.int .i64 n, .int .u64 b] w fun e w' => e = .returned (wideV (decide (n < 0)) (n.natAbs * b)) ∧ Below w.heap.size w w' := by
  have c1 := fun w => size_any n w h1 h2
  have c2 := fun w => mul64 n.natAbs b w (by omega) h3
  clear h1 h2 h3
  go_enter Tryd.func45, Tryd.ntmps45
  go_wp2_with (first
    | (go_at_call 38; refine (c1 _).mono ?_; rintro e w' ⟨rfl, rfl⟩)
    | (go_at_call 39; refine (c2 _).mono ?_; rintro e w' ⟨rfl, rfl⟩))
  exact bodyPost_ret (v := wideV (decide (n < 0)) (n.natAbs * b)) (by simp [results, Tryd.results45, go_sem]) rfl ⟨rfl, (Below.refl _ _).alloc (Nat.le_refl _) _⟩

/-- Is the one less? -/
def lessB (m k : Nat) : Bool := decide (m < k)

set_option maxHeartbeats 400000 in
theorem smaller_any (s t : Bool) (m k : Nat) (w : World) :
    Calls Tryd.prog 50 #[wideV s m, wideV t k] w fun e w' => e = .returned (.bool (lessB m k)) ∧
      w' = (w.alloc (.cells #[.bool s, .int .u64 (up m : Nat), .int .u64 (lw m : Nat)] 71)).alloc (.cells #[.bool t, .int .u64 (up k : Nat), .int .u64 (lw k : Nat)] 71) := by
  have m1 := up_lw m
  have k1 := up_lw k
  have m2 := lw_lt m
  have k2 := lw_lt k
  obtain ⟨a, ha⟩ : ∃ a, a = up m := ⟨_, rfl⟩
  obtain ⟨b, hb⟩ : ∃ b, b = lw m := ⟨_, rfl⟩
  obtain ⟨c, hc⟩ : ∃ c, c = up k := ⟨_, rfl⟩
  obtain ⟨d, hd⟩ : ∃ d, d = lw k := ⟨_, rfl⟩
  unfold wideV
  rw [← ha, ← hb] at m1 ⊢
  rw [← hc, ← hd] at k1 ⊢
  rw [← hb] at m2
  rw [← hd] at k2
  clear ha hb hc hd
  obtain ⟨r, hr⟩ : ∃ r, r = lessB m k := ⟨_, rfl⟩
  rw [← hr]
  unfold lessB at hr
  by_cases h1 : a < c
  · have d1 : decide (a < c) = true := decide_eq_true h1
    obtain rfl : r = true := by rw [hr]; exact decide_eq_true (by omega)
    clear hr m1 k1 m2 k2 h1
    go_enter Tryd.func50, Tryd.ntmps50
    go_wp2
    go_ret
    exact ⟨rfl, rfl⟩
  · have d1 : decide (a < c) = false := decide_eq_false h1
    by_cases h2 : a = c
    · obtain rfl : r = decide (b < d) := by rw [hr]; congr 1; apply propext; omega
      subst h2
      clear hr m1 k1 m2 k2 h1
      go_enter Tryd.func50, Tryd.ntmps50
      go_wp2
      go_ret
      exact ⟨rfl, rfl⟩
    · obtain rfl : r = false := by rw [hr]; exact decide_eq_false (by omega)
      have d2 : ((a : Int) == (c : Int)) = false := by simp; omega
      have d3 : (a == c) = false := by simp; omega
      clear hr m1 k1 m2 k2 h1
      go_enter Tryd.func50, Tryd.ntmps50
      go_wp2
      go_ret
      exact ⟨rfl, rfl⟩

theorem add64_run (x y c : Nat) (hc : c ≤ 1) (w : World) :
    (callFunc 49 #[.int .u64 x, .int .u64 y, .int .u64 c]).run Tryd.prog w =
      .ok (.value (.tuple #[.int .u64 (((x + y + c) % 18446744073709551616 : Nat) : Int), .int .u64 (((x + y + c) / 18446744073709551616 : Nat) : Int)])) w := by
  rw [run_callFunc_extern Tryd.func49 (by kernel_rfl) (by kernel_rfl) (by kernel_rfl) (e := add64Entry) (by kernel_rfl), run_add64 x y c (by omega) (by omega) (by omega) (by omega)]
  simp only [Result.andThen]
  congr 5 <;> omega

theorem sub64_run (x y b : Nat) (hb : b ≤ 1) (w : World) :
    (callFunc 51 #[.int .u64 x, .int .u64 y, .int .u64 b]).run Tryd.prog w =
      .ok (.value (.tuple #[.int .u64 (((x + 18446744073709551616 - y - b) % 18446744073709551616 : Nat) : Int), .int .u64 ((if x < y + b then 1 else 0 : Nat) : Int)])) w := by
  rw [run_callFunc_extern Tryd.func51 (by kernel_rfl) (by kernel_rfl) (by kernel_rfl) (e := sub64Entry) (by kernel_rfl), run_sub64 x y b hb]
  rfl

/-- The sum of two numbers with signs: its sign, its size. -/
def plusS (s : Bool) (m : Nat) (t : Bool) (k : Nat) : Bool := if s = t then s else if m < k then t else s
def plusM (s : Bool) (m : Nat) (t : Bool) (k : Nat) : Nat := if s = t then m + k else if m < k then k - m else m - k

theorem sum_words {m k : Nat} (h : m + k < 340282366920938463463374607431768211456) :
    (lw m + lw k + 0) % 18446744073709551616 = lw (m + k) ∧ (up m + up k + (lw m + lw k + 0) / 18446744073709551616) % 18446744073709551616 = up (m + k) ∧ (lw m + lw k + 0) / 18446744073709551616 ≤ 1 := by
  unfold lw up; omega

theorem sub_words {m k : Nat} (h : k ≤ m) (hm : m < 340282366920938463463374607431768211456) :
    (lw m + 18446744073709551616 - lw k - 0) % 18446744073709551616 = lw (m - k) ∧ (up m + 18446744073709551616 - up k - (if lw m < lw k + 0 then 1 else 0)) % 18446744073709551616 = up (m - k) ∧ (if lw m < lw k + 0 then 1 else 0) ≤ 1 := by
  unfold lw up; split <;> omega

set_option maxHeartbeats 1000000 in
theorem plus_same (s : Bool) (m k : Nat) (w : World) (h : m + k < 340282366920938463463374607431768211456) :
    Calls Tryd.prog 46 #[wideV s m, wideV s k] w fun e w' => e = .returned (wideV s (m + k)) ∧ Below w.heap.size w w' := by
  obtain ⟨e1, e2, e3⟩ := sum_words h
  have a1 := fun w => add64_run (lw m) (lw k) 0 (by omega) w
  have a2 := fun w => add64_run (up m) (up k) _ e3 w
  rw [e1] at a1
  rw [e2] at a2
  obtain ⟨c, hc⟩ : ∃ c, c = (lw m + lw k + 0) / 18446744073709551616 := ⟨_, rfl⟩
  rw [← hc] at a1 a2
  obtain ⟨d, hd⟩ : ∃ d, d = (up m + up k + c) / 18446744073709551616 := ⟨_, rfl⟩
  rw [← hd] at a2
  simp only [Int.natCast_zero] at a1
  clear hc hd e1 e2 e3 h
  obtain ⟨x, hx⟩ : ∃ x, x = lw (m + k) := ⟨_, rfl⟩
  obtain ⟨y, hy⟩ : ∃ y, y = up (m + k) := ⟨_, rfl⟩
  unfold wideV
  rw [← hx] at a1 ⊢
  rw [← hy] at a2 ⊢
  clear hx hy
  cases s
  all_goals
    go_enter Tryd.func46, Tryd.ntmps46
    go_wp2_with fail
    exact bodyPost_ret (v := .agg #[.bool _, .int .u64 y, .int .u64 x]) (by simp [results, Tryd.results46, go_sem]) rfl ⟨rfl, (((Below.refl _ _).alloc (Nat.le_refl _) _).alloc (by simp) _).alloc (by simp; omega) _⟩

theorem below5 (w : World) (a b c d e : Obj) : Below w.heap.size w (((((w.alloc a).alloc b).alloc c).alloc d).alloc e) :=
  (((((Below.refl _ _).alloc (Nat.le_refl _) _).alloc (by simp) _).alloc (by simp; omega) _).alloc (by simp; omega) _).alloc (by simp; omega) _

theorem bcell {W w1 : World} (hb : Below W.heap.size W w1) : (∀ b o, b < W.heap.size → w1.cell? ⟨b, o, none⟩ = W.cell? ⟨b, o, none⟩) ∧ (∀ b o, b < W.heap.size → w1.frozen? ⟨b, o, none⟩ = W.frozen? ⟨b, o, none⟩) :=
  ⟨fun b o h => hb.cell (p := ⟨b, o, none⟩) h, fun b o h => hb.frozen (p := ⟨b, o, none⟩) h⟩

set_option maxHeartbeats 1000000 in
theorem plus_diff (s : Bool) (m k : Nat) (w : World) (hm : m < 340282366920938463463374607431768211456) (hk : k < 340282366920938463463374607431768211456) :
    Calls Tryd.prog 46 #[wideV s m, wideV (!s) k] w fun e w' => e = .returned (wideV (if m < k then !s else s) (if m < k then k - m else m - k)) ∧ Below w.heap.size w w' := by
  have cs := fun w => smaller_any s (!s) m k w
  obtain ⟨r, hr⟩ : ∃ r, r = lessB m k := ⟨_, rfl⟩
  rw [← hr] at cs
  unfold lessB at hr
  by_cases h : m < k
  · obtain rfl : r = true := by rw [hr]; exact decide_eq_true h
    rw [if_pos h, if_pos h]
    clear hr
    obtain ⟨e1, e2, e3⟩ := sub_words (Nat.le_of_lt h) hk
    have a1 := fun w => sub64_run (lw k) (lw m) 0 (by omega) w
    have a2 := fun w => sub64_run (up k) (up m) _ e3 w
    rw [e1] at a1
    rw [e2] at a2
    obtain ⟨c, hc⟩ : ∃ c, c = (if lw k < lw m + 0 then 1 else 0) := ⟨_, rfl⟩
    rw [← hc] at a1 a2
    obtain ⟨d, hd⟩ : ∃ d, d = (if up k < up m + c then 1 else 0) := ⟨_, rfl⟩
    rw [← hd] at a2
    simp only [Int.natCast_zero] at a1
    clear hc hd e1 e2 e3 hm hk h
    obtain ⟨x, hx⟩ : ∃ x, x = lw (k - m) := ⟨_, rfl⟩
    obtain ⟨y, hy⟩ : ∃ y, y = up (k - m) := ⟨_, rfl⟩
    unfold wideV at cs ⊢
    rw [← hx] at a1 ⊢
    rw [← hy] at a2 ⊢
    clear hx hy
    cases s
    all_goals
      simp only [Bool.not_false, Bool.not_true] at cs ⊢
      go_enter Tryd.func46, Tryd.ntmps46
      go_wp2_with (go_at_call 50; refine (cs _).mono ?_; rintro e w1 ⟨rfl, rfl⟩)
      exact bodyPost_ret (v := .agg #[.bool _, .int .u64 y, .int .u64 x]) (by simp [results, Tryd.results46, go_sem]) rfl ⟨rfl, below5 _ _ _ _ _ _⟩
  · obtain rfl : r = false := by rw [hr]; exact decide_eq_false h
    rw [if_neg h, if_neg h]
    clear hr
    obtain ⟨e1, e2, e3⟩ := sub_words (Nat.le_of_not_lt h) hm
    have a1 := fun w => sub64_run (lw m) (lw k) 0 (by omega) w
    have a2 := fun w => sub64_run (up m) (up k) _ e3 w
    rw [e1] at a1
    rw [e2] at a2
    obtain ⟨c, hc⟩ : ∃ c, c = (if lw m < lw k + 0 then 1 else 0) := ⟨_, rfl⟩
    rw [← hc] at a1 a2
    obtain ⟨d, hd⟩ : ∃ d, d = (if up m < up k + c then 1 else 0) := ⟨_, rfl⟩
    rw [← hd] at a2
    simp only [Int.natCast_zero] at a1
    clear hc hd e1 e2 e3 hm hk h
    obtain ⟨x, hx⟩ : ∃ x, x = lw (m - k) := ⟨_, rfl⟩
    obtain ⟨y, hy⟩ : ∃ y, y = up (m - k) := ⟨_, rfl⟩
    unfold wideV at cs ⊢
    rw [← hx] at a1 ⊢
    rw [← hy] at a2 ⊢
    clear hx hy
    cases s
    all_goals
      simp only [Bool.not_false, Bool.not_true] at cs ⊢
      go_enter Tryd.func46, Tryd.ntmps46
      go_wp2_with (go_at_call 50; refine (cs _).mono ?_; rintro e w1 ⟨rfl, rfl⟩)
      exact bodyPost_ret (v := .agg #[.bool _, .int .u64 y, .int .u64 x]) (by simp [results, Tryd.results46, go_sem]) rfl ⟨rfl, below5 _ _ _ _ _ _⟩

/-- The sum of two numbers with signs, in one. -/
theorem plus_any (s t : Bool) (m k : Nat) (w : World) (h : m + k < 340282366920938463463374607431768211456) :
    Calls Tryd.prog 46 #[wideV s m, wideV t k] w fun e w' => e = .returned (wideV (plusS s m t k) (plusM s m t k)) ∧ Below w.heap.size w w' := by
  unfold plusS plusM
  by_cases hst : s = t
  · subst hst
    rw [if_pos rfl, if_pos rfl]
    exact plus_same s m k w h
  · obtain rfl : t = !s := by cases s <;> cases t <;> simp_all
    rw [if_neg hst, if_neg hst]
    exact plus_diff s m k w (by omega) (by omega)

set_option maxHeartbeats 400000 in
theorem rest_any (s : Bool) (m d : Nat) (w : World) (hm : m < 340282366920938463463374607431768211456) (h0 : 0 < d) (hd : d < 18446744073709551616) :
    Calls Tryd.prog 41 #[wideV s m, .int .u64 d] w fun e w' => e = .returned (.int .u64 (m % d : Nat)) ∧ Below w.heap.size w w' := by
  have c := fun w => rem64 (up m) (lw m) d w (up_lt hm) h0 (lw_lt m) hd
  rw [up_lw] at c
  obtain ⟨r, hr⟩ : ∃ r, r = m % d := ⟨_, rfl⟩
  rw [← hr] at c ⊢
  clear hr hm h0 hd
  go_enter Tryd.func41, Tryd.ntmps41
  go_wp2_with (go_at_call 47; refine (c _).mono ?_; rintro e w1 ⟨rfl, n, rfl⟩)
  go_ret
  exact ⟨rfl, below_drewN ((Below.refl _ _).alloc (Nat.le_refl _) _) _⟩

/-- A quotient of 64 bits: is there one? -/
def fitsB (m d : Nat) : Bool := decide (m / d < 18446744073709551616)
def quoW (m d : Nat) : Nat := if m / d < 18446744073709551616 then m / d else 0

set_option maxHeartbeats 400000 in
theorem over_any (s : Bool) (m d : Nat) (w : World) (h0 : 0 < d) (hd : d < 18446744073709551616) :
    Calls Tryd.prog 42 #[wideV s m, .int .u64 d] w fun e w' => e = .returned (.tuple #[.int .u64 (quoW m d : Nat), .bool (fitsB m d)]) ∧ Below w.heap.size w w' := by
  have hu := up_lw m
  have hl := lw_lt m
  unfold quoW fitsB
  by_cases h : d ≤ up m
  · have hh : ¬ m / d < 18446744073709551616 := by
      rw [Nat.div_lt_iff_lt_mul h0]
      have := Nat.mul_le_mul_left 18446744073709551616 h
      omega
    rw [if_neg hh, decide_eq_false hh]
    have d1 : decide (d ≤ up m) = true := decide_eq_true h
    clear hh h0 hd hu hl h
    go_enter Tryd.func42, Tryd.ntmps42
    go_wp2
    go_ret2
    exact ⟨rfl, (Below.refl _ _).alloc (Nat.le_refl _) _⟩
  · have hh : m / d < 18446744073709551616 := by
      rw [Nat.div_lt_iff_lt_mul h0]
      have := Nat.mul_le_mul_left 18446744073709551616 (show up m + 1 ≤ d by omega)
      omega
    rw [if_pos hh, decide_eq_true hh]
    have d1 : decide (d ≤ up m) = false := decide_eq_false h
    have c := fun w => div64 (up m) (lw m) d w (by omega) (lw_lt m) hd
    rw [up_lw] at c
    obtain ⟨q, hq⟩ : ∃ q, q = m / d := ⟨_, rfl⟩
    obtain ⟨r, hr⟩ : ∃ r, r = m % d := ⟨_, rfl⟩
    rw [← hq, ← hr] at c
    rw [← hq]
    clear hh h0 hd hu hl h hq hr
    go_enter Tryd.func42, Tryd.ntmps42
    go_wp2_with (go_at_call 48; refine (c _).mono ?_; rintro e w1 ⟨rfl, n, rfl⟩)
    go_ret2
    exact ⟨rfl, below_drewN ((Below.refl _ _).alloc (Nat.le_refl _) _) _⟩
end Go.Proofs.YthlogaenbnhobaaDoor
