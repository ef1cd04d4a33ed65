/-
  For any two int32 and any uint8, the law RatWhole answers true, and leaves its arguments as they were. No condition.
-/
import Derived.Test.YtjgbiecfjjdogaaRatN
namespace Go.Proofs.Ytjgbiecfjjdogaa
open Go.ChangeShapes Go.WideShapes Go.ChangeAt Go.RowKit

theorem whole_valid {a : Int} (h : a.natAbs ≤ 9223372036854775807) : Valid a 1 := ⟨by decide, by decide, h, Nat.gcd_one_right _⟩

set_option maxRecDepth 100000 in
set_option maxHeartbeats 4000000 in
theorem whole_any (a b k : Int) (a1 : -2147483648 ≤ a) (a2 : a ≤ 2147483647) (b1 : -2147483648 ≤ b) (b2 : b ≤ 2147483647) (k1 : 0 ≤ k) (k2 : k ≤ 255) (w : World) :
    Calls Try.prog 8 #[.int .i32 a, .int .i32 b, .int .u8 k] w fun e w' => e = .returned (.bool true) ∧ Below w.heap.size w w' := by
  have hab : (a * b).natAbs ≤ 4611686018427387904 := by
    rw [Int.natAbs_mul]
    exact Nat.mul_le_mul (show a.natAbs ≤ 2147483648 by omega) (show b.natAbs ≤ 2147483648 by omega)
  have hak : (a * (1 + k)).natAbs ≤ 549755813888 := by
    rw [Int.natAbs_mul]
    exact Nat.mul_le_mul (show a.natAbs ≤ 2147483648 by omega) (show (1 + k).natAbs ≤ 256 by omega)
  have va : Valid a 1 := whole_valid (by omega)
  have vb : Valid b 1 := whole_valid (by omega)
  have ad : ∀ w, Calls Try.prog 13 #[ratV a 1, ratV b 1] w fun r w' => r = .returned (.tuple #[ratV (a + b) 1, .int .i64 0]) ∧ Below w.heap.size w w' := fun w => add_to va vb (whole_valid (by omega)) (by push_cast; omega) w
  have mu : ∀ w, Calls Try.prog 15 #[ratV a 1, ratV b 1] w fun r w' => r = .returned (.tuple #[ratV (a * b) 1, .int .i64 0]) ∧ Below w.heap.size w w' := fun w => mul_to va vb (whole_valid (by omega)) (by push_cast; omega) w
  have nw : ∀ w, Calls Try.prog 18 #[.int .i64 (a * (1 + k)), .int .i64 (1 + k)] w fun r w' => r = .returned (.tuple #[ratV a 1, .int .i64 0]) ∧ Below w.heap.size w w' := by
    intro w
    have := new_any (a * (1 + k)) (1 + k) w (by omega) (by omega) (by omega) (by omega) (by omega)
    rw [if_neg (by omega)] at this
    obtain ⟨x, y, z⟩ := res_of (P := a * (1 + k)) (Q := (1 + k).natAbs) (n := a) (d := 1) (by omega) va (by
      rw [show (((1 + k).natAbs : Nat) : Int) = 1 + k by omega]; push_cast; omega)
    unfold resV at this
    rwa [x, y, z] at this
  have co := fun w => compare_valid va vb w
  have w1 : IntKind.i64.wrap (a * b) = a * b := IntWalk.i64_in _ (by omega)
  have w2 : IntKind.i64.wrap (a * (1 + k)) = a * (1 + k) := IntWalk.i64_in _ (by omega)
  obtain ⟨p, hp⟩ : ∃ p, p = a * b := ⟨_, rfl⟩
  obtain ⟨q, hq⟩ : ∃ q, q = a * (1 + k) := ⟨_, rfl⟩
  have HP := Lib.hid hp
  have HQ := Lib.hid hq
  have w1' : IntKind.i64.wrap (a * b) = p := w1.trans hp.symm
  have w2' : IntKind.i64.wrap (a * (1 + k)) = q := w2.trans hq.symm
  rw [← hp] at mu
  rw [← hq] at nw
  have hc : cmpV a b 1 1 = if a < b then -1 else if a = b then 0 else 1 := by unfold cmpV; simp
  rw [hc] at co
  simp only [Int.natCast_one] at co
  clear hab hak va vb w1 w2 hp hq hc
  have L := Live.start w
  rcases Int.lt_trichotomy a b with h | h | h
  · rw [if_pos h] at co
    go_enter Try.func8, Try.ntmps8
    go_upto_region 3 with (go_at_call 9; (with_reducible refine (awake_yes _).mono ?_); rintro e w1 ⟨rfl, hb⟩; have L := L.call hb)
    go_upto_region 4 with fail
    have L := (L.box a 1).boxAt b 1 (w1.heap.size + 1) (by simp)
    have x0 := L.n 1 rfl; have x1 := L.d 1 rfl; have y0 := L.n 0 rfl; have y1 := L.d 0 rfl
    go_upto_region 5 with (go_at_call 13; (with_reducible refine (ad _).mono ?_); rintro e w2 ⟨rfl, hb⟩)
    have L := (L.call hb).box (a + b) 1
    clear hb x0 x1 y0 y1
    have x0 := L.n 2 rfl; have x1 := L.d 2 rfl; have y0 := L.n 1 rfl; have y1 := L.d 1 rfl
    go_upto_region 6 with (go_at_call 15; (with_reducible refine (mu _).mono ?_); rintro e w3 ⟨rfl, hb⟩)
    have L := (L.call hb).box p 1
    clear hb x0 x1 y0 y1
    go_upto_region 7 with (go_at_call 18; (with_reducible refine (nw _).mono ?_); rintro e w4 ⟨rfl, hb⟩)
    have L := (L.call hb).box a 1
    clear hb
    have x0 := L.n 4 rfl; have x1 := L.d 4 rfl; have y0 := L.n 3 rfl; have y1 := L.d 3 rfl; have s0 := L.n 2 rfl; have s1 := L.d 2 rfl; have p0 := L.n 1 rfl; have p1 := L.d 1 rfl; have n0 := L.n 0 rfl; have n1 := L.d 0 rfl
    go_wp2_with (go_at_call 17; (with_reducible refine (co _).mono ?_); rintro e w5 ⟨rfl, hb⟩; have L := L.call hb)
    go_ret
    exact ⟨rfl, L.below⟩
  · rw [if_neg (by omega), if_pos h] at co
    have h1 : ¬ a < b := by omega
    have h2 : ¬ b < a := by omega
    have HH := Lib.hid h
    clear h
    go_enter Try.func8, Try.ntmps8
    go_upto_region 3 with (go_at_call 9; (with_reducible refine (awake_yes _).mono ?_); rintro e w1 ⟨rfl, hb⟩; have L := L.call hb)
    go_upto_region 4 with fail
    have L := (L.box a 1).boxAt b 1 (w1.heap.size + 1) (by simp)
    have x0 := L.n 1 rfl; have x1 := L.d 1 rfl; have y0 := L.n 0 rfl; have y1 := L.d 0 rfl
    go_upto_region 5 with (go_at_call 13; (with_reducible refine (ad _).mono ?_); rintro e w2 ⟨rfl, hb⟩)
    have L := (L.call hb).box (a + b) 1
    clear hb x0 x1 y0 y1
    have x0 := L.n 2 rfl; have x1 := L.d 2 rfl; have y0 := L.n 1 rfl; have y1 := L.d 1 rfl
    go_upto_region 6 with (go_at_call 15; (with_reducible refine (mu _).mono ?_); rintro e w3 ⟨rfl, hb⟩)
    have L := (L.call hb).box p 1
    clear hb x0 x1 y0 y1
    go_upto_region 7 with (go_at_call 18; (with_reducible refine (nw _).mono ?_); rintro e w4 ⟨rfl, hb⟩)
    have L := (L.call hb).box a 1
    clear hb
    have x0 := L.n 4 rfl; have x1 := L.d 4 rfl; have y0 := L.n 3 rfl; have y1 := L.d 3 rfl; have s0 := L.n 2 rfl; have s1 := L.d 2 rfl; have p0 := L.n 1 rfl; have p1 := L.d 1 rfl; have n0 := L.n 0 rfl; have n1 := L.d 0 rfl
    go_wp2_with (go_at_call 17; (with_reducible refine (co _).mono ?_); rintro e w5 ⟨rfl, hb⟩; have L := L.call hb)
    go_ret
    exact ⟨rfl, L.below⟩
  · rw [if_neg (by omega), if_neg (by omega)] at co
    have h1 : ¬ a < b := by omega
    go_enter Try.func8, Try.ntmps8
    go_upto_region 3 with (go_at_call 9; (with_reducible refine (awake_yes _).mono ?_); rintro e w1 ⟨rfl, hb⟩; have L := L.call hb)
    go_upto_region 4 with fail
    have L := (L.box a 1).boxAt b 1 (w1.heap.size + 1) (by simp)
    have x0 := L.n 1 rfl; have x1 := L.d 1 rfl; have y0 := L.n 0 rfl; have y1 := L.d 0 rfl
    go_upto_region 5 with (go_at_call 13; (with_reducible refine (ad _).mono ?_); rintro e w2 ⟨rfl, hb⟩)
    have L := (L.call hb).box (a + b) 1
    clear hb x0 x1 y0 y1
    have x0 := L.n 2 rfl; have x1 := L.d 2 rfl; have y0 := L.n 1 rfl; have y1 := L.d 1 rfl
    go_upto_region 6 with (go_at_call 15; (with_reducible refine (mu _).mono ?_); rintro e w3 ⟨rfl, hb⟩)
    have L := (L.call hb).box p 1
    clear hb x0 x1 y0 y1
    go_upto_region 7 with (go_at_call 18; (with_reducible refine (nw _).mono ?_); rintro e w4 ⟨rfl, hb⟩)
    have L := (L.call hb).box a 1
    clear hb
    have x0 := L.n 4 rfl; have x1 := L.d 4 rfl; have y0 := L.n 3 rfl; have y1 := L.d 3 rfl; have s0 := L.n 2 rfl; have s1 := L.d 2 rfl; have p0 := L.n 1 rfl; have p1 := L.d 1 rfl; have n0 := L.n 0 rfl; have n1 := L.d 0 rfl
    go_wp2_with (go_at_call 17; (with_reducible refine (co _).mono ?_); rintro e w5 ⟨rfl, hb⟩; have L := L.call hb)
    go_ret
    exact ⟨rfl, L.below⟩

set_option maxRecDepth 100000 in
theorem whole_lifted (os : Os) (started : os.Started) (H : Type) (enc : TypeId × Value → H) :
    ReturnsInHanded {} Try.checked os 8 .any (Rows.ratWholeSpec.pre6 enc Try.prog Try.f8 Rows.ratWholeRow.domain false) (Rows.ratWholeSpec.post enc Try.prog Try.f8 false true false false) := by
  refine returnsInHanded_of_change (C := Try.checked) Try.own started (by kernel_rfl) Try.func8
    (ChangeSpec.witness6 (enc := enc) (C := Try.checked) false ⟨#[], #[.int .i32 0, .int .i32 0, .int .u8 0], []⟩ 8 (by kernel_rfl) (by kernel_rfl) (by kernel_rfl) (by kernel_rfl)) ?_
  intro W base args ds gs before hval0 hW _ _
  have hval : ∀ (j : Nat) t v, Try.f8.params[j]? = some t → args[j]? = some v → Value.okWide Try.prog W .any base t v := hval0
  have hW' := hW
  obtain ⟨p, q, hA0, hV, rfl, _, _⟩ := hW
  have hA : DataW.TrodAll enc Try.prog W 0 (fun _ => true) true Try.f8.params.toList args.toList ds p := hA0
  rw [Try.params8] at hA hval
  obtain ⟨v0, v1, v2, d0, d1, d2, p0, p1, p2, rfl, rfl, rfl, h0, h1, h2⟩ := trodAll_three hA
  obtain ⟨rfl, rfl⟩ := trodVars_none hV
  obtain ⟨a, rfl, rfl, rfl, wa⟩ := open_int Try.underlying21 (hval 0 21 v0 rfl rfl) h0
  obtain ⟨b, rfl, rfl, rfl, wb⟩ := open_int Try.underlying21 (hval 1 21 v1 rfl rfl) h1
  obtain ⟨k, rfl, rfl, rfl, wk⟩ := open_int Try.underlying5 (hval 2 5 v2 rfl rfl) h2
  have ba : -2147483648 ≤ a ∧ a ≤ 2147483647 := by
    simp only [Lit.wf, Bool.and_eq_true, decide_eq_true_eq] at wa
    exact wa
  have bb : -2147483648 ≤ b ∧ b ≤ 2147483647 := by
    simp only [Lit.wf, Bool.and_eq_true, decide_eq_true_eq] at wb
    exact wb
  have bk : 0 ≤ k ∧ k ≤ 255 := by
    simp only [Lit.wf, Bool.and_eq_true, decide_eq_true_eq] at wk
    exact wk
  clear hA0 hval0
  simp only [List.append_nil] at hW'
  refine (whole_any a b k ba.1 ba.2 bb.1 bb.2 bk.1 bk.2 W).mono fun r W' ⟨he, hb⟩ => ?_
  subst he
  exact ⟨_, rfl, post_of_below (pa := []) (pv := []) hW' (fun _ _ _ => trodAll_mk1 (shut_bool Try.underlying4 _)) (fun sp _ => trodAll_mk3 (shut_int Try.underlying21 wa) (shut_int Try.underlying21 wb) (shut_int Try.underlying5 wk)) (fun _ _ => rfl) rfl hb (ok_one (by kernel_rfl) rfl (okWide_bool_mk Try.underlying4 _))⟩

theorem whole_holds : Rows.RatWholeSaid :=
  OpenClaim.holds_of_wide 8 Try.f8 rfl rfl rfl rfl rfl rfl rfl ⟨rfl, rfl, rfl, rfl, rfl⟩ rfl rfl rfl rfl rfl (by kernel_rfl) Try.func8 (by kernel_rfl)
    (of_decide_eq_true (by kernel_rfl)) (by unfold Func.isWrapper; first | (rw [if_pos (by decide +kernel)]; kernel_rfl) | (rw [if_neg (by decide +kernel)]; exact ⟨rfl, rfl⟩))
    (fun os started H enc _ => whole_lifted os started H enc)
#print axioms whole_holds
end Go.Proofs.Ytjgbiecfjjdogaa
