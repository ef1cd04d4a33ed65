/-
  For any three fractions, right or not, the law RatLaws answers true, and leaves its arguments as they were. No condition.
-/
import Derived.Test.YtjgbiecfjjdogaaRatB
namespace Go.Proofs.Ytjgbiecfjjdogaa
open Go.ChangeShapes Go.WideShapes Go.ChangeAt Go.RowKit

/-- Either nothing is done, or the error is none and what is done is known. -/
def MayDo (b : Bool) (E : Int) (P : Prop) : Prop := b = false ∨ (b = true ∧ E = 0 ∧ P)

theorem Live.mono {w w1 : World} {l l' : List (Nat × Int × Int)} (h : Live w w1 l) (hl : ∀ x, x ∈ l' → x ∈ l) : Live w w1 l' := ⟨fun x hx => h.rats x (hl x hx), h.below⟩

set_option maxRecDepth 100000 in
set_option maxHeartbeats 8000000 in
theorem laws_walk (n m k d e f x1 y1 E1 x2 y2 E2 x3 y3 E3 x4 y4 E4 x5 y5 E5 x6 y6 E6 : Int) (w : World)
    (ra : ∀ w, Calls Try.prog 12 #[ratV n d] w fun r w' => r = .returned (.bool true) ∧ Below w.heap.size w w')
    (rb : ∀ w, Calls Try.prog 12 #[ratV m e] w fun r w' => r = .returned (.bool true) ∧ Below w.heap.size w w')
    (rc : ∀ w, Calls Try.prog 12 #[ratV k f] w fun r w' => r = .returned (.bool true) ∧ Below w.heap.size w w')
    (ab : ∀ w, Calls Try.prog 13 #[ratV n d, ratV m e] w fun r w' => r = .returned (.tuple #[ratV x1 y1, .int .i64 E1]) ∧ Below w.heap.size w w')
    (ba : ∀ w, Calls Try.prog 13 #[ratV m e, ratV n d] w fun r w' => r = .returned (.tuple #[ratV x1 y1, .int .i64 E1]) ∧ Below w.heap.size w w')
    (h1 : (E1 = 0 ∧ ∀ w, Calls Try.prog 14 #[ratV x1 y1, ratV m e] w fun r w' => r = .returned (.tuple #[ratV n d, .int .i64 0]) ∧ Below w.heap.size w w') ∨ E1 = 3)
    (mab : ∀ w, Calls Try.prog 15 #[ratV n d, ratV m e] w fun r w' => r = .returned (.tuple #[ratV x2 y2, .int .i64 E2]) ∧ Below w.heap.size w w')
    (mba : ∀ w, Calls Try.prog 15 #[ratV m e, ratV n d] w fun r w' => r = .returned (.tuple #[ratV x2 y2, .int .i64 E2]) ∧ Below w.heap.size w w')
    (h2 : (E2 = 0 ∧ (m == 0) = false ∧ (m != 0) = true ∧ ∀ w, Calls Try.prog 16 #[ratV x2 y2, ratV m e] w fun r w' => r = .returned (.tuple #[ratV n d, .int .i64 0]) ∧ Below w.heap.size w w') ∨ (E2 = 0 ∧ m = 0) ∨ E2 = 3)
    (mac : ∀ w, Calls Try.prog 15 #[ratV n d, ratV k f] w fun r w' => r = .returned (.tuple #[ratV x3 y3, .int .i64 E3]) ∧ Below w.heap.size w w')
    (mbc : ∀ w, Calls Try.prog 15 #[ratV m e, ratV k f] w fun r w' => r = .returned (.tuple #[ratV x4 y4, .int .i64 E4]) ∧ Below w.heap.size w w')
    (az : ∀ w, Calls Try.prog 13 #[ratV x3 y3, ratV x4 y4] w fun r w' => r = .returned (.tuple #[ratV x5 y5, .int .i64 E5]) ∧ Below w.heap.size w w')
    (ms : ∀ w, Calls Try.prog 15 #[ratV x1 y1, ratV k f] w fun r w' => r = .returned (.tuple #[ratV x6 y6, .int .i64 E6]) ∧ Below w.heap.size w w')
    (h3 : (E3 != 0) = true ∨ (E3 = 0 ∧ (E4 != 0) = true) ∨ (E3 = 0 ∧ E4 = 0 ∧ (E5 != 0) = true) ∨ (E3 = 0 ∧ E4 = 0 ∧ E5 = 0 ∧ (E6 != 0) = true) ∨ (E3 = 0 ∧ E4 = 0 ∧ E5 = 0 ∧ E6 = 0 ∧ (y1 == 0) = false ∧ x6 = x5 ∧ y6 = y5)) :
    Calls Try.prog 4 #[ratV n d, ratV m e, ratV k f] w fun e w' => e = .returned (.bool true) ∧ Below w.heap.size w w' := by
  have L := (((Live.start w).box n d).boxAt m e (w.heap.size + 1) (by simp)).boxAt k f (w.heap.size + 1 + 1) (by simp)
  have H1 := Lib.hid h1
  have H2 := Lib.hid h2
  have H3 := Lib.hid h3
  clear h1 h2 h3
  go_enter Try.func4, Try.ntmps4
  go_upto_region 3 with (first
    | (go_at_call 9; (with_reducible refine (awake_yes _).mono ?_); rintro e w1 ⟨rfl, hb⟩; have L := L.call hb; have a0 := L.n 2 rfl; have a1 := L.d 2 rfl; have b0 := L.n 1 rfl; have b1 := L.d 1 rfl; have k0 := L.n 0 rfl; have k1 := L.d 0 rfl)
    | (go_at_call 12; (first | with_reducible refine (ra _).mono ?_ | with_reducible refine (rb _).mono ?_ | with_reducible refine (rc _).mono ?_); rintro e w1 ⟨rfl, hb⟩; have L := L.call hb; have a0 := L.n 2 rfl; have a1 := L.d 2 rfl; have b0 := L.n 1 rfl; have b1 := L.d 1 rfl; have k0 := L.n 0 rfl; have k1 := L.d 0 rfl))
  go_upto_region 4 with (go_at_call 13; (with_reducible refine (ab _).mono ?_); rintro e w2 ⟨rfl, hb⟩)
  have L := (L.call hb).box x1 y1
  clear hb a0 a1 b0 b1 k0 k1
  have a0 := L.n 3 rfl; have a1 := L.d 3 rfl; have b0 := L.n 2 rfl; have b1 := L.d 2 rfl
  go_upto_region 5 with (go_at_call 13; (with_reducible refine (ba _).mono ?_); rintro e w3 ⟨rfl, hb⟩)
  have L := (L.call hb).box x1 y1
  clear hb a0 a1 b0 b1
  have s0 := L.n 1 rfl; have s1 := L.d 1 rfl; have t0 := L.n 0 rfl; have t1 := L.d 0 rfl; have b0 := L.n 3 rfl; have b1 := L.d 3 rfl
  go_upto_if 62 with fail
  go_cut [11, 12] (fun _ _ wx => Live w wx [(w2.heap.size, x1, y1), (w.heap.size + 1 + 1, k, f), (w.heap.size + 1, m, e), (w.heap.size, n, d)])
  case first =>
    rcases H1.out with ⟨rfl, su⟩ | rfl
    · have a0 := L.n 4 rfl; have a1 := L.d 4 rfl
      go_upto_region 9 with (go_at_call 14; (with_reducible refine (su _).mono ?_); rintro e w4 ⟨rfl, hb⟩)
      have L := (L.call hb).box n d
      clear hb a0 a1
      have a0 := L.n 5 rfl; have a1 := L.d 5 rfl; have c0 := L.n 0 rfl; have c1 := L.d 0 rfl
      go_wp2_with fail
      go_meet
      exact L.mono (by intro x hx; simp only [List.mem_cons, List.not_mem_nil, or_false] at hx; rcases hx with rfl | rfl | rfl | rfl <;> simp)
    · go_wp2_with fail
      go_meet
      exact L.mono (by intro x hx; simp only [List.mem_cons, List.not_mem_nil, or_false] at hx; rcases hx with rfl | rfl | rfl | rfl <;> simp)
  case rest =>
    have L := hcut
    clear s0 s1 t0 t1 b0 b1
    have a0 := L.n 3 rfl; have a1 := L.d 3 rfl; have b0 := L.n 2 rfl; have b1 := L.d 2 rfl
    go_upto_region 12 with (go_at_call 15; (with_reducible refine (mab _).mono ?_); rintro e w4 ⟨rfl, hb⟩)
    have L := (L.call hb).box x2 y2
    clear hb a0 a1 b0 b1
    have a0 := L.n 4 rfl; have a1 := L.d 4 rfl; have b0 := L.n 3 rfl; have b1 := L.d 3 rfl
    go_upto_region 13 with (go_at_call 15; (with_reducible refine (mba _).mono ?_); rintro e w5 ⟨rfl, hb⟩)
    have L := (L.call hb).box x2 y2
    clear hb a0 a1 b0 b1
    have s0 := L.n 1 rfl; have s1 := L.d 1 rfl; have t0 := L.n 0 rfl; have t1 := L.d 0 rfl; have b0 := L.n 4 rfl; have b1 := L.d 4 rfl
    go_upto_region 15 with fail
    obtain ⟨W5, hW5⟩ : ∃ W5, W5 = w5.alloc (.cells #[.int .i64 x2, .int .i64 y2] 23) := ⟨_, rfl⟩
    have HW := Lib.hid hW5
    go_cut [102] (fun v wx => ∃ bv : Bool, v = .bool bv ∧ wx = W5 ∧ MayDo bv E2 (∀ w, Calls Try.prog 16 #[ratV x2 y2, ratV m e] w fun r w' => r = .returned (.tuple #[ratV n d, .int .i64 0]) ∧ Below w.heap.size w w'))
    case first =>
      clear hW5
      rcases H2.out with ⟨rfl, m1, m2, dv⟩ | ⟨rfl, rfl⟩ | rfl
      · have DV := Lib.hid dv
        clear dv
        go_wp2_with fail
        go_meet
        exact ⟨true, rfl, HW.out.symm, Or.inr ⟨rfl, rfl, DV.out⟩⟩
      · go_wp2_with fail
        go_meet
        exact ⟨false, rfl, HW.out.symm, Or.inl rfl⟩
      · go_wp2_with fail
        go_meet
        exact ⟨false, rfl, HW.out.symm, Or.inl rfl⟩
    case rest =>
      obtain ⟨bv, rfl, rfl, HB0⟩ := hcut
      subst hW5
      have HB := Lib.hid HB0
      clear HB0 HW
      go_upto_if 102 with fail
      go_cut [15, 16] (fun _ _ wx => Live w wx [(w2.heap.size, x1, y1), (w.heap.size + 1 + 1, k, f), (w.heap.size + 1, m, e), (w.heap.size, n, d)])
      case first =>
        have HO : MayDo bv E2 _ := HB.out
        unfold MayDo at HO
        rcases HO with rfl | ⟨rfl, rfl, dv⟩
        · go_wp2_with fail
          go_meet
          exact L.mono (by intro x hx; simp only [List.mem_cons, List.not_mem_nil, or_false] at hx; rcases hx with rfl | rfl | rfl | rfl <;> simp)
        · go_upto_region 17 with (go_at_call 16; (with_reducible refine (dv _).mono ?_); rintro e w6 ⟨rfl, hb⟩)
          have L := (L.call hb).box n d
          clear hb s0 s1 t0 t1 b0 b1
          have a0 := L.n 6 rfl; have a1 := L.d 6 rfl; have c0 := L.n 0 rfl; have c1 := L.d 0 rfl
          go_wp2_with fail
          go_meet
          exact L.mono (by intro x hx; simp only [List.mem_cons, List.not_mem_nil, or_false] at hx; rcases hx with rfl | rfl | rfl | rfl <;> simp)
      case rest =>
        have L := hcut
        clear s0 s1 t0 t1 b0 b1
        have a0 := L.n 3 rfl; have a1 := L.d 3 rfl; have k0 := L.n 1 rfl; have k1 := L.d 1 rfl
        go_upto_region 20 with (go_at_call 15; (with_reducible refine (mac _).mono ?_); rintro e w7 ⟨rfl, hb⟩)
        have L := (L.call hb).box x3 y3
        clear hb a0 a1 k0 k1
        have b0 := L.n 3 rfl; have b1 := L.d 3 rfl; have k0 := L.n 2 rfl; have k1 := L.d 2 rfl
        go_upto_region 21 with (go_at_call 15; (with_reducible refine (mbc _).mono ?_); rintro e w8 ⟨rfl, hb⟩)
        have L := (L.call hb).box x4 y4
        clear hb b0 b1 k0 k1
        have x0 := L.n 1 rfl; have x1' := L.d 1 rfl; have y0 := L.n 0 rfl; have y1' := L.d 0 rfl
        go_upto_region 22 with (go_at_call 13; (with_reducible refine (az _).mono ?_); rintro e w9 ⟨rfl, hb⟩)
        have L := (L.call hb).box x5 y5
        clear hb x0 x1' y0 y1'
        have s0 := L.n 3 rfl; have s1 := L.d 3 rfl; have k0 := L.n 4 rfl; have k1 := L.d 4 rfl
        go_upto_region 23 with (go_at_call 15; (with_reducible refine (ms _).mono ?_); rintro e w10 ⟨rfl, hb⟩)
        have L := (L.call hb).box x6 y6
        clear hb s0 s1 k0 k1
        have s1 := L.d 4 rfl; have z0 := L.n 1 rfl; have z1 := L.d 1 rfl; have u0 := L.n 0 rfl; have u1 := L.d 0 rfl
        rcases H3.out with h | ⟨rfl, h⟩ | ⟨rfl, rfl, h⟩ | ⟨rfl, rfl, rfl, h⟩ | ⟨rfl, rfl, rfl, rfl, h, rfl, rfl⟩
        all_goals
          go_wp2_with fail
          go_ret
          exact ⟨rfl, L.below⟩

theorem distributes (n m k d e f x1 s x3 y3 x4 y4 x5 y5 x6 y : Int) (g1 : x1 * (d * e) = (n * e + m * d) * s) (g2 : x6 * (s * f) = x1 * k * y) (a3 : x3 * (d * f) = n * k * y3) (b3 : x4 * (e * f) = m * k * y4)
    (c3 : x5 * (y3 * y4) = (x3 * y4 + x4 * y3) * y5) : x6 * y5 * (d * e * f * s * y3 * y4) = x5 * y * (d * e * f * s * y3 * y4) := by grind

theorem right_zero : rightB 0 0 = false := by decide

theorem laws_right {n m k : Int} {d e f : Nat} (v : Valid n d) (u : Valid m e) (z : Valid k f) (w : World) :
    Calls Try.prog 4 #[ratV n d, ratV m e, ratV k f] w fun e w' => e = .returned (.bool true) ∧ Below w.heap.size w w' := by
  have pd := v.pos; have pe := u.pos; have pf := z.pos
  have qd := v.d_le; have qe := u.d_le; have qf := z.d_le
  have qn := v.n_le; have qm := u.n_le; have qk := z.n_le
  have rz : ∀ w, Calls Try.prog 12 #[ratV 0 0] w fun r w' => r = .returned (.bool (rightB 0 0)) ∧ Below w.heap.size w w' := fun w => right_any 0 0 w (by decide) (by decide) (by decide) (by decide)
  have rg : ∀ {a : Int} {b : Nat}, Valid a b → ∀ w, Calls Try.prog 12 #[ratV a b] w fun r w' => r = .returned (.bool (rightB a b)) ∧ Below w.heap.size w w' := by
    intro a b h w
    rw [h.right]; exact right_yes h w
  have sum : ∃ x1 y1 E1 : Int, (∀ w, Calls Try.prog 13 #[ratV n d, ratV m e] w fun r w' => r = .returned (.tuple #[ratV x1 y1, .int .i64 E1]) ∧ Below w.heap.size w w') ∧
      (∀ w, Calls Try.prog 13 #[ratV m e, ratV n d] w fun r w' => r = .returned (.tuple #[ratV x1 y1, .int .i64 E1]) ∧ Below w.heap.size w w') ∧
      ((E1 = 0 ∧ (∀ w, Calls Try.prog 14 #[ratV x1 y1, ratV m e] w fun r w' => r = .returned (.tuple #[ratV n d, .int .i64 0]) ∧ Below w.heap.size w w') ∧ ∃ y : Nat, y1 = y ∧ Valid x1 y ∧ x1 * ((d * e : Nat) : Int) = (n * e + m * d) * (y : Int)) ∨ (E1 = 3 ∧ x1 = 0 ∧ y1 = 0)) := by
    have back : ∀ w, Calls Try.prog 13 #[ratV m e, ratV n d] w fun r w' => r = .returned (resV (n * e + m * d) (d * e)) ∧ Below w.heap.size w w' := by
      intro w
      have := add_valid u v w
      rwa [show m * (d : Int) + n * (e : Int) = n * e + m * d by omega, Nat.mul_comm e d] at this
    rcases res_cases (n * e + m * d) (Nat.mul_pos pd pe) with ⟨x, y, a1, a2, a3⟩ | a1
    · refine ⟨x, y, 0, fun w => by have := add_valid v u w; rwa [a1] at this, fun w => by have := back w; rwa [a1] at this, .inl ⟨rfl, fun w => ?_, y, rfl, a2, a3⟩⟩
      refine sub_to a2 u v ?_ w
      have h := a3
      push_cast at h ⊢
      have e0 : (e : Int) ≠ 0 := by omega
      have g : (n * ((y : Int) * (e : Int))) * (e : Int) = ((x * e - m * y) * (d : Int)) * (e : Int) := by grind
      exact Int.eq_of_mul_eq_mul_right e0 g
    · exact ⟨0, 0, 3, fun w => by have := add_valid v u w; rwa [a1] at this, fun w => by have := back w; rwa [a1] at this, .inr ⟨rfl, rfl, rfl⟩⟩
  have prod : ∃ x2 y2 E2 : Int, (∀ w, Calls Try.prog 15 #[ratV n d, ratV m e] w fun r w' => r = .returned (.tuple #[ratV x2 y2, .int .i64 E2]) ∧ Below w.heap.size w w') ∧
      (∀ w, Calls Try.prog 15 #[ratV m e, ratV n d] w fun r w' => r = .returned (.tuple #[ratV x2 y2, .int .i64 E2]) ∧ Below w.heap.size w w') ∧
      ((E2 = 0 ∧ (m == 0) = false ∧ (m != 0) = true ∧ ∀ w, Calls Try.prog 16 #[ratV x2 y2, ratV m e] w fun r w' => r = .returned (.tuple #[ratV n d, .int .i64 0]) ∧ Below w.heap.size w w') ∨ (E2 = 0 ∧ m = 0) ∨ E2 = 3) := by
    have back : ∀ w, Calls Try.prog 15 #[ratV m e, ratV n d] w fun r w' => r = .returned (resV (n * m) (d * e)) ∧ Below w.heap.size w w' := by
      intro w
      have := mul_valid u v w
      rwa [Int.mul_comm m n, Nat.mul_comm e d] at this
    rcases res_cases (n * m) (Nat.mul_pos pd pe) with ⟨x, y, a1, a2, a3⟩ | a1
    · refine ⟨x, y, 0, fun w => by have := mul_valid v u w; rwa [a1] at this, fun w => by have := back w; rwa [a1] at this, ?_⟩
      by_cases hm : m = 0
      · exact .inr (.inl ⟨rfl, hm⟩)
      · refine .inl ⟨rfl, by simpa using hm, by simpa using hm, fun w => ?_⟩
        refine div_to a2 u hm v ?_ w
        have h := a3
        push_cast at h
        grind
    · exact ⟨0, 0, 3, fun w => by have := mul_valid v u w; rwa [a1] at this, fun w => by have := back w; rwa [a1] at this, .inr (.inr rfl)⟩
  obtain ⟨x1, y1, E1, ab, ba, h1⟩ := sum
  obtain ⟨x2, y2, E2, mab, mba, h2⟩ := prod
  have h1' : (E1 = 0 ∧ ∀ w, Calls Try.prog 14 #[ratV x1 y1, ratV m e] w fun r w' => r = .returned (.tuple #[ratV n d, .int .i64 0]) ∧ Below w.heap.size w w') ∨ E1 = 3 := h1.imp (fun h => ⟨h.1, h.2.1⟩) (fun h => h.1)
  -- what the last product answers
  have last : ∃ x6 y6 E6 : Int, (∀ w, Calls Try.prog 15 #[ratV x1 y1, ratV k f] w fun r w' => r = .returned (.tuple #[ratV x6 y6, .int .i64 E6]) ∧ Below w.heap.size w w') ∧
      ((E6 != 0) = true ∨ (E6 = 0 ∧ (y1 == 0) = false ∧ ∃ y s : Nat, y6 = y ∧ y1 = s ∧ Valid x6 y ∧ 0 < s ∧ x1 * ((d * e : Nat) : Int) = (n * e + m * d) * (s : Int) ∧ x6 * ((s * f : Nat) : Int) = x1 * k * (y : Int))) := by
    rcases h1 with ⟨_, _, y, rfl, vy, hy⟩ | ⟨_, rfl, rfl⟩
    · rcases res_cases (x1 * k) (Nat.mul_pos vy.pos pf) with ⟨x, s, a1, a2, a3⟩ | a1
      · have := vy.pos
        exact ⟨x, s, 0, fun w => by have := mul_valid vy z w; rwa [a1] at this, .inr ⟨rfl, by simp; omega, s, y, rfl, rfl, a2, vy.pos, hy, a3⟩⟩
      · exact ⟨0, 0, 3, fun w => by have := mul_valid vy z w; rwa [a1] at this, .inl (by decide)⟩
    · exact ⟨0, 0, 2, fun w => mul_bad 0 0 k f w rz (rg z) (.inl right_zero), .inl (by decide)⟩
  obtain ⟨x6, y6, E6, ms, h6⟩ := last
  rcases res_cases (n * k) (Nat.mul_pos pd pf) with ⟨x3, y3, a1, a2, a3⟩ | a1
  · have mac : ∀ w, Calls Try.prog 15 #[ratV n d, ratV k f] w fun r w' => r = .returned (.tuple #[ratV x3 y3, .int .i64 0]) ∧ Below w.heap.size w w' := fun w => by have := mul_valid v z w; rwa [a1] at this
    rcases res_cases (m * k) (Nat.mul_pos pe pf) with ⟨x4, y4, b1, b2, b3⟩ | b1
    · have mbc : ∀ w, Calls Try.prog 15 #[ratV m e, ratV k f] w fun r w' => r = .returned (.tuple #[ratV x4 y4, .int .i64 0]) ∧ Below w.heap.size w w' := fun w => by have := mul_valid u z w; rwa [b1] at this
      rcases res_cases (x3 * y4 + x4 * y3) (Nat.mul_pos a2.pos b2.pos) with ⟨x5, y5, c1, c2, c3⟩ | c1
      · have az : ∀ w, Calls Try.prog 13 #[ratV x3 y3, ratV x4 y4] w fun r w' => r = .returned (.tuple #[ratV x5 y5, .int .i64 0]) ∧ Below w.heap.size w w' := fun w => by have := add_valid a2 b2 w; rwa [c1] at this
        refine laws_walk n m k d e f x1 y1 E1 x2 y2 E2 x3 y3 0 x4 y4 0 x5 y5 0 x6 y6 E6 w (right_yes v) (right_yes u) (right_yes z) ab ba h1' mab mba h2 mac mbc az ms ?_
        rcases h6 with h6 | ⟨rfl, hy, y, s, rfl, rfl, v6, sp, g1, g2⟩
        · exact .inr (.inr (.inr (.inl ⟨rfl, rfl, rfl, h6⟩)))
        · have p3 := a2.pos; have p4 := b2.pos; have p5 := c2.pos; have p6 := v6.pos
          have key : x6 * (y5 : Int) = x5 * (y : Int) := by
            have hne : ((d : Int) * e * f * s * y3 * y4) ≠ 0 := by
              refine Int.mul_ne_zero (Int.mul_ne_zero (Int.mul_ne_zero (Int.mul_ne_zero (Int.mul_ne_zero ?_ ?_) ?_) ?_) ?_) ?_ <;> omega
            refine Int.eq_of_mul_eq_mul_right hne ?_
            push_cast at g1 g2 a3 b3 c3
            exact distributes n m k d e f x1 s x3 y3 x4 y4 x5 y5 x6 y g1 g2 a3 b3 c3
          obtain ⟨q1, q2⟩ := v6.unique c2 key
          exact .inr (.inr (.inr (.inr ⟨rfl, rfl, rfl, rfl, hy, q1, by rw [q2]⟩)))
      · exact laws_walk n m k d e f x1 y1 E1 x2 y2 E2 x3 y3 0 x4 y4 0 0 0 3 x6 y6 E6 w (right_yes v) (right_yes u) (right_yes z) ab ba h1' mab mba h2 mac mbc (fun w => by have := add_valid a2 b2 w; rwa [c1] at this) ms (.inr (.inr (.inl ⟨rfl, rfl, by decide⟩)))
    · exact laws_walk n m k d e f x1 y1 E1 x2 y2 E2 x3 y3 0 0 0 3 0 0 2 x6 y6 E6 w (right_yes v) (right_yes u) (right_yes z) ab ba h1' mab mba h2 mac (fun w => by have := mul_valid u z w; rwa [b1] at this) (fun w => add_bad x3 y3 0 0 w (rg a2) rz (.inr ⟨a2.right, right_zero⟩)) ms (.inr (.inl ⟨rfl, by decide⟩))
  · have hz : ∃ x4 y4 E4 : Int, (∀ w, Calls Try.prog 15 #[ratV m e, ratV k f] w fun r w' => r = .returned (.tuple #[ratV x4 y4, .int .i64 E4]) ∧ Below w.heap.size w w') ∧ (∀ w, Calls Try.prog 12 #[ratV x4 y4] w fun r w' => r = .returned (.bool (rightB x4 y4)) ∧ Below w.heap.size w w') := by
      rcases res_cases (m * k) (Nat.mul_pos pe pf) with ⟨x4, y4, b1, b2, b3⟩ | b1
      · exact ⟨x4, y4, 0, fun w => by have := mul_valid u z w; rwa [b1] at this, rg b2⟩
      · exact ⟨0, 0, 3, fun w => by have := mul_valid u z w; rwa [b1] at this, rz⟩
    obtain ⟨x4, y4, E4, mbc, r4⟩ := hz
    exact laws_walk n m k d e f x1 y1 E1 x2 y2 E2 0 0 3 x4 y4 E4 0 0 2 x6 y6 E6 w (right_yes v) (right_yes u) (right_yes z) ab ba h1' mab mba h2 (fun w => by have := mul_valid v z w; rwa [a1] at this) mbc (fun w => add_bad 0 0 x4 y4 w rz r4 (.inl right_zero)) ms (.inl (by decide))

set_option maxRecDepth 100000 in
set_option maxHeartbeats 2000000 in
theorem laws_wrong (n d m e k f : Int) (ra : ∀ w, Calls Try.prog 12 #[ratV n d] w fun r w' => r = .returned (.bool (rightB n d)) ∧ Below w.heap.size w w')
    (rb : ∀ w, Calls Try.prog 12 #[ratV m e] w fun r w' => r = .returned (.bool (rightB m e)) ∧ Below w.heap.size w w')
    (rc : ∀ w, Calls Try.prog 12 #[ratV k f] w fun r w' => r = .returned (.bool (rightB k f)) ∧ Below w.heap.size w w')
    (h : rightB n d = false ∨ (rightB n d = true ∧ rightB m e = false) ∨ (rightB n d = true ∧ rightB m e = true ∧ rightB k f = false)) (w : World) :
    Calls Try.prog 4 #[ratV n d, ratV m e, ratV k f] w fun e w' => e = .returned (.bool true) ∧ Below w.heap.size w w' := by
  have L := (((Live.start w).box n d).boxAt m e (w.heap.size + 1) (by simp)).boxAt k f (w.heap.size + 1 + 1) (by simp)
  rcases h with h | ⟨h, g⟩ | ⟨h, g, q⟩
  · rw [h] at ra
    clear h
    go_enter Try.func4, Try.ntmps4
    go_wp2_with (first
      | (go_at_call 9; (with_reducible refine (awake_yes _).mono ?_); rintro e w1 ⟨rfl, hb⟩; have L := L.call hb; have a0 := L.n 2 rfl; have a1 := L.d 2 rfl)
      | (go_at_call 12; (with_reducible refine (ra _).mono ?_); rintro e w1 ⟨rfl, hb⟩; have L := L.call hb))
    go_ret
    exact ⟨rfl, L.below⟩
  · rw [h] at ra
    rw [g] at rb
    clear h g
    go_enter Try.func4, Try.ntmps4
    go_wp2_with (first
      | (go_at_call 9; (with_reducible refine (awake_yes _).mono ?_); rintro e w1 ⟨rfl, hb⟩; have L := L.call hb; have a0 := L.n 2 rfl; have a1 := L.d 2 rfl)
      | (go_at_call 12; (first | with_reducible refine (ra _).mono ?_ | with_reducible refine (rb _).mono ?_); rintro e w1 ⟨rfl, hb⟩; have L := L.call hb; have b0 := L.n 1 rfl; have b1 := L.d 1 rfl))
    go_ret
    exact ⟨rfl, L.below⟩
  · rw [h] at ra
    rw [g] at rb
    rw [q] at rc
    clear h g q
    go_enter Try.func4, Try.ntmps4
    go_wp2_with (first
      | (go_at_call 9; (with_reducible refine (awake_yes _).mono ?_); rintro e w1 ⟨rfl, hb⟩; have L := L.call hb; have a0 := L.n 2 rfl; have a1 := L.d 2 rfl)
      | (go_at_call 12; (first | with_reducible refine (ra _).mono ?_ | with_reducible refine (rb _).mono ?_ | with_reducible refine (rc _).mono ?_); rintro e w1 ⟨rfl, hb⟩; have L := L.call hb; have b0 := L.n 1 rfl; have b1 := L.d 1 rfl; have k0 := L.n 0 rfl; have k1 := L.d 0 rfl))
    go_ret
    exact ⟨rfl, L.below⟩

theorem laws_any (n d m e k f : Int) (h1 : -9223372036854775808 ≤ n) (h2 : n ≤ 9223372036854775807) (h3 : -9223372036854775808 ≤ d) (h4 : d ≤ 9223372036854775807)
    (k1 : -9223372036854775808 ≤ m) (k2 : m ≤ 9223372036854775807) (k3 : -9223372036854775808 ≤ e) (k4 : e ≤ 9223372036854775807)
    (l1 : -9223372036854775808 ≤ k) (l2 : k ≤ 9223372036854775807) (l3 : -9223372036854775808 ≤ f) (l4 : f ≤ 9223372036854775807) (w : World) :
    Calls Try.prog 4 #[ratV n d, ratV m e, ratV k f] w fun e w' => e = .returned (.bool true) ∧ Below w.heap.size w w' := by
  have W := laws_wrong n d m e k f (fun w => right_any n d w h1 h2 h3 h4) (fun w => right_any m e w k1 k2 k3 k4) (fun w => right_any k f w l1 l2 l3 l4)
  cases a : rightB n d
  · exact W (.inl a) w
  · cases b : rightB m e
    · exact W (.inr (.inl ⟨a, b⟩)) w
    · cases c : rightB k f
      · exact W (.inr (.inr ⟨a, b, c⟩)) w
      · obtain ⟨x, rfl, v⟩ := valid_of a h1 h2 h4
        obtain ⟨y, rfl, u⟩ := valid_of b k1 k2 k4
        obtain ⟨z, rfl, s⟩ := valid_of c l1 l2 l4
        exact laws_right v u s w

set_option maxRecDepth 100000 in
theorem laws_lifted (os : Os) (started : os.Started) (H : Type) (enc : TypeId × Value → H) :
    ReturnsInHanded {} Try.checked os 4 .any (Rows.ratLawsSpec.pre6 enc Try.prog Try.f4 Rows.ratLawsRow.domain false) (Rows.ratLawsSpec.post enc Try.prog Try.f4 false true false false) := by
  refine returnsInHanded_of_change (C := Try.checked) Try.own started (by kernel_rfl) Try.func4
    (ChangeSpec.witness6 (enc := enc) (C := Try.checked) false ⟨#[], #[.agg #[.int .i64 0, .int .i64 0], .agg #[.int .i64 0, .int .i64 0], .agg #[.int .i64 0, .int .i64 0]], []⟩ 8 (by kernel_rfl) (by kernel_rfl) (by kernel_rfl) (by kernel_rfl)) ?_
  intro W base args ds gs before hval0 hW _ _
  have hval : ∀ (j : Nat) t v, Try.f4.params[j]? = some t → args[j]? = some v → Value.okWide Try.prog W .any base t v := hval0
  have hW' := hW
  obtain ⟨p, q, hA0, hV, rfl, _, _⟩ := hW
  have hA : DataW.TrodAll enc Try.prog W 0 (fun _ => true) true Try.f4.params.toList args.toList ds p := hA0
  rw [Try.params4] at hA hval
  obtain ⟨v0, v1, v2, d0, d1, d2, p0, p1, p2, rfl, rfl, rfl, h0, h1, h2⟩ := trodAll_three hA
  obtain ⟨rfl, rfl⟩ := trodVars_none hV
  obtain ⟨n, d, rfl, rfl, rfl, ⟨n1, n2⟩, ⟨e1, e2⟩, sa⟩ := open_rat (hval 0 23 v0 rfl rfl) h0
  obtain ⟨m, e, rfl, rfl, rfl, ⟨m1, m2⟩, ⟨f1, f2⟩, sb⟩ := open_rat (hval 1 23 v1 rfl rfl) h1
  obtain ⟨k, f, rfl, rfl, rfl, ⟨k1, k2⟩, ⟨g1, g2⟩, sc⟩ := open_rat (hval 2 23 v2 rfl rfl) h2
  clear hA0 hval0
  simp only [List.append_nil] at hW'
  refine (laws_any n d m e k f n1 n2 e1 e2 m1 m2 f1 f2 k1 k2 g1 g2 W).mono fun r W' ⟨he, hb⟩ => ?_
  subst he
  exact ⟨_, rfl, post_of_below (pa := []) (pv := []) hW' (fun _ _ _ => trodAll_mk1 (shut_bool Try.underlying4 _)) (fun sp _ => trodAll_mk3 (sa _ _ sp _) (sb _ _ sp _) (sc _ _ sp _)) (fun _ _ => rfl) rfl hb (ok_one (by kernel_rfl) rfl (okWide_bool_mk Try.underlying4 _))⟩

theorem laws_holds : Rows.RatLawsSaid :=
  OpenClaim.holds_of_wide 4 Try.f4 rfl rfl rfl rfl rfl rfl rfl ⟨rfl, rfl, rfl, rfl, rfl⟩ rfl rfl rfl rfl rfl (by kernel_rfl) Try.func4 (by kernel_rfl)
    (of_decide_eq_true (by kernel_rfl)) (by unfold Func.isWrapper; first | (rw [if_pos (by decide +kernel)]; kernel_rfl) | (rw [if_neg (by decide +kernel)]; exact ⟨rfl, rfl⟩))
    (fun os started H enc _ => laws_lifted os started H enc)
#print axioms laws_holds
end Go.Proofs.Ytjgbiecfjjdogaa
