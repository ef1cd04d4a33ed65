/-
  The walks of package rat: Right, product. Conditions: the numbers lie in their kinds. (Template: by-name.py fills it.)
-/
import Derived.Test.YthlogaenbnhobaaDoorRatC
namespace Go.Proofs.YthlogaenbnhobaaDoor
open Go.RowKit

theorem quiet_left {P : Program} {f : FuncId} {args : Array Value} {w : World} {n : Nat} {v : Value}
    (h : Calls P f args (w.drewN n) fun e w' => e = .returned v ∧ w.drewN n = w') : Calls P f args (w.drewN n) fun e w'' => e = .returned v ∧ ∃ m, w'' = w.drewN m :=
  h.mono fun _ _ ⟨he, hm⟩ => ⟨he, n, hm.symm⟩
theorem quiet_more {P : Program} {f : FuncId} {args : Array Value} {w : World} {a n : Nat} {v : Value}
    (h : Calls P f args (w.drewN (a + n)) (Drawn (w.drewN (a + n)) v)) : Calls P f args (w.drewN (a + n)) fun e w'' => e = .returned v ∧ ∃ m, w'' = w.drewN (a + m) :=
  h.mono fun _ _ ⟨he, m, hm⟩ => ⟨he, n + m, by rw [hm, World.drewN_drewN, Nat.add_assoc]⟩
theorem quiet_more_left {P : Program} {f : FuncId} {args : Array Value} {w : World} {a n : Nat} {v : Value}
    (h : Calls P f args (w.drewN (a + n)) fun e w' => e = .returned v ∧ w.drewN (a + n) = w') : Calls P f args (w.drewN (a + n)) fun e w'' => e = .returned v ∧ ∃ m, w'' = w.drewN (a + m) :=
  h.mono fun _ _ ⟨he, hm⟩ => ⟨he, n, hm.symm⟩

/-- Is a fraction right? -/
def rightB (n d : Int) : Bool := decide (0 < d ∧ n ≠ -9223372036854775808 ∧ Nat.gcd n.natAbs d.natAbs = 1)

set_option maxHeartbeats 1000000 in
theorem right_any (n d : Int) (w : World) (h1 : -9223372036854775808 ≤ n) (h2 : n ≤ 9223372036854775807) (h3 : -9223372036854775808 ≤ d) (h4 : d ≤ 9223372036854775807) :
    Calls Tryd.prog 24 #[ratV n d] w fun e w' => e = .returned (.bool (rightB n d)) ∧ Below w.heap.size w w' := by
  unfold rightB
  by_cases a : 0 < d
  · by_cases b : n = -9223372036854775808
    · rw [decide_eq_false (by omega)]
      have d1 : decide (0 < d) = true := decide_eq_true a
      have d2 : (n != -9223372036854775808) = false := by simp [b]
      clear h1 h2 h3 h4 a b
      go_enter Tryd.func24, Tryd.ntmps24
      go_wp2_with fail
      go_quiet (fail)
      go_wp2_with fail
      go_ret
      exact ⟨rfl, below_drewN ((Below.refl _ _).alloc (Nat.le_refl _) _) _⟩
    · have s1 := fun w => size_any n w h1 h2
      have s2 := fun w => size_any d w h3 h4
      have g := fun w => divisor_any n.natAbs d.natAbs w (by omega) (by omega)
      have d1 : decide (0 < d) = true := decide_eq_true a
      have d2 : (n != -9223372036854775808) = true := by simpa using b
      have e : decide (0 < d ∧ n ≠ -9223372036854775808 ∧ Nat.gcd n.natAbs d.natAbs = 1) = ((((Nat.gcd n.natAbs d.natAbs : Nat)) : Int) == 1) := by
        rw [Bool.eq_iff_iff]; simp [a, b]; omega
      rw [e]
      clear h1 h2 h3 h4 a b e
      obtain ⟨G, hG⟩ : ∃ G, G = Nat.gcd n.natAbs d.natAbs := ⟨_, rfl⟩
      rw [← hG] at g ⊢
      clear hG
      go_enter Tryd.func24, Tryd.ntmps24
      go_wp2_with fail
      go_quiet ((first
        | (go_at_call 38; first | (with_reducible exact quiet_left (s1 _)) | (with_reducible exact quiet_left (s2 _)))
        | (go_at_call 37; with_reducible exact Calls.quiet_of (g _))))
      go_wp2_with fail
      go_ret
      exact ⟨rfl, below_drewN ((Below.refl _ _).alloc (Nat.le_refl _) _) _⟩
  · rw [decide_eq_false (by omega)]
    have d1 : decide (0 < d) = false := decide_eq_false a
    clear h1 h2 h3 h4 a
    go_enter Tryd.func24, Tryd.ntmps24
    go_wp2_with fail
    go_quiet (fail)
    go_wp2_with fail
    go_ret
    exact ⟨rfl, below_drewN ((Below.refl _ _).alloc (Nat.le_refl _) _) _⟩

theorem below_box3 (w : World) (a b c : Obj) (n : Nat) : Below w.heap.size w ((((w.alloc a).alloc b).alloc c).drewN n) :=
  below_drewN (((Below.refl _ _).alloc (Nat.le_refl _) _).alloc (by simp) _ |>.alloc (by simp; omega) _) _
theorem below_two {w w1 : World} (h : Below w.heap.size w w1) {o p : Nat} {x y : Value} : Below w.heap.size w ((w1.setCell ⟨w.heap.size + 1 + 1, o, none⟩ x).setCell ⟨w.heap.size + 1 + 1, p, none⟩ y) :=
  (h.setCell (by simp; omega) _).setCell (by simp; omega) _

theorem up_zero {N : Nat} (h : up N = 0) : N < 18446744073709551616 ∧ lw N = N := by unfold up at h; unfold lw; omega
theorem up_pos {N : Nat} (h : ¬ up N = 0) : ¬ N ≤ 9223372036854775807 := by unfold up at h; omega

set_option maxHeartbeats 4000000 in
theorem product_any (n m : Int) (d e : Nat) (w : World) (hn1 : -9223372036854775807 ≤ n) (hn2 : n ≤ 9223372036854775807) (hm1 : -9223372036854775807 ≤ m) (hm2 : m ≤ 9223372036854775807)
    (hd0 : 0 < d) (hd : d ≤ 9223372036854775807) (he0 : 0 < e) (he : e ≤ 9223372036854775807) (g h : Nat) (hg : g = Nat.gcd n.natAbs e) (hh : h = Nat.gcd m.natAbs d) (N D : Nat)
    (hN : N = n.natAbs / g * (m.natAbs / h)) (hD : D = d / h * (e / g)) :
    Calls Tryd.prog 25 #[ratV n d, ratV m e] w fun r w' => r = .returned (.tuple #[ratV (fitN (!(decide (n < 0) == decide (m < 0))) N D) (fitD N D), .int .i64 (fitE N D)]) ∧ Below w.heap.size w w' := by
  have hgp : 0 < g := by rw [hg]; exact Nat.gcd_pos_of_pos_right _ he0
  have hhp : 0 < h := by rw [hh]; exact Nat.gcd_pos_of_pos_right _ hd0
  have s1 := fun w => size_any n w (by omega) hn2
  have s2 := fun w => size_any m w (by omega) hm2
  have s3 := fun w => size_nat d w hd
  have s4 := fun w => size_nat e w he
  have g1 := fun w => divisor_any n.natAbs e w (by omega) (by omega)
  have g2 := fun w => divisor_any m.natAbs d w (by omega) (by omega)
  rw [← hg] at g1
  rw [← hh] at g2
  have q1 := first_digit n.natAbs g (by omega)
  have q2 := first_digit m.natAbs h (by omega)
  have q3 := first_digit d h (by omega)
  have q4 := first_digit e g (by omega)
  have l1 : n.natAbs / g ≤ 9223372036854775807 := Nat.le_trans (Nat.div_le_self _ _) (by omega)
  have l2 : m.natAbs / h ≤ 9223372036854775807 := Nat.le_trans (Nat.div_le_self _ _) (by omega)
  have l3 : d / h ≤ 9223372036854775807 := Nat.le_trans (Nat.div_le_self _ _) hd
  have l4 : e / g ≤ 9223372036854775807 := Nat.le_trans (Nat.div_le_self _ _) he
  have m1 := fun w => mul64 (n.natAbs / g) (m.natAbs / h) w (by omega) (by omega)
  have m2 := fun w => mul64 (d / h) (e / g) w (by omega) (by omega)
  rw [← hN] at m1
  rw [← hD] at m2
  have fo := fun w => fit_any (!(decide (n < 0) == decide (m < 0))) (lw N) (lw D) w (lw_lt N) (lw_lt D)
  obtain ⟨x1, hx1⟩ : ∃ x1, x1 = n.natAbs / g := ⟨_, rfl⟩
  obtain ⟨x2, hx2⟩ : ∃ x2, x2 = m.natAbs / h := ⟨_, rfl⟩
  obtain ⟨x3, hx3⟩ : ∃ x3, x3 = d / h := ⟨_, rfl⟩
  obtain ⟨x4, hx4⟩ : ∃ x4, x4 = e / g := ⟨_, rfl⟩
  rw [← hx1] at q1 m1
  rw [← hx2] at q2 m1
  rw [← hx3] at q3 m2
  rw [← hx4] at q4 m2
  have hg0 : ¬ g = 0 := by omega
  have hh0 : ¬ h = 0 := by omega
  have hgi : (0 : Int) < (g : Int) := by omega
  have hhi : (0 : Int) < (h : Int) := by omega
  clear l1 l2 l3 l4 hx1 hx2 hx3 hx4 hN hD hg hh hgp hhp hn1 hn2 hm1 hm2 hd he hd0 he0
  by_cases a : up N = 0
  · by_cases b : up D = 0
    · obtain ⟨_, a2⟩ := up_zero a
      obtain ⟨_, b2⟩ := up_zero b
      rw [a2] at fo m1
      rw [b2] at fo m2
      rw [a] at m1
      rw [b] at m2
      obtain ⟨F1, hF1⟩ : ∃ F1, F1 = fitN (!(decide (n < 0) == decide (m < 0))) N D := ⟨_, rfl⟩
      obtain ⟨F2, hF2⟩ : ∃ F2, F2 = fitD N D := ⟨_, rfl⟩
      obtain ⟨F3, hF3⟩ : ∃ F3, F3 = fitE N D := ⟨_, rfl⟩
      rw [← hF1, ← hF2, ← hF3] at fo ⊢
      clear a b a2 b2 hF1 hF2 hF3
      simp only [Int.natCast_zero] at m1 m2
      go_enter Tryd.func25, Tryd.ntmps25
      go_wp2_with fail
      go_quiet ((first
        | (go_at_call 38; first | (with_reducible exact quiet_left (s1 _)) | (with_reducible exact quiet_left (s4 _)))
        | (go_at_call 37; with_reducible exact Calls.quiet_of (g1 _))))
      go_wp2_with fail
      go_quiet ((first
        | (go_at_call 38; first | (with_reducible exact quiet_more_left (s2 _)) | (with_reducible exact quiet_more_left (s3 _)))
        | (go_at_call 37; with_reducible exact quiet_more (g2 _))))
      go_wp2_with fail
      go_quiet ((first
        | (go_at_call 38; first | (with_reducible exact quiet_more_left (s1 _)) | (with_reducible exact quiet_more_left (s2 _)))
        | (go_at_call 39; with_reducible exact quiet_more_left (m1 _))))
      go_wp2_with fail
      go_quiet ((first
        | (go_at_call 38; first | (with_reducible exact quiet_more_left (s3 _)) | (with_reducible exact quiet_more_left (s4 _)))
        | (go_at_call 39; with_reducible exact quiet_more_left (m2 _))))
      go_wp2_with (go_at_call 40; (with_reducible refine (fo _).mono ?_); rintro e w1 ⟨rfl, hb⟩; obtain ⟨hc, hf⟩ := bcell hb)
      exact bodyPost_ret (v := .tuple #[ratV F1 F2, .int .i64 F3]) (by simp [results, Tryd.results25, go_sem, hc]) rfl ⟨rfl, below_two ((below_box3 _ _ _ _ _).trans (hb.mono (by simp; omega)))⟩
    · have nb := up_pos b
      have E1 : fitE N D = 3 := by unfold fitE; rw [if_neg (by omega)]
      have E2 : fitD N D = 0 := by unfold fitD; rw [if_neg (by omega)]
      have E3 : fitN (!(decide (n < 0) == decide (m < 0))) N D = 0 := by unfold fitN; rw [if_neg (by omega)]
      rw [E1, E2, E3]
      rw [a] at m1
      simp only [Int.natCast_zero] at m1
      obtain ⟨U, hU⟩ : ∃ U, U = up D := ⟨_, rfl⟩
      rw [← hU] at m2 b
      have b2 : ((U : Int) == 0) = false := by simp; omega
      have b3 : ((U : Int) != 0) = true := by simp; omega
      clear fo a b nb E1 E2 E3 hU
      go_enter Tryd.func25, Tryd.ntmps25
      go_wp2_with fail
      go_quiet ((first
        | (go_at_call 38; first | (with_reducible exact quiet_left (s1 _)) | (with_reducible exact quiet_left (s4 _)))
        | (go_at_call 37; with_reducible exact Calls.quiet_of (g1 _))))
      go_wp2_with fail
      go_quiet ((first
        | (go_at_call 38; first | (with_reducible exact quiet_more_left (s2 _)) | (with_reducible exact quiet_more_left (s3 _)))
        | (go_at_call 37; with_reducible exact quiet_more (g2 _))))
      go_wp2_with fail
      go_quiet ((first
        | (go_at_call 38; first | (with_reducible exact quiet_more_left (s1 _)) | (with_reducible exact quiet_more_left (s2 _)))
        | (go_at_call 39; with_reducible exact quiet_more_left (m1 _))))
      go_wp2_with fail
      go_quiet ((first
        | (go_at_call 38; first | (with_reducible exact quiet_more_left (s3 _)) | (with_reducible exact quiet_more_left (s4 _)))
        | (go_at_call 39; with_reducible exact quiet_more_left (m2 _))))
      go_wp2_with fail
      exact bodyPost_ret (v := .tuple #[ratV 0 0, .int .i64 3]) (by simp [results, Tryd.results25, go_sem]) rfl ⟨rfl, below_two (below_box3 _ _ _ _ _)⟩
  · have na := up_pos a
    have E1 : fitE N D = 3 := by unfold fitE; rw [if_neg (by omega)]
    have E2 : fitD N D = 0 := by unfold fitD; rw [if_neg (by omega)]
    have E3 : fitN (!(decide (n < 0) == decide (m < 0))) N D = 0 := by unfold fitN; rw [if_neg (by omega)]
    rw [E1, E2, E3]
    obtain ⟨U, hU⟩ : ∃ U, U = up N := ⟨_, rfl⟩
    rw [← hU] at m1 a
    have b2 : ((U : Int) == 0) = false := by simp; omega
    have b3 : ((U : Int) != 0) = true := by simp; omega
    clear fo a na E1 E2 E3 hU
    go_enter Tryd.func25, Tryd.ntmps25
    go_wp2_with fail
    go_quiet ((first
      | (go_at_call 38; first | (with_reducible exact quiet_left (s1 _)) | (with_reducible exact quiet_left (s4 _)))
      | (go_at_call 37; with_reducible exact Calls.quiet_of (g1 _))))
    go_wp2_with fail
    go_quiet ((first
      | (go_at_call 38; first | (with_reducible exact quiet_more_left (s2 _)) | (with_reducible exact quiet_more_left (s3 _)))
      | (go_at_call 37; with_reducible exact quiet_more (g2 _))))
    go_wp2_with fail
    go_quiet ((first
      | (go_at_call 38; first | (with_reducible exact quiet_more_left (s1 _)) | (with_reducible exact quiet_more_left (s2 _)))
      | (go_at_call 39; with_reducible exact quiet_more_left (m1 _))))
    go_wp2_with fail
    go_quiet ((first
      | (go_at_call 38; first | (with_reducible exact quiet_more_left (s3 _)) | (with_reducible exact quiet_more_left (s4 _)))
      | (go_at_call 39; with_reducible exact quiet_more_left (m2 _))))
    go_wp2_with fail
    exact bodyPost_ret (v := .tuple #[ratV 0 0, .int .i64 3]) (by simp [results, Tryd.results25, go_sem]) rfl ⟨rfl, below_two (below_box3 _ _ _ _ _)⟩
end Go.Proofs.YthlogaenbnhobaaDoor
