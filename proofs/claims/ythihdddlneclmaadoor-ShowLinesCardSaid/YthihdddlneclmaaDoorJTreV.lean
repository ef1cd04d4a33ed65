/-
  The walk of package tree's listed, and valid. (Template: by-name.py fills it; gen/genTreQ.py writes it.)
-/
import Derived.Test.YthihdddlneclmaaDoorJTreQa
import Derived.Test.YthihdddlneclmaaDoorJTreQb
import Derived.Test.YthihdddlneclmaaDoorJTreQc
import Derived.Test.YthihdddlneclmaaDoorJTreQd
import Derived.Test.YthihdddlneclmaaDoorJTreQe
import Derived.Test.YthihdddlneclmaaDoorJTreQf
import Derived.Test.YthihdddlneclmaaDoorJTreQg
import Derived.Test.YthihdddlneclmaaDoorJTreT
import Derived.Test.YthihdddlneclmaaDoorJTreU
namespace Go.Proofs.YthihdddlneclmaaDoor
open Go.RowKit

theorem listed_any (w : World) (v : Value) (ns : List Nd) (x : NdV × Nd) (hN : NodesAt w v ns) (hx : NdAt w x) (hk : KidsIn x.2.kids ns.length) :
    Calls Tryd.prog 25 #[v, ndV x] w fun e w' => e = .returned (.bool (listedB ns x.2)) ∧ Below w.heap.size w w' := by
  obtain ⟨⟨va, vb, vc⟩, kd, ws, nums, ks, ps⟩ := x
  by_cases q0 : kd = 0
  · subst q0
    exact listed_program w v ns va vb vc ws nums ks ps hN hx hk
  by_cases q1 : kd = 1
  · subst q1
    exact listed_proto w v ns va vb vc ws nums ks ps hN hx hk
  by_cases q2 : kd = 2
  · subst q2
    exact listed_state w v ns va vb vc ws nums ks ps hN hx hk
  by_cases q3 : kd = 3
  · subst q3
    exact listed_op w v ns va vb vc ws nums ks ps hN hx hk
  by_cases q4 : kd = 4
  · subst q4
    exact listed_fn w v ns va vb vc ws nums ks ps hN hx hk
  by_cases q5 : kd = 5
  · subst q5
    exact listed_param w v ns va vb vc ws nums ks ps hN hx hk
  by_cases q6 : kd = 6
  · subst q6
    exact listed_names w v ns va vb vc ws nums ks ps hN hx hk
  by_cases q7 : kd = 7
  · subst q7
    exact listed_block w v ns va vb vc ws nums ks ps hN hx hk
  by_cases q8 : kd = 8
  · subst q8
    exact listed_let w v ns va vb vc ws nums ks ps hN hx hk
  by_cases q9 : kd = 9
  · subst q9
    exact listed_set w v ns va vb vc ws nums ks ps hN hx hk
  by_cases q10 : kd = 10
  · subst q10
    exact listed_open w v ns va vb vc ws nums ks ps hN hx hk
  by_cases q11 : kd = 11
  · subst q11
    exact listed_do w v ns va vb vc ws nums ks ps hN hx hk
  by_cases q12 : kd = 12
  · subst q12
    exact listed_case w v ns va vb vc ws nums ks ps hN hx hk
  by_cases q13 : kd = 13
  · subst q13
    exact listed_split w v ns va vb vc ws nums ks ps hN hx hk
  by_cases q14 : kd = 14
  · subst q14
    exact listed_call w v ns va vb vc ws nums ks ps hN hx hk
  by_cases q15 : kd = 15
  · subst q15
    exact listed_handle w v ns va vb vc ws nums ks ps hN hx hk
  by_cases q16 : kd = 16
  · subst q16
    exact listed_if w v ns va vb vc ws nums ks ps hN hx hk
  by_cases q17 : kd = 17
  · subst q17
    exact listed_while w v ns va vb vc ws nums ks ps hN hx hk
  by_cases q18 : kd = 18
  · subst q18
    exact listed_return w v ns va vb vc ws nums ks ps hN hx hk
  by_cases q19 : kd = 19
  · subst q19
    exact listed_exit w v ns va vb vc ws nums ks ps hN hx hk
  by_cases q20 : kd = 20
  · subst q20
    exact listed_num w v ns va vb vc ws nums ks ps hN hx hk
  by_cases q21 : kd = 21
  · subst q21
    exact listed_var w v ns va vb vc ws nums ks ps hN hx hk
  by_cases q22 : kd = 22
  · subst q22
    exact listed_bin w v ns va vb vc ws nums ks ps hN hx hk
  by_cases q23 : kd = 23
  · subst q23
    exact listed_neg w v ns va vb vc ws nums ks ps hN hx hk
  exact listed_other w v ns va vb vc kd ws nums ks ps hN hx hk (by simpa using q0) (by simpa using q1) (by simpa using q2) (by simpa using q3) (by simpa using q4) (by simpa using q5) (by simpa using q6) (by simpa using q7) (by simpa using q8) (by simpa using q9) (by simpa using q10) (by simpa using q11) (by simpa using q12) (by simpa using q13) (by simpa using q14) (by simpa using q15) (by simpa using q16) (by simpa using q17) (by simpa using q18) (by simpa using q19) (by simpa using q20) (by simpa using q21) (by simpa using q22) (by simpa using q23)

set_option maxHeartbeats 4000000 in
theorem valid_any : ValidCalls := by
  intro w v ns x ht hN hx hk
  have nm := names_any
  have LI := Lib.hid (fun (wr : World) (hb : Below w.heap.size w wr) => listed_any wr v ns x (hN.below hb) (hx.below hb) hk)
  have NA := Lib.hid (fun (wr : World) (hb : Below w.heap.size w wr) => names_any wr x.1.1 x.2.words (hx.1.below hb) (ht.below hb))
  have NU := Lib.hid (fun (wr : World) (hb : Below w.heap.size w wr) => numbers_any wr x.1.2.1 x.2.nums (hx.2.1.below hb))
  unfold validB
  obtain ⟨h1, h2, h3⟩ := id hx
  obtain ⟨⟨va, vb, vc⟩, kd, ws, nums, ks, ps⟩ := x
  dsimp only at h1 h2 h3 NA NU hk
  obtain ⟨A1, c1, rfl, _⟩ := h1
  obtain ⟨A2, c2, rfl, _⟩ := h2
  obtain ⟨A3, c3, rfl, _⟩ := h3
  unfold ndV at LI ⊢
  dsimp only at LI ⊢
  generalize namesB ws = X at *
  generalize numbersB nums = Y at *
  generalize listedB ns ⟨kd, ws, nums, ks, ps⟩ = Z at *
  have HB := Lib.hid (below_alloc1 w (.cells #[.int .i64 kd, .slice A1 ws.length c1, .slice A2 nums.length c2, .slice A3 ks.length c3, .int .i64 ps] 30))
  clear ht hN hx hk nm
  have g0 := (Blk.start w #[.int .i64 kd, .slice A1 ws.length c1, .slice A2 nums.length c2, .slice A3 ks.length c3, .int .i64 ps] 30).cell 0
  cases X
  · go_enter Tryd.func13, Tryd.ntmps13
    go_wp2_with (go_at_call 23; (with_reducible refine (NA.out _ HB.out).mono ?_); rintro e6 w6 ⟨rfl, rfl⟩)
    go_ret
    exact ⟨rfl, HB.out⟩
  · cases Y
    · go_enter Tryd.func13, Tryd.ntmps13
      go_wp2_with (first
        | (go_at_call 23; (with_reducible refine (NA.out _ HB.out).mono ?_); rintro e6 w6 ⟨rfl, rfl⟩)
        | (go_at_call 24; (with_reducible refine (NU.out _ HB.out).mono ?_); rintro e7 w7 ⟨rfl, rfl⟩))
      go_ret
      exact ⟨rfl, HB.out⟩
    · go_enter Tryd.func13, Tryd.ntmps13
      go_wp2_with (first
        | (go_at_call 23; (with_reducible refine (NA.out _ HB.out).mono ?_); rintro e6 w6 ⟨rfl, rfl⟩)
        | (go_at_call 24; (with_reducible refine (NU.out _ HB.out).mono ?_); rintro e7 w7 ⟨rfl, rfl⟩)
        | (go_at_call 25; (with_reducible refine (LI.out _ HB.out).mono ?_); rintro e8 w8 ⟨rfl, hb8⟩; have B8 := Lib.hid (HB.out.trans (hb8.mono HB.out.size)); clear hb8))
      go_ret
      exact ⟨rfl, B8.out⟩
end Go.Proofs.YthihdddlneclmaaDoor
