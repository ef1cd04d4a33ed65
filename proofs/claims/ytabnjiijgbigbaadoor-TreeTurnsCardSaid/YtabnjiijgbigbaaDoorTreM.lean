/-
  The walks of package tree's which and fraction. (Template: by-name.py fills it.)
-/
import Derived.Test.YtabnjiijgbigbaaDoorTreL
namespace Go.Proofs.YtabnjiijgbigbaaDoor
open Go.RowKit

theorem whichB_nil {ns : List Nd} {k : Nat} {d : Nd} (h : ns[k]? = some d) (h0 : d.nums = []) : whichB ns k = -1 := by
  unfold whichB
  rw [ndAt_of h, h0]
theorem whichB_cons {ns : List Nd} {k : Nat} {d : Nd} {x : Int} {r : List Int} (h : ns[k]? = some d) (h0 : d.nums = x :: r) : whichB ns k = x := by
  unfold whichB
  rw [ndAt_of h, h0]
set_option maxHeartbeats 2000000 in
theorem which_any (w : World) (v : Value) (ns : List Nd) (k : Nat) (h : NodesAt w v ns) (hk : k < ns.length) :
    Calls Tryd.prog 72 #[v, .int .i64 k] w fun e w' => e = .returned (.int .i64 (whichB ns k)) ∧ w = w' := by
  obtain ⟨A, cp, rs, rfl, h2, h3, h4, h5, h6⟩ := h
  obtain ⟨x, hx⟩ : ∃ x, rs[k]? = some x := ⟨_, List.getElem?_eq_getElem (by have := congrArg List.length h4; rw [List.length_map] at this; omega)⟩
  have hd : ns[k]? = some x.2 := by rw [← h4, List.getElem?_map, hx]; rfl
  obtain ⟨ad, rfl, d0, d1, d2, d3, d4⟩ := nodes_cells h5 (Below.refl _ _) hx (by omega)
  obtain ⟨_, ⟨A2, c2, ev2, k2, k3, k4⟩, _⟩ := h6 x (List.mem_of_getElem? hx)
  obtain ⟨⟨va, vb, vc⟩, kd, ws, nums, ks, ps⟩ := x
  dsimp only at d0 d1 d2 d3 d4 ev2 k2 k3 k4 hd
  subst ev2
  obtain ⟨n, hn⟩ : ∃ n, n = ns.length := ⟨_, rfl⟩
  rw [← hn] at hk ⊢
  have i1 : (k : Int) < (n : Int) := by omega
  have i2 : (0 : Int) ≤ (k : Int) := by omega
  clear h2 h3 h4 h5 h6 hx hk hn d0 d1 d3 d4
  cases nums with
  | nil =>
    have t1 : ((0 : Int) == 0) = true := rfl
    have FIN := Lib.hid (whichB_nil hd rfl)
    simp only [List.length_nil] at d2 k2 k4
    clear hd k2 k3 k4
    go_enter Tryd.func72, Tryd.ntmps72
    go_wp2_with fail
    go_ret
    exact ⟨by rw [FIN.out]; rfl, rfl⟩
  | cons y r =>
    obtain ⟨ad2, rfl, e0⟩ := ints_at (k := 0) (x := y) k4 (Below.refl _ _) rfl (by simp)
    rw [show ad2.add 0 = ad2 by unfold Addr.add; simp] at e0
    have FIN := Lib.hid (whichB_cons hd rfl)
    obtain ⟨m, hm⟩ : ∃ m, m = (y :: r).length := ⟨_, rfl⟩
    rw [← hm] at d2
    have t1 : ((m : Int) == 0) = false := by
      have : m = r.length + 1 := hm
      simpa using fun e => by omega
    have i3 : (0 : Int) < (m : Int) := by
      have : m = r.length + 1 := hm
      omega
    clear hd k2 k3 k4 hm
    go_enter Tryd.func72, Tryd.ntmps72
    go_wp2_with fail
    go_ret
    exact ⟨by rw [FIN.out]; rfl, rfl⟩

theorem num_of {n : Nd} {k : Nat} {x : Int} (h : n.nums[k]? = some x) : num n k = x := by
  unfold num
  rw [h]
  rfl
set_option maxHeartbeats 2000000 in
theorem fraction_any (w : World) (x : NdV × Nd) (h : NdAt w x) (h3 : x.2.nums.length = 3) :
    Calls Tryd.prog 70 #[ndV x] w fun e w' => e = .returned (.bool (fracB x.2)) ∧ Below w.heap.size w w' := by
  obtain ⟨⟨A, c, e1, _⟩, ⟨A2, c2, e2, g1, g2, g3⟩, A3, c3, e3, _⟩ := h
  obtain ⟨⟨v1, v2, v3⟩, kd, ws, ns, ks, ps⟩ := x
  dsimp only at e1 e2 e3 h3 g1 g2 g3
  subst e1 e2 e3
  obtain ⟨y1, hy1⟩ : ∃ y, ns[1]? = some y := ⟨_, List.getElem?_eq_getElem (by omega)⟩
  obtain ⟨y2, hy2⟩ : ∃ y, ns[2]? = some y := ⟨_, List.getElem?_eq_getElem (by omega)⟩
  unfold fracB
  rw [num_of (n := (⟨kd, ws, ns, ks, ps⟩ : Nd)) hy1, num_of (n := (⟨kd, ws, ns, ks, ps⟩ : Nd)) hy2]
  have hb := below_alloc1 w (.cells #[.int .i64 kd, .slice A ws.length c, .slice A2 ns.length c2, .slice A3 ks.length c3, .int .i64 ps] 30)
  obtain ⟨ad, rfl, a1⟩ := ints_at (k := 1) g3 hb hy1 (by omega)
  obtain ⟨ad', ea, a2⟩ := ints_at (k := 2) g3 hb hy2 (by omega)
  injection ea with ea
  subst ea
  rw [show ad.add 1 = ⟨ad.block, ad.off + 1, none⟩ by unfold Addr.add; simp] at a1
  rw [show ad.add 2 = ⟨ad.block, ad.off + 2, none⟩ by unfold Addr.add; simp] at a2
  have HB := Lib.hid hb
  unfold ndV
  dsimp only
  rw [h3] at *
  clear g1 g2 g3 hy1 hy2 hb
  by_cases q1 : 1 ≤ y1
  · by_cases q2 : 1 ≤ y2
    · have Q := Lib.hid (And.intro q1 q2)
      go_enter Tryd.func70, Tryd.ntmps70
      go_wp2_with fail
      go_ret
      exact ⟨by first | rfl | (have := Q.out; simp; omega) | (have := Q.out; simp_all), HB.out⟩
    · have q2' : y2 < 1 := by omega
      have Q := Lib.hid (And.intro q1 q2)
      go_enter Tryd.func70, Tryd.ntmps70
      go_wp2_with fail
      go_ret
      exact ⟨by first | rfl | (have := Q.out; simp; omega) | (have := Q.out; simp_all), HB.out⟩
  · have q1' : y1 < 1 := by omega
    have Q := Lib.hid q1
    go_enter Tryd.func70, Tryd.ntmps70
    go_wp2_with fail
    go_ret
    exact ⟨by first | rfl | (have := Q.out; simp; omega) | (have := Q.out; simp_all), HB.out⟩
end Go.Proofs.YtabnjiijgbigbaaDoor
