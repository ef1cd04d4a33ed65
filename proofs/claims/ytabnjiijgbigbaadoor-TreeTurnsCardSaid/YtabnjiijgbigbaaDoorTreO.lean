/-
  Right, given what valid answers. (Template: by-name.py fills it.)
-/
import Derived.Test.YtabnjiijgbigbaaDoorTreN
namespace Go.Proofs.YtabnjiijgbigbaaDoor
open Go.RowKit

/-! ### Plain: the kids of a tree's nodes -/
theorem kidsO_in (n a : Nat) : ∀ (x : List Int) (p q : List Int), kidsO n a x p = some q → ∀ k ∈ x, (a : Int) < k ∧ k < (n : Int)
  | [], p, q, h, k, hk => by cases hk
  | y :: r, p, q, h, k, hk => by
    rw [kidsO] at h
    split at h
    · cases h
    · rename_i hb
      rcases List.mem_cons.mp hk with e | e
      · subst e
        omega
      · exact kidsO_in n a r _ q h k e
theorem parK_in (ns : List Nd) : ∀ (j : Nat) (p : List Int), parK ns j = some p → ∀ (i : Nat) (d : Nd), i < j → ns[i]? = some d → ∀ k ∈ d.kids, (i : Int) < k ∧ k < (ns.length : Int)
  | 0, p, h, i, d, hi, hd => absurd hi (Nat.not_lt_zero _)
  | j + 1, p, h, i, d, hi, hd => by
    rw [parK] at h
    cases hq : parK ns j with
    | none => rw [hq] at h; cases h
    | some q =>
      rw [hq, Option.bind_some] at h
      split at h
      · cases h
      · by_cases e : i = j
        · subst e
          rw [ndAt_of hd] at h
          exact kidsO_in _ _ _ _ _ h
        · exact parK_in ns j q hq i d (by omega) hd
theorem parT_in {ns : List Nd} {p : List Int} (h : parT ns = some p) {i : Nat} {d : Nd} (hd : ns[i]? = some d) : ∀ k ∈ d.kids, (i : Int) < k ∧ k < (ns.length : Int) := by
  have hi := (List.getElem?_eq_some_iff.mp hd).1
  unfold parT at h
  split at h
  · cases h
  · exact parK_in ns _ p h i d hi hd
theorem parT_kids {ns : List Nd} {p : List Int} (h : parT ns = some p) {i : Nat} {d : Nd} (hd : ns[i]? = some d) : KidsIn d.kids ns.length := fun k hk => by
  have := parT_in h hd k hk
  omega

/-- What valid answers. -/
def ValidCalls : Prop := ∀ (w : World) (v : Value) (ns : List Nd) (x : NdV × Nd), StrRow w 0 keysL → NodesAt w v ns → NdAt w x → KidsIn x.2.kids ns.length →
  Calls Tryd.prog 22 #[v, ndV x] w fun e w' => e = .returned (.bool (validB ns x.2)) ∧ Below w.heap.size w w'
theorem rightN_none {ns : List Nd} (h : parT ns = none) : rightN ns = false := by
  unfold rightN
  rw [h]
theorem rightN_some {ns : List Nd} {p : List Int} (h : parT ns = some p) : rightN ns = (kindAt ns 0 == 0 && decide (maxL (depT p) ≤ 24) && ns.all (validB ns)) := by
  unfold rightN
  rw [h]
theorem kindAt_of {ns : List Nd} {k : Nat} {d : Nd} (h : ns[k]? = some d) : kindAt ns k = d.kind := by
  unfold kindAt
  rw [ndAt_of h]

set_option maxHeartbeats 8000000 in
theorem right_of (hV : ValidCalls) (w : World) (v : Value) (ns : List Nd) (h : NodesAt w v ns) (ht : StrRow w 0 keysL) :
    Calls Tryd.prog 9 #[v] w fun e w' => e = .returned (.bool (rightN ns)) ∧ Below w.heap.size w w' := by
  cases hp : parT ns with
  | none =>
    have pn := parents_none h hp
    rw [rightN_none hp]
    clear h hp ht hV
    go_enter Tryd.func9, Tryd.ntmps9
    go_wp2_with (go_at_call 19; (with_reducible refine pn.mono ?_); rintro e w1 ⟨rfl, hb⟩; have HB := Lib.hid hb; clear hb)
    go_ret
    exact ⟨rfl, HB.out⟩
  | some p =>
    have pn := parents_some h hp
    have hr := rightN_some hp
    obtain ⟨f1, f2, _, _⟩ := parT_facts hp
    have de := fun w g c => depths_of (w := w) (g := g) (c := c) hp
    have mx := fun w g c => max_of (w := w) (g := g) (c := c) hp
    have hv := (fun (w' : World) (hb : Below w.heap.size w w') (i : Nat) (x : NdV × Nd) (hx : NdAt w x) (hd : ns[i]? = some x.2) => hV w' v ns x (ht.below hb) (h.below hb) (hx.below hb) (parT_kids hp hd))
    obtain ⟨A, cp, rs, rfl, h2, h3, h4, h5, h6⟩ := h
    obtain ⟨n, hn⟩ : ∃ n, n = ns.length := ⟨_, rfl⟩
    rw [← hn] at h2 h5 f1 f2 ⊢
    rw [← hn] at pn
    simp only [← hn] at de mx hv
    have HV := Lib.hid hv
    have DE := Lib.hid de
    have MX := Lib.hid mx
    obtain ⟨x0, hx0⟩ : ∃ x, rs[0]? = some x := ⟨_, List.getElem?_eq_getElem (by have := congrArg List.length h4; rw [List.length_map] at this; omega)⟩
    have hk0 : kindAt ns 0 = x0.2.kind := kindAt_of (k := 0) (by rw [← h4, List.getElem?_map, hx0]; rfl)
    obtain ⟨ad, rfl, _⟩ := nodes_cells h5 (Below.refl _ _) hx0 (by omega)
    have D0 := Lib.hid (fun (w' : World) (hb : Below w.heap.size w w') => show w'.cell? ad = some (.int .i64 (kindAt ns 0)) from by
      obtain ⟨ad', e, d0, _⟩ := nodes_cells h5 hb hx0 (by omega)
      injection e with e
      rw [e, hk0]
      rwa [show ad'.add (0 * 5) = ad' by unfold Addr.add; simp] at d0)
    rw [hr]
    have HN := Lib.hid (And.intro hn (And.intro f1 f2))
    have H4 := Lib.hid (And.intro h4 (And.intro h5 h6))
    have i0 : (0 : Int) < (n : Int) := by omega
    clear hn f1 f2 h2 h3 h4 h5 h6 hx0 hk0 hr hp ht hV de mx hv
    generalize kindAt ns 0 = K0 at *
    generalize maxL (depT p) = M at *
    cases t1 : (K0 == 0)
    · have t2 : (K0 != 0) = true := by rw [bne, t1]; rfl
      go_enter Tryd.func9, Tryd.ntmps9
      go_wp2_with (go_at_call 19; (with_reducible refine pn.mono ?_); rintro e w1 ⟨g, c, rfl, hP, hb⟩; have HB := Lib.hid (And.intro hP hb); have d0 := D0.out w1 hb; clear hP hb)
      go_ret
      exact ⟨rfl, HB.out.2⟩
    · have t2 : (K0 != 0) = false := by rw [bne, t1]; rfl
      by_cases q : 24 < M
      · have q2 : ¬ M ≤ 24 := by omega
        rw [decide_eq_false q2]
        go_enter Tryd.func9, Tryd.ntmps9
        go_wp2_with (first
          | (go_at_call 19; (with_reducible refine pn.mono ?_); rintro e w1 ⟨g, c, rfl, hP, hb⟩; have HB := Lib.hid (And.intro hP hb); have d0 := D0.out w1 hb; clear hP hb)
          | (go_at_call 21; (with_reducible refine (DE.out _ _ _ HB.out.1).mono ?_); rintro e w2 ⟨g2, c2, rfl, hP2, hb2⟩; have HC := Lib.hid (And.intro hP2 hb2); clear hP2 hb2)
          | (go_at_call 20; (with_reducible refine (MX.out _ _ _ HC.out.1).mono ?_); rintro e w3 ⟨rfl, rfl⟩))
        go_ret
        exact ⟨rfl, HB.out.2.trans (HC.out.2.mono HB.out.2.size)⟩
      · have q2 : M ≤ 24 := by omega
        rw [decide_eq_true q2]
        go_enter Tryd.func9, Tryd.ntmps9
        go_wp2_with (first
          | (go_at_call 19; (with_reducible refine pn.mono ?_); rintro e w1 ⟨g, c, rfl, hP, hb⟩; have HB := Lib.hid (And.intro hP hb); have d0 := D0.out w1 hb; clear hP hb)
          | (go_at_call 21; (with_reducible refine (DE.out _ _ _ HB.out.1).mono ?_); rintro e w2 ⟨g2, c2, rfl, hP2, hb2⟩; have HC := Lib.hid (And.intro hP2 hb2); clear hP2 hb2)
          | (go_at_call 20; (with_reducible refine (MX.out _ _ _ HC.out.1).mono ?_); rintro e w3 ⟨rfl, rfl⟩))
        have bC := HB.out.2.trans (HC.out.2.mono HB.out.2.size)
        clear DE MX HC d0
        go_loopg [29] n (fun gk v29 wr => ∃ j : Nat, v29 = .int .i64 j ∧ j ≤ n ∧ gk = n - j ∧ (ns.take j).all (validB ns) = true ∧ Below w.heap.size w wr)
        case atStart => exact ⟨0, rfl, Nat.zero_le _, rfl, rfl, bC⟩
        case round =>
          clear bC HB
          obtain ⟨j, rfl, hj, hgk, hall, hb⟩ := hrel
          by_cases hjn : j = n
          · have e : ns.take j = ns := by rw [hjn, HN.out.1]; exact List.take_length
            rw [e] at hall
            subst hjn
            have FIN := Lib.hid (And.intro hall hb)
            clear e hall hb hgk hj
            go_wp2_with fail
            go_ret
            exact ⟨by rw [FIN.out.1]; rfl, FIN.out.2⟩
          have hlt : j < n := by omega
          obtain ⟨x, hx⟩ : ∃ x, rs[j]? = some x := ⟨_, List.getElem?_eq_getElem (by have := congrArg List.length H4.out.1; rw [List.length_map] at this; have := HN.out.1; omega)⟩
          have hd : ns[j]? = some x.2 := by rw [← H4.out.1, List.getElem?_map, hx]; rfl
          have VX := Lib.hid (fun w' hb => HV.out w' hb j x (H4.out.2.2 x (List.mem_of_getElem? hx)) hd)
          have nxt := all_snoc (f := validB ns) hd hall
          have bad : validB ns x.2 = false → ns.all (validB ns) = false := all_not hd
          obtain ⟨ad', ea, d0, d1, d2, d3, d4⟩ := nodes_cells H4.out.2.1 hb hx (by omega)
          injection ea with ea
          subst ea
          have i2 : (j : Int) < (n : Int) := by omega
          have i3 : (0 : Int) ≤ (j : Int) := by omega
          have u1 : IntKind.i64.wrap ((j : Int) + 1) = (j : Int) + 1 := IntWalk.i64_in _ (by have := HN.out; omega)
          obtain ⟨⟨A1, c1, ev1, _⟩, ⟨A2, c2', ev2, _⟩, A3, c3, ev3, _⟩ := H4.out.2.2 x (List.mem_of_getElem? hx)
          have HJ := Lib.hid (And.intro hgk (And.intro hb hlt))
          have NX := Lib.hid (And.intro nxt bad)
          clear hgk hb hlt hjn hj hx hd hall nxt bad
          obtain ⟨⟨va, vb, vc⟩, kd, ws, nums, ks, ps⟩ := x
          dsimp only at d0 d1 d2 d3 d4 ev1 ev2 ev3
          subst ev1 ev2 ev3
          unfold ndV at VX
          dsimp only at VX
          generalize validB ns ⟨kd, ws, nums, ks, ps⟩ = B at *
          go_upto_region 7 with fail
          have a5 := below_alloc1 wr (.cells #[.int .i64 kd, .slice A1 ws.length c1, .slice A2 nums.length c2', .slice A3 ks.length c3, .int .i64 ps] 30)
          have b5 := HJ.out.2.1.trans (a5.mono HJ.out.2.1.size)
          have B5 := Blk.start wr #[.int .i64 kd, .slice A1 ws.length c1, .slice A2 nums.length c2', .slice A3 ks.length c3, .int .i64 ps] 30
          have H5 := Lib.hid b5
          have g0 := B5.cell 0
          have g1 := B5.cell 1
          have g2' := B5.cell 2
          have g3 := B5.cell 3
          have g4 := B5.cell 4
          clear a5 b5 B5 d0 d1 d2 d3 d4
          generalize wr.alloc (.cells #[.int .i64 kd, .slice A1 ws.length c1, .slice A2 nums.length c2', .slice A3 ks.length c3, .int .i64 ps] 30) = w5 at *
          generalize hnb : wr.heap.size = nb at *
          clear hnb
          simp only [List.getElem?_toArray, List.getElem?_cons_zero, List.getElem?_cons_succ] at g0 g1 g2' g3 g4
          cases B
          · have FIN := Lib.hid (NX.out.2 rfl)
            go_wp2_with (go_at_call 22; (with_reducible refine (VX.out _ H5.out).mono ?_); rintro e w6 ⟨rfl, hb6⟩; have H6 := Lib.hid hb6; clear hb6)
            go_ret
            exact ⟨by rw [FIN.out]; rfl, H5.out.trans (H6.out.mono H5.out.size)⟩
          · go_wp2_with (go_at_call 22; (with_reducible refine (VX.out _ H5.out).mono ?_); rintro e w6 ⟨rfl, hb6⟩; have H6 := Lib.hid hb6; clear hb6)
            go_roundg (n - (j + 1))
            case measure => have := HJ.out; omega
            case rel => exact ⟨j + 1, by push_cast; rfl, by have := HJ.out; omega, rfl, NX.out.1, H5.out.trans (H6.out.mono H5.out.size)⟩
end Go.Proofs.YtabnjiijgbigbaaDoor
