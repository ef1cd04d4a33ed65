/-
  The statement TreeTurns at any numbers. (Template: by-name.py fills it.)
-/
import Derived.Test.YtabnjiijgbigbaaDoorKJ
import Derived.Test.YtabnjiijgbigbaaDoorJTrbJ
import Derived.Test.YtabnjiijgbigbaaDoorKG
namespace Go.Proofs.YtabnjiijgbigbaaDoor
open Go.RowKit Go.Maps

set_option maxRecDepth 10000 in
set_option maxHeartbeats 16000000 in
theorem build_right (w : World) (v : Value) (ns : List Nd) (h : NodesAt w v ns) (ht : StrRow w 0 keysL) (hr : rightN ns = true) (hz : ∀ d ∈ ns, SizedD d) :
    Calls Tryd.prog 7 #[v, .int .i64 0] w (BuiltPut w ns) := by
  have rt := right_of valid_any w v ns h ht
  rw [hr] at rt
  obtain ⟨O, h0, h15⟩ := walk_order hr
  obtain ⟨p, hp⟩ := right_par hr
  have eW : walkT ns = preF ns ns.length ((0 : Nat) : Int) := by unfold walkT; rw [if_pos hr]; rfl
  have PQ := Lib.hid (show ∀ w', Below w.heap.size w w' → Calls Tryd.prog 15 #[v, .int .i64 0] w' fun e w'' => ∃ u, e = .returned u ∧ IntsL w'' u (walkT ns) ∧ Below w'.heap.size w' w'' from fun w' hb => by
    have := preorder_any w' v ns p 0 (h.below hb) hp (by omega)
    rw [← eW] at this
    exact this)
  have EN := Lib.hid (show newT ns = builtT ns (walkT ns) from rfl)
  generalize walkT ns = W at *
  have BL := built_len O
  obtain ⟨A, c, rs0, rfl, n1, n2, n3, R0, each0⟩ := h
  obtain ⟨n, hn⟩ : ∃ n, n = ns.length := ⟨_, rfl⟩
  have hlW : W.length = n := by rw [O.len, hn]
  have HN := Lib.hid (And.intro hn (And.intro hlW (And.intro h0 (And.intro h15 (And.intro BL O)))))
  have H4 := Lib.hid (And.intro R0 (And.intro n3 (And.intro each0 hz)))
  have RT := Lib.hid rt
  have i0 : 0 < n := by omega
  have i1 : ¬ (n : Int) ≤ 0 := by omega
  have i2 : n ≠ 0 := by omega
  have hmm := @run_makeMap Tryd.prog
  have hmk : ∀ w' : World, (Instr.makeSlice 22 (.int .i64 (n : Int)) (.int .i64 (n : Int))).run Tryd.prog w' = .ok (.slice (some ⟨w'.heap.size, 0, none⟩) n n) (w'.alloc (.cells (madeCells #[Value.int .i64 0, .slice none 0 0, .slice none 0 0, .slice none 0 0, .int .i64 0] (n * 5)) 30)) := fun w' => make_nodes w' n (by omega)
  rw [← hn] at RT PQ ⊢
  clear ht hr rt hp eW BL R0 each0 hz n1 n2 n3 O h0 h15 hn hlW
  go_enter Tryd.func7, Tryd.ntmps7
  go_wp2_with (first
    | (go_at_call 9; (with_reducible refine RT.out.mono ?_); rintro e w1 ⟨rfl, hb⟩; have HB := Lib.hid hb; clear hb)
    | (go_at_call 15; (with_reducible refine (PQ.out _ HB.out).mono ?_); rintro e2 w2 ⟨u, rfl, hi, hb2⟩; obtain ⟨A2, c2, rfl, k1, k2, k3⟩ := hi; rw [HN.out.2.1] at k1 k3 ⊢; have H2 := Lib.hid (And.intro (HB.out.trans (hb2.mono HB.out.size)) (And.intro k1 (And.intro k2 k3))); clear hb2 k1 k2 k3))
  go_loopg [31] n (fun gk v31 wr => ∃ k : Nat, v31 = .int .i64 k ∧ k ≤ n ∧ gk = n - k ∧ MapII wr w2.heap.size k (prs W k) ∧ Below w2.heap.size w2 wr)
  case atStart => exact ⟨0, rfl, Nat.zero_le _, rfl, MapII.made w2, below_alloc1 w2 _⟩
  case round =>
    obtain ⟨k, rfl, hk, hgk, hM, hb⟩ := hrel
    by_cases hkn : k = n
    · have tk : ¬ (k : Int) < (n : Int) := by omega
      subst hkn
      generalize wr = wo at *
      have BW := Lib.hid (And.intro hM (And.intro hb (H2.out.1.trans (hb.mono H2.out.1.size))))
      have ST := Lib.hid (rowO_made BW.out.2.2 (n := k) (by have := HN.out; unfold maxLen; omega) (made_node k))
      have hba := below_alloc1 wo (.cells (madeCells #[Value.int .i64 0, .slice none 0 0, .slice none 0 0, .slice none 0 0, .int .i64 0] (k * 5)) 30)
      have S2 := Lib.hid (And.intro (hM.keep hba) (hb.trans (hba.mono hb.size)))
      clear hM hb hgk hk hba
      go_wp2_with fail
      go_loopg [45] k (fun gj v45 wr => ∃ (j : Nat) (rs : List (NdV × Nd)), v45 = .int .i64 j ∧ j ≤ k ∧ gj = k - j ∧ rs.length = k ∧ RowO w wr wo.heap.size k rs ∧ MapII wr w2.heap.size k (prs W k) ∧ Below w2.heap.size w2 wr ∧ ∀ i, i < j → (rs.map (·.2))[i]? = (builtT ns W)[i]?)
      case atStart => exact ⟨0, _, rfl, Nat.zero_le _, rfl, List.length_replicate, ST.out, S2.out.1, S2.out.2, fun i hi => absurd hi (Nat.not_lt_zero _)⟩
      case round =>
        obtain ⟨j, rs, rfl, hj, hgj, hl, hR, hM, hb, hall⟩ := hrel
        by_cases hjn : j = k
        · have tj : ¬ (j : Int) < (k : Int) := by omega
          subst hjn
          have e : rs.map (·.2) = builtT ns W := by
            apply List.ext_getElem?
            intro i
            by_cases q : i < j
            · exact hall i q
            · rw [List.getElem?_eq_none (by rw [List.length_map]; omega), List.getElem?_eq_none (by have := HN.out.2.2.2.2.1; have := HN.out.1; omega)]
          have FIN := Lib.hid (show BuiltPut w ns (.returned (.slice (some ⟨wo.heap.size, 0, none⟩) j j)) wr from by
            refine .inr ⟨wo.heap.size, rs, by omega, e.trans EN.out.symm, ?_, ?_⟩
            · rw [hl]
            · rw [hl]; exact hR)
          clear hl hR hM hb hall hj hgj e tk
          go_wp2_with fail
          go_ret
          exact FIN.out
        · have hlt : j < k := by omega
          obtain ⟨x, hx⟩ : ∃ x, W[j]? = some x := ⟨_, List.getElem?_eq_getElem (by have := HN.out; omega)⟩
          have hin := HN.out.2.2.2.2.2.inside x (List.mem_of_getElem? hx)
          obtain ⟨a, rfl⟩ : ∃ a : Nat, x = a := ⟨x.toNat, by omega⟩
          have hak : a < k := by have := HN.out.1; omega
          obtain ⟨y, hy⟩ : ∃ y, rs0[a]? = some y := ⟨_, List.getElem?_eq_getElem (by have e := congrArg List.length H4.out.2.1; rw [List.length_map] at e; have := HN.out.1; omega)⟩
          have hd : ns[a]? = some y.2 := by rw [← H4.out.2.1, List.getElem?_map, hy]; rfl
          obtain ⟨z, hzj⟩ : ∃ z, rs[j]? = some z := ⟨_, List.getElem?_eq_getElem (by omega)⟩
          obtain ⟨ad, rfl, q0⟩ := ints_at H2.out.2.2.2 hb hx i0
          obtain ⟨ad2, rfl, c0, c1, c3, c4, c5⟩ := nodes_cells H4.out.1 hR.below hy HN.out.2.2.1
          have MV := Lib.hid (moved_any wr y w2.heap.size k (prs W k) ((H4.out.2.2.1 y (List.mem_of_getElem? hy)).below hR.below) hM (H4.out.2.2.2 _ (List.mem_of_getElem? hd)) (fun c hc => by have := HN.out.2.2.2.2.2.kids a _ hd c hc; have := HN.out; omega))
          obtain ⟨⟨A5, c6, ev1, _⟩, ⟨A6, c7, ev2, _⟩, A7, c8, ev3, _⟩ := H4.out.2.2.1 y (List.mem_of_getElem? hy)
          have tj : (j : Int) < (k : Int) := by omega
          have tj2 : (0 : Int) ≤ (j : Int) := by omega
          have ta : (a : Int) < (k : Int) := by omega
          have ta2 : (0 : Int) ≤ (a : Int) := by omega
          have wj : IntKind.i64.wrap ((j : Int) + 1) = (j : Int) + 1 := IntWalk.i64_in _ (by have := HN.out; omega)
          have EM := Lib.hid (moved_is HN.out.2.2.2.2.2 hd)
          have BA := Lib.hid (built_at hx hd)
          have HK := Lib.hid (And.intro hlt (And.intro hgj (And.intro hl (And.intro hR (And.intro hM (And.intro hb (And.intro hall hzj)))))))
          obtain ⟨⟨va, vb, vc⟩, kd, ws, nums, ks, ps⟩ := y
          dsimp only at c0 c1 c3 c4 c5 ev1 ev2 ev3 EM
          subst ev1 ev2 ev3
          unfold ndV at MV
          dsimp only at MV
          rw [HN.out.2.1] at EM
          clear hlt hgj hl hR hM hb hall hj hjn hin hak hx hy hd tk hzj
          go_wp2_with (go_at_call 16; (refine MV.out.mono ?_); rintro e5 w5 ⟨⟨y1, y2, y3⟩, rfl, hy5, ha5, hb5⟩; obtain ⟨B1, d1, q1⟩ := own_shape hy5.1; obtain ⟨B2, d2, q2⟩ := own_shape hy5.2.1; obtain ⟨B3, d3, q3⟩ := own_shape hy5.2.2.1; dsimp only at q1 q2 q3; subst q1 q2 q3; have H5 := Lib.hid (And.intro hy5 (And.intro ha5 hb5)); clear hy5 ha5 hb5; have hR5 := (HK.out.2.2.2.1.keep H5.out.2.2).own; rw [HK.out.2.2.1] at hR5; have f0 := hR5.frozenAt (j * 5); have f1 := hR5.frozenAt (j * 5 + 1); have f2 := hR5.frozenAt (j * 5 + 2); have f3 := hR5.frozenAt (j * 5 + 3); have f4 := hR5.frozenAt (j * 5 + 4); have k0 := (hR5.cellAt (j * 5) (by have := HK.out.1; omega)).trans (nodeCells_at rs j z HK.out.2.2.2.2.2.2.2).1; have k1 := (hR5.cellAt (j * 5 + 1) (by have := HK.out.1; omega)).trans (nodeCells_at rs j z HK.out.2.2.2.2.2.2.2).2.1; have k2 := (hR5.cellAt (j * 5 + 2) (by have := HK.out.1; omega)).trans (nodeCells_at rs j z HK.out.2.2.2.2.2.2.2).2.2.1; have k3 := (hR5.cellAt (j * 5 + 3) (by have := HK.out.1; omega)).trans (nodeCells_at rs j z HK.out.2.2.2.2.2.2.2).2.2.2.1; have k4 := (hR5.cellAt (j * 5 + 4) (by have := HK.out.1; omega)).trans (nodeCells_at rs j z HK.out.2.2.2.2.2.2.2).2.2.2.2; clear hR5)
          go_roundg (k - (j + 1))
          case measure => have := HK.out.1; have := HK.out.2.1; omega
          case rel =>
            have hg := HK.out.2.2.2.1.ge
            have hm5 := HK.out.2.2.2.2.1.keep H5.out.2.2
            have hlt := HK.out.2.2.2.2.1.lt
            refine ⟨j + 1, _, by push_cast; rfl, HK.out.1, rfl, ?_, HK.out.2.2.2.1.put H5.out.2.2 H5.out.1 H5.out.2.1 (k := j) (by have := HK.out; omega), hm5.grown grown_set5 (fun e => ?_), ?_, fun i hi => ?_⟩
            · rw [List.length_set]; exact HK.out.2.2.1
            · injection e with e
              have := HK.out.2.2.2.2.2.1.size
              have := BW.out.1.lt
              omega
            · exact (HK.out.2.2.2.2.2.1.trans (H5.out.2.2.mono HK.out.2.2.2.2.2.1.size)).grown grown_set5 (Nat.le_trans HK.out.2.2.2.2.2.1.size H5.out.2.2.size) (fun i hi => by injection hi with hi; have := BW.out.2.1.size; omega)
            · rw [List.map_set]
              by_cases q : i = j
              · subst q
                rw [List.getElem?_set_self (by rw [List.length_map]; have := HK.out; omega), BA.out, ← EM.out]
              · rw [List.getElem?_set_ne (fun e => q e.symm)]
                exact HK.out.2.2.2.2.2.2.1 i (by omega)
    · have hlt : k < n := by omega
      obtain ⟨x, hx⟩ : ∃ x, W[k]? = some x := ⟨_, List.getElem?_eq_getElem (by have := HN.out; omega)⟩
      obtain ⟨ad, rfl, d0⟩ := ints_at H2.out.2.2.2 hb hx i0
      have tk : (k : Int) < (n : Int) := by omega
      have tk2 : (0 : Int) ≤ (k : Int) := by omega
      have wk : IntKind.i64.wrap ((k : Int) + 1) = (k : Int) + 1 := IntWalk.i64_in _ (by have := HN.out; omega)
      have wx : (Lit.int .i64 x).wf = true := wf_int (by have := HN.out.2.2.2.2.2.inside x (List.mem_of_getElem? hx); have := HN.out; omega)
      have wkk : (Lit.int .i64 (k : Int)).wf = true := wf_int (by have := HN.out; omega)
      have HK := Lib.hid (And.intro hlt (And.intro hgk (And.intro hb (And.intro hx (And.intro hM (And.intro wx wkk))))))
      clear hlt hgk hb hk hkn hx hM wx wkk
      go_wp2_with (at_mapUpdate; refine wp_putI _ _ _ _ rfl rfl Tryd.underlying38 w2.heap.size k (prs W k) rfl HK.out.2.2.2.2.1 (by have := HN.out; unfold maxLen; omega) x (k : Int) rfl rfl HK.out.2.2.2.2.2.1 HK.out.2.2.2.2.2.2 ?_; intro w3 hM3 hg3; have HM3 := Lib.hid (And.intro hM3 hg3); clear hM3 hg3)
      go_roundg (n - (k + 1))
      case measure => have := HK.out; omega
      case rel =>
        refine ⟨k + 1, by push_cast; rfl, by have := HK.out; omega, rfl, ?_, HK.out.2.2.1.grown HM3.out.2 HK.out.2.2.1.size (fun i hi => by injection hi with hi; omega)⟩
        have e : prs W (k + 1) = (x, (k : Int)) :: prs W k := by rw [prs, HK.out.2.2.2.1]; rfl
        rw [e]
        exact HM3.out.1
end Go.Proofs.YtabnjiijgbigbaaDoor

namespace Go.Proofs.YtabnjiijgbigbaaDoor
open Go.RowKit

theorem build_any (w : World) (v : Value) (ns : List Nd) (h : NodesAt w v ns) (ht : StrRow w 0 keysL) (hz : ∀ d ∈ ns, SizedD d) :
    Calls Tryd.prog 7 #[v, .int .i64 0] w (BuiltPut w ns) := by
  cases hr : rightN ns with
  | false => exact build_wrong w v ns h ht hr
  | true => exact build_right w v ns h ht hr hz
theorem BuiltPut.nodes {w w' : World} {ns : List Nd} {e : Ending} (h : BuiltPut w ns e w') : ∃ v, e = .returned v ∧ NodesAt w' v (newT ns) ∧ Below w.heap.size w w' := by
  rcases h with ⟨h1, h2, h3⟩ | ⟨g, rs, _, h2, h3, h4⟩
  · rw [h1]
    exact ⟨_, h2, NodesAt.nil _, h3⟩
  · rw [← h2]
    exact ⟨_, h3, h4.nodes, h4.below⟩
theorem zip_step {a b : List Nd} {k : Nat} {x y : Nd} (hx : a[k]? = some x) (hy : b[k]? = some y) : (List.zipWith likeN (a.take (k + 1)) (b.take (k + 1))).all id = ((List.zipWith likeN (a.take k) (b.take k)).all id && likeN x y) := by
  have h1 := (List.getElem?_eq_some_iff.mp hx).1
  have h2 := (List.getElem?_eq_some_iff.mp hy).1
  rw [List.take_add_one, List.take_add_one, hx, hy, List.zipWith_append (by simp; omega), List.all_append]
  simp
theorem zip_bad {a b : List Nd} {k : Nat} {x y : Nd} (hx : a[k]? = some x) (hy : b[k]? = some y) (h : likeN x y = false) : (List.zipWith likeN a b).all id = false := by
  rw [List.all_eq_false]
  refine ⟨false, List.mem_iff_getElem?.mpr ⟨k, ?_⟩, by decide⟩
  rw [List.getElem?_zipWith, hx, hy, ← h]
set_option maxRecDepth 10000 in
set_option maxHeartbeats 8000000 in
theorem equalf_any (w : World) (u v : Value) (a b : List Nd) (ha : NodesAt w u a) (hb : NodesAt w v b) :
    Calls Tryd.prog 17 #[u, v, .func (.func 18) #[] #[]] w fun e w' => e = .returned (.bool (decide (a.length = b.length) && (List.zipWith likeN a b).all id)) ∧ Below w.heap.size w w' := by
  obtain ⟨A1, c1, r1, rfl, n2, n3, n4, n5, n6⟩ := ha
  obtain ⟨A2, c2, r2, rfl, k2, k3, k4, k5, k6⟩ := hb
  obtain ⟨n, hn⟩ : ∃ n, n = a.length := ⟨_, rfl⟩
  rw [← hn] at n2 n5 ⊢
  by_cases hl : n = b.length
  · rw [← hl] at k2 k5 ⊢
    have t0 : ((n : Int) != (n : Int)) = false := by simp
    have HN := Lib.hid (And.intro hn (And.intro hl (show n ≤ 9223372036854775807 by unfold maxLen at n3; omega)))
    have H4 := Lib.hid (And.intro n5 (And.intro n4 (And.intro n6 (And.intro k5 (And.intro k4 k6)))))
    rw [decide_eq_true rfl, Bool.true_and]
    clear hn n2 n3 n4 n5 n6 k2 k3 k4 k5 k6 hl
    go_enter Tryd.func17, Tryd.ntmps17
    go_wp2_with fail
    go_loopg [17] n (fun gk v17 wr => ∃ k : Nat, v17 = .int .i64 k ∧ k ≤ n ∧ gk = n - k ∧ (List.zipWith likeN (a.take k) (b.take k)).all id = true ∧ Below w.heap.size w wr)
    case atStart => exact ⟨0, rfl, Nat.zero_le _, rfl, rfl, Below.refl _ _⟩
    case round =>
      obtain ⟨k, rfl, hk, hgk, ht, hb⟩ := hrel
      by_cases hkn : k = n
      · have tk : ¬ (k : Int) < (n : Int) := by omega
        have e : (List.zipWith likeN a b).all id = true := by
          rw [List.take_of_length_le (by have := HN.out; omega), List.take_of_length_le (by have := HN.out; omega)] at ht
          exact ht
        have FIN := Lib.hid (And.intro e hb)
        clear hk hgk ht hb hkn e
        go_wp2_with fail
        go_ret
        exact ⟨by rw [FIN.out.1]; rfl, FIN.out.2⟩
      · have hlt : k < n := by omega
        obtain ⟨x, hx⟩ : ∃ x, r1[k]? = some x := ⟨_, List.getElem?_eq_getElem (by have e := congrArg List.length H4.out.2.1; rw [List.length_map] at e; have := HN.out; omega)⟩
        obtain ⟨y, hy⟩ : ∃ y, r2[k]? = some y := ⟨_, List.getElem?_eq_getElem (by have e := congrArg List.length H4.out.2.2.2.2.1; rw [List.length_map] at e; have := HN.out; omega)⟩
        have hx2 : a[k]? = some x.2 := by rw [← H4.out.2.1, List.getElem?_map, hx]; rfl
        have hy2 : b[k]? = some y.2 := by rw [← H4.out.2.2.2.2.1, List.getElem?_map, hy]; rfl
        obtain ⟨ad1, rfl, d0, d1, d2, d3, d4⟩ := nodes_cells H4.out.1 hb hx (by omega)
        have NC := Lib.hid (fun (o : Obj) => nodes_cells H4.out.2.2.2.1 (hb.trans ((below_alloc1 wr o).mono hb.size)) hy (by omega : 0 < n))
        have AL := Lib.hid (fun (wq : World) (hq : Below w.heap.size w wq) => alike_any wq x y ((H4.out.2.2.1 x (List.mem_of_getElem? hx)).below hq) ((H4.out.2.2.2.2.2 y (List.mem_of_getElem? hy)).below hq))
        obtain ⟨⟨B1, c5, ev1, _⟩, ⟨B2, c6, ev2, _⟩, B3, c7, ev3, _⟩ := H4.out.2.2.1 x (List.mem_of_getElem? hx)
        obtain ⟨⟨D1, c8, eu1, _⟩, ⟨D2, c9, eu2, _⟩, D3, c10, eu3, _⟩ := H4.out.2.2.2.2.2 y (List.mem_of_getElem? hy)
        have tk : (k : Int) < (n : Int) := by omega
        have tk2 : (0 : Int) ≤ (k : Int) := by omega
        have wk : IntKind.i64.wrap ((k : Int) + 1) = (k : Int) + 1 := IntWalk.i64_in _ (by have := HN.out; omega)
        have ZS := Lib.hid (zip_step hx2 hy2)
        have ZB := Lib.hid (zip_bad hx2 hy2)
        have HK := Lib.hid (And.intro hlt (And.intro hgk (And.intro ht hb)))
        clear hlt hgk ht hb hk hkn hx hy hx2 hy2
        obtain ⟨⟨va, vb, vc⟩, kd, ws, nums, ks, ps⟩ := x
        obtain ⟨ad2, rfl, f0, f1, f2, f3, f4⟩ := NC.out (.cells #[.int .i64 kd, va, vb, vc, .int .i64 ps] 30)
        obtain ⟨⟨ua, ub, uc⟩, kd2, ws2, nums2, ks2, ps2⟩ := y
        dsimp only at d0 d1 d2 d3 d4 f0 f1 f2 f3 f4 ev1 ev2 ev3 eu1 eu2 eu3
        subst ev1 ev2 ev3 eu1 eu2 eu3
        unfold ndV at AL
        dsimp only at AL ZS ZB
        generalize likeN (⟨kd, ws, nums, ks, ps⟩ : Nd) ⟨kd2, ws2, nums2, ks2, ps2⟩ = R at *
        have a1 := below_alloc1 wr (.cells #[.int .i64 kd, .slice B1 ws.length c5, .slice B2 nums.length c6, .slice B3 ks.length c7, .int .i64 ps] 30)
        have a2 := below_alloc1 (wr.alloc (.cells #[.int .i64 kd, .slice B1 ws.length c5, .slice B2 nums.length c6, .slice B3 ks.length c7, .int .i64 ps] 30)) (.cells #[.int .i64 kd2, .slice D1 ws2.length c8, .slice D2 nums2.length c9, .slice D3 ks2.length c10, .int .i64 ps2] 30)
        have b1 := (Blk.start wr #[.int .i64 kd, .slice B1 ws.length c5, .slice B2 nums.length c6, .slice B3 ks.length c7, .int .i64 ps] 30).keep a2
        have b2 := Blk.start (wr.alloc (.cells #[.int .i64 kd, .slice B1 ws.length c5, .slice B2 nums.length c6, .slice B3 ks.length c7, .int .i64 ps] 30)) #[.int .i64 kd2, .slice D1 ws2.length c8, .slice D2 nums2.length c9, .slice D3 ks2.length c10, .int .i64 ps2] 30
        rw [World.size_alloc] at b2
        go_upto_region 7 with fail
        generalize ((wr.alloc (.cells #[.int .i64 kd, .slice B1 ws.length c5, .slice B2 nums.length c6, .slice B3 ks.length c7, .int .i64 ps] 30)).alloc (.cells #[.int .i64 kd2, .slice D1 ws2.length c8, .slice D2 nums2.length c9, .slice D3 ks2.length c10, .int .i64 ps2] 30)) = w8 at *
        have H8 := Lib.hid (HK.out.2.2.2.trans ((a1.trans (a2.mono a1.size)).mono HK.out.2.2.2.size))
        have g0 := b1.cell 0
        have g1 := b1.cell 1
        have g2 := b1.cell 2
        have g3 := b1.cell 3
        have g4 := b1.cell 4
        have h0 := b2.cell 0
        have h1 := b2.cell 1
        have h2 := b2.cell 2
        have h3 := b2.cell 3
        have h4 := b2.cell 4
        simp only [List.getElem?_toArray, List.getElem?_cons_zero, List.getElem?_cons_succ] at g0 g1 g2 g3 g4 h0 h1 h2 h3 h4
        clear a1 a2 b1 b2 d0 d1 d2 d3 d4 f0 f1 f2 f3 f4
        cases R
        · go_wp2_with (go_at_call 18; (refine (AL.out _ H8.out).mono ?_); rintro e5 w5 ⟨rfl, hb5⟩; have H5 := Lib.hid (H8.out.trans (hb5.mono H8.out.size)); clear hb5)
          go_ret
          have zb := ZB.out (by first | rfl | trivial)
          exact ⟨by rw [zb]; rfl, H5.out⟩
        · go_wp2_with (go_at_call 18; (refine (AL.out _ H8.out).mono ?_); rintro e5 w5 ⟨rfl, hb5⟩; have H5 := Lib.hid (H8.out.trans (hb5.mono H8.out.size)); clear hb5)
          go_roundg (n - (k + 1))
          case measure => have := HK.out.1; have := HK.out.2.1; omega
          case rel => exact ⟨k + 1, by push_cast; rfl, HK.out.1, rfl, by rw [ZS.out, HK.out.2.2.1]; rfl, H5.out⟩
  · have t0 : ((n : Int) != (b.length : Int)) = true := by rw [bne_iff_ne]; omega
    rw [decide_eq_false hl]
    generalize b.length = m at *
    clear hn n2 n3 n4 n5 n6 k2 k3 k4 k5 k6 hl
    go_enter Tryd.func17, Tryd.ntmps17
    go_wp2_with fail
    go_ret
    exact ⟨rfl, Below.refl _ _⟩
/-- What Same answers. -/
def sameN (a b : List Nd) : Bool := sameT (newT a) (newT b)
set_option maxRecDepth 10000 in
set_option maxHeartbeats 8000000 in
theorem same6_any (w : World) (u v : Value) (a b : List Nd) (ha : NodesAt w u a) (hb : NodesAt w v b) (ht : StrRow w 0 keysL) (za : ∀ d ∈ a, SizedD d) (zb : ∀ d ∈ b, SizedD d) :
    Calls Tryd.prog 8 #[u, v] w fun e w' => e = .returned (.bool (sameN a b)) ∧ Below w.heap.size w w' := by
  have R1 := Lib.hid (build_any w u a ha ht za)
  have R2 := Lib.hid (fun (wr : World) (h : Below w.heap.size w wr) => build_any wr v b (hb.below h) (ht.below h) zb)
  unfold sameN sameT
  generalize hA : newT a = na at *
  generalize hB : newT b = nb at *
  have HAB := Lib.hid (And.intro hA hB)
  obtain ⟨n, hn⟩ : ∃ n, n = na.length := ⟨_, rfl⟩
  have EQ := Lib.hid (fun (wr : World) (x y : Value) (hx : NodesAt wr x na) (hy : NodesAt wr y nb) => equalf_any wr x y na nb hx hy)
  generalize (List.zipWith likeN na nb).all id = Z at *
  generalize decide (na.length = nb.length) = D at *
  have HN := Lib.hid hn
  rw [← hn]
  clear ha hb ht za zb hA hB hn
  rcases Nat.eq_zero_or_pos n with h0 | h0
  · subst h0
    rw [decide_eq_false (Nat.lt_irrefl 0)]
    go_enter Tryd.func8, Tryd.ntmps8
    go_wp2_with (first
      | (go_at_call 7; (with_reducible refine R1.out.mono ?_); rintro e1 w1 hp1; obtain ⟨v1, rfl, hv1, hb1⟩ := hp1.nodes; rw [HAB.out.1] at hv1; obtain ⟨A1, c1, rfl⟩ : ∃ A c, v1 = .slice A 0 c := by { obtain ⟨A, c, _, e, _⟩ := id hv1; rw [← HN.out] at e; exact ⟨A, c, e⟩ }; have H1 := Lib.hid (And.intro hv1 hb1); clear hp1 hv1 hb1)
      | (go_at_call 7; (with_reducible refine (R2.out _ H1.out.2).mono ?_); rintro e2 w2 hp2; obtain ⟨v2, rfl, hv2, hb2⟩ := hp2.nodes; have H2 := Lib.hid (H1.out.2.trans (hb2.mono H1.out.2.size)); clear hp2 hv2 hb2))
    go_ret
    exact ⟨rfl, H2.out⟩
  · have i0 : (0 : Int) < (n : Int) := by omega
    rw [decide_eq_true h0, Bool.true_and]
    go_enter Tryd.func8, Tryd.ntmps8
    go_wp2_with (first
      | (go_at_call 7; (with_reducible refine R1.out.mono ?_); rintro e1 w1 hp1; obtain ⟨v1, rfl, hv1, hb1⟩ := hp1.nodes; rw [HAB.out.1] at hv1; obtain ⟨A1, c1, rfl⟩ : ∃ A c, v1 = .slice A n c := by { obtain ⟨A, c, _, e, _⟩ := id hv1; rw [← HN.out] at e; exact ⟨A, c, e⟩ }; have H1 := Lib.hid (And.intro hv1 hb1); clear hp1 hv1 hb1)
      | (go_at_call 7; (with_reducible refine (R2.out _ H1.out.2).mono ?_); rintro e2 w2 hp2; obtain ⟨v2, rfl, hv2, hb2⟩ := hp2.nodes; rw [HAB.out.2] at hv2; have H2 := Lib.hid (And.intro hv2 (And.intro (H1.out.1.below hb2) (H1.out.2.trans (hb2.mono H1.out.2.size)))); clear hp2 hv2 hb2)
      | (go_at_call 17; (with_reducible refine (EQ.out _ _ _ H2.out.2.1 H2.out.1).mono ?_); rintro e3 w3 ⟨rfl, hb3⟩; have H3 := Lib.hid (H2.out.2.2.trans (hb3.mono H2.out.2.2.size)); clear hb3))
    go_ret
    exact ⟨rfl, H3.out⟩
end Go.Proofs.YtabnjiijgbigbaaDoor

namespace Go.Proofs.YtabnjiijgbigbaaDoor
open Go.RowKit

theorem newT_len {ns : List Nd} (hr : rightN ns = true) : (newT ns).length = ns.length ∧ 0 < ns.length ∧ ns.length ≤ 1500 := by
  obtain ⟨O, h1, h2⟩ := walk_order hr
  exact ⟨built_len O, h1, h2⟩
theorem newT_self {ns : List Nd} (hr : rightN ns = true) : newT (newT ns) = newT ns :=
  built_self (built_right hr) (by
    have := built_walk hr
    rw [← (newT_len hr).1] at this
    exact this)
/-- One thing changed, kids aside, makes another tree of it, or none. -/
theorem turned_other {ns : List Nd} (hr : rightN ns = true) {k : Nat} {d d' : Nd} (hd : (newT ns)[k]? = some d) (hk : d'.kids = d.kids) (hl : likeN d d' = false) : sameN ns ((newT ns).set k d') = false := by
  have hw : walkT (newT ns) = idL (newT ns).length := by
    have := built_walk hr
    rw [← (newT_len hr).1] at this
    exact this
  have hlt := (List.getElem?_eq_some_iff.mp hd).1
  unfold sameN
  cases hc : rightN ((newT ns).set k d') with
  | true =>
    have e : newT ((newT ns).set k d') = (newT ns).set k d' := changed_self (built_right hr) hw hd hk hc
    rw [e]
    exact sameT_not hd (List.getElem?_set_self hlt) hl
  | false =>
    rw [newT_wrong hc]
    unfold sameT
    have := newT_len hr
    rw [show decide ((newT ns).length = ([] : List Nd).length) = false by rw [decide_eq_false_iff_not]; show ¬ _ = 0; omega]
    simp
theorem turned_same {ns : List Nd} (hr : rightN ns = true) : sameN ns (newT ns) = true := by
  unfold sameN
  rw [newT_self hr]
  exact sameT_self (by have := newT_len hr; omega)
theorem build_row (w : World) (v : Value) (ns : List Nd) (h : NodesAt w v ns) (ht : StrRow w 0 keysL) (hz : ∀ d ∈ ns, SizedD d) (hr : rightN ns = true) :
    Calls Tryd.prog 7 #[v, .int .i64 0] w fun e w' => ∃ g rs, rs.length = ns.length ∧ rs.map (·.2) = newT ns ∧ e = .returned (.slice (some ⟨g, 0, none⟩) ns.length ns.length) ∧ RowO w w' g ns.length rs := by
  refine (build_right w v ns h ht hr hz).mono ?_
  rintro e w' (⟨h1, _⟩ | ⟨g, rs, _, h2, h3, h4⟩)
  · have := newT_len hr
    rw [h1] at this
    simp at this
    omega
  · have e1 : rs.length = ns.length := by
      have := congrArg List.length h2
      rw [List.length_map, (newT_len hr).1] at this
      exact this
    rw [e1] at h3 h4
    exact ⟨g, rs, e1, h2, h3, h4⟩
theorem sized_more {ns : List Nd} (hs : SizedN ns) : ∀ d ∈ ns, SizedD d := fun d hd => by
  have := hs d hd
  unfold SizedD
  omega
theorem sized_new {ns : List Nd} (hs : SizedN ns) (hr : rightN ns = true) : SizedN (newT ns) := fun d hd => by
  obtain ⟨O, _, _⟩ := walk_order hr
  unfold newT builtT at hd
  obtain ⟨x, hx, rfl⟩ := List.mem_map.1 hd
  have hin := O.inside x hx
  obtain ⟨a, rfl⟩ : ∃ a : Nat, x = a := ⟨x.toNat, by omega⟩
  have he : ns[a]? = some ns[a] := List.getElem?_eq_getElem (by omega)
  rw [ndAt_of he]
  have := hs _ (List.mem_of_getElem? he)
  unfold movedN
  rw [List.length_map]
  exact this
theorem sized_set {ns : List Nd} (hs : SizedN ns) {k : Nat} {d : Nd} (hd : SizedD d) : ∀ e ∈ ns.set k d, SizedD e := fun e he => by
  rcases List.mem_or_eq_of_mem_set he with q | rfl
  · exact sized_more hs e q
  · exact hd
def ndC (x : NdV × Nd) : List Value := [.int .i64 x.2.kind, x.1.1, x.1.2.1, x.1.2.2, .int .i64 x.2.pos]
theorem nodeCells_one : ∀ (rs : List (NdV × Nd)) (k : Nat) (x y : NdV × Nd) (i : Nat) (u : Value), rs[k]? = some x → i < 5 → (ndC x).set i u = ndC y → (nodeCells rs).set (k * 5 + i) u = nodeCells (rs.set k y)
  | [], k, x, y, i, u, h, _, _ => by simp at h
  | z :: r, 0, x, y, i, u, h, hi, e => by
    obtain rfl : z = x := by simpa using h
    show (ndC z ++ nodeCells r).set (0 * 5 + i) u = ndC y ++ nodeCells r
    rw [Nat.zero_mul, Nat.zero_add, List.set_append_left _ _ hi, e]
  | z :: r, k + 1, x, y, i, u, h, hi, e => by
    rw [List.getElem?_cons_succ] at h
    show (ndC z ++ nodeCells r).set ((k + 1) * 5 + i) u = ndC z ++ nodeCells (r.set k y)
    have hl : (ndC z).length = 5 := rfl
    rw [List.set_append_right _ _ (by rw [hl]; omega), hl, show (k + 1) * 5 + i - 5 = k * 5 + i by omega, nodeCells_one r k x y i u h hi e]
theorem RowO.turned {W wr w3 : World} {g n : Nat} {rs : List (NdV × Nd)} (h : RowO W wr g n rs) (hn : rs.length = n) {row : Option Nat} (hg : wr.grownBy w3 row) {k : Nat} {x y : NdV × Nd} (hx : rs[k]? = some x) (hrow : ∀ b, row = some b → InB x.1 b)
    (hy : NdOwn w3 W.heap.size y) (hyg : ¬ InB y.1 g) {i : Nat} {u : Value} (hi : i < 5) (hu : (ndC x).set i u = ndC y) :
    NodesAt (w3.setCell ⟨g, k * 5 + i, none⟩ u) (.slice (some ⟨g, 0, none⟩) n n) ((rs.map (·.2)).set k y.2) ∧ Below W.heap.size W (w3.setCell ⟨g, k * 5 + i, none⟩ u) := by
  have hgx := (h.each x (List.mem_of_getElem? hx)).2.2
  have hog := ownRow_grown h.own hg (fun b hb q => by injection q with q; subst q; exact hgx (hrow _ hb))
  rw [hn] at hog
  have st := hog.stored (k * 5 + i) u
  have hb3 : Below W.heap.size W w3 := h.below.grown hg h.below.size (fun b hb => ((h.each x (List.mem_of_getElem? hx)).1.lt (hrow b hb)).1)
  refine ⟨?_, hb3.setCell (by show W.heap.size ≤ g; exact h.ge.1) _⟩
  have off : ∀ {z : NdV × Nd}, NdOwn w3 W.heap.size z → ¬ InB z.1 g → NdAt (w3.setCell ⟨g, k * 5 + i, none⟩ u) z := fun hz hzg => (hz.grown st.2 (fun b hb => by injection hb with hb; subst hb; exact hzg)).at_
  have hs1 := st.1
  rw [nodeCells_one rs k x y i u hx hi hu] at hs1
  rcases hs1.2 with ⟨e, _⟩ | ⟨g', cap', cur, e, _, _, h1, h2, _⟩
  · cases e
  · injection e with e1 e2 e3
    subst e3
    have hl : ((rs.map (·.2)).set k y.2).length = n := by rw [List.length_set, List.length_map, hn]
    refine ⟨_, n, rs.set k y, by rw [hl], by rw [hl]; exact h1, h2, by rw [List.map_set], by rw [hl]; exact Reads.of_own hs1, fun z hz => ?_⟩
    obtain ⟨j, hj⟩ := List.mem_iff_getElem?.mp hz
    rw [List.getElem?_set] at hj
    by_cases q : k = j
    · rw [if_pos q] at hj
      split at hj
      · injection hj with hj
        subst hj
        exact off hy hyg
      · cases hj
    · rw [if_neg q] at hj
      have e := h.each z (List.mem_of_getElem? hj)
      exact off (e.1.grown hg (fun b hb iz => q (h.lone k j x z b hx hj (hrow b hb) iz))) e.2.2
theorem next_kind (kd : Int) : kd ≠ (wrap64 (kd + 1)).tmod 24 := by
  intro e
  have h1 : (wrap64 (kd + 1)).tmod 24 < 24 := Int.tmod_lt_of_pos _ (by decide)
  have h2 : -24 < (wrap64 (kd + 1)).tmod 24 := by
    generalize wrap64 (kd + 1) = x
    rcases Int.lt_or_le x 0 with q | q
    · have := Int.neg_tmod (-x) 24
      rw [Int.neg_neg] at this
      rw [this, Int.tmod_eq_emod_of_nonneg (by omega)]
      omega
    · rw [Int.tmod_eq_emod_of_nonneg q]
      omega
  have hw : wrap64 (kd + 1) = kd + 1 := by unfold wrap64; omega
  rw [hw] at e h1 h2
  rcases Int.lt_or_le (kd + 1) 0 with q | q
  · have := Int.neg_tmod (-(kd + 1)) 24
    rw [Int.neg_neg] at this
    rw [this, Int.tmod_eq_emod_of_nonneg (by omega)] at e
    omega
  · rw [Int.tmod_eq_emod_of_nonneg q] at e
    omega
theorem reads_one (w : World) (u : Value) (ty : TypeId) : Reads (w.alloc (.cells #[u] ty)) (w.heap.size + 1) 1 (some ⟨w.heap.size, 0, none⟩) 1 [u] := by
  refine ⟨rfl, fun _ => ⟨_, rfl, by simp, fun j v hv => ?_⟩⟩
  rw [Addr.add_lit, Nat.zero_add, (Blk.start w #[u] ty).cell j]
  simpa using hv
end Go.Proofs.YtabnjiijgbigbaaDoor

namespace Go.Proofs.YtabnjiijgbigbaaDoor
open Go.RowKit

set_option maxRecDepth 10000 in
set_option maxHeartbeats 16000000 in
theorem treeturns_any (w : World) (ht : StrRow w 0 keysL) (v : Value) (ns : List Nd) (hN : NodesAt w v ns) (hs : SizedN ns) (a b : Nat) (ha : a < 256) (hb : b < 256) :
    Calls Tryd.prog 3 #[v, .int .u8 (a : Int), .int .u8 (b : Int)] w fun e w' => e = .returned (.bool true) ∧ Below w.heap.size w w' := by
  have AW := Lib.hid (fun (wr : World) (hb : Below w.heap.size w wr) => awake6_yes wr (ht.below hb))
  have SM := Lib.hid (fun (wr : World) (hb : Below w.heap.size w wr) => rsmall_any wr v ns (hN.below hb))
  have RI := Lib.hid (fun (wr : World) (hb : Below w.heap.size w wr) => rright_any wr v ns (hN.below hb) hs)
  have BU := Lib.hid (fun (wr : World) (hb : Below w.heap.size w wr) (hr : rightN ns = true) => build_row wr v ns (hN.below hb) (ht.below hb) (sized_more hs) hr)
  have SA := Lib.hid (fun (wr : World) (hb : Below w.heap.size w wr) (u : Value) (c : List Nd) (hc : NodesAt wr u c) (zc : ∀ d ∈ c, SizedD d) => same6_any wr v u ns c (hN.below hb) hc (ht.below hb) (sized_more hs) zc)
  obtain ⟨A, c, rfl⟩ : ∃ A c, v = .slice A ns.length c := by obtain ⟨A, c, _, e, _⟩ := hN; exact ⟨A, c, e⟩
  have HN := Lib.hid (And.intro hN hs)
  have b0 : Below w.heap.size w w := Below.refl _ _
  clear ht hs hN
  go_enter Tryd.func3, Tryd.ntmps3
  go_upto_region 3 with (first
    | (go_at_call 4; (with_reducible refine (AW.out _ (by with_reducible assumption)).mono ?_); rintro e1 w1 ⟨rfl, hb⟩; replace b0 := b0.trans (hb.mono b0.size); clear hb)
    | (go_at_call 5; (with_reducible refine (SM.out _ (by with_reducible assumption)).mono ?_); rintro e1 w1 ⟨⟨b, rfl, hq⟩, hb⟩; replace b0 := b0.trans (hb.mono b0.size); clear hb hq; cases b)
    | (go_at_call 6; (with_reducible refine (RI.out _ (by with_reducible assumption)).mono ?_); rintro e1 w1 ⟨⟨b, rfl, hq⟩, hb⟩; replace b0 := b0.trans (hb.mono b0.size); have HQ := Lib.hid hq; clear hb hq; cases b))
  · go_ret
    exact ⟨rfl, b0⟩
  · go_ret
    exact ⟨rfl, b0⟩
  have hr := HQ.out trivial
  obtain ⟨n, hn⟩ : ∃ n, n = ns.length := ⟨_, rfl⟩
  have hln := newT_len hr
  have BR := Lib.hid (fun (wr : World) (hb : Below w.heap.size w wr) => BU.out wr hb hr)
  have HH := Lib.hid (And.intro hn (And.intro hln (And.intro hr (And.intro ha hb))))
  have n0 : n ≠ 0 := by omega
  rw [← hn] at BR ⊢
  clear hr HQ hn hln ha hb AW SM RI BU
  go_upto_region 5 with (go_at_call 7; (with_reducible refine (BR.out _ b0).mono ?_); rintro e2 w2 ⟨g, rs, hl, hm, rfl, hR⟩; have H2 := Lib.hid (And.intro hl (And.intro hm hR)); clear hl hm hR)
  have hk : (wrap64 (a : Int)).tmod (n : Int) = ((a % n : Nat) : Int) := by
    rw [show wrap64 (a : Int) = (a : Int) from by have := HH.out.2.2.2; unfold wrap64; omega]
    exact (Int.ofNat_tmod a n).symm
  rw [hk]
  have hkn : a % n < n := Nat.mod_lt _ (by omega)
  generalize a % n = k at *
  obtain ⟨z, hz⟩ : ∃ z, rs[k]? = some z := ⟨_, List.getElem?_eq_getElem (by have := H2.out.1; have := HH.out.1; omega)⟩
  have hd : (newT ns)[k]? = some z.2 := by rw [← H2.out.2.1, List.getElem?_map, hz]; rfl
  obtain ⟨hzo, hza, hzg⟩ := H2.out.2.2.each z (List.mem_of_getElem? hz)
  have hown := H2.out.2.2.own
  rw [H2.out.1] at hown
  have hc := nodeCells_at rs k z hz
  have c0 := (hown.cellAt (k * 5) (by omega)).trans hc.1
  have c1 := (hown.cellAt (k * 5 + 1) (by omega)).trans hc.2.1
  have c2 := (hown.cellAt (k * 5 + 2) (by omega)).trans hc.2.2.1
  have c3 := (hown.cellAt (k * 5 + 3) (by omega)).trans hc.2.2.2.1
  have c4 := (hown.cellAt (k * 5 + 4) (by omega)).trans hc.2.2.2.2
  have f0 := hown.frozenAt (k * 5)
  have f1 := hown.frozenAt (k * 5 + 1)
  have f2 := hown.frozenAt (k * 5 + 2)
  have tk : (k : Int) < (n : Int) := by omega
  have tk0 : (0 : Int) ≤ (k : Int) := by omega
  have H5 := Lib.hid (And.intro hkn (And.intro hz (And.intro hd (And.intro hzo (And.intro hza (And.intro hzg hown))))))
  have B0 := Lib.hid b0
  clear hk hkn hz hd hzo hza hzg hown hc b0
  have ways : b % 3 = 0 ∨ b % 3 = 1 ∨ b % 3 = 2 := by omega
  have Z0 := Lib.hid (sized_new HN.out.2 HH.out.2.2.1)
  have S2 := Lib.hid (fun (wr : World) (hb : Below w.heap.size w wr) (u : Value) (hu : NodesAt wr u (newT ns)) => show Calls Tryd.prog 8 #[.slice A n c, u] wr (fun e w' => e = .returned (.bool true) ∧ Below wr.heap.size wr w') from by
    have := SA.out wr hb u _ hu (sized_more Z0.out)
    rw [turned_same HH.out.2.2.1, ← HH.out.1] at this
    exact this)
  rcases ways with q | q | q
  · have e3 : (b : Int).tmod 3 = 0 := by have := Int.ofNat_tmod b 3; rw [q] at this; exact this.symm
    clear q
    go_upto_region 7 with fail
    obtain ⟨i0, hi, hz0, hz1, hz2⟩ := info_parts info_str
    obtain ⟨⟨va, vb, vc⟩, kd, ws, nums, ks, ps⟩ := z
    obtain ⟨B1, d1, q1⟩ := own_shape H5.out.2.2.2.1.1
    dsimp only at q1 c0 c1 c2 c3 c4
    subst q1
    go_wp2_with (at_builtin; refine wpList_append_any _ rfl _ _ 26 rfl _ 9 i0 (.string ⟨#[]⟩) 1 16 Tryd.underlying26 hi hz0 hz1 hz2 rfl (by decide) _ ws.length (ws.map txt) rfl (H5.out.2.2.2.1.1.alloc _) (w2.heap.size + 1) (some ⟨w2.heap.size, 0, none⟩) 1 1 [txt [122, 122]] rfl (reads_one _ _ _) ?c2 ?c3 ?c4 ?c5 ?_)
    case c2 => first | rfl | decide | simp
    case c3 => have := Z0.out _ (List.mem_of_getElem? H5.out.2.2.1); dsimp only at this; unfold maxLen; omega
    case c4 => have := Z0.out _ (List.mem_of_getElem? H5.out.2.2.1); dsimp only at this; omega
    case c5 => exact Nat.le_succ_of_le H2.out.2.2.below.size
    intro v9 w3 hown hgrow hlies
    obtain ⟨D9, c9, rfl⟩ := own_shape hown
    have hgr := (World.grownBy_alloc w2 _ _).trans hgrow
    have Y9 : NdOwn w3 _ ((.slice D9 (ws.length + 1) c9, vb, vc), (⟨kd, ws ++ [[122, 122]], nums, ks, ps⟩ : Nd)) := ⟨by simpa using hown, ownRow_grown H5.out.2.2.2.1.2.1 hgr (fun b hb q => (H5.out.2.2.2.2.1.1 b hb).1 q), ownRow_grown H5.out.2.2.2.1.2.2.1 hgr (fun b hb q => (H5.out.2.2.2.2.1.1 b hb).2 q), fun s hs => by
      rcases List.mem_append.mp hs with h | h
      · exact H5.out.2.2.2.1.2.2.2 s h
      · rw [List.mem_singleton] at h; subst h; decide⟩
    have G9 : ¬ InB ((.slice D9 (ws.length + 1) c9, vb, vc) : NdV) g := by
      rintro (q | q | q)
      · rcases hlies with e | e
        · exact H5.out.2.2.2.2.2.1 (.inl (e.symm.trans q))
        · rw [e] at q; injection q with q; have := H2.out.2.2.ge.2; omega
      · exact H5.out.2.2.2.2.2.1 (.inr (.inl q))
      · exact H5.out.2.2.2.2.2.1 (.inr (.inr q))
    have hgo := ownRow_grown H5.out.2.2.2.2.2.2 hgr (fun b hb q => by injection q with q; subst q; exact H5.out.2.2.2.2.2.1 (.inl hb))
    have p1 := (hgo.cellAt (k * 5 + 1) (by have := H5.out.1; omega)).trans (nodeCells_at rs k _ H5.out.2.1).2.1
    have p2 := hgo.frozenAt (k * 5 + 1)
    have T9 := Lib.hid (H2.out.2.2.turned H2.out.1 hgr H5.out.2.1 (fun b hb => .inl hb) Y9 G9 (i := 1) (u := .slice D9 (ws.length + 1) c9) (by decide) rfl)
    have Z9 := Lib.hid (show ∀ d ∈ (rs.map (·.2)).set k (⟨kd, ws ++ [[122, 122]], nums, ks, ps⟩ : Nd), SizedD d from by
      rw [H2.out.2.1]
      refine sized_set Z0.out ?_
      have := Z0.out _ (List.mem_of_getElem? H5.out.2.2.1)
      unfold SizedD
      simp only [List.length_append, List.length_singleton]
      dsimp only at this
      omega)
    have L9 := Lib.hid (show likeN (⟨kd, ws, nums, ks, ps⟩ : Nd) ⟨kd, ws ++ [[122, 122]], nums, ks, ps⟩ = false from by
      unfold likeN
      have : (ws == ws ++ [[122, 122]]) = false := by
        rw [beq_eq_false_iff_ne]
        intro e
        have := congrArg List.length e
        simp at this
      simp [this])
    clear hown hgrow hlies hgr Y9 G9 hgo c0 c1 c2 c3 c4 f0 f1 f2 hi hz0 hz1 hz2
    have S1 := Lib.hid (show Calls Tryd.prog 8 #[.slice A n c, .slice (some ⟨g, 0, none⟩) n n] (w3.setCell ⟨g, k * 5 + 1, none⟩ (.slice D9 (ws.length + 1) c9)) (fun e w' => e = .returned (.bool false) ∧ Below (w3.setCell ⟨g, k * 5 + 1, none⟩ (.slice D9 (ws.length + 1) c9)).heap.size (w3.setCell ⟨g, k * 5 + 1, none⟩ (.slice D9 (ws.length + 1) c9)) w') from by
      have := SA.out _ (B0.out.trans (T9.out.2.mono B0.out.size)) _ _ T9.out.1 Z9.out
      rw [H2.out.2.1, turned_other HH.out.2.2.1 H5.out.2.2.1 ?_ L9.out, ← HH.out.1] at this
      · exact this
      · rfl)
    have B9 := Lib.hid (B0.out.trans (T9.out.2.mono B0.out.size))
    clear H5 T9 Z9 L9
    go_wp2_with (first
      | (go_at_call 8; (with_reducible refine S1.out.mono ?_); rintro e4 w4 ⟨rfl, hb4⟩; have H10 := Lib.hid (B9.out.trans (hb4.mono B9.out.size)); clear hb4)
      | (go_at_call 7; (with_reducible refine (BR.out _ H10.out).mono ?_); rintro e6 w6 ⟨g2, rs2, l2, m2, rfl, R2⟩; have H11 := Lib.hid (And.intro (show NodesAt w6 (.slice (some ⟨g2, 0, none⟩) n n) (newT ns) from by (rw [← m2]; have := R2.nodes; rwa [l2] at this)) (H10.out.trans (R2.below.mono H10.out.size))); clear l2 m2 R2)
      | (go_at_call 8; (with_reducible refine (S2.out _ H11.out.2 _ H11.out.1).mono ?_); rintro e7 w7 ⟨rfl, hb7⟩; have H12 := Lib.hid (H11.out.2.trans (hb7.mono H11.out.2.size)); clear hb7))
    go_ret
    exact ⟨rfl, H12.out⟩
  · have e3 : (b : Int).tmod 3 = 1 := by have := Int.ofNat_tmod b 3; rw [q] at this; exact this.symm
    clear q
    go_upto_region 9 with fail
    obtain ⟨i0, hi, hz0, hz1, hz2⟩ := info_parts info_int64
    obtain ⟨⟨va, vb, vc⟩, kd, ws, nums, ks, ps⟩ := z
    obtain ⟨B1, d1, q1⟩ := own_shape H5.out.2.2.2.1.2.1
    dsimp only at q1 c0 c1 c2 c3 c4
    subst q1
    go_wp2_with (at_builtin; refine wpList_append_any _ rfl _ _ 27 rfl _ 2 i0 (.int .i64 0) 1 8 Tryd.underlying27 hi hz0 hz1 hz2 rfl (by decide) _ nums.length (nums.map (Value.int .i64)) rfl (H5.out.2.2.2.1.2.1.alloc _) (w2.heap.size + 1) (some ⟨w2.heap.size, 0, none⟩) 1 1 [.int .i64 1] rfl (reads_one _ _ _) ?c2 ?c3 ?c4 ?c5 ?_)
    case c2 => first | rfl | decide | simp
    case c3 => have := Z0.out _ (List.mem_of_getElem? H5.out.2.2.1); dsimp only at this; unfold maxLen; omega
    case c4 => have := Z0.out _ (List.mem_of_getElem? H5.out.2.2.1); dsimp only at this; omega
    case c5 => exact Nat.le_succ_of_le H2.out.2.2.below.size
    intro v9 w3 hown hgrow hlies
    obtain ⟨D9, c9, rfl⟩ := own_shape hown
    have hgr := (World.grownBy_alloc w2 _ _).trans hgrow
    have Y9 : NdOwn w3 _ ((va, .slice D9 (nums.length + 1) c9, vc), (⟨kd, ws, nums ++ [1], ks, ps⟩ : Nd)) := ⟨ownRow_grown H5.out.2.2.2.1.1 hgr (fun b hb q => (H5.out.2.2.2.2.1.1 b q).1 hb), by simpa using hown, ownRow_grown H5.out.2.2.2.1.2.2.1 hgr (fun b hb q => H5.out.2.2.2.2.1.2 b hb q), H5.out.2.2.2.1.2.2.2⟩
    have G9 : ¬ InB ((va, .slice D9 (nums.length + 1) c9, vc) : NdV) g := by
      rintro (q | q | q)
      · exact H5.out.2.2.2.2.2.1 (.inl q)
      · rcases hlies with e | e
        · exact H5.out.2.2.2.2.2.1 (.inr <| .inl <| (e.symm.trans q))
        · rw [e] at q; injection q with q; have := H2.out.2.2.ge.2; omega
      · exact H5.out.2.2.2.2.2.1 (.inr (.inr q))
    have hgo := ownRow_grown H5.out.2.2.2.2.2.2 hgr (fun b hb q => by injection q with q; subst q; exact H5.out.2.2.2.2.2.1 (.inr <| .inl hb))
    have p1 := (hgo.cellAt (k * 5 + 2) (by have := H5.out.1; omega)).trans (nodeCells_at rs k _ H5.out.2.1).2.2.1
    have p2 := hgo.frozenAt (k * 5 + 2)
    have T9 := Lib.hid (H2.out.2.2.turned H2.out.1 hgr H5.out.2.1 (fun b hb => .inr <| .inl hb) Y9 G9 (i := 2) (u := .slice D9 (nums.length + 1) c9) (by decide) rfl)
    have Z9 := Lib.hid (show ∀ d ∈ (rs.map (·.2)).set k (⟨kd, ws, nums ++ [1], ks, ps⟩ : Nd), SizedD d from by
      rw [H2.out.2.1]
      refine sized_set Z0.out ?_
      have := Z0.out _ (List.mem_of_getElem? H5.out.2.2.1)
      unfold SizedD
      simp only [List.length_append, List.length_singleton]
      dsimp only at this
      omega)
    have L9 := Lib.hid (show likeN (⟨kd, ws, nums, ks, ps⟩ : Nd) ⟨kd, ws, nums ++ [1], ks, ps⟩ = false from by
      unfold likeN
      have : (nums == nums ++ [1]) = false := by
        rw [beq_eq_false_iff_ne]
        intro e
        have := congrArg List.length e
        simp at this
      simp [this])
    clear hown hgrow hlies hgr Y9 G9 hgo c0 c1 c2 c3 c4 f0 f1 f2 hi hz0 hz1 hz2
    have S1 := Lib.hid (show Calls Tryd.prog 8 #[.slice A n c, .slice (some ⟨g, 0, none⟩) n n] (w3.setCell ⟨g, k * 5 + 2, none⟩ (.slice D9 (nums.length + 1) c9)) (fun e w' => e = .returned (.bool false) ∧ Below (w3.setCell ⟨g, k * 5 + 2, none⟩ (.slice D9 (nums.length + 1) c9)).heap.size (w3.setCell ⟨g, k * 5 + 2, none⟩ (.slice D9 (nums.length + 1) c9)) w') from by
      have := SA.out _ (B0.out.trans (T9.out.2.mono B0.out.size)) _ _ T9.out.1 Z9.out
      rw [H2.out.2.1, turned_other HH.out.2.2.1 H5.out.2.2.1 ?_ L9.out, ← HH.out.1] at this
      · exact this
      · rfl)
    have B9 := Lib.hid (B0.out.trans (T9.out.2.mono B0.out.size))
    clear H5 T9 Z9 L9
    go_wp2_with (first
      | (go_at_call 8; (with_reducible refine S1.out.mono ?_); rintro e4 w4 ⟨rfl, hb4⟩; have H10 := Lib.hid (B9.out.trans (hb4.mono B9.out.size)); clear hb4)
      | (go_at_call 7; (with_reducible refine (BR.out _ H10.out).mono ?_); rintro e6 w6 ⟨g2, rs2, l2, m2, rfl, R2⟩; have H11 := Lib.hid (And.intro (show NodesAt w6 (.slice (some ⟨g2, 0, none⟩) n n) (newT ns) from by (rw [← m2]; have := R2.nodes; rwa [l2] at this)) (H10.out.trans (R2.below.mono H10.out.size))); clear l2 m2 R2)
      | (go_at_call 8; (with_reducible refine (S2.out _ H11.out.2 _ H11.out.1).mono ?_); rintro e7 w7 ⟨rfl, hb7⟩; have H12 := Lib.hid (H11.out.2.trans (hb7.mono H11.out.2.size)); clear hb7))
    go_ret
    exact ⟨rfl, H12.out⟩
  · have e3 : (b : Int).tmod 3 = 2 := by have := Int.ofNat_tmod b 3; rw [q] at this; exact this.symm
    clear q
    go_upto_region 11 with fail
    obtain ⟨⟨va, vb, vc⟩, kd, ws, nums, ks, ps⟩ := z
    dsimp only at c0 c1 c2 c3 c4
    have T9 := Lib.hid (H2.out.2.2.turned (y := ((va, vb, vc), (⟨((wrap64 (kd + 1)).tmod 24), ws, nums, ks, ps⟩ : Nd))) H2.out.1 (World.grownBy.refl w2 none) H5.out.2.1 (fun b hb => by cases hb) ⟨H5.out.2.2.2.1.1, H5.out.2.2.2.1.2.1, H5.out.2.2.2.1.2.2.1, H5.out.2.2.2.1.2.2.2⟩ H5.out.2.2.2.2.2.1 (i := 0) (u := .int .i64 ((wrap64 (kd + 1)).tmod 24)) (by decide) rfl)
    rw [Nat.add_zero] at T9
    have Z9 := Lib.hid (show ∀ d ∈ (rs.map (·.2)).set k (⟨((wrap64 (kd + 1)).tmod 24), ws, nums, ks, ps⟩ : Nd), SizedD d from by
      rw [H2.out.2.1]
      refine sized_set Z0.out ?_
      have := Z0.out _ (List.mem_of_getElem? H5.out.2.2.1)
      unfold SizedD
      dsimp only at this ⊢
      omega)
    have L9 := Lib.hid (show likeN (⟨kd, ws, nums, ks, ps⟩ : Nd) ⟨((wrap64 (kd + 1)).tmod 24), ws, nums, ks, ps⟩ = false from by
      unfold likeN
      have : (kd == ((wrap64 (kd + 1)).tmod 24)) = false := by
        rw [beq_eq_false_iff_ne]
        exact next_kind kd
      simp [this])
    clear c1 c2 c3 c4 f1 f2
    have S1 := Lib.hid (show Calls Tryd.prog 8 #[.slice A n c, .slice (some ⟨g, 0, none⟩) n n] (w2.setCell ⟨g, k * 5, none⟩ (.int .i64 ((wrap64 (kd + 1)).tmod 24))) (fun e w' => e = .returned (.bool false) ∧ Below (w2.setCell ⟨g, k * 5, none⟩ (.int .i64 ((wrap64 (kd + 1)).tmod 24))).heap.size (w2.setCell ⟨g, k * 5, none⟩ (.int .i64 ((wrap64 (kd + 1)).tmod 24))) w') from by
      have := SA.out _ (B0.out.trans (T9.out.2.mono B0.out.size)) _ _ T9.out.1 Z9.out
      rw [H2.out.2.1, turned_other HH.out.2.2.1 H5.out.2.2.1 ?_ L9.out, ← HH.out.1] at this
      · exact this
      · rfl)
    have B9 := Lib.hid (B0.out.trans (T9.out.2.mono B0.out.size))
    clear H5 T9 Z9 L9
    go_wp2_with (first
      | (go_at_call 8; (with_reducible refine S1.out.mono ?_); rintro e4 w4 ⟨rfl, hb4⟩; have H10 := Lib.hid (B9.out.trans (hb4.mono B9.out.size)); clear hb4)
      | (go_at_call 7; (with_reducible refine (BR.out _ H10.out).mono ?_); rintro e6 w6 ⟨g2, rs2, l2, m2, rfl, R2⟩; have H11 := Lib.hid (And.intro (show NodesAt w6 (.slice (some ⟨g2, 0, none⟩) n n) (newT ns) from by (rw [← m2]; have := R2.nodes; rwa [l2] at this)) (H10.out.trans (R2.below.mono H10.out.size))); clear l2 m2 R2)
      | (go_at_call 8; (with_reducible refine (S2.out _ H11.out.2 _ H11.out.1).mono ?_); rintro e7 w7 ⟨rfl, hb7⟩; have H12 := Lib.hid (H11.out.2.trans (hb7.mono H11.out.2.size)); clear hb7))
    go_ret
    exact ⟨rfl, H12.out⟩
end Go.Proofs.YtabnjiijgbigbaaDoor

namespace Go.Proofs.YtabnjiijgbigbaaDoor
open Go.RowKit

theorem tt_u8 {n : Int} (h : (Lit.int .u8 n).wf = true) : 0 ≤ n ∧ n ≤ 255 := by
  simp only [Lit.wf, Bool.and_eq_true, decide_eq_true_eq] at h
  have a : IntKind.u8.min = 0 := by decide
  have b : IntKind.u8.max = 255 := by decide
  rw [a, b] at h
  exact h
theorem treeturns_all (w : World) (ht : StrRow w 0 keysL) (v : Value) (ns : List Nd) (hN : NodesAt w v ns) (hs : SizedN ns) (x : Int) (hx : (Lit.int .u8 x).wf = true) (y : Int) (hy : (Lit.int .u8 y).wf = true) :
    Calls Tryd.prog 3 #[v, .int .u8 x, .int .u8 y] w fun e w' => e = .returned (.bool true) ∧ Below w.heap.size w w' := by
  have h1 := tt_u8 hx
  have h2 := tt_u8 hy
  obtain ⟨a, rfl⟩ : ∃ a : Nat, x = a := ⟨x.toNat, by omega⟩
  obtain ⟨b, rfl⟩ : ∃ b : Nat, y = b := ⟨y.toNat, by omega⟩
  exact treeturns_any w ht v ns hN hs a b (by omega) (by omega)
end Go.Proofs.YtabnjiijgbigbaaDoor
