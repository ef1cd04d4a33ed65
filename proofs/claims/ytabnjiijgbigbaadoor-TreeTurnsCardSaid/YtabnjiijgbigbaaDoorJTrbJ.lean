/-
  The walk of package tree's moved. (Template: by-name.py fills it.)
-/
import Derived.Test.YtabnjiijgbigbaaDoorKJ
import Derived.Test.YtabnjiijgbigbaaDoorKX
namespace Go.Proofs.YtabnjiijgbigbaaDoor
open Go.RowKit Go.Maps

set_option maxRecDepth 10000 in
set_option maxHeartbeats 8000000 in
theorem moved_any (w : World) (x : NdV × Nd) (bm nm : Nat) (L : List (Int × Int)) (hx : NdAt w x) (hm : MapII w bm nm L) (hz : SizedD x.2) (hk : ∀ c ∈ x.2.kids, 0 ≤ c ∧ c ≤ 1000000) :
    Calls Tryd.prog 16 #[ndV x, .map (some bm)] w fun e w' => ∃ y : NdV, e = .returned (ndV (y, movedM L x.2)) ∧ NdOwn w' w.heap.size (y, movedM L x.2) ∧ NdApart y ∧ Below w.heap.size w w' := by
  obtain ⟨⟨x1, x2, x3⟩, kd, ws, nums, ks, ps⟩ := x
  obtain ⟨⟨A1, c1, e1, l1, m1, r1, t1⟩, ⟨A2, c2, e2, l2, m2, r2⟩, A3, c3, e3, l3, m3, r3⟩ := hx
  dsimp only at e1 e2 e3 l1 l2 l3 r1 r2 r3 t1 hz hk
  subst e1 e2 e3
  unfold ndV movedM
  dsimp only
  have E1 := Lib.hid (fun (wr : World) (hb : Below w.heap.size w wr) => tclone_str wr A1 ws.length c1 (ws.map txt) ((r1.below hb).more hb.size) (txt_one ws) (Nat.le_trans l1 m1) hz.1)
  have E2 := Lib.hid (fun (wr : World) (hb : Below w.heap.size w wr) => tclone_int64 wr A2 nums.length c2 (nums.map (Value.int .i64)) ((r2.below hb).more hb.size) (int_one nums) (Nat.le_trans l2 m2) hz.2.1)
  have E3 := Lib.hid (fun (wr : World) (hb : Below w.heap.size w wr) => tclone_int wr A3 ks.length c3 (ks.map (Value.int .i64)) ((r3.below hb).more hb.size) (int_one ks) (Nat.le_trans l3 m3) hz.2.2)
  have HH := Lib.hid (And.intro hm (And.intro t1 (And.intro hk (And.intro hz (And.intro (Nat.le_trans l3 m3) hm.lt)))))
  clear r1 r2 r3 t1 hz hk hm l1 l2 l3 m1 m2 m3
  have a1 := below_alloc1 w (.cells #[.int .i64 kd, .slice A1 ws.length c1, .slice A2 nums.length c2, .slice A3 ks.length c3, .int .i64 ps] 30)
  have a2 := below_alloc1 (w.alloc (.cells #[.int .i64 kd, .slice A1 ws.length c1, .slice A2 nums.length c2, .slice A3 ks.length c3, .int .i64 ps] 30)) (.cells #[.int .i64 0, .slice none 0 0, .slice none 0 0, .slice none 0 0, .int .i64 0] 30)
  have b1 := (Blk.start w #[.int .i64 kd, .slice A1 ws.length c1, .slice A2 nums.length c2, .slice A3 ks.length c3, .int .i64 ps] 30).keep a2
  have b2 := Blk.start (w.alloc (.cells #[.int .i64 kd, .slice A1 ws.length c1, .slice A2 nums.length c2, .slice A3 ks.length c3, .int .i64 ps] 30)) #[.int .i64 0, .slice none 0 0, .slice none 0 0, .slice none 0 0, .int .i64 0] 30
  have hsz : ((w.alloc (.cells #[.int .i64 kd, .slice A1 ws.length c1, .slice A2 nums.length c2, .slice A3 ks.length c3, .int .i64 ps] 30)).alloc (.cells #[.int .i64 0, .slice none 0 0, .slice none 0 0, .slice none 0 0, .int .i64 0] 30)).heap.size = w.heap.size + 2 := by rw [World.size_alloc, World.size_alloc]
  rw [World.size_alloc] at b2
  go_enter Tryd.func16, Tryd.ntmps16
  go_upto_region 1 with fail
  generalize ((w.alloc (.cells #[.int .i64 kd, .slice A1 ws.length c1, .slice A2 nums.length c2, .slice A3 ks.length c3, .int .i64 ps] 30)).alloc (.cells #[.int .i64 0, .slice none 0 0, .slice none 0 0, .slice none 0 0, .int .i64 0] 30)) = w2 at *
  have H2 := Lib.hid (And.intro (a1.trans (a2.mono a1.size)) (And.intro hsz (And.intro b1 b2)))
  have g1 := b1.cell 1
  have g2 := b1.cell 2
  have g3 := b1.cell 3
  simp only [List.getElem?_toArray, List.getElem?_cons_zero, List.getElem?_cons_succ] at g1 g2 g3
  clear a1 a2 b1 b2 hsz
  go_cut [] from 7 to 18 (fun wx => ∃ B1 d1 B2 d2 B3 d3, MovS w wx kd ps ws nums ks (.slice B1 ws.length d1) (.slice B2 nums.length d2) (.slice B3 ks.length d3))
  case first =>
    go_region_with (first
      | (go_at_call 31; (refine (E1.out _ H2.out.1.drew).mono ?_); rintro e4 w4 ⟨B1, d1, rfl, o1, hb4⟩; have H4 := Lib.hid (And.intro o1 ((belowD w2).trans hb4)); clear o1 hb4; have p2 := (H2.out.2.2.1.keep H4.out.2).cell 2; have p3 := (H2.out.2.2.1.keep H4.out.2).cell 3; simp only [List.getElem?_toArray, List.getElem?_cons_zero, List.getElem?_cons_succ] at p2 p3)
      | (go_at_call 32; (refine (E2.out _ (H2.out.1.trans (H4.out.2.mono H2.out.1.size))).mono ?_); rintro e5 w5 ⟨B2, d2, rfl, o2, hb5⟩; have H5 := Lib.hid (And.intro o2 hb5); clear o2 hb5; have r3 := ((H2.out.2.2.1.keep H4.out.2).keep H5.out.2).cell 3; simp only [List.getElem?_toArray, List.getElem?_cons_zero, List.getElem?_cons_succ] at r3)
      | (go_at_call 33; (refine (E3.out _ ((H2.out.1.trans (H4.out.2.mono H2.out.1.size)).trans (H5.out.2.mono (Nat.le_trans H2.out.1.size H4.out.2.size)))).mono ?_); rintro e6 w6 ⟨B3, d3, rfl, o3, hb6⟩; have H6 := Lib.hid (And.intro o3 hb6); clear o3 hb6; have B6 := ((H2.out.2.2.1.keep H4.out.2).keep H5.out.2).keep H6.out.2; have k1 := B6.cell 1; have k2 := B6.cell 2; have k3 := B6.cell 3; have f1 := B6.free 1; have f2 := B6.free 2; have f3 := B6.free 3; clear B6; simp only [List.getElem?_toArray, List.getElem?_cons_zero, List.getElem?_cons_succ] at k1 k2 k3))
    all_goals
      go_wp2_with fail
      go_meet
      exact ⟨_, _, _, _, _, _, movs_of H2.out.1 H2.out.2.1 H2.out.2.2.1 H2.out.2.2.2 H4.out.2 H5.out.2 H6.out.2 H4.out.1 H5.out.1 H6.out.1⟩
  case rest =>
    obtain ⟨B1, d1, B2, d2, B3, d3, hS⟩ := hcut
    have SS := Lib.hid (And.intro hS (HH.out.1.keep (hS.below)))
    have q3 := hS.box.cell 3
    simp only [List.getElem?_toArray, List.getElem?_cons_zero, List.getElem?_cons_succ] at q3
    clear hS g1 g2 g3 H2 E1 E2 E3
    obtain ⟨n, hn⟩ : ∃ n, n = ks.length := ⟨_, rfl⟩
    have HN := Lib.hid (And.intro hn (show n ≤ 140737488355328 by have := HH.out.2.2.2.1.2.2; dsimp only at this; omega))
    rw [← hn] at q3
    clear hn
    generalize wc = w7 at *
    go_wp2_with fail
    go_loopg [22] n (fun gj v22 wr => ∃ j : Nat, v22 = .int .i64 j ∧ j ≤ n ∧ gj = n - j ∧ MovS w wr kd ps ws nums ((ks.take j).map (look0 L) ++ ks.drop j) (.slice B1 ws.length d1) (.slice B2 nums.length d2) (.slice B3 n d3) ∧ MapII wr bm nm L)
    case atStart => exact ⟨0, rfl, Nat.zero_le _, rfl, by simpa [HN.out.1] using SS.out.1, SS.out.2⟩
    case round =>
      obtain ⟨j, rfl, hj, hgj, hS, hM⟩ := hrel
      by_cases hjn : j = n
      · have tj : ¬ (j : Int) < (n : Int) := by omega
        subst hjn
        have e0 : (ks.take j).map (look0 L) ++ ks.drop j = ks.map (look0 L) := by rw [HN.out.1, List.take_length, List.drop_length, List.append_nil]
        rw [e0] at hS
        have z0 := hS.box.cell 0
        have z1 := hS.box.cell 1
        have z2 := hS.box.cell 2
        have z3 := hS.box.cell 3
        have z4 := hS.box.cell 4
        have y0 := hS.res.cell 0
        have y1 := hS.res.cell 1
        have y2 := hS.res.cell 2
        have y3 := hS.res.cell 3
        have y4 := hS.res.cell 4
        have f0 := hS.res.free 0
        have f1 := hS.res.free 1
        have f2 := hS.res.free 2
        have f3 := hS.res.free 3
        have f4 := hS.res.free 4
        simp only [List.getElem?_toArray, List.getElem?_cons_zero, List.getElem?_cons_succ] at z0 z1 z2 z3 z4 y0 y1 y2 y3 y4
        have FIN := Lib.hid (And.intro hS (And.intro HH.out.2.1 HN.out.1))
        clear hS hM hj hgj e0 q3
        go_wp2_with fail
        have DN := FIN.out.1.done FIN.out.2.1
        obtain ⟨⟨ty, hg⟩, h1, h2, h3⟩ := DN
        refine bodyPost_ret (results_cell_row (P := Tryd.prog) rfl _ _ (w.heap.size + 1) ty #[.int .i64 kd, .slice B1 ws.length d1, .slice B2 nums.length d2, .slice B3 j d3, .int .i64 ps] (0, 0) _ rfl hg Tryd.underlying30 rfl (by obtain ⟨i, hi, _, hs, _⟩ := info_three infoNode; rw [hi]; show some i.size = _; rw [hs]; rfl)) rfl ?_
        exact ⟨_, _, _, rfl, h1, h2, h3⟩
      · have hlt : j < n := by omega
        obtain ⟨x, hx⟩ : ∃ x, ks[j]? = some x := ⟨_, List.getElem?_eq_getElem (by have := HN.out.1; omega)⟩
        have hl : ((ks.take j).map (look0 L) ++ ks.drop j).length = n := (half_len _).trans HN.out.1.symm
        have h3 := hS.o3
        rw [hl] at h3
        obtain ⟨g, cp, e3, hgb, _⟩ := h3.form (by omega)
        injection e3 with e3 _ e4
        subst e3 e4
        have d0 := h3.cellAt j (by omega)
        rw [List.getElem?_map, half_at _ hx] at d0
        have d1 := h3.frozenAt j
        have d3 := hS.box.cell 3
        simp only [List.getElem?_toArray, List.getElem?_cons_zero, List.getElem?_cons_succ, Option.map_some] at d0 d3
        have tj : (j : Int) < (n : Int) := by omega
        have tj2 : (0 : Int) ≤ (j : Int) := by omega
        have wj : IntKind.i64.wrap ((j : Int) + 1) = (j : Int) + 1 := IntWalk.i64_in _ (by have := HN.out; omega)
        have wx : (Lit.int .i64 x).wf = true := wf_int (HH.out.2.2.1 x (List.mem_of_getElem? hx))
        have HK := Lib.hid (And.intro hlt (And.intro hgj (And.intro hS (And.intro hM (And.intro hx (And.intro hl wx))))))
        clear hlt hgj hS hM hx hl wx h3 hj hjn q3 hgb
        go_wp2_with (at_lookup; refine wp_lookI _ _ _ rfl rfl Tryd.underlying38 bm nm L rfl HK.out.2.2.2.1 x rfl HK.out.2.2.2.2.2.2 ?_)
        go_roundg (n - (j + 1))
        case measure => have := HK.out; omega
        case rel => exact ⟨j + 1, by push_cast; rfl, by have := HK.out; omega, rfl, by rw [← half_set (look0 L) HK.out.2.2.2.2.1]; exact HK.out.2.2.1.step HK.out.2.2.2.2.2.1, HK.out.2.2.2.1.grown grown_set (by intro e; injection e with e; have := HK.out.2.2.1.o3.lt g rfl; have := HH.out.2.2.2.2.2; omega)⟩
end Go.Proofs.YtabnjiijgbigbaaDoor
