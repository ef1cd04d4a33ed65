/-
  The walks of block, branches and its closure, outcome. (Template: by-name.py fills it; gen/genShoQ.py writes it.)
-/
import Derived.Test.YthihdddlneclmaaDoorJShoP
namespace Go.Proofs.YthihdddlneclmaaDoor
open Go.RowKit

theorem enters_stmt : Enters 31 := enters_of Tryd.func31 (by kernel_rfl) rfl
set_option maxRecDepth 10000 in
set_option maxHeartbeats 4000000 in
theorem block_each (w0 : World) (ns : List Nd) (dp : Nat) (S : Nd → Prop) (T : Nd → Txt) (hd : dp < 4000) (hS : Each 31 w0 ns (dp + 1) S T) : Each 20 w0 ns dp (BlockOk ns S) (fun m => bracesT dp (m.kids.map fun k => T (ndAt ns k))) := by
  intro w bp t vn x h hN hx hok hl
  have hq := hx
  obtain ⟨⟨vw, vu, vk⟩, kd, ws, nums, ks, ps⟩ := x
  obtain ⟨hw, hu, hkk⟩ := hx
  dsimp only at hok hw hu hkk hl ⊢
  obtain ⟨Aw, cw, rfl, hwl, hwm, hW, hWl⟩ := hw
  obtain ⟨Au, cu, rfl, hul, hum, hU⟩ := hu
  obtain ⟨Ak, ck, rfl, hkl, hkm, hK⟩ := hkk
  have a1 := below_alloc1 w (.cells #[.int .i64 kd, .slice Aw ws.length cw, .slice Au nums.length cu, .slice Ak ks.length ck, .int .i64 ps] 30)
  have B1 : TBlk _ _ _ _ := TBlk.start w #[.int .i64 kd, .slice Aw ws.length cw, .slice Au nums.length cu, .slice Ak ks.length ck, .int .i64 ps] 30
  have p1 := h.keep a1
  have hok : KidsOk ns ks S := hok
  obtain ⟨c0, c1, c2, c3, c4⟩ := nd_cells (x := ((.slice Aw ws.length cw, .slice Au nums.length cu, .slice Ak ks.length ck), ⟨kd, ws, nums, ks, ps⟩)) (B1)
  dsimp only at c0 c1 c2 c3 c4
  generalize hw1 : w.alloc (.cells #[.int .i64 kd, .slice Aw ws.length cw, .slice Au nums.length cu, .slice Ak ks.length ck, .int .i64 ps] 30) = w1 at *
  have BR := Lib.hid (braces_any _ enters_stmt w0 w1 bp dp t vn ns Ak ck ks S T p1 hN hd hK (by omega) hok hS hl)
  have HX := Lib.hid a1
  clear p1 B1 a1 hq hwl hwm hW hWl hul hum hU hkl hkm hK h hl hN hok hS hd
  go_enter Tryd.func20, Tryd.ntmps20
  go_wp2_with (go_at_call 16; (refine BR.out.mono ?_); rintro e w2 ⟨rfl, hp, hf⟩; have H2 := Lib.hid (And.intro hp hf); clear hp hf)
  go_end0
  exact ⟨rfl, H2.out.1, (Fr.of_below bp (hw1 ▸ HX.out)).trans H2.out.2⟩
set_option maxRecDepth 10000 in
set_option maxHeartbeats 4000000 in
theorem bran1_any (w0 w : World) (bp dp b2 b3 : Nat) (t : Txt) (vn : Value) (ns : List Nd) (A : Option Addr) (c : Nat) (ks : List Int) (Ok : Nd → Prop) (T : Nd → Txt) (k : Nat) (y : Int) (h : PrS w0 w bp t dp vn) (hN : NodesAt w0 vn ns)
    (hB2 : TBlk w b2 31 #[ptrV bp]) (hB3 : TBlk w b3 26 #[.slice A ks.length c])
    (hK : Reads w0 w0.heap.size 1 A ks.length (ks.map (Value.int .i64))) (hok : KidsOk ns ks Ok) (hE : Each 20 w0 ns dp Ok T) (hy : ks[k]? = some y) (hl : t.length + (T (ndAt ns y)).length + 10000 ≤ 140737488355328) :
    Calls Tryd.prog 68 #[.int .i64 (k : Int), ptrV b2, ptrV b3] w fun e w' => e = .returned (.tuple #[]) ∧ PrS w0 w' bp (t ++ T (ndAt ns y)) dp vn ∧ Fr w w' bp := by
  obtain ⟨An, cn, rs, rfl, _, hcn, hm, hR, hNd⟩ := id hN
  have hkl := (List.getElem?_eq_some_iff.1 hy).1
  obtain ⟨hy0, hyn, hyo⟩ := hok y (List.mem_of_getElem? hy)
  obtain ⟨n, rfl⟩ := Int.eq_ofNat_of_zero_le hy0
  have hnl : n < ns.length := by omega
  obtain ⟨r, hr⟩ : ∃ r, rs[n]? = some r := ⟨_, List.getElem?_eq_getElem (by rw [← hm, List.length_map] at hnl; exact hnl)⟩
  have hrn : ns[n]? = some r.2 := by rw [← hm, List.getElem?_map, hr]; rfl
  rw [ndAtS hrn] at hyo hl ⊢
  obtain ⟨ak, rfl, q0⟩ := ints_at hK h.below hy (by omega)
  obtain ⟨an, rfl, n0, n1, n2, n3, n4⟩ := nodes_cells hR h.below hr (by omega)
  have j1 : (k : Int) < (ks.length : Int) := by omega
  have j0 : (0 : Int) ≤ (k : Int) := by omega
  have i0 : (0 : Int) ≤ (n : Int) := by omega
  have i1 : (n : Int) < (ns.length : Int) := by omega
  have e2 := one_cell hB2
  have e3 := one_cell hB3
  have c2 := h.cells.2.2
  have hb := below_drw w
  have EC := Lib.hid (hE w.drew bp t _ r (h.keep hb) hN (hNd r (List.mem_of_getElem? hr)) hyo hl)
  have HB := Lib.hid (Fr.of_below bp hb)
  have hr2 := hNd r (List.mem_of_getElem? hr)
  clear h hN hB2 hB3 hK hok hE hy hl hm hR hNd hkl hy0 hyn hyo hnl hr hrn hb
  obtain ⟨⟨yw, yu, yk⟩, kd2, ws2, nums2, ks2, ps2⟩ := r
  obtain ⟨h61, h62, h63⟩ := hr2
  dsimp only at h61 h62 h63
  obtain ⟨Bw, dw, rfl, _⟩ := h61
  obtain ⟨Bu, du, rfl, _⟩ := h62
  obtain ⟨Bk, dk, rfl, _⟩ := h63
  unfold ndX at EC
  dsimp only at n0 n1 n2 n3 n4 EC
  go_enter Tryd.func68, Tryd.ntmps68
  go_upto_region 0 with fail
  refine wp_region_still_tail 11 (by kernel_rfl) (by kernel_rfl) ?_
  simp only [List.take_succ_cons, List.take_zero, List.drop_succ_cons, List.drop_zero]
  iterate 11 still_step
  refine wpStill_nil ?_
  change wpList _ _ _ _ _ w.drew
  go_wp2_with (go_at_call 20; refine EC.out.mono ?_; rintro e w2 ⟨rfl, hp, hf⟩; have H2 := Lib.hid (And.intro hp hf); clear hp hf)
  go_end0
  exact ⟨rfl, H2.out.1, HB.out.trans H2.out.2⟩
set_option maxRecDepth 10000 in
set_option maxHeartbeats 4000000 in
theorem branches_any (w0 w : World) (bp dp : Nat) (t : Txt) (vn : Value) (ns : List Nd) (A : Option Addr) (c : Nat) (ks : List Int) (Ok : Nd → Prop) (T : Nd → Txt) (h : PrS w0 w bp t dp vn) (hN : NodesAt w0 vn ns)
    (hK : Reads w0 w0.heap.size 1 A ks.length (ks.map (Value.int .i64))) (hkl : ks.length ≤ maxLen) (hok : KidsOk ns ks Ok) (hE : Each 20 w0 ns dp Ok T) (hl : t.length + (sepT [32, 101, 108, 115, 101] (ks.map fun k => T (ndAt ns k))).length + 10000 ≤ 140737488355328) :
    Calls Tryd.prog 46 #[ptrV bp, .slice A ks.length c] w fun e w' => e = .returned (.tuple #[]) ∧ PrS w0 w' bp (t ++ sepT [32, 101, 108, 115, 101] (ks.map fun k => T (ndAt ns k))) dp vn ∧ Fr w w' bp := by
  have a1 := below_alloc1 w (.cells #[ptrV bp] 31)
  have B2 : TBlk _ _ _ _ := TBlk.start w #[ptrV bp] 31
  generalize hw1 : w.alloc (.cells #[ptrV bp] 31) = w1 at *
  have a2 := below_alloc1 w1 (.cells #[.slice A ks.length c] 26)
  have B3 : TBlk _ _ _ _ := TBlk.start w1 #[.slice A ks.length c] 26
  generalize hw2 : w1.alloc (.cells #[.slice A ks.length c] 26) = w2 at *
  have B2' := B2.keep a2
  have p2 := (h.keep a1).keep a2
  have F2 := (Fr.of_below bp a1).trans (Fr.of_below bp a2)
  have c2 := one_cell B2'
  have c3 := one_cell B3
  have T2 := B2'.keep (below_drw w2)
  have T3 := B3.keep (below_drw w2)
  have d2 := one_cell T2
  have d3 := one_cell T3
  have p3 := p2.keep (below_drw w2)
  have SP := Lib.hid (separated_any 68 #[ptrV w.heap.size, ptrV w1.heap.size] (enters_of Tryd.func68 (by kernel_rfl) rfl) w0 w2.drew bp dp t [32, 101, 108, 115, 101] vn (ks.map fun k => T (ndAt ns k)) p3 (fun k x w' t' hx hp hf hl' => by
    rw [List.getElem?_map] at hx
    cases hy : ks[k]? with
    | none => rw [hy] at hx; cases hx
    | some y =>
      rw [hy] at hx
      obtain rfl := Option.some.inj hx
      exact bran1_any w0 w' bp dp _ _ t' vn ns A c ks Ok T k y hp hN (hf.at_ _ _ _ (box_off p3 T2 (by decide)) (by decide) T2) (hf.at_ _ _ _ (box_off p3 T3 (by decide)) (by decide) T3) hK hok hE hy hl') (by rw [List.length_map]; exact hkl) hl)
  rw [List.length_map] at SP
  have HX := Lib.hid F2
  clear a1 a2 B2 B3 B2' p2 F2 T2 T3 p3 h hN hK hkl hok hE hl
  go_enter Tryd.func46, Tryd.ntmps46
  go_upto_region 1 with fail
  go_region_with (go_at_call 26; (refine SP.out.mono ?_); rintro e w5 ⟨rfl, hp, hf⟩; have H5 := Lib.hid (And.intro hp hf); clear hp hf)
  all_goals
    go_wp2_with fail
    go_end0
    exact ⟨rfl, H5.out.1, (HX.out.trans (Fr.of_below bp (below_drw w2))).trans H5.out.2⟩
set_option maxRecDepth 10000 in
set_option maxHeartbeats 4000000 in
theorem outcome_each (w0 : World) (ns : List Nd) (dp : Nat) (Ok : Nd → Prop) (T : Nd → Txt) (hB : Each 20 w0 ns dp Ok T) : Each 69 w0 ns dp (fun n => (∃ s r, n.words = s :: r) ∧ ∃ k, n.kids = [k] ∧ KidsOk ns [k] Ok) (fun n => word n 0 ++ T (kidN ns n 0)) := by
  intro w bp t vn x h hN hx hok hl
  obtain ⟨⟨s, r, hn⟩, kz, hi, hko⟩ := hok
  obtain ⟨hk0, hk1, hv⟩ := hko kz (by simp)
  obtain ⟨k, rfl⟩ := Int.eq_ofNat_of_zero_le hk0
  have hkn : k < ns.length := by omega
  have hq := hx
  obtain ⟨⟨vw, vu, vk⟩, kd, ws, nums, ks, ps⟩ := x
  obtain ⟨hw, hu, hkk⟩ := hx
  dsimp only at hn hi hw hu hkk hl ⊢
  obtain ⟨Aw, cw, rfl, hwl, hwm, hW, hWl⟩ := hw
  obtain ⟨Au, cu, rfl, hul, hum, hU⟩ := hu
  obtain ⟨Ak, ck, rfl, hkl, hkm, hK⟩ := hkk
  have a1 := below_alloc1 w (.cells #[.int .i64 kd, .slice Aw ws.length cw, .slice Au nums.length cu, .slice Ak ks.length ck, .int .i64 ps] 30)
  have B1 : TBlk _ _ _ _ := TBlk.start w #[.int .i64 kd, .slice Aw ws.length cw, .slice Au nums.length cu, .slice Ak ks.length ck, .int .i64 ps] 30
  have p1 := h.keep a1
  obtain ⟨z, hz⟩ : ∃ z, ns[k]? = some z := ⟨_, List.getElem?_eq_getElem hkn⟩
  have he : word ⟨kd, ws, nums, ks, ps⟩ 0 ++ T (kidN ns ⟨kd, ws, nums, ks, ps⟩ 0) = s ++ T z := by
    unfold word
    rw [kidN_of (n := ⟨kd, ws, nums, ks, ps⟩) (k := k) (by rw [hi]; rfl) hz]
    dsimp only
    rw [hn]
    rfl
  rw [ndAtS hz] at hv
  rw [he] at hl ⊢
  simp only [List.length_append] at hl
  obtain ⟨c0, c1, c2, c3, c4⟩ := nd_cells (x := ((.slice Aw ws.length cw, .slice Au nums.length cu, .slice Ak ks.length ck), ⟨kd, ws, nums, ks, ps⟩)) (B1)
  dsimp only at c0 c1 c2 c3 c4
  generalize hw1 : w.alloc (.cells #[.int .i64 kd, .slice Aw ws.length cw, .slice Au nums.length cu, .slice Ak ks.length ck, .int .i64 ps] 30) = w1 at *
  obtain ⟨au, rfl, u0⟩ := strs_at (k := 0) (x := s) hW (p1.keep (below_drw w1)).below (by rw [hn]; rfl) (by rw [hn]; exact Nat.succ_pos _)
  have u1 : w1.drew.cell? au = some (txt s) := u0
  have u2 : w1.cell? au = some (txt s) := u0
  have hl2 : 0 < ws.length := by rw [hn]; exact Nat.succ_pos _
  obtain ⟨d0, d1, d2, d3, d4⟩ := nd_cells (x := ((.slice (some au) ws.length cw, .slice Au nums.length cu, .slice Ak ks.length ck), ⟨kd, ws, nums, ks, ps⟩)) (B1.keep (below_drw w1))
  dsimp only at d0 d1 d2 d3 d4
  have AD := Lib.hid (add1_any w0 w1.drew bp dp t vn s (p1.keep (below_drw w1)) (by omega))
  have HX := Lib.hid (And.intro a1 (And.intro (B1.keep (below_drw w1)) (And.intro hq (And.intro hN (And.intro hB (And.intro hl (p1.keep (below_drw w1))))))))
  have HI := Lib.hid (And.intro (show ks[0]? = some (k : Int) by rw [hi]; rfl) (And.intro hkn (And.intro hz hv)))
  clear p1 B1 a1 hq hwl hwm hW hWl hul hum hU hkl hkm hK h hl he u0 hn hi hkn hz hv hB hN hko hk0 hk1
  go_enter Tryd.func69, Tryd.ntmps69
  go_upto_region 1 with fail
  go_region_with (go_at_call 15; (refine AD.out.mono ?_); rintro e w3 ⟨rfl, hp, hf⟩; have H3 := Lib.hid (And.intro hp hf); clear hp hf)
  all_goals
    have K3 := H3.out.2.at_ _ _ _ (nd_off HX.out.2.2.2.2.2.2 HX.out.2.1) (by decide) HX.out.2.1
    obtain ⟨b0, b1, b2, b3, b4⟩ := nd_cells (x := ((.slice (some au) ws.length cw, .slice Au nums.length cu, .slice Ak ks.length ck), ⟨kd, ws, nums, ks, ps⟩)) (K3)
    dsimp only at b0 b1 b2 b3 b4
    have KI := Lib.hid (kid_any w0 w3 bp dp _ vn ns _ 0 k ⟨H3.out.1, HX.out.2.2.2.1⟩ HX.out.2.2.1 HI.out.1 HI.out.2.1)
    clear K3
    go_wp2_with (first
      | (go_at_call 21; (refine KI.out.mono ?_); rintro e w4 ⟨y, rfl, hy, hy2, hb⟩; have ey : y.2 = z := Option.some.inj (hy.symm.trans HI.out.2.2.1); have H4 := Lib.hid (And.intro hy2 (And.intro hb ey)); clear hy hy2 hb ey; have EX := Lib.hid (HX.out.2.2.2.2.1 w4 bp _ vn y (H3.out.1.keep H4.out.2.1) HX.out.2.2.2.1 H4.out.1 (H4.out.2.2 ▸ HI.out.2.2.2) (by rw [H4.out.2.2]; have := HX.out.2.2.2.2.2.1; simp only [List.length_append]; omega)))
      | (go_at_call 20; (refine EX.out.mono ?_); rintro e w5 ⟨rfl, hp, hf⟩; have H5 := Lib.hid (And.intro (show PrS w0 w5 bp (t ++ s ++ T z) dp vn from H4.out.2.2 ▸ hp) hf); clear hp hf))
    go_end0
    refine ⟨rfl, ?_, ((((Fr.of_below bp (hw1 ▸ HX.out.1)).trans (Fr.of_below bp (below_drw w1))).trans H3.out.2).trans (Fr.of_below bp H4.out.2.1)).trans H5.out.2⟩
    have := H5.out.1
    simp only [List.append_assoc] at this ⊢
    exact this
end Go.Proofs.YthihdddlneclmaaDoor
