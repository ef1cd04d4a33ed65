/-
  The walks of enclosed and its closure, at any method that it is handed. (Template: by-name.py fills it.)
-/
import Derived.Test.YthihdddlneclmaaDoorKD
namespace Go.Proofs.YthihdddlneclmaaDoor
open Go.RowKit

theorem enters_of {f : FuncId} {fn : Func} {c : Code} (hf : Tryd.prog.funcs[f]? = some fn) (hname : (fn.name == "runtime.NumGoroutine") = false) (hb : fn.body = some c) : Enters f := fun args w => by
  have h1 : fn.name ≠ "runtime.NumGoroutine" := by simpa using hname
  simp [callFunc, hf, h1, hb, go_sem]
theorem box_off {w0 w : World} {bp dp b : Nat} {t : Txt} {vn : Value} {cs : Array Value} {ty : TypeId} (h : PrS w0 w bp t dp vn) (k : TBlk w b ty cs) (hty : ty ≠ 36) : b ≠ bp := by
  obtain ⟨v, h1, _⟩ := h.box
  intro e
  subst e
  exact absurd (tblk_type k h1) hty
theorem one_cell {w : World} {b : Nat} {ty : TypeId} {v : Value} (h : TBlk w b ty #[v]) : w.cell? ⟨b, 0, none⟩ = some v := by
  have c := h.blk.cell 0
  simpa using c
abbrev ptrV (b : Nat) : Value := .pointer (some ⟨b, 0, none⟩)
set_option maxRecDepth 10000 in
set_option maxHeartbeats 8000000 in
theorem encl1_any (F : Nat) (hF : Enters F) (w0 w : World) (bp dp b1 b2 b3 : Nat) (t : Txt) (vn : Value) (ns : List Nd) (A : Option Addr) (c : Nat) (ks : List Int) (Ok : Nd → Prop) (T : Nd → Txt) (k : Nat) (y : Int) (h : PrS w0 w bp t dp vn) (hN : NodesAt w0 vn ns)
    (hB1 : TBlk w b1 38 #[.func (.func F) #[ptrV bp] #[]]) (hB2 : TBlk w b2 31 #[ptrV bp]) (hB3 : TBlk w b3 26 #[.slice A ks.length c])
    (hK : Reads w0 w0.heap.size 1 A ks.length (ks.map (Value.int .i64))) (hok : KidsOk ns ks Ok) (hE : Each F w0 ns dp Ok T) (hy : ks[k]? = some y) (hl : t.length + (T (ndAt ns y)).length + 10000 ≤ 140737488355328) :
    Calls Tryd.prog 28 #[.int .i64 (k : Int), ptrV b1, ptrV b2, ptrV b3] w fun e w' => e = .returned (.tuple #[]) ∧ PrS w0 w' bp (t ++ T (ndAt ns y)) dp vn ∧ Fr w w' bp := by
  obtain ⟨An, cn, rs, rfl, _, hcn, hm, hR, hNd⟩ := id hN
  have hkl := (List.getElem?_eq_some_iff.1 hy).1
  obtain ⟨hy0, hyn, hyo⟩ := hok y (List.mem_of_getElem? hy)
  obtain ⟨n, rfl⟩ := Int.eq_ofNat_of_zero_le hy0
  have hnl : n < ns.length := by omega
  obtain ⟨r, hr⟩ : ∃ r, rs[n]? = some r := ⟨_, List.getElem?_eq_getElem (by rw [← hm, List.length_map] at hnl; exact hnl)⟩
  have hrn : ns[n]? = some r.2 := by rw [← hm, List.getElem?_map, hr]; rfl
  rw [ndAtS hrn] at hyo hl ⊢
  obtain ⟨ak, rfl, q0⟩ := ints_at hK h.below hy (by omega)
  obtain ⟨an, rfl, n0, n1, n2, n3, n4⟩ := nodes_cells hR h.below hr (by omega)
  have j1 : (k : Int) < (ks.length : Int) := by omega
  have j0 : (0 : Int) ≤ (k : Int) := by omega
  have i0 : (0 : Int) ≤ (n : Int) := by omega
  have i1 : (n : Int) < (ns.length : Int) := by omega
  have e1 := one_cell hB1
  have e2 := one_cell hB2
  have e3 := one_cell hB3
  have c2 := h.cells.2.2
  have hb := below_drw w
  have EC := Lib.hid (hE w.drew bp t _ r (h.keep hb) hN (hNd r (List.mem_of_getElem? hr)) hyo hl)
  have HB := Lib.hid (Fr.of_below bp hb)
  have hr2 := hNd r (List.mem_of_getElem? hr)
  clear h hN hB1 hB2 hB3 hK hok hE hy hl hm hR hNd hkl hy0 hyn hyo hnl hr hrn hb
  obtain ⟨⟨yw, yu, yk⟩, kd2, ws2, nums2, ks2, ps2⟩ := r
  obtain ⟨h61, h62, h63⟩ := hr2
  dsimp only at h61 h62 h63
  obtain ⟨Bw, dw, rfl, _⟩ := h61
  obtain ⟨Bu, du, rfl, _⟩ := h62
  obtain ⟨Bk, dk, rfl, _⟩ := h63
  unfold ndX at EC
  dsimp only at n0 n1 n2 n3 n4 EC
  have door := hF
  unfold Enters at door
  clear hF
  go_enter Tryd.func28, Tryd.ntmps28
  go_upto_region 0 with fail
  refine wp_region_still_tail 11 (by kernel_rfl) (by kernel_rfl) ?_
  simp only [List.take_succ_cons, List.take_zero, List.drop_succ_cons, List.drop_zero]
  iterate 11 still_step
  refine wpStill_nil ?_
  change wpList _ _ _ _ _ w.drew
  go_wp2_with (with_reducible refine EC.out.mono ?_; rintro e w2 ⟨rfl, hp, hf⟩; have H2 := Lib.hid (And.intro hp hf); clear hp hf)
  go_end0
  exact ⟨rfl, H2.out.1, HB.out.trans H2.out.2⟩
set_option maxRecDepth 10000 in
set_option maxHeartbeats 8000000 in
theorem enclosed_any (F : Nat) (hF : Enters F) (w0 w : World) (bp dp : Nat) (t : Txt) (vn : Value) (ns : List Nd) (A : Option Addr) (c : Nat) (ks : List Int) (Ok : Nd → Prop) (T : Nd → Txt) (h : PrS w0 w bp t dp vn) (hN : NodesAt w0 vn ns)
    (hK : Reads w0 w0.heap.size 1 A ks.length (ks.map (Value.int .i64))) (hkl : ks.length ≤ maxLen) (hok : KidsOk ns ks Ok) (hE : Each F w0 ns dp Ok T) (hl : t.length + (sepT [44, 32] (ks.map fun k => T (ndAt ns k))).length + 10002 ≤ 140737488355328) :
    Calls Tryd.prog 18 #[ptrV bp, .slice A ks.length c, .func (.func F) #[ptrV bp] #[]] w fun e w' => e = .returned (.tuple #[]) ∧ PrS w0 w' bp (t ++ ([40] ++ sepT [44, 32] (ks.map fun k => T (ndAt ns k)) ++ [41])) dp vn ∧ Fr w w' bp := by
  have a1 := below_alloc1 w (.cells #[ptrV bp] 31)
  have B2 : TBlk _ _ _ _ := TBlk.start w #[ptrV bp] 31
  generalize hw1 : w.alloc (.cells #[ptrV bp] 31) = w1 at *
  have z1 : w1.heap.size = w.heap.size + 1 := by rw [← hw1, World.size_alloc]
  have a2 := below_alloc1 w1 (.cells #[.slice A ks.length c] 26)
  have B3 : TBlk _ _ _ _ := TBlk.start w1 #[.slice A ks.length c] 26
  generalize hw2 : w1.alloc (.cells #[.slice A ks.length c] 26) = w2 at *
  have z2 : w2.heap.size = w.heap.size + 2 := by rw [← hw2, World.size_alloc, z1]
  have a3 := below_alloc1 w2 (.cells #[.func (.func F) #[ptrV bp] #[]] 38)
  have B1 : TBlk _ _ _ _ := TBlk.start w2 #[.func (.func F) #[ptrV bp] #[]] 38
  generalize hw3 : w2.alloc (.cells #[.func (.func F) #[ptrV bp] #[]] 38) = w3 at *
  have B2' := (B2.keep a2).keep a3
  have B3' := B3.keep a3
  have p3 := ((h.keep a1).keep a2).keep a3
  have F3 := ((Fr.of_below bp a1).trans (Fr.of_below bp a2)).trans (Fr.of_below bp a3)
  have c1 := one_cell B1
  have c2 := one_cell B2'
  have c3 := one_cell B3'
  have AD := Lib.hid (add1_any w0 w3 bp dp t vn [40] p3 (by simp only [List.length_cons, List.length_nil]; omega))
  have HX := Lib.hid (And.intro p3 (And.intro B1 (And.intro B2' (And.intro B3' (And.intro F3 hl)))))
  have HY := Lib.hid (And.intro hN (And.intro hK (And.intro hkl (And.intro hok hE))))
  have HF := Lib.hid hF
  have HZ := Lib.hid (And.intro z1 z2)
  clear a1 a2 a3 B1 B2 B3 B2' B3' p3 F3 h hN hK hkl hok hE hl hF z1 z2
  go_enter Tryd.func18, Tryd.ntmps18
  go_upto_region 2 with (go_at_call 15; (refine AD.out.mono ?_); rintro e w4 ⟨rfl, hp, hf⟩; have H4 := Lib.hid (And.intro hp hf); clear hp hf)
  have T1 := H4.out.2.at_ _ _ _ (box_off HX.out.1 HX.out.2.1 (by decide)) (by decide) HX.out.2.1
  have T2 := H4.out.2.at_ _ _ _ (box_off HX.out.1 HX.out.2.2.1 (by decide)) (by decide) HX.out.2.2.1
  have T3 := H4.out.2.at_ _ _ _ (box_off HX.out.1 HX.out.2.2.2.1 (by decide)) (by decide) HX.out.2.2.2.1
  have d1 := one_cell T1
  have d2 := one_cell T2
  have d3 := one_cell T3
  have e1 := one_cell (T1.keep (below_drw w4))
  have e2 := one_cell (T2.keep (below_drw w4))
  have e3 := one_cell (T3.keep (below_drw w4))
  have SP := Lib.hid (separated_any 28 #[ptrV w2.heap.size, ptrV w.heap.size, ptrV w1.heap.size] (enters_of Tryd.func28 (by kernel_rfl) rfl) w0 w4.drew bp dp _ [44, 32] vn (ks.map fun k => T (ndAt ns k)) (H4.out.1.keep (below_drw w4)) (fun k x w' t' hx hp hf hl' => by
    rw [List.getElem?_map] at hx
    cases hy : ks[k]? with
    | none => rw [hy] at hx; cases hx
    | some y =>
      rw [hy] at hx
      obtain rfl := Option.some.inj hx
      exact encl1_any F HF.out w0 w' bp dp _ _ _ t' vn ns A c ks Ok T k y hp HY.out.1
        (hf.at_ _ _ _ (box_off HX.out.1 HX.out.2.1 (by decide)) (by decide) (T1.keep (below_drw w4)))
        (hf.at_ _ _ _ (box_off HX.out.1 HX.out.2.2.1 (by decide)) (by decide) (T2.keep (below_drw w4)))
        (hf.at_ _ _ _ (box_off HX.out.1 HX.out.2.2.2.1 (by decide)) (by decide) (T3.keep (below_drw w4)))
        HY.out.2.1 HY.out.2.2.2.1 HY.out.2.2.2.2 hy hl') (by rw [List.length_map]; exact HY.out.2.2.1) (by have := HX.out.2.2.2.2.2; simp only [List.length_append, List.length_cons, List.length_nil]; omega))
  rw [List.length_map] at SP
  clear T1 T2 T3
  go_region_with (go_at_call 26; (refine SP.out.mono ?_); rintro e w5 ⟨rfl, hp, hf⟩; have H5 := Lib.hid (And.intro hp hf); clear hp hf)
  all_goals
    have AE := Lib.hid (add1_any w0 w5 bp dp _ vn [41] H5.out.1 (by have := HX.out.2.2.2.2.2; simp only [List.length_append, List.length_cons, List.length_nil]; omega))
    have T2 := H4.out.2.at_ _ _ _ (box_off HX.out.1 HX.out.2.2.1 (by decide)) (by decide) HX.out.2.2.1
    have g2 := one_cell (H5.out.2.at_ _ _ _ (box_off HX.out.1 HX.out.2.2.1 (by decide)) (by decide) (T2.keep (below_drw w4)))
    go_wp2_with (go_at_call 15; (refine AE.out.mono ?_); rintro e w6 ⟨rfl, hp, hf⟩; have H6 := Lib.hid (And.intro hp hf); clear hp hf)
    go_end0
    refine ⟨rfl, ?_, (((HX.out.2.2.2.2.1.trans H4.out.2).trans (Fr.of_below bp (below_drw w4))).trans H5.out.2).trans H6.out.2⟩
    have := H6.out.1
    simp only [List.append_assoc] at this ⊢
    exact this
end Go.Proofs.YthihdddlneclmaaDoor
