/-
  The walk of an argument. (Template: by-name.py fills it; gen/genShoK.py writes it.)
-/
import Derived.Test.YthihdddlneclmaaDoorKD
namespace Go.Proofs.YthihdddlneclmaaDoor
open Go.RowKit

set_option maxRecDepth 10000 in
set_option maxHeartbeats 4000000 in
theorem arg_handle (w0 w : World) (bp dp f : Nat) (t : Txt) (vn : Value) (ns : List Nd) (x : NdV × Nd) (h : PrS w0 w bp t dp vn) (hx : NdAt w0 x) (s : Txt) (r : List Txt) (hk : x.2.kind = 15) (hn : x.2.words = s :: r) (hl : t.length + (argT ns f x.2).length + 100 ≤ 140737488355328) :
    Calls Tryd.prog 70 #[.pointer (some ⟨bp, 0, none⟩), ndX x] w fun e w' => e = .returned (.tuple #[]) ∧ PrS w0 w' bp (t ++ argT ns f x.2) dp vn ∧ Fr w w' bp := by
  have hq := hx
  obtain ⟨⟨vw, vu, vk⟩, kd, ws, nums, ks, ps⟩ := x
  obtain ⟨hw, hu, hkk⟩ := hx
  dsimp only at hk hn hw hu hkk hl ⊢
  obtain ⟨Aw, cw, rfl, hwl, hwm, hW, hWl⟩ := hw
  obtain ⟨Au, cu, rfl, hul, hum, hU⟩ := hu
  obtain ⟨Ak, ck, rfl, hkl, hkm, hK⟩ := hkk
  have a1 := below_alloc1 w (.cells #[.int .i64 kd, .slice Aw ws.length cw, .slice Au nums.length cu, .slice Ak ks.length ck, .int .i64 ps] 30)
  have B1 : TBlk _ _ _ _ := TBlk.start w #[.int .i64 kd, .slice Aw ws.length cw, .slice Au nums.length cu, .slice Ak ks.length ck, .int .i64 ps] 30
  have p1 := h.keep a1
  have he : argT ns f ⟨kd, ws, nums, ks, ps⟩ = [38] ++ s := by
    unfold argT word
    dsimp only
    rw [if_pos hk, hn]
    rfl
  rw [he] at hl ⊢
  simp only [List.length_append, List.length_cons, List.length_nil] at hl
  clear he
  subst hk
  obtain ⟨c0, c1, c2, c3, c4⟩ := nd_cells (x := ((.slice Aw ws.length cw, .slice Au nums.length cu, .slice Ak ks.length ck), ⟨15, ws, nums, ks, ps⟩)) (B1)
  dsimp only at c0 c1 c2 c3 c4
  generalize hw1 : w.alloc (.cells #[.int .i64 15, .slice Aw ws.length cw, .slice Au nums.length cu, .slice Ak ks.length ck, .int .i64 ps] 30) = w1 at *
  obtain ⟨au, rfl, u0⟩ := strs_at (k := 0) (x := s) hW (p1.keep (below_drw w1)).below (by rw [hn]; rfl) (by rw [hn]; exact Nat.succ_pos _)
  have u1 : w1.drew.cell? au = some (txt s) := u0
  have u2 : w1.cell? au = some (txt s) := u0
  have hl2 : 0 < ws.length := by rw [hn]; exact Nat.succ_pos _
  obtain ⟨d0, d1, d2, d3, d4⟩ := nd_cells (x := ((.slice (some au) ws.length cw, .slice Au nums.length cu, .slice Ak ks.length ck), ⟨15, ws, nums, ks, ps⟩)) (B1.keep (below_drw w1))
  dsimp only at d0 d1 d2 d3 d4
  have AD := Lib.hid (add2_any w0 w1.drew bp dp t vn [38] s (p1.keep (below_drw w1)) (by simp only [List.length_cons, List.length_nil]; omega))
  have HX := Lib.hid a1
  clear p1 B1 a1 hq hwl hwm hW hWl hul hum hU hkl hkm hK h hl u0 hn
  go_enter Tryd.func70, Tryd.ntmps70
  go_upto_region 2 with fail
  go_region_with (go_at_call 15; (refine AD.out.mono ?_); rintro e w3 ⟨rfl, hp, hf⟩; have H3 := Lib.hid (And.intro hp hf); clear hp hf)
  all_goals
    go_wp2_with fail
    refine bodyPost_ret (v := .tuple #[]) (results_none (by kernel_rfl) _ _ _) rfl ⟨rfl, H3.out.1, ((Fr.of_below bp (hw1 ▸ HX.out)).trans (Fr.of_below bp (below_drw w1))).trans H3.out.2⟩
set_option maxRecDepth 10000 in
set_option maxHeartbeats 4000000 in
theorem arg_expr (w0 w : World) (bp dp f : Nat) (t : Txt) (vn : Value) (ns : List Nd) (x : NdV × Nd) (h : PrS w0 w bp t dp vn) (hN : NodesAt w0 vn ns) (hx : NdAt w0 x) (hE : ExprCalls w0 ns f) (hk : x.2.kind ≠ 15) (hv : ExprOk ns f x.2) (hl : t.length + (argT ns f x.2).length + 100 ≤ 140737488355328) :
    Calls Tryd.prog 70 #[.pointer (some ⟨bp, 0, none⟩), ndX x] w fun e w' => e = .returned (.tuple #[]) ∧ PrS w0 w' bp (t ++ argT ns f x.2) dp vn ∧ Fr w w' bp := by
  have hq := hx
  obtain ⟨⟨vw, vu, vk⟩, kd, ws, nums, ks, ps⟩ := x
  obtain ⟨hw, hu, hkk⟩ := hx
  dsimp only at hk hv hw hu hkk hl ⊢
  obtain ⟨Aw, cw, rfl, hwl, hwm, hW, hWl⟩ := hw
  obtain ⟨Au, cu, rfl, hul, hum, hU⟩ := hu
  obtain ⟨Ak, ck, rfl, hkl, hkm, hK⟩ := hkk
  have a1 := below_alloc1 w (.cells #[.int .i64 kd, .slice Aw ws.length cw, .slice Au nums.length cu, .slice Ak ks.length ck, .int .i64 ps] 30)
  have B1 : TBlk _ _ _ _ := TBlk.start w #[.int .i64 kd, .slice Aw ws.length cw, .slice Au nums.length cu, .slice Ak ks.length ck, .int .i64 ps] 30
  have p1 := h.keep a1
  have he : argT ns f ⟨kd, ws, nums, ks, ps⟩ = exprT ns f ⟨kd, ws, nums, ks, ps⟩ := by
    unfold argT
    rw [if_neg hk]
  rw [he] at hl ⊢
  obtain ⟨c0, c1, c2, c3, c4⟩ := nd_cells (x := ((.slice Aw ws.length cw, .slice Au nums.length cu, .slice Ak ks.length ck), ⟨kd, ws, nums, ks, ps⟩)) (B1)
  dsimp only at c0 c1 c2 c3 c4
  generalize hw1 : w.alloc (.cells #[.int .i64 kd, .slice Aw ws.length cw, .slice Au nums.length cu, .slice Ak ks.length ck, .int .i64 ps] 30) = w1 at *
  have EX := Lib.hid (hE w1 bp dp t vn _ p1 hN hq hv hl)
  have HX := Lib.hid a1
  clear p1 B1 a1 hq hwl hwm hW hWl hul hum hU hkl hkm hK h hl he hv hN hE
  go_enter Tryd.func70, Tryd.ntmps70
  go_wp2_with (go_at_call 50; (refine EX.out.mono ?_); rintro e w3 ⟨rfl, hp, hf⟩; have H3 := Lib.hid (And.intro hp hf); clear hp hf)
  go_end0
  exact ⟨rfl, H3.out.1, (Fr.of_below bp (hw1 ▸ HX.out)).trans H3.out.2⟩
end Go.Proofs.YthihdddlneclmaaDoor
