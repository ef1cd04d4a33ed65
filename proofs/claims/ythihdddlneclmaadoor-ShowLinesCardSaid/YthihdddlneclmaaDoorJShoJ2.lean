/-
  The walk of names, at one of the three words. (Template: by-name.py fills it; gen/genShoI.py writes it.)
-/
import Derived.Test.YthihdddlneclmaaDoorKD
namespace Go.Proofs.YthihdddlneclmaaDoor
open Go.RowKit

set_option maxRecDepth 10000 in
set_option maxHeartbeats 4000000 in
theorem names2_any (w0 w : World) (bp dp : Nat) (t : Txt) (vn : Value) (x : NdV × Nd) (h : PrS w0 w bp t dp vn) (hx : NdAt w0 x) (ht : StrRow w0 1 namesWordsT) (r : List Int) (hn : x.2.nums = 2 :: r) (hw0 : 0 < x.2.words.length) (hl : t.length + (namesT x.2).length + 100 ≤ 140737488355328) :
    Calls Tryd.prog 30 #[.pointer (some ⟨bp, 0, none⟩), ndX x] w fun e w' => e = .returned (.tuple #[]) ∧ PrS w0 w' bp (t ++ namesT x.2) dp vn ∧ Fr w w' bp := by
  have hq := hx
  obtain ⟨⟨vw, vu, vk⟩, kd, ws, nums, ks, ps⟩ := x
  obtain ⟨hw, hu, hkk⟩ := hx
  dsimp only at hn hw0 hw hu hkk hl ⊢
  obtain ⟨Aw, cw, rfl, hwl, hwm, hW, hWl⟩ := hw
  obtain ⟨Au, cu, rfl, hul, hum, hU⟩ := hu
  obtain ⟨Ak, ck, rfl, hkl, hkm, hK⟩ := hkk
  have a1 := below_alloc1 w (.cells #[.int .i64 kd, .slice Aw ws.length cw, .slice Au nums.length cu, .slice Ak ks.length ck, .int .i64 ps] 30)
  have B1 : TBlk _ _ _ _ := TBlk.start w #[.int .i64 kd, .slice Aw ws.length cw, .slice Au nums.length cu, .slice Ak ks.length ck, .int .i64 ps] 30
  have p1 := h.keep a1
  have he : namesT ⟨kd, ws, nums, ks, ps⟩ = headT 2 ++ sepT [124] ws := by
    unfold namesT num
    dsimp only
    rw [hn]
    rfl
  rw [he] at hl ⊢
  simp only [List.length_append] at hl
  have hwc : ws.length ≤ 140737488355328 := by have := sepT_len [124] (by decide) ws; omega
  generalize hw1 : w.alloc (.cells #[.int .i64 kd, .slice Aw ws.length cw, .slice Au nums.length cu, .slice Ak ks.length ck, .int .i64 ps] 30) = w1 at *
  have P1 := Lib.hid (p1.keep (below_drw w1))
  have JN := Lib.hid (join_any w0 w1.drew Aw cw ws hW hw0 hwc hwl P1.out.below (by omega))
  obtain ⟨au, rfl, u0⟩ := int0_at (x := 2) hU (by rw [hn]; rfl) (by rw [hn]; exact Nat.succ_pos _)
  have u1 : w1.drew.cell? au = some (.int .i64 2) := u0 _ P1.out.below
  have v1 : w1.drew.cell? ⟨1, 2, none⟩ = some (txt (headT 2)) := tab_cell (k := 2) ht P1.out.below rfl
  have hl2 : 0 < nums.length := by rw [hn]; exact Nat.succ_pos _
  obtain ⟨d0, d1, d2, d3, d4⟩ := nd_cells (x := ((.slice Aw ws.length cw, .slice (some au) nums.length cu, .slice Ak ks.length ck), ⟨kd, ws, nums, ks, ps⟩)) (B1.keep (below_drw w1))
  dsimp only at d0 d1 d2 d3 d4
  have HX := Lib.hid (And.intro a1 (And.intro (B1.keep (below_drw w1)) (And.intro hl (And.intro u0 ht))))
  clear p1 B1 a1 hq hwl hwm hW hWl hul hum hU hkl hkm hK h hl he u0 hn ht hwc hw0
  go_enter Tryd.func30, Tryd.ntmps30
  go_upto_region 1 with fail
  go_region_with (first
    | (go_at_call 44; (refine JN.out.mono ?_); rintro e w3 ⟨rfl, hb⟩; have HB := Lib.hid hb; clear hb; obtain ⟨b0, b1, b2, b3, b4⟩ := nd_cells (x := ((.slice Aw ws.length cw, .slice (some au) nums.length cu, .slice Ak ks.length ck), ⟨kd, ws, nums, ks, ps⟩)) (HX.out.2.1.keep HB.out); dsimp only at b0 b1 b2 b3 b4; have u3 := HX.out.2.2.2.1 _ (P1.out.keep HB.out).below; have v3 : w3.cell? ⟨1, 2, none⟩ = some (txt (headT 2)) := tab_cell (k := 2) HX.out.2.2.2.2 (P1.out.keep HB.out).below rfl; have AD := Lib.hid (add2_any w0 w3 bp dp t vn (headT 2) (sepT [124] ws) (P1.out.keep HB.out) (by have := HX.out.2.2.1; omega)))
    | (go_at_call 15; (refine AD.out.mono ?_); rintro e w4 ⟨rfl, hp, hf⟩; have H4 := Lib.hid (And.intro hp hf); clear hp hf))
  all_goals
    go_wp2_with fail
    go_end0
    exact ⟨rfl, H4.out.1, (((Fr.of_below bp (hw1 ▸ HX.out.1)).trans (Fr.of_below bp (below_drw w1))).trans (Fr.of_below bp HB.out)).trans H4.out.2⟩
end Go.Proofs.YthihdddlneclmaaDoor
