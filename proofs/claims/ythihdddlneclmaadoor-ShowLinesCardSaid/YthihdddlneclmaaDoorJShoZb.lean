/-
  The walk of statement. (Template: by-name.py fills it; gen/genShoS2.py writes it.)
-/
import Derived.Test.YthihdddlneclmaaDoorJShoZa
import Derived.Test.YthihdddlneclmaaDoorJShoX
namespace Go.Proofs.YthihdddlneclmaaDoor
open Go.RowKit

set_option maxRecDepth 10000 in
set_option maxHeartbeats 8000000 in
theorem stmt_18 (w0 w : World) (bp dp : Nat) (t : Txt) (vn : Value) (ns : List Nd) (f : Nat) (x : NdV × Nd) (h : PrS w0 w bp t dp vn) (hN : NodesAt w0 vn ns) (hx : NdAt w0 x) (hE : ExprCalls w0 ns f) (hk : x.2.kind = 18) (k : Nat) (hi : x.2.kids[0]? = some (k : Int)) (hkn : k < ns.length) (hv : ExprOk ns f (ndAt ns k)) (hl : t.length + (stmtT ns (f + 1) dp x.2).length + 10000 ≤ 140737488355328) :
    Calls Tryd.prog 31 #[.pointer (some ⟨bp, 0, none⟩), ndX x] w fun e w' => e = .returned (.tuple #[]) ∧ PrS w0 w' bp (t ++ stmtT ns (f + 1) dp x.2) dp vn ∧ Fr w w' bp := by
  have hq := hx
  obtain ⟨⟨vw, vu, vk⟩, kd, ws, nums, ks, ps⟩ := x
  obtain ⟨hw, hu, hkk⟩ := hx
  dsimp only at hk hi hw hu hkk hl ⊢
  obtain ⟨Aw, cw, rfl, hwl, hwm, hW, hWl⟩ := hw
  obtain ⟨Au, cu, rfl, hul, hum, hU⟩ := hu
  obtain ⟨Ak, ck, rfl, hkl, hkm, hK⟩ := hkk
  subst hk
  obtain ⟨z, hz⟩ : ∃ z, ns[k]? = some z := ⟨_, List.getElem?_eq_getElem hkn⟩
  have he : stmtT ns (f + 1) dp ⟨18, ws, nums, ks, ps⟩ = [114, 101, 116, 117, 114, 110, 32] ++ exprT ns f z ++ [59] := by
    have := kidN_of (n := ⟨18, ws, nums, ks, ps⟩) hi hz
    simp [stmtT, this]
  rw [he] at hl ⊢
  clear he
  rw [ndAtS hz] at hv
  simp only [List.length_append, List.length_cons, List.length_nil] at hl
  have N1 := Nw.start (w := w) #[.int .i64 18, .slice Aw ws.length cw, .slice Au nums.length cu, .slice Ak ks.length ck, .int .i64 ps] h
  generalize hw1 : w.alloc (.cells #[.int .i64 18, .slice Aw ws.length cw, .slice Au nums.length cu, .slice Ak ks.length ck, .int .i64 ps] 30) = w1 at *
  have H1 := Lib.hid N1
  have HN := Lib.hid (And.intro hN (And.intro hq (And.intro hK (And.intro hkm hkl))))
  have HL := Lib.hid hl
  have HI := Lib.hid (And.intro hi (And.intro hkn (And.intro hz (And.intro hv hE))))
  clear N1 hq hwl hwm hW hWl hul hum hU hkl hkm hK h hN hl hi hkn hz hv hE
  obtain ⟨c0, c1, c2, c3, c4⟩ := nd_cells (x := ((.slice Aw ws.length cw, .slice Au nums.length cu, .slice Ak ks.length ck), ⟨18, ws, nums, ks, ps⟩)) H1.out.k
  dsimp only at c0 c1 c2 c3 c4
  have AD := Lib.hid (add1_any w0 w1 bp dp t vn [114, 101, 116, 117, 114, 110, 32] H1.out.p (by have := HL.out; simp only [List.length_cons, List.length_nil]; omega))
  go_enter Tryd.func31, Tryd.ntmps31
  go_upto_region 26 with (go_at_call 15; (refine AD.out.mono ?_); rintro e w2 ⟨rfl, hp, hf⟩; have H2 := Lib.hid (H1.out.next hp hf); clear hp hf)
  clear c0 c1 c2 c3 c4
  obtain ⟨c0, c1, c2, c3, c4⟩ := nd_cells (x := ((.slice Aw ws.length cw, .slice Au nums.length cu, .slice Ak ks.length ck), ⟨18, ws, nums, ks, ps⟩)) H2.out.k
  dsimp only at c0 c1 c2 c3 c4
  have KI := Lib.hid (kid_any w0 w2 bp dp _ vn ns _ 0 k ⟨H2.out.p, HN.out.1⟩ HN.out.2.1 HI.out.1 HI.out.2.1)
  go_upto_region 27 with (first
    | (go_at_call 21; (refine KI.out.mono ?_); rintro e w3 ⟨y, rfl, hy, hy2, hb⟩; have ey : y.2 = z := Option.some.inj (hy.symm.trans HI.out.2.2.1); have H3 := Lib.hid (And.intro hy2 (And.intro (H2.out.below hb) ey)); clear hy hy2 hb ey; have EX := Lib.hid (HI.out.2.2.2.2 w3 bp dp _ vn y H3.out.2.1.p HN.out.1 H3.out.1 (H3.out.2.2 ▸ HI.out.2.2.2.1) (by rw [H3.out.2.2]; have := HL.out; simp only [List.length_append, List.length_cons, List.length_nil]; omega)))
    | (go_at_call 50; (refine EX.out.mono ?_); rintro e w4 ⟨rfl, hp, hf⟩; have H4 := Lib.hid (H3.out.2.1.next hp hf); clear hp hf))
  rw [H3.out.2.2] at H4
  have AD := Lib.hid (add1_any w0 w4 bp dp _ vn [59] H4.out.p (by have := HL.out; simp only [List.length_append, List.length_cons, List.length_nil]; omega))
  go_wp2_with (go_at_call 15; (refine AD.out.mono ?_); rintro e w5 ⟨rfl, hp, hf⟩; have H5 := Lib.hid (H4.out.next hp hf); clear hp hf)
  go_end0
  refine ⟨rfl, ?_, H5.out.f⟩
  have := H5.out.p
  simp only [List.append_assoc, List.cons_append, List.nil_append] at this ⊢
  exact this
set_option maxRecDepth 10000 in
set_option maxHeartbeats 8000000 in
theorem stmt_17 (w0 w : World) (bp dp : Nat) (t : Txt) (vn : Value) (ns : List Nd) (f : Nat) (x : NdV × Nd) (h : PrS w0 w bp t dp vn) (hN : NodesAt w0 vn ns) (hx : NdAt w0 x) (hE : ExprCalls w0 ns f) (S : Nd → Prop) (hB : Each 20 w0 ns dp S (blockT ns f dp)) (hk : x.2.kind = 17) (j k : Nat) (hks : x.2.kids = [(j : Int), (k : Int)]) (hjn : j < ns.length) (hv : ExprOk ns f (ndAt ns j)) (hkn : k < ns.length) (hok : S (ndAt ns k)) (hl : t.length + (stmtT ns (f + 1) dp x.2).length + 10000 ≤ 140737488355328) :
    Calls Tryd.prog 31 #[.pointer (some ⟨bp, 0, none⟩), ndX x] w fun e w' => e = .returned (.tuple #[]) ∧ PrS w0 w' bp (t ++ stmtT ns (f + 1) dp x.2) dp vn ∧ Fr w w' bp := by
  have hq := hx
  obtain ⟨⟨vw, vu, vk⟩, kd, ws, nums, ks, ps⟩ := x
  obtain ⟨hw, hu, hkk⟩ := hx
  dsimp only at hk hks hw hu hkk hl ⊢
  obtain ⟨Aw, cw, rfl, hwl, hwm, hW, hWl⟩ := hw
  obtain ⟨Au, cu, rfl, hul, hum, hU⟩ := hu
  obtain ⟨Ak, ck, rfl, hkl, hkm, hK⟩ := hkk
  subst hk
  obtain ⟨y1, hy1⟩ : ∃ z, ns[j]? = some z := ⟨_, List.getElem?_eq_getElem hjn⟩
  obtain ⟨z, hz⟩ : ∃ z, ns[k]? = some z := ⟨_, List.getElem?_eq_getElem hkn⟩
  have hi0 : ks[0]? = some (j : Int) := by rw [hks]; rfl
  have hi1 : ks[1]? = some (k : Int) := by rw [hks]; rfl
  have he : stmtT ns (f + 1) dp ⟨17, ws, nums, ks, ps⟩ = [119, 104, 105, 108, 101, 32] ++ exprT ns f y1 ++ blockT ns f dp z := by
    have e1 := kidN_of (n := ⟨17, ws, nums, ks, ps⟩) hi0 hy1
    have e2 := kidN_of (n := ⟨17, ws, nums, ks, ps⟩) hi1 hz
    simp [stmtT, e1, e2]
  rw [he] at hl ⊢
  clear he
  rw [ndAtS hy1] at hv
  rw [ndAtS hz] at hok
  simp only [List.length_append, List.length_cons, List.length_nil] at hl
  have N1 := Nw.start (w := w) #[.int .i64 17, .slice Aw ws.length cw, .slice Au nums.length cu, .slice Ak ks.length ck, .int .i64 ps] h
  generalize hw1 : w.alloc (.cells #[.int .i64 17, .slice Aw ws.length cw, .slice Au nums.length cu, .slice Ak ks.length ck, .int .i64 ps] 30) = w1 at *
  have H1 := Lib.hid N1
  have HN := Lib.hid (And.intro hN (And.intro hq (And.intro hK (And.intro hkm hkl))))
  have HL := Lib.hid hl
  have HI := Lib.hid (And.intro hi0 (And.intro hjn (And.intro hy1 (And.intro hv hE))))
  have HJ := Lib.hid (And.intro hi1 (And.intro hkn (And.intro hz (And.intro hok hB))))
  clear N1 hq hwl hwm hW hWl hul hum hU hkl hkm hK h hN hl hi0 hi1 hks hjn hkn hy1 hz hv hok hB hE
  obtain ⟨c0, c1, c2, c3, c4⟩ := nd_cells (x := ((.slice Aw ws.length cw, .slice Au nums.length cu, .slice Ak ks.length ck), ⟨17, ws, nums, ks, ps⟩)) H1.out.k
  dsimp only at c0 c1 c2 c3 c4
  have AD := Lib.hid (add1_any w0 w1 bp dp t vn [119, 104, 105, 108, 101, 32] H1.out.p (by have := HL.out; simp only [List.length_cons, List.length_nil]; omega))
  go_enter Tryd.func31, Tryd.ntmps31
  go_upto_region 22 with (go_at_call 15; (refine AD.out.mono ?_); rintro e w2 ⟨rfl, hp, hf⟩; have H2 := Lib.hid (H1.out.next hp hf); clear hp hf)
  clear c0 c1 c2 c3 c4
  obtain ⟨c0, c1, c2, c3, c4⟩ := nd_cells (x := ((.slice Aw ws.length cw, .slice Au nums.length cu, .slice Ak ks.length ck), ⟨17, ws, nums, ks, ps⟩)) H2.out.k
  dsimp only at c0 c1 c2 c3 c4
  have KI := Lib.hid (kid_any w0 w2 bp dp _ vn ns _ 0 j ⟨H2.out.p, HN.out.1⟩ HN.out.2.1 HI.out.1 HI.out.2.1)
  go_upto_region 23 with (first
    | (go_at_call 21; (refine KI.out.mono ?_); rintro e w3 ⟨y, rfl, hy, hy2, hb⟩; have ey : y.2 = y1 := Option.some.inj (hy.symm.trans HI.out.2.2.1); have H3 := Lib.hid (And.intro hy2 (And.intro (H2.out.below hb) ey)); clear hy hy2 hb ey; have EX := Lib.hid (HI.out.2.2.2.2 w3 bp dp _ vn y H3.out.2.1.p HN.out.1 H3.out.1 (H3.out.2.2 ▸ HI.out.2.2.2.1) (by rw [H3.out.2.2]; have := HL.out; simp only [List.length_append, List.length_cons, List.length_nil]; omega)))
    | (go_at_call 50; (refine EX.out.mono ?_); rintro e w4 ⟨rfl, hp, hf⟩; have H4 := Lib.hid (H3.out.2.1.next hp hf); clear hp hf))
  rw [H3.out.2.2] at H4
  clear KI EX c0 c1 c2 c3 c4
  obtain ⟨c0, c1, c2, c3, c4⟩ := nd_cells (x := ((.slice Aw ws.length cw, .slice Au nums.length cu, .slice Ak ks.length ck), ⟨17, ws, nums, ks, ps⟩)) H4.out.k
  dsimp only at c0 c1 c2 c3 c4
  have KI := Lib.hid (kid_any w0 w4 bp dp _ vn ns _ 1 k ⟨H4.out.p, HN.out.1⟩ HN.out.2.1 HJ.out.1 HJ.out.2.1)
  go_wp2_with (first
    | (go_at_call 21; (refine KI.out.mono ?_); rintro e w5 ⟨y, rfl, hy, hy2, hb⟩; have ey : y.2 = z := Option.some.inj (hy.symm.trans HJ.out.2.2.1); have H5 := Lib.hid (And.intro hy2 (And.intro (H4.out.below hb) ey)); clear hy hy2 hb ey; have EX := Lib.hid (HJ.out.2.2.2.2 w5 bp _ vn y H5.out.2.1.p HN.out.1 H5.out.1 (H5.out.2.2 ▸ HJ.out.2.2.2.1) (by rw [H5.out.2.2]; have := HL.out; simp only [List.length_append, List.length_cons, List.length_nil]; omega)))
    | (go_at_call 20; (refine EX.out.mono ?_); rintro e w6 ⟨rfl, hp, hf⟩; have H6 := Lib.hid (H5.out.2.1.next hp hf); clear hp hf))
  rw [H5.out.2.2] at H6
  go_end0
  refine ⟨rfl, ?_, H6.out.f⟩
  have := H6.out.p
  simp only [List.append_assoc, List.cons_append, List.nil_append] at this ⊢
  exact this
set_option maxRecDepth 10000 in
set_option maxHeartbeats 8000000 in
theorem stmt_16 (w0 w : World) (bp dp : Nat) (t : Txt) (vn : Value) (ns : List Nd) (f : Nat) (x : NdV × Nd) (h : PrS w0 w bp t dp vn) (hN : NodesAt w0 vn ns) (hx : NdAt w0 x) (hE : ExprCalls w0 ns f) (S : Nd → Prop) (hB : Each 20 w0 ns dp S (blockT ns f dp)) (hk : x.2.kind = 16) (j : Nat) (r : List Int) (hks : x.2.kids = (j : Int) :: r) (hr : r ≠ []) (hjn : j < ns.length) (hv : ExprOk ns f (ndAt ns j)) (hok : KidsOk ns r S) (hl : t.length + (stmtT ns (f + 1) dp x.2).length + 10000 ≤ 140737488355328) :
    Calls Tryd.prog 31 #[.pointer (some ⟨bp, 0, none⟩), ndX x] w fun e w' => e = .returned (.tuple #[]) ∧ PrS w0 w' bp (t ++ stmtT ns (f + 1) dp x.2) dp vn ∧ Fr w w' bp := by
  have hq := hx
  obtain ⟨⟨vw, vu, vk⟩, kd, ws, nums, ks, ps⟩ := x
  obtain ⟨hw, hu, hkk⟩ := hx
  dsimp only at hk hks hw hu hkk hl ⊢
  obtain ⟨Aw, cw, rfl, hwl, hwm, hW, hWl⟩ := hw
  obtain ⟨Au, cu, rfl, hul, hum, hU⟩ := hu
  obtain ⟨Ak, ck, rfl, hkl, hkm, hK⟩ := hkk
  subst hk
  obtain ⟨y1, hy1⟩ : ∃ z, ns[j]? = some z := ⟨_, List.getElem?_eq_getElem hjn⟩
  have hi0 : ks[0]? = some (j : Int) := by rw [hks]; rfl
  have hrl : 1 ≤ r.length := by cases r with
    | nil => exact absurd rfl hr
    | cons a b => simp
  have hkl2 : ks.length = r.length + 1 := by rw [hks]; simp
  have he : stmtT ns (f + 1) dp ⟨16, ws, nums, ks, ps⟩ = [105, 102, 32] ++ exprT ns f y1 ++ sepT [32, 101, 108, 115, 101] (r.map fun k => blockT ns f dp (ndAt ns k)) := by
    have e1 := kidN_of (n := ⟨16, ws, nums, ks, ps⟩) hi0 hy1
    have e2 : ks.drop 1 = r := by rw [hks]; rfl
    have e3 : stmtT ns (f + 1) dp ⟨16, ws, nums, ks, ps⟩ = [105, 102, 32] ++ exprT ns f (kidN ns ⟨16, ws, nums, ks, ps⟩ 0) ++ sepT [32, 101, 108, 115, 101] ((ks.drop 1).map fun k => blockT ns f dp (ndAt ns k)) := by simp [stmtT]
    rw [e3, e1, e2]
  rw [he] at hl ⊢
  clear he
  rw [ndAtS hy1] at hv
  simp only [List.length_append, List.length_cons, List.length_nil] at hl
  obtain ⟨ak, rfl, _⟩ := ints_at hK h.below hi0 (by omega)
  have RT := reads_drop hK 1 (by omega)
  rw [← List.map_drop, show ks.drop 1 = r by rw [hks]; rfl, show ks.length - 1 = r.length by omega] at RT
  have lw2 : (if ck = 1 then some ak else some (⟨ak.block, ak.off + 1, none⟩ : Addr)) = some ⟨ak.block, ak.off + 1, none⟩ := by rw [if_neg (by omega)]
  have lz : ks.length - 1 = r.length := by omega
  have jw2 : (1 : Int) ≤ (ks.length : Int) := by omega
  have N1 := Nw.start (w := w) #[.int .i64 16, .slice Aw ws.length cw, .slice Au nums.length cu, .slice (some ak) ks.length ck, .int .i64 ps] h
  generalize hw1 : w.alloc (.cells #[.int .i64 16, .slice Aw ws.length cw, .slice Au nums.length cu, .slice (some ak) ks.length ck, .int .i64 ps] 30) = w1 at *
  have H1 := Lib.hid N1
  have HN := Lib.hid (And.intro hN (And.intro hq (And.intro hK (And.intro hkm hkl))))
  have HL := Lib.hid hl
  have HI := Lib.hid (And.intro hi0 (And.intro hjn (And.intro hy1 (And.intro hv hE))))
  have HJ := Lib.hid (And.intro hok (And.intro hB (And.intro hkl2 RT)))
  clear N1 hq hwl hwm hW hWl hul hum hU hkl hkm hK h hN hl hi0 hks hr hrl hkl2 hjn hy1 hv hok hB hE RT
  obtain ⟨c0, c1, c2, c3, c4⟩ := nd_cells (x := ((.slice Aw ws.length cw, .slice Au nums.length cu, .slice (some ak) ks.length ck), ⟨16, ws, nums, ks, ps⟩)) H1.out.k
  dsimp only at c0 c1 c2 c3 c4
  have AD := Lib.hid (add1_any w0 w1 bp dp t vn [105, 102, 32] H1.out.p (by have := HL.out; simp only [List.length_cons, List.length_nil]; omega))
  go_enter Tryd.func31, Tryd.ntmps31
  go_upto_region 18 with (go_at_call 15; (refine AD.out.mono ?_); rintro e w2 ⟨rfl, hp, hf⟩; have H2 := Lib.hid (H1.out.next hp hf); clear hp hf)
  clear c0 c1 c2 c3 c4
  obtain ⟨c0, c1, c2, c3, c4⟩ := nd_cells (x := ((.slice Aw ws.length cw, .slice Au nums.length cu, .slice (some ak) ks.length ck), ⟨16, ws, nums, ks, ps⟩)) H2.out.k
  dsimp only at c0 c1 c2 c3 c4
  have KI := Lib.hid (kid_any w0 w2 bp dp _ vn ns _ 0 j ⟨H2.out.p, HN.out.1⟩ HN.out.2.1 HI.out.1 HI.out.2.1)
  go_upto_region 19 with (first
    | (go_at_call 21; (refine KI.out.mono ?_); rintro e w3 ⟨y, rfl, hy, hy2, hb⟩; have ey : y.2 = y1 := Option.some.inj (hy.symm.trans HI.out.2.2.1); have H3 := Lib.hid (And.intro hy2 (And.intro (H2.out.below hb) ey)); clear hy hy2 hb ey; have EX := Lib.hid (HI.out.2.2.2.2 w3 bp dp _ vn y H3.out.2.1.p HN.out.1 H3.out.1 (H3.out.2.2 ▸ HI.out.2.2.2.1) (by rw [H3.out.2.2]; have := HL.out; simp only [List.length_append, List.length_cons, List.length_nil]; omega)))
    | (go_at_call 50; (refine EX.out.mono ?_); rintro e w4 ⟨rfl, hp, hf⟩; have H4 := Lib.hid (H3.out.2.1.next hp hf); clear hp hf))
  rw [H3.out.2.2] at H4
  clear KI EX c0 c1 c2 c3 c4
  obtain ⟨c0, c1, c2, c3, c4⟩ := nd_cells (x := ((.slice Aw ws.length cw, .slice Au nums.length cu, .slice (some ak) ks.length ck), ⟨16, ws, nums, ks, ps⟩)) H4.out.k
  dsimp only at c0 c1 c2 c3 c4
  have BR := Lib.hid (show Calls Tryd.prog 46 #[ptrV bp, .slice (some ⟨ak.block, ak.off + 1, none⟩) r.length (ck - 1)] w4 (fun e w' => e = .returned (.tuple #[]) ∧ PrS w0 w' bp (_ ++ sepT [32, 101, 108, 115, 101] (r.map fun k => blockT ns f dp (ndAt ns k))) dp vn ∧ Fr w4 w' bp) from branches_any w0 w4 bp dp _ vn ns (some (ak.add 1)) (ck - 1) r S (blockT ns f dp) H4.out.p HN.out.1 HJ.out.2.2.2 (by have := HN.out.2.2.2; have := HJ.out.2.2.1; omega) HJ.out.1 HJ.out.2.1 (by have := HL.out; simp only [List.length_append, List.length_cons, List.length_nil]; omega))
  go_wp2_with (go_at_call 46; (refine BR.out.mono ?_); rintro e w5 ⟨rfl, hp, hf⟩; have H5 := Lib.hid (H4.out.next hp hf); clear hp hf)
  go_end0
  refine ⟨rfl, ?_, H5.out.f⟩
  have := H5.out.p
  simp only [List.append_assoc, List.cons_append, List.nil_append] at this ⊢
  exact this
set_option maxRecDepth 10000 in
set_option maxHeartbeats 8000000 in
theorem stmt_19 (w0 w : World) (bp dp : Nat) (t : Txt) (vn : Value) (ns : List Nd) (f : Nat) (x : NdV × Nd) (h : PrS w0 w bp t dp vn) (hN : NodesAt w0 vn ns) (hx : NdAt w0 x) (hk : x.2.kind = 19) (hl : t.length + (stmtT ns (f + 1) dp x.2).length + 10000 ≤ 140737488355328) :
    Calls Tryd.prog 31 #[.pointer (some ⟨bp, 0, none⟩), ndX x] w fun e w' => e = .returned (.tuple #[]) ∧ PrS w0 w' bp (t ++ stmtT ns (f + 1) dp x.2) dp vn ∧ Fr w w' bp := by
  have hq := hx
  obtain ⟨⟨vw, vu, vk⟩, kd, ws, nums, ks, ps⟩ := x
  obtain ⟨hw, hu, hkk⟩ := hx
  dsimp only at hk hw hu hkk hl ⊢
  obtain ⟨Aw, cw, rfl, hwl, hwm, hW, hWl⟩ := hw
  obtain ⟨Au, cu, rfl, hul, hum, hU⟩ := hu
  obtain ⟨Ak, ck, rfl, hkl, hkm, hK⟩ := hkk
  subst hk
  have he : stmtT ns (f + 1) dp ⟨19, ws, nums, ks, ps⟩ = [101, 120, 105, 116, 59] := by simp [stmtT]
  rw [he] at hl ⊢
  clear he
  simp only [List.length_cons, List.length_nil] at hl
  have N1 := Nw.start (w := w) #[.int .i64 19, .slice Aw ws.length cw, .slice Au nums.length cu, .slice Ak ks.length ck, .int .i64 ps] h
  generalize hw1 : w.alloc (.cells #[.int .i64 19, .slice Aw ws.length cw, .slice Au nums.length cu, .slice Ak ks.length ck, .int .i64 ps] 30) = w1 at *
  have H1 := Lib.hid N1
  have HN := Lib.hid (And.intro hN (And.intro hq (And.intro hK (And.intro hkm hkl))))
  have HL := Lib.hid hl
  clear N1 hq hwl hwm hW hWl hul hum hU hkl hkm hK h hN hl 
  obtain ⟨c0, c1, c2, c3, c4⟩ := nd_cells (x := ((.slice Aw ws.length cw, .slice Au nums.length cu, .slice Ak ks.length ck), ⟨19, ws, nums, ks, ps⟩)) H1.out.k
  dsimp only at c0 c1 c2 c3 c4
  have AD := Lib.hid (add1_any w0 w1 bp dp t vn [101, 120, 105, 116, 59] H1.out.p (by have := HL.out; simp only [List.length_cons, List.length_nil]; omega))
  go_enter Tryd.func31, Tryd.ntmps31
  go_wp2_with (go_at_call 15; (refine AD.out.mono ?_); rintro e w2 ⟨rfl, hp, hf⟩; have H2 := Lib.hid (H1.out.next hp hf); clear hp hf)
  go_end0
  exact ⟨rfl, H2.out.p, H2.out.f⟩
/-- The tables that the printer reads. -/
structure PTabs (w0 : World) : Prop where
  kinds : StrRow w0 0 kindsT
  names : StrRow w0 1 namesWordsT
  signs : StrRow w0 2 signsT
  ten : Tab10 w0 w0
theorem kid_nat {ns : List Nd} {k : Int} {P : Nd → Prop} (h : KidsOk ns [k] P) : ∃ m : Nat, k = m ∧ m < ns.length ∧ P (ndAt ns (m : Int)) := by
  obtain ⟨h0, h1, h2⟩ := h k (by simp)
  obtain ⟨m, rfl⟩ := Int.eq_ofNat_of_zero_le h0
  exact ⟨m, rfl, by omega, h2⟩
theorem stmt_each (w0 : World) (ns : List Nd) (T : PTabs w0) : ∀ (f dp : Nat), dp + 2 * f < 3999 → Each 31 w0 ns dp (fun n => StmtOk ns f n) (fun n => stmtT ns f dp n)
  | 0, dp, _ => fun w bp t vn x h hN hx hok hl => hok.elim
  | f + 1, dp, hd => by
    intro w bp t vn x h hN hx hok hl
    have hE := expr_all w0 ns T.ten T.signs f
    have hB := block_each w0 ns dp (fun n => StmtOk ns f n) (fun n => stmtT ns f (dp + 1) n) (by omega) (stmt_each w0 ns T f (dp + 1) (by omega))
    dsimp only at hok hl ⊢
    rw [StmtOk] at hok
    rcases hok with ⟨hk, ⟨s, hn⟩, k, hks, hv⟩ | ⟨hk, ⟨a, b, hn⟩, _, hok⟩ | ⟨hk, hn, hok⟩ | ⟨hk, ⟨a, b, hn⟩, ⟨p, q, r, hm, h0, h4, hq, hr⟩, l, k, hks, hol, hok⟩ | ⟨hk, hn, hok⟩ | ⟨hk, k, r, hks, hr, hv, hok⟩ | ⟨hk, j, k, hks, hv, hok⟩ | ⟨hk, k, hks, hv⟩ | hk
    · obtain ⟨m, rfl, hm, hv⟩ := kid_nat hv
      rcases hk with hk | hk
      · exact stmt_8 w0 w bp dp t vn ns f x h hN hx hE hk s [] m hn (by rw [hks]; rfl) hm hv hl
      · exact stmt_9 w0 w bp dp t vn ns f x h hN hx hE hk s [] m hn (by rw [hks]; rfl) hm hv hl
    · exact stmt_10 w0 w bp dp t vn ns f x h hN hx _ hB hk a b hn hok hl
    · exact stmt_11 w0 w bp dp t vn ns f x h hN hx (by omega) _ (block_each w0 ns (dp + 1) (fun n => StmtOk ns f n) (fun n => stmtT ns f (dp + 1 + 1) n) (by omega) (stmt_each w0 ns T f (dp + 1 + 1) (by omega))) hk hn hok hl
    · obtain ⟨m, rfl, hm2, hok⟩ := kid_nat hok
      obtain ⟨p, rfl⟩ := Int.eq_ofNat_of_zero_le h0
      exact stmt_13 w0 w bp dp t vn ns f x h hN hx T.kinds T.names T.ten _ hB hk a b hn p q r hm (by omega) hq hr l m hks hol hm2 hok hl
    · exact stmt_14 w0 w bp dp t vn ns f x h hN hx hE hk hn hok hl
    · obtain ⟨m, rfl, hm, hv⟩ := kid_nat hv
      exact stmt_16 w0 w bp dp t vn ns f x h hN hx hE _ hB hk m r hks hr hm hv hok hl
    · obtain ⟨m, rfl, hm, hv⟩ := kid_nat hv
      obtain ⟨m2, rfl, hm2, hok⟩ := kid_nat hok
      exact stmt_17 w0 w bp dp t vn ns f x h hN hx hE _ hB hk m m2 hks hm hv hm2 hok hl
    · obtain ⟨m, rfl, hm, hv⟩ := kid_nat hv
      exact stmt_18 w0 w bp dp t vn ns f x h hN hx hE hk m (by rw [hks]; rfl) hm hv hl
    · exact stmt_19 w0 w bp dp t vn ns f x h hN hx hk hl
end Go.Proofs.YthihdddlneclmaaDoor
