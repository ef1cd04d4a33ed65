/-
  The walks of package std's protocols and All. (Template: by-name.py fills it.)
-/
import Derived.Test.YtbfgeiimjmhhdaaStdC
namespace Go.Proofs.Ytbfgeiimjmhhdaa
open Go.RowKit

theorem ProOwn.below {w w' : World} {B : Nat} {vs vm : Value} {p : Pro} (h : ProOwn w B vs vm p) (hb : Below w.heap.size w w') : ProOwn w' B vs vm p := by
  obtain ⟨rs, hm, s1, s2, s3⟩ := h
  exact ⟨rs, hm, ownRow_below s1 hb, ownRow_below s2 hb, fun x hx => ownRow_below (s3 x hx) hb⟩
theorem ProOwn.less {w : World} {B B' : Nat} {vs vm : Value} {p : Pro} (h : ProOwn w B vs vm p) (hB : B' ≤ B) : ProOwn w B' vs vm p := by
  obtain ⟨rs, hm, s1, s2, s3⟩ := h
  exact ⟨rs, hm, own_lessS s1 hB, own_lessS s2 hB, fun x hx => own_lessS (s3 x hx) hB⟩
theorem ProOwn.shape {w : World} {B : Nat} {vs vm : Value} {p : Pro} (h : ProOwn w B vs vm p) : (∃ A c, vs = .slice A p.states.length c) ∧ ∃ A c, vm = .slice A p.moves.length c := by
  obtain ⟨rs, hm, s1, s2, _⟩ := h
  have := own_shape s2
  rw [← hm, List.length_map]
  exact ⟨own_shape s1, this⟩
/-- Three protocols behind each other: File, Socket, Iter. -/
structure Three (w : World) (B : Nat) (v0 m0 v1 m1 v2 m2 : Value) : Prop where
  f : ProOwn w B v0 m0 fileP
  s : ProOwn w B v1 m1 socketP
  i : ProOwn w B v2 m2 iterP
theorem Three.below {w w' : World} {B : Nat} {v0 m0 v1 m1 v2 m2 : Value} (h : Three w B v0 m0 v1 m1 v2 m2) (hb : Below w.heap.size w w') : Three w' B v0 m0 v1 m1 v2 m2 := ⟨h.f.below hb, h.s.below hb, h.i.below hb⟩
theorem Three.less {w : World} {B B' : Nat} {v0 m0 v1 m1 v2 m2 : Value} (h : Three w B v0 m0 v1 m1 v2 m2) (hB : B' ≤ B) : Three w B' v0 m0 v1 m1 v2 m2 := ⟨h.f.less hB, h.s.less hB, h.i.less hB⟩
theorem Three.set {w : World} {B b i : Nat} {u v0 m0 v1 m1 v2 m2 : Value} (h : Three w B v0 m0 v1 m1 v2 m2) (hb : b < B) : Three (w.setCell ⟨b, i, none⟩ u) B v0 m0 v1 m1 v2 m2 := ⟨h.f.set hb, h.s.set hb, h.i.set hb⟩
abbrev nine (v0 m0 v1 m1 v2 m2 : Value) : Array Value := #[txt fileP.name, v0, m0, txt socketP.name, v1, m1, txt iterP.name, v2, m2]
abbrev zero9 : Array Value := #[.string ⟨#[]⟩, .slice none 0 0, .slice none 0 0, .string ⟨#[]⟩, .slice none 0 0, .slice none 0 0, .string ⟨#[]⟩, .slice none 0 0, .slice none 0 0]
abbrev set9 (X : World) (b : Nat) (u0 u1 u2 u3 u4 u5 u6 u7 u8 : Value) : World := (((((((((X.setCell ⟨b, 0, none⟩ u0).setCell ⟨b, 1, none⟩ u1).setCell ⟨b, 2, none⟩ u2).setCell ⟨b, 3, none⟩ u3).setCell ⟨b, 4, none⟩ u4).setCell ⟨b, 5, none⟩ u5).setCell ⟨b, 6, none⟩ u6).setCell ⟨b, 7, none⟩ u7).setCell ⟨b, 8, none⟩ u8)
theorem nine_blk {X : World} {b : Nat} (h : Blk X b zero9) (u0 u1 u2 u3 u4 u5 u6 u7 u8 : Value) : Blk (((((((((X.setCell ⟨b, 0, none⟩ u0).setCell ⟨b, 1, none⟩ u1).setCell ⟨b, 2, none⟩ u2).setCell ⟨b, 3, none⟩ u3).setCell ⟨b, 4, none⟩ u4).setCell ⟨b, 5, none⟩ u5).setCell ⟨b, 6, none⟩ u6).setCell ⟨b, 7, none⟩ u7).setCell ⟨b, 8, none⟩ u8) b #[u0, u1, u2, u3, u4, u5, u6, u7, u8] := by
  have k := (((((((((h.set 0 u0).set 1 u1).set 2 u2).set 3 u3).set 4 u4).set 5 u5).set 6 u6).set 7 u7).set 8 u8)
  simp only [List.setIfInBounds_toArray, List.set_cons_zero, List.set_cons_succ] at k
  exact k
theorem nine_out {X : World} {b : Nat} (h : Blk X b zero9) (u0 u1 u2 u3 u4 u5 u6 u7 u8 : Value) : (((((((((X.setCell ⟨b, 0, none⟩ u0).setCell ⟨b, 1, none⟩ u1).setCell ⟨b, 2, none⟩ u2).setCell ⟨b, 3, none⟩ u3).setCell ⟨b, 4, none⟩ u4).setCell ⟨b, 5, none⟩ u5).setCell ⟨b, 6, none⟩ u6).setCell ⟨b, 7, none⟩ u7).setCell ⟨b, 8, none⟩ u8).cell? ⟨b, 0, none⟩ = some u0 ∧ (((((((((X.setCell ⟨b, 0, none⟩ u0).setCell ⟨b, 1, none⟩ u1).setCell ⟨b, 2, none⟩ u2).setCell ⟨b, 3, none⟩ u3).setCell ⟨b, 4, none⟩ u4).setCell ⟨b, 5, none⟩ u5).setCell ⟨b, 6, none⟩ u6).setCell ⟨b, 7, none⟩ u7).setCell ⟨b, 8, none⟩ u8).cell? ⟨b, 1, none⟩ = some u1 ∧ (((((((((X.setCell ⟨b, 0, none⟩ u0).setCell ⟨b, 1, none⟩ u1).setCell ⟨b, 2, none⟩ u2).setCell ⟨b, 3, none⟩ u3).setCell ⟨b, 4, none⟩ u4).setCell ⟨b, 5, none⟩ u5).setCell ⟨b, 6, none⟩ u6).setCell ⟨b, 7, none⟩ u7).setCell ⟨b, 8, none⟩ u8).cell? ⟨b, 2, none⟩ = some u2 ∧ (((((((((X.setCell ⟨b, 0, none⟩ u0).setCell ⟨b, 1, none⟩ u1).setCell ⟨b, 2, none⟩ u2).setCell ⟨b, 3, none⟩ u3).setCell ⟨b, 4, none⟩ u4).setCell ⟨b, 5, none⟩ u5).setCell ⟨b, 6, none⟩ u6).setCell ⟨b, 7, none⟩ u7).setCell ⟨b, 8, none⟩ u8).cell? ⟨b, 3, none⟩ = some u3 ∧ (((((((((X.setCell ⟨b, 0, none⟩ u0).setCell ⟨b, 1, none⟩ u1).setCell ⟨b, 2, none⟩ u2).setCell ⟨b, 3, none⟩ u3).setCell ⟨b, 4, none⟩ u4).setCell ⟨b, 5, none⟩ u5).setCell ⟨b, 6, none⟩ u6).setCell ⟨b, 7, none⟩ u7).setCell ⟨b, 8, none⟩ u8).cell? ⟨b, 4, none⟩ = some u4 ∧ (((((((((X.setCell ⟨b, 0, none⟩ u0).setCell ⟨b, 1, none⟩ u1).setCell ⟨b, 2, none⟩ u2).setCell ⟨b, 3, none⟩ u3).setCell ⟨b, 4, none⟩ u4).setCell ⟨b, 5, none⟩ u5).setCell ⟨b, 6, none⟩ u6).setCell ⟨b, 7, none⟩ u7).setCell ⟨b, 8, none⟩ u8).cell? ⟨b, 5, none⟩ = some u5 ∧ (((((((((X.setCell ⟨b, 0, none⟩ u0).setCell ⟨b, 1, none⟩ u1).setCell ⟨b, 2, none⟩ u2).setCell ⟨b, 3, none⟩ u3).setCell ⟨b, 4, none⟩ u4).setCell ⟨b, 5, none⟩ u5).setCell ⟨b, 6, none⟩ u6).setCell ⟨b, 7, none⟩ u7).setCell ⟨b, 8, none⟩ u8).cell? ⟨b, 6, none⟩ = some u6 ∧ (((((((((X.setCell ⟨b, 0, none⟩ u0).setCell ⟨b, 1, none⟩ u1).setCell ⟨b, 2, none⟩ u2).setCell ⟨b, 3, none⟩ u3).setCell ⟨b, 4, none⟩ u4).setCell ⟨b, 5, none⟩ u5).setCell ⟨b, 6, none⟩ u6).setCell ⟨b, 7, none⟩ u7).setCell ⟨b, 8, none⟩ u8).cell? ⟨b, 7, none⟩ = some u7 ∧ (((((((((X.setCell ⟨b, 0, none⟩ u0).setCell ⟨b, 1, none⟩ u1).setCell ⟨b, 2, none⟩ u2).setCell ⟨b, 3, none⟩ u3).setCell ⟨b, 4, none⟩ u4).setCell ⟨b, 5, none⟩ u5).setCell ⟨b, 6, none⟩ u6).setCell ⟨b, 7, none⟩ u7).setCell ⟨b, 8, none⟩ u8).cell? ⟨b, 8, none⟩ = some u8 :=
  have k := nine_blk h u0 u1 u2 u3 u4 u5 u6 u7 u8
  ⟨by rw [k.cell 0]; rfl, by rw [k.cell 1]; rfl, by rw [k.cell 2]; rfl, by rw [k.cell 3]; rfl, by rw [k.cell 4]; rfl, by rw [k.cell 5]; rfl, by rw [k.cell 6]; rfl, by rw [k.cell 7]; rfl, by rw [k.cell 8]; rfl⟩
theorem set_other (X : World) (b i j : Nat) (v : Value) (h : i ≠ j) : (X.setCell ⟨b, i, none⟩ v).cell? ⟨b, j, none⟩ = X.cell? ⟨b, j, none⟩ := World.cell?_setCell_other _ _ _ _ (fun e => h (by injection e with _ e))
theorem nine_in {X : World} {b : Nat} (h : Blk X b zero9) : X.cell? ⟨b, 0, none⟩ = some (.string ⟨#[]⟩) ∧ X.cell? ⟨b, 1, none⟩ = some (.slice none 0 0) ∧ X.cell? ⟨b, 2, none⟩ = some (.slice none 0 0) ∧ X.cell? ⟨b, 3, none⟩ = some (.string ⟨#[]⟩) ∧ X.cell? ⟨b, 4, none⟩ = some (.slice none 0 0) ∧ X.cell? ⟨b, 5, none⟩ = some (.slice none 0 0) ∧ X.cell? ⟨b, 6, none⟩ = some (.string ⟨#[]⟩) ∧ X.cell? ⟨b, 7, none⟩ = some (.slice none 0 0) ∧ X.cell? ⟨b, 8, none⟩ = some (.slice none 0 0) ∧ X.frozen? ⟨b, 0, none⟩ = false ∧ X.frozen? ⟨b, 1, none⟩ = false ∧ X.frozen? ⟨b, 2, none⟩ = false ∧ X.frozen? ⟨b, 3, none⟩ = false ∧ X.frozen? ⟨b, 4, none⟩ = false ∧ X.frozen? ⟨b, 5, none⟩ = false ∧ X.frozen? ⟨b, 6, none⟩ = false ∧ X.frozen? ⟨b, 7, none⟩ = false ∧ X.frozen? ⟨b, 8, none⟩ = false :=
  ⟨by rw [h.cell 0]; rfl, by rw [h.cell 1]; rfl, by rw [h.cell 2]; rfl, by rw [h.cell 3]; rfl, by rw [h.cell 4]; rfl, by rw [h.cell 5]; rfl, by rw [h.cell 6]; rfl, by rw [h.cell 7]; rfl, by rw [h.cell 8]; rfl, h.free 0, h.free 1, h.free 2, h.free 3, h.free 4, h.free 5, h.free 6, h.free 7, h.free 8⟩
theorem below_nine {w X : World} (h : Below w.heap.size w X) {b : Nat} (hb : w.heap.size ≤ b) (u0 u1 u2 u3 u4 u5 u6 u7 u8 : Value) : Below w.heap.size w (((((((((X.setCell ⟨b, 0, none⟩ u0).setCell ⟨b, 1, none⟩ u1).setCell ⟨b, 2, none⟩ u2).setCell ⟨b, 3, none⟩ u3).setCell ⟨b, 4, none⟩ u4).setCell ⟨b, 5, none⟩ u5).setCell ⟨b, 6, none⟩ u6).setCell ⟨b, 7, none⟩ u7).setCell ⟨b, 8, none⟩ u8) :=
  ((((((((h.setCell (p := ⟨b, 0, none⟩) hb _).setCell (p := ⟨b, 1, none⟩) hb _).setCell (p := ⟨b, 2, none⟩) hb _).setCell (p := ⟨b, 3, none⟩) hb _).setCell (p := ⟨b, 4, none⟩) hb _).setCell (p := ⟨b, 5, none⟩) hb _).setCell (p := ⟨b, 6, none⟩) hb _).setCell (p := ⟨b, 7, none⟩) hb _).setCell (p := ⟨b, 8, none⟩) hb _
theorem Three.nine {X : World} {B b : Nat} {v0 m0 v1 m1 v2 m2 : Value} (h : Three X B v0 m0 v1 m1 v2 m2) (hb : b < B) (u0 u1 u2 u3 u4 u5 u6 u7 u8 : Value) : Three (((((((((X.setCell ⟨b, 0, none⟩ u0).setCell ⟨b, 1, none⟩ u1).setCell ⟨b, 2, none⟩ u2).setCell ⟨b, 3, none⟩ u3).setCell ⟨b, 4, none⟩ u4).setCell ⟨b, 5, none⟩ u5).setCell ⟨b, 6, none⟩ u6).setCell ⟨b, 7, none⟩ u7).setCell ⟨b, 8, none⟩ u8) B v0 m0 v1 m1 v2 m2 :=
  ((((((((h.set (i := 0) (u := u0) hb).set (i := 1) (u := u1) hb).set (i := 2) (u := u2) hb).set (i := 3) (u := u3) hb).set (i := 4) (u := u4) hb).set (i := 5) (u := u5) hb).set (i := 6) (u := u6) hb).set (i := 7) (u := u7) hb).set (i := 8) (u := u8) hb
set_option maxRecDepth 10000 in
set_option maxHeartbeats 8000000 in
theorem protocols_any (w : World) : Calls Try.prog 10 #[] w fun e w' => ∃ v0 m0 v1 m1 v2 m2, e = .returned (.agg (nine v0 m0 v1 m1 v2 m2)) ∧ Three w' w.heap.size v0 m0 v1 m1 v2 m2 ∧ Below w.heap.size w w' := by
  have a1 := below_alloc1 w (.cells zero9 42)
  have B1 := Blk.start w zero9 42
  have HS := Lib.hid (World.size_alloc w (.cells zero9 42))
  go_enter Try.func10, Try.ntmps10
  go_upto_region 1 with fail
  generalize w.alloc (.cells zero9 42) = W0 at *
  have so := set_other
  have HB := Lib.hid (And.intro a1 B1)
  clear a1 B1
  go_wp2_with (first
    | (go_at_call 19; (refine (file_any _).mono ?_); rintro e w1 ⟨v0, m0, rfl, h, hb⟩; have H1 := Lib.hid (And.intro h hb); clear h hb)
    | (go_at_call 20; (refine (socket_any _).mono ?_); rintro e w2 ⟨v1, m1, rfl, h, hb⟩; have H2 := Lib.hid (And.intro h hb); clear h hb)
    | (go_at_call 21; (refine (iter_any _).mono ?_); rintro e w3 ⟨v2, m2, rfl, h, hb⟩; obtain ⟨⟨A0, d0, rfl⟩, ⟨B0, e0, rfl⟩⟩ := H1.out.1.shape; obtain ⟨⟨A1, d1, rfl⟩, ⟨B1, e1, rfl⟩⟩ := H2.out.1.shape; obtain ⟨⟨A2, d2, rfl⟩, ⟨B2, e2, rfl⟩⟩ := h.shape; have H3 := Lib.hid (And.intro h hb); have BX := ((HB.out.2.keep H1.out.2).keep H2.out.2).keep hb; obtain ⟨c0, c1, c2, c3, c4, c5, c6, c7, c8, f0, f1, f2, f3, f4, f5, f6, f7, f8⟩ := nine_in BX; have HX := Lib.hid BX; clear h hb BX))
  obtain ⟨r0, r1, r2, r3, r4, r5, r6, r7, r8⟩ := nine_out HX.out (txt fileP.name) (.slice A0 fileP.states.length d0) (.slice B0 fileP.moves.length e0) (txt socketP.name) (.slice A1 socketP.states.length d1) (.slice B1 socketP.moves.length e1) (txt iterP.name) (.slice A2 iterP.states.length d2) (.slice B2 iterP.moves.length e2)
  have z := HS.out
  have z1 := H1.out.2.size
  have z2 := H2.out.2.size
  have T3 : Three w3 W0.heap.size _ _ _ _ _ _ := ⟨(H1.out.1.below H2.out.2).below H3.out.2, (H2.out.1.less z1).below H3.out.2, H3.out.1.less (Nat.le_trans z1 z2)⟩
  have BL := ((HB.out.1.trans (H1.out.2.mono (by omega))).trans (H2.out.2.mono (by omega))).trans (H3.out.2.mono (by omega))
  exact bodyPost_ret (v := .agg (nine (.slice A0 fileP.states.length d0) (.slice B0 fileP.moves.length e0) (.slice A1 socketP.states.length d1) (.slice B1 socketP.moves.length e1) (.slice A2 iterP.states.length d2) (.slice B2 iterP.moves.length e2))) (by simp [results, Try.results10, go_sem, r0, r1, r2, r3, r4, r5, r6, r7, r8]) rfl ⟨_, _, _, _, _, _, rfl, (T3.nine (by omega) _ _ _ _ _ _ _ _ _).less (by omega), below_nine BL (Nat.le_refl _) _ _ _ _ _ _ _ _ _⟩
set_option maxRecDepth 10000 in
set_option maxHeartbeats 8000000 in
theorem all_any (w : World) : Calls Try.prog 5 #[] w fun e w' => ∃ g v0 m0 v1 m1 v2 m2, e = .returned (.slice (some ⟨g, 0, none⟩) 3 3) ∧ TBlk w' g 42 (nine v0 m0 v1 m1 v2 m2) ∧ w.heap.size ≤ g ∧ Three w' w.heap.size v0 m0 v1 m1 v2 m2 ∧ Below w.heap.size w w' := by
  have PX := Lib.hid (protocols_any w)
  go_enter Try.func5, Try.ntmps5
  go_wp2_with (go_at_call 10; (refine PX.out.mono ?_); rintro e w1 ⟨v0, m0, v1, m1, v2, m2, rfl, h, hb⟩; obtain ⟨⟨A0, d0, rfl⟩, ⟨B0, e0, rfl⟩⟩ := h.f.shape; obtain ⟨⟨A1, d1, rfl⟩, ⟨B1, e1, rfl⟩⟩ := h.s.shape; obtain ⟨⟨A2, d2, rfl⟩, ⟨B2, e2, rfl⟩⟩ := h.i.shape; have H1 := Lib.hid (And.intro h hb); clear h hb)
  go_ret
  refine ⟨_, _, _, _, _, _, _, rfl, TBlk.start w1 _ _, H1.out.2.size, H1.out.1.below (below_alloc1 w1 _), H1.out.2.trans ((below_alloc1 w1 _).mono H1.out.2.size)⟩
end Go.Proofs.Ytbfgeiimjmhhdaa
