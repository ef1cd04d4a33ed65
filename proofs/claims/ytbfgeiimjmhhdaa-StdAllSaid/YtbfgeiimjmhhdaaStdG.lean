/-
  The walks of package std's places and Find at the document's example. (Template: by-name.py fills it.)
-/
import Derived.Test.YtbfgeiimjmhhdaaStdF
import Derived.Maps.OwnSet
namespace Go.Proofs.Ytbfgeiimjmhhdaa
open Go.RowKit Go.Maps

def plD : DataW Unit := (((DataW.map []).put (.string fileP.name) (.lit (.int .i64 0))).put (.string socketP.name) (.lit (.int .i64 1))).put (.string iterP.name) (.lit (.int .i64 2))
theorem keyS (s : List UInt8) (h : s.length ≤ maxLen) : keyOf Try.prog 9 (txt s) = some (.string s) := WideMaps.keyOf_string_mk Try.underlying9 (by show s.toArray.size ≤ maxLen; rw [List.size_toArray]; exact h)
set_option maxHeartbeats 1000000 in
theorem places_any (w : World) : Calls Try.prog 18 #[] w fun e w' => ∃ b, e = .returned (.map (some b)) ∧ w'.ownsMap Try.prog 9 (plainElem Try.prog 3) b 3 plD ∧ Below w.heap.size w w' := by
  have hmm := @run_makeMap Try.prog
  have a1 := below_alloc1 w (.map #[] 0)
  have m0 := World.ownsMap_made w Try.prog 9 (plainElem (H := Unit) Try.prog 3)
  obtain ⟨w1, h1, m1, g1⟩ := m0.update lawS Try.underlying52 (by decide) (keyS [70, 105, 108, 101] (by decide)) (plainElem_int (q := .i64) (a := 0) Try.underlying3 (by decide))
  obtain ⟨w2, h2, m2, g2⟩ := m1.update lawS Try.underlying52 (by decide) (keyS [83, 111, 99, 107, 101, 116] (by decide)) (plainElem_int (q := .i64) (a := 1) Try.underlying3 (by decide))
  obtain ⟨w3, h3, m3, g3⟩ := m2.update lawS Try.underlying52 (by decide) (keyS [73, 116, 101, 114] (by decide)) (plainElem_int (q := .i64) (a := 2) Try.underlying3 (by decide))
  have b1 := a1.trans (grown_below_of g1 a1.size (fun k hk => by injection hk with hk; omega))
  have b2 := b1.trans (grown_below_of g2 b1.size (fun k hk => by injection hk with hk; omega))
  have b3 := b2.trans (grown_below_of g3 b2.size (fun k hk => by injection hk with hk; omega))
  have HZ := Lib.hid (And.intro m3 b3)
  clear a1 m0 m1 m2 m3 g1 g2 g3 b1 b2 b3
  go_enter Try.func18, Try.ntmps18
  go_wp2_with fail
  go_ret
  exact ⟨_, rfl, HZ.out⟩
theorem plD_has : Maps.has plD (.string fileP.name) = true := by decide +kernel
theorem plD_at : plD.atKey (.string fileP.name) (.lit (.int .i64 0)) = .lit (.int .i64 0) := by rfl
theorem index_file (v0 m0 v1 m1 v2 m2 : Value) (w : World) : (Instr.index 42 (.agg (nine v0 m0 v1 m1 v2 m2)) (.int .i64 0)).run Try.prog w = .ok (.agg #[txt fileP.name, v0, m0]) w := by kernel_rfl
set_option maxRecDepth 10000 in
set_option maxHeartbeats 8000000 in
theorem find_any (w : World) : Calls Try.prog 9 #[txt fileP.name] w fun e w' => ∃ A c B d, e = .returned (.tuple #[.agg #[txt fileP.name, .slice A 3 c, .slice B 6 d], .bool true]) ∧ Below w.heap.size w w' := by
  have a1 := below_alloc1 w (.cells #[.string ⟨#[]⟩, .slice none 0 0, .slice none 0 0] 30)
  have B1 := Blk.start w #[.string ⟨#[]⟩, .slice none 0 0, .slice none 0 0] 30
  have HS := Lib.hid (World.size_alloc w (.cells #[.string ⟨#[]⟩, .slice none 0 0, .slice none 0 0] 30))
  go_enter Try.func9, Try.ntmps9
  go_upto_region 1 with fail
  generalize w.alloc (.cells #[.string ⟨#[]⟩, .slice none 0 0, .slice none 0 0] 30) = W0 at *
  have HB := Lib.hid (And.intro a1 B1)
  clear a1 B1
  go_upto_region 4 with (go_at_call 18; (refine (places_any _).mono ?_); rintro e w1 ⟨b, rfl, hm, hb⟩; (obtain ⟨v, ps, lk, hv⟩ := hm.look_ok lawS Try.underlying52 (zeroI w1) (plainElem_int (q := .i64) (a := 0) Try.underlying3 (by decide)) (keyS fileP.name (by decide))); obtain ⟨c, rfl, hc, _⟩ := plainElem_int_inv Try.underlying3 hv; rw [plD_at] at hc; obtain rfl : 0 = c := (by injection hc with hc; injection hc with hc; injection hc with _ hc); rw [plD_has] at lk; have H1 := Lib.hid hb; clear hm hb hv hc)
  go_wp2_with (go_at_call 10; (refine (protocols_any _).mono ?_); rintro e w2 ⟨v0, m0, v1, m1, v2, m2, rfl, h, hb⟩; obtain ⟨⟨A0, d0, rfl⟩, ⟨B0, e0, rfl⟩⟩ := h.f.shape; obtain ⟨⟨A1, d1, rfl⟩, ⟨B1, e1, rfl⟩⟩ := h.s.shape; obtain ⟨⟨A2, d2, rfl⟩, ⟨B2, e2, rfl⟩⟩ := h.i.shape; have BX := (HB.out.2.keep H1.out).keep hb; obtain ⟨c0, c1, c2, f0, f1, f2⟩ := box_in BX; have so := set_other; have ix := index_file; obtain ⟨r0, r1, r2⟩ := box_out BX (txt fileP.name) (.slice A0 fileP.states.length d0) (.slice B0 fileP.moves.length e0); have H2 := Lib.hid hb; clear h hb BX)
  have z := HS.out
  exact bodyPost_ret (v := .tuple #[.agg #[txt fileP.name, .slice A0 fileP.states.length d0, .slice B0 fileP.moves.length e0], .bool true]) (by simp [results, Try.results9, go_sem, r0, r1, r2]) rfl ⟨_, _, _, _, rfl, (((((HB.out.1.trans (H1.out.mono (by omega))).trans (H2.out.mono (by have := H1.out.size; omega))).setCell (p := ⟨w.heap.size, 0, none⟩) (Nat.le_refl _) _).setCell (p := ⟨w.heap.size, 1, none⟩) (Nat.le_refl _) _).setCell (p := ⟨w.heap.size, 2, none⟩) (Nat.le_refl _) _)⟩
set_option maxHeartbeats 4000000 in
theorem awake10_yes (w : World) : Calls Try.prog 4 #[] w fun e w' => e = .returned (.bool true) ∧ Below w.heap.size w w' := by
  have FI := Lib.hid (find_any w)
  go_enter Try.func4, Try.ntmps4
  go_wp2_with (go_at_call 9; (refine FI.out.mono ?_); rintro e w1 ⟨A, c, B, d, rfl, hb⟩; have H1 := Lib.hid hb; have S1 := Blk.start w1 #[txt fileP.name, .slice A 3 c, .slice B 6 d] 30; have c1 := S1.cell 1; have c2 := S1.cell 2; simp only [List.getElem?_toArray, List.getElem?_cons_zero, List.getElem?_cons_succ] at c1 c2; clear hb S1)
  go_ret
  exact ⟨rfl, H1.out.trans ((below_alloc1 w1 _).mono H1.out.size)⟩
end Go.Proofs.Ytbfgeiimjmhhdaa
