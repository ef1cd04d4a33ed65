/-
  The law PermHalves. (Template: by-name.py fills it.)
-/
import Derived.Test.YthlogaenbnhobaaDoorPmF
namespace Go.Proofs.YthlogaenbnhobaaDoor
open Go.RowKit

set_option maxHeartbeats 1000000 in
theorem permhalves_any (w : World) (ht : RestTab w) (k n d r s a i : Int) (h1 : -9223372036854775808 ≤ n) (h2 : n ≤ 9223372036854775807) (h3 : -9223372036854775808 ≤ d) (h4 : d ≤ 9223372036854775807) (a1 : 0 ≤ a) (a2 : a ≤ 255) (i1 : 0 ≤ i) (i2 : i ≤ 255) :
    Calls Tryd.prog 4 #[permV k n d r s, .int .u8 a, .int .u8 i] w fun e w' => e = .returned (.bool true) ∧ Below w.heap.size w w' := by
  have b1 := below_alloc1 w (.cells (permC k n d r s) 28)
  have B1 := Blk.start w (permC k n d r s) 28
  have AW := Lib.hid (fun (w' : World) (hb : Below w.heap.size w w') => awake15_yes w' (ht.below hb))
  have SP := Lib.hid (fun p i => split_half k n d r s p i h1 h2 h3 h4)
  have HT := Lib.hid ht
  clear ht h1 h2 h3 h4
  generalize hw1 : w.alloc (.cells (permC k n d r s) 28) = w1 at *
  go_enter Tryd.func4, Tryd.ntmps4
  go_upto_region 5 with (go_at_call 5; (with_reducible refine (AW.out _ b1).mono ?_); rintro e w2 ⟨rfl, hb⟩)
  have c2 := B1.keep hb
  have L2 := b1.trans (hb.mono b1.size)
  have T2 := HT.out.below L2
  clear AW HT b1 B1 hb
  generalize a % 5 = p at *
  obtain ⟨⟨c0, c1, c2', c3, c4⟩, _⟩ := five_cells c2
  have P2 := Lib.hid c2
  have L2 := Lib.hid L2
  have T2 := Lib.hid T2
  clear c2
  -- what is asked of the split: the set
  have tail : ∀ st : Int, (∃ e : Int, e ≠ 0 ∧ ∀ w, RestTab w → Calls Tryd.prog 7 #[permV k n d r s, .int .i64 p, ratV 1 2, .int .u32 st] w fun e' w' => e' = .returned (noSplit e) ∧ Below w.heap.size w w') ∨
      (∃ u v z q : Int, ∀ w, RestTab w → Calls Tryd.prog 7 #[permV k n d r s, .int .i64 p, ratV 1 2, .int .u32 st] w fun e' w' => e' = .returned (.tuple #[permV z u v r q, permV p u v r q, .int .i64 0]) ∧ Below w.heap.size w w') := fun st => by
    rcases SP.out p st with h | ⟨u, v, _, _, h⟩
    · exact .inl h
    · exact .inr ⟨u, v, _, _, h⟩
  clear SP
  have a3 := below_alloc1 w2 (.cells #[.int .i64 1, .int .i64 2] 25)
  have P3 := Lib.hid (P2.out.keep a3)
  have L3 := Lib.hid (L2.out.trans (a3.mono L2.out.size))
  have T3 := Lib.hid (T2.out.below a3)
  clear a3
  obtain ⟨⟨d0, d1, d2, d3, d4⟩, _⟩ := five_cells P3.out
  have R3 := Blk.start w2 #[.int .i64 1, .int .i64 2] 25
  have r0 : (w2.alloc (.cells #[.int .i64 1, .int .i64 2] 25)).cell? ⟨w2.heap.size, 0, none⟩ = some (.int .i64 1) := R3.cell 0
  have r1 : (w2.alloc (.cells #[.int .i64 1, .int .i64 2] 25)).cell? ⟨w2.heap.size, 1, none⟩ = some (.int .i64 2) := R3.cell 1
  clear R3
  generalize hw3 : w2.alloc (.cells #[.int .i64 1, .int .i64 2] 25) = w3 at *
  cases hk : (k != 0)
  · cases hp : (p == 3)
    · rcases tail i with ⟨e, he, hc⟩ | ⟨u, v, z, q, hc⟩
      · have ne : (e != 0) = true := by simpa using he
        clear he tail
        go_upto_region 9 with (go_at_call 7; (with_reducible refine (hc _ T3.out).mono ?_); rintro e' w4 ⟨rfl, hb⟩)
        have L4 := Lib.hid (L3.out.trans ((hb.trans ((below_alloc2 w4 (.cells (permC 0 0 0 0 0) 28) (.cells (permC 0 0 0 0 0) 28)).mono hb.size)).mono L3.out.size))
        clear hb hc
        go_wp2_with fail
        go_ret
        exact ⟨rfl, L4.out⟩
      · clear tail
        go_upto_region 9 with (go_at_call 7; (with_reducible refine (hc _ T3.out).mono ?_); rintro e' w4 ⟨rfl, hb⟩)
        have a5 := hb.trans ((below_alloc2 w4 (.cells (permC z u v r q) 28) (.cells (permC p u v r q) 28)).mono hb.size)
        have L4 := Lib.hid (L3.out.trans (a5.mono L3.out.size))
        obtain ⟨⟨e0, e1, e2, e3, e4⟩, _⟩ := five_cells (P3.out.keep a5)
        clear hb hc a5
        go_wp2_with fail
        go_ret
        exact ⟨rfl, L4.out⟩
    · rcases tail 0 with ⟨e, he, hc⟩ | ⟨u, v, z, q, hc⟩
      · have ne : (e != 0) = true := by simpa using he
        clear he tail
        go_upto_region 9 with (go_at_call 7; (with_reducible refine (hc _ T3.out).mono ?_); rintro e' w4 ⟨rfl, hb⟩)
        have L4 := Lib.hid (L3.out.trans ((hb.trans ((below_alloc2 w4 (.cells (permC 0 0 0 0 0) 28) (.cells (permC 0 0 0 0 0) 28)).mono hb.size)).mono L3.out.size))
        clear hb hc
        go_wp2_with fail
        go_ret
        exact ⟨rfl, L4.out⟩
      · clear tail
        go_upto_region 9 with (go_at_call 7; (with_reducible refine (hc _ T3.out).mono ?_); rintro e' w4 ⟨rfl, hb⟩)
        have a5 := hb.trans ((below_alloc2 w4 (.cells (permC z u v r q) 28) (.cells (permC p u v r q) 28)).mono hb.size)
        have L4 := Lib.hid (L3.out.trans (a5.mono L3.out.size))
        obtain ⟨⟨e0, e1, e2, e3, e4⟩, _⟩ := five_cells (P3.out.keep a5)
        clear hb hc a5
        go_wp2_with fail
        go_ret
        exact ⟨rfl, L4.out⟩
  · rcases tail 0 with ⟨e, he, hc⟩ | ⟨u, v, z, q, hc⟩
    · have ne : (e != 0) = true := by simpa using he
      clear he tail
      go_upto_region 9 with (go_at_call 7; (with_reducible refine (hc _ T3.out).mono ?_); rintro e' w4 ⟨rfl, hb⟩)
      have L4 := Lib.hid (L3.out.trans ((hb.trans ((below_alloc2 w4 (.cells (permC 0 0 0 0 0) 28) (.cells (permC 0 0 0 0 0) 28)).mono hb.size)).mono L3.out.size))
      clear hb hc
      go_wp2_with fail
      go_ret
      exact ⟨rfl, L4.out⟩
    · clear tail
      go_upto_region 9 with (go_at_call 7; (with_reducible refine (hc _ T3.out).mono ?_); rintro e' w4 ⟨rfl, hb⟩)
      have a5 := hb.trans ((below_alloc2 w4 (.cells (permC z u v r q) 28) (.cells (permC p u v r q) 28)).mono hb.size)
      have L4 := Lib.hid (L3.out.trans (a5.mono L3.out.size))
      obtain ⟨⟨e0, e1, e2, e3, e4⟩, _⟩ := five_cells (P3.out.keep a5)
      clear hb hc a5
      go_wp2_with fail
      go_ret
      exact ⟨rfl, L4.out⟩
theorem permhalves_all (w : World) (ht : RestTab w) (k n d r s : Int) (h1 : -9223372036854775808 ≤ n) (h2 : n ≤ 9223372036854775807) (h3 : -9223372036854775808 ≤ d) (h4 : d ≤ 9223372036854775807) (a : Int) (ha : (Lit.int .u8 a).wf = true) (i : Int) (hi : (Lit.int .u8 i).wf = true) :
    Calls Tryd.prog 4 #[permV k n d r s, .int .u8 a, .int .u8 i] w fun e w' => e = .returned (.bool true) ∧ Below w.heap.size w w' :=
  permhalves_any w ht k n d r s a i h1 h2 h3 h4 (wf_u8P ha).1 (wf_u8P ha).2 (wf_u8P hi).1 (wf_u8P hi).2
end Go.Proofs.YthlogaenbnhobaaDoor
