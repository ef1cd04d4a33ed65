/-
  The walk of Show. (Template: by-name.py fills it.)
-/
import Derived.Test.YthihdddlneclmaaDoorJShoZ
import Derived.Test.YthihdddlneclmaaDoorJShoZb
import Derived.Test.YthihdddlneclmaaDoorJTreV
import Derived.Lib.BufferRead
namespace Go.Proofs.YthihdddlneclmaaDoor
open Go.RowKit

theorem item_each (w0 : World) (ns : List Nd) (T : PTabs w0) (f : Nat) (hf : f ≤ 1500) : Each 9 w0 ns 0 (ItemOk ns f) (itemT ns f) := by
  intro w bp t vn x h hN hx hok hl
  rcases hok with ⟨hk, ⟨s, hn⟩, hok⟩ | ⟨hk, ⟨s, hn⟩, l, k, hks, hol, hok⟩
  · exact item_proto w0 w bp t vn ns f x h hN hx hk s hn hok hl
  · obtain ⟨m, rfl, hm, hok⟩ := kid_nat hok
    exact item_fn w0 w bp t vn ns f x h hN hx T.kinds T.names T.ten _ (stmt_each w0 ns T f 1 (by omega)) hk s hn l m hks hol hm hok hl
theorem conv_text {w : World} {base : Nat} {t : Txt} {v : Value} (h : w.ownsRow base 5 1 v t.length (u8s t)) : (convert 32 9 v).run Tryd.prog w = .ok (txt t) w := by
  obtain ⟨_, ⟨rfl, hn⟩ | ⟨g, cap, cur, rfl, _, hg, _, _, _, htk⟩⟩ := h
  · obtain rfl : t = [] := List.length_eq_zero_iff.mp hn
    exact Lib.run_convert_nil_bytes w _ _ 5 0 Tryd.underlying32 Tryd.underlying5 Tryd.underlying9
  · refine run_convert_bytes_back w _ _ 5 ⟨g, 0, none⟩ cap t Tryd.underlying32 Tryd.underlying5 Tryd.underlying9 (Lib.bytes_of_row hg ?_)
    rw [← strCells_bytes]
    simpa using htk
set_option maxRecDepth 10000 in
set_option maxHeartbeats 8000000 in
theorem show_any (w : World) (v : Value) (ns : List Nd) (hN : NodesAt w v ns) (hk : StrRow w 3 keysL) (T : PTabs w) (hl : (showT ns).length + 10000 ≤ 140737488355328) :
    Calls Tryd.prog 6 #[v] w fun e w' => e = .returned (txt (showT ns)) ∧ Below w.heap.size w w' := by
  have RG := Lib.hid (right_of valid_any w v ns hN hk)
  obtain ⟨An, cn, rs, rfl, hR0⟩ := id hN
  have hR1 := Lib.hid hR0
  clear hR0
  cases hr : rightN ns
  · rw [hr] at RG
    have e0 : showT ns = [] := by unfold showT; rw [hr]; rfl
    rw [e0]
    clear hl T hk hN hr e0
    go_enter Tryd.func6, Tryd.ntmps6
    go_wp2_with (go_at_call 7; (with_reducible refine RG.out.mono ?_); rintro e w1 ⟨rfl, hb⟩; have HB := Lib.hid hb; clear hb)
    go_ret
    exact ⟨rfl, HB.out⟩
  · rw [hr] at RG
    have R := right_says hr
    have e0 : showT ns = linesT 0 ((ndAt ns 0).kids.map fun k => itemT ns ns.length (ndAt ns k)) := by unfold showT; rw [hr]; rfl
    rw [e0] at hl ⊢
    have OK := Lib.hid (item_right R)
    have hnl := R.some_
    have h1500 := R.len
    obtain ⟨d, hd⟩ : ∃ d, ns[0]? = some d := ⟨_, List.getElem?_eq_getElem hnl⟩
    have ed : ndAt ns 0 = d := ndAtS (k := 0) hd
    rw [ed] at hl OK ⊢
    obtain ⟨r, hr0⟩ : ∃ r, rs[0]? = some r := ⟨_, List.getElem?_eq_getElem (by have := congrArg List.length hR1.out.2.2.1; rw [List.length_map] at this; omega)⟩
    obtain rfl : r.2 = d := by
      have : ns[0]? = some r.2 := by rw [← hR1.out.2.2.1, List.getElem?_map, hr0]; rfl
      exact Option.some.inj (this.symm.trans hd)
    obtain ⟨⟨vw, vu, vk⟩, kd, ws, nums, ks, ps⟩ := r
    obtain ⟨hw, hu, hkk⟩ := hR1.out.2.2.2.2 _ (List.mem_of_getElem? hr0)
    dsimp only at hw hu hkk hl OK ⊢
    obtain ⟨Aw, cw, rfl, _⟩ := hw
    obtain ⟨Au, cu, rfl, _⟩ := hu
    obtain ⟨Ak, ck, rfl, hkl, hkm, hK⟩ := hkk
    have i1 : (0 : Int) < (ns.length : Int) := by omega
    have HN := Lib.hid (And.intro hN (And.intro hr0 (And.intro hK (And.intro hkm hkl))))
    have HT := Lib.hid (And.intro T (And.intro hl (And.intro hnl h1500)))
    clear hr R e0 hl T hk hN hd ed hr0 hkl hkm hK hnl h1500
    go_enter Tryd.func6, Tryd.ntmps6
    go_upto_region 3 with (go_at_call 7; (with_reducible refine RG.out.mono ?_); rintro e w1 ⟨rfl, hb⟩; have HB := Lib.hid hb; clear hb)
    go_upto_region 4 with fail
    have a2 := below_alloc1 w1 (.cells #[.slice none 0 0, .int .i64 0, .slice An ns.length cn] 36)
    have B2 : TBlk _ _ _ _ := TBlk.start w1 #[.slice none 0 0, .int .i64 0, .slice An ns.length cn] 36
    generalize hw2 : w1.alloc (.cells #[.slice none 0 0, .int .i64 0, .slice An ns.length cn] 36) = w2 at *
    have P2 := Lib.hid (show PrS w w2 w1.heap.size [] 0 (.slice An ns.length cn) from ⟨⟨_, B2, ⟨rfl, .inl ⟨rfl, rfl⟩⟩⟩, HB.out.trans (a2.mono HB.out.size), HB.out.size⟩)
    clear a2 B2
    obtain ⟨an, rfl, n0, n1, n2, n3, n4⟩ := nodes_cells hR1.out.2.2.2.1 P2.out.below HN.out.2.1 (by omega)
    have ea : an.add (0 * 5) = an := by unfold Addr.add; simp
    rw [ea] at n0 n1 n2 n3 n4
    dsimp only at n0 n1 n2 n3 n4
    have LI := Lib.hid (lines_any _ enters_item w w2 w1.heap.size 0 [] _ ns Ak ck ks _ _ P2.out HN.out.1 (by omega) HN.out.2.2.1 (by have := HN.out.2.2.2; omega) OK.out (item_each w ns HT.out.1 ns.length HT.out.2.2.2) (by have := HT.out.2.1; simpa using this))
    go_upto_region 5 with (go_at_call 8; (refine LI.out.mono ?_); rintro e w3 ⟨rfl, hp, hf⟩; have H3 := Lib.hid hp; clear hp hf)
    obtain ⟨v3, hv3, ho3⟩ := H3.out.box
    have c3 := hv3.blk.cell 0
    simp only [List.getElem?_toArray, List.getElem?_cons_zero] at c3
    have cv := conv_text ho3
    obtain ⟨A3, c3', rfl⟩ := own_shape ho3
    rw [List.nil_append] at cv c3
    clear hv3 ho3 n0 n1 n2 n3 n4
    go_wp2_with fail
    go_ret
    exact ⟨rfl, H3.out.below⟩
end Go.Proofs.YthihdddlneclmaaDoor
