/-
  The walks of the reference's add, Ops and Outcomes. (Template: by-name.py fills it.)
-/
import Derived.Test.YtgfenklcelfkiaaAutTb
namespace Go.Proofs.Ytgfenklcelfkiaa
open Go.RowKit

set_option maxRecDepth 10000 in
set_option maxHeartbeats 8000000 in
theorem radd_any (w : World) (B : Nat) (v : Value) (L : List (List UInt8)) (s : List UInt8) (h : TxtOwn w B v L) (hl : L.length ≤ 100000) (hB : B ≤ w.heap.size) :
    Calls Try.prog 30 #[v, txt s] w fun e w' => ∃ v', e = .returned v' ∧ TxtOwn w' B v' (addL L s) ∧ Below B w w' := by
  obtain ⟨A, c, rfl⟩ := own_shape h
  obtain ⟨i0, hi, hz0, hz1, hz2⟩ := info_parts info_str
  have HO := Lib.hid (And.intro h (And.intro hl hB))
  clear h hl hB
  go_enter Try.func30, Try.ntmps30
  go_wp2_with fail
  go_loopg [5] L.length (fun g v5 wr => ∃ k : Nat, v5 = .int .i64 k ∧ k ≤ L.length ∧ g = L.length - k ∧ (∀ t ∈ L.take k, t ≠ s) ∧ wr = w)
  case atStart => exact ⟨0, rfl, Nat.zero_le _, rfl, (fun t ht => by cases ht), rfl⟩
  case round =>
    obtain ⟨k, rfl, hk, hg, hall, rfl⟩ := hrel
    by_cases hkn : k = L.length
    · have j1 : decide (k < L.length) = false := decide_eq_false (by omega)
      have NI := Lib.hid (show addL L s = L ++ [s] by
        rw [hkn, List.take_length] at hall
        unfold addL
        rw [if_neg]
        intro c
        exact hall s (List.contains_iff_mem.mp c) rfl)
      clear hk hg hall hkn
      have OWN : (wr.alloc (.cells #[txt s] 9)).ownsRow B 9 1 (.slice A L.length c) L.length (L.map txt) := ownRow_below HO.out.1 (below_alloc1 wr _)
      go_wp2_with (at_builtin; (refine wpList_append_any _ rfl _ _ 35 rfl _ 9 i0 (.string ⟨#[]⟩) 1 16 Try.underlying35 hi hz0 hz1 hz2 rfl (by decide) _ L.length (L.map txt) rfl OWN (wr.heap.size + 1) (some ⟨wr.heap.size, 0, none⟩) 1 1 [txt s] rfl (reads_one _ _ _) ?c2 ?c3 ?c4 ?c5 ?_))
      case c2 => intro u hu; rw [List.mem_singleton] at hu; subst hu; rfl
      case c3 => have := HO.out.2.1; unfold maxLen; omega
      case c4 => have := HO.out.2.1; omega
      case c5 => have := HO.out.2.2; rw [World.size_alloc]; omega
      intro v9 w3 hown hgrow hlies
      have R := Lib.hid (And.intro hown hgrow)
      clear hown hgrow hlies OWN
      go_wp2_with fail
      go_ret
      refine ⟨_, rfl, ?_, ((below_alloc1 wr _).mono HO.out.2.2).trans (grown_below_of R.out.2 (by rw [World.size_alloc]; have := HO.out.2.2; omega) (fun k hk => (HO.out.1.lt k hk).1))⟩
      rw [NI.out]
      unfold TxtOwn
      rw [List.length_append, List.length_singleton, List.map_append]
      exact R.out.1
    · have hlt : k < L.length := by omega
      obtain ⟨x, hx⟩ : ∃ x, L[k]? = some x := ⟨_, List.getElem?_eq_getElem hlt⟩
      obtain ⟨g, cp, e3, _⟩ := World.ownsRow.form HO.out.1 (by omega)
      injection e3 with e3 _ e4
      subst e3 e4
      have d0 := (World.ownsRow.cellAt HO.out.1 k (by omega)).trans (show (L.map txt)[k]? = some (txt x) by rw [List.getElem?_map, hx]; rfl)
      have j1 : (k : Int) < (L.length : Int) := by omega
      have j2 : (0 : Int) ≤ (k : Int) := by omega
      have wk : IntKind.i64.wrap ((k : Int) + 1) = (k : Int) + 1 := IntWalk.i64_in _ (by have := HO.out.2.1; omega)
      by_cases q : x = s
      · have t1 : (x == s) = true := beq_iff_eq.mpr q
        have NI := Lib.hid (show addL L s = L by unfold addL; rw [if_pos (List.contains_iff_mem.mpr (q ▸ List.mem_of_getElem? hx))])
        clear hkn hlt hk hg hall hx q
        go_wp2_with fail
        go_ret
        exact ⟨_, rfl, by rw [NI.out]; exact HO.out.1, Below.refl _ _⟩
      · have t1 : (x == s) = false := beq_eq_false_iff_ne.mpr q
        have nx : ∀ t ∈ L.take (k + 1), t ≠ s := fun t ht => by
          rw [List.take_add_one, hx, List.mem_append] at ht
          rcases ht with ht | ht
          · exact hall t ht
          · have : t = x := by simpa using ht
            rw [this]; exact q
        have HK := Lib.hid (And.intro hlt (And.intro hg nx))
        clear hkn hlt hk hg hall hx q nx
        go_wp2_with fail
        go_roundg (L.length - (k + 1))
        case measure => have := HK.out.1; have := HK.out.2.1; omega
        case rel => exact ⟨k + 1, by push_cast; rfl, HK.out.1, rfl, HK.out.2.2, rfl⟩
set_option maxRecDepth 10000 in
set_option maxHeartbeats 8000000 in
theorem rops_any (w : World) (vs vm : Value) (p : Pro) (h : ProAt w vs vm p) (hz : SzP p) :
    Calls Try.prog 12 #[proV vs vm p] w fun e w' => ∃ v, e = .returned v ∧ TxtOwn w' w.heap.size v (opsL p) ∧ Below w.heap.size w w' := by
  obtain ⟨As, cs, rfl, _⟩ := h.states.len
  obtain ⟨rs, hm, Am, cm, rfl, _, _, hM, hE⟩ := h.moves
  have hml := moves_len hm
  have a1 := below_alloc1 w (.cells #[txt p.name, .slice As p.states.length cs, .slice Am rs.length cm] 25)
  have B1 := Blk.start w #[txt p.name, .slice As p.states.length cs, .slice Am rs.length cm] 25
  have HO := Lib.hid (And.intro hM (And.intro hE (And.intro hm (And.intro hz (And.intro hml (And.intro a1 B1))))))
  have WS := Lib.hid (World.size_alloc w (.cells #[txt p.name, .slice As p.states.length cs, .slice Am rs.length cm] 25))
  clear h hm hM hE hz hml a1 B1
  go_enter Try.func12, Try.ntmps12
  go_upto_region 1 with fail
  generalize w.alloc (.cells #[txt p.name, .slice As p.states.length cs, .slice Am rs.length cm] 25) = W at *
  go_wp2_with fail
  go_loopg [3, 4] rs.length (fun g v3 v4 wr => ∃ k : Nat, v4 = .int .i64 k ∧ k ≤ rs.length ∧ g = rs.length - k ∧ TxtOwn wr W.heap.size v3 ((p.moves.take k).foldl (fun L m => addL L m.op) []) ∧ Below W.heap.size W wr)
  case atStart => exact ⟨0, rfl, Nat.zero_le _, rfl, World.ownsRow_nil _ _ _ _, Below.refl _ _⟩
  case round =>
    obtain ⟨k, rfl, hk, hg, hT, hb⟩ := hrel
    have c2 := (HO.out.2.2.2.2.2.2.keep hb).cell 2
    simp only [List.getElem?_toArray, List.getElem?_cons_zero, List.getElem?_cons_succ] at c2
    by_cases hkn : k = rs.length
    · have j1 : decide (k < rs.length) = false := decide_eq_false (by omega)
      have FIN := Lib.hid (show TxtOwn wr w.heap.size u3 (opsL p) ∧ Below w.heap.size w wr by
        have e : k = p.moves.length := by rw [hkn]; exact HO.out.2.2.2.2.1
        rw [e, List.take_length] at hT
        have := WS.out
        exact ⟨own_less hT (by omega), HO.out.2.2.2.2.2.1.trans (hb.mono (by omega))⟩)
      clear hk hg hT hb hkn
      go_wp2_with fail
      go_ret
      exact ⟨_, rfl, FIN.out⟩
    · have hlt : k < rs.length := by omega
      obtain ⟨x, hx⟩ : ∃ x, rs[k]? = some x := ⟨_, List.getElem?_eq_getElem hlt⟩
      have b0 := HO.out.2.2.2.2.2.1.trans (hb.mono (by have := WS.out; omega))
      obtain ⟨ao, rfl, d0, d1, d2⟩ := sl_cell3 mvC_len HO.out.1 b0 hx (by omega)
      unfold mvC at d0 d1 d2
      simp only [List.getElem?_cons_zero, List.getElem?_cons_succ] at d0 d1 d2
      have nx := opM_next (moves_at HO.out.2.2.1 hx)
      have ll := opMs_len (p.moves.take k) []
      obtain ⟨vo, op, at_, outs⟩ := x
      dsimp only at nx d0
      generalize (p.moves.take k).foldl (fun L m => addL L m.op) [] = M at *
      have j1 : (k : Int) < (rs.length : Int) := by omega
      have j2 : (0 : Int) ≤ (k : Int) := by omega
      have kb : k ≤ 80 := by have := HO.out.2.2.2.1.mv; have := HO.out.2.2.2.2.1; omega
      have wk : IntKind.i64.wrap ((k : Int) + 1) = (k : Int) + 1 := IntWalk.i64_in _ (by omega)
      have AD := Lib.hid (radd_any wr W.heap.size u3 M op hT (by rw [List.length_nil, List.length_take] at ll; omega) hb.size)
      have HK := Lib.hid (And.intro hlt (And.intro hg (And.intro nx hb)))
      clear hkn hlt hk hg hb b0 hx nx ll hT d1 d2
      go_wp2_with (go_at_call 30; (refine AD.out.mono ?_); rintro e w1 ⟨v', rfl, hT1, hb1⟩; have H1 := Lib.hid (And.intro hT1 hb1); clear hT1 hb1)
      go_roundg (rs.length - (k + 1))
      case measure => have := HK.out.1; have := HK.out.2.1; omega
      case rel =>
        refine ⟨k + 1, by push_cast; rfl, HK.out.1, rfl, ?_, HK.out.2.2.2.trans H1.out.2⟩
        rw [HK.out.2.2.1]
        exact H1.out.1
end Go.Proofs.Ytgfenklcelfkiaa
