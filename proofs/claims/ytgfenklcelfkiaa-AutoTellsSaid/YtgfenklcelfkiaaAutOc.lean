/-
  The walk of package auto's Ops. (Template: by-name.py fills it.)
-/
import Derived.Test.YtgfenklcelfkiaaAutOb
namespace Go.Proofs.Ytgfenklcelfkiaa
open Go.RowKit

set_option maxRecDepth 10000 in
set_option maxHeartbeats 8000000 in
theorem ops_any (w : World) (a : Nat) (p : Pro) (h : AutAt w a p) (hz : SzP p) :
    Calls Try.prog 11 #[.pointer (some ⟨a, 0, none⟩)] w fun e w' => ∃ v, e = .returned v ∧ TxtOwn w' w.heap.size v (opsL p) ∧ Below w.heap.size w w' := by
  obtain ⟨vs, vm, hB, hP⟩ := h
  obtain ⟨rs, hm, Am, cm, rfl, _, _, hM, hE⟩ := hP.moves
  have hml := moves_len hm
  obtain ⟨i0, hi, hz0, hz1, hz2⟩ := info_parts info_str
  have FA := Lib.hid (fresh_any w)
  have HO := Lib.hid (And.intro hM (And.intro hE (And.intro hm (And.intro hml hz))))
  have c2' := hB.cell 2
  simp only [List.getElem?_toArray, List.getElem?_cons_zero, List.getElem?_cons_succ] at c2'
  have CC := Lib.hid c2'
  clear hP hM hE hm hml hz c2'
  go_enter Try.func11, Try.ntmps11
  go_upto_region 3 with (go_at_call 29; (with_reducible refine FA.out.mono ?_); rintro e w1 ⟨bx, bm, rfl, hf, h1, h2, hb⟩; have c2 := keep_any hb CC.out; have H1 := Lib.hid (NamS.mk (v := .slice none 0 0) (n := 0) (L := []) ⟨[], hf, fun _ => rfl, Nat.le_refl _⟩ (World.ownsRow_nil _ _ _ _) (Nat.le_refl _) (fun k hk => by cases hk) hb ⟨h1, h2⟩); clear hf h1 h2 hb; unfold frF)
  go_wp2_with fail
  go_loopg [3, 14] rs.length (fun g v3 v14 wr => ∃ k : Nat, v14 = .int .i64 k ∧ k ≤ rs.length ∧ g = rs.length - k ∧ NamS w wr bx bm v3 k ((p.moves.take k).foldl (fun L m => addL L m.op) []))
  case atStart => exact ⟨0, rfl, Nat.zero_le _, rfl, H1.out⟩
  case round =>
    obtain ⟨k, rfl, hk, hg, hN⟩ := hrel
    by_cases hkn : k = rs.length
    · have j1 : decide (k < rs.length) = false := decide_eq_false (by omega)
      have FIN := Lib.hid (show TxtOwn wr w.heap.size u3 (opsL p) ∧ Below w.heap.size w wr by
        have e : k = p.moves.length := by rw [hkn]; exact HO.out.2.2.2.1
        rw [e, List.take_length] at hN
        exact ⟨hN.own, hN.below⟩)
      clear hk hg hN hkn
      go_wp2_with fail
      go_ret
      exact ⟨_, rfl, FIN.out⟩
    · have hlt : k < rs.length := by omega
      obtain ⟨x, hx⟩ : ∃ x, rs[k]? = some x := ⟨_, List.getElem?_eq_getElem hlt⟩
      obtain ⟨ao, rfl, d0, d1, d2⟩ := sl_cell3 mvC_len HO.out.1 hN.below hx (by omega)
      unfold mvC at d0 d1 d2
      simp only [List.getElem?_cons_zero, List.getElem?_cons_succ] at d0 d1 d2
      have nx := opM_next (moves_at HO.out.2.2.1 hx)
      have hs := (HO.out.2.1 x (List.mem_of_getElem? hx)).1
      obtain ⟨Ao, co, eo, _⟩ := (HO.out.2.1 x (List.mem_of_getElem? hx)).2.len
      obtain ⟨vo, op, at_, outs⟩ := x
      dsimp only at nx hs d0 d1 d2 eo
      subst eo
      generalize (p.moves.take k).foldl (fun L m => addL L m.op) [] = M at *
      have a5 := below_alloc1 wr (.cells #[txt op, .int .i64 at_, .slice Ao outs.length co] 43)
      have B5 := Blk.start wr #[txt op, .int .i64 at_, .slice Ao outs.length co] 43
      have N5 := hN.keep a5
      have r1 := B5.cell 0
      simp only [List.getElem?_toArray, List.getElem?_cons_zero] at r1
      have AK := Lib.hid (nam_ask N5 op (by have := HO.out.2.2.2.1; have := HO.out.2.2.2.2.mv; omega) hs)
      have j1 : (k : Int) < (rs.length : Int) := by omega
      have j2 : (0 : Int) ≤ (k : Int) := by omega
      have kb : k ≤ 80 := by have := HO.out.2.2.2.1; have := HO.out.2.2.2.2.mv; omega
      have wk : IntKind.i64.wrap ((k : Int) + 1) = (k : Int) + 1 := IntWalk.i64_in _ (by omega)
      have ML := show bm < wr.heap.size from by obtain ⟨_, hh, _⟩ := hN.fre; exact hh.map.lt
      have HK := Lib.hid (And.intro hlt (And.intro hg (And.intro nx (And.intro kb (And.intro B5 ML)))))
      clear hkn hlt hk hg hN hx nx hs a5 B5 N5 ML kb
      generalize hc : M.contains op = C at *
      have HC := Lib.hid hc
      clear hc
      cases C
      · go_upto_region 7 with (go_at_call 52; (refine AK.out.mono ?_); rintro e w1 ⟨rfl, hT, hg1⟩; have H1 := Lib.hid (And.intro hT hg1); clear hT hg1)
        clear r1 d0 d1 d2
        have q1 := HK.out.2.2.2.2.1.grown H1.out.2 (fun e => by injection e with e; have := HK.out.2.2.2.2.2; omega)
        have r1 := q1.cell 0
        simp only [List.getElem?_toArray, List.getElem?_cons_zero] at r1
        clear q1
        obtain ⟨Av, cv, e2⟩ := own_shape H1.out.1.own
        subst e2
        have OWN : (w1.alloc (.cells #[txt op] 9)).ownsRow w.heap.size 9 1 (.slice Av M.length cv) M.length (M.map txt) := ownRow_below H1.out.1.own (below_alloc1 w1 _)
        go_wp2_with (at_builtin; (refine wpList_append_any _ rfl _ _ 35 rfl _ 9 i0 (.string ⟨#[]⟩) 1 16 Try.underlying35 hi hz0 hz1 hz2 rfl (by decide) _ M.length (M.map txt) rfl OWN (w1.heap.size + 1) (some ⟨w1.heap.size, 0, none⟩) 1 1 [txt op] rfl (reads_one _ _ _) ?c2 ?c3 ?c4 ?c5 ?_))
        case c2 => intro u hu; rw [List.mem_singleton] at hu; subst hu; rfl
        case c3 => have := H1.out.1.len; have := HK.out.2.2.2.1; unfold maxLen; omega
        case c4 => have := H1.out.1.len; have := HK.out.2.2.2.1; omega
        case c5 => have := H1.out.1.below.size; rw [World.size_alloc]; omega
        intro v9 w3 hown hgrow hlies
        have a6 := below_alloc1 w1 (.cells #[txt op] 9)
        have NX := Lib.hid ((H1.out.1.keep a6).put HC.out hown hgrow (by rw [World.size_alloc]; exact hlies))
        clear hown hgrow hlies a6 OWN
        go_wp2_with fail
        go_roundg (rs.length - (k + 1))
        case measure => have := HK.out.1; have := HK.out.2.1; omega
        case rel =>
          refine ⟨k + 1, by push_cast; rfl, HK.out.1, rfl, ?_⟩
          rw [HK.out.2.2.1]
          exact NX.out
      · go_wp2_with (go_at_call 52; (refine AK.out.mono ?_); rintro e w1 ⟨rfl, hT, hg1⟩; have H1 := Lib.hid (And.intro hT hg1); clear hT hg1)
        go_roundg (rs.length - (k + 1))
        case measure => have := HK.out.1; have := HK.out.2.1; omega
        case rel =>
          refine ⟨k + 1, by push_cast; rfl, HK.out.1, rfl, ?_⟩
          rw [HK.out.2.2.1]
          exact H1.out.1.old HC.out
end Go.Proofs.Ytgfenklcelfkiaa
