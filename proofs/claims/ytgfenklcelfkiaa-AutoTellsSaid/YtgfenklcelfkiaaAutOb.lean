/-
  The walks of package auto's Outcomes and of the function that it hands on. (Template: by-name.py fills it.)
-/
import Derived.Test.YtgfenklcelfkiaaAutOa
import Derived.Test.YtgfenklcelfkiaaAutU
namespace Go.Proofs.Ytgfenklcelfkiaa
open Go.RowKit

theorem MapS.past {w : World} {b g j : Nat} {u : Value} {L : List (List UInt8)} (h : MapS w b L) (hne : g ≠ b) : MapS (w.setCell ⟨g, j, none⟩ u) b L := h.grown grown_set (fun e => hne (by injection e))
theorem NamS.past {w0 wr : World} {bx bm n g j : Nat} {v u : Value} {L : List (List UInt8)} (h : NamS w0 wr bx bm v n L) (h1 : g ≠ bx) (h2 : g ≠ bm) (h3 : v.ownBlock ≠ some g) (hg : w0.heap.size ≤ g) : NamS w0 (wr.setCell ⟨g, j, none⟩ u) bx bm v n L := by
  obtain ⟨s, f, a, b⟩ := h.fre
  exact ⟨⟨s, ⟨f.box.other h1 _, f.map.past h2⟩, a, b⟩, own_past h.own h3, h.len, h.off, h.below.setCell hg _, h.ge⟩
/-- The box of the function, the box of the row. -/
structure OcS (w0 wr : World) (bf bn bx bm n : Nat) (L : List (List UInt8)) : Prop where
  f : Blk wr bf #[frF bx]
  row : ∃ v, Blk wr bn #[v] ∧ NamS w0 wr bx bm v n L ∧ ∀ k, v.ownBlock = some k → k ≠ bf ∧ k ≠ bn
  ne : bn ≠ bf ∧ bn ≠ bx ∧ bn ≠ bm ∧ bm ≠ bf
  ge : w0.heap.size ≤ bn
theorem OcS.keep {w0 wr w2 : World} {bf bn bx bm n : Nat} {L : List (List UInt8)} (h : OcS w0 wr bf bn bx bm n L) (hb : Below wr.heap.size wr w2) : OcS w0 w2 bf bn bx bm n L := by
  obtain ⟨v, h1, h2, h3⟩ := h.row
  exact ⟨h.f.keep hb, ⟨v, h1.keep hb, h2.keep hb, h3⟩, h.ne, h.ge⟩
theorem OcS.below {w0 wr : World} {bf bn bx bm n : Nat} {L : List (List UInt8)} (h : OcS w0 wr bf bn bx bm n L) : Below w0.heap.size w0 wr := by
  obtain ⟨v, _, h2, _⟩ := h.row
  exact h2.below
theorem OcS.put {w0 wr w2 : World} {bf bn bx bm n : Nat} {v v' : Value} {L : List (List UInt8)} {s : List UInt8} (hf : Blk wr bf #[frF bx]) (hb : Blk wr bn #[v]) (h : NamT w0 wr bx bm v n L s) (ho : ∀ k, v.ownBlock = some k → k ≠ bf ∧ k ≠ bn) (ne : bn ≠ bf ∧ bn ≠ bx ∧ bn ≠ bm ∧ bm ≠ bf) (ge : w0.heap.size ≤ bn)
    (hc : L.contains s = false) (hown : w2.ownsRow w0.heap.size 9 1 v' (L.length + 1) (L.map txt ++ [txt s])) (hg : wr.grownBy w2 v.ownBlock) (hl : v'.ownBlock = v.ownBlock ∨ v'.ownBlock = some wr.heap.size) : OcS w0 (w2.setCell ⟨bn, 0, none⟩ v') bf bn bx bm (n + 1) (addL L s) := by
  have N := h.put hc hown hg hl
  have f2 := hf.grown hg (fun q => (ho bf q).1 rfl)
  have b2 := hb.grown hg (fun q => (ho bn q).2 rfl)
  have l1 := hf.lt
  have l2 := hb.lt
  have o' : ∀ k, v'.ownBlock = some k → k ≠ bf ∧ k ≠ bn := by
    intro k hk
    rcases hl with q | q
    · exact ho k (q ▸ hk)
    · rw [q] at hk
      injection hk with hk
      omega
  exact ⟨f2.other ne.1 _, ⟨v', b2.set 0 v', N.past ne.2.1 ne.2.2.1 (fun q => (o' bn q).2 rfl) ge, o'⟩, ne, ge⟩
theorem info_str : (Try.prog.info? 9).map (fun i => (i.zero, i.size, i.bytes)) = some (some (.string ⟨#[]⟩), 1, 16) := by kernel_rfl
set_option maxRecDepth 10000 in
set_option maxHeartbeats 8000000 in
theorem outc1_any (w0 w : World) (bf bn bx bm n : Nat) (L : List (List UInt8)) (m : Mov) (vo : Value) (h : OcS w0 w bf bn bx bm n L) (ho : OutsAt w0 vo m.outs) (hl : m.outs.length ≤ 80) (hn : n ≤ 10000) :
    Calls Try.prog 33 #[.agg #[txt m.op, .int .i64 m.at_, vo], .pointer (some ⟨bf, 0, none⟩), .pointer (some ⟨bn, 0, none⟩)] w fun e w' => e = .returned (.tuple #[]) ∧ OcS w0 w' bf bn bx bm (n + m.outs.length) (m.outs.foldl (fun L o => addL L o.name) L) := by
  obtain ⟨op, at_, outs⟩ := m
  dsimp only at hl ho ⊢
  obtain ⟨Ao, co, rfl, _, _, hO, hN⟩ := ho
  obtain ⟨i0, hi, hz0, hz1, hz2⟩ := info_parts info_str
  have a1 := below_alloc1 w (.cells #[txt op, .int .i64 at_, .slice Ao outs.length co] 43)
  have B1 := Blk.start w #[txt op, .int .i64 at_, .slice Ao outs.length co] 43
  have S0 := Lib.hid (h.keep a1)
  have HO := Lib.hid (And.intro hO (And.intro hN (And.intro hl hn)))
  clear h hO hN hl hn a1
  go_enter Try.func33, Try.ntmps33
  go_upto_region 1 with fail
  generalize w.alloc (.cells #[txt op, .int .i64 at_, .slice Ao outs.length co] 43) = W at *
  have c2 := B1.cell 2
  simp only [List.getElem?_toArray, List.getElem?_cons_zero, List.getElem?_cons_succ] at c2
  clear B1
  go_wp2_with fail
  go_loopg [9] outs.length (fun g v9 wr => ∃ k : Nat, v9 = .int .i64 k ∧ k ≤ outs.length ∧ g = outs.length - k ∧ OcS w0 wr bf bn bx bm (n + k) ((outs.take k).foldl (fun L o => addL L o.name) L))
  case atStart => exact ⟨0, rfl, Nat.zero_le _, rfl, S0.out⟩
  case round =>
    obtain ⟨k, rfl, hk, hg, hS⟩ := hrel
    by_cases hkn : k = outs.length
    · have j1 : decide (k < outs.length) = false := decide_eq_false (by omega)
      have FIN := Lib.hid (show OcS w0 wr bf bn bx bm (n + outs.length) (outs.foldl (fun L o => addL L o.name) L) by rw [hkn, List.take_length] at hS; exact hS)
      clear hk hg hS hkn
      go_wp2_with fail
      go_end0
      exact ⟨rfl, FIN.out⟩
    · have hlt : k < outs.length := by omega
      obtain ⟨x, hx⟩ : ∃ x, outs[k]? = some x := ⟨_, List.getElem?_eq_getElem hlt⟩
      obtain ⟨ao, rfl, d0, d1⟩ := sl_cell2 ouC_len HO.out.1 hS.below hx (by omega)
      unfold ouC at d0 d1
      simp only [List.getElem?_cons_zero, List.getElem?_cons_succ] at d0 d1
      have nx := outO_next L hx
      have hs := HO.out.2.1 x (List.mem_of_getElem? hx)
      obtain ⟨xn, xt⟩ := x
      dsimp only at nx hs d0 d1
      generalize (outs.take k).foldl (fun L o => addL L o.name) L = M at *
      have a5 := below_alloc1 wr (.cells #[txt xn, .int .i64 xt] 69)
      have B5 := Blk.start wr #[txt xn, .int .i64 xt] 69
      have S5 := hS.keep a5
      have b5 := wr.heap.size
      obtain ⟨v, hb, hN, hv⟩ := S5.row
      have r0 := S5.f.cell 0
      have r1 := B5.cell 0
      unfold frF at r0
      simp only [List.getElem?_toArray, List.getElem?_cons_zero] at r0 r1
      have AK := Lib.hid (nam_ask hN xn (by have := HO.out.2.2.1; have := HO.out.2.2.2; omega) hs)
      have j1 : (k : Int) < (outs.length : Int) := by omega
      have j2 : (0 : Int) ≤ (k : Int) := by omega
      have wk : IntKind.i64.wrap ((k : Int) + 1) = (k : Int) + 1 := IntWalk.i64_in _ (by have := HO.out.2.2.1; omega)
      have ML := show bm < wr.heap.size from by obtain ⟨_, hh, _⟩ := hS.row.choose_spec.2.1.fre; exact hh.map.lt
      have HK := Lib.hid (And.intro hlt (And.intro hg (And.intro nx (And.intro S5 (And.intro B5 (And.intro hb (And.intro hv ML)))))))
      clear hkn hlt hk hg hS hx nx hs a5 b5 S5 B5 hN hb hv ML
      generalize hc : M.contains xn = C at *
      have HC := Lib.hid hc
      clear hc
      cases C
      · go_upto_region 5 with (go_at_call 52; (refine AK.out.mono ?_); rintro e w1 ⟨rfl, hT, hg1⟩; have H1 := Lib.hid (And.intro hT hg1); clear hT hg1)
        clear r0 r1 d0 d1
        have q0 := HK.out.2.2.2.1.f.grown H1.out.2 (fun e => by injection e with e; exact HK.out.2.2.2.1.ne.2.2.2 e)
        have q1 := HK.out.2.2.2.2.1.grown H1.out.2 (fun e => by injection e with e; have := HK.out.2.2.2.2.2.2.2; omega)
        have q2 := HK.out.2.2.2.2.2.1.grown H1.out.2 (fun e => by injection e with e; exact HK.out.2.2.2.1.ne.2.2.1 e.symm)
        have r0 := q1.cell 0
        have r1 := q2.cell 0
        simp only [List.getElem?_toArray, List.getElem?_cons_zero] at r0 r1
        have H2 := Lib.hid (And.intro q0 (And.intro q1 q2))
        clear q0 q1 q2
        obtain ⟨Av, cv, e2⟩ := own_shape H1.out.1.own
        subst e2
        have OWN : (w1.alloc (.cells #[txt xn] 9)).ownsRow w0.heap.size 9 1 (.slice Av M.length cv) M.length (M.map txt) := ownRow_below H1.out.1.own (below_alloc1 w1 _)
        go_wp2_with (at_builtin; (refine wpList_append_any _ rfl _ _ 35 rfl _ 9 i0 (.string ⟨#[]⟩) 1 16 Try.underlying35 hi hz0 hz1 hz2 rfl (by decide) _ M.length (M.map txt) rfl OWN (w1.heap.size + 1) (some ⟨w1.heap.size, 0, none⟩) 1 1 [txt xn] rfl (reads_one _ _ _) ?c2 ?c3 ?c4 ?c5 ?_))
        case c2 => intro u hu; rw [List.mem_singleton] at hu; subst hu; rfl
        case c3 => have := H1.out.1.len; have := HK.out.1; have := HO.out.2.2; unfold maxLen; omega
        case c4 => have := H1.out.1.len; have := HK.out.1; have := HO.out.2.2; omega
        case c5 => have := H1.out.1.below.size; rw [World.size_alloc]; omega
        intro v9 w3 hown hgrow hlies
        obtain ⟨A9, c9, rfl⟩ := own_shape hown
        have a6 := below_alloc1 w1 (.cells #[txt xn] 9)
        have NX := Lib.hid (OcS.put (H2.out.1.keep a6) (H2.out.2.2.keep a6) (H1.out.1.keep a6) HK.out.2.2.2.2.2.2.1 HK.out.2.2.2.1.ne HK.out.2.2.2.1.ge HC.out hown hgrow (by rw [World.size_alloc]; exact hlies))
        have r1 := (H2.out.2.2.keep a6).grown hgrow (fun q => (HK.out.2.2.2.2.2.2.1 bn q).2 rfl)
        have r2 := r1.cell 0
        have r3 := r1.free 0
        simp only [List.getElem?_toArray, List.getElem?_cons_zero] at r2
        clear r1 hown hgrow hlies a6
        go_wp2_with fail
        go_roundg (outs.length - (k + 1))
        case measure => have := HK.out.1; have := HK.out.2.1; omega
        case rel =>
          refine ⟨k + 1, by push_cast; rfl, HK.out.1, rfl, ?_⟩
          rw [HK.out.2.2.1, ← Nat.add_assoc]
          exact NX.out
      · go_wp2_with (go_at_call 52; (refine AK.out.mono ?_); rintro e w1 ⟨rfl, hT, hg1⟩; have H1 := Lib.hid (And.intro hT hg1); clear hT hg1)
        go_roundg (outs.length - (k + 1))
        case measure => have := HK.out.1; have := HK.out.2.1; omega
        case rel =>
          refine ⟨k + 1, by push_cast; rfl, HK.out.1, rfl, ?_⟩
          rw [HK.out.2.2.1, ← Nat.add_assoc]
          exact ⟨HK.out.2.2.2.1.f.grown H1.out.2 (fun e => by injection e with e; exact HK.out.2.2.2.1.ne.2.2.2 e), ⟨v, HK.out.2.2.2.2.2.1.grown H1.out.2 (fun e => by injection e with e; exact HK.out.2.2.2.1.ne.2.2.1 e.symm), H1.out.1.old HC.out, HK.out.2.2.2.2.2.2.1⟩, HK.out.2.2.2.1.ne, HK.out.2.2.2.1.ge⟩
set_option maxRecDepth 10000 in
set_option maxHeartbeats 8000000 in
theorem outcomes_any (w : World) (a : Nat) (p : Pro) (h : AutAt w a p) (hz : SzP p) (op : List UInt8) :
    Calls Try.prog 15 #[.pointer (some ⟨a, 0, none⟩), txt op] w fun e w' => ∃ v, e = .returned v ∧ TxtOwn w' w.heap.size v (outcomesL p op) ∧ Below w.heap.size w w' := by
  obtain ⟨vs, vm, hB, hP⟩ := h
  obtain ⟨rs, hm, Am, cm, rfl, _, _, hM, hE⟩ := hP.moves
  have hml := moves_len hm
  have a1 := below_alloc1 w (.cells #[.slice none 0 0] 35)
  have B1 := Blk.start w #[.slice none 0 0] 35
  have EC := Lib.hid (fun (bf bx bm : Nat) (v : World) (h0 : OcS w v bf w.heap.size bx bm 0 []) => each_outcomes w v a bf w.heap.size p.name vs Am cm op rs (fun k v => OcS w v bf w.heap.size bx bm (80 * k) ((p.moves.take k).foldl (outM op) [])) (hB.keep h0.below) hM (fun x hx => (hE x hx).2) (by have := hz.mv; omega) h0.below (by simpa using h0)
    (fun k x wr hx hb hr => by
      have hk : k < p.moves.length := by rw [← hml]; exact (List.getElem?_eq_some_iff.1 hx).1
      have ho := hz.out x.2 (List.mem_of_getElem? (moves_at hm hx))
      have nx := outM_next op (moves_at hm hx)
      have mo : ∀ {v' : World} {n n' : Nat} {L : List (List UInt8)}, n ≤ n' → OcS w v' bf w.heap.size bx bm n L → OcS w v' bf w.heap.size bx bm n' L := fun hn h => by
        obtain ⟨u, h1, h2, h3⟩ := h.row
        exact ⟨h.f, ⟨u, h1, h2.more hn, h3⟩, h.ne, h.ge⟩
      refine ⟨fun he => ((outc1_any w wr bf w.heap.size bx bm (80 * k) _ x.2 x.1 hr ((hE x (List.mem_of_getElem? hx)).2) ho (by have := hz.mv; omega)).mono fun e v ⟨h1, h2⟩ => ⟨h1, h2.below, ?_⟩), fun he => ?_⟩
      · rw [nx]
        unfold outM
        rw [if_pos he]
        exact mo (by omega) h2
      · rw [nx]
        unfold outM
        rw [if_neg he]
        exact mo (by omega) hr) (fun k w1 w2 hr hb => hr.keep hb))
  have ev : (p.moves.take rs.length).foldl (outM op) [] = outcomesL p op := by unfold outcomesL; rw [hml, List.take_length]
  rw [ev] at EC
  have H0 := Lib.hid (And.intro a1 B1)
  clear hB hP hm hM hE hml a1 B1 hz ev
  generalize outcomesL p op = R at *
  have hmf := mkF
  have hsf := stF
  have FA := Lib.hid (fun v => fresh_any v)
  go_enter Try.func15, Try.ntmps15
  go_upto_region 2 with fail
  generalize hW : w.alloc (.cells #[.slice none 0 0] 35) = W at *
  have HW := Lib.hid (show W.heap.size = w.heap.size + 1 from by rw [← hW, World.size_alloc])
  clear hW
  go_upto_region 3 with (go_at_call 29; (with_reducible refine (FA.out _).mono ?_); rintro e w1 ⟨bx, bm, rfl, hf, h1, h2, hb⟩; have H1 := Lib.hid (And.intro hf (And.intro h1 (And.intro h2 hb))); clear hf h1 h2 hb; unfold frF)
  have a2 := below_alloc1 w1 (.cells #[frF bx] 64)
  have B2 := Blk.start w1 #[frF bx] 64
  have b2 := (H0.out.2.keep H1.out.2.2.2).keep a2
  have s0 : OcS w (w1.alloc (.cells #[frF bx] 64)) w1.heap.size w.heap.size bx bm 0 [] := by
    have z := H1.out.2.2.2.size
    have x1 := H1.out.2.1
    have x2 := H1.out.2.2.1
    have l1 := H1.out.1.map.lt
    have hw := HW.out
    have bl := (H0.out.1.trans (H1.out.2.2.2.mono (by omega))).trans (a2.mono (by omega))
    exact ⟨B2, ⟨_, b2, ⟨⟨[], H1.out.1.keep a2, fun _ => rfl, Nat.le_refl _⟩, World.ownsRow_nil _ _ _ _, Nat.le_refl _, (fun k hk => by cases hk), bl, ⟨by omega, by omega⟩⟩, (fun k hk => by cases hk)⟩, ⟨by omega, by omega, by omega, by omega⟩, Nat.le_refl _⟩
  have E1 := Lib.hid (EC.out _ _ _ _ s0)
  unfold frF at E1 a2 B2 b2 s0
  generalize w1.alloc (.cells #[.func (.func 52) #[] #[.pointer (some ⟨bx, 0, none⟩)]] 64) = W2 at *
  clear a2 B2 b2 s0 EC
  go_wp2_with (go_at_call 32; (refine E1.out.mono ?_); rintro e w3 ⟨rfl, _, hr⟩; obtain ⟨v, h1, h2, _⟩ := hr.row; have c9 := h1.cell 0; simp only [List.getElem?_toArray, List.getElem?_cons_zero] at c9; have H3 := Lib.hid (And.intro h2.own h2.below); clear hr h1 h2)
  go_ret
  exact ⟨_, rfl, H3.out⟩
end Go.Proofs.Ytgfenklcelfkiaa
