/-
  The walk of the statement StdAll. (Template: by-name.py fills it; gen/genStdI.py writes it.)
-/
import Derived.Test.YtbfgeiimjmhhdaaStdH
namespace Go.Proofs.Ytbfgeiimjmhhdaa
open Go.RowKit

set_option maxRecDepth 10000 in
set_option maxHeartbeats 16000000 in
theorem stdall_nat (w : World) (x : Nat) (hx : x < 256) : Calls Try.prog 3 #[.int .u8 (x : Int)] w fun e w' => e = .returned (.bool true) ∧ Below w.heap.size w w' := by
  have AW := Lib.hid (awake10_yes w)
  have AL := Lib.hid (fun v => all_any v)
  have RA := Lib.hid (fun v => rall_any v)
  go_enter Try.func3, Try.ntmps3
  go_upto_region 6 with (first
    | (go_at_call 4; (refine AW.out.mono ?_); rintro e0 w0 ⟨rfl, hb⟩; have H0 := Lib.hid hb; clear hb)
    | (go_at_call 5; (refine (AL.out _).mono ?_); rintro e1 w1 ⟨g, v0, m0, v1, m1, v2, m2, rfl, hg, hge, hT, hb⟩; have H1 := Lib.hid (And.intro hg (And.intro hT (And.intro hb hge))); clear hg hge hT hb)
    | (go_at_call 6; (refine (RA.out _).mono ?_); rintro e2 w2 ⟨h, u0, n0, u1, n1, u2, n2, rfl, hg, hge, hT, hb⟩; have H2 := Lib.hid (And.intro hg (And.intro hT (And.intro hb hge))); clear hg hge hT hb))
  have GA := Lib.hid (H1.out.1.keep H2.out.2.2.1)
  have TA := Lib.hid (H1.out.2.1.below H2.out.2.2.1)
  have BW := Lib.hid ((H0.out.trans (H1.out.2.2.1.mono H0.out.size)).trans (H2.out.2.2.1.mono (Nat.le_trans H0.out.size H1.out.2.2.1.size)))
  go_wp2_with fail
  go_loopg [5] 3 (fun gg v5 wr => ∃ i : Nat, v5 = .int .i64 i ∧ i ≤ 3 ∧ gg = 3 - i ∧ Below w2.heap.size w2 wr)
  case atStart => exact ⟨0, rfl, by omega, rfl, Below.refl _ _⟩
  case round =>
    obtain ⟨i, rfl, hi, hgg, hb⟩ := hrel
    by_cases hi3 : i = 3
    · have j1 : decide (i < 3) = false := decide_eq_false (by omega)
      have j2 : ¬ ((i : Int) < 3) := by omega
      have FB := Lib.hid hb
      clear hi hgg hb hi3
      have hk : (wrap64 (x : Int)).tmod 3 = ((x % 3 : Nat) : Int) := by
        rw [show wrap64 (x : Int) = (x : Int) from by unfold wrap64; omega]
        exact (Int.ofNat_tmod x 3).symm
      have hk3 : x % 3 < 3 := Nat.mod_lt _ (by omega)
      generalize x % 3 = k at *
      clear hx
      obtain ⟨p, vs, vm, hp, hpm, hP, hc⟩ := three_at (g := g) H1.out.2.1 hk3
      obtain ⟨q, us, um, hq, _, hQ, hd⟩ := three_at (g := h) H2.out.2.1 hk3
      have epq : p = q := Option.some.inj (hp.symm.trans hq)
      subst epq
      obtain ⟨hsl, mv, mr, hmv, hol⟩ := pros_some p hpm
      obtain ⟨rs, hm, s1, s2, s3⟩ := hP
      obtain ⟨s0, sr, hst⟩ : ∃ s0 sr, p.states = s0 :: sr := by
        cases e : p.states with
        | nil => rw [e] at hsl; exact absurd hsl (Nat.lt_irrefl _)
        | cons a b => exact ⟨a, b, rfl⟩
      obtain ⟨vo, rr, hrs⟩ : ∃ vo rr, rs = (vo, mv) :: rr := by
        rw [hmv] at hm
        cases rs with
        | nil => cases hm
        | cons a b =>
          rw [List.map_cons] at hm
          injection hm with h1 h2
          exact ⟨a.1, b, by rw [← h1]⟩
      have s4 := s3 (vo, mv) (by rw [hrs]; exact List.mem_cons_self ..)
      obtain ⟨o0, or_, hou⟩ : ∃ o0 or_, mv.outs = o0 :: or_ := by
        cases e : mv.outs with
        | nil => rw [e] at hol; exact absurd hol (Nat.lt_irrefl _)
        | cons a b => exact ⟨a, b, rfl⟩
      have rl : 0 < rs.length := by rw [hrs]; exact Nat.succ_pos _
      obtain ⟨gs, cs, e1, hs1, hs2⟩ := World.ownsRow.form s1 hsl
      obtain ⟨gm, cm, e2, hm1, hm2⟩ := World.ownsRow.form s2 rl
      obtain ⟨go, co, e3, ho1, ho2⟩ := World.ownsRow.form s4 hol
      subst e1 e2
      dsimp only at e3
      subst e3
      have bw := H2.out.2.2.1.trans (FB.out.mono H2.out.2.2.1.size)
      have GK := GA.out.keep FB.out
      have t1 := ownRow_below s1 bw
      have t2 := ownRow_below s2 bw
      have t4 := ownRow_below s4 bw
      have ng : gs ≠ g := fun e => GK.off t1 (by decide) (by rw [e]; rfl)
      have nm : gs ≠ gm := fun e => own_apart t1 t2 (by decide) gs rfl (by rw [e]; rfl)
      have no : gs ≠ go := fun e => own_apart t1 t4 (by decide) gs rfl (by rw [e]; rfl)
      obtain ⟨_, c1, c2⟩ := hc _ GK.blk
      have e0 := (World.ownsRow.cellAt t1 0 (by omega)).trans (show (rowC stC p.states)[0]? = some (txt s0.name) by rw [hst]; rfl)
      have f0 := World.ownsRow.frozenAt t1 0
      have x2 := (World.ownsRow.cellAt t2 2 (by omega)).trans (show (rowC mvC rs)[2]? = some (.slice (some ⟨go, 0, none⟩) mv.outs.length co) by rw [hrs]; rfl)
      have x3 := (World.ownsRow.cellAt t4 1 (by omega)).trans (show (rowC ouC mv.outs)[1]? = some (.int .i64 o0.to) by rw [hou]; rfl)
      have f3 := World.ownsRow.frozenAt t4 1
      have y1 := cell_off (q := ⟨gs, 0, none⟩) (x := .string ⟨#[63]⟩) (fun e => ng e.symm) c2
      have y2 := cell_off (q := ⟨gs, 0, none⟩) (x := .string ⟨#[63]⟩) (fun e => nm e.symm) x2
      have y3 := cell_off (q := ⟨gs, 0, none⟩) (x := .string ⟨#[63]⟩) (fun e => no e.symm) x3
      have k0 : (0 : Int) ≤ (k : Int) := by omega
      have k3 : (k : Int) < 3 := by omega
      have l1 : (0 : Int) < (p.states.length : Int) := by omega
      have l2 : (0 : Int) < (rs.length : Int) := by omega
      have l3 : (0 : Int) < (mv.outs.length : Int) := by omega
      have Q5 := Lib.hid (((hQ.below FB.out).set (i := 0) (u := .string ⟨#[63]⟩) hs2).set (i := 1) (u := .int .i64 9) ho2)
      have hge := H2.out.2.2.2
      have BH := Lib.hid (((H2.out.1.keep FB.out).other (p := ⟨gs, 0, none⟩) (by dsimp only; omega) (.string ⟨#[63]⟩)).other (p := ⟨go, 1, none⟩) (by dsimp only; omega) (.int .i64 9))
      have BL := Lib.hid (((BW.out.trans (FB.out.mono BW.out.size)).setCell (p := ⟨gs, 0, none⟩) (by have := H0.out.size; dsimp only; omega) (.string ⟨#[63]⟩)).setCell (p := ⟨go, 1, none⟩) (by have := H0.out.size; dsimp only; omega) (.int .i64 9))
      have HP := Lib.hid (And.intro hp (And.intro hpm (And.intro hd hk3)))
      clear hp hpm hd hk3 hq hQ hc hsl hmv hol hm s1 s2 s3 s4 hst hrs hou rl hs1 hs2 hm1 hm2 ho1 ho2 bw GK t1 t2 t4 ng nm no hge
      go_upto_region 15 with fail
      clear c1 c2 e0 f0 x2 x3 f3 y1 y2 y3 l1 l2 l3
      generalize ((wr.setCell ⟨gs, 0, none⟩ (.string ⟨#[63]⟩)).setCell ⟨go, 1, none⟩ (.int .i64 9)) = W5 at *
      have AX := Lib.hid (fun (v : World) (hv : Below W5.heap.size W5 v) => show Calls Try.prog 5 #[] v (fun e w' => ∃ g' ps pm, e = .returned (.slice (some ⟨g', 0, none⟩) 3 3) ∧ Below W5.heap.size W5 w' ∧ (w'.cell? ⟨g', k * 3, none⟩ = some (txt p.name) ∧ w'.cell? ⟨g', k * 3 + 1, none⟩ = some ps ∧ w'.cell? ⟨g', k * 3 + 2, none⟩ = some pm) ∧ ProAt w' ps pm p) from by
        refine (all_any v).mono ?_
        rintro e w' ⟨g', v0, m0, v1, m1, v2, m2, rfl, hg', _, hT', hb'⟩
        obtain ⟨p', ps, pm, hp', hpm', hP', hc'⟩ := three_at (g := g') hT' HP.out.2.2.2
        have e : p = p' := Option.some.inj (HP.out.1.symm.trans hp')
        subst e
        exact ⟨g', ps, pm, rfl, hv.trans (hb'.mono hv.size), hc' _ hg'.blk, hP'.pro (pros_len p hpm')⟩)
      have DX := Lib.hid (fun (v : World) (hv : Below W5.heap.size W5 v) => HP.out.2.2.1 v (BH.out.keep hv))
      have LX := Lib.hid (fun (v : World) (hv : Below W5.heap.size W5 v) (ps pm : Value) (hA : ProAt v ps pm p) => rlike_same v ps pm us um p hA ((Q5.out.below hv).pro (pros_len p HP.out.2.1)) (pros_sz p HP.out.2.1))
      obtain ⟨d0, d1, d2⟩ := DX.out _ (belowD W5)
      go_region_with (first
        | (go_at_call 5; (refine (AX.out _ (by first | exact belowD W5 | exact Below.refl _ _)).mono ?_); rintro e6 w6 ⟨g', ps, pm, rfl, hb6, ⟨z0, z1, z2⟩, hA⟩; obtain ⟨d0', d1', d2'⟩ := DX.out _ hb6; have H6 := Lib.hid (And.intro hb6 hA); clear hb6 hA)
        | (go_at_call 8; (refine (LX.out _ H6.out.1 _ _ H6.out.2).mono ?_); rintro e7 w7 ⟨rfl, hb7⟩; have H7 := Lib.hid (H6.out.1.trans (hb7.mono H6.out.1.size)); clear hb7))
      all_goals
        go_wp2_with fail
        go_ret
        exact ⟨rfl, BL.out.trans (H7.out.mono BL.out.size)⟩
    · have hlt : i < 3 := by omega
      have j1 : (i : Int) < 3 := by omega
      have j2 : (0 : Int) ≤ (i : Int) := by omega
      have wi : IntKind.i64.wrap ((i : Int) + 1) = (i : Int) + 1 := IntWalk.i64_in _ (by omega)
      obtain ⟨p, vs, vm, hp, hpm, hP, hc⟩ := three_at (g := g) TA.out hlt
      obtain ⟨q, us, um, hq, _, hQ, hd⟩ := three_at (g := h) H2.out.2.1 hlt
      have epq : p = q := Option.some.inj (hp.symm.trans hq)
      subst epq
      obtain ⟨⟨A1, c1, rfl⟩, ⟨A2, c2, rfl⟩⟩ := hP.shape
      obtain ⟨⟨A3, c3, rfl⟩, ⟨A4, c4, rfl⟩⟩ := hQ.shape
      have WX := Lib.hid (fun (v : World) (hv : Below w2.heap.size w2 v) => show Calls _ _ _ _ _ from by
        have := rwrong_any v _ _ p ((hP.below hv).pro (pros_len p hpm)) (pros_sz p hpm)
        rw [pros_wrong p hpm] at this
        exact this)
      have LX := Lib.hid (fun (v : World) (hv : Below wr.heap.size wr v) => rlike_same v _ _ _ _ p ((hP.below (hb.trans (hv.mono hb.size))).pro (pros_len p hpm)) ((hQ.below (hb.trans (hv.mono hb.size))).pro (pros_len p hpm)) (pros_sz p hpm))
      obtain ⟨a0, a1, a2⟩ := hc _ ((GA.out.keep hb).blk)
      obtain ⟨d0, d1, d2⟩ := hd _ (H2.out.1.keep hb)
      have HK := Lib.hid (And.intro hlt (And.intro hgg hb))
      have HC := Lib.hid (And.intro hc hd)
      clear hi3 hlt hi hgg hp hq hpm hP hQ hc hd
      go_upto_region 10 with (go_at_call 7; (refine (WX.out _ HK.out.2.2).mono ?_); rintro e4 w4 ⟨rfl, hb4⟩; have H4 := Lib.hid hb4; clear hb4)
      clear a0 a1 a2 d0 d1 d2
      have LY := LX
      clear LX
      have LX := Lib.hid (fun (v : World) (hv : Below w4.heap.size w4 v) => LY.out v (H4.out.trans (hv.mono H4.out.size)))
      obtain ⟨a0, a1, a2⟩ := HC.out.1 _ ((GA.out.keep (HK.out.2.2.trans (H4.out.mono HK.out.2.2.size))).blk.drew)
      obtain ⟨d0, d1, d2⟩ := HC.out.2 _ ((H2.out.1.keep (HK.out.2.2.trans (H4.out.mono HK.out.2.2.size))).drew)
      generalize wr = wo at *
      generalize w4 = wr at *
      have STB := Lib.hid (show Stab (fun v => (((((v.cell? ⟨g, i * 3, none⟩ = some (txt p.name) ∧ v.cell? ⟨g, i * 3 + 1, none⟩ = some ((.slice A1 p.states.length c1))) ∧ v.cell? ⟨g, i * 3 + 2, none⟩ = some ((.slice A2 p.moves.length c2))) ∧ v.cell? ⟨h, i * 3, none⟩ = some (txt p.name)) ∧ v.cell? ⟨h, i * 3 + 1, none⟩ = some ((.slice A3 p.states.length c3))) ∧ v.cell? ⟨h, i * 3 + 2, none⟩ = some ((.slice A4 p.moves.length c4))) ∧ Below wr.heap.size wr v) from stab_and (stab_and (stab_and (stab_and (stab_and (stab_and (stab_cell _ _) (stab_cell _ _)) (stab_cell _ _)) (stab_cell _ _)) (stab_cell _ _)) (stab_cell _ _)) (stab_below wr))
      have HS : (((((wr.drew.cell? ⟨g, i * 3, none⟩ = some (txt p.name) ∧ wr.drew.cell? ⟨g, i * 3 + 1, none⟩ = some ((.slice A1 p.states.length c1))) ∧ wr.drew.cell? ⟨g, i * 3 + 2, none⟩ = some ((.slice A2 p.moves.length c2))) ∧ wr.drew.cell? ⟨h, i * 3, none⟩ = some (txt p.name)) ∧ wr.drew.cell? ⟨h, i * 3 + 1, none⟩ = some ((.slice A3 p.states.length c3))) ∧ wr.drew.cell? ⟨h, i * 3 + 2, none⟩ = some ((.slice A4 p.moves.length c4))) ∧ Below wr.heap.size wr wr.drew := ⟨⟨⟨⟨⟨⟨a0, a1⟩, a2⟩, d0⟩, d1⟩, d2⟩, belowD wr⟩
      clear a0 a1 a2 d0 d1 d2
      refine wp_region_noPanic ?_
      refine wp_region_held_drew (S := (fun v => (((((v.cell? ⟨g, i * 3, none⟩ = some (txt p.name) ∧ v.cell? ⟨g, i * 3 + 1, none⟩ = some ((.slice A1 p.states.length c1))) ∧ v.cell? ⟨g, i * 3 + 2, none⟩ = some ((.slice A2 p.moves.length c2))) ∧ v.cell? ⟨h, i * 3, none⟩ = some (txt p.name)) ∧ v.cell? ⟨h, i * 3 + 1, none⟩ = some ((.slice A3 p.states.length c3))) ∧ v.cell? ⟨h, i * 3 + 2, none⟩ = some ((.slice A4 p.moves.length c4))) ∧ Below wr.heap.size wr v)) (by kernel_rfl) HS (fun hHeld => ?_)
      clear HS
      refine tkk 0 rfl ?_
      refine tkk 1 rfl ?_
      refine tkk 2 rfl ?_
      refine tkk 3 rfl ?_
      refine tkk 4 rfl ?_
      refine tkk 5 rfl ?_
      refine tkk 6 rfl ?_
      refine tkk 7 rfl ?_
      (try simp only [cl, Act.put])
      refine rd 8 rfl fun K hK => ?_
      go_simp
      (go_at_call 8; (refine (LX.out _ hHeld.2).mono ?_); rintro e5 w5 ⟨rfl, hb⟩)
      go_wp2_with fail
      refine hK.out _ _ (STB.out _ _ hb (by with_reducible assumption)) (fun hH2 => ?_)
      clear hK K hHeld hb; have hHeld := hH2; clear hH2
      (try simp only [cl, Act.put])
      refine tkk 9 rfl ?_
      refine tkk 10 rfl ?_
      refine tkk 11 rfl ?_
      refine tkk 12 rfl ?_
      refine tkk 13 rfl ?_
      (try simp only [cl, Act.put])
      refine wpAnyH_done (by kernel_rfl) ?_ _
      refine NoPanic.normal ?_
      have B9 := Lib.hid (HK.out.2.2.trans ((H4.out.trans (hHeld.2.mono H4.out.size)).mono HK.out.2.2.size))
      clear hHeld STB
      go_wp2_with fail
      go_roundg (3 - (i + 1))
      case measure => have := HK.out.1; have := HK.out.2.1; omega
      case rel => exact ⟨i + 1, by push_cast; rfl, HK.out.1, rfl, B9.out⟩
theorem u8_natS {n : Int} (h : (Lit.int .u8 n).wf = true) : ∃ k : Nat, n = k ∧ k < 256 := by
  simp only [Lit.wf, Bool.and_eq_true, decide_eq_true_eq] at h
  have a : IntKind.u8.min = 0 := by decide
  have b : IntKind.u8.max = 255 := by decide
  rw [a, b] at h
  exact ⟨n.toNat, by omega, by omega⟩
theorem stdall_any (w : World) (x : Int) (hx : (Lit.int .u8 x).wf = true) : Calls Try.prog 3 #[.int .u8 x] w fun e w' => e = .returned (.bool true) ∧ Below w.heap.size w w' := by
  obtain ⟨a, rfl, ha⟩ := u8_natS hx
  exact stdall_nat w a ha
end Go.Proofs.Ytbfgeiimjmhhdaa
