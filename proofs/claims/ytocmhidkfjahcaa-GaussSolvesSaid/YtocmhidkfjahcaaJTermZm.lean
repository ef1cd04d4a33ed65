/-
  The walk of the reference's Do of terms: multiples. (Template: by-name.py fills it; gen/genRDo.py writes it.)
-/
import Derived.Test.YtocmhidkfjahcaaJTermZ
namespace Go.Proofs.Ytocmhidkfjahcaa
open Go.RowKit

set_option maxRecDepth 4000 in
set_option maxHeartbeats 4000000 in
theorem rdo_times_ok (w : World) (va : Value) (l : List (Int × Int)) (kx kb : Int × Int) (ha : RatsAt w va l) (hl : AllOk l) (hx : OkR kx) (hy : OkR kb) (h8 : l.length ≤ 8)
    (hk : ((scaleH kb) kx (0, 1)).2 = 0) (hc : combOk (scaleH kb) l [] l.length) :
    Calls Try.prog 103 #[.int .i64 2, .agg #[va, .int .i64 kx.1, .int .i64 kx.2], .agg #[.slice none 0 0, .int .i64 kb.1, .int .i64 kb.2]] w (TermPut w (trimL (combL (scaleH kb) l [])) ((scaleH kb) kx (0, 1)).1 0) := by
  obtain ⟨i0, hi, hz0, hz1, hz2⟩ := info_parts infoR
  have hm : AllOk [] := fun x hx => by cases hx
  have hb : RatsAt w (.slice none 0 0) [] := RatsAt.nil w
  have ra := fun (w' : World) (h : Below w.heap.size w w') => r2right_any w' va l kx.1 kx.2 (ha.below h) hl.wide hx.wide.1.1 hx.wide.1.2 hx.wide.2.1 hx.wide.2.2
  rw [right_mk h8 hl hx] at ra
  have rb := fun (w' : World) (_ : Below w.heap.size w w') => r2right_any w' (.slice none 0 0) [] kb.1 kb.2 (RatsAt.nil w') hm.wide hy.wide.1.1 hy.wide.1.2 hy.wide.2.1 hy.wide.2.2
  rw [right_mk (by simp) hm hy] at rb
  have h1 : ∀ (w' : World), Calls Try.prog 69 #[.int .i64 2, ratV kx.1 kx.2, ratV kb.1 kb.2] w' fun r w2 => r = .returned (.tuple #[ratV (scaleH kb kx (0, 1)).1.1 (scaleH kb kx (0, 1)).1.2, .int .i64 (scaleH kb kx (0, 1)).2]) ∧ Below w'.heap.size w' w2 := fun w' => rdo_mul w' kx kb hx hy
  have HOW : ∀ (w' : World) (k : Nat), Calls Try.prog 69 #[.int .i64 2, ratV (atL l k).1 (atL l k).2, ratV kb.1 kb.2] w' fun r w2 => r = .returned (.tuple #[ratV (scaleH kb (atL l k) (atL [] k)).1.1 (scaleH kb (atL l k) (atL [] k)).1.2, .int .i64 (scaleH kb (atL l k) (atL [] k)).2]) ∧ Below w'.heap.size w' w2 := fun w' k => rdo_mul w' _ _ (hl.at k) hy
  have HOW := Lib.hid HOW
  rw [hk] at h1
  obtain ⟨A, c, rfl⟩ := rats_shape ha
  have HR := Lib.hid (show doneK (scaleH kb) l [] l.length = combL (scaleH kb) l [] by unfold combL doneK; rw [show max l.length ([] : List (Int × Int)).length = l.length by simp])
  have HN := Lib.hid (And.intro (rfl : l.length = l.length) hc)
  have hcl : AllOk (combL (scaleH kb) l []) := combL_ok (scaleH_ok hy) hl hm (by simpa using hc)
  have hkz : OkR ((scaleH kb) kx (0, 1)).1 := (scaleH_ok hy).ok _ _ hx okR_nought hk
  have h8c : (combL (scaleH kb) l []).length ≤ 8 := by rw [combL_len]; simp; omega
  have ow := fun (w' : World) (v : Value) (h : RatsAt w' v (combL (scaleH kb) l [])) => rown_right w' v (combL (scaleH kb) l []) ((scaleH kb) kx (0, 1)).1.1 ((scaleH kb) kx (0, 1)).1.2 h hcl.wide hkz.wide.1.1 hkz.wide.1.2 hkz.wide.2.1 hkz.wide.2.2 (right_mk h8c hcl hkz)
  have OW := Lib.hid ow
  have H1 := Lib.hid h1; have RA := Lib.hid ra; have RB := Lib.hid rb
  have TS := Lib.hid (And.intro ha hb)
  clear h1 ra rb ha hb hl hm hx hy hk hc hcl hkz h8c ow
  generalize l.length = ll at *
  generalize ((scaleH kb) kx (0, 1)).1 = z at *
  obtain ⟨zn, zd⟩ := z
  obtain ⟨xn, xd⟩ := kx
  generalize kb.1 = bn at *
  generalize kb.2 = bd at *
  dsimp only at *
  obtain ⟨F, G, E, hb0⟩ := three_boxes w (.slice A ll c) (.int .i64 xn) (.int .i64 xd) (.slice none 0 0) (.int .i64 bn) (.int .i64 bd) (.slice none 0 0) (.int .i64 0) (.int .i64 0) 39
  go_enter Try.func103, Try.ntmps103
  go_upto_region 6 with (first
    | (go_at_call 39; (first
      | (with_reducible refine (RA.out _ hb0).mono ?_); rintro e w1 ⟨rfl, hb1⟩; have F := F.keep hb1; have G := G.keep hb1; have E := E.keep hb1; have b1 := hb0.trans (hb1.mono hb0.size); have k1 := F.k1; have k2 := F.k2; have m0 := G.k0; have m1 := G.k1; have m2 := G.k2
      | (with_reducible refine (RB.out _ b1).mono ?_); rintro e w2 ⟨rfl, hb2⟩; have F := F.keep hb2; have G := G.keep hb2; have E := E.keep hb2; have b2 := b1.trans (hb2.mono b1.size); have k1 := F.k1; have k2 := F.k2; have m1 := G.k1; have m2 := G.k2))
    | (go_at_call 69; (with_reducible refine (H1.out _).mono ?_); rintro e w3 ⟨rfl, hb3⟩; have F := F.keep hb3; have G := G.keep hb3; have E := E.keep hb3; have e3 := E.lt; have b3 := b2.trans (hb3.mono b2.size)))
  clear hb1 hb2 hb3 hb0 b1 b2 k1 k2 m0 m1 m2
  go_upto_region 7 with fail
  have a1 := below_alloc1 w3 (.cells #[.int .i64 zn, .int .i64 zd] 36)
  have a2 := below_alloc1 (w3.alloc (.cells #[.int .i64 zn, .int .i64 zd] 36)) (.cells #[.slice none 0 0, .int .i64 zn, .int .i64 zd] 39)
  have O := FracBox.start (w3.alloc (.cells #[.int .i64 zn, .int .i64 zd] 36)) (.slice none 0 0) (.int .i64 zn) (.int .i64 zd) 39
  rw [World.size_alloc] at O
  have b5 := b3.trans (a1.mono b3.size)
  have D0 : DoS w ((w3.alloc (.cells #[.int .i64 zn, .int .i64 zd] 36)).alloc (.cells #[.slice none 0 0, .int .i64 zn, .int .i64 zd] 39)) w3.heap.size 0 (.slice A ll c) xn xd (.slice none 0 0) bn bd zn zd (.slice none 0 0) (doneK (scaleH kb) l [] 0) :=
    ⟨(F.keep a1).keep a2, (G.keep a1).keep a2, (E.keep a1).keep a2, O, ⟨rfl, .inl ⟨rfl, rfl⟩⟩, e3, b5.trans (a2.mono b5.size)⟩
  generalize w3.heap.size = b at *
  have D0 := Lib.hid D0
  clear F G E O a1 a2 b3 b5 e3
  go_wp2_with fail
  go_loopg [11] ll (fun g v11 wr => ∃ (k : Nat) (v : Value), v11 = .int .i64 k ∧ k ≤ ll ∧ g = ll - k ∧ combOk (scaleH kb) l [] k ∧ DoS w wr b k (.slice A ll c) xn xd (.slice none 0 0) bn bd zn zd v (doneK (scaleH kb) l [] k))
  case atStart => exact ⟨0, _, rfl, Nat.zero_le _, rfl, fun i hi => absurd hi (Nat.not_lt_zero _), D0.out⟩
  case round =>
    clear D0
    obtain ⟨k, v, rfl, hk, hg, hck, D⟩ := hrel
    have k0 := D.F.k0
    have m0 := D.G.k0
    by_cases hkn : k = ll
    · have hx1 : decide ((k : Int) < (ll : Int)) = false := decide_eq_false (by have := HN.out.1; omega)
      have hx5 : decide (k < ll) = false := decide_eq_false (by have := HN.out.1; omega)
      have hx6 : ll ≤ k := by have := HN.out.1; omega
      have hx2 : decide ((k : Int) < 0) = false := decide_eq_false (by omega)
      have hx3 : ¬ (k : Int) < 0 := by omega
      have rw0 : RatsAt wr v (doneK (scaleH kb) l [] k) := own_rats (base := b + 2) (by rw [doneK_len]; exact D.o)
      rw [hkn, HR.out] at rw0
      have RW := Lib.hid rw0
      have DD := Lib.hid D
      obtain ⟨Av, cv, rfl⟩ := rats_shape rw0
      have o0 := D.O.k0; have o1 := D.O.k1; have o2 := D.O.k2
      generalize (combL (scaleH kb) l []).length = nc at *
      generalize trimL (combL (scaleH kb) l []) = L at *
      clear hck hg hk D rw0 hkn
      go_wp2_with (go_at_call 40; (with_reducible refine (OW.out _ _ RW.out).mono ?_); rintro e w8 hT; obtain ⟨v8, rfl, hv8, hb8, hf8⟩ := hT; obtain ⟨A8, c8, rfl⟩ := rats_shape hv8; have HV := Lib.hid (And.intro hv8 (hf8.mono DD.out.E.lt : Fresh (w.heap.size + 1 + 1 + 1) _)); have D8 := DD.out.keep hb8; have B8 := Lib.hid D8.below; have e0 := D8.E.k0; have e1 := D8.E.k1; have e2 := D8.E.k2; have l0 := D8.E.l0; have l1 := D8.E.l1; have l2 := D8.E.l2; clear hv8 hb8 hf8 D8)
      obtain ⟨c0, c1, c2⟩ := set_three (x := .slice A8 L.length c8) (y := .int .i64 zn) (z := .int .i64 zd) e0 e1 e2
      obtain ⟨r1, r2, r3⟩ := put_end (w := w) (b := w.heap.size + 1 + 1) (kn := zn) (kd := zd) HV.out.1 B8.out HV.out.2 (by omega) rfl
      exact bodyPost_ret (v := .tuple #[.agg #[.slice A8 L.length c8, .int .i64 zn, .int .i64 zd], .int .i64 0]) (by simp [results, Try.results103, go_sem, c0, c1, c2]) rfl ⟨_, rfl, r1, r2, r3⟩
    · have hlt : k < ll := by omega
      have i2 : (0 : Int) ≤ (k : Int) := by omega
      have he0 := HN.out.2 k hlt
      have hx1 : decide ((k : Int) < (ll : Int)) = true := decide_eq_true (by omega)
      have hx3 : (k : Int) < (ll : Int) := by omega
      have hx5 : decide (k < ll) = true := decide_eq_true (by omega)
      have atx := fun (w' : World) (hb : Below w.heap.size w w') => rat_any w' (.slice A ll c) l xn xd k (TS.out.1.below hb)
      have aty := fun (w' : World) (hb : Below w.heap.size w w') => rat_any w' (.slice none 0 0) [] bn bd k (TS.out.2.below hb)
      have hw := fun (w' : World) => HOW.out w' k
      rw [he0] at hw
      have ATX := Lib.hid atx; have ATY := Lib.hid aty; have HW := Lib.hid hw
      have HLT := Lib.hid hlt
      have HK := Lib.hid hg
      have HC2 : Hid (combOk (scaleH kb) l [] (k + 1)) := fun i hi => by
        rcases Nat.lt_or_ge i k with g | g
        · exact hck i g
        · obtain rfl : i = k := by omega
          exact he0
      have NX := Lib.hid (doneK_next (scaleH kb) l [] k)
      have DD := Lib.hid D
      have m1 := D.G.k1; have m2 := D.G.k2
      clear atx aty hw D hck he0 hg hkn hk hlt
      generalize ((scaleH kb) (atL l k) (atL [] k)).1 = q at *
      obtain ⟨qn, qd⟩ := q
      generalize atL l k = x at *
      generalize atL [] k = y at *
      obtain ⟨x1, x2⟩ := x
      obtain ⟨y1, y2⟩ := y
      dsimp only at *
      go_upto_region 13 with (go_at_call 20; (with_reducible refine (ATY.out _ DD.out.below).mono ?_); rintro e w5 ⟨rfl, hb⟩; have DD := Lib.hid (DD.out.keep hb); have m1 := DD.out.G.k1; have m2 := DD.out.G.k2; have a5 := DD.out.keep (below_alloc1 w5 (.cells #[.int .i64 y1, .int .i64 y2] 36)); have n1 := a5.G.k1; have n2 := a5.G.k2; clear hb)
      go_cut [13, 14] from 39 to 78 (fun v13 v14 wx => DoMidT w b k (.slice A ll c) xn xd (.slice none 0 0) bn bd zn zd v (doneK (scaleH kb) l [] k) qn qd 0 v13 v14 wx)
      case first =>
        have HS := hold_dos (below_drew _) ((DD.out.keep (below_alloc1 w5 (.cells #[.int .i64 bn, .int .i64 bd] 36))).cells (RatAt.start w5 bn bd 36))
        generalize w5.heap.size = cy at *
        generalize w5.alloc (.cells #[.int .i64 bn, .int .i64 bd] 36) = wq at *
        clear DD m1 m2 k0 m0 a5 n1 n2
        refine wp_region_noPanic ?_
        refine wp_region_held_drew (S := (fun w' => ((w'.cell? ⟨w.heap.size, 0, none⟩ = some (.slice A ll c) ∧ w'.cell? ⟨w.heap.size, 1, none⟩ = some (.int .i64 xn) ∧ w'.cell? ⟨w.heap.size, 2, none⟩ = some (.int .i64 xd)) ∧ (w'.cell? ⟨cy, 0, none⟩ = some (.int .i64 bn) ∧ w'.cell? ⟨cy, 1, none⟩ = some (.int .i64 bd)) ∧ RatAt w' cy bn bd) ∧ DoS w w' b k (.slice A ll c) xn xd (.slice none 0 0) bn bd zn zd v (doneK (scaleH kb) l [] k))) (by kernel_rfl) HS (fun hHeld => ?_)
        clear HS
        refine wpAnyH_take (i := 0) (oi := _) (v := ?_) rfl (by kernel_rfl) (by kernel_rfl) (by kernel_rfl) (fun _ _ _ h => h) (Or.inl ⟨by rfl, ?_⟩) (by assumption) ?_
        rotate_left
        · intro ww hSw
          (try dsimp only at hSw)
          go_simp <;> with_reducible rfl
        (try simp only [List.getElem_toArray, List.getElem_cons_zero, Act.put, List.setIfInBounds_toArray, List.set_cons_zero, List.set_cons_succ])
        refine wpAnyH_take (i := 1) (oi := _) (v := ?_) rfl (by kernel_rfl) (by kernel_rfl) (by kernel_rfl) (fun _ _ _ h => h) (Or.inl ⟨by rfl, ?_⟩) (by assumption) ?_
        rotate_left
        · intro ww hSw
          (try dsimp only at hSw)
          go_simp <;> with_reducible rfl
        (try simp only [List.getElem_toArray, List.getElem_cons_succ, List.getElem_cons_zero, Act.put, List.setIfInBounds_toArray, List.set_cons_zero, List.set_cons_succ])
        refine wpAnyH_take (i := 2) (oi := _) (v := ?_) rfl (by kernel_rfl) (by kernel_rfl) (by kernel_rfl) (fun _ _ _ h => h) (Or.inl ⟨by rfl, ?_⟩) (by assumption) ?_
        rotate_left
        · intro ww hSw
          (try dsimp only at hSw)
          go_simp <;> with_reducible rfl
        (try simp only [List.getElem_toArray, List.getElem_cons_succ, List.getElem_cons_zero, Act.put, List.setIfInBounds_toArray, List.set_cons_zero, List.set_cons_succ])
        refine wpAnyH_take (i := 4) (oi := _) (v := ?_) rfl (by kernel_rfl) (by kernel_rfl) (by kernel_rfl) (fun _ _ _ h => h) (Or.inl ⟨by rfl, ?_⟩) (by assumption) ?_
        rotate_left
        · intro ww hSw
          (try dsimp only at hSw)
          go_simp <;> with_reducible rfl
        (try simp only [List.getElem_toArray, List.getElem_cons_succ, List.getElem_cons_zero, Act.put, List.setIfInBounds_toArray, List.set_cons_zero, List.set_cons_succ])
        refine wpAnyH_ready (rs := [3, 9]) (by kernel_rfl) (by simp) ?_
        refine AllReadyH.cons (o := _) rfl (fun K hK => ?_) ?_
        · go_simp
          (first
            | (go_at_call 20; (with_reducible refine (ATX.out _ (dos_of (by with_reducible assumption)).below).mono ?_); rintro e w6 ⟨rfl, hb⟩; (try (have HC := Lib.hid (HC.out.keep hb))))
            | (go_at_call 69; (with_reducible refine (HW.out _).mono ?_); rintro e w7 ⟨rfl, hb⟩; (try (have HC := Lib.hid (HC.out.keep hb)))))
          go_wp2_with fail
          refine hK.out _ _ (hold_dos (by with_reducible assumption) (by with_reducible assumption)) (fun hH2 => ?_)
          clear hK K hHeld hb
          have hHeld := hH2
          clear hH2
          (try simp only [List.getElem_toArray, List.getElem_cons_succ, List.getElem_cons_zero, Act.put, List.setIfInBounds_toArray, List.set_cons_zero, List.set_cons_succ])
          refine wpAnyH_ready (rs := [5, 9]) (by kernel_rfl) (by simp) ?_
          refine AllReadyH.cons (o := _) rfl (fun K hK => ?_) ?_
          · go_simp
            (first
              | (go_at_call 20; (with_reducible refine (ATX.out _ (dos_of (by with_reducible assumption)).below).mono ?_); rintro e w6 ⟨rfl, hb⟩; (try (have HC := Lib.hid (HC.out.keep hb))))
              | (go_at_call 69; (with_reducible refine (HW.out _).mono ?_); rintro e w7 ⟨rfl, hb⟩; (try (have HC := Lib.hid (HC.out.keep hb)))))
            go_wp2_with fail
            refine hK.out _ _ (hold_dos (by with_reducible assumption) (by with_reducible assumption)) (fun hH2 => ?_)
            clear hK K hHeld hb
            have hHeld := hH2
            clear hH2
            (try simp only [List.getElem_toArray, List.getElem_cons_succ, List.getElem_cons_zero, Act.put, List.setIfInBounds_toArray, List.set_cons_zero, List.set_cons_succ])
            refine wpAnyH_take (i := 6) (oi := _) (v := ?_) rfl (by kernel_rfl) (by kernel_rfl) (by kernel_rfl) (fun _ _ _ h => h) (Or.inl ⟨by rfl, ?_⟩) (by assumption) ?_
            rotate_left
            · intro ww hSw
              (try dsimp only at hSw)
              go_simp <;> with_reducible rfl
            (try simp only [List.getElem_toArray, List.getElem_cons_succ, List.getElem_cons_zero, Act.put, List.setIfInBounds_toArray, List.set_cons_zero, List.set_cons_succ])
            refine wpAnyH_take (i := 7) (oi := _) (v := ?_) rfl (by kernel_rfl) (by kernel_rfl) (by kernel_rfl) (fun _ _ _ h => h) (Or.inl ⟨by rfl, ?_⟩) (by assumption) ?_
            rotate_left
            · intro ww hSw
              (try dsimp only at hSw)
              go_simp <;> with_reducible rfl
            (try simp only [List.getElem_toArray, List.getElem_cons_succ, List.getElem_cons_zero, Act.put, List.setIfInBounds_toArray, List.set_cons_zero, List.set_cons_succ])
            refine wpAnyH_take (i := 8) (oi := _) (v := ?_) rfl (by kernel_rfl) (by kernel_rfl) (by kernel_rfl) (fun _ _ _ h => h) (Or.inl ⟨by rfl, ?_⟩) (by assumption) ?_
            rotate_left
            · intro ww hSw
              (try dsimp only at hSw)
              go_simp <;> with_reducible rfl
            (try simp only [List.getElem_toArray, List.getElem_cons_succ, List.getElem_cons_zero, Act.put, List.setIfInBounds_toArray, List.set_cons_zero, List.set_cons_succ])
            refine wpAnyH_ready (rs := [9]) (by kernel_rfl) (by simp) ?_
            refine AllReadyH.cons (o := _) rfl (fun K hK => ?_) AllReadyH.nil
            go_simp
            refine hK.out _ _ (hold_dos (below_alloc1 _ _) (by with_reducible assumption)) (fun hH2 => ?_)
            clear hK K
            (first | have HC := Lib.hid (hole_of hH2) | have HC := Lib.hid (hole_of2 hH2))
            have hHeld0 := Lib.hid hHeld
            clear hHeld
            have hHeld := hH2
            clear hH2
            (try simp only [List.getElem_toArray, List.getElem_cons_succ, List.getElem_cons_zero, Act.put, List.setIfInBounds_toArray, List.set_cons_zero, List.set_cons_succ])
            refine wpAnyH_ready (rs := [10]) (by kernel_rfl) (by simp) ?_
            refine AllReadyH.cons (o := _) rfl (fun K hK => ?_) AllReadyH.nil
            obtain ⟨h6, h0, h1, h2, h3, h4, h5⟩ := HC.out
            clear h6
            go_simp
            clear h0 h1 h2 h3 h4 h5
            (first
              | refine hK.out _ _ (hold_dos (below_alloc1 _ _) hHeld0.out) (fun hH2 => ?_)
              | refine hK.out _ _ (hold_dos (HC.out.fill _ _).1 hHeld0.out) (fun hH2 => ?_))
            clear hK K hHeld
            have hHeld := hH2
            clear hH2
            (try simp only [List.getElem_toArray, List.getElem_cons_succ, List.getElem_cons_zero, Act.put, List.setIfInBounds_toArray, List.set_cons_zero, List.set_cons_succ])
            refine wpAnyH_take (i := 11) (oi := _) (v := ?_) rfl (by kernel_rfl) (by kernel_rfl) (by kernel_rfl) (fun _ _ _ h => h) (Or.inl ⟨by rfl, ?_⟩) (by assumption) ?_
            rotate_left
            · intro ww hSw
              (try dsimp only at hSw)
              go_simp <;> with_reducible rfl
            (try simp only [List.getElem_toArray, List.getElem_cons_succ, List.getElem_cons_zero, Act.put, List.setIfInBounds_toArray, List.set_cons_zero, List.set_cons_succ])
            refine wpAnyH_done (by kernel_rfl) ?_ _
            refine NoPanic.normal ?_
            go_wp2_with fail
            go_meet
            case rel => first | exact mid_alloc (dos_of hHeld0.out) 36 | exact mid_fill (dos_of hHeld0.out) HC.out
          refine AllReadyH.cons (o := _) rfl (fun K hK => ?_) AllReadyH.nil
          go_simp
          refine hK.out _ _ (hold_dos (below_alloc1 _ _) (by with_reducible assumption)) (fun hH2 => ?_)
          clear hK K
          (first | have HC := Lib.hid (hole_of hH2) | have HC := Lib.hid (hole_of2 hH2))
          have hHeld0 := Lib.hid hHeld
          clear hHeld
          have hHeld := hH2
          clear hH2
          (try simp only [List.getElem_toArray, List.getElem_cons_succ, List.getElem_cons_zero, Act.put, List.setIfInBounds_toArray, List.set_cons_zero, List.set_cons_succ])
          refine wpAnyH_ready (rs := [5]) (by kernel_rfl) (by simp) ?_
          refine AllReadyH.cons (o := _) rfl (fun K hK => ?_) AllReadyH.nil
          go_simp
          (first
            | (go_at_call 20; (with_reducible refine (ATX.out _ (dos_of (by with_reducible assumption)).below).mono ?_); rintro e w6 ⟨rfl, hb⟩; (try (have HC := Lib.hid (HC.out.keep hb))))
            | (go_at_call 69; (with_reducible refine (HW.out _).mono ?_); rintro e w7 ⟨rfl, hb⟩; (try (have HC := Lib.hid (HC.out.keep hb)))))
          go_wp2_with fail
          refine hK.out _ _ (hold_dos (by with_reducible assumption) (by with_reducible assumption)) (fun hH2 => ?_)
          clear hK K hHeld hb
          have hHeld := hH2
          clear hH2
          (try simp only [List.getElem_toArray, List.getElem_cons_succ, List.getElem_cons_zero, Act.put, List.setIfInBounds_toArray, List.set_cons_zero, List.set_cons_succ])
          refine wpAnyH_take (i := 6) (oi := _) (v := ?_) rfl (by kernel_rfl) (by kernel_rfl) (by kernel_rfl) (fun _ _ _ h => h) (Or.inl ⟨by rfl, ?_⟩) (by assumption) ?_
          rotate_left
          · intro ww hSw
            (try dsimp only at hSw)
            go_simp <;> with_reducible rfl
          (try simp only [List.getElem_toArray, List.getElem_cons_succ, List.getElem_cons_zero, Act.put, List.setIfInBounds_toArray, List.set_cons_zero, List.set_cons_succ])
          refine wpAnyH_take (i := 7) (oi := _) (v := ?_) rfl (by kernel_rfl) (by kernel_rfl) (by kernel_rfl) (fun _ _ _ h => h) (Or.inl ⟨by rfl, ?_⟩) (by assumption) ?_
          rotate_left
          · intro ww hSw
            (try dsimp only at hSw)
            go_simp <;> with_reducible rfl
          (try simp only [List.getElem_toArray, List.getElem_cons_succ, List.getElem_cons_zero, Act.put, List.setIfInBounds_toArray, List.set_cons_zero, List.set_cons_succ])
          refine wpAnyH_take (i := 8) (oi := _) (v := ?_) rfl (by kernel_rfl) (by kernel_rfl) (by kernel_rfl) (fun _ _ _ h => h) (Or.inl ⟨by rfl, ?_⟩) (by assumption) ?_
          rotate_left
          · intro ww hSw
            (try dsimp only at hSw)
            go_simp <;> with_reducible rfl
          (try simp only [List.getElem_toArray, List.getElem_cons_succ, List.getElem_cons_zero, Act.put, List.setIfInBounds_toArray, List.set_cons_zero, List.set_cons_succ])
          refine wpAnyH_ready (rs := [10]) (by kernel_rfl) (by simp) ?_
          refine AllReadyH.cons (o := _) rfl (fun K hK => ?_) AllReadyH.nil
          obtain ⟨h6, h0, h1, h2, h3, h4, h5⟩ := HC.out
          clear h6
          go_simp
          clear h0 h1 h2 h3 h4 h5
          (first
            | refine hK.out _ _ (hold_dos (below_alloc1 _ _) hHeld0.out) (fun hH2 => ?_)
            | refine hK.out _ _ (hold_dos (HC.out.fill _ _).1 hHeld0.out) (fun hH2 => ?_))
          clear hK K hHeld
          have hHeld := hH2
          clear hH2
          (try simp only [List.getElem_toArray, List.getElem_cons_succ, List.getElem_cons_zero, Act.put, List.setIfInBounds_toArray, List.set_cons_zero, List.set_cons_succ])
          refine wpAnyH_take (i := 11) (oi := _) (v := ?_) rfl (by kernel_rfl) (by kernel_rfl) (by kernel_rfl) (fun _ _ _ h => h) (Or.inl ⟨by rfl, ?_⟩) (by assumption) ?_
          rotate_left
          · intro ww hSw
            (try dsimp only at hSw)
            go_simp <;> with_reducible rfl
          (try simp only [List.getElem_toArray, List.getElem_cons_succ, List.getElem_cons_zero, Act.put, List.setIfInBounds_toArray, List.set_cons_zero, List.set_cons_succ])
          refine wpAnyH_done (by kernel_rfl) ?_ _
          refine NoPanic.normal ?_
          go_wp2_with fail
          go_meet
          case rel => first | exact mid_alloc (dos_of hHeld0.out) 36 | exact mid_fill (dos_of hHeld0.out) HC.out
        refine AllReadyH.cons (o := _) rfl (fun K hK => ?_) AllReadyH.nil
        go_simp
        refine hK.out _ _ (hold_dos (below_alloc1 _ _) (by with_reducible assumption)) (fun hH2 => ?_)
        clear hK K
        (first | have HC := Lib.hid (hole_of hH2) | have HC := Lib.hid (hole_of2 hH2))
        have hHeld0 := Lib.hid hHeld
        clear hHeld
        have hHeld := hH2
        clear hH2
        (try simp only [List.getElem_toArray, List.getElem_cons_succ, List.getElem_cons_zero, Act.put, List.setIfInBounds_toArray, List.set_cons_zero, List.set_cons_succ])
        refine wpAnyH_ready (rs := [3]) (by kernel_rfl) (by simp) ?_
        refine AllReadyH.cons (o := _) rfl (fun K hK => ?_) AllReadyH.nil
        go_simp
        (first
          | (go_at_call 20; (with_reducible refine (ATX.out _ (dos_of (by with_reducible assumption)).below).mono ?_); rintro e w6 ⟨rfl, hb⟩; (try (have HC := Lib.hid (HC.out.keep hb))))
          | (go_at_call 69; (with_reducible refine (HW.out _).mono ?_); rintro e w7 ⟨rfl, hb⟩; (try (have HC := Lib.hid (HC.out.keep hb)))))
        go_wp2_with fail
        refine hK.out _ _ (hold_dos (by with_reducible assumption) (by with_reducible assumption)) (fun hH2 => ?_)
        clear hK K hHeld hb
        have hHeld := hH2
        clear hH2
        (try simp only [List.getElem_toArray, List.getElem_cons_succ, List.getElem_cons_zero, Act.put, List.setIfInBounds_toArray, List.set_cons_zero, List.set_cons_succ])
        refine wpAnyH_ready (rs := [5]) (by kernel_rfl) (by simp) ?_
        refine AllReadyH.cons (o := _) rfl (fun K hK => ?_) AllReadyH.nil
        go_simp
        (first
          | (go_at_call 20; (with_reducible refine (ATX.out _ (dos_of (by with_reducible assumption)).below).mono ?_); rintro e w6 ⟨rfl, hb⟩; (try (have HC := Lib.hid (HC.out.keep hb))))
          | (go_at_call 69; (with_reducible refine (HW.out _).mono ?_); rintro e w7 ⟨rfl, hb⟩; (try (have HC := Lib.hid (HC.out.keep hb)))))
        go_wp2_with fail
        refine hK.out _ _ (hold_dos (by with_reducible assumption) (by with_reducible assumption)) (fun hH2 => ?_)
        clear hK K hHeld hb
        have hHeld := hH2
        clear hH2
        (try simp only [List.getElem_toArray, List.getElem_cons_succ, List.getElem_cons_zero, Act.put, List.setIfInBounds_toArray, List.set_cons_zero, List.set_cons_succ])
        refine wpAnyH_take (i := 6) (oi := _) (v := ?_) rfl (by kernel_rfl) (by kernel_rfl) (by kernel_rfl) (fun _ _ _ h => h) (Or.inl ⟨by rfl, ?_⟩) (by assumption) ?_
        rotate_left
        · intro ww hSw
          (try dsimp only at hSw)
          go_simp <;> with_reducible rfl
        (try simp only [List.getElem_toArray, List.getElem_cons_succ, List.getElem_cons_zero, Act.put, List.setIfInBounds_toArray, List.set_cons_zero, List.set_cons_succ])
        refine wpAnyH_take (i := 7) (oi := _) (v := ?_) rfl (by kernel_rfl) (by kernel_rfl) (by kernel_rfl) (fun _ _ _ h => h) (Or.inl ⟨by rfl, ?_⟩) (by assumption) ?_
        rotate_left
        · intro ww hSw
          (try dsimp only at hSw)
          go_simp <;> with_reducible rfl
        (try simp only [List.getElem_toArray, List.getElem_cons_succ, List.getElem_cons_zero, Act.put, List.setIfInBounds_toArray, List.set_cons_zero, List.set_cons_succ])
        refine wpAnyH_take (i := 8) (oi := _) (v := ?_) rfl (by kernel_rfl) (by kernel_rfl) (by kernel_rfl) (fun _ _ _ h => h) (Or.inl ⟨by rfl, ?_⟩) (by assumption) ?_
        rotate_left
        · intro ww hSw
          (try dsimp only at hSw)
          go_simp <;> with_reducible rfl
        (try simp only [List.getElem_toArray, List.getElem_cons_succ, List.getElem_cons_zero, Act.put, List.setIfInBounds_toArray, List.set_cons_zero, List.set_cons_succ])
        refine wpAnyH_ready (rs := [10]) (by kernel_rfl) (by simp) ?_
        refine AllReadyH.cons (o := _) rfl (fun K hK => ?_) AllReadyH.nil
        obtain ⟨h6, h0, h1, h2, h3, h4, h5⟩ := HC.out
        clear h6
        go_simp
        clear h0 h1 h2 h3 h4 h5
        (first
          | refine hK.out _ _ (hold_dos (below_alloc1 _ _) hHeld0.out) (fun hH2 => ?_)
          | refine hK.out _ _ (hold_dos (HC.out.fill _ _).1 hHeld0.out) (fun hH2 => ?_))
        clear hK K hHeld
        have hHeld := hH2
        clear hH2
        (try simp only [List.getElem_toArray, List.getElem_cons_succ, List.getElem_cons_zero, Act.put, List.setIfInBounds_toArray, List.set_cons_zero, List.set_cons_succ])
        refine wpAnyH_take (i := 11) (oi := _) (v := ?_) rfl (by kernel_rfl) (by kernel_rfl) (by kernel_rfl) (fun _ _ _ h => h) (Or.inl ⟨by rfl, ?_⟩) (by assumption) ?_
        rotate_left
        · intro ww hSw
          (try dsimp only at hSw)
          go_simp <;> with_reducible rfl
        (try simp only [List.getElem_toArray, List.getElem_cons_succ, List.getElem_cons_zero, Act.put, List.setIfInBounds_toArray, List.set_cons_zero, List.set_cons_succ])
        refine wpAnyH_done (by kernel_rfl) ?_ _
        refine NoPanic.normal ?_
        go_wp2_with fail
        go_meet
        case rel => first | exact mid_alloc (dos_of hHeld0.out) 36 | exact mid_fill (dos_of hHeld0.out) HC.out
      case rest =>
        obtain ⟨cc, rfl, rfl, RC, D⟩ := hcut
        clear DD m1 m2 k0 m0 a5 n1 n2
        have rc0 := RC.k0; have rc1 := RC.k1
        have o0 := D.O.k0
        have DD := Lib.hid D
        have hkl : k ≤ 8 := by have := HLT.out; omega
        have szb : b + 2 ≤ wc.heap.size := by have := D.O.lt; omega
        clear D
        have OWN := Lib.hid DD.out.o
        go_wp2_with (at_builtin; refine wpList_append_own _ rfl _ _ 30 rfl (b + 2) 36 i0 (.agg #[.int .i64 0, .int .i64 0]) 2 16 Try.underlying30 hi hz0 hz1 hz2 rfl (by decide) _ _ _ rfl (OWN.out.alloc _) ⟨wc.heap.size, 0, none⟩ 1 1 [.int .i64 qn, .int .i64 qd] rfl rfl ?c1 ?c2 ?c3 ?c4 ?c5 ?_)
        case c1 => exact one_pair _ _ _
        case c2 => intro u hu; simp at hu; rcases hu with rfl | rfl <;> rfl
        case c3 => unfold maxLen; omega
        case c4 => omega
        case c5 => simp; omega
        intro v' w8 hown' hgrow _
        obtain ⟨Av8, cv8, rfl⟩ := own_shape hown'
        have D8 := DD.out.push (q := (qn, qd)) hgrow hown'
        have g8 := grown_belowR szb OWN.out hgrow
        have o8 := (DD.out.O.keepB g8 (by omega)).k0
        have f8 := (DD.out.O.keepB g8 (by omega)).l0
        have D8 := Lib.hid D8
        clear hown' hgrow g8
        have wk : IntKind.i64.wrap ((k : Int) + 1) = (k : Int) + 1 := IntWalk.i64_in _ (by have := HLT.out; omega)
        go_wp2_with fail
        go_roundg (ll - (k + 1))
        case measure => have := HK.out; have := HLT.out; omega
        case rel => exact ⟨k + 1, _, by push_cast; rfl, by have := HLT.out; omega, rfl, HC2.out, by rw [NX.out]; exact D8.out⟩

set_option maxRecDepth 4000 in
set_option maxHeartbeats 4000000 in
theorem rdo_times_no (w : World) (va : Value) (l : List (Int × Int)) (kx kb : Int × Int) (ha : RatsAt w va l) (hl : AllOk l) (hx : OkR kx) (hy : OkR kb) (h8 : l.length ≤ 8)
    (hno : ¬ (((scaleH kb) kx (0, 1)).2 = 0 ∧ combOk (scaleH kb) l [] l.length)) :
    Calls Try.prog 103 #[.int .i64 2, .agg #[va, .int .i64 kx.1, .int .i64 kx.2], .agg #[.slice none 0 0, .int .i64 kb.1, .int .i64 kb.2]] w (TermPut w [] (0, 0) 3) := by
  obtain ⟨i0, hi, hz0, hz1, hz2⟩ := info_parts infoR
  have hm : AllOk [] := fun x hx => by cases hx
  have hb : RatsAt w (.slice none 0 0) [] := RatsAt.nil w
  have ra := fun (w' : World) (h : Below w.heap.size w w') => r2right_any w' va l kx.1 kx.2 (ha.below h) hl.wide hx.wide.1.1 hx.wide.1.2 hx.wide.2.1 hx.wide.2.2
  rw [right_mk h8 hl hx] at ra
  have rb := fun (w' : World) (_ : Below w.heap.size w w') => r2right_any w' (.slice none 0 0) [] kb.1 kb.2 (RatsAt.nil w') hm.wide hy.wide.1.1 hy.wide.1.2 hy.wide.2.1 hy.wide.2.2
  rw [right_mk (by simp) hm hy] at rb
  have h1 : ∀ (w' : World), Calls Try.prog 69 #[.int .i64 2, ratV kx.1 kx.2, ratV kb.1 kb.2] w' fun r w2 => r = .returned (.tuple #[ratV (scaleH kb kx (0, 1)).1.1 (scaleH kb kx (0, 1)).1.2, .int .i64 (scaleH kb kx (0, 1)).2]) ∧ Below w'.heap.size w' w2 := fun w' => rdo_mul w' kx kb hx hy
  have HOW : ∀ (w' : World) (k : Nat), Calls Try.prog 69 #[.int .i64 2, ratV (atL l k).1 (atL l k).2, ratV kb.1 kb.2] w' fun r w2 => r = .returned (.tuple #[ratV (scaleH kb (atL l k) (atL [] k)).1.1 (scaleH kb (atL l k) (atL [] k)).1.2, .int .i64 (scaleH kb (atL l k) (atL [] k)).2]) ∧ Below w'.heap.size w' w2 := fun w' k => rdo_mul w' _ _ (hl.at k) hy
  have HOW := Lib.hid HOW
  by_cases hk : ((scaleH kb) kx (0, 1)).2 = 0
  rotate_left
  · have hz := (scaleH_ok hy).no kx (0, 1) hx okR_nought hk
    rw [hz] at h1
    obtain ⟨A, c, rfl⟩ := rats_shape ha
    have H1 := Lib.hid h1; have RA := Lib.hid ra; have RB := Lib.hid rb
    clear h1 ra rb ha hb hl hm hx hy hk hz hno HOW h8
    generalize l.length = ll at *
    obtain ⟨xn, xd⟩ := kx
    generalize kb.1 = bn at *
    generalize kb.2 = bd at *
    dsimp only at *
    obtain ⟨F, G, E, hb0⟩ := three_boxes w (.slice A ll c) (.int .i64 xn) (.int .i64 xd) (.slice none 0 0) (.int .i64 bn) (.int .i64 bd) (.slice none 0 0) (.int .i64 0) (.int .i64 0) 39
    go_enter Try.func103, Try.ntmps103
    go_upto_region 4 with (first
      | (go_at_call 39; (first
        | (with_reducible refine (RA.out _ hb0).mono ?_); rintro e w1 ⟨rfl, hb1⟩; have F := F.keep hb1; have G := G.keep hb1; have E := E.keep hb1; have b1 := hb0.trans (hb1.mono hb0.size); have k1 := F.k1; have k2 := F.k2; have m0 := G.k0; have m1 := G.k1; have m2 := G.k2
        | (with_reducible refine (RB.out _ b1).mono ?_); rintro e w2 ⟨rfl, hb2⟩; have F := F.keep hb2; have G := G.keep hb2; have E := E.keep hb2; have b2 := b1.trans (hb2.mono b1.size); have k1 := F.k1; have k2 := F.k2; have m1 := G.k1; have m2 := G.k2))
      | (go_at_call 69; (with_reducible refine (H1.out _).mono ?_); rintro e w3 ⟨rfl, hb3⟩; have E := E.keep hb3; have b3 := b2.trans (hb3.mono b2.size)))
    have a1 := below_alloc1 w3 (.cells #[.int .i64 0, .int .i64 0] 36)
    have E := E.keep a1
    have b4 := Lib.hid (b3.trans (a1.mono b3.size))
    have k0 := E.k0; have k1 := E.k1; have k2 := E.k2; have l0 := E.l0; have l1 := E.l1; have l2 := E.l2
    clear hb1 hb2 hb3 hb0 a1 F G b1 b2 b3
    go_wp2_with fail
    obtain ⟨c0, c1, c2⟩ := set_three (x := .slice none 0 0) (y := .int .i64 0) (z := .int .i64 0) k0 k1 k2
    refine bodyPost_ret (v := .tuple #[.agg #[.slice none 0 0, .int .i64 0, .int .i64 0], .int .i64 3]) (by simp [results, Try.results103, go_sem, c0, c1, c2]) rfl ⟨_, rfl, RatsAt.nil _, ?_, Fresh.none_ _ _ _⟩
    exact ((b4.out.setCell (by show w.heap.size ≤ w.heap.size + 1 + 1; omega) _).setCell (by show w.heap.size ≤ w.heap.size + 1 + 1; omega) _).setCell (by show w.heap.size ≤ w.heap.size + 1 + 1; omega) _
  have hno2 : ¬ combOk (scaleH kb) l [] l.length := fun q => hno ⟨hk, q⟩
  rw [hk] at h1
  obtain ⟨A, c, rfl⟩ := rats_shape ha
  have HN := Lib.hid (And.intro (rfl : l.length = l.length) hno2)
  have HH := Lib.hid (fun k : Nat => (scaleH_ok hy).no _ _ (hl.at k) (hm.at k))
  have H1 := Lib.hid h1; have RA := Lib.hid ra; have RB := Lib.hid rb
  have TS := Lib.hid (And.intro ha hb)
  clear h1 ra rb ha hb hl hm hx hy hk hno hno2
  generalize l.length = ll at *
  generalize ((scaleH kb) kx (0, 1)).1 = z at *
  obtain ⟨zn, zd⟩ := z
  obtain ⟨xn, xd⟩ := kx
  generalize kb.1 = bn at *
  generalize kb.2 = bd at *
  dsimp only at *
  obtain ⟨F, G, E, hb0⟩ := three_boxes w (.slice A ll c) (.int .i64 xn) (.int .i64 xd) (.slice none 0 0) (.int .i64 bn) (.int .i64 bd) (.slice none 0 0) (.int .i64 0) (.int .i64 0) 39
  go_enter Try.func103, Try.ntmps103
  go_upto_region 6 with (first
    | (go_at_call 39; (first
      | (with_reducible refine (RA.out _ hb0).mono ?_); rintro e w1 ⟨rfl, hb1⟩; have F := F.keep hb1; have G := G.keep hb1; have E := E.keep hb1; have b1 := hb0.trans (hb1.mono hb0.size); have k1 := F.k1; have k2 := F.k2; have m0 := G.k0; have m1 := G.k1; have m2 := G.k2
      | (with_reducible refine (RB.out _ b1).mono ?_); rintro e w2 ⟨rfl, hb2⟩; have F := F.keep hb2; have G := G.keep hb2; have E := E.keep hb2; have b2 := b1.trans (hb2.mono b1.size); have k1 := F.k1; have k2 := F.k2; have m1 := G.k1; have m2 := G.k2))
    | (go_at_call 69; (with_reducible refine (H1.out _).mono ?_); rintro e w3 ⟨rfl, hb3⟩; have F := F.keep hb3; have G := G.keep hb3; have E := E.keep hb3; have e3 := E.lt; have b3 := b2.trans (hb3.mono b2.size)))
  clear hb1 hb2 hb3 hb0 b1 b2 k1 k2 m0 m1 m2
  go_upto_region 7 with fail
  have a1 := below_alloc1 w3 (.cells #[.int .i64 zn, .int .i64 zd] 36)
  have a2 := below_alloc1 (w3.alloc (.cells #[.int .i64 zn, .int .i64 zd] 36)) (.cells #[.slice none 0 0, .int .i64 zn, .int .i64 zd] 39)
  have O := FracBox.start (w3.alloc (.cells #[.int .i64 zn, .int .i64 zd] 36)) (.slice none 0 0) (.int .i64 zn) (.int .i64 zd) 39
  rw [World.size_alloc] at O
  have b5 := b3.trans (a1.mono b3.size)
  have D0 : DoS w ((w3.alloc (.cells #[.int .i64 zn, .int .i64 zd] 36)).alloc (.cells #[.slice none 0 0, .int .i64 zn, .int .i64 zd] 39)) w3.heap.size 0 (.slice A ll c) xn xd (.slice none 0 0) bn bd zn zd (.slice none 0 0) (doneK (scaleH kb) l [] 0) :=
    ⟨(F.keep a1).keep a2, (G.keep a1).keep a2, (E.keep a1).keep a2, O, ⟨rfl, .inl ⟨rfl, rfl⟩⟩, e3, b5.trans (a2.mono b5.size)⟩
  generalize w3.heap.size = b at *
  have D0 := Lib.hid D0
  clear F G E O a1 a2 b3 b5 e3
  go_wp2_with fail
  go_loopg [11] ll (fun g v11 wr => ∃ (k : Nat) (v : Value), v11 = .int .i64 k ∧ k ≤ ll ∧ g = ll - k ∧ combOk (scaleH kb) l [] k ∧ DoS w wr b k (.slice A ll c) xn xd (.slice none 0 0) bn bd zn zd v (doneK (scaleH kb) l [] k))
  case atStart => exact ⟨0, _, rfl, Nat.zero_le _, rfl, fun i hi => absurd hi (Nat.not_lt_zero _), D0.out⟩
  case round =>
    clear D0
    obtain ⟨k, v, rfl, hk, hg, hck, D⟩ := hrel
    have k0 := D.F.k0
    have m0 := D.G.k0
    by_cases hkn : k = ll
    · subst hkn
      exact absurd hck HN.out.2
    · have hlt : k < ll := by omega
      have i2 : (0 : Int) ≤ (k : Int) := by omega
      by_cases he0 : ((scaleH kb) (atL l k) (atL [] k)).2 = 0
      · have hx1 : decide ((k : Int) < (ll : Int)) = true := decide_eq_true (by omega)
        have hx3 : (k : Int) < (ll : Int) := by omega
        have hx5 : decide (k < ll) = true := decide_eq_true (by omega)
        have atx := fun (w' : World) (hb : Below w.heap.size w w') => rat_any w' (.slice A ll c) l xn xd k (TS.out.1.below hb)
        have aty := fun (w' : World) (hb : Below w.heap.size w w') => rat_any w' (.slice none 0 0) [] bn bd k (TS.out.2.below hb)
        have hw := fun (w' : World) => HOW.out w' k
        rw [he0] at hw
        have ATX := Lib.hid atx; have ATY := Lib.hid aty; have HW := Lib.hid hw
        have HLT := Lib.hid hlt
        have HK := Lib.hid hg
        have HC2 : Hid (combOk (scaleH kb) l [] (k + 1)) := fun i hi => by
          rcases Nat.lt_or_ge i k with g | g
          · exact hck i g
          · obtain rfl : i = k := by omega
            exact he0
        have NX := Lib.hid (doneK_next (scaleH kb) l [] k)
        have DD := Lib.hid D
        have m1 := D.G.k1; have m2 := D.G.k2
        clear atx aty hw D hck he0 hg hkn hk hlt
        generalize ((scaleH kb) (atL l k) (atL [] k)).1 = q at *
        obtain ⟨qn, qd⟩ := q
        generalize atL l k = x at *
        generalize atL [] k = y at *
        obtain ⟨x1, x2⟩ := x
        obtain ⟨y1, y2⟩ := y
        dsimp only at *
        go_upto_region 13 with (go_at_call 20; (with_reducible refine (ATY.out _ DD.out.below).mono ?_); rintro e w5 ⟨rfl, hb⟩; have DD := Lib.hid (DD.out.keep hb); have m1 := DD.out.G.k1; have m2 := DD.out.G.k2; have a5 := DD.out.keep (below_alloc1 w5 (.cells #[.int .i64 y1, .int .i64 y2] 36)); have n1 := a5.G.k1; have n2 := a5.G.k2; clear hb)
        go_cut [13, 14] from 39 to 78 (fun v13 v14 wx => DoMidT w b k (.slice A ll c) xn xd (.slice none 0 0) bn bd zn zd v (doneK (scaleH kb) l [] k) qn qd 0 v13 v14 wx)
        case first =>
          have HS := hold_dos (below_drew _) ((DD.out.keep (below_alloc1 w5 (.cells #[.int .i64 bn, .int .i64 bd] 36))).cells (RatAt.start w5 bn bd 36))
          generalize w5.heap.size = cy at *
          generalize w5.alloc (.cells #[.int .i64 bn, .int .i64 bd] 36) = wq at *
          clear DD m1 m2 k0 m0 a5 n1 n2
          refine wp_region_noPanic ?_
          refine wp_region_held_drew (S := (fun w' => ((w'.cell? ⟨w.heap.size, 0, none⟩ = some (.slice A ll c) ∧ w'.cell? ⟨w.heap.size, 1, none⟩ = some (.int .i64 xn) ∧ w'.cell? ⟨w.heap.size, 2, none⟩ = some (.int .i64 xd)) ∧ (w'.cell? ⟨cy, 0, none⟩ = some (.int .i64 bn) ∧ w'.cell? ⟨cy, 1, none⟩ = some (.int .i64 bd)) ∧ RatAt w' cy bn bd) ∧ DoS w w' b k (.slice A ll c) xn xd (.slice none 0 0) bn bd zn zd v (doneK (scaleH kb) l [] k))) (by kernel_rfl) HS (fun hHeld => ?_)
          clear HS
          refine wpAnyH_take (i := 0) (oi := _) (v := ?_) rfl (by kernel_rfl) (by kernel_rfl) (by kernel_rfl) (fun _ _ _ h => h) (Or.inl ⟨by rfl, ?_⟩) (by assumption) ?_
          rotate_left
          · intro ww hSw
            (try dsimp only at hSw)
            go_simp <;> with_reducible rfl
          (try simp only [List.getElem_toArray, List.getElem_cons_zero, Act.put, List.setIfInBounds_toArray, List.set_cons_zero, List.set_cons_succ])
          refine wpAnyH_take (i := 1) (oi := _) (v := ?_) rfl (by kernel_rfl) (by kernel_rfl) (by kernel_rfl) (fun _ _ _ h => h) (Or.inl ⟨by rfl, ?_⟩) (by assumption) ?_
          rotate_left
          · intro ww hSw
            (try dsimp only at hSw)
            go_simp <;> with_reducible rfl
          (try simp only [List.getElem_toArray, List.getElem_cons_succ, List.getElem_cons_zero, Act.put, List.setIfInBounds_toArray, List.set_cons_zero, List.set_cons_succ])
          refine wpAnyH_take (i := 2) (oi := _) (v := ?_) rfl (by kernel_rfl) (by kernel_rfl) (by kernel_rfl) (fun _ _ _ h => h) (Or.inl ⟨by rfl, ?_⟩) (by assumption) ?_
          rotate_left
          · intro ww hSw
            (try dsimp only at hSw)
            go_simp <;> with_reducible rfl
          (try simp only [List.getElem_toArray, List.getElem_cons_succ, List.getElem_cons_zero, Act.put, List.setIfInBounds_toArray, List.set_cons_zero, List.set_cons_succ])
          refine wpAnyH_take (i := 4) (oi := _) (v := ?_) rfl (by kernel_rfl) (by kernel_rfl) (by kernel_rfl) (fun _ _ _ h => h) (Or.inl ⟨by rfl, ?_⟩) (by assumption) ?_
          rotate_left
          · intro ww hSw
            (try dsimp only at hSw)
            go_simp <;> with_reducible rfl
          (try simp only [List.getElem_toArray, List.getElem_cons_succ, List.getElem_cons_zero, Act.put, List.setIfInBounds_toArray, List.set_cons_zero, List.set_cons_succ])
          refine wpAnyH_ready (rs := [3, 9]) (by kernel_rfl) (by simp) ?_
          refine AllReadyH.cons (o := _) rfl (fun K hK => ?_) ?_
          · go_simp
            (first
              | (go_at_call 20; (with_reducible refine (ATX.out _ (dos_of (by with_reducible assumption)).below).mono ?_); rintro e w6 ⟨rfl, hb⟩; (try (have HC := Lib.hid (HC.out.keep hb))))
              | (go_at_call 69; (with_reducible refine (HW.out _).mono ?_); rintro e w7 ⟨rfl, hb⟩; (try (have HC := Lib.hid (HC.out.keep hb)))))
            go_wp2_with fail
            refine hK.out _ _ (hold_dos (by with_reducible assumption) (by with_reducible assumption)) (fun hH2 => ?_)
            clear hK K hHeld hb
            have hHeld := hH2
            clear hH2
            (try simp only [List.getElem_toArray, List.getElem_cons_succ, List.getElem_cons_zero, Act.put, List.setIfInBounds_toArray, List.set_cons_zero, List.set_cons_succ])
            refine wpAnyH_ready (rs := [5, 9]) (by kernel_rfl) (by simp) ?_
            refine AllReadyH.cons (o := _) rfl (fun K hK => ?_) ?_
            · go_simp
              (first
                | (go_at_call 20; (with_reducible refine (ATX.out _ (dos_of (by with_reducible assumption)).below).mono ?_); rintro e w6 ⟨rfl, hb⟩; (try (have HC := Lib.hid (HC.out.keep hb))))
                | (go_at_call 69; (with_reducible refine (HW.out _).mono ?_); rintro e w7 ⟨rfl, hb⟩; (try (have HC := Lib.hid (HC.out.keep hb)))))
              go_wp2_with fail
              refine hK.out _ _ (hold_dos (by with_reducible assumption) (by with_reducible assumption)) (fun hH2 => ?_)
              clear hK K hHeld hb
              have hHeld := hH2
              clear hH2
              (try simp only [List.getElem_toArray, List.getElem_cons_succ, List.getElem_cons_zero, Act.put, List.setIfInBounds_toArray, List.set_cons_zero, List.set_cons_succ])
              refine wpAnyH_take (i := 6) (oi := _) (v := ?_) rfl (by kernel_rfl) (by kernel_rfl) (by kernel_rfl) (fun _ _ _ h => h) (Or.inl ⟨by rfl, ?_⟩) (by assumption) ?_
              rotate_left
              · intro ww hSw
                (try dsimp only at hSw)
                go_simp <;> with_reducible rfl
              (try simp only [List.getElem_toArray, List.getElem_cons_succ, List.getElem_cons_zero, Act.put, List.setIfInBounds_toArray, List.set_cons_zero, List.set_cons_succ])
              refine wpAnyH_take (i := 7) (oi := _) (v := ?_) rfl (by kernel_rfl) (by kernel_rfl) (by kernel_rfl) (fun _ _ _ h => h) (Or.inl ⟨by rfl, ?_⟩) (by assumption) ?_
              rotate_left
              · intro ww hSw
                (try dsimp only at hSw)
                go_simp <;> with_reducible rfl
              (try simp only [List.getElem_toArray, List.getElem_cons_succ, List.getElem_cons_zero, Act.put, List.setIfInBounds_toArray, List.set_cons_zero, List.set_cons_succ])
              refine wpAnyH_take (i := 8) (oi := _) (v := ?_) rfl (by kernel_rfl) (by kernel_rfl) (by kernel_rfl) (fun _ _ _ h => h) (Or.inl ⟨by rfl, ?_⟩) (by assumption) ?_
              rotate_left
              · intro ww hSw
                (try dsimp only at hSw)
                go_simp <;> with_reducible rfl
              (try simp only [List.getElem_toArray, List.getElem_cons_succ, List.getElem_cons_zero, Act.put, List.setIfInBounds_toArray, List.set_cons_zero, List.set_cons_succ])
              refine wpAnyH_ready (rs := [9]) (by kernel_rfl) (by simp) ?_
              refine AllReadyH.cons (o := _) rfl (fun K hK => ?_) AllReadyH.nil
              go_simp
              refine hK.out _ _ (hold_dos (below_alloc1 _ _) (by with_reducible assumption)) (fun hH2 => ?_)
              clear hK K
              (first | have HC := Lib.hid (hole_of hH2) | have HC := Lib.hid (hole_of2 hH2))
              have hHeld0 := Lib.hid hHeld
              clear hHeld
              have hHeld := hH2
              clear hH2
              (try simp only [List.getElem_toArray, List.getElem_cons_succ, List.getElem_cons_zero, Act.put, List.setIfInBounds_toArray, List.set_cons_zero, List.set_cons_succ])
              refine wpAnyH_ready (rs := [10]) (by kernel_rfl) (by simp) ?_
              refine AllReadyH.cons (o := _) rfl (fun K hK => ?_) AllReadyH.nil
              obtain ⟨h6, h0, h1, h2, h3, h4, h5⟩ := HC.out
              clear h6
              go_simp
              clear h0 h1 h2 h3 h4 h5
              (first
                | refine hK.out _ _ (hold_dos (below_alloc1 _ _) hHeld0.out) (fun hH2 => ?_)
                | refine hK.out _ _ (hold_dos (HC.out.fill _ _).1 hHeld0.out) (fun hH2 => ?_))
              clear hK K hHeld
              have hHeld := hH2
              clear hH2
              (try simp only [List.getElem_toArray, List.getElem_cons_succ, List.getElem_cons_zero, Act.put, List.setIfInBounds_toArray, List.set_cons_zero, List.set_cons_succ])
              refine wpAnyH_take (i := 11) (oi := _) (v := ?_) rfl (by kernel_rfl) (by kernel_rfl) (by kernel_rfl) (fun _ _ _ h => h) (Or.inl ⟨by rfl, ?_⟩) (by assumption) ?_
              rotate_left
              · intro ww hSw
                (try dsimp only at hSw)
                go_simp <;> with_reducible rfl
              (try simp only [List.getElem_toArray, List.getElem_cons_succ, List.getElem_cons_zero, Act.put, List.setIfInBounds_toArray, List.set_cons_zero, List.set_cons_succ])
              refine wpAnyH_done (by kernel_rfl) ?_ _
              refine NoPanic.normal ?_
              go_wp2_with fail
              go_meet
              case rel => first | exact mid_alloc (dos_of hHeld0.out) 36 | exact mid_fill (dos_of hHeld0.out) HC.out
            refine AllReadyH.cons (o := _) rfl (fun K hK => ?_) AllReadyH.nil
            go_simp
            refine hK.out _ _ (hold_dos (below_alloc1 _ _) (by with_reducible assumption)) (fun hH2 => ?_)
            clear hK K
            (first | have HC := Lib.hid (hole_of hH2) | have HC := Lib.hid (hole_of2 hH2))
            have hHeld0 := Lib.hid hHeld
            clear hHeld
            have hHeld := hH2
            clear hH2
            (try simp only [List.getElem_toArray, List.getElem_cons_succ, List.getElem_cons_zero, Act.put, List.setIfInBounds_toArray, List.set_cons_zero, List.set_cons_succ])
            refine wpAnyH_ready (rs := [5]) (by kernel_rfl) (by simp) ?_
            refine AllReadyH.cons (o := _) rfl (fun K hK => ?_) AllReadyH.nil
            go_simp
            (first
              | (go_at_call 20; (with_reducible refine (ATX.out _ (dos_of (by with_reducible assumption)).below).mono ?_); rintro e w6 ⟨rfl, hb⟩; (try (have HC := Lib.hid (HC.out.keep hb))))
              | (go_at_call 69; (with_reducible refine (HW.out _).mono ?_); rintro e w7 ⟨rfl, hb⟩; (try (have HC := Lib.hid (HC.out.keep hb)))))
            go_wp2_with fail
            refine hK.out _ _ (hold_dos (by with_reducible assumption) (by with_reducible assumption)) (fun hH2 => ?_)
            clear hK K hHeld hb
            have hHeld := hH2
            clear hH2
            (try simp only [List.getElem_toArray, List.getElem_cons_succ, List.getElem_cons_zero, Act.put, List.setIfInBounds_toArray, List.set_cons_zero, List.set_cons_succ])
            refine wpAnyH_take (i := 6) (oi := _) (v := ?_) rfl (by kernel_rfl) (by kernel_rfl) (by kernel_rfl) (fun _ _ _ h => h) (Or.inl ⟨by rfl, ?_⟩) (by assumption) ?_
            rotate_left
            · intro ww hSw
              (try dsimp only at hSw)
              go_simp <;> with_reducible rfl
            (try simp only [List.getElem_toArray, List.getElem_cons_succ, List.getElem_cons_zero, Act.put, List.setIfInBounds_toArray, List.set_cons_zero, List.set_cons_succ])
            refine wpAnyH_take (i := 7) (oi := _) (v := ?_) rfl (by kernel_rfl) (by kernel_rfl) (by kernel_rfl) (fun _ _ _ h => h) (Or.inl ⟨by rfl, ?_⟩) (by assumption) ?_
            rotate_left
            · intro ww hSw
              (try dsimp only at hSw)
              go_simp <;> with_reducible rfl
            (try simp only [List.getElem_toArray, List.getElem_cons_succ, List.getElem_cons_zero, Act.put, List.setIfInBounds_toArray, List.set_cons_zero, List.set_cons_succ])
            refine wpAnyH_take (i := 8) (oi := _) (v := ?_) rfl (by kernel_rfl) (by kernel_rfl) (by kernel_rfl) (fun _ _ _ h => h) (Or.inl ⟨by rfl, ?_⟩) (by assumption) ?_
            rotate_left
            · intro ww hSw
              (try dsimp only at hSw)
              go_simp <;> with_reducible rfl
            (try simp only [List.getElem_toArray, List.getElem_cons_succ, List.getElem_cons_zero, Act.put, List.setIfInBounds_toArray, List.set_cons_zero, List.set_cons_succ])
            refine wpAnyH_ready (rs := [10]) (by kernel_rfl) (by simp) ?_
            refine AllReadyH.cons (o := _) rfl (fun K hK => ?_) AllReadyH.nil
            obtain ⟨h6, h0, h1, h2, h3, h4, h5⟩ := HC.out
            clear h6
            go_simp
            clear h0 h1 h2 h3 h4 h5
            (first
              | refine hK.out _ _ (hold_dos (below_alloc1 _ _) hHeld0.out) (fun hH2 => ?_)
              | refine hK.out _ _ (hold_dos (HC.out.fill _ _).1 hHeld0.out) (fun hH2 => ?_))
            clear hK K hHeld
            have hHeld := hH2
            clear hH2
            (try simp only [List.getElem_toArray, List.getElem_cons_succ, List.getElem_cons_zero, Act.put, List.setIfInBounds_toArray, List.set_cons_zero, List.set_cons_succ])
            refine wpAnyH_take (i := 11) (oi := _) (v := ?_) rfl (by kernel_rfl) (by kernel_rfl) (by kernel_rfl) (fun _ _ _ h => h) (Or.inl ⟨by rfl, ?_⟩) (by assumption) ?_
            rotate_left
            · intro ww hSw
              (try dsimp only at hSw)
              go_simp <;> with_reducible rfl
            (try simp only [List.getElem_toArray, List.getElem_cons_succ, List.getElem_cons_zero, Act.put, List.setIfInBounds_toArray, List.set_cons_zero, List.set_cons_succ])
            refine wpAnyH_done (by kernel_rfl) ?_ _
            refine NoPanic.normal ?_
            go_wp2_with fail
            go_meet
            case rel => first | exact mid_alloc (dos_of hHeld0.out) 36 | exact mid_fill (dos_of hHeld0.out) HC.out
          refine AllReadyH.cons (o := _) rfl (fun K hK => ?_) AllReadyH.nil
          go_simp
          refine hK.out _ _ (hold_dos (below_alloc1 _ _) (by with_reducible assumption)) (fun hH2 => ?_)
          clear hK K
          (first | have HC := Lib.hid (hole_of hH2) | have HC := Lib.hid (hole_of2 hH2))
          have hHeld0 := Lib.hid hHeld
          clear hHeld
          have hHeld := hH2
          clear hH2
          (try simp only [List.getElem_toArray, List.getElem_cons_succ, List.getElem_cons_zero, Act.put, List.setIfInBounds_toArray, List.set_cons_zero, List.set_cons_succ])
          refine wpAnyH_ready (rs := [3]) (by kernel_rfl) (by simp) ?_
          refine AllReadyH.cons (o := _) rfl (fun K hK => ?_) AllReadyH.nil
          go_simp
          (first
            | (go_at_call 20; (with_reducible refine (ATX.out _ (dos_of (by with_reducible assumption)).below).mono ?_); rintro e w6 ⟨rfl, hb⟩; (try (have HC := Lib.hid (HC.out.keep hb))))
            | (go_at_call 69; (with_reducible refine (HW.out _).mono ?_); rintro e w7 ⟨rfl, hb⟩; (try (have HC := Lib.hid (HC.out.keep hb)))))
          go_wp2_with fail
          refine hK.out _ _ (hold_dos (by with_reducible assumption) (by with_reducible assumption)) (fun hH2 => ?_)
          clear hK K hHeld hb
          have hHeld := hH2
          clear hH2
          (try simp only [List.getElem_toArray, List.getElem_cons_succ, List.getElem_cons_zero, Act.put, List.setIfInBounds_toArray, List.set_cons_zero, List.set_cons_succ])
          refine wpAnyH_ready (rs := [5]) (by kernel_rfl) (by simp) ?_
          refine AllReadyH.cons (o := _) rfl (fun K hK => ?_) AllReadyH.nil
          go_simp
          (first
            | (go_at_call 20; (with_reducible refine (ATX.out _ (dos_of (by with_reducible assumption)).below).mono ?_); rintro e w6 ⟨rfl, hb⟩; (try (have HC := Lib.hid (HC.out.keep hb))))
            | (go_at_call 69; (with_reducible refine (HW.out _).mono ?_); rintro e w7 ⟨rfl, hb⟩; (try (have HC := Lib.hid (HC.out.keep hb)))))
          go_wp2_with fail
          refine hK.out _ _ (hold_dos (by with_reducible assumption) (by with_reducible assumption)) (fun hH2 => ?_)
          clear hK K hHeld hb
          have hHeld := hH2
          clear hH2
          (try simp only [List.getElem_toArray, List.getElem_cons_succ, List.getElem_cons_zero, Act.put, List.setIfInBounds_toArray, List.set_cons_zero, List.set_cons_succ])
          refine wpAnyH_take (i := 6) (oi := _) (v := ?_) rfl (by kernel_rfl) (by kernel_rfl) (by kernel_rfl) (fun _ _ _ h => h) (Or.inl ⟨by rfl, ?_⟩) (by assumption) ?_
          rotate_left
          · intro ww hSw
            (try dsimp only at hSw)
            go_simp <;> with_reducible rfl
          (try simp only [List.getElem_toArray, List.getElem_cons_succ, List.getElem_cons_zero, Act.put, List.setIfInBounds_toArray, List.set_cons_zero, List.set_cons_succ])
          refine wpAnyH_take (i := 7) (oi := _) (v := ?_) rfl (by kernel_rfl) (by kernel_rfl) (by kernel_rfl) (fun _ _ _ h => h) (Or.inl ⟨by rfl, ?_⟩) (by assumption) ?_
          rotate_left
          · intro ww hSw
            (try dsimp only at hSw)
            go_simp <;> with_reducible rfl
          (try simp only [List.getElem_toArray, List.getElem_cons_succ, List.getElem_cons_zero, Act.put, List.setIfInBounds_toArray, List.set_cons_zero, List.set_cons_succ])
          refine wpAnyH_take (i := 8) (oi := _) (v := ?_) rfl (by kernel_rfl) (by kernel_rfl) (by kernel_rfl) (fun _ _ _ h => h) (Or.inl ⟨by rfl, ?_⟩) (by assumption) ?_
          rotate_left
          · intro ww hSw
            (try dsimp only at hSw)
            go_simp <;> with_reducible rfl
          (try simp only [List.getElem_toArray, List.getElem_cons_succ, List.getElem_cons_zero, Act.put, List.setIfInBounds_toArray, List.set_cons_zero, List.set_cons_succ])
          refine wpAnyH_ready (rs := [10]) (by kernel_rfl) (by simp) ?_
          refine AllReadyH.cons (o := _) rfl (fun K hK => ?_) AllReadyH.nil
          obtain ⟨h6, h0, h1, h2, h3, h4, h5⟩ := HC.out
          clear h6
          go_simp
          clear h0 h1 h2 h3 h4 h5
          (first
            | refine hK.out _ _ (hold_dos (below_alloc1 _ _) hHeld0.out) (fun hH2 => ?_)
            | refine hK.out _ _ (hold_dos (HC.out.fill _ _).1 hHeld0.out) (fun hH2 => ?_))
          clear hK K hHeld
          have hHeld := hH2
          clear hH2
          (try simp only [List.getElem_toArray, List.getElem_cons_succ, List.getElem_cons_zero, Act.put, List.setIfInBounds_toArray, List.set_cons_zero, List.set_cons_succ])
          refine wpAnyH_take (i := 11) (oi := _) (v := ?_) rfl (by kernel_rfl) (by kernel_rfl) (by kernel_rfl) (fun _ _ _ h => h) (Or.inl ⟨by rfl, ?_⟩) (by assumption) ?_
          rotate_left
          · intro ww hSw
            (try dsimp only at hSw)
            go_simp <;> with_reducible rfl
          (try simp only [List.getElem_toArray, List.getElem_cons_succ, List.getElem_cons_zero, Act.put, List.setIfInBounds_toArray, List.set_cons_zero, List.set_cons_succ])
          refine wpAnyH_done (by kernel_rfl) ?_ _
          refine NoPanic.normal ?_
          go_wp2_with fail
          go_meet
          case rel => first | exact mid_alloc (dos_of hHeld0.out) 36 | exact mid_fill (dos_of hHeld0.out) HC.out
        case rest =>
          obtain ⟨cc, rfl, rfl, RC, D⟩ := hcut
          clear DD m1 m2 k0 m0 a5 n1 n2
          have rc0 := RC.k0; have rc1 := RC.k1
          have o0 := D.O.k0
          have DD := Lib.hid D
          have hkl : k ≤ 8 := by have := HLT.out; omega
          have szb : b + 2 ≤ wc.heap.size := by have := D.O.lt; omega
          clear D
          have OWN := Lib.hid DD.out.o
          go_wp2_with (at_builtin; refine wpList_append_own _ rfl _ _ 30 rfl (b + 2) 36 i0 (.agg #[.int .i64 0, .int .i64 0]) 2 16 Try.underlying30 hi hz0 hz1 hz2 rfl (by decide) _ _ _ rfl (OWN.out.alloc _) ⟨wc.heap.size, 0, none⟩ 1 1 [.int .i64 qn, .int .i64 qd] rfl rfl ?c1 ?c2 ?c3 ?c4 ?c5 ?_)
          case c1 => exact one_pair _ _ _
          case c2 => intro u hu; simp at hu; rcases hu with rfl | rfl <;> rfl
          case c3 => unfold maxLen; omega
          case c4 => omega
          case c5 => simp; omega
          intro v' w8 hown' hgrow _
          obtain ⟨Av8, cv8, rfl⟩ := own_shape hown'
          have D8 := DD.out.push (q := (qn, qd)) hgrow hown'
          have g8 := grown_belowR szb OWN.out hgrow
          have o8 := (DD.out.O.keepB g8 (by omega)).k0
          have f8 := (DD.out.O.keepB g8 (by omega)).l0
          have D8 := Lib.hid D8
          clear hown' hgrow g8
          have wk : IntKind.i64.wrap ((k : Int) + 1) = (k : Int) + 1 := IntWalk.i64_in _ (by have := HLT.out; omega)
          go_wp2_with fail
          go_roundg (ll - (k + 1))
          case measure => have := HK.out; have := HLT.out; omega
          case rel => exact ⟨k + 1, _, by push_cast; rfl, by have := HLT.out; omega, rfl, HC2.out, by rw [NX.out]; exact D8.out⟩
      · have hx1 : decide ((k : Int) < (ll : Int)) = true := decide_eq_true (by omega)
        have hx3 : (k : Int) < (ll : Int) := by omega
        have hx5 : decide (k < ll) = true := decide_eq_true (by omega)
        have atx := fun (w' : World) (hb : Below w.heap.size w w') => rat_any w' (.slice A ll c) l xn xd k (TS.out.1.below hb)
        have aty := fun (w' : World) (hb : Below w.heap.size w w') => rat_any w' (.slice none 0 0) [] bn bd k (TS.out.2.below hb)
        have hw := fun (w' : World) => HOW.out w' k
        rw [HH.out k he0] at hw
        have ATX := Lib.hid atx; have ATY := Lib.hid aty; have HW := Lib.hid hw
        have HLT := Lib.hid hlt
        have HK := Lib.hid hg
        have DD := Lib.hid D
        have m1 := D.G.k1; have m2 := D.G.k2
        clear atx aty hw D hck he0 hg hkn hk hlt
        generalize atL l k = x at *
        generalize atL [] k = y at *
        obtain ⟨x1, x2⟩ := x
        obtain ⟨y1, y2⟩ := y
        dsimp only at *
        go_upto_region 13 with (go_at_call 20; (with_reducible refine (ATY.out _ DD.out.below).mono ?_); rintro e w5 ⟨rfl, hb⟩; have DD := Lib.hid (DD.out.keep hb); have m1 := DD.out.G.k1; have m2 := DD.out.G.k2; have a5 := DD.out.keep (below_alloc1 w5 (.cells #[.int .i64 y1, .int .i64 y2] 36)); have n1 := a5.G.k1; have n2 := a5.G.k2; clear hb)
        go_cut [13, 14] from 39 to 78 (fun v13 v14 wx => DoMidT w b k (.slice A ll c) xn xd (.slice none 0 0) bn bd zn zd v (doneK (scaleH kb) l [] k) 0 0 3 v13 v14 wx)
        case first =>
          have HS := hold_dos (below_drew _) ((DD.out.keep (below_alloc1 w5 (.cells #[.int .i64 bn, .int .i64 bd] 36))).cells (RatAt.start w5 bn bd 36))
          generalize w5.heap.size = cy at *
          generalize w5.alloc (.cells #[.int .i64 bn, .int .i64 bd] 36) = wq at *
          clear DD m1 m2 k0 m0 a5 n1 n2
          refine wp_region_noPanic ?_
          refine wp_region_held_drew (S := (fun w' => ((w'.cell? ⟨w.heap.size, 0, none⟩ = some (.slice A ll c) ∧ w'.cell? ⟨w.heap.size, 1, none⟩ = some (.int .i64 xn) ∧ w'.cell? ⟨w.heap.size, 2, none⟩ = some (.int .i64 xd)) ∧ (w'.cell? ⟨cy, 0, none⟩ = some (.int .i64 bn) ∧ w'.cell? ⟨cy, 1, none⟩ = some (.int .i64 bd)) ∧ RatAt w' cy bn bd) ∧ DoS w w' b k (.slice A ll c) xn xd (.slice none 0 0) bn bd zn zd v (doneK (scaleH kb) l [] k))) (by kernel_rfl) HS (fun hHeld => ?_)
          clear HS
          refine wpAnyH_take (i := 0) (oi := _) (v := ?_) rfl (by kernel_rfl) (by kernel_rfl) (by kernel_rfl) (fun _ _ _ h => h) (Or.inl ⟨by rfl, ?_⟩) (by assumption) ?_
          rotate_left
          · intro ww hSw
            (try dsimp only at hSw)
            go_simp <;> with_reducible rfl
          (try simp only [List.getElem_toArray, List.getElem_cons_zero, Act.put, List.setIfInBounds_toArray, List.set_cons_zero, List.set_cons_succ])
          refine wpAnyH_take (i := 1) (oi := _) (v := ?_) rfl (by kernel_rfl) (by kernel_rfl) (by kernel_rfl) (fun _ _ _ h => h) (Or.inl ⟨by rfl, ?_⟩) (by assumption) ?_
          rotate_left
          · intro ww hSw
            (try dsimp only at hSw)
            go_simp <;> with_reducible rfl
          (try simp only [List.getElem_toArray, List.getElem_cons_succ, List.getElem_cons_zero, Act.put, List.setIfInBounds_toArray, List.set_cons_zero, List.set_cons_succ])
          refine wpAnyH_take (i := 2) (oi := _) (v := ?_) rfl (by kernel_rfl) (by kernel_rfl) (by kernel_rfl) (fun _ _ _ h => h) (Or.inl ⟨by rfl, ?_⟩) (by assumption) ?_
          rotate_left
          · intro ww hSw
            (try dsimp only at hSw)
            go_simp <;> with_reducible rfl
          (try simp only [List.getElem_toArray, List.getElem_cons_succ, List.getElem_cons_zero, Act.put, List.setIfInBounds_toArray, List.set_cons_zero, List.set_cons_succ])
          refine wpAnyH_take (i := 4) (oi := _) (v := ?_) rfl (by kernel_rfl) (by kernel_rfl) (by kernel_rfl) (fun _ _ _ h => h) (Or.inl ⟨by rfl, ?_⟩) (by assumption) ?_
          rotate_left
          · intro ww hSw
            (try dsimp only at hSw)
            go_simp <;> with_reducible rfl
          (try simp only [List.getElem_toArray, List.getElem_cons_succ, List.getElem_cons_zero, Act.put, List.setIfInBounds_toArray, List.set_cons_zero, List.set_cons_succ])
          refine wpAnyH_ready (rs := [3, 9]) (by kernel_rfl) (by simp) ?_
          refine AllReadyH.cons (o := _) rfl (fun K hK => ?_) ?_
          · go_simp
            (first
              | (go_at_call 20; (with_reducible refine (ATX.out _ (dos_of (by with_reducible assumption)).below).mono ?_); rintro e w6 ⟨rfl, hb⟩; (try (have HC := Lib.hid (HC.out.keep hb))))
              | (go_at_call 69; (with_reducible refine (HW.out _).mono ?_); rintro e w7 ⟨rfl, hb⟩; (try (have HC := Lib.hid (HC.out.keep hb)))))
            go_wp2_with fail
            refine hK.out _ _ (hold_dos (by with_reducible assumption) (by with_reducible assumption)) (fun hH2 => ?_)
            clear hK K hHeld hb
            have hHeld := hH2
            clear hH2
            (try simp only [List.getElem_toArray, List.getElem_cons_succ, List.getElem_cons_zero, Act.put, List.setIfInBounds_toArray, List.set_cons_zero, List.set_cons_succ])
            refine wpAnyH_ready (rs := [5, 9]) (by kernel_rfl) (by simp) ?_
            refine AllReadyH.cons (o := _) rfl (fun K hK => ?_) ?_
            · go_simp
              (first
                | (go_at_call 20; (with_reducible refine (ATX.out _ (dos_of (by with_reducible assumption)).below).mono ?_); rintro e w6 ⟨rfl, hb⟩; (try (have HC := Lib.hid (HC.out.keep hb))))
                | (go_at_call 69; (with_reducible refine (HW.out _).mono ?_); rintro e w7 ⟨rfl, hb⟩; (try (have HC := Lib.hid (HC.out.keep hb)))))
              go_wp2_with fail
              refine hK.out _ _ (hold_dos (by with_reducible assumption) (by with_reducible assumption)) (fun hH2 => ?_)
              clear hK K hHeld hb
              have hHeld := hH2
              clear hH2
              (try simp only [List.getElem_toArray, List.getElem_cons_succ, List.getElem_cons_zero, Act.put, List.setIfInBounds_toArray, List.set_cons_zero, List.set_cons_succ])
              refine wpAnyH_take (i := 6) (oi := _) (v := ?_) rfl (by kernel_rfl) (by kernel_rfl) (by kernel_rfl) (fun _ _ _ h => h) (Or.inl ⟨by rfl, ?_⟩) (by assumption) ?_
              rotate_left
              · intro ww hSw
                (try dsimp only at hSw)
                go_simp <;> with_reducible rfl
              (try simp only [List.getElem_toArray, List.getElem_cons_succ, List.getElem_cons_zero, Act.put, List.setIfInBounds_toArray, List.set_cons_zero, List.set_cons_succ])
              refine wpAnyH_take (i := 7) (oi := _) (v := ?_) rfl (by kernel_rfl) (by kernel_rfl) (by kernel_rfl) (fun _ _ _ h => h) (Or.inl ⟨by rfl, ?_⟩) (by assumption) ?_
              rotate_left
              · intro ww hSw
                (try dsimp only at hSw)
                go_simp <;> with_reducible rfl
              (try simp only [List.getElem_toArray, List.getElem_cons_succ, List.getElem_cons_zero, Act.put, List.setIfInBounds_toArray, List.set_cons_zero, List.set_cons_succ])
              refine wpAnyH_take (i := 8) (oi := _) (v := ?_) rfl (by kernel_rfl) (by kernel_rfl) (by kernel_rfl) (fun _ _ _ h => h) (Or.inl ⟨by rfl, ?_⟩) (by assumption) ?_
              rotate_left
              · intro ww hSw
                (try dsimp only at hSw)
                go_simp <;> with_reducible rfl
              (try simp only [List.getElem_toArray, List.getElem_cons_succ, List.getElem_cons_zero, Act.put, List.setIfInBounds_toArray, List.set_cons_zero, List.set_cons_succ])
              refine wpAnyH_ready (rs := [9]) (by kernel_rfl) (by simp) ?_
              refine AllReadyH.cons (o := _) rfl (fun K hK => ?_) AllReadyH.nil
              go_simp
              refine hK.out _ _ (hold_dos (below_alloc1 _ _) (by with_reducible assumption)) (fun hH2 => ?_)
              clear hK K
              (first | have HC := Lib.hid (hole_of hH2) | have HC := Lib.hid (hole_of2 hH2))
              have hHeld0 := Lib.hid hHeld
              clear hHeld
              have hHeld := hH2
              clear hH2
              (try simp only [List.getElem_toArray, List.getElem_cons_succ, List.getElem_cons_zero, Act.put, List.setIfInBounds_toArray, List.set_cons_zero, List.set_cons_succ])
              refine wpAnyH_ready (rs := [10]) (by kernel_rfl) (by simp) ?_
              refine AllReadyH.cons (o := _) rfl (fun K hK => ?_) AllReadyH.nil
              obtain ⟨h6, h0, h1, h2, h3, h4, h5⟩ := HC.out
              clear h6
              go_simp
              clear h0 h1 h2 h3 h4 h5
              (first
                | refine hK.out _ _ (hold_dos (below_alloc1 _ _) hHeld0.out) (fun hH2 => ?_)
                | refine hK.out _ _ (hold_dos (HC.out.fill _ _).1 hHeld0.out) (fun hH2 => ?_))
              clear hK K hHeld
              have hHeld := hH2
              clear hH2
              (try simp only [List.getElem_toArray, List.getElem_cons_succ, List.getElem_cons_zero, Act.put, List.setIfInBounds_toArray, List.set_cons_zero, List.set_cons_succ])
              refine wpAnyH_take (i := 11) (oi := _) (v := ?_) rfl (by kernel_rfl) (by kernel_rfl) (by kernel_rfl) (fun _ _ _ h => h) (Or.inl ⟨by rfl, ?_⟩) (by assumption) ?_
              rotate_left
              · intro ww hSw
                (try dsimp only at hSw)
                go_simp <;> with_reducible rfl
              (try simp only [List.getElem_toArray, List.getElem_cons_succ, List.getElem_cons_zero, Act.put, List.setIfInBounds_toArray, List.set_cons_zero, List.set_cons_succ])
              refine wpAnyH_done (by kernel_rfl) ?_ _
              refine NoPanic.normal ?_
              go_wp2_with fail
              go_meet
              case rel => first | exact mid_alloc (dos_of hHeld0.out) 36 | exact mid_fill (dos_of hHeld0.out) HC.out
            refine AllReadyH.cons (o := _) rfl (fun K hK => ?_) AllReadyH.nil
            go_simp
            refine hK.out _ _ (hold_dos (below_alloc1 _ _) (by with_reducible assumption)) (fun hH2 => ?_)
            clear hK K
            (first | have HC := Lib.hid (hole_of hH2) | have HC := Lib.hid (hole_of2 hH2))
            have hHeld0 := Lib.hid hHeld
            clear hHeld
            have hHeld := hH2
            clear hH2
            (try simp only [List.getElem_toArray, List.getElem_cons_succ, List.getElem_cons_zero, Act.put, List.setIfInBounds_toArray, List.set_cons_zero, List.set_cons_succ])
            refine wpAnyH_ready (rs := [5]) (by kernel_rfl) (by simp) ?_
            refine AllReadyH.cons (o := _) rfl (fun K hK => ?_) AllReadyH.nil
            go_simp
            (first
              | (go_at_call 20; (with_reducible refine (ATX.out _ (dos_of (by with_reducible assumption)).below).mono ?_); rintro e w6 ⟨rfl, hb⟩; (try (have HC := Lib.hid (HC.out.keep hb))))
              | (go_at_call 69; (with_reducible refine (HW.out _).mono ?_); rintro e w7 ⟨rfl, hb⟩; (try (have HC := Lib.hid (HC.out.keep hb)))))
            go_wp2_with fail
            refine hK.out _ _ (hold_dos (by with_reducible assumption) (by with_reducible assumption)) (fun hH2 => ?_)
            clear hK K hHeld hb
            have hHeld := hH2
            clear hH2
            (try simp only [List.getElem_toArray, List.getElem_cons_succ, List.getElem_cons_zero, Act.put, List.setIfInBounds_toArray, List.set_cons_zero, List.set_cons_succ])
            refine wpAnyH_take (i := 6) (oi := _) (v := ?_) rfl (by kernel_rfl) (by kernel_rfl) (by kernel_rfl) (fun _ _ _ h => h) (Or.inl ⟨by rfl, ?_⟩) (by assumption) ?_
            rotate_left
            · intro ww hSw
              (try dsimp only at hSw)
              go_simp <;> with_reducible rfl
            (try simp only [List.getElem_toArray, List.getElem_cons_succ, List.getElem_cons_zero, Act.put, List.setIfInBounds_toArray, List.set_cons_zero, List.set_cons_succ])
            refine wpAnyH_take (i := 7) (oi := _) (v := ?_) rfl (by kernel_rfl) (by kernel_rfl) (by kernel_rfl) (fun _ _ _ h => h) (Or.inl ⟨by rfl, ?_⟩) (by assumption) ?_
            rotate_left
            · intro ww hSw
              (try dsimp only at hSw)
              go_simp <;> with_reducible rfl
            (try simp only [List.getElem_toArray, List.getElem_cons_succ, List.getElem_cons_zero, Act.put, List.setIfInBounds_toArray, List.set_cons_zero, List.set_cons_succ])
            refine wpAnyH_take (i := 8) (oi := _) (v := ?_) rfl (by kernel_rfl) (by kernel_rfl) (by kernel_rfl) (fun _ _ _ h => h) (Or.inl ⟨by rfl, ?_⟩) (by assumption) ?_
            rotate_left
            · intro ww hSw
              (try dsimp only at hSw)
              go_simp <;> with_reducible rfl
            (try simp only [List.getElem_toArray, List.getElem_cons_succ, List.getElem_cons_zero, Act.put, List.setIfInBounds_toArray, List.set_cons_zero, List.set_cons_succ])
            refine wpAnyH_ready (rs := [10]) (by kernel_rfl) (by simp) ?_
            refine AllReadyH.cons (o := _) rfl (fun K hK => ?_) AllReadyH.nil
            obtain ⟨h6, h0, h1, h2, h3, h4, h5⟩ := HC.out
            clear h6
            go_simp
            clear h0 h1 h2 h3 h4 h5
            (first
              | refine hK.out _ _ (hold_dos (below_alloc1 _ _) hHeld0.out) (fun hH2 => ?_)
              | refine hK.out _ _ (hold_dos (HC.out.fill _ _).1 hHeld0.out) (fun hH2 => ?_))
            clear hK K hHeld
            have hHeld := hH2
            clear hH2
            (try simp only [List.getElem_toArray, List.getElem_cons_succ, List.getElem_cons_zero, Act.put, List.setIfInBounds_toArray, List.set_cons_zero, List.set_cons_succ])
            refine wpAnyH_take (i := 11) (oi := _) (v := ?_) rfl (by kernel_rfl) (by kernel_rfl) (by kernel_rfl) (fun _ _ _ h => h) (Or.inl ⟨by rfl, ?_⟩) (by assumption) ?_
            rotate_left
            · intro ww hSw
              (try dsimp only at hSw)
              go_simp <;> with_reducible rfl
            (try simp only [List.getElem_toArray, List.getElem_cons_succ, List.getElem_cons_zero, Act.put, List.setIfInBounds_toArray, List.set_cons_zero, List.set_cons_succ])
            refine wpAnyH_done (by kernel_rfl) ?_ _
            refine NoPanic.normal ?_
            go_wp2_with fail
            go_meet
            case rel => first | exact mid_alloc (dos_of hHeld0.out) 36 | exact mid_fill (dos_of hHeld0.out) HC.out
          refine AllReadyH.cons (o := _) rfl (fun K hK => ?_) AllReadyH.nil
          go_simp
          refine hK.out _ _ (hold_dos (below_alloc1 _ _) (by with_reducible assumption)) (fun hH2 => ?_)
          clear hK K
          (first | have HC := Lib.hid (hole_of hH2) | have HC := Lib.hid (hole_of2 hH2))
          have hHeld0 := Lib.hid hHeld
          clear hHeld
          have hHeld := hH2
          clear hH2
          (try simp only [List.getElem_toArray, List.getElem_cons_succ, List.getElem_cons_zero, Act.put, List.setIfInBounds_toArray, List.set_cons_zero, List.set_cons_succ])
          refine wpAnyH_ready (rs := [3]) (by kernel_rfl) (by simp) ?_
          refine AllReadyH.cons (o := _) rfl (fun K hK => ?_) AllReadyH.nil
          go_simp
          (first
            | (go_at_call 20; (with_reducible refine (ATX.out _ (dos_of (by with_reducible assumption)).below).mono ?_); rintro e w6 ⟨rfl, hb⟩; (try (have HC := Lib.hid (HC.out.keep hb))))
            | (go_at_call 69; (with_reducible refine (HW.out _).mono ?_); rintro e w7 ⟨rfl, hb⟩; (try (have HC := Lib.hid (HC.out.keep hb)))))
          go_wp2_with fail
          refine hK.out _ _ (hold_dos (by with_reducible assumption) (by with_reducible assumption)) (fun hH2 => ?_)
          clear hK K hHeld hb
          have hHeld := hH2
          clear hH2
          (try simp only [List.getElem_toArray, List.getElem_cons_succ, List.getElem_cons_zero, Act.put, List.setIfInBounds_toArray, List.set_cons_zero, List.set_cons_succ])
          refine wpAnyH_ready (rs := [5]) (by kernel_rfl) (by simp) ?_
          refine AllReadyH.cons (o := _) rfl (fun K hK => ?_) AllReadyH.nil
          go_simp
          (first
            | (go_at_call 20; (with_reducible refine (ATX.out _ (dos_of (by with_reducible assumption)).below).mono ?_); rintro e w6 ⟨rfl, hb⟩; (try (have HC := Lib.hid (HC.out.keep hb))))
            | (go_at_call 69; (with_reducible refine (HW.out _).mono ?_); rintro e w7 ⟨rfl, hb⟩; (try (have HC := Lib.hid (HC.out.keep hb)))))
          go_wp2_with fail
          refine hK.out _ _ (hold_dos (by with_reducible assumption) (by with_reducible assumption)) (fun hH2 => ?_)
          clear hK K hHeld hb
          have hHeld := hH2
          clear hH2
          (try simp only [List.getElem_toArray, List.getElem_cons_succ, List.getElem_cons_zero, Act.put, List.setIfInBounds_toArray, List.set_cons_zero, List.set_cons_succ])
          refine wpAnyH_take (i := 6) (oi := _) (v := ?_) rfl (by kernel_rfl) (by kernel_rfl) (by kernel_rfl) (fun _ _ _ h => h) (Or.inl ⟨by rfl, ?_⟩) (by assumption) ?_
          rotate_left
          · intro ww hSw
            (try dsimp only at hSw)
            go_simp <;> with_reducible rfl
          (try simp only [List.getElem_toArray, List.getElem_cons_succ, List.getElem_cons_zero, Act.put, List.setIfInBounds_toArray, List.set_cons_zero, List.set_cons_succ])
          refine wpAnyH_take (i := 7) (oi := _) (v := ?_) rfl (by kernel_rfl) (by kernel_rfl) (by kernel_rfl) (fun _ _ _ h => h) (Or.inl ⟨by rfl, ?_⟩) (by assumption) ?_
          rotate_left
          · intro ww hSw
            (try dsimp only at hSw)
            go_simp <;> with_reducible rfl
          (try simp only [List.getElem_toArray, List.getElem_cons_succ, List.getElem_cons_zero, Act.put, List.setIfInBounds_toArray, List.set_cons_zero, List.set_cons_succ])
          refine wpAnyH_take (i := 8) (oi := _) (v := ?_) rfl (by kernel_rfl) (by kernel_rfl) (by kernel_rfl) (fun _ _ _ h => h) (Or.inl ⟨by rfl, ?_⟩) (by assumption) ?_
          rotate_left
          · intro ww hSw
            (try dsimp only at hSw)
            go_simp <;> with_reducible rfl
          (try simp only [List.getElem_toArray, List.getElem_cons_succ, List.getElem_cons_zero, Act.put, List.setIfInBounds_toArray, List.set_cons_zero, List.set_cons_succ])
          refine wpAnyH_ready (rs := [10]) (by kernel_rfl) (by simp) ?_
          refine AllReadyH.cons (o := _) rfl (fun K hK => ?_) AllReadyH.nil
          obtain ⟨h6, h0, h1, h2, h3, h4, h5⟩ := HC.out
          clear h6
          go_simp
          clear h0 h1 h2 h3 h4 h5
          (first
            | refine hK.out _ _ (hold_dos (below_alloc1 _ _) hHeld0.out) (fun hH2 => ?_)
            | refine hK.out _ _ (hold_dos (HC.out.fill _ _).1 hHeld0.out) (fun hH2 => ?_))
          clear hK K hHeld
          have hHeld := hH2
          clear hH2
          (try simp only [List.getElem_toArray, List.getElem_cons_succ, List.getElem_cons_zero, Act.put, List.setIfInBounds_toArray, List.set_cons_zero, List.set_cons_succ])
          refine wpAnyH_take (i := 11) (oi := _) (v := ?_) rfl (by kernel_rfl) (by kernel_rfl) (by kernel_rfl) (fun _ _ _ h => h) (Or.inl ⟨by rfl, ?_⟩) (by assumption) ?_
          rotate_left
          · intro ww hSw
            (try dsimp only at hSw)
            go_simp <;> with_reducible rfl
          (try simp only [List.getElem_toArray, List.getElem_cons_succ, List.getElem_cons_zero, Act.put, List.setIfInBounds_toArray, List.set_cons_zero, List.set_cons_succ])
          refine wpAnyH_done (by kernel_rfl) ?_ _
          refine NoPanic.normal ?_
          go_wp2_with fail
          go_meet
          case rel => first | exact mid_alloc (dos_of hHeld0.out) 36 | exact mid_fill (dos_of hHeld0.out) HC.out
        case rest =>
          obtain ⟨cc, rfl, rfl, RC, H⟩ := hcut
          clear DD m1 m2 k0 m0 a5 n1 n2 RC
          have k0 := H.E.k0; have k1 := H.E.k1; have k2 := H.E.k2; have l0 := H.E.l0; have l1 := H.E.l1; have l2 := H.E.l2
          have b1 := Lib.hid H.below
          clear H
          go_wp2_with fail
          obtain ⟨c0, c1, c2⟩ := set_three (x := .slice none 0 0) (y := .int .i64 0) (z := .int .i64 0) k0 k1 k2
          refine bodyPost_ret (v := .tuple #[.agg #[.slice none 0 0, .int .i64 0, .int .i64 0], .int .i64 3]) (by simp [results, Try.results103, go_sem, c0, c1, c2]) rfl ⟨_, rfl, RatsAt.nil _, ?_, Fresh.none_ _ _ _⟩
          exact ((b1.out.setCell (by show w.heap.size ≤ w.heap.size + 1 + 1; omega) _).setCell (by show w.heap.size ≤ w.heap.size + 1 + 1; omega) _).setCell (by show w.heap.size ≤ w.heap.size + 1 + 1; omega) _
end Go.Proofs.Ytocmhidkfjahcaa
