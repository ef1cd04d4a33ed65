/-
  The walks of package term's Scale, and of Add and Scale where an argument isn't right. (Template: by-name.py fills it; gen/genScale.py writes it.)
-/
import Derived.Test.YtkinbbhbencipaaJTermR
namespace Go.Proofs.Ytkinbbhbencipaa
open Go.RowKit

/-- What stands in Scale. -/
structure ScS (w wr : World) (s : Value) (xn xd bn bd : Int) : Prop where
  F : FracBox wr w.heap.size s (.int .i64 xn) (.int .i64 xd)
  Q : RatAt wr (w.heap.size + 1) bn bd
  c0 : wr.cell? ⟨w.heap.size + 1 + 1, 0, none⟩ = some (cellD wr ⟨w.heap.size + 1 + 1, 0, none⟩)
  c1 : wr.cell? ⟨w.heap.size + 1 + 1, 1, none⟩ = some (cellD wr ⟨w.heap.size + 1 + 1, 1, none⟩)
  c2 : wr.cell? ⟨w.heap.size + 1 + 1, 2, none⟩ = some (cellD wr ⟨w.heap.size + 1 + 1, 2, none⟩)
  l0 : wr.frozen? ⟨w.heap.size + 1 + 1, 0, none⟩ = false
  l1 : wr.frozen? ⟨w.heap.size + 1 + 1, 1, none⟩ = false
  l2 : wr.frozen? ⟨w.heap.size + 1 + 1, 2, none⟩ = false
  sz : w.heap.size + 1 + 1 < wr.heap.size
  below : Below w.heap.size w wr

section
variable {w wr w2 : World} {s : Value} {xn xd bn bd : Int}
theorem ScS.keep (h : ScS w wr s xn xd bn bd) (hb : Below wr.heap.size wr w2) : ScS w w2 s xn xd bn bd :=
  have z := hb.size
  have q := h.sz
  ⟨h.F.keep hb, h.Q.keep hb, cellD_of (keep_cell hb q h.c0), cellD_of (keep_cell hb q h.c1), cellD_of (keep_cell hb q h.c2), keep_free hb q h.l0, keep_free hb q h.l1, keep_free hb q h.l2, by omega, h.below.trans (hb.mono h.below.size)⟩
theorem ScS.set (h : ScS w wr s xn xd bn bd) (o : Nat) (x : Value) : ScS w (wr.setCell ⟨w.heap.size + 1 + 1, o, none⟩ x) s xn xd bn bd := by
  have hb : Below (w.heap.size + 1 + 1) wr (wr.setCell ⟨w.heap.size + 1 + 1, o, none⟩ x) := (Below.refl (w.heap.size + 1 + 1) wr).setCell (p := ⟨w.heap.size + 1 + 1, o, none⟩) (Nat.le_refl _) x
  exact ⟨h.F.keepB hb (by omega), h.Q.keepB hb (by omega), cellD_set h.c0, cellD_set h.c1, cellD_set h.c2, by rw [World.frozen?_setCell]; exact h.l0, by rw [World.frozen?_setCell]; exact h.l1, by rw [World.frozen?_setCell]; exact h.l2, by rw [World.size_setCell]; exact h.sz, h.below.trans (hb.mono (by omega))⟩
theorem ScS.cells (h : ScS w wr s xn xd bn bd) : ((wr.cell? ⟨w.heap.size, 0, none⟩ = some s ∧ wr.cell? ⟨w.heap.size, 1, none⟩ = some (.int .i64 xn) ∧ wr.cell? ⟨w.heap.size, 2, none⟩ = some (.int .i64 xd)) ∧ (wr.cell? ⟨w.heap.size + 1 + 1, 0, none⟩ = some (cellD wr ⟨w.heap.size + 1 + 1, 0, none⟩) ∧ wr.cell? ⟨w.heap.size + 1 + 1, 1, none⟩ = some (cellD wr ⟨w.heap.size + 1 + 1, 1, none⟩) ∧ wr.cell? ⟨w.heap.size + 1 + 1, 2, none⟩ = some (cellD wr ⟨w.heap.size + 1 + 1, 2, none⟩)) ∧ (wr.frozen? ⟨w.heap.size + 1 + 1, 0, none⟩ = false ∧ wr.frozen? ⟨w.heap.size + 1 + 1, 1, none⟩ = false ∧ wr.frozen? ⟨w.heap.size + 1 + 1, 2, none⟩ = false)) ∧ ScS w wr s xn xd bn bd :=
  ⟨⟨⟨h.F.k0, h.F.k1, h.F.k2⟩, ⟨h.c0, h.c1, h.c2⟩, ⟨h.l0, h.l1, h.l2⟩⟩, h⟩
theorem sc_of {A : Prop} (h : A ∧ ScS w wr s xn xd bn bd) : ScS w wr s xn xd bn bd := h.2
theorem ScS.three (h : ScS w wr s xn xd bn bd) (x y z : Value) : (((wr.setCell ⟨w.heap.size + 1 + 1, 0, none⟩ x).setCell ⟨w.heap.size + 1 + 1, 1, none⟩ y).setCell ⟨w.heap.size + 1 + 1, 2, none⟩ z).cell? ⟨w.heap.size + 1 + 1, 0, none⟩ = some x ∧ (((wr.setCell ⟨w.heap.size + 1 + 1, 0, none⟩ x).setCell ⟨w.heap.size + 1 + 1, 1, none⟩ y).setCell ⟨w.heap.size + 1 + 1, 2, none⟩ z).cell? ⟨w.heap.size + 1 + 1, 1, none⟩ = some y ∧ (((wr.setCell ⟨w.heap.size + 1 + 1, 0, none⟩ x).setCell ⟨w.heap.size + 1 + 1, 1, none⟩ y).setCell ⟨w.heap.size + 1 + 1, 2, none⟩ z).cell? ⟨w.heap.size + 1 + 1, 2, none⟩ = some z :=
  set_three h.c0 h.c1 h.c2
theorem ScS.start (w : World) (s : Value) (xn xd bn bd : Int) (ty ty' : TypeId) : ScS w (((w.alloc (.cells #[s, .int .i64 xn, .int .i64 xd] ty)).alloc (.cells #[.int .i64 bn, .int .i64 bd] ty')).alloc (.cells #[.slice none 0 0, .int .i64 0, .int .i64 0] ty)) s xn xd bn bd := by
  have F := FracBox.start w s (.int .i64 xn) (.int .i64 xd) ty
  have a1 := below_alloc1 (w.alloc (.cells #[s, .int .i64 xn, .int .i64 xd] ty)) (.cells #[.int .i64 bn, .int .i64 bd] ty')
  have Q := RatAt.start (w.alloc (.cells #[s, .int .i64 xn, .int .i64 xd] ty)) bn bd ty'
  have a2 := below_alloc1 ((w.alloc (.cells #[s, .int .i64 xn, .int .i64 xd] ty)).alloc (.cells #[.int .i64 bn, .int .i64 bd] ty')) (.cells #[.slice none 0 0, .int .i64 0, .int .i64 0] ty)
  have G := FracBox.start ((w.alloc (.cells #[s, .int .i64 xn, .int .i64 xd] ty)).alloc (.cells #[.int .i64 bn, .int .i64 bd] ty')) (.slice none 0 0) (.int .i64 0) (.int .i64 0) ty
  rw [World.size_alloc] at Q
  rw [World.size_alloc, World.size_alloc] at G
  exact ⟨(F.keep a1).keep a2, Q.keep a2, cellD_of G.k0, cellD_of G.k1, cellD_of G.k2, G.l0, G.l1, G.l2, G.lt, (below_alloc2 w _ _).trans (a2.mono (by simp; omega))⟩
end

set_option maxRecDepth 4000 in
set_option maxHeartbeats 4000000 in
theorem tscale_right (w : World) (va : Value) (l : List (Int × Int)) (kx kb : Int × Int) (ha : RatsAt w va l) (hl : AllOk l) (hx : OkR kx) (hb : OkR kb) (h8 : l.length ≤ 8) :
    Calls Try.prog 25 #[.agg #[va, .int .i64 kx.1, .int .i64 kx.2], ratV kb.1 kb.2] w (TermPut w (putT (scaleH kb) l [] kx (0, 1)).1 (putT (scaleH kb) l [] kx (0, 1)).2.1 (putT (scaleH kb) l [] kx (0, 1)).2.2) := by
  have ra := fun (w' : World) (h : Below w.heap.size w w') => tright_any w' va l kx.1 kx.2 (ha.below h) hl.wide hx.wide.1.1 hx.wide.1.2 hx.wide.2.1 hx.wide.2.2
  rw [right_mk h8 hl hx] at ra
  have rb := fun (w' : World) => right_any kb.1 kb.2 w' hb.wide.1.1 hb.wide.1.2 hb.wide.2.1 hb.wide.2.2
  rw [hb.right] at rb
  have co := fun (w' : World) (hq : RatAt w' (w.heap.size + 1) kb.1 kb.2) (hr : RatsAt w' va l) => show Calls Try.prog 56 #[.agg #[va, .int .i64 kx.1, .int .i64 kx.2], .agg #[.slice none 0 0, .int .i64 0, .int .i64 1], .func (.func 58) #[] #[.pointer (some ⟨w.heap.size + 1, 0, none⟩)]] w' (TermPut w' (putT (scaleH kb) l [] kx (0, 1)).1 (putT (scaleH kb) l [] kx (0, 1)).2.1 (putT (scaleH kb) l [] kx (0, 1)).2.2) by
    have hn : AllOk [] := fun x hx => by cases hx
    have hw : ∀ w2, Below w'.heap.size w' w2 → ∀ x y, OkR x → OkR y → Calls Try.prog 58 #[ratV x.1 x.2, ratV y.1 y.2, .pointer (some ⟨w.heap.size + 1, 0, none⟩)] w2 fun r w3 => r = .returned (.tuple #[ratV (scaleH kb x y).1.1 (scaleH kb x y).1.2, .int .i64 (scaleH kb x y).2]) ∧ Below w2.heap.size w2 w3 :=
      fun w2 hb2 x y ox _ => how_scale w2 x y kb (w.heap.size + 1) ox hb (hq.keep hb2)
    unfold putT
    split
    · rename_i g
      exact comb_scale_ok w' va (.slice none 0 0) l [] kx (0, 1) hr (RatsAt.nil w') hl hn hx okR_nought h8 (by simp) (scaleH kb) _ hw g.1 g.2
    · rename_i g
      exact comb_scale_no w' va (.slice none 0 0) l [] kx (0, 1) hr (RatsAt.nil w') hl hn hx okR_nought h8 (by simp) (scaleH kb) (scaleH_ok hb) _ hw g
  generalize putT (scaleH kb) l [] kx (0, 1) = z at *
  obtain ⟨L, ⟨zn, zd⟩, ze⟩ := z
  dsimp only at *
  have RA := Lib.hid ra; have RB := Lib.hid rb; have CO := Lib.hid co; have HA := Lib.hid ha; have ZE := Lib.hid zero_any
  obtain ⟨A, c, rfl⟩ := rats_shape ha
  clear ra rb co ha hl hx hb h8
  generalize l.length = ll at *
  obtain ⟨xn, xd⟩ := kx
  obtain ⟨bn, bd⟩ := kb
  dsimp only at *
  have H := ScS.start w (.slice A ll c) xn xd bn bd 27 25
  go_enter Try.func25, Try.ntmps25
  go_upto_region 3 with (first
    | (go_at_call 33; (with_reducible refine (RA.out _ H.below).mono ?_); rintro e w1 ⟨rfl, hb1⟩; have H := H.keep hb1; have q0 := H.Q.k0; have q1 := H.Q.k1)
    | (go_at_call 55; (with_reducible refine (RB.out _).mono ?_); rintro e w2 ⟨rfl, hb2⟩; have H := H.keep hb2))
  have HS := (H.keep (below_drew _)).cells
  clear H hb1 hb2 q0 q1
  refine wp_region_noPanic ?_
  refine wp_region_held_drew (S := (fun w' => ((w'.cell? ⟨w.heap.size, 0, none⟩ = some (.slice A ll c) ∧ w'.cell? ⟨w.heap.size, 1, none⟩ = some (.int .i64 xn) ∧ w'.cell? ⟨w.heap.size, 2, none⟩ = some (.int .i64 xd)) ∧ (w'.cell? ⟨w.heap.size + 1 + 1, 0, none⟩ = some (cellD w' ⟨w.heap.size + 1 + 1, 0, none⟩) ∧ w'.cell? ⟨w.heap.size + 1 + 1, 1, none⟩ = some (cellD w' ⟨w.heap.size + 1 + 1, 1, none⟩) ∧ w'.cell? ⟨w.heap.size + 1 + 1, 2, none⟩ = some (cellD w' ⟨w.heap.size + 1 + 1, 2, none⟩)) ∧ (w'.frozen? ⟨w.heap.size + 1 + 1, 0, none⟩ = false ∧ w'.frozen? ⟨w.heap.size + 1 + 1, 1, none⟩ = false ∧ w'.frozen? ⟨w.heap.size + 1 + 1, 2, none⟩ = false)) ∧ ScS w w' (.slice A ll c) xn xd bn bd)) (by kernel_rfl) HS (fun hHeld => ?_)
  clear HS
  refine wpAnyH_take (i := 0) (oi := _) (v := ?_) rfl (by kernel_rfl) (by kernel_rfl) (by kernel_rfl) (fun _ _ _ h => h) (Or.inl ⟨by rfl, ?_⟩) (by assumption) ?_
  rotate_left
  · intro ww hSw
    (try dsimp only at hSw)
    go_simp <;> with_reducible rfl
  (try simp only [List.getElem_toArray, List.getElem_cons_zero, Act.put, List.setIfInBounds_toArray, List.set_cons_zero, List.set_cons_succ])
  refine wpAnyH_take (i := 2) (oi := _) (v := ?_) rfl (by kernel_rfl) (by kernel_rfl) (by kernel_rfl) (fun _ _ _ h => h) (Or.inl ⟨by rfl, ?_⟩) (by assumption) ?_
  rotate_left
  · intro ww hSw
    (try dsimp only at hSw)
    go_simp <;> with_reducible rfl
  (try simp only [List.getElem_toArray, List.getElem_cons_succ, List.getElem_cons_zero, Act.put, List.setIfInBounds_toArray, List.set_cons_zero, List.set_cons_succ])
  refine wpAnyH_ready (rs := [1]) (by kernel_rfl) (by simp) ?_
  refine AllReadyH.cons (o := _) rfl (fun K hK => ?_) AllReadyH.nil
  go_simp
  (first
    | (go_at_call 57; (with_reducible refine (ZE.out _).mono ?_); rintro e w4 ⟨rfl, hb⟩)
    | (go_at_call 56; (with_reducible refine (CO.out _ (sc_of (by with_reducible assumption)).Q (HA.out.below (sc_of (by with_reducible assumption)).below)).mono ?_); rintro e w5 hp5; obtain ⟨A5, c5, rfl, hv5, hb, hf5⟩ := termput_parts hp5; clear hp5; have HV5 := Lib.hid (And.intro hv5 (hf5.mono (sc_of (by with_reducible assumption)).sz : Fresh (w.heap.size + 1 + 1 + 1) _)); clear hv5 hf5))
  go_wp2_with fail
  refine hK.out _ _ (((sc_of (by with_reducible assumption)).keep (by with_reducible assumption)).cells) (fun hH2 => ?_)
  clear hK K hHeld hb
  have hHeld := hH2
  clear hH2
  (try simp only [List.getElem_toArray, List.getElem_cons_succ, List.getElem_cons_zero, Act.put, List.setIfInBounds_toArray, List.set_cons_zero, List.set_cons_succ])
  refine wpAnyH_ready (rs := [3]) (by kernel_rfl) (by simp) ?_
  refine AllReadyH.cons (o := _) rfl (fun K hK => ?_) AllReadyH.nil
  go_simp
  (first
    | (go_at_call 57; (with_reducible refine (ZE.out _).mono ?_); rintro e w4 ⟨rfl, hb⟩)
    | (go_at_call 56; (with_reducible refine (CO.out _ (sc_of (by with_reducible assumption)).Q (HA.out.below (sc_of (by with_reducible assumption)).below)).mono ?_); rintro e w5 hp5; obtain ⟨A5, c5, rfl, hv5, hb, hf5⟩ := termput_parts hp5; clear hp5; have HV5 := Lib.hid (And.intro hv5 (hf5.mono (sc_of (by with_reducible assumption)).sz : Fresh (w.heap.size + 1 + 1 + 1) _)); clear hv5 hf5))
  go_wp2_with fail
  refine hK.out _ _ (((sc_of (by with_reducible assumption)).keep (by with_reducible assumption)).cells) (fun hH2 => ?_)
  clear hK K hHeld hb
  have hHeld := hH2
  clear hH2
  (try simp only [List.getElem_toArray, List.getElem_cons_succ, List.getElem_cons_zero, Act.put, List.setIfInBounds_toArray, List.set_cons_zero, List.set_cons_succ])
  refine wpAnyH_take (i := 4) (oi := _) (v := ?_) rfl (by kernel_rfl) (by kernel_rfl) (by kernel_rfl) (fun _ _ _ h => h) (Or.inl ⟨by rfl, ?_⟩) (by assumption) ?_
  rotate_left
  · intro ww hSw
    (try dsimp only at hSw)
    go_simp <;> with_reducible rfl
  (try simp only [List.getElem_toArray, List.getElem_cons_succ, List.getElem_cons_zero, Act.put, List.setIfInBounds_toArray, List.set_cons_zero, List.set_cons_succ])
  refine wpAnyH_take (i := 5) (oi := _) (v := ?_) rfl (by kernel_rfl) (by kernel_rfl) (by kernel_rfl) (fun _ _ _ h => h) (Or.inl ⟨by rfl, ?_⟩) (by assumption) ?_
  rotate_left
  · intro ww hSw
    (try dsimp only at hSw)
    go_simp <;> with_reducible rfl
  (try simp only [List.getElem_toArray, List.getElem_cons_succ, List.getElem_cons_zero, Act.put, List.setIfInBounds_toArray, List.set_cons_zero, List.set_cons_succ])
  refine wpAnyH_ready (rs := [6]) (by kernel_rfl) (by simp) ?_
  refine AllReadyH.cons (o := _) rfl (fun K hK => ?_) AllReadyH.nil
  go_simp
  refine hK.out _ _ ?_ (fun hH2 => ?_)
  · exact (((sc_of (by with_reducible assumption)).set _ _).set _ _ |>.set _ _).cells
  clear hK K hHeld
  have hHeld := hH2
  clear hH2
  (try simp only [List.getElem_toArray, List.getElem_cons_succ, List.getElem_cons_zero, Act.put, List.setIfInBounds_toArray, List.set_cons_zero, List.set_cons_succ])
  refine wpAnyH_take (i := 7) (oi := _) (v := ?_) rfl (by kernel_rfl) (by kernel_rfl) (by kernel_rfl) (fun _ _ _ h => h) (Or.inl ⟨by rfl, ?_⟩) (by assumption) ?_
  rotate_left
  · intro ww hSw
    (try dsimp only at hSw)
    go_simp <;> with_reducible rfl
  (try simp only [List.getElem_toArray, List.getElem_cons_succ, List.getElem_cons_zero, Act.put, List.setIfInBounds_toArray, List.set_cons_zero, List.set_cons_succ])
  refine wpAnyH_done (by kernel_rfl) ?_ _
  refine NoPanic.normal ?_
  go_wp2_with fail
  have h0 := (sc_of hHeld).c0; have h1 := (sc_of hHeld).c1; have h2 := (sc_of hHeld).c2; have hB := Lib.hid (sc_of hHeld).below
  obtain ⟨c0, c1, c2⟩ := three_set h0 h1 h2
  rw [c0] at h0; rw [c1] at h1; rw [c2] at h2
  refine bodyPost_ret (v := .tuple #[.agg #[.slice A5 L.length c5, .int .i64 zn, .int .i64 zd], .int .i64 ze]) (by simp [results, Try.results25, go_sem, h0, h1, h2]) rfl ⟨_, rfl, ?_, hB.out, HV5.out.2.mono (by omega)⟩
  exact (((HV5.out.1.setCell HV5.out.2 (Nat.lt_succ_self _) _).setCell HV5.out.2 (Nat.lt_succ_self _) _).setCell HV5.out.2 (Nat.lt_succ_self _) _)

set_option maxRecDepth 4000 in
set_option maxHeartbeats 4000000 in
theorem tadd_wrong (w : World) (va vb : Value) (l m : List (Int × Int)) (xn xd yn yd : Int) (ha : RatsAt w va l) (hb : RatsAt w vb m) (hw : Wide l) (hw' : Wide m) (x1 : -9223372036854775808 ≤ xn) (x2 : xn ≤ 9223372036854775807) (x3 : -9223372036854775808 ≤ xd) (x4 : xd ≤ 9223372036854775807)
    (y1 : -9223372036854775808 ≤ yn) (y2 : yn ≤ 9223372036854775807) (y3 : -9223372036854775808 ≤ yd) (y4 : yd ≤ 9223372036854775807) (hr : rightT l xn xd = false ∨ (rightT l xn xd = true ∧ rightT m yn yd = false)) :
    Calls Try.prog 47 #[.agg #[va, .int .i64 xn, .int .i64 xd], .agg #[vb, .int .i64 yn, .int .i64 yd]] w (TermPut w [] (0, 0) 2) := by
  have ra := fun (w' : World) (h : Below w.heap.size w w') => tright_any w' va l xn xd (ha.below h) hw x1 x2 x3 x4
  have rb := fun (w' : World) (h : Below w.heap.size w w') => tright_any w' vb m yn yd (hb.below h) hw' y1 y2 y3 y4
  obtain ⟨A, c, rfl⟩ := rats_shape ha
  obtain ⟨B, d, rfl⟩ := rats_shape hb
  rcases hr with hr | ⟨hr, hr'⟩
  · rw [hr] at ra
    have RA := Lib.hid ra
    clear ra rb ha hb hw hw' x1 x2 x3 x4 y1 y2 y3 y4 hr
    generalize l.length = ll at *
    generalize m.length = lm at *
    obtain ⟨F, G, E, hb0⟩ := three_boxes w (.slice A ll c) (.int .i64 xn) (.int .i64 xd) (.slice B lm d) (.int .i64 yn) (.int .i64 yd) (.slice none 0 0) (.int .i64 0) (.int .i64 0) 27
    go_enter Try.func47, Try.ntmps47
    go_wp2_with (go_at_call 33; (with_reducible refine (RA.out _ hb0).mono ?_); rintro e w1 ⟨rfl, hb1⟩; have E := E.keep hb1; have b1 := Lib.hid (hb0.trans (hb1.mono hb0.size)); have e0 := E.k0; have e1 := E.k1; have e2 := E.k2; have l0 := E.l0; have l1 := E.l1; have l2 := E.l2)
    obtain ⟨c0, c1, c2⟩ := set_three (x := .slice none 0 0) (y := .int .i64 0) (z := .int .i64 0) e0 e1 e2
    obtain ⟨r1, r2, r3⟩ := put_end (w := w) (b := w.heap.size + 1 + 1) (kn := 0) (kd := 0) (RatsAt.nil w1) b1.out (Fresh.none_ _ _ _) (by omega) rfl
    exact bodyPost_ret (v := .tuple #[.agg #[.slice none 0 0, .int .i64 0, .int .i64 0], .int .i64 2]) (by simp [results, Try.results47, go_sem, c0, c1, c2]) rfl ⟨_, rfl, r1, r2, r3⟩
  · rw [hr] at ra
    rw [hr'] at rb
    have RA := Lib.hid ra; have RB := Lib.hid rb
    clear ra rb ha hb hw hw' x1 x2 x3 x4 y1 y2 y3 y4 hr hr'
    generalize l.length = ll at *
    generalize m.length = lm at *
    obtain ⟨F, G, E, hb0⟩ := three_boxes w (.slice A ll c) (.int .i64 xn) (.int .i64 xd) (.slice B lm d) (.int .i64 yn) (.int .i64 yd) (.slice none 0 0) (.int .i64 0) (.int .i64 0) 27
    go_enter Try.func47, Try.ntmps47
    go_wp2_with (go_at_call 33; (first
        | (with_reducible refine (RA.out _ hb0).mono ?_); rintro e w1 ⟨rfl, hb1⟩; have G := G.keep hb1; have E := E.keep hb1; have b1 := hb0.trans (hb1.mono hb0.size); have m0 := G.k0; have m1 := G.k1; have m2 := G.k2
        | (with_reducible refine (RB.out _ b1).mono ?_); rintro e w2 ⟨rfl, hb2⟩; have E := E.keep hb2; have b2 := Lib.hid (b1.trans (hb2.mono b1.size)); have e0 := E.k0; have e1 := E.k1; have e2 := E.k2; have l0 := E.l0; have l1 := E.l1; have l2 := E.l2))
    obtain ⟨c0, c1, c2⟩ := set_three (x := .slice none 0 0) (y := .int .i64 0) (z := .int .i64 0) e0 e1 e2
    obtain ⟨r1, r2, r3⟩ := put_end (w := w) (b := w.heap.size + 1 + 1) (kn := 0) (kd := 0) (RatsAt.nil w2) b2.out (Fresh.none_ _ _ _) (by omega) rfl
    exact bodyPost_ret (v := .tuple #[.agg #[.slice none 0 0, .int .i64 0, .int .i64 0], .int .i64 2]) (by simp [results, Try.results47, go_sem, c0, c1, c2]) rfl ⟨_, rfl, r1, r2, r3⟩

set_option maxRecDepth 4000 in
set_option maxHeartbeats 4000000 in
theorem tscale_wrong (w : World) (va : Value) (l : List (Int × Int)) (xn xd bn bd : Int) (ha : RatsAt w va l) (hw : Wide l) (x1 : -9223372036854775808 ≤ xn) (x2 : xn ≤ 9223372036854775807) (x3 : -9223372036854775808 ≤ xd) (x4 : xd ≤ 9223372036854775807)
    (y1 : -9223372036854775808 ≤ bn) (y2 : bn ≤ 9223372036854775807) (y3 : -9223372036854775808 ≤ bd) (y4 : bd ≤ 9223372036854775807) (hr : rightT l xn xd = false ∨ (rightT l xn xd = true ∧ rightB bn bd = false)) :
    Calls Try.prog 25 #[.agg #[va, .int .i64 xn, .int .i64 xd], ratV bn bd] w (TermPut w [] (0, 0) 2) := by
  have ra := fun (w' : World) (h : Below w.heap.size w w') => tright_any w' va l xn xd (ha.below h) hw x1 x2 x3 x4
  have rb := fun (w' : World) => right_any bn bd w' y1 y2 y3 y4
  obtain ⟨A, c, rfl⟩ := rats_shape ha
  have H := ScS.start w (.slice A l.length c) xn xd bn bd 27 25
  rcases hr with hr | ⟨hr, hr'⟩
  · rw [hr] at ra
    have RA := Lib.hid ra
    clear ra rb ha hw x1 x2 x3 x4 y1 y2 y3 y4 hr
    generalize l.length = ll at *
    go_enter Try.func25, Try.ntmps25
    go_wp2_with (go_at_call 33; (with_reducible refine (RA.out _ H.below).mono ?_); rintro e w1 ⟨rfl, hb1⟩; have H := H.keep hb1; have e0 := H.c0; have e1 := H.c1; have e2 := H.c2; have l0 := H.l0; have l1 := H.l1; have l2 := H.l2; have b1 := Lib.hid H.below)
    obtain ⟨c0, c1, c2⟩ := set_three (x := .slice none 0 0) (y := .int .i64 0) (z := .int .i64 0) e0 e1 e2
    obtain ⟨r1, r2, r3⟩ := put_end (w := w) (b := w.heap.size + 1 + 1) (kn := 0) (kd := 0) (RatsAt.nil w1) b1.out (Fresh.none_ _ _ _) (by omega) rfl
    exact bodyPost_ret (v := .tuple #[.agg #[.slice none 0 0, .int .i64 0, .int .i64 0], .int .i64 2]) (by simp [results, Try.results25, go_sem, c0, c1, c2]) rfl ⟨_, rfl, r1, r2, r3⟩
  · rw [hr] at ra
    rw [hr'] at rb
    have RA := Lib.hid ra; have RB := Lib.hid rb
    clear ra rb ha hw x1 x2 x3 x4 y1 y2 y3 y4 hr hr'
    generalize l.length = ll at *
    go_enter Try.func25, Try.ntmps25
    go_wp2_with (first
      | (go_at_call 33; (with_reducible refine (RA.out _ H.below).mono ?_); rintro e w1 ⟨rfl, hb1⟩; have H := H.keep hb1; have q0 := H.Q.k0; have q1 := H.Q.k1)
      | (go_at_call 55; (with_reducible refine (RB.out _).mono ?_); rintro e w2 ⟨rfl, hb2⟩; have H := H.keep hb2; have e0 := H.c0; have e1 := H.c1; have e2 := H.c2; have l0 := H.l0; have l1 := H.l1; have l2 := H.l2; have b1 := Lib.hid H.below))
    obtain ⟨c0, c1, c2⟩ := set_three (x := .slice none 0 0) (y := .int .i64 0) (z := .int .i64 0) e0 e1 e2
    obtain ⟨r1, r2, r3⟩ := put_end (w := w) (b := w.heap.size + 1 + 1) (kn := 0) (kd := 0) (RatsAt.nil w2) b1.out (Fresh.none_ _ _ _) (by omega) rfl
    exact bodyPost_ret (v := .tuple #[.agg #[.slice none 0 0, .int .i64 0, .int .i64 0], .int .i64 2]) (by simp [results, Try.results25, go_sem, c0, c1, c2]) rfl ⟨_, rfl, r1, r2, r3⟩
end Go.Proofs.Ytkinbbhbencipaa
