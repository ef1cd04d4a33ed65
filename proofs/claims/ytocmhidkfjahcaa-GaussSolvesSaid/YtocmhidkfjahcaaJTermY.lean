/-
  The walks of the reference's At and Own of terms. (Template: by-name.py fills it; gen/genROwn.py writes it.)
-/
import Derived.Test.YtocmhidkfjahcaaJTermR
namespace Go.Proofs.Ytocmhidkfjahcaa
open Go.RowKit

theorem set_pair {w1 : World} {b : Nat} {x y u0 u1 : Value} (h0 : w1.cell? ⟨b, 0, none⟩ = some u0) (h1 : w1.cell? ⟨b, 1, none⟩ = some u1) :
    ((w1.setCell ⟨b, 0, none⟩ x).setCell ⟨b, 1, none⟩ y).cell? ⟨b, 0, none⟩ = some x ∧ ((w1.setCell ⟨b, 0, none⟩ x).setCell ⟨b, 1, none⟩ y).cell? ⟨b, 1, none⟩ = some y := by
  obtain ⟨v0, g0⟩ := cell?_setCell_some (p := ⟨b, 1, none⟩) (x := y) (cell?_setCell_some (p := ⟨b, 0, none⟩) (x := x) h0).choose_spec
  obtain ⟨v1, g1⟩ := cell?_setCell_some (p := ⟨b, 1, none⟩) (x := y) (cell?_setCell_some (p := ⟨b, 0, none⟩) (x := x) h1).choose_spec
  have e0 := g0
  rw [set_two (by decide)] at e0
  exact ⟨g0.trans (congrArg some (cell_set_rev e0)), g1.trans (congrArg some (cell_set_rev g1))⟩

set_option maxHeartbeats 2000000 in
theorem rat_any (w : World) (v : Value) (l : List (Int × Int)) (kn kd i : Int) (h : RatsAt w v l) :
    Calls Try.prog 20 #[.agg #[v, .int .i64 kn, .int .i64 kd], .int .i64 i] w fun r w' => r = .returned (ratV (atL l i).1 (atL l i).2) ∧ Below w.heap.size w w' := by
  obtain ⟨A, c, rfl, h2, h3, h4⟩ := h
  have hb0 := below_alloc2 w (.cells #[.slice A l.length c, .int .i64 kn, .int .i64 kd] 39) (.cells #[.int .i64 0, .int .i64 0] 36)
  have R := RatAt.start (w.alloc (.cells #[.slice A l.length c, .int .i64 kn, .int .i64 kd] 39)) 0 0 36
  rw [World.size_alloc] at R
  have ze := Lib.hid rzero_any
  by_cases hi : i < 0
  · rw [atL_out (.inl hi)]
    have d1 : decide (i < 0) = true := decide_eq_true hi
    clear h2 h3 h4
    generalize l.length = n at *
    go_enter Try.func20, Try.ntmps20
    go_wp2_with (go_at_call 46; (with_reducible refine (ze.out _).mono ?_); rintro e w1 ⟨rfl, hb⟩; have B1 := Lib.hid (hb0.trans (hb.mono hb0.size)); have k0 := (keep_cell hb R.lt R.k0); have k1 := (keep_cell hb R.lt R.k1); have f0 : w1.frozen? ⟨w.heap.size + 1, 0, none⟩ = false := keep_free hb R.lt (by go_simp); have f1 : w1.frozen? ⟨w.heap.size + 1, 1, none⟩ = false := keep_free hb R.lt (by go_simp))
    obtain ⟨c0, c1⟩ := set_pair (x := .int .i64 0) (y := .int .i64 1) k0 k1
    exact bodyPost_ret (v := ratV 0 1) (by simp [results, Try.results20, go_sem, c0, c1]) rfl ⟨rfl, (B1.out.setCell (by show w.heap.size ≤ w.heap.size + 1; omega) _).setCell (by show w.heap.size ≤ w.heap.size + 1; omega) _⟩
  · have d1 : decide (i < 0) = false := decide_eq_false hi
    by_cases hl : (l.length : Int) ≤ i
    · rw [atL_out (.inr hl)]
      have d2 : decide ((l.length : Int) ≤ i) = true := decide_eq_true hl
      clear h2 h3 h4
      generalize l.length = n at *
      go_enter Try.func20, Try.ntmps20
      go_wp2_with (go_at_call 46; (with_reducible refine (ze.out _).mono ?_); rintro e w1 ⟨rfl, hb⟩; have B1 := Lib.hid (hb0.trans (hb.mono hb0.size)); have k0 := (keep_cell hb R.lt R.k0); have k1 := (keep_cell hb R.lt R.k1); have f0 : w1.frozen? ⟨w.heap.size + 1, 0, none⟩ = false := keep_free hb R.lt (by go_simp); have f1 : w1.frozen? ⟨w.heap.size + 1, 1, none⟩ = false := keep_free hb R.lt (by go_simp))
      obtain ⟨c0, c1⟩ := set_pair (x := .int .i64 0) (y := .int .i64 1) k0 k1
      exact bodyPost_ret (v := ratV 0 1) (by simp [results, Try.results20, go_sem, c0, c1]) rfl ⟨rfl, (B1.out.setCell (by show w.heap.size ≤ w.heap.size + 1; omega) _).setCell (by show w.heap.size ≤ w.heap.size + 1; omega) _⟩
    · obtain ⟨k, rfl⟩ : ∃ k : Nat, i = k := ⟨i.toNat, by omega⟩
      have hk : k < l.length := by omega
      obtain ⟨x, hx⟩ : ∃ x, l[k]? = some x := ⟨_, List.getElem?_eq_getElem hk⟩
      rw [atL_in hx]
      obtain ⟨ad, rfl, d3, d4⟩ := rats_cells h4 hb0 hx (by omega)
      have d2 : decide ((l.length : Int) ≤ (k : Int)) = false := decide_eq_false hl
      have i1 : (k : Int) < (l.length : Int) := by omega
      have i2 : (0 : Int) ≤ (k : Int) := by omega
      clear h2 h3 h4 hx hi hl hk ze R
      generalize l.length = n at *
      go_enter Try.func20, Try.ntmps20
      go_wp2_with fail
      exact bodyPost_ret (v := ratV x.1 x.2) (by simp [results, Try.results20, go_sem]) rfl ⟨rfl, (below_alloc2 _ _ _)⟩

theorem trimL_take (l : List (Int × Int)) : l.take (trimL l).length = trimL l := by
  have h : trimL l <+: l := by
    unfold trimL
    have := List.reverse_prefix.2 (List.dropWhile_suffix (fun x : Int × Int => x.1 == 0) (l := l.reverse))
    rwa [List.reverse_reverse] at this
  exact (List.prefix_iff_eq_take.1 h).symm

theorem trim_step {l : List (Int × Int)} {k : Nat} {x : Int × Int} (hx : l[k]? = some x) : (trimL (l.take (k + 1))).length = if x.1 = 0 then (trimL (l.take k)).length else k + 1 := by
  have hl : k < l.length := by
    rcases Nat.lt_or_ge k l.length with g | g
    · exact g
    · rw [List.getElem?_eq_none g] at hx; cases hx
  have et : l.take (k + 1) = l.take k ++ [x] := by
    have e : l[k] = x := by rw [List.getElem?_eq_getElem hl] at hx; exact Option.some.inj hx
    rw [← e, ← List.take_succ_eq_append_getElem hl]
  rw [et, trimL_snoc]
  split
  · rfl
  · rw [← et, List.length_take]
    omega

theorem below_rowed {wx w5 : World} (hg : (wx.drew.alloc (.cells #[] 36)).grownBy w5 (Value.slice (some ⟨wx.heap.size, 0, none⟩) 0 0).ownBlock) : Below wx.heap.size wx w5 :=
  ((below_drew wx).trans (below_alloc1 wx.drew _)).grown hg (by simp) (fun q hq => by
    have e : wx.heap.size = q := by simpa [Value.ownBlock] using hq
    omega)

set_option maxRecDepth 4000 in
set_option maxHeartbeats 4000000 in
theorem rown_right (w : World) (v : Value) (l : List (Int × Int)) (kn kd : Int) (h : RatsAt w v l) (hw : Wide l) (h1 : -9223372036854775808 ≤ kn) (h2 : kn ≤ 9223372036854775807) (h3 : -9223372036854775808 ≤ kd) (h4 : kd ≤ 9223372036854775807) (hr : rightT l kn kd = true) :
    Calls Try.prog 40 #[.agg #[v, .int .i64 kn, .int .i64 kd]] w (TermNew w (trimL l) kn kd) := by
  obtain ⟨i0, hi, hz0, hz1, hz2⟩ := info_parts infoR
  have hl8 : l.length ≤ 8 := by
    unfold rightT at hr
    simp only [Bool.and_eq_true, decide_eq_true_eq] at hr
    exact hr.1.1
  have rt := fun (w' : World) (hb : Below w.heap.size w w') => r2right_any w' v l kn kd (h.below hb) hw h1 h2 h3 h4
  rw [hr] at rt
  obtain ⟨A, c, rfl, g2, g3, g4⟩ := id h
  unfold maxLen at g3
  obtain ⟨n, hn⟩ : ∃ n, n = l.length := ⟨_, rfl⟩
  have htn := trimL_len l
  have HSt := own_start w A n c kn kd
  rw [← hn] at rt g2 g4 htn hl8 ⊢
  have HN := Lib.hid (And.intro hn (And.intro htn (And.intro g2 (And.intro g3 hl8))))
  have G4 := Lib.hid g4
  have RT := Lib.hid rt
  have hb0 := below_alloc2 w (.cells #[.slice A n c, .int .i64 kn, .int .i64 kd] 39) (.cells #[.slice none 0 0, .int .i64 0, .int .i64 0] 39)
  clear h hw h1 h2 h3 h4 hr hl8 rt hn htn g2 g3 g4
  go_enter Try.func40, Try.ntmps40
  go_upto_region 3 with (go_at_call 39; (with_reducible refine (RT.out _ hb0).mono ?_); rintro e w1 ⟨rfl, hb⟩)
  have HS1 := keep_own hb HSt
  have HSX := Lib.hid HS1
  have k0 := HS1.1.1
  have B1 := Lib.hid HS1.2.2.1
  clear hb0 hb HSt HS1
  go_wp2_with fail
  go_loopg [3, 4] n (fun g v3 v4 wx => w1 = wx ∧ ∃ k : Nat, k ≤ n ∧ g = n - k ∧ v4 = .int .i64 k ∧ v3 = .int .i64 ((trimL (l.take k)).length : Nat))
  case atStart => exact ⟨rfl, 0, Nat.zero_le _, rfl, rfl, by rw [List.take_zero]; rfl⟩
  case round =>
    obtain ⟨rfl, k, hk, hg, rfl, rfl⟩ := hrel
    by_cases hkn : k = n
    · have hlt : l.take k = l := by rw [hkn, HN.out.1]; exact List.take_length
      rw [hlt]
      subst hkn
      have rd : Reads w1 w1.heap.size 2 A (trimL l).length (ratCells (trimL l)) := by
        have := RatsAt.take (w := w1) HN.out.1.symm HN.out.2.2.1 (by have := HN.out.2.2.2.1; unfold maxLen; omega) ((G4.out.below B1.out).more B1.out.size) HN.out.2.1
        rw [trimL_take] at this
        obtain ⟨A', c', e, _, _, h4⟩ := this
        injection e with e1 e2 e3
        rw [e1]
        exact h4
      obtain ⟨j, hj⟩ : ∃ j, j = (trimL l).length := ⟨_, rfl⟩
      rw [← hj] at rd ⊢
      have HJ := Lib.hid (And.intro hj (show j ≤ 8 by have := HN.out.2.1; have := HN.out.2.2.2.2; omega))
      have RD := Lib.hid rd
      have j1 : (j : Int) ≤ (c : Int) := by have := HN.out; omega
      have j2 : (0 : Int) ≤ (j : Int) := by omega
      obtain ⟨wx, hwx⟩ : ∃ wx, wx = w1 := ⟨_, rfl⟩
      subst hwx
      have HS := keep_own (below_drew _) HSX.out
      have i1 : ¬ (k : Int) < (k : Int) := by omega
      clear hk hg hlt rd hj
      go_upto_region 9 with fail
      rcases A with _ | ad
      · have hk0 : k = 0 := by
          rcases Nat.eq_zero_or_pos k with g | g
          · exact g
          · obtain ⟨_, e, _⟩ := G4.out.2 g
            cases e
        have hj0 : j = 0 := by have := HJ.out.1; have := HN.out.2.1; omega
        subst hk0
        subst hj0
        refine wp_region_noPanic ?_
        refine wp_region_held_drew (S := (fun w' => (w'.cell? ⟨w.heap.size, 0, none⟩ = some (.slice none 0 c) ∧ w'.cell? ⟨w.heap.size, 1, none⟩ = some (.int .i64 kn) ∧ w'.cell? ⟨w.heap.size, 2, none⟩ = some (.int .i64 kd)) ∧ w.heap.size + 1 < w'.heap.size ∧ Below w.heap.size w w' ∧ (w'.cell? ⟨w.heap.size + 1, 0, none⟩ = some (cellD w' ⟨w.heap.size + 1, 0, none⟩) ∧ w'.cell? ⟨w.heap.size + 1, 1, none⟩ = some (cellD w' ⟨w.heap.size + 1, 1, none⟩) ∧ w'.cell? ⟨w.heap.size + 1, 2, none⟩ = some (cellD w' ⟨w.heap.size + 1, 2, none⟩)) ∧ (w'.frozen? ⟨w.heap.size + 1, 0, none⟩ = false ∧ w'.frozen? ⟨w.heap.size + 1, 1, none⟩ = false ∧ w'.frozen? ⟨w.heap.size + 1, 2, none⟩ = false))) (by kernel_rfl) HS (fun hHeld => ?_)
        refine wpAnyH_take (i := 1) (oi := _) (v := ?_) rfl (by kernel_rfl) (by kernel_rfl) (by kernel_rfl) (fun _ _ _ h => h) (Or.inl ⟨by rfl, ?_⟩) (by assumption) ?_
        rotate_left
        · intro ww hSw
          (try dsimp only at hSw)
          go_simp <;> with_reducible rfl
        (try simp only [List.getElem_toArray, List.getElem_cons_succ, List.getElem_cons_zero, Act.put, List.setIfInBounds_toArray, List.set_cons_zero, List.set_cons_succ])
        refine wpAnyH_take (i := 2) (oi := _) (v := ?_) rfl (by kernel_rfl) (by kernel_rfl) (by kernel_rfl) (fun _ _ _ h => h) (Or.inl ⟨by rfl, ?_⟩) (by assumption) ?_
        rotate_left
        · intro ww hSw
          (try dsimp only at hSw)
          go_simp <;> with_reducible rfl
        (try simp only [List.getElem_toArray, List.getElem_cons_succ, List.getElem_cons_zero, Act.put, List.setIfInBounds_toArray, List.set_cons_zero, List.set_cons_succ])
        refine wpAnyH_take (i := 3) (oi := _) (v := ?_) rfl (by kernel_rfl) (by kernel_rfl) (by kernel_rfl) (fun _ _ _ h => h) (Or.inl ⟨by rfl, ?_⟩) (by assumption) ?_
        rotate_left
        · intro ww hSw
          (try dsimp only at hSw)
          go_simp <;> with_reducible rfl
        (try simp only [List.getElem_toArray, List.getElem_cons_succ, List.getElem_cons_zero, Act.put, List.setIfInBounds_toArray, List.set_cons_zero, List.set_cons_succ])
        refine wpAnyH_take (i := 4) (oi := _) (v := ?_) rfl (by kernel_rfl) (by kernel_rfl) (by kernel_rfl) (fun _ _ _ h => h) (Or.inl ⟨by rfl, ?_⟩) (by assumption) ?_
        rotate_left
        · intro ww hSw
          (try dsimp only at hSw)
          go_simp <;> with_reducible rfl
        (try simp only [List.getElem_toArray, List.getElem_cons_succ, List.getElem_cons_zero, Act.put, List.setIfInBounds_toArray, List.set_cons_zero, List.set_cons_succ])
        refine wpAnyH_take (i := 6) (oi := _) (v := ?_) rfl (by kernel_rfl) (by kernel_rfl) (by kernel_rfl) (fun _ _ _ h => h) (Or.inl ⟨by rfl, ?_⟩) (by assumption) ?_
        rotate_left
        · intro ww hSw
          (try dsimp only at hSw)
          go_simp <;> with_reducible rfl
        (try simp only [List.getElem_toArray, List.getElem_cons_succ, List.getElem_cons_zero, Act.put, List.setIfInBounds_toArray, List.set_cons_zero, List.set_cons_succ])
        refine wpAnyH_take (i := 7) (oi := _) (v := ?_) rfl (by kernel_rfl) (by kernel_rfl) (by kernel_rfl) (fun _ _ _ h => h) (Or.inl ⟨by rfl, ?_⟩) (by assumption) ?_
        rotate_left
        · intro ww hSw
          (try dsimp only at hSw)
          go_simp <;> with_reducible rfl
        (try simp only [List.getElem_toArray, List.getElem_cons_succ, List.getElem_cons_zero, Act.put, List.setIfInBounds_toArray, List.set_cons_zero, List.set_cons_succ])
        refine wpAnyH_ready (rs := [0]) (by kernel_rfl) (by simp) ?_
        refine AllReadyH.cons (o := _) rfl (fun K hK => ?_) AllReadyH.nil
        go_simp
        refine hK.out _ _ (keep_own (below_alloc1 _ _) (by with_reducible assumption)) (fun hH2 => ?_)
        clear hK K hHeld
        have hHeld := hH2
        clear hH2
        (try simp only [List.getElem_toArray, List.getElem_cons_zero, Act.put, List.setIfInBounds_toArray, List.set_cons_zero, List.set_cons_succ])
        refine wpAnyH_ready (rs := [5]) (by kernel_rfl) (by simp) ?_
        refine AllReadyH.cons (o := _) rfl (fun K hK => ?_) AllReadyH.nil
        refine step_append_any _ rfl _ _ 30 rfl wx.heap.size 36 i0 (.agg #[.int .i64 0, .int .i64 0]) 2 16 Try.underlying30 hi hz0 hz1 hz2 rfl (by decide) _ 0 [] rfl (own_empty wx.drew) wx.heap.size none _ c (ratCells (trimL l)) rfl (RD.out.alloc (Nat.le_refl _) _) ?c2 ?c3 ?c4 ?c5 ?_
        case c2 => exact ratCells_one _
        case c3 => have := HJ.out; unfold maxLen; omega
        case c4 => have := HJ.out; omega
        case c5 => simp
        intro v' w5 hown hgrow _
        rw [Nat.zero_add, List.nil_append] at hown
        have b5 : Below wx.heap.size wx w5 := (below_rowed hgrow)
        have hv5 : RatsAt w5 v' (trimL l) := own_rats (base := wx.heap.size) (by have e := HJ.out.1; rw [← e]; exact hown)
        have hf5 : Fresh wx.heap.size v' := fun q hq => own_block hown hq
        obtain ⟨A5, c5, rfl⟩ := rats_shape hv5
        have HV5 := Lib.hid (And.intro hv5 hf5)
        refine hK.out _ _ (keep_own b5 HSX.out) (fun hH2 => ?_)
        clear hK K hHeld hown hgrow b5 hv5 hf5
        have hHeld := hH2
        clear hH2
        (try simp only [List.getElem_toArray, List.getElem_cons_succ, List.getElem_cons_zero, Act.put, List.setIfInBounds_toArray, List.set_cons_zero, List.set_cons_succ])
        refine wpAnyH_take (i := 8) (oi := _) (v := ?_) rfl (by kernel_rfl) (by kernel_rfl) (by kernel_rfl) (fun _ _ _ h => h) (Or.inl ⟨by rfl, ?_⟩) (by assumption) ?_
        rotate_left
        · intro ww hSw
          (try dsimp only at hSw)
          go_simp <;> with_reducible rfl
        (try simp only [List.getElem_toArray, List.getElem_cons_succ, List.getElem_cons_zero, Act.put, List.setIfInBounds_toArray, List.set_cons_zero, List.set_cons_succ])
        refine wpAnyH_ready (rs := [9]) (by kernel_rfl) (by simp) ?_
        refine AllReadyH.cons (o := _) rfl (fun K hK => ?_) AllReadyH.nil
        go_simp
        refine hK.out _ _ ?_ (fun hH2 => ?_)
        · exact set_own1 (set_own1 (set_own1 (by with_reducible assumption)))
        clear hK K hHeld
        have hHeld := hH2
        clear hH2
        (try simp only [List.getElem_toArray, List.getElem_cons_succ, List.getElem_cons_zero, Act.put, List.setIfInBounds_toArray, List.set_cons_zero, List.set_cons_succ])
        refine wpAnyH_done (by kernel_rfl) ?_ _
        refine NoPanic.normal ?_
        go_wp2_with fail
        obtain ⟨c0, c1, c2, hB⟩ := three_result (w := w) rfl (by with_reducible assumption)
        have f3 : Fresh (w.heap.size + 2) (.slice A5 (trimL l).length c5) := HV5.out.2.mono HSX.out.2.1
        refine bodyPost_ret (v := .agg #[.slice A5 (trimL l).length c5, .int .i64 kn, .int .i64 kd]) (by simp [results, Try.results40, go_sem, c0, c1, c2]) rfl ⟨_, rfl, ?_, hB, f3.mono (by omega)⟩
        exact (((HV5.out.1.setCell f3 (by show w.heap.size + 1 < _; omega) _).setCell f3 (by show w.heap.size + 1 < _; omega) _).setCell f3 (by show w.heap.size + 1 < _; omega) _)
      · skip
        refine wp_region_noPanic ?_
        refine wp_region_held_drew (S := (fun w' => (w'.cell? ⟨w.heap.size, 0, none⟩ = some (.slice (some ad) k c) ∧ w'.cell? ⟨w.heap.size, 1, none⟩ = some (.int .i64 kn) ∧ w'.cell? ⟨w.heap.size, 2, none⟩ = some (.int .i64 kd)) ∧ w.heap.size + 1 < w'.heap.size ∧ Below w.heap.size w w' ∧ (w'.cell? ⟨w.heap.size + 1, 0, none⟩ = some (cellD w' ⟨w.heap.size + 1, 0, none⟩) ∧ w'.cell? ⟨w.heap.size + 1, 1, none⟩ = some (cellD w' ⟨w.heap.size + 1, 1, none⟩) ∧ w'.cell? ⟨w.heap.size + 1, 2, none⟩ = some (cellD w' ⟨w.heap.size + 1, 2, none⟩)) ∧ (w'.frozen? ⟨w.heap.size + 1, 0, none⟩ = false ∧ w'.frozen? ⟨w.heap.size + 1, 1, none⟩ = false ∧ w'.frozen? ⟨w.heap.size + 1, 2, none⟩ = false))) (by kernel_rfl) HS (fun hHeld => ?_)
        refine wpAnyH_take (i := 1) (oi := _) (v := ?_) rfl (by kernel_rfl) (by kernel_rfl) (by kernel_rfl) (fun _ _ _ h => h) (Or.inl ⟨by rfl, ?_⟩) (by assumption) ?_
        rotate_left
        · intro ww hSw
          (try dsimp only at hSw)
          go_simp <;> with_reducible rfl
        (try simp only [List.getElem_toArray, List.getElem_cons_succ, List.getElem_cons_zero, Act.put, List.setIfInBounds_toArray, List.set_cons_zero, List.set_cons_succ])
        refine wpAnyH_take (i := 2) (oi := _) (v := ?_) rfl (by kernel_rfl) (by kernel_rfl) (by kernel_rfl) (fun _ _ _ h => h) (Or.inl ⟨by rfl, ?_⟩) (by assumption) ?_
        rotate_left
        · intro ww hSw
          (try dsimp only at hSw)
          go_simp <;> with_reducible rfl
        (try simp only [List.getElem_toArray, List.getElem_cons_succ, List.getElem_cons_zero, Act.put, List.setIfInBounds_toArray, List.set_cons_zero, List.set_cons_succ])
        refine wpAnyH_take (i := 3) (oi := _) (v := ?_) rfl (by kernel_rfl) (by kernel_rfl) (by kernel_rfl) (fun _ _ _ h => h) (Or.inl ⟨by rfl, ?_⟩) (by assumption) ?_
        rotate_left
        · intro ww hSw
          (try dsimp only at hSw)
          go_simp <;> with_reducible rfl
        (try simp only [List.getElem_toArray, List.getElem_cons_succ, List.getElem_cons_zero, Act.put, List.setIfInBounds_toArray, List.set_cons_zero, List.set_cons_succ])
        refine wpAnyH_take (i := 4) (oi := _) (v := ?_) rfl (by kernel_rfl) (by kernel_rfl) (by kernel_rfl) (fun _ _ _ h => h) (Or.inl ⟨by rfl, ?_⟩) (by assumption) ?_
        rotate_left
        · intro ww hSw
          (try dsimp only at hSw)
          go_simp <;> with_reducible rfl
        (try simp only [List.getElem_toArray, List.getElem_cons_succ, List.getElem_cons_zero, Act.put, List.setIfInBounds_toArray, List.set_cons_zero, List.set_cons_succ])
        refine wpAnyH_take (i := 6) (oi := _) (v := ?_) rfl (by kernel_rfl) (by kernel_rfl) (by kernel_rfl) (fun _ _ _ h => h) (Or.inl ⟨by rfl, ?_⟩) (by assumption) ?_
        rotate_left
        · intro ww hSw
          (try dsimp only at hSw)
          go_simp <;> with_reducible rfl
        (try simp only [List.getElem_toArray, List.getElem_cons_succ, List.getElem_cons_zero, Act.put, List.setIfInBounds_toArray, List.set_cons_zero, List.set_cons_succ])
        refine wpAnyH_take (i := 7) (oi := _) (v := ?_) rfl (by kernel_rfl) (by kernel_rfl) (by kernel_rfl) (fun _ _ _ h => h) (Or.inl ⟨by rfl, ?_⟩) (by assumption) ?_
        rotate_left
        · intro ww hSw
          (try dsimp only at hSw)
          go_simp <;> with_reducible rfl
        (try simp only [List.getElem_toArray, List.getElem_cons_succ, List.getElem_cons_zero, Act.put, List.setIfInBounds_toArray, List.set_cons_zero, List.set_cons_succ])
        refine wpAnyH_ready (rs := [0]) (by kernel_rfl) (by simp) ?_
        refine AllReadyH.cons (o := _) rfl (fun K hK => ?_) AllReadyH.nil
        go_simp
        refine hK.out _ _ (keep_own (below_alloc1 _ _) (by with_reducible assumption)) (fun hH2 => ?_)
        clear hK K hHeld
        have hHeld := hH2
        clear hH2
        (try simp only [List.getElem_toArray, List.getElem_cons_zero, Act.put, List.setIfInBounds_toArray, List.set_cons_zero, List.set_cons_succ])
        refine wpAnyH_ready (rs := [5]) (by kernel_rfl) (by simp) ?_
        refine AllReadyH.cons (o := _) rfl (fun K hK => ?_) AllReadyH.nil
        refine step_append_any _ rfl _ _ 30 rfl wx.heap.size 36 i0 (.agg #[.int .i64 0, .int .i64 0]) 2 16 Try.underlying30 hi hz0 hz1 hz2 rfl (by decide) _ 0 [] rfl (own_empty wx.drew) wx.heap.size (some ad) _ c (ratCells (trimL l)) rfl (RD.out.alloc (Nat.le_refl _) _) ?d2 ?d3 ?d4 ?d5 ?_
        case d2 => exact ratCells_one _
        case d3 => have := HJ.out; unfold maxLen; omega
        case d4 => have := HJ.out; omega
        case d5 => simp
        intro v' w5 hown hgrow _
        rw [Nat.zero_add, List.nil_append] at hown
        have b5 : Below wx.heap.size wx w5 := (below_rowed hgrow)
        have hv5 : RatsAt w5 v' (trimL l) := own_rats (base := wx.heap.size) (by have e := HJ.out.1; rw [← e]; exact hown)
        have hf5 : Fresh wx.heap.size v' := fun q hq => own_block hown hq
        obtain ⟨A5, c5, rfl⟩ := rats_shape hv5
        have HV5 := Lib.hid (And.intro hv5 hf5)
        refine hK.out _ _ (keep_own b5 HSX.out) (fun hH2 => ?_)
        clear hK K hHeld hown hgrow b5 hv5 hf5
        have hHeld := hH2
        clear hH2
        (try simp only [List.getElem_toArray, List.getElem_cons_succ, List.getElem_cons_zero, Act.put, List.setIfInBounds_toArray, List.set_cons_zero, List.set_cons_succ])
        refine wpAnyH_take (i := 8) (oi := _) (v := ?_) rfl (by kernel_rfl) (by kernel_rfl) (by kernel_rfl) (fun _ _ _ h => h) (Or.inl ⟨by rfl, ?_⟩) (by assumption) ?_
        rotate_left
        · intro ww hSw
          (try dsimp only at hSw)
          go_simp <;> with_reducible rfl
        (try simp only [List.getElem_toArray, List.getElem_cons_succ, List.getElem_cons_zero, Act.put, List.setIfInBounds_toArray, List.set_cons_zero, List.set_cons_succ])
        refine wpAnyH_ready (rs := [9]) (by kernel_rfl) (by simp) ?_
        refine AllReadyH.cons (o := _) rfl (fun K hK => ?_) AllReadyH.nil
        go_simp
        refine hK.out _ _ ?_ (fun hH2 => ?_)
        · exact set_own1 (set_own1 (set_own1 (by with_reducible assumption)))
        clear hK K hHeld
        have hHeld := hH2
        clear hH2
        (try simp only [List.getElem_toArray, List.getElem_cons_succ, List.getElem_cons_zero, Act.put, List.setIfInBounds_toArray, List.set_cons_zero, List.set_cons_succ])
        refine wpAnyH_done (by kernel_rfl) ?_ _
        refine NoPanic.normal ?_
        go_wp2_with fail
        obtain ⟨c0, c1, c2, hB⟩ := three_result (w := w) rfl (by with_reducible assumption)
        have f3 : Fresh (w.heap.size + 2) (.slice A5 (trimL l).length c5) := HV5.out.2.mono HSX.out.2.1
        refine bodyPost_ret (v := .agg #[.slice A5 (trimL l).length c5, .int .i64 kn, .int .i64 kd]) (by simp [results, Try.results40, go_sem, c0, c1, c2]) rfl ⟨_, rfl, ?_, hB, f3.mono (by omega)⟩
        exact (((HV5.out.1.setCell f3 (by show w.heap.size + 1 < _; omega) _).setCell f3 (by show w.heap.size + 1 < _; omega) _).setCell f3 (by show w.heap.size + 1 < _; omega) _)
    · have hlt : k < n := by omega
      obtain ⟨x, hx⟩ : ∃ x, l[k]? = some x := ⟨_, List.getElem?_eq_getElem (by have := HN.out.1; omega)⟩
      obtain ⟨ad, rfl, d1, _⟩ := rats_cells G4.out B1.out hx (by omega)
      have st := trim_step hx
      have i1 : (k : Int) < (n : Int) := by omega
      have i2 : (0 : Int) ≤ (k : Int) := by omega
      have wk : IntKind.i64.wrap ((k : Int) + 1) = (k : Int) + 1 := IntWalk.i64_in _ (by have := HN.out; omega)
      generalize x.1 = xn at *
      have HK := Lib.hid (And.intro hlt hg)
      clear hk hg hkn hlt hx
      by_cases hz : xn = 0
      · rw [if_pos hz] at st
        rw [hz] at d1
        have ST := Lib.hid st
        clear st hz
        go_wp2_with fail
        go_roundg (n - (k + 1))
        case measure => have := HK.out; omega
        case rel => exact ⟨rfl, k + 1, by have := HK.out; omega, rfl, by push_cast; rfl, by rw [ST.out]⟩
      · rw [if_neg hz] at st
        have hz' : (xn != 0) = true := by simpa using hz
        have ST := Lib.hid st
        clear st hz
        go_wp2_with fail
        go_roundg (n - (k + 1))
        case measure => have := HK.out; omega
        case rel => exact ⟨rfl, k + 1, by have := HK.out; omega, rfl, by push_cast; rfl, by rw [ST.out]; push_cast; rfl⟩
end Go.Proofs.Ytocmhidkfjahcaa
