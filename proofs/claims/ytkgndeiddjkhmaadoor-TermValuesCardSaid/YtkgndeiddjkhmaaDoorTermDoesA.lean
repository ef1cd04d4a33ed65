/-
  The walk of the reference's Do of terms: multiples. (Template: by-name.py fills it; gen/genRDo.py writes it.)
-/
import Derived.Test.YtkgndeiddjkhmaaDoorTermR
import Derived.Test.YtkgndeiddjkhmaaDoorTermU
import Derived.Test.YtkgndeiddjkhmaaDoorNumM
import Derived.Test.YtkgndeiddjkhmaaDoorNumO
import Derived.Test.YtkgndeiddjkhmaaDoorRatP
import Derived.Deep.CutRange
namespace Go.Proofs.YtkgndeiddjkhmaaDoor
open Go.RowKit

theorem set_pair {w1 : World} {b : Nat} {x y u0 u1 : Value} (h0 : w1.cell? ⟨b, 0, none⟩ = some u0) (h1 : w1.cell? ⟨b, 1, none⟩ = some u1) :
    ((w1.setCell ⟨b, 0, none⟩ x).setCell ⟨b, 1, none⟩ y).cell? ⟨b, 0, none⟩ = some x ∧ ((w1.setCell ⟨b, 0, none⟩ x).setCell ⟨b, 1, none⟩ y).cell? ⟨b, 1, none⟩ = some y := by
  obtain ⟨v0, g0⟩ := cell?_setCell_some (p := ⟨b, 1, none⟩) (x := y) (cell?_setCell_some (p := ⟨b, 0, none⟩) (x := x) h0).choose_spec
  obtain ⟨v1, g1⟩ := cell?_setCell_some (p := ⟨b, 1, none⟩) (x := y) (cell?_setCell_some (p := ⟨b, 0, none⟩) (x := x) h1).choose_spec
  have e0 := g0
  rw [set_two (by decide)] at e0
  exact ⟨g0.trans (congrArg some (cell_set_rev e0)), g1.trans (congrArg some (cell_set_rev g1))⟩

set_option maxHeartbeats 2000000 in
theorem rat_any (w : World) (v : Value) (l : List (Int × Int)) (kn kd i : Int) (h : RatsAt w v l) :
    Calls Tryd.prog 20 #[.agg #[v, .int .i64 kn, .int .i64 kd], .int .i64 i] w fun r w' => r = .returned (ratV (atL l i).1 (atL l i).2) ∧ Below w.heap.size w w' := by
  obtain ⟨A, c, rfl, h2, h3, h4⟩ := h
  have hb0 := below_alloc2 w (.cells #[.slice A l.length c, .int .i64 kn, .int .i64 kd] 26) (.cells #[.int .i64 0, .int .i64 0] 24)
  have R := RatAt.start (w.alloc (.cells #[.slice A l.length c, .int .i64 kn, .int .i64 kd] 26)) 0 0 24
  rw [World.size_alloc] at R
  have ze := Lib.hid rzero_any
  by_cases hi : i < 0
  · rw [atL_out (.inl hi)]
    have d1 : decide (i < 0) = true := decide_eq_true hi
    clear h2 h3 h4
    generalize l.length = n at *
    go_enter Tryd.func20, Tryd.ntmps20
    go_wp2_with (go_at_call 37; (with_reducible refine (ze.out _).mono ?_); rintro e w1 ⟨rfl, hb⟩; have B1 := Lib.hid (hb0.trans (hb.mono hb0.size)); have k0 := (keep_cell hb R.lt R.k0); have k1 := (keep_cell hb R.lt R.k1); have f0 : w1.frozen? ⟨w.heap.size + 1, 0, none⟩ = false := keep_free hb R.lt (by go_simp); have f1 : w1.frozen? ⟨w.heap.size + 1, 1, none⟩ = false := keep_free hb R.lt (by go_simp))
    obtain ⟨c0, c1⟩ := set_pair (x := .int .i64 0) (y := .int .i64 1) k0 k1
    exact bodyPost_ret (v := ratV 0 1) (by simp [results, Tryd.results20, go_sem, c0, c1]) rfl ⟨rfl, (B1.out.setCell (by show w.heap.size ≤ w.heap.size + 1; omega) _).setCell (by show w.heap.size ≤ w.heap.size + 1; omega) _⟩
  · have d1 : decide (i < 0) = false := decide_eq_false hi
    by_cases hl : (l.length : Int) ≤ i
    · rw [atL_out (.inr hl)]
      have d2 : decide ((l.length : Int) ≤ i) = true := decide_eq_true hl
      clear h2 h3 h4
      generalize l.length = n at *
      go_enter Tryd.func20, Tryd.ntmps20
      go_wp2_with (go_at_call 37; (with_reducible refine (ze.out _).mono ?_); rintro e w1 ⟨rfl, hb⟩; have B1 := Lib.hid (hb0.trans (hb.mono hb0.size)); have k0 := (keep_cell hb R.lt R.k0); have k1 := (keep_cell hb R.lt R.k1); have f0 : w1.frozen? ⟨w.heap.size + 1, 0, none⟩ = false := keep_free hb R.lt (by go_simp); have f1 : w1.frozen? ⟨w.heap.size + 1, 1, none⟩ = false := keep_free hb R.lt (by go_simp))
      obtain ⟨c0, c1⟩ := set_pair (x := .int .i64 0) (y := .int .i64 1) k0 k1
      exact bodyPost_ret (v := ratV 0 1) (by simp [results, Tryd.results20, go_sem, c0, c1]) rfl ⟨rfl, (B1.out.setCell (by show w.heap.size ≤ w.heap.size + 1; omega) _).setCell (by show w.heap.size ≤ w.heap.size + 1; omega) _⟩
    · obtain ⟨k, rfl⟩ : ∃ k : Nat, i = k := ⟨i.toNat, by omega⟩
      have hk : k < l.length := by omega
      obtain ⟨x, hx⟩ : ∃ x, l[k]? = some x := ⟨_, List.getElem?_eq_getElem hk⟩
      rw [atL_in hx]
      obtain ⟨ad, rfl, d3, d4⟩ := rats_cells h4 hb0 hx (by omega)
      have d2 : decide ((l.length : Int) ≤ (k : Int)) = false := decide_eq_false hl
      have i1 : (k : Int) < (l.length : Int) := by omega
      have i2 : (0 : Int) ≤ (k : Int) := by omega
      clear h2 h3 h4 hx hi hl hk ze R
      generalize l.length = n at *
      go_enter Tryd.func20, Tryd.ntmps20
      go_wp2_with fail
      exact bodyPost_ret (v := ratV x.1 x.2) (by simp [results, Tryd.results20, go_sem]) rfl ⟨rfl, (below_alloc2 _ _ _)⟩

theorem trimL_take (l : List (Int × Int)) : l.take (trimL l).length = trimL l := by
  have h : trimL l <+: l := by
    unfold trimL
    have := List.reverse_prefix.2 (List.dropWhile_suffix (fun x : Int × Int => x.1 == 0) (l := l.reverse))
    rwa [List.reverse_reverse] at this
  exact (List.prefix_iff_eq_take.1 h).symm

theorem trim_step {l : List (Int × Int)} {k : Nat} {x : Int × Int} (hx : l[k]? = some x) : (trimL (l.take (k + 1))).length = if x.1 = 0 then (trimL (l.take k)).length else k + 1 := by
  have hl : k < l.length := by
    rcases Nat.lt_or_ge k l.length with g | g
    · exact g
    · rw [List.getElem?_eq_none g] at hx; cases hx
  have et : l.take (k + 1) = l.take k ++ [x] := by
    have e : l[k] = x := by rw [List.getElem?_eq_getElem hl] at hx; exact Option.some.inj hx
    rw [← e, ← List.take_succ_eq_append_getElem hl]
  rw [et, trimL_snoc]
  split
  · rfl
  · rw [← et, List.length_take]
    omega

theorem below_rowed {wx w5 : World} (hg : (wx.drew.alloc (.cells #[] 24)).grownBy w5 (Value.slice (some ⟨wx.heap.size, 0, none⟩) 0 0).ownBlock) : Below wx.heap.size wx w5 :=
  ((below_drew wx).trans (below_alloc1 wx.drew _)).grown hg (by simp) (fun q hq => by
    have e : wx.heap.size = q := by simpa [Value.ownBlock] using hq
    omega)

set_option maxRecDepth 4000 in
set_option maxHeartbeats 4000000 in
theorem rown_right (w : World) (v : Value) (l : List (Int × Int)) (kn kd : Int) (h : RatsAt w v l) (hw : Wide l) (h1 : -9223372036854775808 ≤ kn) (h2 : kn ≤ 9223372036854775807) (h3 : -9223372036854775808 ≤ kd) (h4 : kd ≤ 9223372036854775807) (hr : rightT l kn kd = true) :
    Calls Tryd.prog 18 #[.agg #[v, .int .i64 kn, .int .i64 kd]] w (TermNew w (trimL l) kn kd) := by
  obtain ⟨i0, hi, hz0, hz1, hz2⟩ := info_parts infoR
  have hl8 : l.length ≤ 8 := by
    unfold rightT at hr
    simp only [Bool.and_eq_true, decide_eq_true_eq] at hr
    exact hr.1.1
  have rt := fun (w' : World) (hb : Below w.heap.size w w') => r2right_any w' v l kn kd (h.below hb) hw h1 h2 h3 h4
  rw [hr] at rt
  obtain ⟨A, c, rfl, g2, g3, g4⟩ := id h
  unfold maxLen at g3
  obtain ⟨n, hn⟩ : ∃ n, n = l.length := ⟨_, rfl⟩
  have htn := trimL_len l
  have HSt := own_start w A n c kn kd
  rw [← hn] at rt g2 g4 htn hl8 ⊢
  have HN := Lib.hid (And.intro hn (And.intro htn (And.intro g2 (And.intro g3 hl8))))
  have G4 := Lib.hid g4
  have RT := Lib.hid rt
  have hb0 := below_alloc2 w (.cells #[.slice A n c, .int .i64 kn, .int .i64 kd] 26) (.cells #[.slice none 0 0, .int .i64 0, .int .i64 0] 26)
  clear h hw h1 h2 h3 h4 hr hl8 rt hn htn g2 g3 g4
  go_enter Tryd.func18, Tryd.ntmps18
  go_upto_region 3 with (go_at_call 16; (with_reducible refine (RT.out _ hb0).mono ?_); rintro e w1 ⟨rfl, hb⟩)
  have HS1 := keep_own hb HSt
  have HSX := Lib.hid HS1
  have k0 := HS1.1.1
  have B1 := Lib.hid HS1.2.2.1
  clear hb0 hb HSt HS1
  go_wp2_with fail
  go_loopg [3, 4] n (fun g v3 v4 wx => w1 = wx ∧ ∃ k : Nat, k ≤ n ∧ g = n - k ∧ v4 = .int .i64 k ∧ v3 = .int .i64 ((trimL (l.take k)).length : Nat))
  case atStart => exact ⟨rfl, 0, Nat.zero_le _, rfl, rfl, by rw [List.take_zero]; rfl⟩
  case round =>
    obtain ⟨rfl, k, hk, hg, rfl, rfl⟩ := hrel
    by_cases hkn : k = n
    · have hlt : l.take k = l := by rw [hkn, HN.out.1]; exact List.take_length
      rw [hlt]
      subst hkn
      have rd : Reads w1 w1.heap.size 2 A (trimL l).length (ratCells (trimL l)) := by
        have := RatsAt.take (w := w1) HN.out.1.symm HN.out.2.2.1 (by have := HN.out.2.2.2.1; unfold maxLen; omega) ((G4.out.below B1.out).more B1.out.size) HN.out.2.1
        rw [trimL_take] at this
        obtain ⟨A', c', e, _, _, h4⟩ := this
        injection e with e1 e2 e3
        rw [e1]
        exact h4
      obtain ⟨j, hj⟩ : ∃ j, j = (trimL l).length := ⟨_, rfl⟩
      rw [← hj] at rd ⊢
      have HJ := Lib.hid (And.intro hj (show j ≤ 8 by have := HN.out.2.1; have := HN.out.2.2.2.2; omega))
      have RD := Lib.hid rd
      have j1 : (j : Int) ≤ (c : Int) := by have := HN.out; omega
      have j2 : (0 : Int) ≤ (j : Int) := by omega
      obtain ⟨wx, hwx⟩ : ∃ wx, wx = w1 := ⟨_, rfl⟩
      subst hwx
      have HS := keep_own (below_drew _) HSX.out
      have i1 : ¬ (k : Int) < (k : Int) := by omega
      clear hk hg hlt rd hj
      go_upto_region 9 with fail
      rcases A with _ | ad
      · have hk0 : k = 0 := by
          rcases Nat.eq_zero_or_pos k with g | g
          · exact g
          · obtain ⟨_, e, _⟩ := G4.out.2 g
            cases e
        have hj0 : j = 0 := by have := HJ.out.1; have := HN.out.2.1; omega
        subst hk0
        subst hj0
        refine wp_region_noPanic ?_
        refine wp_region_held_drew (S := (fun w' => (w'.cell? ⟨w.heap.size, 0, none⟩ = some (.slice none 0 c) ∧ w'.cell? ⟨w.heap.size, 1, none⟩ = some (.int .i64 kn) ∧ w'.cell? ⟨w.heap.size, 2, none⟩ = some (.int .i64 kd)) ∧ w.heap.size + 1 < w'.heap.size ∧ Below w.heap.size w w' ∧ (w'.cell? ⟨w.heap.size + 1, 0, none⟩ = some (cellD w' ⟨w.heap.size + 1, 0, none⟩) ∧ w'.cell? ⟨w.heap.size + 1, 1, none⟩ = some (cellD w' ⟨w.heap.size + 1, 1, none⟩) ∧ w'.cell? ⟨w.heap.size + 1, 2, none⟩ = some (cellD w' ⟨w.heap.size + 1, 2, none⟩)) ∧ (w'.frozen? ⟨w.heap.size + 1, 0, none⟩ = false ∧ w'.frozen? ⟨w.heap.size + 1, 1, none⟩ = false ∧ w'.frozen? ⟨w.heap.size + 1, 2, none⟩ = false))) (by kernel_rfl) HS (fun hHeld => ?_)
        refine wpAnyH_take (i := 1) (oi := _) (v := ?_) rfl (by kernel_rfl) (by kernel_rfl) (by kernel_rfl) (fun _ _ _ h => h) (Or.inl ⟨by rfl, ?_⟩) (by assumption) ?_
        rotate_left
        · intro ww hSw
          (try dsimp only at hSw)
          go_simp <;> with_reducible rfl
        (try simp only [List.getElem_toArray, List.getElem_cons_succ, List.getElem_cons_zero, Act.put, List.setIfInBounds_toArray, List.set_cons_zero, List.set_cons_succ])
        refine wpAnyH_take (i := 2) (oi := _) (v := ?_) rfl (by kernel_rfl) (by kernel_rfl) (by kernel_rfl) (fun _ _ _ h => h) (Or.inl ⟨by rfl, ?_⟩) (by assumption) ?_
        rotate_left
        · intro ww hSw
          (try dsimp only at hSw)
          go_simp <;> with_reducible rfl
        (try simp only [List.getElem_toArray, List.getElem_cons_succ, List.getElem_cons_zero, Act.put, List.setIfInBounds_toArray, List.set_cons_zero, List.set_cons_succ])
        refine wpAnyH_take (i := 3) (oi := _) (v := ?_) rfl (by kernel_rfl) (by kernel_rfl) (by kernel_rfl) (fun _ _ _ h => h) (Or.inl ⟨by rfl, ?_⟩) (by assumption) ?_
        rotate_left
        · intro ww hSw
          (try dsimp only at hSw)
          go_simp <;> with_reducible rfl
        (try simp only [List.getElem_toArray, List.getElem_cons_succ, List.getElem_cons_zero, Act.put, List.setIfInBounds_toArray, List.set_cons_zero, List.set_cons_succ])
        refine wpAnyH_take (i := 4) (oi := _) (v := ?_) rfl (by kernel_rfl) (by kernel_rfl) (by kernel_rfl) (fun _ _ _ h => h) (Or.inl ⟨by rfl, ?_⟩) (by assumption) ?_
        rotate_left
        · intro ww hSw
          (try dsimp only at hSw)
          go_simp <;> with_reducible rfl
        (try simp only [List.getElem_toArray, List.getElem_cons_succ, List.getElem_cons_zero, Act.put, List.setIfInBounds_toArray, List.set_cons_zero, List.set_cons_succ])
        refine wpAnyH_take (i := 6) (oi := _) (v := ?_) rfl (by kernel_rfl) (by kernel_rfl) (by kernel_rfl) (fun _ _ _ h => h) (Or.inl ⟨by rfl, ?_⟩) (by assumption) ?_
        rotate_left
        · intro ww hSw
          (try dsimp only at hSw)
          go_simp <;> with_reducible rfl
        (try simp only [List.getElem_toArray, List.getElem_cons_succ, List.getElem_cons_zero, Act.put, List.setIfInBounds_toArray, List.set_cons_zero, List.set_cons_succ])
        refine wpAnyH_take (i := 7) (oi := _) (v := ?_) rfl (by kernel_rfl) (by kernel_rfl) (by kernel_rfl) (fun _ _ _ h => h) (Or.inl ⟨by rfl, ?_⟩) (by assumption) ?_
        rotate_left
        · intro ww hSw
          (try dsimp only at hSw)
          go_simp <;> with_reducible rfl
        (try simp only [List.getElem_toArray, List.getElem_cons_succ, List.getElem_cons_zero, Act.put, List.setIfInBounds_toArray, List.set_cons_zero, List.set_cons_succ])
        refine wpAnyH_ready (rs := [0]) (by kernel_rfl) (by simp) ?_
        refine AllReadyH.cons (o := _) rfl (fun K hK => ?_) AllReadyH.nil
        go_simp
        refine hK.out _ _ (keep_own (below_alloc1 _ _) (by with_reducible assumption)) (fun hH2 => ?_)
        clear hK K hHeld
        have hHeld := hH2
        clear hH2
        (try simp only [List.getElem_toArray, List.getElem_cons_zero, Act.put, List.setIfInBounds_toArray, List.set_cons_zero, List.set_cons_succ])
        refine wpAnyH_ready (rs := [5]) (by kernel_rfl) (by simp) ?_
        refine AllReadyH.cons (o := _) rfl (fun K hK => ?_) AllReadyH.nil
        refine step_append_any _ rfl _ _ 22 rfl wx.heap.size 24 i0 (.agg #[.int .i64 0, .int .i64 0]) 2 16 Tryd.underlying22 hi hz0 hz1 hz2 rfl (by decide) _ 0 [] rfl (own_empty wx.drew) wx.heap.size none _ c (ratCells (trimL l)) rfl (RD.out.alloc (Nat.le_refl _) _) ?c2 ?c3 ?c4 ?c5 ?_
        case c2 => exact ratCells_one _
        case c3 => have := HJ.out; unfold maxLen; omega
        case c4 => have := HJ.out; omega
        case c5 => simp
        intro v' w5 hown hgrow _
        rw [Nat.zero_add, List.nil_append] at hown
        have b5 : Below wx.heap.size wx w5 := (below_rowed hgrow)
        have hv5 : RatsAt w5 v' (trimL l) := own_rats (base := wx.heap.size) (by have e := HJ.out.1; rw [← e]; exact hown)
        have hf5 : Fresh wx.heap.size v' := fun q hq => own_block hown hq
        obtain ⟨A5, c5, rfl⟩ := rats_shape hv5
        have HV5 := Lib.hid (And.intro hv5 hf5)
        refine hK.out _ _ (keep_own b5 HSX.out) (fun hH2 => ?_)
        clear hK K hHeld hown hgrow b5 hv5 hf5
        have hHeld := hH2
        clear hH2
        (try simp only [List.getElem_toArray, List.getElem_cons_succ, List.getElem_cons_zero, Act.put, List.setIfInBounds_toArray, List.set_cons_zero, List.set_cons_succ])
        refine wpAnyH_take (i := 8) (oi := _) (v := ?_) rfl (by kernel_rfl) (by kernel_rfl) (by kernel_rfl) (fun _ _ _ h => h) (Or.inl ⟨by rfl, ?_⟩) (by assumption) ?_
        rotate_left
        · intro ww hSw
          (try dsimp only at hSw)
          go_simp <;> with_reducible rfl
        (try simp only [List.getElem_toArray, List.getElem_cons_succ, List.getElem_cons_zero, Act.put, List.setIfInBounds_toArray, List.set_cons_zero, List.set_cons_succ])
        refine wpAnyH_ready (rs := [9]) (by kernel_rfl) (by simp) ?_
        refine AllReadyH.cons (o := _) rfl (fun K hK => ?_) AllReadyH.nil
        go_simp
        refine hK.out _ _ ?_ (fun hH2 => ?_)
        · exact set_own1 (set_own1 (set_own1 (by with_reducible assumption)))
        clear hK K hHeld
        have hHeld := hH2
        clear hH2
        (try simp only [List.getElem_toArray, List.getElem_cons_succ, List.getElem_cons_zero, Act.put, List.setIfInBounds_toArray, List.set_cons_zero, List.set_cons_succ])
        refine wpAnyH_done (by kernel_rfl) ?_ _
        refine NoPanic.normal ?_
        go_wp2_with fail
        obtain ⟨c0, c1, c2, hB⟩ := three_result (w := w) rfl (by with_reducible assumption)
        have f3 : Fresh (w.heap.size + 2) (.slice A5 (trimL l).length c5) := HV5.out.2.mono HSX.out.2.1
        refine bodyPost_ret (v := .agg #[.slice A5 (trimL l).length c5, .int .i64 kn, .int .i64 kd]) (by simp [results, Tryd.results18, go_sem, c0, c1, c2]) rfl ⟨_, rfl, ?_, hB, f3.mono (by omega)⟩
        exact (((HV5.out.1.setCell f3 (by show w.heap.size + 1 < _; omega) _).setCell f3 (by show w.heap.size + 1 < _; omega) _).setCell f3 (by show w.heap.size + 1 < _; omega) _)
      · skip
        refine wp_region_noPanic ?_
        refine wp_region_held_drew (S := (fun w' => (w'.cell? ⟨w.heap.size, 0, none⟩ = some (.slice (some ad) k c) ∧ w'.cell? ⟨w.heap.size, 1, none⟩ = some (.int .i64 kn) ∧ w'.cell? ⟨w.heap.size, 2, none⟩ = some (.int .i64 kd)) ∧ w.heap.size + 1 < w'.heap.size ∧ Below w.heap.size w w' ∧ (w'.cell? ⟨w.heap.size + 1, 0, none⟩ = some (cellD w' ⟨w.heap.size + 1, 0, none⟩) ∧ w'.cell? ⟨w.heap.size + 1, 1, none⟩ = some (cellD w' ⟨w.heap.size + 1, 1, none⟩) ∧ w'.cell? ⟨w.heap.size + 1, 2, none⟩ = some (cellD w' ⟨w.heap.size + 1, 2, none⟩)) ∧ (w'.frozen? ⟨w.heap.size + 1, 0, none⟩ = false ∧ w'.frozen? ⟨w.heap.size + 1, 1, none⟩ = false ∧ w'.frozen? ⟨w.heap.size + 1, 2, none⟩ = false))) (by kernel_rfl) HS (fun hHeld => ?_)
        refine wpAnyH_take (i := 1) (oi := _) (v := ?_) rfl (by kernel_rfl) (by kernel_rfl) (by kernel_rfl) (fun _ _ _ h => h) (Or.inl ⟨by rfl, ?_⟩) (by assumption) ?_
        rotate_left
        · intro ww hSw
          (try dsimp only at hSw)
          go_simp <;> with_reducible rfl
        (try simp only [List.getElem_toArray, List.getElem_cons_succ, List.getElem_cons_zero, Act.put, List.setIfInBounds_toArray, List.set_cons_zero, List.set_cons_succ])
        refine wpAnyH_take (i := 2) (oi := _) (v := ?_) rfl (by kernel_rfl) (by kernel_rfl) (by kernel_rfl) (fun _ _ _ h => h) (Or.inl ⟨by rfl, ?_⟩) (by assumption) ?_
        rotate_left
        · intro ww hSw
          (try dsimp only at hSw)
          go_simp <;> with_reducible rfl
        (try simp only [List.getElem_toArray, List.getElem_cons_succ, List.getElem_cons_zero, Act.put, List.setIfInBounds_toArray, List.set_cons_zero, List.set_cons_succ])
        refine wpAnyH_take (i := 3) (oi := _) (v := ?_) rfl (by kernel_rfl) (by kernel_rfl) (by kernel_rfl) (fun _ _ _ h => h) (Or.inl ⟨by rfl, ?_⟩) (by assumption) ?_
        rotate_left
        · intro ww hSw
          (try dsimp only at hSw)
          go_simp <;> with_reducible rfl
        (try simp only [List.getElem_toArray, List.getElem_cons_succ, List.getElem_cons_zero, Act.put, List.setIfInBounds_toArray, List.set_cons_zero, List.set_cons_succ])
        refine wpAnyH_take (i := 4) (oi := _) (v := ?_) rfl (by kernel_rfl) (by kernel_rfl) (by kernel_rfl) (fun _ _ _ h => h) (Or.inl ⟨by rfl, ?_⟩) (by assumption) ?_
        rotate_left
        · intro ww hSw
          (try dsimp only at hSw)
          go_simp <;> with_reducible rfl
        (try simp only [List.getElem_toArray, List.getElem_cons_succ, List.getElem_cons_zero, Act.put, List.setIfInBounds_toArray, List.set_cons_zero, List.set_cons_succ])
        refine wpAnyH_take (i := 6) (oi := _) (v := ?_) rfl (by kernel_rfl) (by kernel_rfl) (by kernel_rfl) (fun _ _ _ h => h) (Or.inl ⟨by rfl, ?_⟩) (by assumption) ?_
        rotate_left
        · intro ww hSw
          (try dsimp only at hSw)
          go_simp <;> with_reducible rfl
        (try simp only [List.getElem_toArray, List.getElem_cons_succ, List.getElem_cons_zero, Act.put, List.setIfInBounds_toArray, List.set_cons_zero, List.set_cons_succ])
        refine wpAnyH_take (i := 7) (oi := _) (v := ?_) rfl (by kernel_rfl) (by kernel_rfl) (by kernel_rfl) (fun _ _ _ h => h) (Or.inl ⟨by rfl, ?_⟩) (by assumption) ?_
        rotate_left
        · intro ww hSw
          (try dsimp only at hSw)
          go_simp <;> with_reducible rfl
        (try simp only [List.getElem_toArray, List.getElem_cons_succ, List.getElem_cons_zero, Act.put, List.setIfInBounds_toArray, List.set_cons_zero, List.set_cons_succ])
        refine wpAnyH_ready (rs := [0]) (by kernel_rfl) (by simp) ?_
        refine AllReadyH.cons (o := _) rfl (fun K hK => ?_) AllReadyH.nil
        go_simp
        refine hK.out _ _ (keep_own (below_alloc1 _ _) (by with_reducible assumption)) (fun hH2 => ?_)
        clear hK K hHeld
        have hHeld := hH2
        clear hH2
        (try simp only [List.getElem_toArray, List.getElem_cons_zero, Act.put, List.setIfInBounds_toArray, List.set_cons_zero, List.set_cons_succ])
        refine wpAnyH_ready (rs := [5]) (by kernel_rfl) (by simp) ?_
        refine AllReadyH.cons (o := _) rfl (fun K hK => ?_) AllReadyH.nil
        refine step_append_any _ rfl _ _ 22 rfl wx.heap.size 24 i0 (.agg #[.int .i64 0, .int .i64 0]) 2 16 Tryd.underlying22 hi hz0 hz1 hz2 rfl (by decide) _ 0 [] rfl (own_empty wx.drew) wx.heap.size (some ad) _ c (ratCells (trimL l)) rfl (RD.out.alloc (Nat.le_refl _) _) ?d2 ?d3 ?d4 ?d5 ?_
        case d2 => exact ratCells_one _
        case d3 => have := HJ.out; unfold maxLen; omega
        case d4 => have := HJ.out; omega
        case d5 => simp
        intro v' w5 hown hgrow _
        rw [Nat.zero_add, List.nil_append] at hown
        have b5 : Below wx.heap.size wx w5 := (below_rowed hgrow)
        have hv5 : RatsAt w5 v' (trimL l) := own_rats (base := wx.heap.size) (by have e := HJ.out.1; rw [← e]; exact hown)
        have hf5 : Fresh wx.heap.size v' := fun q hq => own_block hown hq
        obtain ⟨A5, c5, rfl⟩ := rats_shape hv5
        have HV5 := Lib.hid (And.intro hv5 hf5)
        refine hK.out _ _ (keep_own b5 HSX.out) (fun hH2 => ?_)
        clear hK K hHeld hown hgrow b5 hv5 hf5
        have hHeld := hH2
        clear hH2
        (try simp only [List.getElem_toArray, List.getElem_cons_succ, List.getElem_cons_zero, Act.put, List.setIfInBounds_toArray, List.set_cons_zero, List.set_cons_succ])
        refine wpAnyH_take (i := 8) (oi := _) (v := ?_) rfl (by kernel_rfl) (by kernel_rfl) (by kernel_rfl) (fun _ _ _ h => h) (Or.inl ⟨by rfl, ?_⟩) (by assumption) ?_
        rotate_left
        · intro ww hSw
          (try dsimp only at hSw)
          go_simp <;> with_reducible rfl
        (try simp only [List.getElem_toArray, List.getElem_cons_succ, List.getElem_cons_zero, Act.put, List.setIfInBounds_toArray, List.set_cons_zero, List.set_cons_succ])
        refine wpAnyH_ready (rs := [9]) (by kernel_rfl) (by simp) ?_
        refine AllReadyH.cons (o := _) rfl (fun K hK => ?_) AllReadyH.nil
        go_simp
        refine hK.out _ _ ?_ (fun hH2 => ?_)
        · exact set_own1 (set_own1 (set_own1 (by with_reducible assumption)))
        clear hK K hHeld
        have hHeld := hH2
        clear hH2
        (try simp only [List.getElem_toArray, List.getElem_cons_succ, List.getElem_cons_zero, Act.put, List.setIfInBounds_toArray, List.set_cons_zero, List.set_cons_succ])
        refine wpAnyH_done (by kernel_rfl) ?_ _
        refine NoPanic.normal ?_
        go_wp2_with fail
        obtain ⟨c0, c1, c2, hB⟩ := three_result (w := w) rfl (by with_reducible assumption)
        have f3 : Fresh (w.heap.size + 2) (.slice A5 (trimL l).length c5) := HV5.out.2.mono HSX.out.2.1
        refine bodyPost_ret (v := .agg #[.slice A5 (trimL l).length c5, .int .i64 kn, .int .i64 kd]) (by simp [results, Tryd.results18, go_sem, c0, c1, c2]) rfl ⟨_, rfl, ?_, hB, f3.mono (by omega)⟩
        exact (((HV5.out.1.setCell f3 (by show w.heap.size + 1 < _; omega) _).setCell f3 (by show w.heap.size + 1 < _; omega) _).setCell f3 (by show w.heap.size + 1 < _; omega) _)
    · have hlt : k < n := by omega
      obtain ⟨x, hx⟩ : ∃ x, l[k]? = some x := ⟨_, List.getElem?_eq_getElem (by have := HN.out.1; omega)⟩
      obtain ⟨ad, rfl, d1, _⟩ := rats_cells G4.out B1.out hx (by omega)
      have st := trim_step hx
      have i1 : (k : Int) < (n : Int) := by omega
      have i2 : (0 : Int) ≤ (k : Int) := by omega
      have wk : IntKind.i64.wrap ((k : Int) + 1) = (k : Int) + 1 := IntWalk.i64_in _ (by have := HN.out; omega)
      generalize x.1 = xn at *
      have HK := Lib.hid (And.intro hlt hg)
      clear hk hg hkn hlt hx
      by_cases hz : xn = 0
      · rw [if_pos hz] at st
        rw [hz] at d1
        have ST := Lib.hid st
        clear st hz
        go_wp2_with fail
        go_roundg (n - (k + 1))
        case measure => have := HK.out; omega
        case rel => exact ⟨rfl, k + 1, by have := HK.out; omega, rfl, by push_cast; rfl, by rw [ST.out]⟩
      · rw [if_neg hz] at st
        have hz' : (xn != 0) = true := by simpa using hz
        have ST := Lib.hid st
        clear st hz
        go_wp2_with fail
        go_roundg (n - (k + 1))
        case measure => have := HK.out; omega
        case rel => exact ⟨rfl, k + 1, by have := HK.out; omega, rfl, by push_cast; rfl, by rw [ST.out]; push_cast; rfl⟩
end Go.Proofs.YtkgndeiddjkhmaaDoor

namespace Go.Proofs.YtkgndeiddjkhmaaDoor
open Go.RowKit

theorem rdo_add (w : World) (x y : Int × Int) (hx : OkR x) (hy : OkR y) :
    Calls Tryd.prog 23 #[.int .i64 0, ratV x.1 x.2, ratV y.1 y.2] w fun r w2 => r = .returned (.tuple #[ratV (addH x y).1.1 (addH x y).1.2, .int .i64 (addH x y).2]) ∧ Below w.heap.size w w2 := by
  obtain ⟨d, e, v⟩ := hx
  obtain ⟨d', e', v'⟩ := hy
  have := do_add v v' w
  rw [add_same] at this
  unfold addH resT
  rw [e, e']
  exact this
theorem rdo_mul (w : World) (x y : Int × Int) (hx : OkR x) (hy : OkR y) :
    Calls Tryd.prog 23 #[.int .i64 2, ratV x.1 x.2, ratV y.1 y.2] w fun r w2 => r = .returned (.tuple #[ratV (mulH x y).1.1 (mulH x y).1.2, .int .i64 (mulH x y).2]) ∧ Below w.heap.size w w2 := by
  obtain ⟨d, e, v⟩ := hx
  obtain ⟨d', e', v'⟩ := hy
  have := do_mul v v' w
  rw [mul_same] at this
  unfold mulH resT
  rw [e, e']
  exact this

theorem grown_belowR {w4 w5 : World} {B n : Nat} {v : Value} {xs : List Value} {o : Obj} (hB : B ≤ w4.heap.size) (hown : w4.ownsRow B 24 2 v n xs) (hg : (w4.alloc o).grownBy w5 v.ownBlock) : Below B w4 w5 :=
  ((Below.refl B w4).alloc hB o).grown hg (by simp; omega) (fun _ hk => own_block hown hk)
theorem FracBox.setC {w : World} {b : Nat} {x y z : Value} (h : FracBox w b x y z) (u : Value) : FracBox (w.setCell ⟨b, 0, none⟩ u) b u y z where
  k0 := World.cell?_setCell_same _ _ _ h.k0
  k1 := (World.cell?_setCell_other _ _ _ _ (by simp)).trans h.k1
  k2 := (World.cell?_setCell_other _ _ _ _ (by simp)).trans h.k2
  l0 := by rw [World.frozen?_setCell]; exact h.l0
  l1 := by rw [World.frozen?_setCell]; exact h.l1
  l2 := by rw [World.frozen?_setCell]; exact h.l2
  lt := by rw [World.size_setCell]; exact h.lt

theorem one_pair (w : World) (x y : Value) : ∀ (j : Nat) (u : Value), [x, y][j]? = some u → (w.alloc (.cells #[x, y] 24)).cell? ((⟨w.heap.size, 0, none⟩ : Addr).add j) = some u := by
  intro j u hu
  match j, hu with
  | 0, hu =>
    obtain rfl : x = u := by simpa using hu
    show (w.alloc _).cell? ⟨w.heap.size, 0, none⟩ = _
    go_simp
  | 1, hu =>
    obtain rfl : y = u := by simpa using hu
    show (w.alloc _).cell? ⟨w.heap.size, 1, none⟩ = _
    go_simp
  | j + 2, hu => simp at hu

/-- What is done so far. -/
def doneK (h : How) (l m : List (Int × Int)) (k : Nat) : List (Int × Int) := (List.range k).map fun i : Nat => (h (atL l i) (atL m i)).1
theorem doneK_len (h : How) (l m : List (Int × Int)) (k : Nat) : (doneK h l m k).length = k := by simp [doneK]
theorem doneK_end (h : How) (l m : List (Int × Int)) : doneK h l m (max l.length m.length) = combL h l m := rfl
theorem doneK_next (h : How) (l m : List (Int × Int)) (k : Nat) : doneK h l m (k + 1) = doneK h l m k ++ [(h (atL l k) (atL m k)).1] := by
  unfold doneK
  rw [List.range_succ, List.map_append]
  rfl
theorem ratCells_append : ∀ (a b : List (Int × Int)), ratCells (a ++ b) = ratCells a ++ ratCells b
  | [], b => rfl
  | x :: r, b => by rw [List.cons_append, ratCells, ratCells, ratCells_append r b]; rfl

/-- What stands in the reference's Do behind its first call: the parameters, the result, the constant, the term that is made, its row. -/
structure DoS (w wr : World) (b k : Nat) (s : Value) (xn xd : Int) (t : Value) (yn yd zn zd : Int) (v : Value) (xs : List (Int × Int)) : Prop where
  F : FracBox wr w.heap.size s (.int .i64 xn) (.int .i64 xd)
  G : FracBox wr (w.heap.size + 1) t (.int .i64 yn) (.int .i64 yd)
  E : FracBox wr (w.heap.size + 1 + 1) (.slice none 0 0) (.int .i64 0) (.int .i64 0)
  O : FracBox wr (b + 1) v (.int .i64 zn) (.int .i64 zd)
  o : wr.ownsRow (b + 2) 24 2 v k (ratCells xs)
  lt : w.heap.size + 1 + 1 < b
  below : Below w.heap.size w wr

section
variable {w wr w2 : World} {b k : Nat} {s t v : Value} {xn xd yn yd zn zd : Int} {xs : List (Int × Int)}
theorem DoS.keep (h : DoS w wr b k s xn xd t yn yd zn zd v xs) (hb : Below wr.heap.size wr w2) : DoS w w2 b k s xn xd t yn yd zn zd v xs :=
  ⟨h.F.keep hb, h.G.keep hb, h.E.keep hb, h.O.keep hb, own_belowR h.o hb, h.lt, h.below.trans (hb.mono h.below.size)⟩
theorem dos_of {A : Prop} (h : A ∧ DoS w wr b k s xn xd t yn yd zn zd v xs) : DoS w wr b k s xn xd t yn yd zn zd v xs := h.2
theorem DoS.cells {c : Nat} {p q : Int} (h : DoS w wr b k s xn xd t yn yd zn zd v xs) (hr : RatAt wr c p q) :
    ((wr.cell? ⟨w.heap.size, 0, none⟩ = some s ∧ wr.cell? ⟨w.heap.size, 1, none⟩ = some (.int .i64 xn) ∧ wr.cell? ⟨w.heap.size, 2, none⟩ = some (.int .i64 xd)) ∧ (wr.cell? ⟨c, 0, none⟩ = some (.int .i64 p) ∧ wr.cell? ⟨c, 1, none⟩ = some (.int .i64 q)) ∧ RatAt wr c p q) ∧ DoS w wr b k s xn xd t yn yd zn zd v xs :=
  ⟨⟨⟨h.F.k0, h.F.k1, h.F.k2⟩, ⟨hr.k0, hr.k1⟩, hr⟩, h⟩
theorem hold_dos {c : Nat} {p q : Int} {A B : Prop} (hb : Below wr.heap.size wr w2) (h : (A ∧ B ∧ RatAt wr c p q) ∧ DoS w wr b k s xn xd t yn yd zn zd v xs) :
    ((w2.cell? ⟨w.heap.size, 0, none⟩ = some s ∧ w2.cell? ⟨w.heap.size, 1, none⟩ = some (.int .i64 xn) ∧ w2.cell? ⟨w.heap.size, 2, none⟩ = some (.int .i64 xd)) ∧ (w2.cell? ⟨c, 0, none⟩ = some (.int .i64 p) ∧ w2.cell? ⟨c, 1, none⟩ = some (.int .i64 q)) ∧ RatAt w2 c p q) ∧ DoS w w2 b k s xn xd t yn yd zn zd v xs :=
  (h.2.keep hb).cells (h.1.2.2.keep hb)
/-- A fraction's room that a region has made. -/
structure HoleC (wA wr : World) (c : Nat) : Prop where
  hc : c = wA.heap.size
  k0 : wr.cell? ⟨c, 0, none⟩ = some (.int .i64 0)
  k1 : wr.cell? ⟨c, 1, none⟩ = some (.int .i64 0)
  l0 : wr.frozen? ⟨c, 0, none⟩ = false
  l1 : wr.frozen? ⟨c, 1, none⟩ = false
  lt : c < wr.heap.size
  below : Below wA.heap.size wA wr
theorem HoleC.start (wA : World) (ty : TypeId) : HoleC wA (wA.alloc (.cells #[.int .i64 0, .int .i64 0] ty)) wA.heap.size where
  hc := rfl
  k0 := by go_simp
  k1 := by go_simp
  l0 := by go_simp
  l1 := by go_simp
  lt := by simp
  below := below_alloc1 _ _
theorem HoleC.keep {wA wr w2 : World} {c : Nat} (h : HoleC wA wr c) (hb : Below wr.heap.size wr w2) : HoleC wA w2 c :=
  have z := hb.size
  have l := h.lt
  ⟨h.hc, keep_cell hb l h.k0, keep_cell hb l h.k1, keep_free hb l h.l0, keep_free hb l h.l1, by omega, h.below.trans (hb.mono h.below.size)⟩
theorem hole_of {w wA : World} {b k : Nat} {s t v : Value} {xn xd yn yd zn zd : Int} {xs : List (Int × Int)} {A : Prop} {ty : TypeId} (_ : A ∧ DoS w (wA.alloc (.cells #[.int .i64 0, .int .i64 0] ty)) b k s xn xd t yn yd zn zd v xs) : HoleC wA (wA.alloc (.cells #[.int .i64 0, .int .i64 0] ty)) wA.heap.size := HoleC.start wA ty
theorem hole_of2 {w wq : World} {b k : Nat} {s t v : Value} {xn xd yn yd zn zd : Int} {xs : List (Int × Int)} {A : Prop} {ty : TypeId} (_ : A ∧ DoS w (wq.alloc (.cells #[.int .i64 0, .int .i64 0] ty)).drew b k s xn xd t yn yd zn zd v xs) : HoleC wq.drew (wq.alloc (.cells #[.int .i64 0, .int .i64 0] ty)).drew wq.heap.size := HoleC.start wq.drew ty
theorem HoleC.fill {wA wr : World} {c : Nat} (h : HoleC wA wr c) (p q : Int) : Below wA.heap.size wA ((wr.setCell ⟨c, 0, none⟩ (.int .i64 p)).setCell ⟨c, 1, none⟩ (.int .i64 q)) ∧ RatAt ((wr.setCell ⟨c, 0, none⟩ (.int .i64 p)).setCell ⟨c, 1, none⟩ (.int .i64 q)) c p q := by
  obtain ⟨c0, c1⟩ := set_pair (x := .int .i64 p) (y := .int .i64 q) h.k0 h.k1
  have e := h.hc
  exact ⟨(h.below.setCell (by show _ ≤ c; omega) _).setCell (by show _ ≤ c; omega) _, c0, c1, by rw [World.size_setCell, World.size_setCell]; exact h.lt⟩
theorem own_shape {w : World} {B n : Nat} {v : Value} {xs : List Value} (h : w.ownsRow B 24 2 v n xs) : ∃ A c, v = .slice A n c := by
  rcases h.2 with ⟨rfl, rfl⟩ | ⟨g, cap, cur, rfl, _⟩
  · exact ⟨none, 0, rfl⟩
  · exact ⟨_, cap, rfl⟩

/-- What the round's region leaves. -/
def DoMidT (w : World) (b k : Nat) (s : Value) (xn xd : Int) (t : Value) (yn yd zn zd : Int) (v : Value) (xs : List (Int × Int)) (p q e : Int) (v13 v14 : Value) (wx : World) : Prop :=
  ∃ c, v13 = .pointer (some ⟨c, 0, none⟩) ∧ v14 = .int .i64 e ∧ RatAt wx c p q ∧ DoS w wx b k s xn xd t yn yd zn zd v xs
theorem mid_fill {w wA wr : World} {b k c : Nat} {s t v : Value} {xn xd yn yd zn zd p q e : Int} {xs : List (Int × Int)} (h : DoS w wA b k s xn xd t yn yd zn zd v xs) (hc : HoleC wA wr c) :
    DoMidT w b k s xn xd t yn yd zn zd v xs p q e (.pointer (some ⟨c, 0, none⟩)) (.int .i64 e) ((wr.setCell ⟨c, 0, none⟩ (.int .i64 p)).setCell ⟨c, 1, none⟩ (.int .i64 q)) :=
  ⟨_, rfl, rfl, (hc.fill p q).2, h.keep (hc.fill p q).1⟩
theorem mid_alloc {w wA : World} {b k : Nat} {s t v : Value} {xn xd yn yd zn zd p q e : Int} {xs : List (Int × Int)} (h : DoS w wA b k s xn xd t yn yd zn zd v xs) (ty : TypeId) :
    DoMidT w b k s xn xd t yn yd zn zd v xs p q e (.pointer (some ⟨wA.heap.size, 0, none⟩)) (.int .i64 e) (wA.alloc (.cells #[.int .i64 p, .int .i64 q] ty)) :=
  ⟨_, rfl, rfl, RatAt.start wA p q ty, h.keep (below_alloc1 _ _)⟩

/-- One more element. -/
theorem DoS.push {w4 w7 : World} {v' : Value} {q : Int × Int} {o : Obj} (h : DoS w w4 b k s xn xd t yn yd zn zd v xs) (hg : (w4.alloc o).grownBy w7 v.ownBlock) (ho : w7.ownsRow (b + 2) 24 2 v' (k + 1) (ratCells xs ++ [.int .i64 q.1, .int .i64 q.2])) :
    DoS w (w7.setCell ⟨b + 1, 0, none⟩ v') b (k + 1) s xn xd t yn yd zn zd v' (xs ++ [q]) := by
  have hl := h.lt
  have ol := h.O.lt
  have g := grown_belowR (by omega) h.o hg
  have e : ratCells (xs ++ [q]) = ratCells xs ++ [.int .i64 q.1, .int .i64 q.2] := ratCells_append xs [q]
  have hb : Below (b + 1) w7 (w7.setCell ⟨b + 1, 0, none⟩ v') := (Below.refl (b + 1) w7).setCell (p := ⟨b + 1, 0, none⟩) (Nat.le_refl _) v'
  have gb := (g.mono (Nat.le_succ _)).trans hb
  refine ⟨h.F.keepB gb (by omega), h.G.keepB gb (by omega), h.E.keepB gb (by omega), (h.O.keepB g (by omega)).setC v', ?_, hl, h.below.trans (gb.mono (by omega))⟩
  rw [e]
  exact ownsRow_setCell_below ho (by show b + 1 < b + 2; omega) v'
end

set_option maxRecDepth 4000 in
set_option maxHeartbeats 2000000 in
theorem rown_wrong (w : World) (v : Value) (l : List (Int × Int)) (kn kd : Int) (h : RatsAt w v l) (hw : Wide l) (h1 : -9223372036854775808 ≤ kn) (h2 : kn ≤ 9223372036854775807) (h3 : -9223372036854775808 ≤ kd) (h4 : kd ≤ 9223372036854775807) (hr : rightT l kn kd = false) :
    Calls Tryd.prog 18 #[.agg #[v, .int .i64 kn, .int .i64 kd]] w (TermNew w [] 0 1) := by
  have rt := fun (w' : World) (hb : Below w.heap.size w w') => r2right_any w' v l kn kd (h.below hb) hw h1 h2 h3 h4
  rw [hr] at rt
  obtain ⟨A, c, rfl, _, _, _⟩ := id h
  generalize l.length = n at *
  have HS := own_start w A n c kn kd
  have RT := Lib.hid rt
  have ZE := Lib.hid rzero_any
  clear h hw h1 h2 h3 h4 hr rt
  have hb0 := below_alloc2 w (.cells #[.slice A n c, .int .i64 kn, .int .i64 kd] 26) (.cells #[.slice none 0 0, .int .i64 0, .int .i64 0] 26)
  go_enter Tryd.func18, Tryd.ntmps18
  go_wp2_with (first
    | (go_at_call 16; (with_reducible refine (RT.out _ hb0).mono ?_); rintro e w1 ⟨rfl, hb⟩; have HS := keep_own hb HS)
    | (go_at_call 37; (with_reducible refine (ZE.out _).mono ?_); rintro e w2 ⟨rfl, hb2⟩; have HS := keep_own hb2 HS; obtain ⟨_, hz, _, ⟨i0, i1, i2⟩, ⟨j0, j1, j2⟩⟩ := id HS))
  obtain ⟨c0, c1, c2, hB⟩ := three_result (w := w) rfl (set_own1 (o := 2) (x := .int .i64 1) (set_own1 (o := 1) (x := .int .i64 0) (set_own1 (o := 0) (x := .slice none 0 0) HS)))
  exact bodyPost_ret (v := .agg #[.slice none 0 0, .int .i64 0, .int .i64 1]) (by simp [results, Tryd.results18, go_sem, c0, c1, c2]) rfl ⟨_, rfl, RatsAt.nil _, hB, Fresh.none_ _ _ _⟩
end Go.Proofs.YtkgndeiddjkhmaaDoor

namespace Go.Proofs.YtkgndeiddjkhmaaDoor
open Go.RowKit

set_option maxRecDepth 4000 in
set_option maxHeartbeats 4000000 in
theorem rdo_sum_ok (w : World) (va vb : Value) (l m : List (Int × Int)) (kx ky : Int × Int) (ha : RatsAt w va l) (hb : RatsAt w vb m) (hl : AllOk l) (hm : AllOk m) (hx : OkR kx) (hy : OkR ky) (h8 : l.length ≤ 8) (h8' : m.length ≤ 8)
    (hk : (addH kx ky).2 = 0) (hc : combOk addH l m (max l.length m.length)) :
    Calls Tryd.prog 12 #[.int .i64 0, .agg #[va, .int .i64 kx.1, .int .i64 kx.2], .agg #[vb, .int .i64 ky.1, .int .i64 ky.2]] w (TermPut w (trimL (combL addH l m)) (addH kx ky).1 0) := by
  obtain ⟨i0, hi, hz0, hz1, hz2⟩ := info_parts infoR
  have ra := fun (w' : World) (h : Below w.heap.size w w') => r2right_any w' va l kx.1 kx.2 (ha.below h) hl.wide hx.wide.1.1 hx.wide.1.2 hx.wide.2.1 hx.wide.2.2
  rw [right_mk h8 hl hx] at ra
  have rb := fun (w' : World) (h : Below w.heap.size w w') => r2right_any w' vb m ky.1 ky.2 (hb.below h) hm.wide hy.wide.1.1 hy.wide.1.2 hy.wide.2.1 hy.wide.2.2
  rw [right_mk h8' hm hy] at rb
  have h1 := fun (w' : World) => rdo_add w' kx ky hx hy
  have HOW : ∀ (w' : World) (k : Nat), Calls Tryd.prog 23 #[.int .i64 0, ratV (atL l k).1 (atL l k).2, ratV (atL m k).1 (atL m k).2] w' fun r w2 => r = .returned (.tuple #[ratV (addH (atL l k) (atL m k)).1.1 (addH (atL l k) (atL m k)).1.2, .int .i64 (addH (atL l k) (atL m k)).2]) ∧ Below w'.heap.size w' w2 := fun w' k => rdo_add w' _ _ (hl.at k) (hm.at k)
  have HOW := Lib.hid HOW
  rw [hk] at h1
  obtain ⟨A, c, rfl⟩ := rats_shape ha
  obtain ⟨B, d, rfl⟩ := rats_shape hb
  obtain ⟨n, hn⟩ : ∃ n, n = max l.length m.length := ⟨_, rfl⟩
  have hn8 : n ≤ 8 := by omega
  rw [← hn] at hc
  have HR := Lib.hid (show doneK addH l m n = combL addH l m by rw [hn]; rfl)
  have HN := Lib.hid (And.intro hn hc)
  have hcl : AllOk (combL addH l m) := combL_ok addH_ok hl hm (by rw [← hn]; exact hc)
  have hkz : OkR (addH kx ky).1 := addH_ok.ok _ _ hx hy hk
  have h8c : (combL addH l m).length ≤ 8 := by rw [combL_len]; omega
  have ow := fun (w' : World) (v : Value) (h : RatsAt w' v (combL addH l m)) => rown_right w' v (combL addH l m) (addH kx ky).1.1 (addH kx ky).1.2 h hcl.wide hkz.wide.1.1 hkz.wide.1.2 hkz.wide.2.1 hkz.wide.2.2 (right_mk h8c hcl hkz)
  have OW := Lib.hid ow
  have H1 := Lib.hid h1; have RA := Lib.hid ra; have RB := Lib.hid rb
  have TS := Lib.hid (And.intro ha hb)
  clear h1 ra rb ha hb hl hm hx hy hk hn hc hcl hkz h8c ow
  generalize l.length = ll at *
  generalize m.length = lm at *
  generalize (addH kx ky).1 = z at *
  obtain ⟨zn, zd⟩ := z
  obtain ⟨xn, xd⟩ := kx
  obtain ⟨yn, yd⟩ := ky
  dsimp only at *
  obtain ⟨F, G, E, hb0⟩ := three_boxes w (.slice A ll c) (.int .i64 xn) (.int .i64 xd) (.slice B lm d) (.int .i64 yn) (.int .i64 yd) (.slice none 0 0) (.int .i64 0) (.int .i64 0) 26
  go_enter Tryd.func12, Tryd.ntmps12
  go_upto_region 6 with (first
    | (go_at_call 16; (first
      | (with_reducible refine (RA.out _ hb0).mono ?_); rintro e w1 ⟨rfl, hb1⟩; have F := F.keep hb1; have G := G.keep hb1; have E := E.keep hb1; have b1 := hb0.trans (hb1.mono hb0.size); have k1 := F.k1; have k2 := F.k2; have m0 := G.k0; have m1 := G.k1; have m2 := G.k2
      | (with_reducible refine (RB.out _ b1).mono ?_); rintro e w2 ⟨rfl, hb2⟩; have F := F.keep hb2; have G := G.keep hb2; have E := E.keep hb2; have b2 := b1.trans (hb2.mono b1.size); have k1 := F.k1; have k2 := F.k2; have m1 := G.k1; have m2 := G.k2))
    | (go_at_call 23; (with_reducible refine (H1.out _).mono ?_); rintro e w3 ⟨rfl, hb3⟩; have F := F.keep hb3; have G := G.keep hb3; have E := E.keep hb3; have e3 := E.lt; have b3 := b2.trans (hb3.mono b2.size)))
  clear hb1 hb2 hb3 hb0 b1 b2 k1 k2 m0 m1 m2
  go_upto_region 7 with fail
  have a1 := below_alloc1 w3 (.cells #[.int .i64 zn, .int .i64 zd] 24)
  have a2 := below_alloc1 (w3.alloc (.cells #[.int .i64 zn, .int .i64 zd] 24)) (.cells #[.slice none 0 0, .int .i64 zn, .int .i64 zd] 26)
  have O := FracBox.start (w3.alloc (.cells #[.int .i64 zn, .int .i64 zd] 24)) (.slice none 0 0) (.int .i64 zn) (.int .i64 zd) 26
  rw [World.size_alloc] at O
  have b5 := b3.trans (a1.mono b3.size)
  have D0 : DoS w ((w3.alloc (.cells #[.int .i64 zn, .int .i64 zd] 24)).alloc (.cells #[.slice none 0 0, .int .i64 zn, .int .i64 zd] 26)) w3.heap.size 0 (.slice A ll c) xn xd (.slice B lm d) yn yd zn zd (.slice none 0 0) (doneK addH l m 0) :=
    ⟨(F.keep a1).keep a2, (G.keep a1).keep a2, (E.keep a1).keep a2, O, ⟨rfl, .inl ⟨rfl, rfl⟩⟩, e3, b5.trans (a2.mono b5.size)⟩
  generalize w3.heap.size = b at *
  have D0 := Lib.hid D0
  clear F G E O a1 a2 b3 b5 e3
  go_wp2_with fail
  go_loopg [11] n (fun g v11 wr => ∃ (k : Nat) (v : Value), v11 = .int .i64 k ∧ k ≤ n ∧ g = n - k ∧ combOk addH l m k ∧ DoS w wr b k (.slice A ll c) xn xd (.slice B lm d) yn yd zn zd v (doneK addH l m k))
  case atStart => exact ⟨0, _, rfl, Nat.zero_le _, rfl, fun i hi => absurd hi (Nat.not_lt_zero _), D0.out⟩
  case round =>
    clear D0
    obtain ⟨k, v, rfl, hk, hg, hck, D⟩ := hrel
    have k0 := D.F.k0
    have m0 := D.G.k0
    by_cases hkn : k = n
    · have hx1 : decide ((k : Int) < (ll : Int)) = false := decide_eq_false (by have := HN.out.1; omega)
      have hx5 : decide (k < ll) = false := decide_eq_false (by have := HN.out.1; omega)
      have hx6 : ll ≤ k := by have := HN.out.1; omega
      have hx2 : decide ((k : Int) < (lm : Int)) = false := decide_eq_false (by have := HN.out.1; omega)
      have hx7 : decide (k < lm) = false := decide_eq_false (by have := HN.out.1; omega)
      have hx8 : lm ≤ k := by have := HN.out.1; omega
      have rw0 : RatsAt wr v (doneK addH l m k) := own_rats (base := b + 2) (by rw [doneK_len]; exact D.o)
      rw [hkn, HR.out] at rw0
      have RW := Lib.hid rw0
      have DD := Lib.hid D
      obtain ⟨Av, cv, rfl⟩ := rats_shape rw0
      have o0 := D.O.k0; have o1 := D.O.k1; have o2 := D.O.k2
      generalize (combL addH l m).length = nc at *
      generalize trimL (combL addH l m) = L at *
      clear hck hg hk D rw0 hkn
      go_wp2_with (go_at_call 18; (with_reducible refine (OW.out _ _ RW.out).mono ?_); rintro e w8 hT; obtain ⟨v8, rfl, hv8, hb8, hf8⟩ := hT; obtain ⟨A8, c8, rfl⟩ := rats_shape hv8; have HV := Lib.hid (And.intro hv8 (hf8.mono DD.out.E.lt : Fresh (w.heap.size + 1 + 1 + 1) _)); have D8 := DD.out.keep hb8; have B8 := Lib.hid D8.below; have e0 := D8.E.k0; have e1 := D8.E.k1; have e2 := D8.E.k2; have l0 := D8.E.l0; have l1 := D8.E.l1; have l2 := D8.E.l2; clear hv8 hb8 hf8 D8)
      obtain ⟨c0, c1, c2⟩ := set_three (x := .slice A8 L.length c8) (y := .int .i64 zn) (z := .int .i64 zd) e0 e1 e2
      obtain ⟨r1, r2, r3⟩ := put_end (w := w) (b := w.heap.size + 1 + 1) (kn := zn) (kd := zd) HV.out.1 B8.out HV.out.2 (by omega) rfl
      exact bodyPost_ret (v := .tuple #[.agg #[.slice A8 L.length c8, .int .i64 zn, .int .i64 zd], .int .i64 0]) (by simp [results, Tryd.results12, go_sem, c0, c1, c2]) rfl ⟨_, rfl, r1, r2, r3⟩
    · have hlt : k < n := by omega
      have i2 : (0 : Int) ≤ (k : Int) := by omega
      have he0 := HN.out.2 k hlt
      by_cases hkl0 : k < ll
      · have hx1 : decide ((k : Int) < (ll : Int)) = true := decide_eq_true (by omega)
        have hx3 : (k : Int) < (ll : Int) := by omega
        have hx5 : decide (k < ll) = true := decide_eq_true (by omega)
        have atx := fun (w' : World) (hb : Below w.heap.size w w') => rat_any w' (.slice A ll c) l xn xd k (TS.out.1.below hb)
        have aty := fun (w' : World) (hb : Below w.heap.size w w') => rat_any w' (.slice B lm d) m yn yd k (TS.out.2.below hb)
        have hw := fun (w' : World) => HOW.out w' k
        rw [he0] at hw
        have ATX := Lib.hid atx; have ATY := Lib.hid aty; have HW := Lib.hid hw
        have HLT := Lib.hid hlt
        have HK := Lib.hid hg
        have HC2 : Hid (combOk addH l m (k + 1)) := fun i hi => by
          rcases Nat.lt_or_ge i k with g | g
          · exact hck i g
          · obtain rfl : i = k := by omega
            exact he0
        have NX := Lib.hid (doneK_next addH l m k)
        have DD := Lib.hid D
        have m1 := D.G.k1; have m2 := D.G.k2
        clear atx aty hw D hck he0 hg hkn hk hlt
        generalize (addH (atL l k) (atL m k)).1 = q at *
        obtain ⟨qn, qd⟩ := q
        generalize atL l k = x at *
        generalize atL m k = y at *
        obtain ⟨x1, x2⟩ := x
        obtain ⟨y1, y2⟩ := y
        dsimp only at *
        go_upto_region 13 with (go_at_call 20; (with_reducible refine (ATY.out _ DD.out.below).mono ?_); rintro e w5 ⟨rfl, hb⟩; have DD := Lib.hid (DD.out.keep hb); clear hb)
        go_cut [13, 14] from 39 to 78 (fun v13 v14 wx => DoMidT w b k (.slice A ll c) xn xd (.slice B lm d) yn yd zn zd v (doneK addH l m k) qn qd 0 v13 v14 wx)
        case first =>
          have HS := hold_dos (below_drew _) ((DD.out.keep (below_alloc1 w5 (.cells #[.int .i64 y1, .int .i64 y2] 24))).cells (RatAt.start w5 y1 y2 24))
          generalize w5.heap.size = cy at *
          generalize w5.alloc (.cells #[.int .i64 y1, .int .i64 y2] 24) = wq at *
          clear DD m1 m2 k0 m0
          refine wp_region_noPanic ?_
          refine wp_region_held_drew (S := (fun w' => ((w'.cell? ⟨w.heap.size, 0, none⟩ = some (.slice A ll c) ∧ w'.cell? ⟨w.heap.size, 1, none⟩ = some (.int .i64 xn) ∧ w'.cell? ⟨w.heap.size, 2, none⟩ = some (.int .i64 xd)) ∧ (w'.cell? ⟨cy, 0, none⟩ = some (.int .i64 y1) ∧ w'.cell? ⟨cy, 1, none⟩ = some (.int .i64 y2)) ∧ RatAt w' cy y1 y2) ∧ DoS w w' b k (.slice A ll c) xn xd (.slice B lm d) yn yd zn zd v (doneK addH l m k))) (by kernel_rfl) HS (fun hHeld => ?_)
          clear HS
          refine wpAnyH_take (i := 0) (oi := _) (v := ?_) rfl (by kernel_rfl) (by kernel_rfl) (by kernel_rfl) (fun _ _ _ h => h) (Or.inl ⟨by rfl, ?_⟩) (by assumption) ?_
          rotate_left
          · intro ww hSw
            (try dsimp only at hSw)
            go_simp <;> with_reducible rfl
          (try simp only [List.getElem_toArray, List.getElem_cons_zero, Act.put, List.setIfInBounds_toArray, List.set_cons_zero, List.set_cons_succ])
          refine wpAnyH_take (i := 1) (oi := _) (v := ?_) rfl (by kernel_rfl) (by kernel_rfl) (by kernel_rfl) (fun _ _ _ h => h) (Or.inl ⟨by rfl, ?_⟩) (by assumption) ?_
          rotate_left
          · intro ww hSw
            (try dsimp only at hSw)
            go_simp <;> with_reducible rfl
          (try simp only [List.getElem_toArray, List.getElem_cons_succ, List.getElem_cons_zero, Act.put, List.setIfInBounds_toArray, List.set_cons_zero, List.set_cons_succ])
          refine wpAnyH_take (i := 2) (oi := _) (v := ?_) rfl (by kernel_rfl) (by kernel_rfl) (by kernel_rfl) (fun _ _ _ h => h) (Or.inl ⟨by rfl, ?_⟩) (by assumption) ?_
          rotate_left
          · intro ww hSw
            (try dsimp only at hSw)
            go_simp <;> with_reducible rfl
          (try simp only [List.getElem_toArray, List.getElem_cons_succ, List.getElem_cons_zero, Act.put, List.setIfInBounds_toArray, List.set_cons_zero, List.set_cons_succ])
          refine wpAnyH_take (i := 4) (oi := _) (v := ?_) rfl (by kernel_rfl) (by kernel_rfl) (by kernel_rfl) (fun _ _ _ h => h) (Or.inl ⟨by rfl, ?_⟩) (by assumption) ?_
          rotate_left
          · intro ww hSw
            (try dsimp only at hSw)
            go_simp <;> with_reducible rfl
          (try simp only [List.getElem_toArray, List.getElem_cons_succ, List.getElem_cons_zero, Act.put, List.setIfInBounds_toArray, List.set_cons_zero, List.set_cons_succ])
          refine wpAnyH_ready (rs := [3, 9]) (by kernel_rfl) (by simp) ?_
          refine AllReadyH.cons (o := _) rfl (fun K hK => ?_) ?_
          · go_simp
            (first
              | (go_at_call 20; (with_reducible refine (ATX.out _ (dos_of (by with_reducible assumption)).below).mono ?_); rintro e w6 ⟨rfl, hb⟩; (try (have HC := Lib.hid (HC.out.keep hb))))
              | (go_at_call 23; (with_reducible refine (HW.out _).mono ?_); rintro e w7 ⟨rfl, hb⟩; (try (have HC := Lib.hid (HC.out.keep hb)))))
            go_wp2_with fail
            refine hK.out _ _ (hold_dos (by with_reducible assumption) (by with_reducible assumption)) (fun hH2 => ?_)
            clear hK K hHeld hb
            have hHeld := hH2
            clear hH2
            (try simp only [List.getElem_toArray, List.getElem_cons_succ, List.getElem_cons_zero, Act.put, List.setIfInBounds_toArray, List.set_cons_zero, List.set_cons_succ])
            refine wpAnyH_ready (rs := [5, 9]) (by kernel_rfl) (by simp) ?_
            refine AllReadyH.cons (o := _) rfl (fun K hK => ?_) ?_
            · go_simp
              (first
                | (go_at_call 20; (with_reducible refine (ATX.out _ (dos_of (by with_reducible assumption)).below).mono ?_); rintro e w6 ⟨rfl, hb⟩; (try (have HC := Lib.hid (HC.out.keep hb))))
                | (go_at_call 23; (with_reducible refine (HW.out _).mono ?_); rintro e w7 ⟨rfl, hb⟩; (try (have HC := Lib.hid (HC.out.keep hb)))))
              go_wp2_with fail
              refine hK.out _ _ (hold_dos (by with_reducible assumption) (by with_reducible assumption)) (fun hH2 => ?_)
              clear hK K hHeld hb
              have hHeld := hH2
              clear hH2
              (try simp only [List.getElem_toArray, List.getElem_cons_succ, List.getElem_cons_zero, Act.put, List.setIfInBounds_toArray, List.set_cons_zero, List.set_cons_succ])
              refine wpAnyH_take (i := 6) (oi := _) (v := ?_) rfl (by kernel_rfl) (by kernel_rfl) (by kernel_rfl) (fun _ _ _ h => h) (Or.inl ⟨by rfl, ?_⟩) (by assumption) ?_
              rotate_left
              · intro ww hSw
                (try dsimp only at hSw)
                go_simp <;> with_reducible rfl
              (try simp only [List.getElem_toArray, List.getElem_cons_succ, List.getElem_cons_zero, Act.put, List.setIfInBounds_toArray, List.set_cons_zero, List.set_cons_succ])
              refine wpAnyH_take (i := 7) (oi := _) (v := ?_) rfl (by kernel_rfl) (by kernel_rfl) (by kernel_rfl) (fun _ _ _ h => h) (Or.inl ⟨by rfl, ?_⟩) (by assumption) ?_
              rotate_left
              · intro ww hSw
                (try dsimp only at hSw)
                go_simp <;> with_reducible rfl
              (try simp only [List.getElem_toArray, List.getElem_cons_succ, List.getElem_cons_zero, Act.put, List.setIfInBounds_toArray, List.set_cons_zero, List.set_cons_succ])
              refine wpAnyH_take (i := 8) (oi := _) (v := ?_) rfl (by kernel_rfl) (by kernel_rfl) (by kernel_rfl) (fun _ _ _ h => h) (Or.inl ⟨by rfl, ?_⟩) (by assumption) ?_
              rotate_left
              · intro ww hSw
                (try dsimp only at hSw)
                go_simp <;> with_reducible rfl
              (try simp only [List.getElem_toArray, List.getElem_cons_succ, List.getElem_cons_zero, Act.put, List.setIfInBounds_toArray, List.set_cons_zero, List.set_cons_succ])
              refine wpAnyH_ready (rs := [9]) (by kernel_rfl) (by simp) ?_
              refine AllReadyH.cons (o := _) rfl (fun K hK => ?_) AllReadyH.nil
              go_simp
              refine hK.out _ _ (hold_dos (below_alloc1 _ _) (by with_reducible assumption)) (fun hH2 => ?_)
              clear hK K
              (first | have HC := Lib.hid (hole_of hH2) | have HC := Lib.hid (hole_of2 hH2))
              have hHeld0 := Lib.hid hHeld
              clear hHeld
              have hHeld := hH2
              clear hH2
              (try simp only [List.getElem_toArray, List.getElem_cons_succ, List.getElem_cons_zero, Act.put, List.setIfInBounds_toArray, List.set_cons_zero, List.set_cons_succ])
              refine wpAnyH_ready (rs := [10]) (by kernel_rfl) (by simp) ?_
              refine AllReadyH.cons (o := _) rfl (fun K hK => ?_) AllReadyH.nil
              obtain ⟨h6, h0, h1, h2, h3, h4, h5⟩ := HC.out
              clear h6
              go_simp
              clear h0 h1 h2 h3 h4 h5
              (first
                | refine hK.out _ _ (hold_dos (below_alloc1 _ _) hHeld0.out) (fun hH2 => ?_)
                | refine hK.out _ _ (hold_dos (HC.out.fill _ _).1 hHeld0.out) (fun hH2 => ?_))
              clear hK K hHeld
              have hHeld := hH2
              clear hH2
              (try simp only [List.getElem_toArray, List.getElem_cons_succ, List.getElem_cons_zero, Act.put, List.setIfInBounds_toArray, List.set_cons_zero, List.set_cons_succ])
              refine wpAnyH_take (i := 11) (oi := _) (v := ?_) rfl (by kernel_rfl) (by kernel_rfl) (by kernel_rfl) (fun _ _ _ h => h) (Or.inl ⟨by rfl, ?_⟩) (by assumption) ?_
              rotate_left
              · intro ww hSw
                (try dsimp only at hSw)
                go_simp <;> with_reducible rfl
              (try simp only [List.getElem_toArray, List.getElem_cons_succ, List.getElem_cons_zero, Act.put, List.setIfInBounds_toArray, List.set_cons_zero, List.set_cons_succ])
              refine wpAnyH_done (by kernel_rfl) ?_ _
              refine NoPanic.normal ?_
              go_wp2_with fail
              go_meet
              case rel => first | exact mid_alloc (dos_of hHeld0.out) 24 | exact mid_fill (dos_of hHeld0.out) HC.out
            refine AllReadyH.cons (o := _) rfl (fun K hK => ?_) AllReadyH.nil
            go_simp
            refine hK.out _ _ (hold_dos (below_alloc1 _ _) (by with_reducible assumption)) (fun hH2 => ?_)
            clear hK K
            (first | have HC := Lib.hid (hole_of hH2) | have HC := Lib.hid (hole_of2 hH2))
            have hHeld0 := Lib.hid hHeld
            clear hHeld
            have hHeld := hH2
            clear hH2
            (try simp only [List.getElem_toArray, List.getElem_cons_succ, List.getElem_cons_zero, Act.put, List.setIfInBounds_toArray, List.set_cons_zero, List.set_cons_succ])
            refine wpAnyH_ready (rs := [5]) (by kernel_rfl) (by simp) ?_
            refine AllReadyH.cons (o := _) rfl (fun K hK => ?_) AllReadyH.nil
            go_simp
            (first
              | (go_at_call 20; (with_reducible refine (ATX.out _ (dos_of (by with_reducible assumption)).below).mono ?_); rintro e w6 ⟨rfl, hb⟩; (try (have HC := Lib.hid (HC.out.keep hb))))
              | (go_at_call 23; (with_reducible refine (HW.out _).mono ?_); rintro e w7 ⟨rfl, hb⟩; (try (have HC := Lib.hid (HC.out.keep hb)))))
            go_wp2_with fail
            refine hK.out _ _ (hold_dos (by with_reducible assumption) (by with_reducible assumption)) (fun hH2 => ?_)
            clear hK K hHeld hb
            have hHeld := hH2
            clear hH2
            (try simp only [List.getElem_toArray, List.getElem_cons_succ, List.getElem_cons_zero, Act.put, List.setIfInBounds_toArray, List.set_cons_zero, List.set_cons_succ])
            refine wpAnyH_take (i := 6) (oi := _) (v := ?_) rfl (by kernel_rfl) (by kernel_rfl) (by kernel_rfl) (fun _ _ _ h => h) (Or.inl ⟨by rfl, ?_⟩) (by assumption) ?_
            rotate_left
            · intro ww hSw
              (try dsimp only at hSw)
              go_simp <;> with_reducible rfl
            (try simp only [List.getElem_toArray, List.getElem_cons_succ, List.getElem_cons_zero, Act.put, List.setIfInBounds_toArray, List.set_cons_zero, List.set_cons_succ])
            refine wpAnyH_take (i := 7) (oi := _) (v := ?_) rfl (by kernel_rfl) (by kernel_rfl) (by kernel_rfl) (fun _ _ _ h => h) (Or.inl ⟨by rfl, ?_⟩) (by assumption) ?_
            rotate_left
            · intro ww hSw
              (try dsimp only at hSw)
              go_simp <;> with_reducible rfl
            (try simp only [List.getElem_toArray, List.getElem_cons_succ, List.getElem_cons_zero, Act.put, List.setIfInBounds_toArray, List.set_cons_zero, List.set_cons_succ])
            refine wpAnyH_take (i := 8) (oi := _) (v := ?_) rfl (by kernel_rfl) (by kernel_rfl) (by kernel_rfl) (fun _ _ _ h => h) (Or.inl ⟨by rfl, ?_⟩) (by assumption) ?_
            rotate_left
            · intro ww hSw
              (try dsimp only at hSw)
              go_simp <;> with_reducible rfl
            (try simp only [List.getElem_toArray, List.getElem_cons_succ, List.getElem_cons_zero, Act.put, List.setIfInBounds_toArray, List.set_cons_zero, List.set_cons_succ])
            refine wpAnyH_ready (rs := [10]) (by kernel_rfl) (by simp) ?_
            refine AllReadyH.cons (o := _) rfl (fun K hK => ?_) AllReadyH.nil
            obtain ⟨h6, h0, h1, h2, h3, h4, h5⟩ := HC.out
            clear h6
            go_simp
            clear h0 h1 h2 h3 h4 h5
            (first
              | refine hK.out _ _ (hold_dos (below_alloc1 _ _) hHeld0.out) (fun hH2 => ?_)
              | refine hK.out _ _ (hold_dos (HC.out.fill _ _).1 hHeld0.out) (fun hH2 => ?_))
            clear hK K hHeld
            have hHeld := hH2
            clear hH2
            (try simp only [List.getElem_toArray, List.getElem_cons_succ, List.getElem_cons_zero, Act.put, List.setIfInBounds_toArray, List.set_cons_zero, List.set_cons_succ])
            refine wpAnyH_take (i := 11) (oi := _) (v := ?_) rfl (by kernel_rfl) (by kernel_rfl) (by kernel_rfl) (fun _ _ _ h => h) (Or.inl ⟨by rfl, ?_⟩) (by assumption) ?_
            rotate_left
            · intro ww hSw
              (try dsimp only at hSw)
              go_simp <;> with_reducible rfl
            (try simp only [List.getElem_toArray, List.getElem_cons_succ, List.getElem_cons_zero, Act.put, List.setIfInBounds_toArray, List.set_cons_zero, List.set_cons_succ])
            refine wpAnyH_done (by kernel_rfl) ?_ _
            refine NoPanic.normal ?_
            go_wp2_with fail
            go_meet
            case rel => first | exact mid_alloc (dos_of hHeld0.out) 24 | exact mid_fill (dos_of hHeld0.out) HC.out
          refine AllReadyH.cons (o := _) rfl (fun K hK => ?_) AllReadyH.nil
          go_simp
          refine hK.out _ _ (hold_dos (below_alloc1 _ _) (by with_reducible assumption)) (fun hH2 => ?_)
          clear hK K
          (first | have HC := Lib.hid (hole_of hH2) | have HC := Lib.hid (hole_of2 hH2))
          have hHeld0 := Lib.hid hHeld
          clear hHeld
          have hHeld := hH2
          clear hH2
          (try simp only [List.getElem_toArray, List.getElem_cons_succ, List.getElem_cons_zero, Act.put, List.setIfInBounds_toArray, List.set_cons_zero, List.set_cons_succ])
          refine wpAnyH_ready (rs := [3]) (by kernel_rfl) (by simp) ?_
          refine AllReadyH.cons (o := _) rfl (fun K hK => ?_) AllReadyH.nil
          go_simp
          (first
            | (go_at_call 20; (with_reducible refine (ATX.out _ (dos_of (by with_reducible assumption)).below).mono ?_); rintro e w6 ⟨rfl, hb⟩; (try (have HC := Lib.hid (HC.out.keep hb))))
            | (go_at_call 23; (with_reducible refine (HW.out _).mono ?_); rintro e w7 ⟨rfl, hb⟩; (try (have HC := Lib.hid (HC.out.keep hb)))))
          go_wp2_with fail
          refine hK.out _ _ (hold_dos (by with_reducible assumption) (by with_reducible assumption)) (fun hH2 => ?_)
          clear hK K hHeld hb
          have hHeld := hH2
          clear hH2
          (try simp only [List.getElem_toArray, List.getElem_cons_succ, List.getElem_cons_zero, Act.put, List.setIfInBounds_toArray, List.set_cons_zero, List.set_cons_succ])
          refine wpAnyH_ready (rs := [5]) (by kernel_rfl) (by simp) ?_
          refine AllReadyH.cons (o := _) rfl (fun K hK => ?_) AllReadyH.nil
          go_simp
          (first
            | (go_at_call 20; (with_reducible refine (ATX.out _ (dos_of (by with_reducible assumption)).below).mono ?_); rintro e w6 ⟨rfl, hb⟩; (try (have HC := Lib.hid (HC.out.keep hb))))
            | (go_at_call 23; (with_reducible refine (HW.out _).mono ?_); rintro e w7 ⟨rfl, hb⟩; (try (have HC := Lib.hid (HC.out.keep hb)))))
          go_wp2_with fail
          refine hK.out _ _ (hold_dos (by with_reducible assumption) (by with_reducible assumption)) (fun hH2 => ?_)
          clear hK K hHeld hb
          have hHeld := hH2
          clear hH2
          (try simp only [List.getElem_toArray, List.getElem_cons_succ, List.getElem_cons_zero, Act.put, List.setIfInBounds_toArray, List.set_cons_zero, List.set_cons_succ])
          refine wpAnyH_take (i := 6) (oi := _) (v := ?_) rfl (by kernel_rfl) (by kernel_rfl) (by kernel_rfl) (fun _ _ _ h => h) (Or.inl ⟨by rfl, ?_⟩) (by assumption) ?_
          rotate_left
          · intro ww hSw
            (try dsimp only at hSw)
            go_simp <;> with_reducible rfl
          (try simp only [List.getElem_toArray, List.getElem_cons_succ, List.getElem_cons_zero, Act.put, List.setIfInBounds_toArray, List.set_cons_zero, List.set_cons_succ])
          refine wpAnyH_take (i := 7) (oi := _) (v := ?_) rfl (by kernel_rfl) (by kernel_rfl) (by kernel_rfl) (fun _ _ _ h => h) (Or.inl ⟨by rfl, ?_⟩) (by assumption) ?_
          rotate_left
          · intro ww hSw
            (try dsimp only at hSw)
            go_simp <;> with_reducible rfl
          (try simp only [List.getElem_toArray, List.getElem_cons_succ, List.getElem_cons_zero, Act.put, List.setIfInBounds_toArray, List.set_cons_zero, List.set_cons_succ])
          refine wpAnyH_take (i := 8) (oi := _) (v := ?_) rfl (by kernel_rfl) (by kernel_rfl) (by kernel_rfl) (fun _ _ _ h => h) (Or.inl ⟨by rfl, ?_⟩) (by assumption) ?_
          rotate_left
          · intro ww hSw
            (try dsimp only at hSw)
            go_simp <;> with_reducible rfl
          (try simp only [List.getElem_toArray, List.getElem_cons_succ, List.getElem_cons_zero, Act.put, List.setIfInBounds_toArray, List.set_cons_zero, List.set_cons_succ])
          refine wpAnyH_ready (rs := [10]) (by kernel_rfl) (by simp) ?_
          refine AllReadyH.cons (o := _) rfl (fun K hK => ?_) AllReadyH.nil
          obtain ⟨h6, h0, h1, h2, h3, h4, h5⟩ := HC.out
          clear h6
          go_simp
          clear h0 h1 h2 h3 h4 h5
          (first
            | refine hK.out _ _ (hold_dos (below_alloc1 _ _) hHeld0.out) (fun hH2 => ?_)
            | refine hK.out _ _ (hold_dos (HC.out.fill _ _).1 hHeld0.out) (fun hH2 => ?_))
          clear hK K hHeld
          have hHeld := hH2
          clear hH2
          (try simp only [List.getElem_toArray, List.getElem_cons_succ, List.getElem_cons_zero, Act.put, List.setIfInBounds_toArray, List.set_cons_zero, List.set_cons_succ])
          refine wpAnyH_take (i := 11) (oi := _) (v := ?_) rfl (by kernel_rfl) (by kernel_rfl) (by kernel_rfl) (fun _ _ _ h => h) (Or.inl ⟨by rfl, ?_⟩) (by assumption) ?_
          rotate_left
          · intro ww hSw
            (try dsimp only at hSw)
            go_simp <;> with_reducible rfl
          (try simp only [List.getElem_toArray, List.getElem_cons_succ, List.getElem_cons_zero, Act.put, List.setIfInBounds_toArray, List.set_cons_zero, List.set_cons_succ])
          refine wpAnyH_done (by kernel_rfl) ?_ _
          refine NoPanic.normal ?_
          go_wp2_with fail
          go_meet
          case rel => first | exact mid_alloc (dos_of hHeld0.out) 24 | exact mid_fill (dos_of hHeld0.out) HC.out
        case rest =>
          obtain ⟨cc, rfl, rfl, RC, D⟩ := hcut
          clear DD m1 m2 k0 m0
          have rc0 := RC.k0; have rc1 := RC.k1
          have o0 := D.O.k0
          have DD := Lib.hid D
          have hkl : k ≤ 8 := by have := HLT.out; omega
          have szb : b + 2 ≤ wc.heap.size := by have := D.O.lt; omega
          clear D
          have OWN := Lib.hid DD.out.o
          go_wp2_with (at_builtin; refine wpList_append_own _ rfl _ _ 22 rfl (b + 2) 24 i0 (.agg #[.int .i64 0, .int .i64 0]) 2 16 Tryd.underlying22 hi hz0 hz1 hz2 rfl (by decide) _ _ _ rfl (OWN.out.alloc _) ⟨wc.heap.size, 0, none⟩ 1 1 [.int .i64 qn, .int .i64 qd] rfl rfl ?c1 ?c2 ?c3 ?c4 ?c5 ?_)
          case c1 => exact one_pair _ _ _
          case c2 => intro u hu; simp at hu; rcases hu with rfl | rfl <;> rfl
          case c3 => unfold maxLen; omega
          case c4 => omega
          case c5 => simp; omega
          intro v' w8 hown' hgrow _
          obtain ⟨Av8, cv8, rfl⟩ := own_shape hown'
          have D8 := DD.out.push (q := (qn, qd)) hgrow hown'
          have g8 := grown_belowR szb OWN.out hgrow
          have o8 := (DD.out.O.keepB g8 (by omega)).k0
          have f8 := (DD.out.O.keepB g8 (by omega)).l0
          have D8 := Lib.hid D8
          clear hown' hgrow g8
          have wk : IntKind.i64.wrap ((k : Int) + 1) = (k : Int) + 1 := IntWalk.i64_in _ (by have := HLT.out; omega)
          go_wp2_with fail
          go_roundg (n - (k + 1))
          case measure => have := HK.out; have := HLT.out; omega
          case rel => exact ⟨k + 1, _, by push_cast; rfl, by have := HLT.out; omega, rfl, HC2.out, by rw [NX.out]; exact D8.out⟩
      · have hx1 : decide ((k : Int) < (ll : Int)) = false := decide_eq_false (by omega)
        have hx3 : ¬ (k : Int) < (ll : Int) := by omega
        have hx5 : decide (k < ll) = false := decide_eq_false (by omega)
        have hx6 : ll ≤ k := by omega
        have hx7 : decide (k < lm) = true := decide_eq_true (by have := HN.out.1; omega)
        have hx2 : decide ((k : Int) < (lm : Int)) = true := decide_eq_true (by have := HN.out.1; omega)
        have hx4 : (k : Int) < (lm : Int) := by have := HN.out.1; omega
        have atx := fun (w' : World) (hb : Below w.heap.size w w') => rat_any w' (.slice A ll c) l xn xd k (TS.out.1.below hb)
        have aty := fun (w' : World) (hb : Below w.heap.size w w') => rat_any w' (.slice B lm d) m yn yd k (TS.out.2.below hb)
        have hw := fun (w' : World) => HOW.out w' k
        rw [he0] at hw
        have ATX := Lib.hid atx; have ATY := Lib.hid aty; have HW := Lib.hid hw
        have HLT := Lib.hid hlt
        have HK := Lib.hid hg
        have HC2 : Hid (combOk addH l m (k + 1)) := fun i hi => by
          rcases Nat.lt_or_ge i k with g | g
          · exact hck i g
          · obtain rfl : i = k := by omega
            exact he0
        have NX := Lib.hid (doneK_next addH l m k)
        have DD := Lib.hid D
        have m1 := D.G.k1; have m2 := D.G.k2
        clear atx aty hw D hck he0 hg hkn hk hlt
        generalize (addH (atL l k) (atL m k)).1 = q at *
        obtain ⟨qn, qd⟩ := q
        generalize atL l k = x at *
        generalize atL m k = y at *
        obtain ⟨x1, x2⟩ := x
        obtain ⟨y1, y2⟩ := y
        dsimp only at *
        go_upto_region 13 with (go_at_call 20; (with_reducible refine (ATY.out _ DD.out.below).mono ?_); rintro e w5 ⟨rfl, hb⟩; have DD := Lib.hid (DD.out.keep hb); clear hb)
        go_cut [13, 14] from 39 to 78 (fun v13 v14 wx => DoMidT w b k (.slice A ll c) xn xd (.slice B lm d) yn yd zn zd v (doneK addH l m k) qn qd 0 v13 v14 wx)
        case first =>
          have HS := hold_dos (below_drew _) ((DD.out.keep (below_alloc1 w5 (.cells #[.int .i64 y1, .int .i64 y2] 24))).cells (RatAt.start w5 y1 y2 24))
          generalize w5.heap.size = cy at *
          generalize w5.alloc (.cells #[.int .i64 y1, .int .i64 y2] 24) = wq at *
          clear DD m1 m2 k0 m0
          refine wp_region_noPanic ?_
          refine wp_region_held_drew (S := (fun w' => ((w'.cell? ⟨w.heap.size, 0, none⟩ = some (.slice A ll c) ∧ w'.cell? ⟨w.heap.size, 1, none⟩ = some (.int .i64 xn) ∧ w'.cell? ⟨w.heap.size, 2, none⟩ = some (.int .i64 xd)) ∧ (w'.cell? ⟨cy, 0, none⟩ = some (.int .i64 y1) ∧ w'.cell? ⟨cy, 1, none⟩ = some (.int .i64 y2)) ∧ RatAt w' cy y1 y2) ∧ DoS w w' b k (.slice A ll c) xn xd (.slice B lm d) yn yd zn zd v (doneK addH l m k))) (by kernel_rfl) HS (fun hHeld => ?_)
          clear HS
          refine wpAnyH_take (i := 0) (oi := _) (v := ?_) rfl (by kernel_rfl) (by kernel_rfl) (by kernel_rfl) (fun _ _ _ h => h) (Or.inl ⟨by rfl, ?_⟩) (by assumption) ?_
          rotate_left
          · intro ww hSw
            (try dsimp only at hSw)
            go_simp <;> with_reducible rfl
          (try simp only [List.getElem_toArray, List.getElem_cons_zero, Act.put, List.setIfInBounds_toArray, List.set_cons_zero, List.set_cons_succ])
          refine wpAnyH_take (i := 1) (oi := _) (v := ?_) rfl (by kernel_rfl) (by kernel_rfl) (by kernel_rfl) (fun _ _ _ h => h) (Or.inl ⟨by rfl, ?_⟩) (by assumption) ?_
          rotate_left
          · intro ww hSw
            (try dsimp only at hSw)
            go_simp <;> with_reducible rfl
          (try simp only [List.getElem_toArray, List.getElem_cons_succ, List.getElem_cons_zero, Act.put, List.setIfInBounds_toArray, List.set_cons_zero, List.set_cons_succ])
          refine wpAnyH_take (i := 2) (oi := _) (v := ?_) rfl (by kernel_rfl) (by kernel_rfl) (by kernel_rfl) (fun _ _ _ h => h) (Or.inl ⟨by rfl, ?_⟩) (by assumption) ?_
          rotate_left
          · intro ww hSw
            (try dsimp only at hSw)
            go_simp <;> with_reducible rfl
          (try simp only [List.getElem_toArray, List.getElem_cons_succ, List.getElem_cons_zero, Act.put, List.setIfInBounds_toArray, List.set_cons_zero, List.set_cons_succ])
          refine wpAnyH_take (i := 4) (oi := _) (v := ?_) rfl (by kernel_rfl) (by kernel_rfl) (by kernel_rfl) (fun _ _ _ h => h) (Or.inl ⟨by rfl, ?_⟩) (by assumption) ?_
          rotate_left
          · intro ww hSw
            (try dsimp only at hSw)
            go_simp <;> with_reducible rfl
          (try simp only [List.getElem_toArray, List.getElem_cons_succ, List.getElem_cons_zero, Act.put, List.setIfInBounds_toArray, List.set_cons_zero, List.set_cons_succ])
          refine wpAnyH_ready (rs := [3, 9]) (by kernel_rfl) (by simp) ?_
          refine AllReadyH.cons (o := _) rfl (fun K hK => ?_) ?_
          · go_simp
            (first
              | (go_at_call 20; (with_reducible refine (ATX.out _ (dos_of (by with_reducible assumption)).below).mono ?_); rintro e w6 ⟨rfl, hb⟩; (try (have HC := Lib.hid (HC.out.keep hb))))
              | (go_at_call 23; (with_reducible refine (HW.out _).mono ?_); rintro e w7 ⟨rfl, hb⟩; (try (have HC := Lib.hid (HC.out.keep hb)))))
            go_wp2_with fail
            refine hK.out _ _ (hold_dos (by with_reducible assumption) (by with_reducible assumption)) (fun hH2 => ?_)
            clear hK K hHeld hb
            have hHeld := hH2
            clear hH2
            (try simp only [List.getElem_toArray, List.getElem_cons_succ, List.getElem_cons_zero, Act.put, List.setIfInBounds_toArray, List.set_cons_zero, List.set_cons_succ])
            refine wpAnyH_ready (rs := [5, 9]) (by kernel_rfl) (by simp) ?_
            refine AllReadyH.cons (o := _) rfl (fun K hK => ?_) ?_
            · go_simp
              (first
                | (go_at_call 20; (with_reducible refine (ATX.out _ (dos_of (by with_reducible assumption)).below).mono ?_); rintro e w6 ⟨rfl, hb⟩; (try (have HC := Lib.hid (HC.out.keep hb))))
                | (go_at_call 23; (with_reducible refine (HW.out _).mono ?_); rintro e w7 ⟨rfl, hb⟩; (try (have HC := Lib.hid (HC.out.keep hb)))))
              go_wp2_with fail
              refine hK.out _ _ (hold_dos (by with_reducible assumption) (by with_reducible assumption)) (fun hH2 => ?_)
              clear hK K hHeld hb
              have hHeld := hH2
              clear hH2
              (try simp only [List.getElem_toArray, List.getElem_cons_succ, List.getElem_cons_zero, Act.put, List.setIfInBounds_toArray, List.set_cons_zero, List.set_cons_succ])
              refine wpAnyH_take (i := 6) (oi := _) (v := ?_) rfl (by kernel_rfl) (by kernel_rfl) (by kernel_rfl) (fun _ _ _ h => h) (Or.inl ⟨by rfl, ?_⟩) (by assumption) ?_
              rotate_left
              · intro ww hSw
                (try dsimp only at hSw)
                go_simp <;> with_reducible rfl
              (try simp only [List.getElem_toArray, List.getElem_cons_succ, List.getElem_cons_zero, Act.put, List.setIfInBounds_toArray, List.set_cons_zero, List.set_cons_succ])
              refine wpAnyH_take (i := 7) (oi := _) (v := ?_) rfl (by kernel_rfl) (by kernel_rfl) (by kernel_rfl) (fun _ _ _ h => h) (Or.inl ⟨by rfl, ?_⟩) (by assumption) ?_
              rotate_left
              · intro ww hSw
                (try dsimp only at hSw)
                go_simp <;> with_reducible rfl
              (try simp only [List.getElem_toArray, List.getElem_cons_succ, List.getElem_cons_zero, Act.put, List.setIfInBounds_toArray, List.set_cons_zero, List.set_cons_succ])
              refine wpAnyH_take (i := 8) (oi := _) (v := ?_) rfl (by kernel_rfl) (by kernel_rfl) (by kernel_rfl) (fun _ _ _ h => h) (Or.inl ⟨by rfl, ?_⟩) (by assumption) ?_
              rotate_left
              · intro ww hSw
                (try dsimp only at hSw)
                go_simp <;> with_reducible rfl
              (try simp only [List.getElem_toArray, List.getElem_cons_succ, List.getElem_cons_zero, Act.put, List.setIfInBounds_toArray, List.set_cons_zero, List.set_cons_succ])
              refine wpAnyH_ready (rs := [9]) (by kernel_rfl) (by simp) ?_
              refine AllReadyH.cons (o := _) rfl (fun K hK => ?_) AllReadyH.nil
              go_simp
              refine hK.out _ _ (hold_dos (below_alloc1 _ _) (by with_reducible assumption)) (fun hH2 => ?_)
              clear hK K
              (first | have HC := Lib.hid (hole_of hH2) | have HC := Lib.hid (hole_of2 hH2))
              have hHeld0 := Lib.hid hHeld
              clear hHeld
              have hHeld := hH2
              clear hH2
              (try simp only [List.getElem_toArray, List.getElem_cons_succ, List.getElem_cons_zero, Act.put, List.setIfInBounds_toArray, List.set_cons_zero, List.set_cons_succ])
              refine wpAnyH_ready (rs := [10]) (by kernel_rfl) (by simp) ?_
              refine AllReadyH.cons (o := _) rfl (fun K hK => ?_) AllReadyH.nil
              obtain ⟨h6, h0, h1, h2, h3, h4, h5⟩ := HC.out
              clear h6
              go_simp
              clear h0 h1 h2 h3 h4 h5
              (first
                | refine hK.out _ _ (hold_dos (below_alloc1 _ _) hHeld0.out) (fun hH2 => ?_)
                | refine hK.out _ _ (hold_dos (HC.out.fill _ _).1 hHeld0.out) (fun hH2 => ?_))
              clear hK K hHeld
              have hHeld := hH2
              clear hH2
              (try simp only [List.getElem_toArray, List.getElem_cons_succ, List.getElem_cons_zero, Act.put, List.setIfInBounds_toArray, List.set_cons_zero, List.set_cons_succ])
              refine wpAnyH_take (i := 11) (oi := _) (v := ?_) rfl (by kernel_rfl) (by kernel_rfl) (by kernel_rfl) (fun _ _ _ h => h) (Or.inl ⟨by rfl, ?_⟩) (by assumption) ?_
              rotate_left
              · intro ww hSw
                (try dsimp only at hSw)
                go_simp <;> with_reducible rfl
              (try simp only [List.getElem_toArray, List.getElem_cons_succ, List.getElem_cons_zero, Act.put, List.setIfInBounds_toArray, List.set_cons_zero, List.set_cons_succ])
              refine wpAnyH_done (by kernel_rfl) ?_ _
              refine NoPanic.normal ?_
              go_wp2_with fail
              go_meet
              case rel => first | exact mid_alloc (dos_of hHeld0.out) 24 | exact mid_fill (dos_of hHeld0.out) HC.out
            refine AllReadyH.cons (o := _) rfl (fun K hK => ?_) AllReadyH.nil
            go_simp
            refine hK.out _ _ (hold_dos (below_alloc1 _ _) (by with_reducible assumption)) (fun hH2 => ?_)
            clear hK K
            (first | have HC := Lib.hid (hole_of hH2) | have HC := Lib.hid (hole_of2 hH2))
            have hHeld0 := Lib.hid hHeld
            clear hHeld
            have hHeld := hH2
            clear hH2
            (try simp only [List.getElem_toArray, List.getElem_cons_succ, List.getElem_cons_zero, Act.put, List.setIfInBounds_toArray, List.set_cons_zero, List.set_cons_succ])
            refine wpAnyH_ready (rs := [5]) (by kernel_rfl) (by simp) ?_
            refine AllReadyH.cons (o := _) rfl (fun K hK => ?_) AllReadyH.nil
            go_simp
            (first
              | (go_at_call 20; (with_reducible refine (ATX.out _ (dos_of (by with_reducible assumption)).below).mono ?_); rintro e w6 ⟨rfl, hb⟩; (try (have HC := Lib.hid (HC.out.keep hb))))
              | (go_at_call 23; (with_reducible refine (HW.out _).mono ?_); rintro e w7 ⟨rfl, hb⟩; (try (have HC := Lib.hid (HC.out.keep hb)))))
            go_wp2_with fail
            refine hK.out _ _ (hold_dos (by with_reducible assumption) (by with_reducible assumption)) (fun hH2 => ?_)
            clear hK K hHeld hb
            have hHeld := hH2
            clear hH2
            (try simp only [List.getElem_toArray, List.getElem_cons_succ, List.getElem_cons_zero, Act.put, List.setIfInBounds_toArray, List.set_cons_zero, List.set_cons_succ])
            refine wpAnyH_take (i := 6) (oi := _) (v := ?_) rfl (by kernel_rfl) (by kernel_rfl) (by kernel_rfl) (fun _ _ _ h => h) (Or.inl ⟨by rfl, ?_⟩) (by assumption) ?_
            rotate_left
            · intro ww hSw
              (try dsimp only at hSw)
              go_simp <;> with_reducible rfl
            (try simp only [List.getElem_toArray, List.getElem_cons_succ, List.getElem_cons_zero, Act.put, List.setIfInBounds_toArray, List.set_cons_zero, List.set_cons_succ])
            refine wpAnyH_take (i := 7) (oi := _) (v := ?_) rfl (by kernel_rfl) (by kernel_rfl) (by kernel_rfl) (fun _ _ _ h => h) (Or.inl ⟨by rfl, ?_⟩) (by assumption) ?_
            rotate_left
            · intro ww hSw
              (try dsimp only at hSw)
              go_simp <;> with_reducible rfl
            (try simp only [List.getElem_toArray, List.getElem_cons_succ, List.getElem_cons_zero, Act.put, List.setIfInBounds_toArray, List.set_cons_zero, List.set_cons_succ])
            refine wpAnyH_take (i := 8) (oi := _) (v := ?_) rfl (by kernel_rfl) (by kernel_rfl) (by kernel_rfl) (fun _ _ _ h => h) (Or.inl ⟨by rfl, ?_⟩) (by assumption) ?_
            rotate_left
            · intro ww hSw
              (try dsimp only at hSw)
              go_simp <;> with_reducible rfl
            (try simp only [List.getElem_toArray, List.getElem_cons_succ, List.getElem_cons_zero, Act.put, List.setIfInBounds_toArray, List.set_cons_zero, List.set_cons_succ])
            refine wpAnyH_ready (rs := [10]) (by kernel_rfl) (by simp) ?_
            refine AllReadyH.cons (o := _) rfl (fun K hK => ?_) AllReadyH.nil
            obtain ⟨h6, h0, h1, h2, h3, h4, h5⟩ := HC.out
            clear h6
            go_simp
            clear h0 h1 h2 h3 h4 h5
            (first
              | refine hK.out _ _ (hold_dos (below_alloc1 _ _) hHeld0.out) (fun hH2 => ?_)
              | refine hK.out _ _ (hold_dos (HC.out.fill _ _).1 hHeld0.out) (fun hH2 => ?_))
            clear hK K hHeld
            have hHeld := hH2
            clear hH2
            (try simp only [List.getElem_toArray, List.getElem_cons_succ, List.getElem_cons_zero, Act.put, List.setIfInBounds_toArray, List.set_cons_zero, List.set_cons_succ])
            refine wpAnyH_take (i := 11) (oi := _) (v := ?_) rfl (by kernel_rfl) (by kernel_rfl) (by kernel_rfl) (fun _ _ _ h => h) (Or.inl ⟨by rfl, ?_⟩) (by assumption) ?_
            rotate_left
            · intro ww hSw
              (try dsimp only at hSw)
              go_simp <;> with_reducible rfl
            (try simp only [List.getElem_toArray, List.getElem_cons_succ, List.getElem_cons_zero, Act.put, List.setIfInBounds_toArray, List.set_cons_zero, List.set_cons_succ])
            refine wpAnyH_done (by kernel_rfl) ?_ _
            refine NoPanic.normal ?_
            go_wp2_with fail
            go_meet
            case rel => first | exact mid_alloc (dos_of hHeld0.out) 24 | exact mid_fill (dos_of hHeld0.out) HC.out
          refine AllReadyH.cons (o := _) rfl (fun K hK => ?_) AllReadyH.nil
          go_simp
          refine hK.out _ _ (hold_dos (below_alloc1 _ _) (by with_reducible assumption)) (fun hH2 => ?_)
          clear hK K
          (first | have HC := Lib.hid (hole_of hH2) | have HC := Lib.hid (hole_of2 hH2))
          have hHeld0 := Lib.hid hHeld
          clear hHeld
          have hHeld := hH2
          clear hH2
          (try simp only [List.getElem_toArray, List.getElem_cons_succ, List.getElem_cons_zero, Act.put, List.setIfInBounds_toArray, List.set_cons_zero, List.set_cons_succ])
          refine wpAnyH_ready (rs := [3]) (by kernel_rfl) (by simp) ?_
          refine AllReadyH.cons (o := _) rfl (fun K hK => ?_) AllReadyH.nil
          go_simp
          (first
            | (go_at_call 20; (with_reducible refine (ATX.out _ (dos_of (by with_reducible assumption)).below).mono ?_); rintro e w6 ⟨rfl, hb⟩; (try (have HC := Lib.hid (HC.out.keep hb))))
            | (go_at_call 23; (with_reducible refine (HW.out _).mono ?_); rintro e w7 ⟨rfl, hb⟩; (try (have HC := Lib.hid (HC.out.keep hb)))))
          go_wp2_with fail
          refine hK.out _ _ (hold_dos (by with_reducible assumption) (by with_reducible assumption)) (fun hH2 => ?_)
          clear hK K hHeld hb
          have hHeld := hH2
          clear hH2
          (try simp only [List.getElem_toArray, List.getElem_cons_succ, List.getElem_cons_zero, Act.put, List.setIfInBounds_toArray, List.set_cons_zero, List.set_cons_succ])
          refine wpAnyH_ready (rs := [5]) (by kernel_rfl) (by simp) ?_
          refine AllReadyH.cons (o := _) rfl (fun K hK => ?_) AllReadyH.nil
          go_simp
          (first
            | (go_at_call 20; (with_reducible refine (ATX.out _ (dos_of (by with_reducible assumption)).below).mono ?_); rintro e w6 ⟨rfl, hb⟩; (try (have HC := Lib.hid (HC.out.keep hb))))
            | (go_at_call 23; (with_reducible refine (HW.out _).mono ?_); rintro e w7 ⟨rfl, hb⟩; (try (have HC := Lib.hid (HC.out.keep hb)))))
          go_wp2_with fail
          refine hK.out _ _ (hold_dos (by with_reducible assumption) (by with_reducible assumption)) (fun hH2 => ?_)
          clear hK K hHeld hb
          have hHeld := hH2
          clear hH2
          (try simp only [List.getElem_toArray, List.getElem_cons_succ, List.getElem_cons_zero, Act.put, List.setIfInBounds_toArray, List.set_cons_zero, List.set_cons_succ])
          refine wpAnyH_take (i := 6) (oi := _) (v := ?_) rfl (by kernel_rfl) (by kernel_rfl) (by kernel_rfl) (fun _ _ _ h => h) (Or.inl ⟨by rfl, ?_⟩) (by assumption) ?_
          rotate_left
          · intro ww hSw
            (try dsimp only at hSw)
            go_simp <;> with_reducible rfl
          (try simp only [List.getElem_toArray, List.getElem_cons_succ, List.getElem_cons_zero, Act.put, List.setIfInBounds_toArray, List.set_cons_zero, List.set_cons_succ])
          refine wpAnyH_take (i := 7) (oi := _) (v := ?_) rfl (by kernel_rfl) (by kernel_rfl) (by kernel_rfl) (fun _ _ _ h => h) (Or.inl ⟨by rfl, ?_⟩) (by assumption) ?_
          rotate_left
          · intro ww hSw
            (try dsimp only at hSw)
            go_simp <;> with_reducible rfl
          (try simp only [List.getElem_toArray, List.getElem_cons_succ, List.getElem_cons_zero, Act.put, List.setIfInBounds_toArray, List.set_cons_zero, List.set_cons_succ])
          refine wpAnyH_take (i := 8) (oi := _) (v := ?_) rfl (by kernel_rfl) (by kernel_rfl) (by kernel_rfl) (fun _ _ _ h => h) (Or.inl ⟨by rfl, ?_⟩) (by assumption) ?_
          rotate_left
          · intro ww hSw
            (try dsimp only at hSw)
            go_simp <;> with_reducible rfl
          (try simp only [List.getElem_toArray, List.getElem_cons_succ, List.getElem_cons_zero, Act.put, List.setIfInBounds_toArray, List.set_cons_zero, List.set_cons_succ])
          refine wpAnyH_ready (rs := [10]) (by kernel_rfl) (by simp) ?_
          refine AllReadyH.cons (o := _) rfl (fun K hK => ?_) AllReadyH.nil
          obtain ⟨h6, h0, h1, h2, h3, h4, h5⟩ := HC.out
          clear h6
          go_simp
          clear h0 h1 h2 h3 h4 h5
          (first
            | refine hK.out _ _ (hold_dos (below_alloc1 _ _) hHeld0.out) (fun hH2 => ?_)
            | refine hK.out _ _ (hold_dos (HC.out.fill _ _).1 hHeld0.out) (fun hH2 => ?_))
          clear hK K hHeld
          have hHeld := hH2
          clear hH2
          (try simp only [List.getElem_toArray, List.getElem_cons_succ, List.getElem_cons_zero, Act.put, List.setIfInBounds_toArray, List.set_cons_zero, List.set_cons_succ])
          refine wpAnyH_take (i := 11) (oi := _) (v := ?_) rfl (by kernel_rfl) (by kernel_rfl) (by kernel_rfl) (fun _ _ _ h => h) (Or.inl ⟨by rfl, ?_⟩) (by assumption) ?_
          rotate_left
          · intro ww hSw
            (try dsimp only at hSw)
            go_simp <;> with_reducible rfl
          (try simp only [List.getElem_toArray, List.getElem_cons_succ, List.getElem_cons_zero, Act.put, List.setIfInBounds_toArray, List.set_cons_zero, List.set_cons_succ])
          refine wpAnyH_done (by kernel_rfl) ?_ _
          refine NoPanic.normal ?_
          go_wp2_with fail
          go_meet
          case rel => first | exact mid_alloc (dos_of hHeld0.out) 24 | exact mid_fill (dos_of hHeld0.out) HC.out
        case rest =>
          obtain ⟨cc, rfl, rfl, RC, D⟩ := hcut
          clear DD m1 m2 k0 m0
          have rc0 := RC.k0; have rc1 := RC.k1
          have o0 := D.O.k0
          have DD := Lib.hid D
          have hkl : k ≤ 8 := by have := HLT.out; omega
          have szb : b + 2 ≤ wc.heap.size := by have := D.O.lt; omega
          clear D
          have OWN := Lib.hid DD.out.o
          go_wp2_with (at_builtin; refine wpList_append_own _ rfl _ _ 22 rfl (b + 2) 24 i0 (.agg #[.int .i64 0, .int .i64 0]) 2 16 Tryd.underlying22 hi hz0 hz1 hz2 rfl (by decide) _ _ _ rfl (OWN.out.alloc _) ⟨wc.heap.size, 0, none⟩ 1 1 [.int .i64 qn, .int .i64 qd] rfl rfl ?c1 ?c2 ?c3 ?c4 ?c5 ?_)
          case c1 => exact one_pair _ _ _
          case c2 => intro u hu; simp at hu; rcases hu with rfl | rfl <;> rfl
          case c3 => unfold maxLen; omega
          case c4 => omega
          case c5 => simp; omega
          intro v' w8 hown' hgrow _
          obtain ⟨Av8, cv8, rfl⟩ := own_shape hown'
          have D8 := DD.out.push (q := (qn, qd)) hgrow hown'
          have g8 := grown_belowR szb OWN.out hgrow
          have o8 := (DD.out.O.keepB g8 (by omega)).k0
          have f8 := (DD.out.O.keepB g8 (by omega)).l0
          have D8 := Lib.hid D8
          clear hown' hgrow g8
          have wk : IntKind.i64.wrap ((k : Int) + 1) = (k : Int) + 1 := IntWalk.i64_in _ (by have := HLT.out; omega)
          go_wp2_with fail
          go_roundg (n - (k + 1))
          case measure => have := HK.out; have := HLT.out; omega
          case rel => exact ⟨k + 1, _, by push_cast; rfl, by have := HLT.out; omega, rfl, HC2.out, by rw [NX.out]; exact D8.out⟩

set_option maxRecDepth 4000 in
set_option maxHeartbeats 4000000 in
theorem rdo_sum_no (w : World) (va vb : Value) (l m : List (Int × Int)) (kx ky : Int × Int) (ha : RatsAt w va l) (hb : RatsAt w vb m) (hl : AllOk l) (hm : AllOk m) (hx : OkR kx) (hy : OkR ky) (h8 : l.length ≤ 8) (h8' : m.length ≤ 8)
    (hno : ¬ ((addH kx ky).2 = 0 ∧ combOk addH l m (max l.length m.length))) :
    Calls Tryd.prog 12 #[.int .i64 0, .agg #[va, .int .i64 kx.1, .int .i64 kx.2], .agg #[vb, .int .i64 ky.1, .int .i64 ky.2]] w (TermPut w [] (0, 0) 3) := by
  obtain ⟨i0, hi, hz0, hz1, hz2⟩ := info_parts infoR
  have ra := fun (w' : World) (h : Below w.heap.size w w') => r2right_any w' va l kx.1 kx.2 (ha.below h) hl.wide hx.wide.1.1 hx.wide.1.2 hx.wide.2.1 hx.wide.2.2
  rw [right_mk h8 hl hx] at ra
  have rb := fun (w' : World) (h : Below w.heap.size w w') => r2right_any w' vb m ky.1 ky.2 (hb.below h) hm.wide hy.wide.1.1 hy.wide.1.2 hy.wide.2.1 hy.wide.2.2
  rw [right_mk h8' hm hy] at rb
  have h1 := fun (w' : World) => rdo_add w' kx ky hx hy
  have HOW : ∀ (w' : World) (k : Nat), Calls Tryd.prog 23 #[.int .i64 0, ratV (atL l k).1 (atL l k).2, ratV (atL m k).1 (atL m k).2] w' fun r w2 => r = .returned (.tuple #[ratV (addH (atL l k) (atL m k)).1.1 (addH (atL l k) (atL m k)).1.2, .int .i64 (addH (atL l k) (atL m k)).2]) ∧ Below w'.heap.size w' w2 := fun w' k => rdo_add w' _ _ (hl.at k) (hm.at k)
  have HOW := Lib.hid HOW
  by_cases hk : (addH kx ky).2 = 0
  rotate_left
  · have hz := addH_ok.no kx ky hx hy hk
    rw [hz] at h1
    obtain ⟨A, c, rfl⟩ := rats_shape ha
    obtain ⟨B, d, rfl⟩ := rats_shape hb
    have H1 := Lib.hid h1; have RA := Lib.hid ra; have RB := Lib.hid rb
    clear h1 ra rb ha hb hl hm hx hy hk hz hno HOW h8 h8'
    generalize l.length = ll at *
    generalize m.length = lm at *
    obtain ⟨xn, xd⟩ := kx
    obtain ⟨yn, yd⟩ := ky
    skip
    dsimp only at *
    obtain ⟨F, G, E, hb0⟩ := three_boxes w (.slice A ll c) (.int .i64 xn) (.int .i64 xd) (.slice B lm d) (.int .i64 yn) (.int .i64 yd) (.slice none 0 0) (.int .i64 0) (.int .i64 0) 26
    go_enter Tryd.func12, Tryd.ntmps12
    go_upto_region 4 with (first
      | (go_at_call 16; (first
        | (with_reducible refine (RA.out _ hb0).mono ?_); rintro e w1 ⟨rfl, hb1⟩; have F := F.keep hb1; have G := G.keep hb1; have E := E.keep hb1; have b1 := hb0.trans (hb1.mono hb0.size); have k1 := F.k1; have k2 := F.k2; have m0 := G.k0; have m1 := G.k1; have m2 := G.k2
        | (with_reducible refine (RB.out _ b1).mono ?_); rintro e w2 ⟨rfl, hb2⟩; have F := F.keep hb2; have G := G.keep hb2; have E := E.keep hb2; have b2 := b1.trans (hb2.mono b1.size); have k1 := F.k1; have k2 := F.k2; have m1 := G.k1; have m2 := G.k2))
      | (go_at_call 23; (with_reducible refine (H1.out _).mono ?_); rintro e w3 ⟨rfl, hb3⟩; have E := E.keep hb3; have b3 := b2.trans (hb3.mono b2.size)))
    have a1 := below_alloc1 w3 (.cells #[.int .i64 0, .int .i64 0] 24)
    have E := E.keep a1
    have b4 := Lib.hid (b3.trans (a1.mono b3.size))
    have k0 := E.k0; have k1 := E.k1; have k2 := E.k2; have l0 := E.l0; have l1 := E.l1; have l2 := E.l2
    clear hb1 hb2 hb3 hb0 a1 F G b1 b2 b3
    go_wp2_with fail
    obtain ⟨c0, c1, c2⟩ := set_three (x := .slice none 0 0) (y := .int .i64 0) (z := .int .i64 0) k0 k1 k2
    refine bodyPost_ret (v := .tuple #[.agg #[.slice none 0 0, .int .i64 0, .int .i64 0], .int .i64 3]) (by simp [results, Tryd.results12, go_sem, c0, c1, c2]) rfl ⟨_, rfl, RatsAt.nil _, ?_, Fresh.none_ _ _ _⟩
    exact ((b4.out.setCell (by show w.heap.size ≤ w.heap.size + 1 + 1; omega) _).setCell (by show w.heap.size ≤ w.heap.size + 1 + 1; omega) _).setCell (by show w.heap.size ≤ w.heap.size + 1 + 1; omega) _
  have hno2 : ¬ combOk addH l m (max l.length m.length) := fun q => hno ⟨hk, q⟩
  rw [hk] at h1
  obtain ⟨A, c, rfl⟩ := rats_shape ha
  obtain ⟨B, d, rfl⟩ := rats_shape hb
  obtain ⟨n, hn⟩ : ∃ n, n = max l.length m.length := ⟨_, rfl⟩
  have hn8 : n ≤ 8 := by omega
  rw [← hn] at hno2
  have HN := Lib.hid (And.intro hn hno2)
  have HH := Lib.hid (fun k : Nat => addH_ok.no _ _ (hl.at k) (hm.at k))
  have H1 := Lib.hid h1; have RA := Lib.hid ra; have RB := Lib.hid rb
  have TS := Lib.hid (And.intro ha hb)
  clear h1 ra rb ha hb hl hm hx hy hk hn hno hno2
  generalize l.length = ll at *
  generalize m.length = lm at *
  generalize (addH kx ky).1 = z at *
  obtain ⟨zn, zd⟩ := z
  obtain ⟨xn, xd⟩ := kx
  obtain ⟨yn, yd⟩ := ky
  dsimp only at *
  obtain ⟨F, G, E, hb0⟩ := three_boxes w (.slice A ll c) (.int .i64 xn) (.int .i64 xd) (.slice B lm d) (.int .i64 yn) (.int .i64 yd) (.slice none 0 0) (.int .i64 0) (.int .i64 0) 26
  go_enter Tryd.func12, Tryd.ntmps12
  go_upto_region 6 with (first
    | (go_at_call 16; (first
      | (with_reducible refine (RA.out _ hb0).mono ?_); rintro e w1 ⟨rfl, hb1⟩; have F := F.keep hb1; have G := G.keep hb1; have E := E.keep hb1; have b1 := hb0.trans (hb1.mono hb0.size); have k1 := F.k1; have k2 := F.k2; have m0 := G.k0; have m1 := G.k1; have m2 := G.k2
      | (with_reducible refine (RB.out _ b1).mono ?_); rintro e w2 ⟨rfl, hb2⟩; have F := F.keep hb2; have G := G.keep hb2; have E := E.keep hb2; have b2 := b1.trans (hb2.mono b1.size); have k1 := F.k1; have k2 := F.k2; have m1 := G.k1; have m2 := G.k2))
    | (go_at_call 23; (with_reducible refine (H1.out _).mono ?_); rintro e w3 ⟨rfl, hb3⟩; have F := F.keep hb3; have G := G.keep hb3; have E := E.keep hb3; have e3 := E.lt; have b3 := b2.trans (hb3.mono b2.size)))
  clear hb1 hb2 hb3 hb0 b1 b2 k1 k2 m0 m1 m2
  go_upto_region 7 with fail
  have a1 := below_alloc1 w3 (.cells #[.int .i64 zn, .int .i64 zd] 24)
  have a2 := below_alloc1 (w3.alloc (.cells #[.int .i64 zn, .int .i64 zd] 24)) (.cells #[.slice none 0 0, .int .i64 zn, .int .i64 zd] 26)
  have O := FracBox.start (w3.alloc (.cells #[.int .i64 zn, .int .i64 zd] 24)) (.slice none 0 0) (.int .i64 zn) (.int .i64 zd) 26
  rw [World.size_alloc] at O
  have b5 := b3.trans (a1.mono b3.size)
  have D0 : DoS w ((w3.alloc (.cells #[.int .i64 zn, .int .i64 zd] 24)).alloc (.cells #[.slice none 0 0, .int .i64 zn, .int .i64 zd] 26)) w3.heap.size 0 (.slice A ll c) xn xd (.slice B lm d) yn yd zn zd (.slice none 0 0) (doneK addH l m 0) :=
    ⟨(F.keep a1).keep a2, (G.keep a1).keep a2, (E.keep a1).keep a2, O, ⟨rfl, .inl ⟨rfl, rfl⟩⟩, e3, b5.trans (a2.mono b5.size)⟩
  generalize w3.heap.size = b at *
  have D0 := Lib.hid D0
  clear F G E O a1 a2 b3 b5 e3
  go_wp2_with fail
  go_loopg [11] n (fun g v11 wr => ∃ (k : Nat) (v : Value), v11 = .int .i64 k ∧ k ≤ n ∧ g = n - k ∧ combOk addH l m k ∧ DoS w wr b k (.slice A ll c) xn xd (.slice B lm d) yn yd zn zd v (doneK addH l m k))
  case atStart => exact ⟨0, _, rfl, Nat.zero_le _, rfl, fun i hi => absurd hi (Nat.not_lt_zero _), D0.out⟩
  case round =>
    clear D0
    obtain ⟨k, v, rfl, hk, hg, hck, D⟩ := hrel
    have k0 := D.F.k0
    have m0 := D.G.k0
    by_cases hkn : k = n
    · subst hkn
      exact absurd hck HN.out.2
    · have hlt : k < n := by omega
      have i2 : (0 : Int) ≤ (k : Int) := by omega
      by_cases he0 : (addH (atL l k) (atL m k)).2 = 0
      · by_cases hkl0 : k < ll
        · have hx1 : decide ((k : Int) < (ll : Int)) = true := decide_eq_true (by omega)
          have hx3 : (k : Int) < (ll : Int) := by omega
          have hx5 : decide (k < ll) = true := decide_eq_true (by omega)
          have atx := fun (w' : World) (hb : Below w.heap.size w w') => rat_any w' (.slice A ll c) l xn xd k (TS.out.1.below hb)
          have aty := fun (w' : World) (hb : Below w.heap.size w w') => rat_any w' (.slice B lm d) m yn yd k (TS.out.2.below hb)
          have hw := fun (w' : World) => HOW.out w' k
          rw [he0] at hw
          have ATX := Lib.hid atx; have ATY := Lib.hid aty; have HW := Lib.hid hw
          have HLT := Lib.hid hlt
          have HK := Lib.hid hg
          have HC2 : Hid (combOk addH l m (k + 1)) := fun i hi => by
            rcases Nat.lt_or_ge i k with g | g
            · exact hck i g
            · obtain rfl : i = k := by omega
              exact he0
          have NX := Lib.hid (doneK_next addH l m k)
          have DD := Lib.hid D
          have m1 := D.G.k1; have m2 := D.G.k2
          clear atx aty hw D hck he0 hg hkn hk hlt
          generalize (addH (atL l k) (atL m k)).1 = q at *
          obtain ⟨qn, qd⟩ := q
          generalize atL l k = x at *
          generalize atL m k = y at *
          obtain ⟨x1, x2⟩ := x
          obtain ⟨y1, y2⟩ := y
          dsimp only at *
          go_upto_region 13 with (go_at_call 20; (with_reducible refine (ATY.out _ DD.out.below).mono ?_); rintro e w5 ⟨rfl, hb⟩; have DD := Lib.hid (DD.out.keep hb); clear hb)
          go_cut [13, 14] from 39 to 78 (fun v13 v14 wx => DoMidT w b k (.slice A ll c) xn xd (.slice B lm d) yn yd zn zd v (doneK addH l m k) qn qd 0 v13 v14 wx)
          case first =>
            have HS := hold_dos (below_drew _) ((DD.out.keep (below_alloc1 w5 (.cells #[.int .i64 y1, .int .i64 y2] 24))).cells (RatAt.start w5 y1 y2 24))
            generalize w5.heap.size = cy at *
            generalize w5.alloc (.cells #[.int .i64 y1, .int .i64 y2] 24) = wq at *
            clear DD m1 m2 k0 m0
            refine wp_region_noPanic ?_
            refine wp_region_held_drew (S := (fun w' => ((w'.cell? ⟨w.heap.size, 0, none⟩ = some (.slice A ll c) ∧ w'.cell? ⟨w.heap.size, 1, none⟩ = some (.int .i64 xn) ∧ w'.cell? ⟨w.heap.size, 2, none⟩ = some (.int .i64 xd)) ∧ (w'.cell? ⟨cy, 0, none⟩ = some (.int .i64 y1) ∧ w'.cell? ⟨cy, 1, none⟩ = some (.int .i64 y2)) ∧ RatAt w' cy y1 y2) ∧ DoS w w' b k (.slice A ll c) xn xd (.slice B lm d) yn yd zn zd v (doneK addH l m k))) (by kernel_rfl) HS (fun hHeld => ?_)
            clear HS
            refine wpAnyH_take (i := 0) (oi := _) (v := ?_) rfl (by kernel_rfl) (by kernel_rfl) (by kernel_rfl) (fun _ _ _ h => h) (Or.inl ⟨by rfl, ?_⟩) (by assumption) ?_
            rotate_left
            · intro ww hSw
              (try dsimp only at hSw)
              go_simp <;> with_reducible rfl
            (try simp only [List.getElem_toArray, List.getElem_cons_zero, Act.put, List.setIfInBounds_toArray, List.set_cons_zero, List.set_cons_succ])
            refine wpAnyH_take (i := 1) (oi := _) (v := ?_) rfl (by kernel_rfl) (by kernel_rfl) (by kernel_rfl) (fun _ _ _ h => h) (Or.inl ⟨by rfl, ?_⟩) (by assumption) ?_
            rotate_left
            · intro ww hSw
              (try dsimp only at hSw)
              go_simp <;> with_reducible rfl
            (try simp only [List.getElem_toArray, List.getElem_cons_succ, List.getElem_cons_zero, Act.put, List.setIfInBounds_toArray, List.set_cons_zero, List.set_cons_succ])
            refine wpAnyH_take (i := 2) (oi := _) (v := ?_) rfl (by kernel_rfl) (by kernel_rfl) (by kernel_rfl) (fun _ _ _ h => h) (Or.inl ⟨by rfl, ?_⟩) (by assumption) ?_
            rotate_left
            · intro ww hSw
              (try dsimp only at hSw)
              go_simp <;> with_reducible rfl
            (try simp only [List.getElem_toArray, List.getElem_cons_succ, List.getElem_cons_zero, Act.put, List.setIfInBounds_toArray, List.set_cons_zero, List.set_cons_succ])
            refine wpAnyH_take (i := 4) (oi := _) (v := ?_) rfl (by kernel_rfl) (by kernel_rfl) (by kernel_rfl) (fun _ _ _ h => h) (Or.inl ⟨by rfl, ?_⟩) (by assumption) ?_
            rotate_left
            · intro ww hSw
              (try dsimp only at hSw)
              go_simp <;> with_reducible rfl
            (try simp only [List.getElem_toArray, List.getElem_cons_succ, List.getElem_cons_zero, Act.put, List.setIfInBounds_toArray, List.set_cons_zero, List.set_cons_succ])
            refine wpAnyH_ready (rs := [3, 9]) (by kernel_rfl) (by simp) ?_
            refine AllReadyH.cons (o := _) rfl (fun K hK => ?_) ?_
            · go_simp
              (first
                | (go_at_call 20; (with_reducible refine (ATX.out _ (dos_of (by with_reducible assumption)).below).mono ?_); rintro e w6 ⟨rfl, hb⟩; (try (have HC := Lib.hid (HC.out.keep hb))))
                | (go_at_call 23; (with_reducible refine (HW.out _).mono ?_); rintro e w7 ⟨rfl, hb⟩; (try (have HC := Lib.hid (HC.out.keep hb)))))
              go_wp2_with fail
              refine hK.out _ _ (hold_dos (by with_reducible assumption) (by with_reducible assumption)) (fun hH2 => ?_)
              clear hK K hHeld hb
              have hHeld := hH2
              clear hH2
              (try simp only [List.getElem_toArray, List.getElem_cons_succ, List.getElem_cons_zero, Act.put, List.setIfInBounds_toArray, List.set_cons_zero, List.set_cons_succ])
              refine wpAnyH_ready (rs := [5, 9]) (by kernel_rfl) (by simp) ?_
              refine AllReadyH.cons (o := _) rfl (fun K hK => ?_) ?_
              · go_simp
                (first
                  | (go_at_call 20; (with_reducible refine (ATX.out _ (dos_of (by with_reducible assumption)).below).mono ?_); rintro e w6 ⟨rfl, hb⟩; (try (have HC := Lib.hid (HC.out.keep hb))))
                  | (go_at_call 23; (with_reducible refine (HW.out _).mono ?_); rintro e w7 ⟨rfl, hb⟩; (try (have HC := Lib.hid (HC.out.keep hb)))))
                go_wp2_with fail
                refine hK.out _ _ (hold_dos (by with_reducible assumption) (by with_reducible assumption)) (fun hH2 => ?_)
                clear hK K hHeld hb
                have hHeld := hH2
                clear hH2
                (try simp only [List.getElem_toArray, List.getElem_cons_succ, List.getElem_cons_zero, Act.put, List.setIfInBounds_toArray, List.set_cons_zero, List.set_cons_succ])
                refine wpAnyH_take (i := 6) (oi := _) (v := ?_) rfl (by kernel_rfl) (by kernel_rfl) (by kernel_rfl) (fun _ _ _ h => h) (Or.inl ⟨by rfl, ?_⟩) (by assumption) ?_
                rotate_left
                · intro ww hSw
                  (try dsimp only at hSw)
                  go_simp <;> with_reducible rfl
                (try simp only [List.getElem_toArray, List.getElem_cons_succ, List.getElem_cons_zero, Act.put, List.setIfInBounds_toArray, List.set_cons_zero, List.set_cons_succ])
                refine wpAnyH_take (i := 7) (oi := _) (v := ?_) rfl (by kernel_rfl) (by kernel_rfl) (by kernel_rfl) (fun _ _ _ h => h) (Or.inl ⟨by rfl, ?_⟩) (by assumption) ?_
                rotate_left
                · intro ww hSw
                  (try dsimp only at hSw)
                  go_simp <;> with_reducible rfl
                (try simp only [List.getElem_toArray, List.getElem_cons_succ, List.getElem_cons_zero, Act.put, List.setIfInBounds_toArray, List.set_cons_zero, List.set_cons_succ])
                refine wpAnyH_take (i := 8) (oi := _) (v := ?_) rfl (by kernel_rfl) (by kernel_rfl) (by kernel_rfl) (fun _ _ _ h => h) (Or.inl ⟨by rfl, ?_⟩) (by assumption) ?_
                rotate_left
                · intro ww hSw
                  (try dsimp only at hSw)
                  go_simp <;> with_reducible rfl
                (try simp only [List.getElem_toArray, List.getElem_cons_succ, List.getElem_cons_zero, Act.put, List.setIfInBounds_toArray, List.set_cons_zero, List.set_cons_succ])
                refine wpAnyH_ready (rs := [9]) (by kernel_rfl) (by simp) ?_
                refine AllReadyH.cons (o := _) rfl (fun K hK => ?_) AllReadyH.nil
                go_simp
                refine hK.out _ _ (hold_dos (below_alloc1 _ _) (by with_reducible assumption)) (fun hH2 => ?_)
                clear hK K
                (first | have HC := Lib.hid (hole_of hH2) | have HC := Lib.hid (hole_of2 hH2))
                have hHeld0 := Lib.hid hHeld
                clear hHeld
                have hHeld := hH2
                clear hH2
                (try simp only [List.getElem_toArray, List.getElem_cons_succ, List.getElem_cons_zero, Act.put, List.setIfInBounds_toArray, List.set_cons_zero, List.set_cons_succ])
                refine wpAnyH_ready (rs := [10]) (by kernel_rfl) (by simp) ?_
                refine AllReadyH.cons (o := _) rfl (fun K hK => ?_) AllReadyH.nil
                obtain ⟨h6, h0, h1, h2, h3, h4, h5⟩ := HC.out
                clear h6
                go_simp
                clear h0 h1 h2 h3 h4 h5
                (first
                  | refine hK.out _ _ (hold_dos (below_alloc1 _ _) hHeld0.out) (fun hH2 => ?_)
                  | refine hK.out _ _ (hold_dos (HC.out.fill _ _).1 hHeld0.out) (fun hH2 => ?_))
                clear hK K hHeld
                have hHeld := hH2
                clear hH2
                (try simp only [List.getElem_toArray, List.getElem_cons_succ, List.getElem_cons_zero, Act.put, List.setIfInBounds_toArray, List.set_cons_zero, List.set_cons_succ])
                refine wpAnyH_take (i := 11) (oi := _) (v := ?_) rfl (by kernel_rfl) (by kernel_rfl) (by kernel_rfl) (fun _ _ _ h => h) (Or.inl ⟨by rfl, ?_⟩) (by assumption) ?_
                rotate_left
                · intro ww hSw
                  (try dsimp only at hSw)
                  go_simp <;> with_reducible rfl
                (try simp only [List.getElem_toArray, List.getElem_cons_succ, List.getElem_cons_zero, Act.put, List.setIfInBounds_toArray, List.set_cons_zero, List.set_cons_succ])
                refine wpAnyH_done (by kernel_rfl) ?_ _
                refine NoPanic.normal ?_
                go_wp2_with fail
                go_meet
                case rel => first | exact mid_alloc (dos_of hHeld0.out) 24 | exact mid_fill (dos_of hHeld0.out) HC.out
              refine AllReadyH.cons (o := _) rfl (fun K hK => ?_) AllReadyH.nil
              go_simp
              refine hK.out _ _ (hold_dos (below_alloc1 _ _) (by with_reducible assumption)) (fun hH2 => ?_)
              clear hK K
              (first | have HC := Lib.hid (hole_of hH2) | have HC := Lib.hid (hole_of2 hH2))
              have hHeld0 := Lib.hid hHeld
              clear hHeld
              have hHeld := hH2
              clear hH2
              (try simp only [List.getElem_toArray, List.getElem_cons_succ, List.getElem_cons_zero, Act.put, List.setIfInBounds_toArray, List.set_cons_zero, List.set_cons_succ])
              refine wpAnyH_ready (rs := [5]) (by kernel_rfl) (by simp) ?_
              refine AllReadyH.cons (o := _) rfl (fun K hK => ?_) AllReadyH.nil
              go_simp
              (first
                | (go_at_call 20; (with_reducible refine (ATX.out _ (dos_of (by with_reducible assumption)).below).mono ?_); rintro e w6 ⟨rfl, hb⟩; (try (have HC := Lib.hid (HC.out.keep hb))))
                | (go_at_call 23; (with_reducible refine (HW.out _).mono ?_); rintro e w7 ⟨rfl, hb⟩; (try (have HC := Lib.hid (HC.out.keep hb)))))
              go_wp2_with fail
              refine hK.out _ _ (hold_dos (by with_reducible assumption) (by with_reducible assumption)) (fun hH2 => ?_)
              clear hK K hHeld hb
              have hHeld := hH2
              clear hH2
              (try simp only [List.getElem_toArray, List.getElem_cons_succ, List.getElem_cons_zero, Act.put, List.setIfInBounds_toArray, List.set_cons_zero, List.set_cons_succ])
              refine wpAnyH_take (i := 6) (oi := _) (v := ?_) rfl (by kernel_rfl) (by kernel_rfl) (by kernel_rfl) (fun _ _ _ h => h) (Or.inl ⟨by rfl, ?_⟩) (by assumption) ?_
              rotate_left
              · intro ww hSw
                (try dsimp only at hSw)
                go_simp <;> with_reducible rfl
              (try simp only [List.getElem_toArray, List.getElem_cons_succ, List.getElem_cons_zero, Act.put, List.setIfInBounds_toArray, List.set_cons_zero, List.set_cons_succ])
              refine wpAnyH_take (i := 7) (oi := _) (v := ?_) rfl (by kernel_rfl) (by kernel_rfl) (by kernel_rfl) (fun _ _ _ h => h) (Or.inl ⟨by rfl, ?_⟩) (by assumption) ?_
              rotate_left
              · intro ww hSw
                (try dsimp only at hSw)
                go_simp <;> with_reducible rfl
              (try simp only [List.getElem_toArray, List.getElem_cons_succ, List.getElem_cons_zero, Act.put, List.setIfInBounds_toArray, List.set_cons_zero, List.set_cons_succ])
              refine wpAnyH_take (i := 8) (oi := _) (v := ?_) rfl (by kernel_rfl) (by kernel_rfl) (by kernel_rfl) (fun _ _ _ h => h) (Or.inl ⟨by rfl, ?_⟩) (by assumption) ?_
              rotate_left
              · intro ww hSw
                (try dsimp only at hSw)
                go_simp <;> with_reducible rfl
              (try simp only [List.getElem_toArray, List.getElem_cons_succ, List.getElem_cons_zero, Act.put, List.setIfInBounds_toArray, List.set_cons_zero, List.set_cons_succ])
              refine wpAnyH_ready (rs := [10]) (by kernel_rfl) (by simp) ?_
              refine AllReadyH.cons (o := _) rfl (fun K hK => ?_) AllReadyH.nil
              obtain ⟨h6, h0, h1, h2, h3, h4, h5⟩ := HC.out
              clear h6
              go_simp
              clear h0 h1 h2 h3 h4 h5
              (first
                | refine hK.out _ _ (hold_dos (below_alloc1 _ _) hHeld0.out) (fun hH2 => ?_)
                | refine hK.out _ _ (hold_dos (HC.out.fill _ _).1 hHeld0.out) (fun hH2 => ?_))
              clear hK K hHeld
              have hHeld := hH2
              clear hH2
              (try simp only [List.getElem_toArray, List.getElem_cons_succ, List.getElem_cons_zero, Act.put, List.setIfInBounds_toArray, List.set_cons_zero, List.set_cons_succ])
              refine wpAnyH_take (i := 11) (oi := _) (v := ?_) rfl (by kernel_rfl) (by kernel_rfl) (by kernel_rfl) (fun _ _ _ h => h) (Or.inl ⟨by rfl, ?_⟩) (by assumption) ?_
              rotate_left
              · intro ww hSw
                (try dsimp only at hSw)
                go_simp <;> with_reducible rfl
              (try simp only [List.getElem_toArray, List.getElem_cons_succ, List.getElem_cons_zero, Act.put, List.setIfInBounds_toArray, List.set_cons_zero, List.set_cons_succ])
              refine wpAnyH_done (by kernel_rfl) ?_ _
              refine NoPanic.normal ?_
              go_wp2_with fail
              go_meet
              case rel => first | exact mid_alloc (dos_of hHeld0.out) 24 | exact mid_fill (dos_of hHeld0.out) HC.out
            refine AllReadyH.cons (o := _) rfl (fun K hK => ?_) AllReadyH.nil
            go_simp
            refine hK.out _ _ (hold_dos (below_alloc1 _ _) (by with_reducible assumption)) (fun hH2 => ?_)
            clear hK K
            (first | have HC := Lib.hid (hole_of hH2) | have HC := Lib.hid (hole_of2 hH2))
            have hHeld0 := Lib.hid hHeld
            clear hHeld
            have hHeld := hH2
            clear hH2
            (try simp only [List.getElem_toArray, List.getElem_cons_succ, List.getElem_cons_zero, Act.put, List.setIfInBounds_toArray, List.set_cons_zero, List.set_cons_succ])
            refine wpAnyH_ready (rs := [3]) (by kernel_rfl) (by simp) ?_
            refine AllReadyH.cons (o := _) rfl (fun K hK => ?_) AllReadyH.nil
            go_simp
            (first
              | (go_at_call 20; (with_reducible refine (ATX.out _ (dos_of (by with_reducible assumption)).below).mono ?_); rintro e w6 ⟨rfl, hb⟩; (try (have HC := Lib.hid (HC.out.keep hb))))
              | (go_at_call 23; (with_reducible refine (HW.out _).mono ?_); rintro e w7 ⟨rfl, hb⟩; (try (have HC := Lib.hid (HC.out.keep hb)))))
            go_wp2_with fail
            refine hK.out _ _ (hold_dos (by with_reducible assumption) (by with_reducible assumption)) (fun hH2 => ?_)
            clear hK K hHeld hb
            have hHeld := hH2
            clear hH2
            (try simp only [List.getElem_toArray, List.getElem_cons_succ, List.getElem_cons_zero, Act.put, List.setIfInBounds_toArray, List.set_cons_zero, List.set_cons_succ])
            refine wpAnyH_ready (rs := [5]) (by kernel_rfl) (by simp) ?_
            refine AllReadyH.cons (o := _) rfl (fun K hK => ?_) AllReadyH.nil
            go_simp
            (first
              | (go_at_call 20; (with_reducible refine (ATX.out _ (dos_of (by with_reducible assumption)).below).mono ?_); rintro e w6 ⟨rfl, hb⟩; (try (have HC := Lib.hid (HC.out.keep hb))))
              | (go_at_call 23; (with_reducible refine (HW.out _).mono ?_); rintro e w7 ⟨rfl, hb⟩; (try (have HC := Lib.hid (HC.out.keep hb)))))
            go_wp2_with fail
            refine hK.out _ _ (hold_dos (by with_reducible assumption) (by with_reducible assumption)) (fun hH2 => ?_)
            clear hK K hHeld hb
            have hHeld := hH2
            clear hH2
            (try simp only [List.getElem_toArray, List.getElem_cons_succ, List.getElem_cons_zero, Act.put, List.setIfInBounds_toArray, List.set_cons_zero, List.set_cons_succ])
            refine wpAnyH_take (i := 6) (oi := _) (v := ?_) rfl (by kernel_rfl) (by kernel_rfl) (by kernel_rfl) (fun _ _ _ h => h) (Or.inl ⟨by rfl, ?_⟩) (by assumption) ?_
            rotate_left
            · intro ww hSw
              (try dsimp only at hSw)
              go_simp <;> with_reducible rfl
            (try simp only [List.getElem_toArray, List.getElem_cons_succ, List.getElem_cons_zero, Act.put, List.setIfInBounds_toArray, List.set_cons_zero, List.set_cons_succ])
            refine wpAnyH_take (i := 7) (oi := _) (v := ?_) rfl (by kernel_rfl) (by kernel_rfl) (by kernel_rfl) (fun _ _ _ h => h) (Or.inl ⟨by rfl, ?_⟩) (by assumption) ?_
            rotate_left
            · intro ww hSw
              (try dsimp only at hSw)
              go_simp <;> with_reducible rfl
            (try simp only [List.getElem_toArray, List.getElem_cons_succ, List.getElem_cons_zero, Act.put, List.setIfInBounds_toArray, List.set_cons_zero, List.set_cons_succ])
            refine wpAnyH_take (i := 8) (oi := _) (v := ?_) rfl (by kernel_rfl) (by kernel_rfl) (by kernel_rfl) (fun _ _ _ h => h) (Or.inl ⟨by rfl, ?_⟩) (by assumption) ?_
            rotate_left
            · intro ww hSw
              (try dsimp only at hSw)
              go_simp <;> with_reducible rfl
            (try simp only [List.getElem_toArray, List.getElem_cons_succ, List.getElem_cons_zero, Act.put, List.setIfInBounds_toArray, List.set_cons_zero, List.set_cons_succ])
            refine wpAnyH_ready (rs := [10]) (by kernel_rfl) (by simp) ?_
            refine AllReadyH.cons (o := _) rfl (fun K hK => ?_) AllReadyH.nil
            obtain ⟨h6, h0, h1, h2, h3, h4, h5⟩ := HC.out
            clear h6
            go_simp
            clear h0 h1 h2 h3 h4 h5
            (first
              | refine hK.out _ _ (hold_dos (below_alloc1 _ _) hHeld0.out) (fun hH2 => ?_)
              | refine hK.out _ _ (hold_dos (HC.out.fill _ _).1 hHeld0.out) (fun hH2 => ?_))
            clear hK K hHeld
            have hHeld := hH2
            clear hH2
            (try simp only [List.getElem_toArray, List.getElem_cons_succ, List.getElem_cons_zero, Act.put, List.setIfInBounds_toArray, List.set_cons_zero, List.set_cons_succ])
            refine wpAnyH_take (i := 11) (oi := _) (v := ?_) rfl (by kernel_rfl) (by kernel_rfl) (by kernel_rfl) (fun _ _ _ h => h) (Or.inl ⟨by rfl, ?_⟩) (by assumption) ?_
            rotate_left
            · intro ww hSw
              (try dsimp only at hSw)
              go_simp <;> with_reducible rfl
            (try simp only [List.getElem_toArray, List.getElem_cons_succ, List.getElem_cons_zero, Act.put, List.setIfInBounds_toArray, List.set_cons_zero, List.set_cons_succ])
            refine wpAnyH_done (by kernel_rfl) ?_ _
            refine NoPanic.normal ?_
            go_wp2_with fail
            go_meet
            case rel => first | exact mid_alloc (dos_of hHeld0.out) 24 | exact mid_fill (dos_of hHeld0.out) HC.out
          case rest =>
            obtain ⟨cc, rfl, rfl, RC, D⟩ := hcut
            clear DD m1 m2 k0 m0
            have rc0 := RC.k0; have rc1 := RC.k1
            have o0 := D.O.k0
            have DD := Lib.hid D
            have hkl : k ≤ 8 := by have := HLT.out; omega
            have szb : b + 2 ≤ wc.heap.size := by have := D.O.lt; omega
            clear D
            have OWN := Lib.hid DD.out.o
            go_wp2_with (at_builtin; refine wpList_append_own _ rfl _ _ 22 rfl (b + 2) 24 i0 (.agg #[.int .i64 0, .int .i64 0]) 2 16 Tryd.underlying22 hi hz0 hz1 hz2 rfl (by decide) _ _ _ rfl (OWN.out.alloc _) ⟨wc.heap.size, 0, none⟩ 1 1 [.int .i64 qn, .int .i64 qd] rfl rfl ?c1 ?c2 ?c3 ?c4 ?c5 ?_)
            case c1 => exact one_pair _ _ _
            case c2 => intro u hu; simp at hu; rcases hu with rfl | rfl <;> rfl
            case c3 => unfold maxLen; omega
            case c4 => omega
            case c5 => simp; omega
            intro v' w8 hown' hgrow _
            obtain ⟨Av8, cv8, rfl⟩ := own_shape hown'
            have D8 := DD.out.push (q := (qn, qd)) hgrow hown'
            have g8 := grown_belowR szb OWN.out hgrow
            have o8 := (DD.out.O.keepB g8 (by omega)).k0
            have f8 := (DD.out.O.keepB g8 (by omega)).l0
            have D8 := Lib.hid D8
            clear hown' hgrow g8
            have wk : IntKind.i64.wrap ((k : Int) + 1) = (k : Int) + 1 := IntWalk.i64_in _ (by have := HLT.out; omega)
            go_wp2_with fail
            go_roundg (n - (k + 1))
            case measure => have := HK.out; have := HLT.out; omega
            case rel => exact ⟨k + 1, _, by push_cast; rfl, by have := HLT.out; omega, rfl, HC2.out, by rw [NX.out]; exact D8.out⟩
        · have hx1 : decide ((k : Int) < (ll : Int)) = false := decide_eq_false (by omega)
          have hx3 : ¬ (k : Int) < (ll : Int) := by omega
          have hx5 : decide (k < ll) = false := decide_eq_false (by omega)
          have hx6 : ll ≤ k := by omega
          have hx7 : decide (k < lm) = true := decide_eq_true (by have := HN.out.1; omega)
          have hx2 : decide ((k : Int) < (lm : Int)) = true := decide_eq_true (by have := HN.out.1; omega)
          have hx4 : (k : Int) < (lm : Int) := by have := HN.out.1; omega
          have atx := fun (w' : World) (hb : Below w.heap.size w w') => rat_any w' (.slice A ll c) l xn xd k (TS.out.1.below hb)
          have aty := fun (w' : World) (hb : Below w.heap.size w w') => rat_any w' (.slice B lm d) m yn yd k (TS.out.2.below hb)
          have hw := fun (w' : World) => HOW.out w' k
          rw [he0] at hw
          have ATX := Lib.hid atx; have ATY := Lib.hid aty; have HW := Lib.hid hw
          have HLT := Lib.hid hlt
          have HK := Lib.hid hg
          have HC2 : Hid (combOk addH l m (k + 1)) := fun i hi => by
            rcases Nat.lt_or_ge i k with g | g
            · exact hck i g
            · obtain rfl : i = k := by omega
              exact he0
          have NX := Lib.hid (doneK_next addH l m k)
          have DD := Lib.hid D
          have m1 := D.G.k1; have m2 := D.G.k2
          clear atx aty hw D hck he0 hg hkn hk hlt
          generalize (addH (atL l k) (atL m k)).1 = q at *
          obtain ⟨qn, qd⟩ := q
          generalize atL l k = x at *
          generalize atL m k = y at *
          obtain ⟨x1, x2⟩ := x
          obtain ⟨y1, y2⟩ := y
          dsimp only at *
          go_upto_region 13 with (go_at_call 20; (with_reducible refine (ATY.out _ DD.out.below).mono ?_); rintro e w5 ⟨rfl, hb⟩; have DD := Lib.hid (DD.out.keep hb); clear hb)
          go_cut [13, 14] from 39 to 78 (fun v13 v14 wx => DoMidT w b k (.slice A ll c) xn xd (.slice B lm d) yn yd zn zd v (doneK addH l m k) qn qd 0 v13 v14 wx)
          case first =>
            have HS := hold_dos (below_drew _) ((DD.out.keep (below_alloc1 w5 (.cells #[.int .i64 y1, .int .i64 y2] 24))).cells (RatAt.start w5 y1 y2 24))
            generalize w5.heap.size = cy at *
            generalize w5.alloc (.cells #[.int .i64 y1, .int .i64 y2] 24) = wq at *
            clear DD m1 m2 k0 m0
            refine wp_region_noPanic ?_
            refine wp_region_held_drew (S := (fun w' => ((w'.cell? ⟨w.heap.size, 0, none⟩ = some (.slice A ll c) ∧ w'.cell? ⟨w.heap.size, 1, none⟩ = some (.int .i64 xn) ∧ w'.cell? ⟨w.heap.size, 2, none⟩ = some (.int .i64 xd)) ∧ (w'.cell? ⟨cy, 0, none⟩ = some (.int .i64 y1) ∧ w'.cell? ⟨cy, 1, none⟩ = some (.int .i64 y2)) ∧ RatAt w' cy y1 y2) ∧ DoS w w' b k (.slice A ll c) xn xd (.slice B lm d) yn yd zn zd v (doneK addH l m k))) (by kernel_rfl) HS (fun hHeld => ?_)
            clear HS
            refine wpAnyH_take (i := 0) (oi := _) (v := ?_) rfl (by kernel_rfl) (by kernel_rfl) (by kernel_rfl) (fun _ _ _ h => h) (Or.inl ⟨by rfl, ?_⟩) (by assumption) ?_
            rotate_left
            · intro ww hSw
              (try dsimp only at hSw)
              go_simp <;> with_reducible rfl
            (try simp only [List.getElem_toArray, List.getElem_cons_zero, Act.put, List.setIfInBounds_toArray, List.set_cons_zero, List.set_cons_succ])
            refine wpAnyH_take (i := 1) (oi := _) (v := ?_) rfl (by kernel_rfl) (by kernel_rfl) (by kernel_rfl) (fun _ _ _ h => h) (Or.inl ⟨by rfl, ?_⟩) (by assumption) ?_
            rotate_left
            · intro ww hSw
              (try dsimp only at hSw)
              go_simp <;> with_reducible rfl
            (try simp only [List.getElem_toArray, List.getElem_cons_succ, List.getElem_cons_zero, Act.put, List.setIfInBounds_toArray, List.set_cons_zero, List.set_cons_succ])
            refine wpAnyH_take (i := 2) (oi := _) (v := ?_) rfl (by kernel_rfl) (by kernel_rfl) (by kernel_rfl) (fun _ _ _ h => h) (Or.inl ⟨by rfl, ?_⟩) (by assumption) ?_
            rotate_left
            · intro ww hSw
              (try dsimp only at hSw)
              go_simp <;> with_reducible rfl
            (try simp only [List.getElem_toArray, List.getElem_cons_succ, List.getElem_cons_zero, Act.put, List.setIfInBounds_toArray, List.set_cons_zero, List.set_cons_succ])
            refine wpAnyH_take (i := 4) (oi := _) (v := ?_) rfl (by kernel_rfl) (by kernel_rfl) (by kernel_rfl) (fun _ _ _ h => h) (Or.inl ⟨by rfl, ?_⟩) (by assumption) ?_
            rotate_left
            · intro ww hSw
              (try dsimp only at hSw)
              go_simp <;> with_reducible rfl
            (try simp only [List.getElem_toArray, List.getElem_cons_succ, List.getElem_cons_zero, Act.put, List.setIfInBounds_toArray, List.set_cons_zero, List.set_cons_succ])
            refine wpAnyH_ready (rs := [3, 9]) (by kernel_rfl) (by simp) ?_
            refine AllReadyH.cons (o := _) rfl (fun K hK => ?_) ?_
            · go_simp
              (first
                | (go_at_call 20; (with_reducible refine (ATX.out _ (dos_of (by with_reducible assumption)).below).mono ?_); rintro e w6 ⟨rfl, hb⟩; (try (have HC := Lib.hid (HC.out.keep hb))))
                | (go_at_call 23; (with_reducible refine (HW.out _).mono ?_); rintro e w7 ⟨rfl, hb⟩; (try (have HC := Lib.hid (HC.out.keep hb)))))
              go_wp2_with fail
              refine hK.out _ _ (hold_dos (by with_reducible assumption) (by with_reducible assumption)) (fun hH2 => ?_)
              clear hK K hHeld hb
              have hHeld := hH2
              clear hH2
              (try simp only [List.getElem_toArray, List.getElem_cons_succ, List.getElem_cons_zero, Act.put, List.setIfInBounds_toArray, List.set_cons_zero, List.set_cons_succ])
              refine wpAnyH_ready (rs := [5, 9]) (by kernel_rfl) (by simp) ?_
              refine AllReadyH.cons (o := _) rfl (fun K hK => ?_) ?_
              · go_simp
                (first
                  | (go_at_call 20; (with_reducible refine (ATX.out _ (dos_of (by with_reducible assumption)).below).mono ?_); rintro e w6 ⟨rfl, hb⟩; (try (have HC := Lib.hid (HC.out.keep hb))))
                  | (go_at_call 23; (with_reducible refine (HW.out _).mono ?_); rintro e w7 ⟨rfl, hb⟩; (try (have HC := Lib.hid (HC.out.keep hb)))))
                go_wp2_with fail
                refine hK.out _ _ (hold_dos (by with_reducible assumption) (by with_reducible assumption)) (fun hH2 => ?_)
                clear hK K hHeld hb
                have hHeld := hH2
                clear hH2
                (try simp only [List.getElem_toArray, List.getElem_cons_succ, List.getElem_cons_zero, Act.put, List.setIfInBounds_toArray, List.set_cons_zero, List.set_cons_succ])
                refine wpAnyH_take (i := 6) (oi := _) (v := ?_) rfl (by kernel_rfl) (by kernel_rfl) (by kernel_rfl) (fun _ _ _ h => h) (Or.inl ⟨by rfl, ?_⟩) (by assumption) ?_
                rotate_left
                · intro ww hSw
                  (try dsimp only at hSw)
                  go_simp <;> with_reducible rfl
                (try simp only [List.getElem_toArray, List.getElem_cons_succ, List.getElem_cons_zero, Act.put, List.setIfInBounds_toArray, List.set_cons_zero, List.set_cons_succ])
                refine wpAnyH_take (i := 7) (oi := _) (v := ?_) rfl (by kernel_rfl) (by kernel_rfl) (by kernel_rfl) (fun _ _ _ h => h) (Or.inl ⟨by rfl, ?_⟩) (by assumption) ?_
                rotate_left
                · intro ww hSw
                  (try dsimp only at hSw)
                  go_simp <;> with_reducible rfl
                (try simp only [List.getElem_toArray, List.getElem_cons_succ, List.getElem_cons_zero, Act.put, List.setIfInBounds_toArray, List.set_cons_zero, List.set_cons_succ])
                refine wpAnyH_take (i := 8) (oi := _) (v := ?_) rfl (by kernel_rfl) (by kernel_rfl) (by kernel_rfl) (fun _ _ _ h => h) (Or.inl ⟨by rfl, ?_⟩) (by assumption) ?_
                rotate_left
                · intro ww hSw
                  (try dsimp only at hSw)
                  go_simp <;> with_reducible rfl
                (try simp only [List.getElem_toArray, List.getElem_cons_succ, List.getElem_cons_zero, Act.put, List.setIfInBounds_toArray, List.set_cons_zero, List.set_cons_succ])
                refine wpAnyH_ready (rs := [9]) (by kernel_rfl) (by simp) ?_
                refine AllReadyH.cons (o := _) rfl (fun K hK => ?_) AllReadyH.nil
                go_simp
                refine hK.out _ _ (hold_dos (below_alloc1 _ _) (by with_reducible assumption)) (fun hH2 => ?_)
                clear hK K
                (first | have HC := Lib.hid (hole_of hH2) | have HC := Lib.hid (hole_of2 hH2))
                have hHeld0 := Lib.hid hHeld
                clear hHeld
                have hHeld := hH2
                clear hH2
                (try simp only [List.getElem_toArray, List.getElem_cons_succ, List.getElem_cons_zero, Act.put, List.setIfInBounds_toArray, List.set_cons_zero, List.set_cons_succ])
                refine wpAnyH_ready (rs := [10]) (by kernel_rfl) (by simp) ?_
                refine AllReadyH.cons (o := _) rfl (fun K hK => ?_) AllReadyH.nil
                obtain ⟨h6, h0, h1, h2, h3, h4, h5⟩ := HC.out
                clear h6
                go_simp
                clear h0 h1 h2 h3 h4 h5
                (first
                  | refine hK.out _ _ (hold_dos (below_alloc1 _ _) hHeld0.out) (fun hH2 => ?_)
                  | refine hK.out _ _ (hold_dos (HC.out.fill _ _).1 hHeld0.out) (fun hH2 => ?_))
                clear hK K hHeld
                have hHeld := hH2
                clear hH2
                (try simp only [List.getElem_toArray, List.getElem_cons_succ, List.getElem_cons_zero, Act.put, List.setIfInBounds_toArray, List.set_cons_zero, List.set_cons_succ])
                refine wpAnyH_take (i := 11) (oi := _) (v := ?_) rfl (by kernel_rfl) (by kernel_rfl) (by kernel_rfl) (fun _ _ _ h => h) (Or.inl ⟨by rfl, ?_⟩) (by assumption) ?_
                rotate_left
                · intro ww hSw
                  (try dsimp only at hSw)
                  go_simp <;> with_reducible rfl
                (try simp only [List.getElem_toArray, List.getElem_cons_succ, List.getElem_cons_zero, Act.put, List.setIfInBounds_toArray, List.set_cons_zero, List.set_cons_succ])
                refine wpAnyH_done (by kernel_rfl) ?_ _
                refine NoPanic.normal ?_
                go_wp2_with fail
                go_meet
                case rel => first | exact mid_alloc (dos_of hHeld0.out) 24 | exact mid_fill (dos_of hHeld0.out) HC.out
              refine AllReadyH.cons (o := _) rfl (fun K hK => ?_) AllReadyH.nil
              go_simp
              refine hK.out _ _ (hold_dos (below_alloc1 _ _) (by with_reducible assumption)) (fun hH2 => ?_)
              clear hK K
              (first | have HC := Lib.hid (hole_of hH2) | have HC := Lib.hid (hole_of2 hH2))
              have hHeld0 := Lib.hid hHeld
              clear hHeld
              have hHeld := hH2
              clear hH2
              (try simp only [List.getElem_toArray, List.getElem_cons_succ, List.getElem_cons_zero, Act.put, List.setIfInBounds_toArray, List.set_cons_zero, List.set_cons_succ])
              refine wpAnyH_ready (rs := [5]) (by kernel_rfl) (by simp) ?_
              refine AllReadyH.cons (o := _) rfl (fun K hK => ?_) AllReadyH.nil
              go_simp
              (first
                | (go_at_call 20; (with_reducible refine (ATX.out _ (dos_of (by with_reducible assumption)).below).mono ?_); rintro e w6 ⟨rfl, hb⟩; (try (have HC := Lib.hid (HC.out.keep hb))))
                | (go_at_call 23; (with_reducible refine (HW.out _).mono ?_); rintro e w7 ⟨rfl, hb⟩; (try (have HC := Lib.hid (HC.out.keep hb)))))
              go_wp2_with fail
              refine hK.out _ _ (hold_dos (by with_reducible assumption) (by with_reducible assumption)) (fun hH2 => ?_)
              clear hK K hHeld hb
              have hHeld := hH2
              clear hH2
              (try simp only [List.getElem_toArray, List.getElem_cons_succ, List.getElem_cons_zero, Act.put, List.setIfInBounds_toArray, List.set_cons_zero, List.set_cons_succ])
              refine wpAnyH_take (i := 6) (oi := _) (v := ?_) rfl (by kernel_rfl) (by kernel_rfl) (by kernel_rfl) (fun _ _ _ h => h) (Or.inl ⟨by rfl, ?_⟩) (by assumption) ?_
              rotate_left
              · intro ww hSw
                (try dsimp only at hSw)
                go_simp <;> with_reducible rfl
              (try simp only [List.getElem_toArray, List.getElem_cons_succ, List.getElem_cons_zero, Act.put, List.setIfInBounds_toArray, List.set_cons_zero, List.set_cons_succ])
              refine wpAnyH_take (i := 7) (oi := _) (v := ?_) rfl (by kernel_rfl) (by kernel_rfl) (by kernel_rfl) (fun _ _ _ h => h) (Or.inl ⟨by rfl, ?_⟩) (by assumption) ?_
              rotate_left
              · intro ww hSw
                (try dsimp only at hSw)
                go_simp <;> with_reducible rfl
              (try simp only [List.getElem_toArray, List.getElem_cons_succ, List.getElem_cons_zero, Act.put, List.setIfInBounds_toArray, List.set_cons_zero, List.set_cons_succ])
              refine wpAnyH_take (i := 8) (oi := _) (v := ?_) rfl (by kernel_rfl) (by kernel_rfl) (by kernel_rfl) (fun _ _ _ h => h) (Or.inl ⟨by rfl, ?_⟩) (by assumption) ?_
              rotate_left
              · intro ww hSw
                (try dsimp only at hSw)
                go_simp <;> with_reducible rfl
              (try simp only [List.getElem_toArray, List.getElem_cons_succ, List.getElem_cons_zero, Act.put, List.setIfInBounds_toArray, List.set_cons_zero, List.set_cons_succ])
              refine wpAnyH_ready (rs := [10]) (by kernel_rfl) (by simp) ?_
              refine AllReadyH.cons (o := _) rfl (fun K hK => ?_) AllReadyH.nil
              obtain ⟨h6, h0, h1, h2, h3, h4, h5⟩ := HC.out
              clear h6
              go_simp
              clear h0 h1 h2 h3 h4 h5
              (first
                | refine hK.out _ _ (hold_dos (below_alloc1 _ _) hHeld0.out) (fun hH2 => ?_)
                | refine hK.out _ _ (hold_dos (HC.out.fill _ _).1 hHeld0.out) (fun hH2 => ?_))
              clear hK K hHeld
              have hHeld := hH2
              clear hH2
              (try simp only [List.getElem_toArray, List.getElem_cons_succ, List.getElem_cons_zero, Act.put, List.setIfInBounds_toArray, List.set_cons_zero, List.set_cons_succ])
              refine wpAnyH_take (i := 11) (oi := _) (v := ?_) rfl (by kernel_rfl) (by kernel_rfl) (by kernel_rfl) (fun _ _ _ h => h) (Or.inl ⟨by rfl, ?_⟩) (by assumption) ?_
              rotate_left
              · intro ww hSw
                (try dsimp only at hSw)
                go_simp <;> with_reducible rfl
              (try simp only [List.getElem_toArray, List.getElem_cons_succ, List.getElem_cons_zero, Act.put, List.setIfInBounds_toArray, List.set_cons_zero, List.set_cons_succ])
              refine wpAnyH_done (by kernel_rfl) ?_ _
              refine NoPanic.normal ?_
              go_wp2_with fail
              go_meet
              case rel => first | exact mid_alloc (dos_of hHeld0.out) 24 | exact mid_fill (dos_of hHeld0.out) HC.out
            refine AllReadyH.cons (o := _) rfl (fun K hK => ?_) AllReadyH.nil
            go_simp
            refine hK.out _ _ (hold_dos (below_alloc1 _ _) (by with_reducible assumption)) (fun hH2 => ?_)
            clear hK K
            (first | have HC := Lib.hid (hole_of hH2) | have HC := Lib.hid (hole_of2 hH2))
            have hHeld0 := Lib.hid hHeld
            clear hHeld
            have hHeld := hH2
            clear hH2
            (try simp only [List.getElem_toArray, List.getElem_cons_succ, List.getElem_cons_zero, Act.put, List.setIfInBounds_toArray, List.set_cons_zero, List.set_cons_succ])
            refine wpAnyH_ready (rs := [3]) (by kernel_rfl) (by simp) ?_
            refine AllReadyH.cons (o := _) rfl (fun K hK => ?_) AllReadyH.nil
            go_simp
            (first
              | (go_at_call 20; (with_reducible refine (ATX.out _ (dos_of (by with_reducible assumption)).below).mono ?_); rintro e w6 ⟨rfl, hb⟩; (try (have HC := Lib.hid (HC.out.keep hb))))
              | (go_at_call 23; (with_reducible refine (HW.out _).mono ?_); rintro e w7 ⟨rfl, hb⟩; (try (have HC := Lib.hid (HC.out.keep hb)))))
            go_wp2_with fail
            refine hK.out _ _ (hold_dos (by with_reducible assumption) (by with_reducible assumption)) (fun hH2 => ?_)
            clear hK K hHeld hb
            have hHeld := hH2
            clear hH2
            (try simp only [List.getElem_toArray, List.getElem_cons_succ, List.getElem_cons_zero, Act.put, List.setIfInBounds_toArray, List.set_cons_zero, List.set_cons_succ])
            refine wpAnyH_ready (rs := [5]) (by kernel_rfl) (by simp) ?_
            refine AllReadyH.cons (o := _) rfl (fun K hK => ?_) AllReadyH.nil
            go_simp
            (first
              | (go_at_call 20; (with_reducible refine (ATX.out _ (dos_of (by with_reducible assumption)).below).mono ?_); rintro e w6 ⟨rfl, hb⟩; (try (have HC := Lib.hid (HC.out.keep hb))))
              | (go_at_call 23; (with_reducible refine (HW.out _).mono ?_); rintro e w7 ⟨rfl, hb⟩; (try (have HC := Lib.hid (HC.out.keep hb)))))
            go_wp2_with fail
            refine hK.out _ _ (hold_dos (by with_reducible assumption) (by with_reducible assumption)) (fun hH2 => ?_)
            clear hK K hHeld hb
            have hHeld := hH2
            clear hH2
            (try simp only [List.getElem_toArray, List.getElem_cons_succ, List.getElem_cons_zero, Act.put, List.setIfInBounds_toArray, List.set_cons_zero, List.set_cons_succ])
            refine wpAnyH_take (i := 6) (oi := _) (v := ?_) rfl (by kernel_rfl) (by kernel_rfl) (by kernel_rfl) (fun _ _ _ h => h) (Or.inl ⟨by rfl, ?_⟩) (by assumption) ?_
            rotate_left
            · intro ww hSw
              (try dsimp only at hSw)
              go_simp <;> with_reducible rfl
            (try simp only [List.getElem_toArray, List.getElem_cons_succ, List.getElem_cons_zero, Act.put, List.setIfInBounds_toArray, List.set_cons_zero, List.set_cons_succ])
            refine wpAnyH_take (i := 7) (oi := _) (v := ?_) rfl (by kernel_rfl) (by kernel_rfl) (by kernel_rfl) (fun _ _ _ h => h) (Or.inl ⟨by rfl, ?_⟩) (by assumption) ?_
            rotate_left
            · intro ww hSw
              (try dsimp only at hSw)
              go_simp <;> with_reducible rfl
            (try simp only [List.getElem_toArray, List.getElem_cons_succ, List.getElem_cons_zero, Act.put, List.setIfInBounds_toArray, List.set_cons_zero, List.set_cons_succ])
            refine wpAnyH_take (i := 8) (oi := _) (v := ?_) rfl (by kernel_rfl) (by kernel_rfl) (by kernel_rfl) (fun _ _ _ h => h) (Or.inl ⟨by rfl, ?_⟩) (by assumption) ?_
            rotate_left
            · intro ww hSw
              (try dsimp only at hSw)
              go_simp <;> with_reducible rfl
            (try simp only [List.getElem_toArray, List.getElem_cons_succ, List.getElem_cons_zero, Act.put, List.setIfInBounds_toArray, List.set_cons_zero, List.set_cons_succ])
            refine wpAnyH_ready (rs := [10]) (by kernel_rfl) (by simp) ?_
            refine AllReadyH.cons (o := _) rfl (fun K hK => ?_) AllReadyH.nil
            obtain ⟨h6, h0, h1, h2, h3, h4, h5⟩ := HC.out
            clear h6
            go_simp
            clear h0 h1 h2 h3 h4 h5
            (first
              | refine hK.out _ _ (hold_dos (below_alloc1 _ _) hHeld0.out) (fun hH2 => ?_)
              | refine hK.out _ _ (hold_dos (HC.out.fill _ _).1 hHeld0.out) (fun hH2 => ?_))
            clear hK K hHeld
            have hHeld := hH2
            clear hH2
            (try simp only [List.getElem_toArray, List.getElem_cons_succ, List.getElem_cons_zero, Act.put, List.setIfInBounds_toArray, List.set_cons_zero, List.set_cons_succ])
            refine wpAnyH_take (i := 11) (oi := _) (v := ?_) rfl (by kernel_rfl) (by kernel_rfl) (by kernel_rfl) (fun _ _ _ h => h) (Or.inl ⟨by rfl, ?_⟩) (by assumption) ?_
            rotate_left
            · intro ww hSw
              (try dsimp only at hSw)
              go_simp <;> with_reducible rfl
            (try simp only [List.getElem_toArray, List.getElem_cons_succ, List.getElem_cons_zero, Act.put, List.setIfInBounds_toArray, List.set_cons_zero, List.set_cons_succ])
            refine wpAnyH_done (by kernel_rfl) ?_ _
            refine NoPanic.normal ?_
            go_wp2_with fail
            go_meet
            case rel => first | exact mid_alloc (dos_of hHeld0.out) 24 | exact mid_fill (dos_of hHeld0.out) HC.out
          case rest =>
            obtain ⟨cc, rfl, rfl, RC, D⟩ := hcut
            clear DD m1 m2 k0 m0
            have rc0 := RC.k0; have rc1 := RC.k1
            have o0 := D.O.k0
            have DD := Lib.hid D
            have hkl : k ≤ 8 := by have := HLT.out; omega
            have szb : b + 2 ≤ wc.heap.size := by have := D.O.lt; omega
            clear D
            have OWN := Lib.hid DD.out.o
            go_wp2_with (at_builtin; refine wpList_append_own _ rfl _ _ 22 rfl (b + 2) 24 i0 (.agg #[.int .i64 0, .int .i64 0]) 2 16 Tryd.underlying22 hi hz0 hz1 hz2 rfl (by decide) _ _ _ rfl (OWN.out.alloc _) ⟨wc.heap.size, 0, none⟩ 1 1 [.int .i64 qn, .int .i64 qd] rfl rfl ?c1 ?c2 ?c3 ?c4 ?c5 ?_)
            case c1 => exact one_pair _ _ _
            case c2 => intro u hu; simp at hu; rcases hu with rfl | rfl <;> rfl
            case c3 => unfold maxLen; omega
            case c4 => omega
            case c5 => simp; omega
            intro v' w8 hown' hgrow _
            obtain ⟨Av8, cv8, rfl⟩ := own_shape hown'
            have D8 := DD.out.push (q := (qn, qd)) hgrow hown'
            have g8 := grown_belowR szb OWN.out hgrow
            have o8 := (DD.out.O.keepB g8 (by omega)).k0
            have f8 := (DD.out.O.keepB g8 (by omega)).l0
            have D8 := Lib.hid D8
            clear hown' hgrow g8
            have wk : IntKind.i64.wrap ((k : Int) + 1) = (k : Int) + 1 := IntWalk.i64_in _ (by have := HLT.out; omega)
            go_wp2_with fail
            go_roundg (n - (k + 1))
            case measure => have := HK.out; have := HLT.out; omega
            case rel => exact ⟨k + 1, _, by push_cast; rfl, by have := HLT.out; omega, rfl, HC2.out, by rw [NX.out]; exact D8.out⟩
      · by_cases hkl0 : k < ll
        · have hx1 : decide ((k : Int) < (ll : Int)) = true := decide_eq_true (by omega)
          have hx3 : (k : Int) < (ll : Int) := by omega
          have hx5 : decide (k < ll) = true := decide_eq_true (by omega)
          have atx := fun (w' : World) (hb : Below w.heap.size w w') => rat_any w' (.slice A ll c) l xn xd k (TS.out.1.below hb)
          have aty := fun (w' : World) (hb : Below w.heap.size w w') => rat_any w' (.slice B lm d) m yn yd k (TS.out.2.below hb)
          have hw := fun (w' : World) => HOW.out w' k
          rw [HH.out k he0] at hw
          have ATX := Lib.hid atx; have ATY := Lib.hid aty; have HW := Lib.hid hw
          have HLT := Lib.hid hlt
          have HK := Lib.hid hg
          have DD := Lib.hid D
          have m1 := D.G.k1; have m2 := D.G.k2
          clear atx aty hw D hck he0 hg hkn hk hlt
          generalize atL l k = x at *
          generalize atL m k = y at *
          obtain ⟨x1, x2⟩ := x
          obtain ⟨y1, y2⟩ := y
          dsimp only at *
          go_upto_region 13 with (go_at_call 20; (with_reducible refine (ATY.out _ DD.out.below).mono ?_); rintro e w5 ⟨rfl, hb⟩; have DD := Lib.hid (DD.out.keep hb); clear hb)
          go_cut [13, 14] from 39 to 78 (fun v13 v14 wx => DoMidT w b k (.slice A ll c) xn xd (.slice B lm d) yn yd zn zd v (doneK addH l m k) 0 0 3 v13 v14 wx)
          case first =>
            have HS := hold_dos (below_drew _) ((DD.out.keep (below_alloc1 w5 (.cells #[.int .i64 y1, .int .i64 y2] 24))).cells (RatAt.start w5 y1 y2 24))
            generalize w5.heap.size = cy at *
            generalize w5.alloc (.cells #[.int .i64 y1, .int .i64 y2] 24) = wq at *
            clear DD m1 m2 k0 m0
            refine wp_region_noPanic ?_
            refine wp_region_held_drew (S := (fun w' => ((w'.cell? ⟨w.heap.size, 0, none⟩ = some (.slice A ll c) ∧ w'.cell? ⟨w.heap.size, 1, none⟩ = some (.int .i64 xn) ∧ w'.cell? ⟨w.heap.size, 2, none⟩ = some (.int .i64 xd)) ∧ (w'.cell? ⟨cy, 0, none⟩ = some (.int .i64 y1) ∧ w'.cell? ⟨cy, 1, none⟩ = some (.int .i64 y2)) ∧ RatAt w' cy y1 y2) ∧ DoS w w' b k (.slice A ll c) xn xd (.slice B lm d) yn yd zn zd v (doneK addH l m k))) (by kernel_rfl) HS (fun hHeld => ?_)
            clear HS
            refine wpAnyH_take (i := 0) (oi := _) (v := ?_) rfl (by kernel_rfl) (by kernel_rfl) (by kernel_rfl) (fun _ _ _ h => h) (Or.inl ⟨by rfl, ?_⟩) (by assumption) ?_
            rotate_left
            · intro ww hSw
              (try dsimp only at hSw)
              go_simp <;> with_reducible rfl
            (try simp only [List.getElem_toArray, List.getElem_cons_zero, Act.put, List.setIfInBounds_toArray, List.set_cons_zero, List.set_cons_succ])
            refine wpAnyH_take (i := 1) (oi := _) (v := ?_) rfl (by kernel_rfl) (by kernel_rfl) (by kernel_rfl) (fun _ _ _ h => h) (Or.inl ⟨by rfl, ?_⟩) (by assumption) ?_
            rotate_left
            · intro ww hSw
              (try dsimp only at hSw)
              go_simp <;> with_reducible rfl
            (try simp only [List.getElem_toArray, List.getElem_cons_succ, List.getElem_cons_zero, Act.put, List.setIfInBounds_toArray, List.set_cons_zero, List.set_cons_succ])
            refine wpAnyH_take (i := 2) (oi := _) (v := ?_) rfl (by kernel_rfl) (by kernel_rfl) (by kernel_rfl) (fun _ _ _ h => h) (Or.inl ⟨by rfl, ?_⟩) (by assumption) ?_
            rotate_left
            · intro ww hSw
              (try dsimp only at hSw)
              go_simp <;> with_reducible rfl
            (try simp only [List.getElem_toArray, List.getElem_cons_succ, List.getElem_cons_zero, Act.put, List.setIfInBounds_toArray, List.set_cons_zero, List.set_cons_succ])
            refine wpAnyH_take (i := 4) (oi := _) (v := ?_) rfl (by kernel_rfl) (by kernel_rfl) (by kernel_rfl) (fun _ _ _ h => h) (Or.inl ⟨by rfl, ?_⟩) (by assumption) ?_
            rotate_left
            · intro ww hSw
              (try dsimp only at hSw)
              go_simp <;> with_reducible rfl
            (try simp only [List.getElem_toArray, List.getElem_cons_succ, List.getElem_cons_zero, Act.put, List.setIfInBounds_toArray, List.set_cons_zero, List.set_cons_succ])
            refine wpAnyH_ready (rs := [3, 9]) (by kernel_rfl) (by simp) ?_
            refine AllReadyH.cons (o := _) rfl (fun K hK => ?_) ?_
            · go_simp
              (first
                | (go_at_call 20; (with_reducible refine (ATX.out _ (dos_of (by with_reducible assumption)).below).mono ?_); rintro e w6 ⟨rfl, hb⟩; (try (have HC := Lib.hid (HC.out.keep hb))))
                | (go_at_call 23; (with_reducible refine (HW.out _).mono ?_); rintro e w7 ⟨rfl, hb⟩; (try (have HC := Lib.hid (HC.out.keep hb)))))
              go_wp2_with fail
              refine hK.out _ _ (hold_dos (by with_reducible assumption) (by with_reducible assumption)) (fun hH2 => ?_)
              clear hK K hHeld hb
              have hHeld := hH2
              clear hH2
              (try simp only [List.getElem_toArray, List.getElem_cons_succ, List.getElem_cons_zero, Act.put, List.setIfInBounds_toArray, List.set_cons_zero, List.set_cons_succ])
              refine wpAnyH_ready (rs := [5, 9]) (by kernel_rfl) (by simp) ?_
              refine AllReadyH.cons (o := _) rfl (fun K hK => ?_) ?_
              · go_simp
                (first
                  | (go_at_call 20; (with_reducible refine (ATX.out _ (dos_of (by with_reducible assumption)).below).mono ?_); rintro e w6 ⟨rfl, hb⟩; (try (have HC := Lib.hid (HC.out.keep hb))))
                  | (go_at_call 23; (with_reducible refine (HW.out _).mono ?_); rintro e w7 ⟨rfl, hb⟩; (try (have HC := Lib.hid (HC.out.keep hb)))))
                go_wp2_with fail
                refine hK.out _ _ (hold_dos (by with_reducible assumption) (by with_reducible assumption)) (fun hH2 => ?_)
                clear hK K hHeld hb
                have hHeld := hH2
                clear hH2
                (try simp only [List.getElem_toArray, List.getElem_cons_succ, List.getElem_cons_zero, Act.put, List.setIfInBounds_toArray, List.set_cons_zero, List.set_cons_succ])
                refine wpAnyH_take (i := 6) (oi := _) (v := ?_) rfl (by kernel_rfl) (by kernel_rfl) (by kernel_rfl) (fun _ _ _ h => h) (Or.inl ⟨by rfl, ?_⟩) (by assumption) ?_
                rotate_left
                · intro ww hSw
                  (try dsimp only at hSw)
                  go_simp <;> with_reducible rfl
                (try simp only [List.getElem_toArray, List.getElem_cons_succ, List.getElem_cons_zero, Act.put, List.setIfInBounds_toArray, List.set_cons_zero, List.set_cons_succ])
                refine wpAnyH_take (i := 7) (oi := _) (v := ?_) rfl (by kernel_rfl) (by kernel_rfl) (by kernel_rfl) (fun _ _ _ h => h) (Or.inl ⟨by rfl, ?_⟩) (by assumption) ?_
                rotate_left
                · intro ww hSw
                  (try dsimp only at hSw)
                  go_simp <;> with_reducible rfl
                (try simp only [List.getElem_toArray, List.getElem_cons_succ, List.getElem_cons_zero, Act.put, List.setIfInBounds_toArray, List.set_cons_zero, List.set_cons_succ])
                refine wpAnyH_take (i := 8) (oi := _) (v := ?_) rfl (by kernel_rfl) (by kernel_rfl) (by kernel_rfl) (fun _ _ _ h => h) (Or.inl ⟨by rfl, ?_⟩) (by assumption) ?_
                rotate_left
                · intro ww hSw
                  (try dsimp only at hSw)
                  go_simp <;> with_reducible rfl
                (try simp only [List.getElem_toArray, List.getElem_cons_succ, List.getElem_cons_zero, Act.put, List.setIfInBounds_toArray, List.set_cons_zero, List.set_cons_succ])
                refine wpAnyH_ready (rs := [9]) (by kernel_rfl) (by simp) ?_
                refine AllReadyH.cons (o := _) rfl (fun K hK => ?_) AllReadyH.nil
                go_simp
                refine hK.out _ _ (hold_dos (below_alloc1 _ _) (by with_reducible assumption)) (fun hH2 => ?_)
                clear hK K
                (first | have HC := Lib.hid (hole_of hH2) | have HC := Lib.hid (hole_of2 hH2))
                have hHeld0 := Lib.hid hHeld
                clear hHeld
                have hHeld := hH2
                clear hH2
                (try simp only [List.getElem_toArray, List.getElem_cons_succ, List.getElem_cons_zero, Act.put, List.setIfInBounds_toArray, List.set_cons_zero, List.set_cons_succ])
                refine wpAnyH_ready (rs := [10]) (by kernel_rfl) (by simp) ?_
                refine AllReadyH.cons (o := _) rfl (fun K hK => ?_) AllReadyH.nil
                obtain ⟨h6, h0, h1, h2, h3, h4, h5⟩ := HC.out
                clear h6
                go_simp
                clear h0 h1 h2 h3 h4 h5
                (first
                  | refine hK.out _ _ (hold_dos (below_alloc1 _ _) hHeld0.out) (fun hH2 => ?_)
                  | refine hK.out _ _ (hold_dos (HC.out.fill _ _).1 hHeld0.out) (fun hH2 => ?_))
                clear hK K hHeld
                have hHeld := hH2
                clear hH2
                (try simp only [List.getElem_toArray, List.getElem_cons_succ, List.getElem_cons_zero, Act.put, List.setIfInBounds_toArray, List.set_cons_zero, List.set_cons_succ])
                refine wpAnyH_take (i := 11) (oi := _) (v := ?_) rfl (by kernel_rfl) (by kernel_rfl) (by kernel_rfl) (fun _ _ _ h => h) (Or.inl ⟨by rfl, ?_⟩) (by assumption) ?_
                rotate_left
                · intro ww hSw
                  (try dsimp only at hSw)
                  go_simp <;> with_reducible rfl
                (try simp only [List.getElem_toArray, List.getElem_cons_succ, List.getElem_cons_zero, Act.put, List.setIfInBounds_toArray, List.set_cons_zero, List.set_cons_succ])
                refine wpAnyH_done (by kernel_rfl) ?_ _
                refine NoPanic.normal ?_
                go_wp2_with fail
                go_meet
                case rel => first | exact mid_alloc (dos_of hHeld0.out) 24 | exact mid_fill (dos_of hHeld0.out) HC.out
              refine AllReadyH.cons (o := _) rfl (fun K hK => ?_) AllReadyH.nil
              go_simp
              refine hK.out _ _ (hold_dos (below_alloc1 _ _) (by with_reducible assumption)) (fun hH2 => ?_)
              clear hK K
              (first | have HC := Lib.hid (hole_of hH2) | have HC := Lib.hid (hole_of2 hH2))
              have hHeld0 := Lib.hid hHeld
              clear hHeld
              have hHeld := hH2
              clear hH2
              (try simp only [List.getElem_toArray, List.getElem_cons_succ, List.getElem_cons_zero, Act.put, List.setIfInBounds_toArray, List.set_cons_zero, List.set_cons_succ])
              refine wpAnyH_ready (rs := [5]) (by kernel_rfl) (by simp) ?_
              refine AllReadyH.cons (o := _) rfl (fun K hK => ?_) AllReadyH.nil
              go_simp
              (first
                | (go_at_call 20; (with_reducible refine (ATX.out _ (dos_of (by with_reducible assumption)).below).mono ?_); rintro e w6 ⟨rfl, hb⟩; (try (have HC := Lib.hid (HC.out.keep hb))))
                | (go_at_call 23; (with_reducible refine (HW.out _).mono ?_); rintro e w7 ⟨rfl, hb⟩; (try (have HC := Lib.hid (HC.out.keep hb)))))
              go_wp2_with fail
              refine hK.out _ _ (hold_dos (by with_reducible assumption) (by with_reducible assumption)) (fun hH2 => ?_)
              clear hK K hHeld hb
              have hHeld := hH2
              clear hH2
              (try simp only [List.getElem_toArray, List.getElem_cons_succ, List.getElem_cons_zero, Act.put, List.setIfInBounds_toArray, List.set_cons_zero, List.set_cons_succ])
              refine wpAnyH_take (i := 6) (oi := _) (v := ?_) rfl (by kernel_rfl) (by kernel_rfl) (by kernel_rfl) (fun _ _ _ h => h) (Or.inl ⟨by rfl, ?_⟩) (by assumption) ?_
              rotate_left
              · intro ww hSw
                (try dsimp only at hSw)
                go_simp <;> with_reducible rfl
              (try simp only [List.getElem_toArray, List.getElem_cons_succ, List.getElem_cons_zero, Act.put, List.setIfInBounds_toArray, List.set_cons_zero, List.set_cons_succ])
              refine wpAnyH_take (i := 7) (oi := _) (v := ?_) rfl (by kernel_rfl) (by kernel_rfl) (by kernel_rfl) (fun _ _ _ h => h) (Or.inl ⟨by rfl, ?_⟩) (by assumption) ?_
              rotate_left
              · intro ww hSw
                (try dsimp only at hSw)
                go_simp <;> with_reducible rfl
              (try simp only [List.getElem_toArray, List.getElem_cons_succ, List.getElem_cons_zero, Act.put, List.setIfInBounds_toArray, List.set_cons_zero, List.set_cons_succ])
              refine wpAnyH_take (i := 8) (oi := _) (v := ?_) rfl (by kernel_rfl) (by kernel_rfl) (by kernel_rfl) (fun _ _ _ h => h) (Or.inl ⟨by rfl, ?_⟩) (by assumption) ?_
              rotate_left
              · intro ww hSw
                (try dsimp only at hSw)
                go_simp <;> with_reducible rfl
              (try simp only [List.getElem_toArray, List.getElem_cons_succ, List.getElem_cons_zero, Act.put, List.setIfInBounds_toArray, List.set_cons_zero, List.set_cons_succ])
              refine wpAnyH_ready (rs := [10]) (by kernel_rfl) (by simp) ?_
              refine AllReadyH.cons (o := _) rfl (fun K hK => ?_) AllReadyH.nil
              obtain ⟨h6, h0, h1, h2, h3, h4, h5⟩ := HC.out
              clear h6
              go_simp
              clear h0 h1 h2 h3 h4 h5
              (first
                | refine hK.out _ _ (hold_dos (below_alloc1 _ _) hHeld0.out) (fun hH2 => ?_)
                | refine hK.out _ _ (hold_dos (HC.out.fill _ _).1 hHeld0.out) (fun hH2 => ?_))
              clear hK K hHeld
              have hHeld := hH2
              clear hH2
              (try simp only [List.getElem_toArray, List.getElem_cons_succ, List.getElem_cons_zero, Act.put, List.setIfInBounds_toArray, List.set_cons_zero, List.set_cons_succ])
              refine wpAnyH_take (i := 11) (oi := _) (v := ?_) rfl (by kernel_rfl) (by kernel_rfl) (by kernel_rfl) (fun _ _ _ h => h) (Or.inl ⟨by rfl, ?_⟩) (by assumption) ?_
              rotate_left
              · intro ww hSw
                (try dsimp only at hSw)
                go_simp <;> with_reducible rfl
              (try simp only [List.getElem_toArray, List.getElem_cons_succ, List.getElem_cons_zero, Act.put, List.setIfInBounds_toArray, List.set_cons_zero, List.set_cons_succ])
              refine wpAnyH_done (by kernel_rfl) ?_ _
              refine NoPanic.normal ?_
              go_wp2_with fail
              go_meet
              case rel => first | exact mid_alloc (dos_of hHeld0.out) 24 | exact mid_fill (dos_of hHeld0.out) HC.out
            refine AllReadyH.cons (o := _) rfl (fun K hK => ?_) AllReadyH.nil
            go_simp
            refine hK.out _ _ (hold_dos (below_alloc1 _ _) (by with_reducible assumption)) (fun hH2 => ?_)
            clear hK K
            (first | have HC := Lib.hid (hole_of hH2) | have HC := Lib.hid (hole_of2 hH2))
            have hHeld0 := Lib.hid hHeld
            clear hHeld
            have hHeld := hH2
            clear hH2
            (try simp only [List.getElem_toArray, List.getElem_cons_succ, List.getElem_cons_zero, Act.put, List.setIfInBounds_toArray, List.set_cons_zero, List.set_cons_succ])
            refine wpAnyH_ready (rs := [3]) (by kernel_rfl) (by simp) ?_
            refine AllReadyH.cons (o := _) rfl (fun K hK => ?_) AllReadyH.nil
            go_simp
            (first
              | (go_at_call 20; (with_reducible refine (ATX.out _ (dos_of (by with_reducible assumption)).below).mono ?_); rintro e w6 ⟨rfl, hb⟩; (try (have HC := Lib.hid (HC.out.keep hb))))
              | (go_at_call 23; (with_reducible refine (HW.out _).mono ?_); rintro e w7 ⟨rfl, hb⟩; (try (have HC := Lib.hid (HC.out.keep hb)))))
            go_wp2_with fail
            refine hK.out _ _ (hold_dos (by with_reducible assumption) (by with_reducible assumption)) (fun hH2 => ?_)
            clear hK K hHeld hb
            have hHeld := hH2
            clear hH2
            (try simp only [List.getElem_toArray, List.getElem_cons_succ, List.getElem_cons_zero, Act.put, List.setIfInBounds_toArray, List.set_cons_zero, List.set_cons_succ])
            refine wpAnyH_ready (rs := [5]) (by kernel_rfl) (by simp) ?_
            refine AllReadyH.cons (o := _) rfl (fun K hK => ?_) AllReadyH.nil
            go_simp
            (first
              | (go_at_call 20; (with_reducible refine (ATX.out _ (dos_of (by with_reducible assumption)).below).mono ?_); rintro e w6 ⟨rfl, hb⟩; (try (have HC := Lib.hid (HC.out.keep hb))))
              | (go_at_call 23; (with_reducible refine (HW.out _).mono ?_); rintro e w7 ⟨rfl, hb⟩; (try (have HC := Lib.hid (HC.out.keep hb)))))
            go_wp2_with fail
            refine hK.out _ _ (hold_dos (by with_reducible assumption) (by with_reducible assumption)) (fun hH2 => ?_)
            clear hK K hHeld hb
            have hHeld := hH2
            clear hH2
            (try simp only [List.getElem_toArray, List.getElem_cons_succ, List.getElem_cons_zero, Act.put, List.setIfInBounds_toArray, List.set_cons_zero, List.set_cons_succ])
            refine wpAnyH_take (i := 6) (oi := _) (v := ?_) rfl (by kernel_rfl) (by kernel_rfl) (by kernel_rfl) (fun _ _ _ h => h) (Or.inl ⟨by rfl, ?_⟩) (by assumption) ?_
            rotate_left
            · intro ww hSw
              (try dsimp only at hSw)
              go_simp <;> with_reducible rfl
            (try simp only [List.getElem_toArray, List.getElem_cons_succ, List.getElem_cons_zero, Act.put, List.setIfInBounds_toArray, List.set_cons_zero, List.set_cons_succ])
            refine wpAnyH_take (i := 7) (oi := _) (v := ?_) rfl (by kernel_rfl) (by kernel_rfl) (by kernel_rfl) (fun _ _ _ h => h) (Or.inl ⟨by rfl, ?_⟩) (by assumption) ?_
            rotate_left
            · intro ww hSw
              (try dsimp only at hSw)
              go_simp <;> with_reducible rfl
            (try simp only [List.getElem_toArray, List.getElem_cons_succ, List.getElem_cons_zero, Act.put, List.setIfInBounds_toArray, List.set_cons_zero, List.set_cons_succ])
            refine wpAnyH_take (i := 8) (oi := _) (v := ?_) rfl (by kernel_rfl) (by kernel_rfl) (by kernel_rfl) (fun _ _ _ h => h) (Or.inl ⟨by rfl, ?_⟩) (by assumption) ?_
            rotate_left
            · intro ww hSw
              (try dsimp only at hSw)
              go_simp <;> with_reducible rfl
            (try simp only [List.getElem_toArray, List.getElem_cons_succ, List.getElem_cons_zero, Act.put, List.setIfInBounds_toArray, List.set_cons_zero, List.set_cons_succ])
            refine wpAnyH_ready (rs := [10]) (by kernel_rfl) (by simp) ?_
            refine AllReadyH.cons (o := _) rfl (fun K hK => ?_) AllReadyH.nil
            obtain ⟨h6, h0, h1, h2, h3, h4, h5⟩ := HC.out
            clear h6
            go_simp
            clear h0 h1 h2 h3 h4 h5
            (first
              | refine hK.out _ _ (hold_dos (below_alloc1 _ _) hHeld0.out) (fun hH2 => ?_)
              | refine hK.out _ _ (hold_dos (HC.out.fill _ _).1 hHeld0.out) (fun hH2 => ?_))
            clear hK K hHeld
            have hHeld := hH2
            clear hH2
            (try simp only [List.getElem_toArray, List.getElem_cons_succ, List.getElem_cons_zero, Act.put, List.setIfInBounds_toArray, List.set_cons_zero, List.set_cons_succ])
            refine wpAnyH_take (i := 11) (oi := _) (v := ?_) rfl (by kernel_rfl) (by kernel_rfl) (by kernel_rfl) (fun _ _ _ h => h) (Or.inl ⟨by rfl, ?_⟩) (by assumption) ?_
            rotate_left
            · intro ww hSw
              (try dsimp only at hSw)
              go_simp <;> with_reducible rfl
            (try simp only [List.getElem_toArray, List.getElem_cons_succ, List.getElem_cons_zero, Act.put, List.setIfInBounds_toArray, List.set_cons_zero, List.set_cons_succ])
            refine wpAnyH_done (by kernel_rfl) ?_ _
            refine NoPanic.normal ?_
            go_wp2_with fail
            go_meet
            case rel => first | exact mid_alloc (dos_of hHeld0.out) 24 | exact mid_fill (dos_of hHeld0.out) HC.out
          case rest =>
            obtain ⟨cc, rfl, rfl, RC, H⟩ := hcut
            clear DD m1 m2 k0 m0 RC
            have k0 := H.E.k0; have k1 := H.E.k1; have k2 := H.E.k2; have l0 := H.E.l0; have l1 := H.E.l1; have l2 := H.E.l2
            have b1 := Lib.hid H.below
            clear H
            go_wp2_with fail
            obtain ⟨c0, c1, c2⟩ := set_three (x := .slice none 0 0) (y := .int .i64 0) (z := .int .i64 0) k0 k1 k2
            refine bodyPost_ret (v := .tuple #[.agg #[.slice none 0 0, .int .i64 0, .int .i64 0], .int .i64 3]) (by simp [results, Tryd.results12, go_sem, c0, c1, c2]) rfl ⟨_, rfl, RatsAt.nil _, ?_, Fresh.none_ _ _ _⟩
            exact ((b1.out.setCell (by show w.heap.size ≤ w.heap.size + 1 + 1; omega) _).setCell (by show w.heap.size ≤ w.heap.size + 1 + 1; omega) _).setCell (by show w.heap.size ≤ w.heap.size + 1 + 1; omega) _
        · have hx1 : decide ((k : Int) < (ll : Int)) = false := decide_eq_false (by omega)
          have hx3 : ¬ (k : Int) < (ll : Int) := by omega
          have hx5 : decide (k < ll) = false := decide_eq_false (by omega)
          have hx6 : ll ≤ k := by omega
          have hx7 : decide (k < lm) = true := decide_eq_true (by have := HN.out.1; omega)
          have hx2 : decide ((k : Int) < (lm : Int)) = true := decide_eq_true (by have := HN.out.1; omega)
          have hx4 : (k : Int) < (lm : Int) := by have := HN.out.1; omega
          have atx := fun (w' : World) (hb : Below w.heap.size w w') => rat_any w' (.slice A ll c) l xn xd k (TS.out.1.below hb)
          have aty := fun (w' : World) (hb : Below w.heap.size w w') => rat_any w' (.slice B lm d) m yn yd k (TS.out.2.below hb)
          have hw := fun (w' : World) => HOW.out w' k
          rw [HH.out k he0] at hw
          have ATX := Lib.hid atx; have ATY := Lib.hid aty; have HW := Lib.hid hw
          have HLT := Lib.hid hlt
          have HK := Lib.hid hg
          have DD := Lib.hid D
          have m1 := D.G.k1; have m2 := D.G.k2
          clear atx aty hw D hck he0 hg hkn hk hlt
          generalize atL l k = x at *
          generalize atL m k = y at *
          obtain ⟨x1, x2⟩ := x
          obtain ⟨y1, y2⟩ := y
          dsimp only at *
          go_upto_region 13 with (go_at_call 20; (with_reducible refine (ATY.out _ DD.out.below).mono ?_); rintro e w5 ⟨rfl, hb⟩; have DD := Lib.hid (DD.out.keep hb); clear hb)
          go_cut [13, 14] from 39 to 78 (fun v13 v14 wx => DoMidT w b k (.slice A ll c) xn xd (.slice B lm d) yn yd zn zd v (doneK addH l m k) 0 0 3 v13 v14 wx)
          case first =>
            have HS := hold_dos (below_drew _) ((DD.out.keep (below_alloc1 w5 (.cells #[.int .i64 y1, .int .i64 y2] 24))).cells (RatAt.start w5 y1 y2 24))
            generalize w5.heap.size = cy at *
            generalize w5.alloc (.cells #[.int .i64 y1, .int .i64 y2] 24) = wq at *
            clear DD m1 m2 k0 m0
            refine wp_region_noPanic ?_
            refine wp_region_held_drew (S := (fun w' => ((w'.cell? ⟨w.heap.size, 0, none⟩ = some (.slice A ll c) ∧ w'.cell? ⟨w.heap.size, 1, none⟩ = some (.int .i64 xn) ∧ w'.cell? ⟨w.heap.size, 2, none⟩ = some (.int .i64 xd)) ∧ (w'.cell? ⟨cy, 0, none⟩ = some (.int .i64 y1) ∧ w'.cell? ⟨cy, 1, none⟩ = some (.int .i64 y2)) ∧ RatAt w' cy y1 y2) ∧ DoS w w' b k (.slice A ll c) xn xd (.slice B lm d) yn yd zn zd v (doneK addH l m k))) (by kernel_rfl) HS (fun hHeld => ?_)
            clear HS
            refine wpAnyH_take (i := 0) (oi := _) (v := ?_) rfl (by kernel_rfl) (by kernel_rfl) (by kernel_rfl) (fun _ _ _ h => h) (Or.inl ⟨by rfl, ?_⟩) (by assumption) ?_
            rotate_left
            · intro ww hSw
              (try dsimp only at hSw)
              go_simp <;> with_reducible rfl
            (try simp only [List.getElem_toArray, List.getElem_cons_zero, Act.put, List.setIfInBounds_toArray, List.set_cons_zero, List.set_cons_succ])
            refine wpAnyH_take (i := 1) (oi := _) (v := ?_) rfl (by kernel_rfl) (by kernel_rfl) (by kernel_rfl) (fun _ _ _ h => h) (Or.inl ⟨by rfl, ?_⟩) (by assumption) ?_
            rotate_left
            · intro ww hSw
              (try dsimp only at hSw)
              go_simp <;> with_reducible rfl
            (try simp only [List.getElem_toArray, List.getElem_cons_succ, List.getElem_cons_zero, Act.put, List.setIfInBounds_toArray, List.set_cons_zero, List.set_cons_succ])
            refine wpAnyH_take (i := 2) (oi := _) (v := ?_) rfl (by kernel_rfl) (by kernel_rfl) (by kernel_rfl) (fun _ _ _ h => h) (Or.inl ⟨by rfl, ?_⟩) (by assumption) ?_
            rotate_left
            · intro ww hSw
              (try dsimp only at hSw)
              go_simp <;> with_reducible rfl
            (try simp only [List.getElem_toArray, List.getElem_cons_succ, List.getElem_cons_zero, Act.put, List.setIfInBounds_toArray, List.set_cons_zero, List.set_cons_succ])
            refine wpAnyH_take (i := 4) (oi := _) (v := ?_) rfl (by kernel_rfl) (by kernel_rfl) (by kernel_rfl) (fun _ _ _ h => h) (Or.inl ⟨by rfl, ?_⟩) (by assumption) ?_
            rotate_left
            · intro ww hSw
              (try dsimp only at hSw)
              go_simp <;> with_reducible rfl
            (try simp only [List.getElem_toArray, List.getElem_cons_succ, List.getElem_cons_zero, Act.put, List.setIfInBounds_toArray, List.set_cons_zero, List.set_cons_succ])
            refine wpAnyH_ready (rs := [3, 9]) (by kernel_rfl) (by simp) ?_
            refine AllReadyH.cons (o := _) rfl (fun K hK => ?_) ?_
            · go_simp
              (first
                | (go_at_call 20; (with_reducible refine (ATX.out _ (dos_of (by with_reducible assumption)).below).mono ?_); rintro e w6 ⟨rfl, hb⟩; (try (have HC := Lib.hid (HC.out.keep hb))))
                | (go_at_call 23; (with_reducible refine (HW.out _).mono ?_); rintro e w7 ⟨rfl, hb⟩; (try (have HC := Lib.hid (HC.out.keep hb)))))
              go_wp2_with fail
              refine hK.out _ _ (hold_dos (by with_reducible assumption) (by with_reducible assumption)) (fun hH2 => ?_)
              clear hK K hHeld hb
              have hHeld := hH2
              clear hH2
              (try simp only [List.getElem_toArray, List.getElem_cons_succ, List.getElem_cons_zero, Act.put, List.setIfInBounds_toArray, List.set_cons_zero, List.set_cons_succ])
              refine wpAnyH_ready (rs := [5, 9]) (by kernel_rfl) (by simp) ?_
              refine AllReadyH.cons (o := _) rfl (fun K hK => ?_) ?_
              · go_simp
                (first
                  | (go_at_call 20; (with_reducible refine (ATX.out _ (dos_of (by with_reducible assumption)).below).mono ?_); rintro e w6 ⟨rfl, hb⟩; (try (have HC := Lib.hid (HC.out.keep hb))))
                  | (go_at_call 23; (with_reducible refine (HW.out _).mono ?_); rintro e w7 ⟨rfl, hb⟩; (try (have HC := Lib.hid (HC.out.keep hb)))))
                go_wp2_with fail
                refine hK.out _ _ (hold_dos (by with_reducible assumption) (by with_reducible assumption)) (fun hH2 => ?_)
                clear hK K hHeld hb
                have hHeld := hH2
                clear hH2
                (try simp only [List.getElem_toArray, List.getElem_cons_succ, List.getElem_cons_zero, Act.put, List.setIfInBounds_toArray, List.set_cons_zero, List.set_cons_succ])
                refine wpAnyH_take (i := 6) (oi := _) (v := ?_) rfl (by kernel_rfl) (by kernel_rfl) (by kernel_rfl) (fun _ _ _ h => h) (Or.inl ⟨by rfl, ?_⟩) (by assumption) ?_
                rotate_left
                · intro ww hSw
                  (try dsimp only at hSw)
                  go_simp <;> with_reducible rfl
                (try simp only [List.getElem_toArray, List.getElem_cons_succ, List.getElem_cons_zero, Act.put, List.setIfInBounds_toArray, List.set_cons_zero, List.set_cons_succ])
                refine wpAnyH_take (i := 7) (oi := _) (v := ?_) rfl (by kernel_rfl) (by kernel_rfl) (by kernel_rfl) (fun _ _ _ h => h) (Or.inl ⟨by rfl, ?_⟩) (by assumption) ?_
                rotate_left
                · intro ww hSw
                  (try dsimp only at hSw)
                  go_simp <;> with_reducible rfl
                (try simp only [List.getElem_toArray, List.getElem_cons_succ, List.getElem_cons_zero, Act.put, List.setIfInBounds_toArray, List.set_cons_zero, List.set_cons_succ])
                refine wpAnyH_take (i := 8) (oi := _) (v := ?_) rfl (by kernel_rfl) (by kernel_rfl) (by kernel_rfl) (fun _ _ _ h => h) (Or.inl ⟨by rfl, ?_⟩) (by assumption) ?_
                rotate_left
                · intro ww hSw
                  (try dsimp only at hSw)
                  go_simp <;> with_reducible rfl
                (try simp only [List.getElem_toArray, List.getElem_cons_succ, List.getElem_cons_zero, Act.put, List.setIfInBounds_toArray, List.set_cons_zero, List.set_cons_succ])
                refine wpAnyH_ready (rs := [9]) (by kernel_rfl) (by simp) ?_
                refine AllReadyH.cons (o := _) rfl (fun K hK => ?_) AllReadyH.nil
                go_simp
                refine hK.out _ _ (hold_dos (below_alloc1 _ _) (by with_reducible assumption)) (fun hH2 => ?_)
                clear hK K
                (first | have HC := Lib.hid (hole_of hH2) | have HC := Lib.hid (hole_of2 hH2))
                have hHeld0 := Lib.hid hHeld
                clear hHeld
                have hHeld := hH2
                clear hH2
                (try simp only [List.getElem_toArray, List.getElem_cons_succ, List.getElem_cons_zero, Act.put, List.setIfInBounds_toArray, List.set_cons_zero, List.set_cons_succ])
                refine wpAnyH_ready (rs := [10]) (by kernel_rfl) (by simp) ?_
                refine AllReadyH.cons (o := _) rfl (fun K hK => ?_) AllReadyH.nil
                obtain ⟨h6, h0, h1, h2, h3, h4, h5⟩ := HC.out
                clear h6
                go_simp
                clear h0 h1 h2 h3 h4 h5
                (first
                  | refine hK.out _ _ (hold_dos (below_alloc1 _ _) hHeld0.out) (fun hH2 => ?_)
                  | refine hK.out _ _ (hold_dos (HC.out.fill _ _).1 hHeld0.out) (fun hH2 => ?_))
                clear hK K hHeld
                have hHeld := hH2
                clear hH2
                (try simp only [List.getElem_toArray, List.getElem_cons_succ, List.getElem_cons_zero, Act.put, List.setIfInBounds_toArray, List.set_cons_zero, List.set_cons_succ])
                refine wpAnyH_take (i := 11) (oi := _) (v := ?_) rfl (by kernel_rfl) (by kernel_rfl) (by kernel_rfl) (fun _ _ _ h => h) (Or.inl ⟨by rfl, ?_⟩) (by assumption) ?_
                rotate_left
                · intro ww hSw
                  (try dsimp only at hSw)
                  go_simp <;> with_reducible rfl
                (try simp only [List.getElem_toArray, List.getElem_cons_succ, List.getElem_cons_zero, Act.put, List.setIfInBounds_toArray, List.set_cons_zero, List.set_cons_succ])
                refine wpAnyH_done (by kernel_rfl) ?_ _
                refine NoPanic.normal ?_
                go_wp2_with fail
                go_meet
                case rel => first | exact mid_alloc (dos_of hHeld0.out) 24 | exact mid_fill (dos_of hHeld0.out) HC.out
              refine AllReadyH.cons (o := _) rfl (fun K hK => ?_) AllReadyH.nil
              go_simp
              refine hK.out _ _ (hold_dos (below_alloc1 _ _) (by with_reducible assumption)) (fun hH2 => ?_)
              clear hK K
              (first | have HC := Lib.hid (hole_of hH2) | have HC := Lib.hid (hole_of2 hH2))
              have hHeld0 := Lib.hid hHeld
              clear hHeld
              have hHeld := hH2
              clear hH2
              (try simp only [List.getElem_toArray, List.getElem_cons_succ, List.getElem_cons_zero, Act.put, List.setIfInBounds_toArray, List.set_cons_zero, List.set_cons_succ])
              refine wpAnyH_ready (rs := [5]) (by kernel_rfl) (by simp) ?_
              refine AllReadyH.cons (o := _) rfl (fun K hK => ?_) AllReadyH.nil
              go_simp
              (first
                | (go_at_call 20; (with_reducible refine (ATX.out _ (dos_of (by with_reducible assumption)).below).mono ?_); rintro e w6 ⟨rfl, hb⟩; (try (have HC := Lib.hid (HC.out.keep hb))))
                | (go_at_call 23; (with_reducible refine (HW.out _).mono ?_); rintro e w7 ⟨rfl, hb⟩; (try (have HC := Lib.hid (HC.out.keep hb)))))
              go_wp2_with fail
              refine hK.out _ _ (hold_dos (by with_reducible assumption) (by with_reducible assumption)) (fun hH2 => ?_)
              clear hK K hHeld hb
              have hHeld := hH2
              clear hH2
              (try simp only [List.getElem_toArray, List.getElem_cons_succ, List.getElem_cons_zero, Act.put, List.setIfInBounds_toArray, List.set_cons_zero, List.set_cons_succ])
              refine wpAnyH_take (i := 6) (oi := _) (v := ?_) rfl (by kernel_rfl) (by kernel_rfl) (by kernel_rfl) (fun _ _ _ h => h) (Or.inl ⟨by rfl, ?_⟩) (by assumption) ?_
              rotate_left
              · intro ww hSw
                (try dsimp only at hSw)
                go_simp <;> with_reducible rfl
              (try simp only [List.getElem_toArray, List.getElem_cons_succ, List.getElem_cons_zero, Act.put, List.setIfInBounds_toArray, List.set_cons_zero, List.set_cons_succ])
              refine wpAnyH_take (i := 7) (oi := _) (v := ?_) rfl (by kernel_rfl) (by kernel_rfl) (by kernel_rfl) (fun _ _ _ h => h) (Or.inl ⟨by rfl, ?_⟩) (by assumption) ?_
              rotate_left
              · intro ww hSw
                (try dsimp only at hSw)
                go_simp <;> with_reducible rfl
              (try simp only [List.getElem_toArray, List.getElem_cons_succ, List.getElem_cons_zero, Act.put, List.setIfInBounds_toArray, List.set_cons_zero, List.set_cons_succ])
              refine wpAnyH_take (i := 8) (oi := _) (v := ?_) rfl (by kernel_rfl) (by kernel_rfl) (by kernel_rfl) (fun _ _ _ h => h) (Or.inl ⟨by rfl, ?_⟩) (by assumption) ?_
              rotate_left
              · intro ww hSw
                (try dsimp only at hSw)
                go_simp <;> with_reducible rfl
              (try simp only [List.getElem_toArray, List.getElem_cons_succ, List.getElem_cons_zero, Act.put, List.setIfInBounds_toArray, List.set_cons_zero, List.set_cons_succ])
              refine wpAnyH_ready (rs := [10]) (by kernel_rfl) (by simp) ?_
              refine AllReadyH.cons (o := _) rfl (fun K hK => ?_) AllReadyH.nil
              obtain ⟨h6, h0, h1, h2, h3, h4, h5⟩ := HC.out
              clear h6
              go_simp
              clear h0 h1 h2 h3 h4 h5
              (first
                | refine hK.out _ _ (hold_dos (below_alloc1 _ _) hHeld0.out) (fun hH2 => ?_)
                | refine hK.out _ _ (hold_dos (HC.out.fill _ _).1 hHeld0.out) (fun hH2 => ?_))
              clear hK K hHeld
              have hHeld := hH2
              clear hH2
              (try simp only [List.getElem_toArray, List.getElem_cons_succ, List.getElem_cons_zero, Act.put, List.setIfInBounds_toArray, List.set_cons_zero, List.set_cons_succ])
              refine wpAnyH_take (i := 11) (oi := _) (v := ?_) rfl (by kernel_rfl) (by kernel_rfl) (by kernel_rfl) (fun _ _ _ h => h) (Or.inl ⟨by rfl, ?_⟩) (by assumption) ?_
              rotate_left
              · intro ww hSw
                (try dsimp only at hSw)
                go_simp <;> with_reducible rfl
              (try simp only [List.getElem_toArray, List.getElem_cons_succ, List.getElem_cons_zero, Act.put, List.setIfInBounds_toArray, List.set_cons_zero, List.set_cons_succ])
              refine wpAnyH_done (by kernel_rfl) ?_ _
              refine NoPanic.normal ?_
              go_wp2_with fail
              go_meet
              case rel => first | exact mid_alloc (dos_of hHeld0.out) 24 | exact mid_fill (dos_of hHeld0.out) HC.out
            refine AllReadyH.cons (o := _) rfl (fun K hK => ?_) AllReadyH.nil
            go_simp
            refine hK.out _ _ (hold_dos (below_alloc1 _ _) (by with_reducible assumption)) (fun hH2 => ?_)
            clear hK K
            (first | have HC := Lib.hid (hole_of hH2) | have HC := Lib.hid (hole_of2 hH2))
            have hHeld0 := Lib.hid hHeld
            clear hHeld
            have hHeld := hH2
            clear hH2
            (try simp only [List.getElem_toArray, List.getElem_cons_succ, List.getElem_cons_zero, Act.put, List.setIfInBounds_toArray, List.set_cons_zero, List.set_cons_succ])
            refine wpAnyH_ready (rs := [3]) (by kernel_rfl) (by simp) ?_
            refine AllReadyH.cons (o := _) rfl (fun K hK => ?_) AllReadyH.nil
            go_simp
            (first
              | (go_at_call 20; (with_reducible refine (ATX.out _ (dos_of (by with_reducible assumption)).below).mono ?_); rintro e w6 ⟨rfl, hb⟩; (try (have HC := Lib.hid (HC.out.keep hb))))
              | (go_at_call 23; (with_reducible refine (HW.out _).mono ?_); rintro e w7 ⟨rfl, hb⟩; (try (have HC := Lib.hid (HC.out.keep hb)))))
            go_wp2_with fail
            refine hK.out _ _ (hold_dos (by with_reducible assumption) (by with_reducible assumption)) (fun hH2 => ?_)
            clear hK K hHeld hb
            have hHeld := hH2
            clear hH2
            (try simp only [List.getElem_toArray, List.getElem_cons_succ, List.getElem_cons_zero, Act.put, List.setIfInBounds_toArray, List.set_cons_zero, List.set_cons_succ])
            refine wpAnyH_ready (rs := [5]) (by kernel_rfl) (by simp) ?_
            refine AllReadyH.cons (o := _) rfl (fun K hK => ?_) AllReadyH.nil
            go_simp
            (first
              | (go_at_call 20; (with_reducible refine (ATX.out _ (dos_of (by with_reducible assumption)).below).mono ?_); rintro e w6 ⟨rfl, hb⟩; (try (have HC := Lib.hid (HC.out.keep hb))))
              | (go_at_call 23; (with_reducible refine (HW.out _).mono ?_); rintro e w7 ⟨rfl, hb⟩; (try (have HC := Lib.hid (HC.out.keep hb)))))
            go_wp2_with fail
            refine hK.out _ _ (hold_dos (by with_reducible assumption) (by with_reducible assumption)) (fun hH2 => ?_)
            clear hK K hHeld hb
            have hHeld := hH2
            clear hH2
            (try simp only [List.getElem_toArray, List.getElem_cons_succ, List.getElem_cons_zero, Act.put, List.setIfInBounds_toArray, List.set_cons_zero, List.set_cons_succ])
            refine wpAnyH_take (i := 6) (oi := _) (v := ?_) rfl (by kernel_rfl) (by kernel_rfl) (by kernel_rfl) (fun _ _ _ h => h) (Or.inl ⟨by rfl, ?_⟩) (by assumption) ?_
            rotate_left
            · intro ww hSw
              (try dsimp only at hSw)
              go_simp <;> with_reducible rfl
            (try simp only [List.getElem_toArray, List.getElem_cons_succ, List.getElem_cons_zero, Act.put, List.setIfInBounds_toArray, List.set_cons_zero, List.set_cons_succ])
            refine wpAnyH_take (i := 7) (oi := _) (v := ?_) rfl (by kernel_rfl) (by kernel_rfl) (by kernel_rfl) (fun _ _ _ h => h) (Or.inl ⟨by rfl, ?_⟩) (by assumption) ?_
            rotate_left
            · intro ww hSw
              (try dsimp only at hSw)
              go_simp <;> with_reducible rfl
            (try simp only [List.getElem_toArray, List.getElem_cons_succ, List.getElem_cons_zero, Act.put, List.setIfInBounds_toArray, List.set_cons_zero, List.set_cons_succ])
            refine wpAnyH_take (i := 8) (oi := _) (v := ?_) rfl (by kernel_rfl) (by kernel_rfl) (by kernel_rfl) (fun _ _ _ h => h) (Or.inl ⟨by rfl, ?_⟩) (by assumption) ?_
            rotate_left
            · intro ww hSw
              (try dsimp only at hSw)
              go_simp <;> with_reducible rfl
            (try simp only [List.getElem_toArray, List.getElem_cons_succ, List.getElem_cons_zero, Act.put, List.setIfInBounds_toArray, List.set_cons_zero, List.set_cons_succ])
            refine wpAnyH_ready (rs := [10]) (by kernel_rfl) (by simp) ?_
            refine AllReadyH.cons (o := _) rfl (fun K hK => ?_) AllReadyH.nil
            obtain ⟨h6, h0, h1, h2, h3, h4, h5⟩ := HC.out
            clear h6
            go_simp
            clear h0 h1 h2 h3 h4 h5
            (first
              | refine hK.out _ _ (hold_dos (below_alloc1 _ _) hHeld0.out) (fun hH2 => ?_)
              | refine hK.out _ _ (hold_dos (HC.out.fill _ _).1 hHeld0.out) (fun hH2 => ?_))
            clear hK K hHeld
            have hHeld := hH2
            clear hH2
            (try simp only [List.getElem_toArray, List.getElem_cons_succ, List.getElem_cons_zero, Act.put, List.setIfInBounds_toArray, List.set_cons_zero, List.set_cons_succ])
            refine wpAnyH_take (i := 11) (oi := _) (v := ?_) rfl (by kernel_rfl) (by kernel_rfl) (by kernel_rfl) (fun _ _ _ h => h) (Or.inl ⟨by rfl, ?_⟩) (by assumption) ?_
            rotate_left
            · intro ww hSw
              (try dsimp only at hSw)
              go_simp <;> with_reducible rfl
            (try simp only [List.getElem_toArray, List.getElem_cons_succ, List.getElem_cons_zero, Act.put, List.setIfInBounds_toArray, List.set_cons_zero, List.set_cons_succ])
            refine wpAnyH_done (by kernel_rfl) ?_ _
            refine NoPanic.normal ?_
            go_wp2_with fail
            go_meet
            case rel => first | exact mid_alloc (dos_of hHeld0.out) 24 | exact mid_fill (dos_of hHeld0.out) HC.out
          case rest =>
            obtain ⟨cc, rfl, rfl, RC, H⟩ := hcut
            clear DD m1 m2 k0 m0 RC
            have k0 := H.E.k0; have k1 := H.E.k1; have k2 := H.E.k2; have l0 := H.E.l0; have l1 := H.E.l1; have l2 := H.E.l2
            have b1 := Lib.hid H.below
            clear H
            go_wp2_with fail
            obtain ⟨c0, c1, c2⟩ := set_three (x := .slice none 0 0) (y := .int .i64 0) (z := .int .i64 0) k0 k1 k2
            refine bodyPost_ret (v := .tuple #[.agg #[.slice none 0 0, .int .i64 0, .int .i64 0], .int .i64 3]) (by simp [results, Tryd.results12, go_sem, c0, c1, c2]) rfl ⟨_, rfl, RatsAt.nil _, ?_, Fresh.none_ _ _ _⟩
            exact ((b1.out.setCell (by show w.heap.size ≤ w.heap.size + 1 + 1; omega) _).setCell (by show w.heap.size ≤ w.heap.size + 1 + 1; omega) _).setCell (by show w.heap.size ≤ w.heap.size + 1 + 1; omega) _
end Go.Proofs.YtkgndeiddjkhmaaDoor

namespace Go.Proofs.YtkgndeiddjkhmaaDoor
open Go.RowKit

set_option maxRecDepth 4000 in
set_option maxHeartbeats 4000000 in
theorem rdo_times_ok (w : World) (va : Value) (l : List (Int × Int)) (kx kb : Int × Int) (ha : RatsAt w va l) (hl : AllOk l) (hx : OkR kx) (hy : OkR kb) (h8 : l.length ≤ 8)
    (hk : ((scaleH kb) kx (0, 1)).2 = 0) (hc : combOk (scaleH kb) l [] l.length) :
    Calls Tryd.prog 12 #[.int .i64 2, .agg #[va, .int .i64 kx.1, .int .i64 kx.2], .agg #[.slice none 0 0, .int .i64 kb.1, .int .i64 kb.2]] w (TermPut w (trimL (combL (scaleH kb) l [])) ((scaleH kb) kx (0, 1)).1 0) := by
  obtain ⟨i0, hi, hz0, hz1, hz2⟩ := info_parts infoR
  have hm : AllOk [] := fun x hx => by cases hx
  have hb : RatsAt w (.slice none 0 0) [] := RatsAt.nil w
  have ra := fun (w' : World) (h : Below w.heap.size w w') => r2right_any w' va l kx.1 kx.2 (ha.below h) hl.wide hx.wide.1.1 hx.wide.1.2 hx.wide.2.1 hx.wide.2.2
  rw [right_mk h8 hl hx] at ra
  have rb := fun (w' : World) (_ : Below w.heap.size w w') => r2right_any w' (.slice none 0 0) [] kb.1 kb.2 (RatsAt.nil w') hm.wide hy.wide.1.1 hy.wide.1.2 hy.wide.2.1 hy.wide.2.2
  rw [right_mk (by simp) hm hy] at rb
  have h1 : ∀ (w' : World), Calls Tryd.prog 23 #[.int .i64 2, ratV kx.1 kx.2, ratV kb.1 kb.2] w' fun r w2 => r = .returned (.tuple #[ratV (scaleH kb kx (0, 1)).1.1 (scaleH kb kx (0, 1)).1.2, .int .i64 (scaleH kb kx (0, 1)).2]) ∧ Below w'.heap.size w' w2 := fun w' => rdo_mul w' kx kb hx hy
  have HOW : ∀ (w' : World) (k : Nat), Calls Tryd.prog 23 #[.int .i64 2, ratV (atL l k).1 (atL l k).2, ratV kb.1 kb.2] w' fun r w2 => r = .returned (.tuple #[ratV (scaleH kb (atL l k) (atL [] k)).1.1 (scaleH kb (atL l k) (atL [] k)).1.2, .int .i64 (scaleH kb (atL l k) (atL [] k)).2]) ∧ Below w'.heap.size w' w2 := fun w' k => rdo_mul w' _ _ (hl.at k) hy
  have HOW := Lib.hid HOW
  rw [hk] at h1
  obtain ⟨A, c, rfl⟩ := rats_shape ha
  have HR := Lib.hid (show doneK (scaleH kb) l [] l.length = combL (scaleH kb) l [] by unfold combL doneK; rw [show max l.length ([] : List (Int × Int)).length = l.length by simp])
  have HN := Lib.hid (And.intro (rfl : l.length = l.length) hc)
  have hcl : AllOk (combL (scaleH kb) l []) := combL_ok (scaleH_ok hy) hl hm (by simpa using hc)
  have hkz : OkR ((scaleH kb) kx (0, 1)).1 := (scaleH_ok hy).ok _ _ hx okR_nought hk
  have h8c : (combL (scaleH kb) l []).length ≤ 8 := by rw [combL_len]; simp; omega
  have ow := fun (w' : World) (v : Value) (h : RatsAt w' v (combL (scaleH kb) l [])) => rown_right w' v (combL (scaleH kb) l []) ((scaleH kb) kx (0, 1)).1.1 ((scaleH kb) kx (0, 1)).1.2 h hcl.wide hkz.wide.1.1 hkz.wide.1.2 hkz.wide.2.1 hkz.wide.2.2 (right_mk h8c hcl hkz)
  have OW := Lib.hid ow
  have H1 := Lib.hid h1; have RA := Lib.hid ra; have RB := Lib.hid rb
  have TS := Lib.hid (And.intro ha hb)
  clear h1 ra rb ha hb hl hm hx hy hk hc hcl hkz h8c ow
  generalize l.length = ll at *
  generalize ((scaleH kb) kx (0, 1)).1 = z at *
  obtain ⟨zn, zd⟩ := z
  obtain ⟨xn, xd⟩ := kx
  generalize kb.1 = bn at *
  generalize kb.2 = bd at *
  dsimp only at *
  obtain ⟨F, G, E, hb0⟩ := three_boxes w (.slice A ll c) (.int .i64 xn) (.int .i64 xd) (.slice none 0 0) (.int .i64 bn) (.int .i64 bd) (.slice none 0 0) (.int .i64 0) (.int .i64 0) 26
  go_enter Tryd.func12, Tryd.ntmps12
  go_upto_region 6 with (first
    | (go_at_call 16; (first
      | (with_reducible refine (RA.out _ hb0).mono ?_); rintro e w1 ⟨rfl, hb1⟩; have F := F.keep hb1; have G := G.keep hb1; have E := E.keep hb1; have b1 := hb0.trans (hb1.mono hb0.size); have k1 := F.k1; have k2 := F.k2; have m0 := G.k0; have m1 := G.k1; have m2 := G.k2
      | (with_reducible refine (RB.out _ b1).mono ?_); rintro e w2 ⟨rfl, hb2⟩; have F := F.keep hb2; have G := G.keep hb2; have E := E.keep hb2; have b2 := b1.trans (hb2.mono b1.size); have k1 := F.k1; have k2 := F.k2; have m1 := G.k1; have m2 := G.k2))
    | (go_at_call 23; (with_reducible refine (H1.out _).mono ?_); rintro e w3 ⟨rfl, hb3⟩; have F := F.keep hb3; have G := G.keep hb3; have E := E.keep hb3; have e3 := E.lt; have b3 := b2.trans (hb3.mono b2.size)))
  clear hb1 hb2 hb3 hb0 b1 b2 k1 k2 m0 m1 m2
  go_upto_region 7 with fail
  have a1 := below_alloc1 w3 (.cells #[.int .i64 zn, .int .i64 zd] 24)
  have a2 := below_alloc1 (w3.alloc (.cells #[.int .i64 zn, .int .i64 zd] 24)) (.cells #[.slice none 0 0, .int .i64 zn, .int .i64 zd] 26)
  have O := FracBox.start (w3.alloc (.cells #[.int .i64 zn, .int .i64 zd] 24)) (.slice none 0 0) (.int .i64 zn) (.int .i64 zd) 26
  rw [World.size_alloc] at O
  have b5 := b3.trans (a1.mono b3.size)
  have D0 : DoS w ((w3.alloc (.cells #[.int .i64 zn, .int .i64 zd] 24)).alloc (.cells #[.slice none 0 0, .int .i64 zn, .int .i64 zd] 26)) w3.heap.size 0 (.slice A ll c) xn xd (.slice none 0 0) bn bd zn zd (.slice none 0 0) (doneK (scaleH kb) l [] 0) :=
    ⟨(F.keep a1).keep a2, (G.keep a1).keep a2, (E.keep a1).keep a2, O, ⟨rfl, .inl ⟨rfl, rfl⟩⟩, e3, b5.trans (a2.mono b5.size)⟩
  generalize w3.heap.size = b at *
  have D0 := Lib.hid D0
  clear F G E O a1 a2 b3 b5 e3
  go_wp2_with fail
  go_loopg [11] ll (fun g v11 wr => ∃ (k : Nat) (v : Value), v11 = .int .i64 k ∧ k ≤ ll ∧ g = ll - k ∧ combOk (scaleH kb) l [] k ∧ DoS w wr b k (.slice A ll c) xn xd (.slice none 0 0) bn bd zn zd v (doneK (scaleH kb) l [] k))
  case atStart => exact ⟨0, _, rfl, Nat.zero_le _, rfl, fun i hi => absurd hi (Nat.not_lt_zero _), D0.out⟩
  case round =>
    clear D0
    obtain ⟨k, v, rfl, hk, hg, hck, D⟩ := hrel
    have k0 := D.F.k0
    have m0 := D.G.k0
    by_cases hkn : k = ll
    · have hx1 : decide ((k : Int) < (ll : Int)) = false := decide_eq_false (by have := HN.out.1; omega)
      have hx5 : decide (k < ll) = false := decide_eq_false (by have := HN.out.1; omega)
      have hx6 : ll ≤ k := by have := HN.out.1; omega
      have hx2 : decide ((k : Int) < 0) = false := decide_eq_false (by omega)
      have hx3 : ¬ (k : Int) < 0 := by omega
      have rw0 : RatsAt wr v (doneK (scaleH kb) l [] k) := own_rats (base := b + 2) (by rw [doneK_len]; exact D.o)
      rw [hkn, HR.out] at rw0
      have RW := Lib.hid rw0
      have DD := Lib.hid D
      obtain ⟨Av, cv, rfl⟩ := rats_shape rw0
      have o0 := D.O.k0; have o1 := D.O.k1; have o2 := D.O.k2
      generalize (combL (scaleH kb) l []).length = nc at *
      generalize trimL (combL (scaleH kb) l []) = L at *
      clear hck hg hk D rw0 hkn
      go_wp2_with (go_at_call 18; (with_reducible refine (OW.out _ _ RW.out).mono ?_); rintro e w8 hT; obtain ⟨v8, rfl, hv8, hb8, hf8⟩ := hT; obtain ⟨A8, c8, rfl⟩ := rats_shape hv8; have HV := Lib.hid (And.intro hv8 (hf8.mono DD.out.E.lt : Fresh (w.heap.size + 1 + 1 + 1) _)); have D8 := DD.out.keep hb8; have B8 := Lib.hid D8.below; have e0 := D8.E.k0; have e1 := D8.E.k1; have e2 := D8.E.k2; have l0 := D8.E.l0; have l1 := D8.E.l1; have l2 := D8.E.l2; clear hv8 hb8 hf8 D8)
      obtain ⟨c0, c1, c2⟩ := set_three (x := .slice A8 L.length c8) (y := .int .i64 zn) (z := .int .i64 zd) e0 e1 e2
      obtain ⟨r1, r2, r3⟩ := put_end (w := w) (b := w.heap.size + 1 + 1) (kn := zn) (kd := zd) HV.out.1 B8.out HV.out.2 (by omega) rfl
      exact bodyPost_ret (v := .tuple #[.agg #[.slice A8 L.length c8, .int .i64 zn, .int .i64 zd], .int .i64 0]) (by simp [results, Tryd.results12, go_sem, c0, c1, c2]) rfl ⟨_, rfl, r1, r2, r3⟩
    · have hlt : k < ll := by omega
      have i2 : (0 : Int) ≤ (k : Int) := by omega
      have he0 := HN.out.2 k hlt
      have hx1 : decide ((k : Int) < (ll : Int)) = true := decide_eq_true (by omega)
      have hx3 : (k : Int) < (ll : Int) := by omega
      have hx5 : decide (k < ll) = true := decide_eq_true (by omega)
      have atx := fun (w' : World) (hb : Below w.heap.size w w') => rat_any w' (.slice A ll c) l xn xd k (TS.out.1.below hb)
      have aty := fun (w' : World) (hb : Below w.heap.size w w') => rat_any w' (.slice none 0 0) [] bn bd k (TS.out.2.below hb)
      have hw := fun (w' : World) => HOW.out w' k
      rw [he0] at hw
      have ATX := Lib.hid atx; have ATY := Lib.hid aty; have HW := Lib.hid hw
      have HLT := Lib.hid hlt
      have HK := Lib.hid hg
      have HC2 : Hid (combOk (scaleH kb) l [] (k + 1)) := fun i hi => by
        rcases Nat.lt_or_ge i k with g | g
        · exact hck i g
        · obtain rfl : i = k := by omega
          exact he0
      have NX := Lib.hid (doneK_next (scaleH kb) l [] k)
      have DD := Lib.hid D
      have m1 := D.G.k1; have m2 := D.G.k2
      clear atx aty hw D hck he0 hg hkn hk hlt
      generalize ((scaleH kb) (atL l k) (atL [] k)).1 = q at *
      obtain ⟨qn, qd⟩ := q
      generalize atL l k = x at *
      generalize atL [] k = y at *
      obtain ⟨x1, x2⟩ := x
      obtain ⟨y1, y2⟩ := y
      dsimp only at *
      go_upto_region 13 with (go_at_call 20; (with_reducible refine (ATY.out _ DD.out.below).mono ?_); rintro e w5 ⟨rfl, hb⟩; have DD := Lib.hid (DD.out.keep hb); have m1 := DD.out.G.k1; have m2 := DD.out.G.k2; have a5 := DD.out.keep (below_alloc1 w5 (.cells #[.int .i64 y1, .int .i64 y2] 24)); have n1 := a5.G.k1; have n2 := a5.G.k2; clear hb)
      go_cut [13, 14] from 39 to 78 (fun v13 v14 wx => DoMidT w b k (.slice A ll c) xn xd (.slice none 0 0) bn bd zn zd v (doneK (scaleH kb) l [] k) qn qd 0 v13 v14 wx)
      case first =>
        have HS := hold_dos (below_drew _) ((DD.out.keep (below_alloc1 w5 (.cells #[.int .i64 bn, .int .i64 bd] 24))).cells (RatAt.start w5 bn bd 24))
        generalize w5.heap.size = cy at *
        generalize w5.alloc (.cells #[.int .i64 bn, .int .i64 bd] 24) = wq at *
        clear DD m1 m2 k0 m0 a5 n1 n2
        refine wp_region_noPanic ?_
        refine wp_region_held_drew (S := (fun w' => ((w'.cell? ⟨w.heap.size, 0, none⟩ = some (.slice A ll c) ∧ w'.cell? ⟨w.heap.size, 1, none⟩ = some (.int .i64 xn) ∧ w'.cell? ⟨w.heap.size, 2, none⟩ = some (.int .i64 xd)) ∧ (w'.cell? ⟨cy, 0, none⟩ = some (.int .i64 bn) ∧ w'.cell? ⟨cy, 1, none⟩ = some (.int .i64 bd)) ∧ RatAt w' cy bn bd) ∧ DoS w w' b k (.slice A ll c) xn xd (.slice none 0 0) bn bd zn zd v (doneK (scaleH kb) l [] k))) (by kernel_rfl) HS (fun hHeld => ?_)
        clear HS
        refine wpAnyH_take (i := 0) (oi := _) (v := ?_) rfl (by kernel_rfl) (by kernel_rfl) (by kernel_rfl) (fun _ _ _ h => h) (Or.inl ⟨by rfl, ?_⟩) (by assumption) ?_
        rotate_left
        · intro ww hSw
          (try dsimp only at hSw)
          go_simp <;> with_reducible rfl
        (try simp only [List.getElem_toArray, List.getElem_cons_zero, Act.put, List.setIfInBounds_toArray, List.set_cons_zero, List.set_cons_succ])
        refine wpAnyH_take (i := 1) (oi := _) (v := ?_) rfl (by kernel_rfl) (by kernel_rfl) (by kernel_rfl) (fun _ _ _ h => h) (Or.inl ⟨by rfl, ?_⟩) (by assumption) ?_
        rotate_left
        · intro ww hSw
          (try dsimp only at hSw)
          go_simp <;> with_reducible rfl
        (try simp only [List.getElem_toArray, List.getElem_cons_succ, List.getElem_cons_zero, Act.put, List.setIfInBounds_toArray, List.set_cons_zero, List.set_cons_succ])
        refine wpAnyH_take (i := 2) (oi := _) (v := ?_) rfl (by kernel_rfl) (by kernel_rfl) (by kernel_rfl) (fun _ _ _ h => h) (Or.inl ⟨by rfl, ?_⟩) (by assumption) ?_
        rotate_left
        · intro ww hSw
          (try dsimp only at hSw)
          go_simp <;> with_reducible rfl
        (try simp only [List.getElem_toArray, List.getElem_cons_succ, List.getElem_cons_zero, Act.put, List.setIfInBounds_toArray, List.set_cons_zero, List.set_cons_succ])
        refine wpAnyH_take (i := 4) (oi := _) (v := ?_) rfl (by kernel_rfl) (by kernel_rfl) (by kernel_rfl) (fun _ _ _ h => h) (Or.inl ⟨by rfl, ?_⟩) (by assumption) ?_
        rotate_left
        · intro ww hSw
          (try dsimp only at hSw)
          go_simp <;> with_reducible rfl
        (try simp only [List.getElem_toArray, List.getElem_cons_succ, List.getElem_cons_zero, Act.put, List.setIfInBounds_toArray, List.set_cons_zero, List.set_cons_succ])
        refine wpAnyH_ready (rs := [3, 9]) (by kernel_rfl) (by simp) ?_
        refine AllReadyH.cons (o := _) rfl (fun K hK => ?_) ?_
        · go_simp
          (first
            | (go_at_call 20; (with_reducible refine (ATX.out _ (dos_of (by with_reducible assumption)).below).mono ?_); rintro e w6 ⟨rfl, hb⟩; (try (have HC := Lib.hid (HC.out.keep hb))))
            | (go_at_call 23; (with_reducible refine (HW.out _).mono ?_); rintro e w7 ⟨rfl, hb⟩; (try (have HC := Lib.hid (HC.out.keep hb)))))
          go_wp2_with fail
          refine hK.out _ _ (hold_dos (by with_reducible assumption) (by with_reducible assumption)) (fun hH2 => ?_)
          clear hK K hHeld hb
          have hHeld := hH2
          clear hH2
          (try simp only [List.getElem_toArray, List.getElem_cons_succ, List.getElem_cons_zero, Act.put, List.setIfInBounds_toArray, List.set_cons_zero, List.set_cons_succ])
          refine wpAnyH_ready (rs := [5, 9]) (by kernel_rfl) (by simp) ?_
          refine AllReadyH.cons (o := _) rfl (fun K hK => ?_) ?_
          · go_simp
            (first
              | (go_at_call 20; (with_reducible refine (ATX.out _ (dos_of (by with_reducible assumption)).below).mono ?_); rintro e w6 ⟨rfl, hb⟩; (try (have HC := Lib.hid (HC.out.keep hb))))
              | (go_at_call 23; (with_reducible refine (HW.out _).mono ?_); rintro e w7 ⟨rfl, hb⟩; (try (have HC := Lib.hid (HC.out.keep hb)))))
            go_wp2_with fail
            refine hK.out _ _ (hold_dos (by with_reducible assumption) (by with_reducible assumption)) (fun hH2 => ?_)
            clear hK K hHeld hb
            have hHeld := hH2
            clear hH2
            (try simp only [List.getElem_toArray, List.getElem_cons_succ, List.getElem_cons_zero, Act.put, List.setIfInBounds_toArray, List.set_cons_zero, List.set_cons_succ])
            refine wpAnyH_take (i := 6) (oi := _) (v := ?_) rfl (by kernel_rfl) (by kernel_rfl) (by kernel_rfl) (fun _ _ _ h => h) (Or.inl ⟨by rfl, ?_⟩) (by assumption) ?_
            rotate_left
            · intro ww hSw
              (try dsimp only at hSw)
              go_simp <;> with_reducible rfl
            (try simp only [List.getElem_toArray, List.getElem_cons_succ, List.getElem_cons_zero, Act.put, List.setIfInBounds_toArray, List.set_cons_zero, List.set_cons_succ])
            refine wpAnyH_take (i := 7) (oi := _) (v := ?_) rfl (by kernel_rfl) (by kernel_rfl) (by kernel_rfl) (fun _ _ _ h => h) (Or.inl ⟨by rfl, ?_⟩) (by assumption) ?_
            rotate_left
            · intro ww hSw
              (try dsimp only at hSw)
              go_simp <;> with_reducible rfl
            (try simp only [List.getElem_toArray, List.getElem_cons_succ, List.getElem_cons_zero, Act.put, List.setIfInBounds_toArray, List.set_cons_zero, List.set_cons_succ])
            refine wpAnyH_take (i := 8) (oi := _) (v := ?_) rfl (by kernel_rfl) (by kernel_rfl) (by kernel_rfl) (fun _ _ _ h => h) (Or.inl ⟨by rfl, ?_⟩) (by assumption) ?_
            rotate_left
            · intro ww hSw
              (try dsimp only at hSw)
              go_simp <;> with_reducible rfl
            (try simp only [List.getElem_toArray, List.getElem_cons_succ, List.getElem_cons_zero, Act.put, List.setIfInBounds_toArray, List.set_cons_zero, List.set_cons_succ])
            refine wpAnyH_ready (rs := [9]) (by kernel_rfl) (by simp) ?_
            refine AllReadyH.cons (o := _) rfl (fun K hK => ?_) AllReadyH.nil
            go_simp
            refine hK.out _ _ (hold_dos (below_alloc1 _ _) (by with_reducible assumption)) (fun hH2 => ?_)
            clear hK K
            (first | have HC := Lib.hid (hole_of hH2) | have HC := Lib.hid (hole_of2 hH2))
            have hHeld0 := Lib.hid hHeld
            clear hHeld
            have hHeld := hH2
            clear hH2
            (try simp only [List.getElem_toArray, List.getElem_cons_succ, List.getElem_cons_zero, Act.put, List.setIfInBounds_toArray, List.set_cons_zero, List.set_cons_succ])
            refine wpAnyH_ready (rs := [10]) (by kernel_rfl) (by simp) ?_
            refine AllReadyH.cons (o := _) rfl (fun K hK => ?_) AllReadyH.nil
            obtain ⟨h6, h0, h1, h2, h3, h4, h5⟩ := HC.out
            clear h6
            go_simp
            clear h0 h1 h2 h3 h4 h5
            (first
              | refine hK.out _ _ (hold_dos (below_alloc1 _ _) hHeld0.out) (fun hH2 => ?_)
              | refine hK.out _ _ (hold_dos (HC.out.fill _ _).1 hHeld0.out) (fun hH2 => ?_))
            clear hK K hHeld
            have hHeld := hH2
            clear hH2
            (try simp only [List.getElem_toArray, List.getElem_cons_succ, List.getElem_cons_zero, Act.put, List.setIfInBounds_toArray, List.set_cons_zero, List.set_cons_succ])
            refine wpAnyH_take (i := 11) (oi := _) (v := ?_) rfl (by kernel_rfl) (by kernel_rfl) (by kernel_rfl) (fun _ _ _ h => h) (Or.inl ⟨by rfl, ?_⟩) (by assumption) ?_
            rotate_left
            · intro ww hSw
              (try dsimp only at hSw)
              go_simp <;> with_reducible rfl
            (try simp only [List.getElem_toArray, List.getElem_cons_succ, List.getElem_cons_zero, Act.put, List.setIfInBounds_toArray, List.set_cons_zero, List.set_cons_succ])
            refine wpAnyH_done (by kernel_rfl) ?_ _
            refine NoPanic.normal ?_
            go_wp2_with fail
            go_meet
            case rel => first | exact mid_alloc (dos_of hHeld0.out) 24 | exact mid_fill (dos_of hHeld0.out) HC.out
          refine AllReadyH.cons (o := _) rfl (fun K hK => ?_) AllReadyH.nil
          go_simp
          refine hK.out _ _ (hold_dos (below_alloc1 _ _) (by with_reducible assumption)) (fun hH2 => ?_)
          clear hK K
          (first | have HC := Lib.hid (hole_of hH2) | have HC := Lib.hid (hole_of2 hH2))
          have hHeld0 := Lib.hid hHeld
          clear hHeld
          have hHeld := hH2
          clear hH2
          (try simp only [List.getElem_toArray, List.getElem_cons_succ, List.getElem_cons_zero, Act.put, List.setIfInBounds_toArray, List.set_cons_zero, List.set_cons_succ])
          refine wpAnyH_ready (rs := [5]) (by kernel_rfl) (by simp) ?_
          refine AllReadyH.cons (o := _) rfl (fun K hK => ?_) AllReadyH.nil
          go_simp
          (first
            | (go_at_call 20; (with_reducible refine (ATX.out _ (dos_of (by with_reducible assumption)).below).mono ?_); rintro e w6 ⟨rfl, hb⟩; (try (have HC := Lib.hid (HC.out.keep hb))))
            | (go_at_call 23; (with_reducible refine (HW.out _).mono ?_); rintro e w7 ⟨rfl, hb⟩; (try (have HC := Lib.hid (HC.out.keep hb)))))
          go_wp2_with fail
          refine hK.out _ _ (hold_dos (by with_reducible assumption) (by with_reducible assumption)) (fun hH2 => ?_)
          clear hK K hHeld hb
          have hHeld := hH2
          clear hH2
          (try simp only [List.getElem_toArray, List.getElem_cons_succ, List.getElem_cons_zero, Act.put, List.setIfInBounds_toArray, List.set_cons_zero, List.set_cons_succ])
          refine wpAnyH_take (i := 6) (oi := _) (v := ?_) rfl (by kernel_rfl) (by kernel_rfl) (by kernel_rfl) (fun _ _ _ h => h) (Or.inl ⟨by rfl, ?_⟩) (by assumption) ?_
          rotate_left
          · intro ww hSw
            (try dsimp only at hSw)
            go_simp <;> with_reducible rfl
          (try simp only [List.getElem_toArray, List.getElem_cons_succ, List.getElem_cons_zero, Act.put, List.setIfInBounds_toArray, List.set_cons_zero, List.set_cons_succ])
          refine wpAnyH_take (i := 7) (oi := _) (v := ?_) rfl (by kernel_rfl) (by kernel_rfl) (by kernel_rfl) (fun _ _ _ h => h) (Or.inl ⟨by rfl, ?_⟩) (by assumption) ?_
          rotate_left
          · intro ww hSw
            (try dsimp only at hSw)
            go_simp <;> with_reducible rfl
          (try simp only [List.getElem_toArray, List.getElem_cons_succ, List.getElem_cons_zero, Act.put, List.setIfInBounds_toArray, List.set_cons_zero, List.set_cons_succ])
          refine wpAnyH_take (i := 8) (oi := _) (v := ?_) rfl (by kernel_rfl) (by kernel_rfl) (by kernel_rfl) (fun _ _ _ h => h) (Or.inl ⟨by rfl, ?_⟩) (by assumption) ?_
          rotate_left
          · intro ww hSw
            (try dsimp only at hSw)
            go_simp <;> with_reducible rfl
          (try simp only [List.getElem_toArray, List.getElem_cons_succ, List.getElem_cons_zero, Act.put, List.setIfInBounds_toArray, List.set_cons_zero, List.set_cons_succ])
          refine wpAnyH_ready (rs := [10]) (by kernel_rfl) (by simp) ?_
          refine AllReadyH.cons (o := _) rfl (fun K hK => ?_) AllReadyH.nil
          obtain ⟨h6, h0, h1, h2, h3, h4, h5⟩ := HC.out
          clear h6
          go_simp
          clear h0 h1 h2 h3 h4 h5
          (first
            | refine hK.out _ _ (hold_dos (below_alloc1 _ _) hHeld0.out) (fun hH2 => ?_)
            | refine hK.out _ _ (hold_dos (HC.out.fill _ _).1 hHeld0.out) (fun hH2 => ?_))
          clear hK K hHeld
          have hHeld := hH2
          clear hH2
          (try simp only [List.getElem_toArray, List.getElem_cons_succ, List.getElem_cons_zero, Act.put, List.setIfInBounds_toArray, List.set_cons_zero, List.set_cons_succ])
          refine wpAnyH_take (i := 11) (oi := _) (v := ?_) rfl (by kernel_rfl) (by kernel_rfl) (by kernel_rfl) (fun _ _ _ h => h) (Or.inl ⟨by rfl, ?_⟩) (by assumption) ?_
          rotate_left
          · intro ww hSw
            (try dsimp only at hSw)
            go_simp <;> with_reducible rfl
          (try simp only [List.getElem_toArray, List.getElem_cons_succ, List.getElem_cons_zero, Act.put, List.setIfInBounds_toArray, List.set_cons_zero, List.set_cons_succ])
          refine wpAnyH_done (by kernel_rfl) ?_ _
          refine NoPanic.normal ?_
          go_wp2_with fail
          go_meet
          case rel => first | exact mid_alloc (dos_of hHeld0.out) 24 | exact mid_fill (dos_of hHeld0.out) HC.out
        refine AllReadyH.cons (o := _) rfl (fun K hK => ?_) AllReadyH.nil
        go_simp
        refine hK.out _ _ (hold_dos (below_alloc1 _ _) (by with_reducible assumption)) (fun hH2 => ?_)
        clear hK K
        (first | have HC := Lib.hid (hole_of hH2) | have HC := Lib.hid (hole_of2 hH2))
        have hHeld0 := Lib.hid hHeld
        clear hHeld
        have hHeld := hH2
        clear hH2
        (try simp only [List.getElem_toArray, List.getElem_cons_succ, List.getElem_cons_zero, Act.put, List.setIfInBounds_toArray, List.set_cons_zero, List.set_cons_succ])
        refine wpAnyH_ready (rs := [3]) (by kernel_rfl) (by simp) ?_
        refine AllReadyH.cons (o := _) rfl (fun K hK => ?_) AllReadyH.nil
        go_simp
        (first
          | (go_at_call 20; (with_reducible refine (ATX.out _ (dos_of (by with_reducible assumption)).below).mono ?_); rintro e w6 ⟨rfl, hb⟩; (try (have HC := Lib.hid (HC.out.keep hb))))
          | (go_at_call 23; (with_reducible refine (HW.out _).mono ?_); rintro e w7 ⟨rfl, hb⟩; (try (have HC := Lib.hid (HC.out.keep hb)))))
        go_wp2_with fail
        refine hK.out _ _ (hold_dos (by with_reducible assumption) (by with_reducible assumption)) (fun hH2 => ?_)
        clear hK K hHeld hb
        have hHeld := hH2
        clear hH2
        (try simp only [List.getElem_toArray, List.getElem_cons_succ, List.getElem_cons_zero, Act.put, List.setIfInBounds_toArray, List.set_cons_zero, List.set_cons_succ])
        refine wpAnyH_ready (rs := [5]) (by kernel_rfl) (by simp) ?_
        refine AllReadyH.cons (o := _) rfl (fun K hK => ?_) AllReadyH.nil
        go_simp
        (first
          | (go_at_call 20; (with_reducible refine (ATX.out _ (dos_of (by with_reducible assumption)).below).mono ?_); rintro e w6 ⟨rfl, hb⟩; (try (have HC := Lib.hid (HC.out.keep hb))))
          | (go_at_call 23; (with_reducible refine (HW.out _).mono ?_); rintro e w7 ⟨rfl, hb⟩; (try (have HC := Lib.hid (HC.out.keep hb)))))
        go_wp2_with fail
        refine hK.out _ _ (hold_dos (by with_reducible assumption) (by with_reducible assumption)) (fun hH2 => ?_)
        clear hK K hHeld hb
        have hHeld := hH2
        clear hH2
        (try simp only [List.getElem_toArray, List.getElem_cons_succ, List.getElem_cons_zero, Act.put, List.setIfInBounds_toArray, List.set_cons_zero, List.set_cons_succ])
        refine wpAnyH_take (i := 6) (oi := _) (v := ?_) rfl (by kernel_rfl) (by kernel_rfl) (by kernel_rfl) (fun _ _ _ h => h) (Or.inl ⟨by rfl, ?_⟩) (by assumption) ?_
        rotate_left
        · intro ww hSw
          (try dsimp only at hSw)
          go_simp <;> with_reducible rfl
        (try simp only [List.getElem_toArray, List.getElem_cons_succ, List.getElem_cons_zero, Act.put, List.setIfInBounds_toArray, List.set_cons_zero, List.set_cons_succ])
        refine wpAnyH_take (i := 7) (oi := _) (v := ?_) rfl (by kernel_rfl) (by kernel_rfl) (by kernel_rfl) (fun _ _ _ h => h) (Or.inl ⟨by rfl, ?_⟩) (by assumption) ?_
        rotate_left
        · intro ww hSw
          (try dsimp only at hSw)
          go_simp <;> with_reducible rfl
        (try simp only [List.getElem_toArray, List.getElem_cons_succ, List.getElem_cons_zero, Act.put, List.setIfInBounds_toArray, List.set_cons_zero, List.set_cons_succ])
        refine wpAnyH_take (i := 8) (oi := _) (v := ?_) rfl (by kernel_rfl) (by kernel_rfl) (by kernel_rfl) (fun _ _ _ h => h) (Or.inl ⟨by rfl, ?_⟩) (by assumption) ?_
        rotate_left
        · intro ww hSw
          (try dsimp only at hSw)
          go_simp <;> with_reducible rfl
        (try simp only [List.getElem_toArray, List.getElem_cons_succ, List.getElem_cons_zero, Act.put, List.setIfInBounds_toArray, List.set_cons_zero, List.set_cons_succ])
        refine wpAnyH_ready (rs := [10]) (by kernel_rfl) (by simp) ?_
        refine AllReadyH.cons (o := _) rfl (fun K hK => ?_) AllReadyH.nil
        obtain ⟨h6, h0, h1, h2, h3, h4, h5⟩ := HC.out
        clear h6
        go_simp
        clear h0 h1 h2 h3 h4 h5
        (first
          | refine hK.out _ _ (hold_dos (below_alloc1 _ _) hHeld0.out) (fun hH2 => ?_)
          | refine hK.out _ _ (hold_dos (HC.out.fill _ _).1 hHeld0.out) (fun hH2 => ?_))
        clear hK K hHeld
        have hHeld := hH2
        clear hH2
        (try simp only [List.getElem_toArray, List.getElem_cons_succ, List.getElem_cons_zero, Act.put, List.setIfInBounds_toArray, List.set_cons_zero, List.set_cons_succ])
        refine wpAnyH_take (i := 11) (oi := _) (v := ?_) rfl (by kernel_rfl) (by kernel_rfl) (by kernel_rfl) (fun _ _ _ h => h) (Or.inl ⟨by rfl, ?_⟩) (by assumption) ?_
        rotate_left
        · intro ww hSw
          (try dsimp only at hSw)
          go_simp <;> with_reducible rfl
        (try simp only [List.getElem_toArray, List.getElem_cons_succ, List.getElem_cons_zero, Act.put, List.setIfInBounds_toArray, List.set_cons_zero, List.set_cons_succ])
        refine wpAnyH_done (by kernel_rfl) ?_ _
        refine NoPanic.normal ?_
        go_wp2_with fail
        go_meet
        case rel => first | exact mid_alloc (dos_of hHeld0.out) 24 | exact mid_fill (dos_of hHeld0.out) HC.out
      case rest =>
        obtain ⟨cc, rfl, rfl, RC, D⟩ := hcut
        clear DD m1 m2 k0 m0 a5 n1 n2
        have rc0 := RC.k0; have rc1 := RC.k1
        have o0 := D.O.k0
        have DD := Lib.hid D
        have hkl : k ≤ 8 := by have := HLT.out; omega
        have szb : b + 2 ≤ wc.heap.size := by have := D.O.lt; omega
        clear D
        have OWN := Lib.hid DD.out.o
        go_wp2_with (at_builtin; refine wpList_append_own _ rfl _ _ 22 rfl (b + 2) 24 i0 (.agg #[.int .i64 0, .int .i64 0]) 2 16 Tryd.underlying22 hi hz0 hz1 hz2 rfl (by decide) _ _ _ rfl (OWN.out.alloc _) ⟨wc.heap.size, 0, none⟩ 1 1 [.int .i64 qn, .int .i64 qd] rfl rfl ?c1 ?c2 ?c3 ?c4 ?c5 ?_)
        case c1 => exact one_pair _ _ _
        case c2 => intro u hu; simp at hu; rcases hu with rfl | rfl <;> rfl
        case c3 => unfold maxLen; omega
        case c4 => omega
        case c5 => simp; omega
        intro v' w8 hown' hgrow _
        obtain ⟨Av8, cv8, rfl⟩ := own_shape hown'
        have D8 := DD.out.push (q := (qn, qd)) hgrow hown'
        have g8 := grown_belowR szb OWN.out hgrow
        have o8 := (DD.out.O.keepB g8 (by omega)).k0
        have f8 := (DD.out.O.keepB g8 (by omega)).l0
        have D8 := Lib.hid D8
        clear hown' hgrow g8
        have wk : IntKind.i64.wrap ((k : Int) + 1) = (k : Int) + 1 := IntWalk.i64_in _ (by have := HLT.out; omega)
        go_wp2_with fail
        go_roundg (ll - (k + 1))
        case measure => have := HK.out; have := HLT.out; omega
        case rel => exact ⟨k + 1, _, by push_cast; rfl, by have := HLT.out; omega, rfl, HC2.out, by rw [NX.out]; exact D8.out⟩

set_option maxRecDepth 4000 in
set_option maxHeartbeats 4000000 in
theorem rdo_times_no (w : World) (va : Value) (l : List (Int × Int)) (kx kb : Int × Int) (ha : RatsAt w va l) (hl : AllOk l) (hx : OkR kx) (hy : OkR kb) (h8 : l.length ≤ 8)
    (hno : ¬ (((scaleH kb) kx (0, 1)).2 = 0 ∧ combOk (scaleH kb) l [] l.length)) :
    Calls Tryd.prog 12 #[.int .i64 2, .agg #[va, .int .i64 kx.1, .int .i64 kx.2], .agg #[.slice none 0 0, .int .i64 kb.1, .int .i64 kb.2]] w (TermPut w [] (0, 0) 3) := by
  obtain ⟨i0, hi, hz0, hz1, hz2⟩ := info_parts infoR
  have hm : AllOk [] := fun x hx => by cases hx
  have hb : RatsAt w (.slice none 0 0) [] := RatsAt.nil w
  have ra := fun (w' : World) (h : Below w.heap.size w w') => r2right_any w' va l kx.1 kx.2 (ha.below h) hl.wide hx.wide.1.1 hx.wide.1.2 hx.wide.2.1 hx.wide.2.2
  rw [right_mk h8 hl hx] at ra
  have rb := fun (w' : World) (_ : Below w.heap.size w w') => r2right_any w' (.slice none 0 0) [] kb.1 kb.2 (RatsAt.nil w') hm.wide hy.wide.1.1 hy.wide.1.2 hy.wide.2.1 hy.wide.2.2
  rw [right_mk (by simp) hm hy] at rb
  have h1 : ∀ (w' : World), Calls Tryd.prog 23 #[.int .i64 2, ratV kx.1 kx.2, ratV kb.1 kb.2] w' fun r w2 => r = .returned (.tuple #[ratV (scaleH kb kx (0, 1)).1.1 (scaleH kb kx (0, 1)).1.2, .int .i64 (scaleH kb kx (0, 1)).2]) ∧ Below w'.heap.size w' w2 := fun w' => rdo_mul w' kx kb hx hy
  have HOW : ∀ (w' : World) (k : Nat), Calls Tryd.prog 23 #[.int .i64 2, ratV (atL l k).1 (atL l k).2, ratV kb.1 kb.2] w' fun r w2 => r = .returned (.tuple #[ratV (scaleH kb (atL l k) (atL [] k)).1.1 (scaleH kb (atL l k) (atL [] k)).1.2, .int .i64 (scaleH kb (atL l k) (atL [] k)).2]) ∧ Below w'.heap.size w' w2 := fun w' k => rdo_mul w' _ _ (hl.at k) hy
  have HOW := Lib.hid HOW
  by_cases hk : ((scaleH kb) kx (0, 1)).2 = 0
  rotate_left
  · have hz := (scaleH_ok hy).no kx (0, 1) hx okR_nought hk
    rw [hz] at h1
    obtain ⟨A, c, rfl⟩ := rats_shape ha
    have H1 := Lib.hid h1; have RA := Lib.hid ra; have RB := Lib.hid rb
    clear h1 ra rb ha hb hl hm hx hy hk hz hno HOW h8
    generalize l.length = ll at *
    obtain ⟨xn, xd⟩ := kx
    generalize kb.1 = bn at *
    generalize kb.2 = bd at *
    dsimp only at *
    obtain ⟨F, G, E, hb0⟩ := three_boxes w (.slice A ll c) (.int .i64 xn) (.int .i64 xd) (.slice none 0 0) (.int .i64 bn) (.int .i64 bd) (.slice none 0 0) (.int .i64 0) (.int .i64 0) 26
    go_enter Tryd.func12, Tryd.ntmps12
    go_upto_region 4 with (first
      | (go_at_call 16; (first
        | (with_reducible refine (RA.out _ hb0).mono ?_); rintro e w1 ⟨rfl, hb1⟩; have F := F.keep hb1; have G := G.keep hb1; have E := E.keep hb1; have b1 := hb0.trans (hb1.mono hb0.size); have k1 := F.k1; have k2 := F.k2; have m0 := G.k0; have m1 := G.k1; have m2 := G.k2
        | (with_reducible refine (RB.out _ b1).mono ?_); rintro e w2 ⟨rfl, hb2⟩; have F := F.keep hb2; have G := G.keep hb2; have E := E.keep hb2; have b2 := b1.trans (hb2.mono b1.size); have k1 := F.k1; have k2 := F.k2; have m1 := G.k1; have m2 := G.k2))
      | (go_at_call 23; (with_reducible refine (H1.out _).mono ?_); rintro e w3 ⟨rfl, hb3⟩; have E := E.keep hb3; have b3 := b2.trans (hb3.mono b2.size)))
    have a1 := below_alloc1 w3 (.cells #[.int .i64 0, .int .i64 0] 24)
    have E := E.keep a1
    have b4 := Lib.hid (b3.trans (a1.mono b3.size))
    have k0 := E.k0; have k1 := E.k1; have k2 := E.k2; have l0 := E.l0; have l1 := E.l1; have l2 := E.l2
    clear hb1 hb2 hb3 hb0 a1 F G b1 b2 b3
    go_wp2_with fail
    obtain ⟨c0, c1, c2⟩ := set_three (x := .slice none 0 0) (y := .int .i64 0) (z := .int .i64 0) k0 k1 k2
    refine bodyPost_ret (v := .tuple #[.agg #[.slice none 0 0, .int .i64 0, .int .i64 0], .int .i64 3]) (by simp [results, Tryd.results12, go_sem, c0, c1, c2]) rfl ⟨_, rfl, RatsAt.nil _, ?_, Fresh.none_ _ _ _⟩
    exact ((b4.out.setCell (by show w.heap.size ≤ w.heap.size + 1 + 1; omega) _).setCell (by show w.heap.size ≤ w.heap.size + 1 + 1; omega) _).setCell (by show w.heap.size ≤ w.heap.size + 1 + 1; omega) _
  have hno2 : ¬ combOk (scaleH kb) l [] l.length := fun q => hno ⟨hk, q⟩
  rw [hk] at h1
  obtain ⟨A, c, rfl⟩ := rats_shape ha
  have HN := Lib.hid (And.intro (rfl : l.length = l.length) hno2)
  have HH := Lib.hid (fun k : Nat => (scaleH_ok hy).no _ _ (hl.at k) (hm.at k))
  have H1 := Lib.hid h1; have RA := Lib.hid ra; have RB := Lib.hid rb
  have TS := Lib.hid (And.intro ha hb)
  clear h1 ra rb ha hb hl hm hx hy hk hno hno2
  generalize l.length = ll at *
  generalize ((scaleH kb) kx (0, 1)).1 = z at *
  obtain ⟨zn, zd⟩ := z
  obtain ⟨xn, xd⟩ := kx
  generalize kb.1 = bn at *
  generalize kb.2 = bd at *
  dsimp only at *
  obtain ⟨F, G, E, hb0⟩ := three_boxes w (.slice A ll c) (.int .i64 xn) (.int .i64 xd) (.slice none 0 0) (.int .i64 bn) (.int .i64 bd) (.slice none 0 0) (.int .i64 0) (.int .i64 0) 26
  go_enter Tryd.func12, Tryd.ntmps12
  go_upto_region 6 with (first
    | (go_at_call 16; (first
      | (with_reducible refine (RA.out _ hb0).mono ?_); rintro e w1 ⟨rfl, hb1⟩; have F := F.keep hb1; have G := G.keep hb1; have E := E.keep hb1; have b1 := hb0.trans (hb1.mono hb0.size); have k1 := F.k1; have k2 := F.k2; have m0 := G.k0; have m1 := G.k1; have m2 := G.k2
      | (with_reducible refine (RB.out _ b1).mono ?_); rintro e w2 ⟨rfl, hb2⟩; have F := F.keep hb2; have G := G.keep hb2; have E := E.keep hb2; have b2 := b1.trans (hb2.mono b1.size); have k1 := F.k1; have k2 := F.k2; have m1 := G.k1; have m2 := G.k2))
    | (go_at_call 23; (with_reducible refine (H1.out _).mono ?_); rintro e w3 ⟨rfl, hb3⟩; have F := F.keep hb3; have G := G.keep hb3; have E := E.keep hb3; have e3 := E.lt; have b3 := b2.trans (hb3.mono b2.size)))
  clear hb1 hb2 hb3 hb0 b1 b2 k1 k2 m0 m1 m2
  go_upto_region 7 with fail
  have a1 := below_alloc1 w3 (.cells #[.int .i64 zn, .int .i64 zd] 24)
  have a2 := below_alloc1 (w3.alloc (.cells #[.int .i64 zn, .int .i64 zd] 24)) (.cells #[.slice none 0 0, .int .i64 zn, .int .i64 zd] 26)
  have O := FracBox.start (w3.alloc (.cells #[.int .i64 zn, .int .i64 zd] 24)) (.slice none 0 0) (.int .i64 zn) (.int .i64 zd) 26
  rw [World.size_alloc] at O
  have b5 := b3.trans (a1.mono b3.size)
  have D0 : DoS w ((w3.alloc (.cells #[.int .i64 zn, .int .i64 zd] 24)).alloc (.cells #[.slice none 0 0, .int .i64 zn, .int .i64 zd] 26)) w3.heap.size 0 (.slice A ll c) xn xd (.slice none 0 0) bn bd zn zd (.slice none 0 0) (doneK (scaleH kb) l [] 0) :=
    ⟨(F.keep a1).keep a2, (G.keep a1).keep a2, (E.keep a1).keep a2, O, ⟨rfl, .inl ⟨rfl, rfl⟩⟩, e3, b5.trans (a2.mono b5.size)⟩
  generalize w3.heap.size = b at *
  have D0 := Lib.hid D0
  clear F G E O a1 a2 b3 b5 e3
  go_wp2_with fail
  go_loopg [11] ll (fun g v11 wr => ∃ (k : Nat) (v : Value), v11 = .int .i64 k ∧ k ≤ ll ∧ g = ll - k ∧ combOk (scaleH kb) l [] k ∧ DoS w wr b k (.slice A ll c) xn xd (.slice none 0 0) bn bd zn zd v (doneK (scaleH kb) l [] k))
  case atStart => exact ⟨0, _, rfl, Nat.zero_le _, rfl, fun i hi => absurd hi (Nat.not_lt_zero _), D0.out⟩
  case round =>
    clear D0
    obtain ⟨k, v, rfl, hk, hg, hck, D⟩ := hrel
    have k0 := D.F.k0
    have m0 := D.G.k0
    by_cases hkn : k = ll
    · subst hkn
      exact absurd hck HN.out.2
    · have hlt : k < ll := by omega
      have i2 : (0 : Int) ≤ (k : Int) := by omega
      by_cases he0 : ((scaleH kb) (atL l k) (atL [] k)).2 = 0
      · have hx1 : decide ((k : Int) < (ll : Int)) = true := decide_eq_true (by omega)
        have hx3 : (k : Int) < (ll : Int) := by omega
        have hx5 : decide (k < ll) = true := decide_eq_true (by omega)
        have atx := fun (w' : World) (hb : Below w.heap.size w w') => rat_any w' (.slice A ll c) l xn xd k (TS.out.1.below hb)
        have aty := fun (w' : World) (hb : Below w.heap.size w w') => rat_any w' (.slice none 0 0) [] bn bd k (TS.out.2.below hb)
        have hw := fun (w' : World) => HOW.out w' k
        rw [he0] at hw
        have ATX := Lib.hid atx; have ATY := Lib.hid aty; have HW := Lib.hid hw
        have HLT := Lib.hid hlt
        have HK := Lib.hid hg
        have HC2 : Hid (combOk (scaleH kb) l [] (k + 1)) := fun i hi => by
          rcases Nat.lt_or_ge i k with g | g
          · exact hck i g
          · obtain rfl : i = k := by omega
            exact he0
        have NX := Lib.hid (doneK_next (scaleH kb) l [] k)
        have DD := Lib.hid D
        have m1 := D.G.k1; have m2 := D.G.k2
        clear atx aty hw D hck he0 hg hkn hk hlt
        generalize ((scaleH kb) (atL l k) (atL [] k)).1 = q at *
        obtain ⟨qn, qd⟩ := q
        generalize atL l k = x at *
        generalize atL [] k = y at *
        obtain ⟨x1, x2⟩ := x
        obtain ⟨y1, y2⟩ := y
        dsimp only at *
        go_upto_region 13 with (go_at_call 20; (with_reducible refine (ATY.out _ DD.out.below).mono ?_); rintro e w5 ⟨rfl, hb⟩; have DD := Lib.hid (DD.out.keep hb); have m1 := DD.out.G.k1; have m2 := DD.out.G.k2; have a5 := DD.out.keep (below_alloc1 w5 (.cells #[.int .i64 y1, .int .i64 y2] 24)); have n1 := a5.G.k1; have n2 := a5.G.k2; clear hb)
        go_cut [13, 14] from 39 to 78 (fun v13 v14 wx => DoMidT w b k (.slice A ll c) xn xd (.slice none 0 0) bn bd zn zd v (doneK (scaleH kb) l [] k) qn qd 0 v13 v14 wx)
        case first =>
          have HS := hold_dos (below_drew _) ((DD.out.keep (below_alloc1 w5 (.cells #[.int .i64 bn, .int .i64 bd] 24))).cells (RatAt.start w5 bn bd 24))
          generalize w5.heap.size = cy at *
          generalize w5.alloc (.cells #[.int .i64 bn, .int .i64 bd] 24) = wq at *
          clear DD m1 m2 k0 m0 a5 n1 n2
          refine wp_region_noPanic ?_
          refine wp_region_held_drew (S := (fun w' => ((w'.cell? ⟨w.heap.size, 0, none⟩ = some (.slice A ll c) ∧ w'.cell? ⟨w.heap.size, 1, none⟩ = some (.int .i64 xn) ∧ w'.cell? ⟨w.heap.size, 2, none⟩ = some (.int .i64 xd)) ∧ (w'.cell? ⟨cy, 0, none⟩ = some (.int .i64 bn) ∧ w'.cell? ⟨cy, 1, none⟩ = some (.int .i64 bd)) ∧ RatAt w' cy bn bd) ∧ DoS w w' b k (.slice A ll c) xn xd (.slice none 0 0) bn bd zn zd v (doneK (scaleH kb) l [] k))) (by kernel_rfl) HS (fun hHeld => ?_)
          clear HS
          refine wpAnyH_take (i := 0) (oi := _) (v := ?_) rfl (by kernel_rfl) (by kernel_rfl) (by kernel_rfl) (fun _ _ _ h => h) (Or.inl ⟨by rfl, ?_⟩) (by assumption) ?_
          rotate_left
          · intro ww hSw
            (try dsimp only at hSw)
            go_simp <;> with_reducible rfl
          (try simp only [List.getElem_toArray, List.getElem_cons_zero, Act.put, List.setIfInBounds_toArray, List.set_cons_zero, List.set_cons_succ])
          refine wpAnyH_take (i := 1) (oi := _) (v := ?_) rfl (by kernel_rfl) (by kernel_rfl) (by kernel_rfl) (fun _ _ _ h => h) (Or.inl ⟨by rfl, ?_⟩) (by assumption) ?_
          rotate_left
          · intro ww hSw
            (try dsimp only at hSw)
            go_simp <;> with_reducible rfl
          (try simp only [List.getElem_toArray, List.getElem_cons_succ, List.getElem_cons_zero, Act.put, List.setIfInBounds_toArray, List.set_cons_zero, List.set_cons_succ])
          refine wpAnyH_take (i := 2) (oi := _) (v := ?_) rfl (by kernel_rfl) (by kernel_rfl) (by kernel_rfl) (fun _ _ _ h => h) (Or.inl ⟨by rfl, ?_⟩) (by assumption) ?_
          rotate_left
          · intro ww hSw
            (try dsimp only at hSw)
            go_simp <;> with_reducible rfl
          (try simp only [List.getElem_toArray, List.getElem_cons_succ, List.getElem_cons_zero, Act.put, List.setIfInBounds_toArray, List.set_cons_zero, List.set_cons_succ])
          refine wpAnyH_take (i := 4) (oi := _) (v := ?_) rfl (by kernel_rfl) (by kernel_rfl) (by kernel_rfl) (fun _ _ _ h => h) (Or.inl ⟨by rfl, ?_⟩) (by assumption) ?_
          rotate_left
          · intro ww hSw
            (try dsimp only at hSw)
            go_simp <;> with_reducible rfl
          (try simp only [List.getElem_toArray, List.getElem_cons_succ, List.getElem_cons_zero, Act.put, List.setIfInBounds_toArray, List.set_cons_zero, List.set_cons_succ])
          refine wpAnyH_ready (rs := [3, 9]) (by kernel_rfl) (by simp) ?_
          refine AllReadyH.cons (o := _) rfl (fun K hK => ?_) ?_
          · go_simp
            (first
              | (go_at_call 20; (with_reducible refine (ATX.out _ (dos_of (by with_reducible assumption)).below).mono ?_); rintro e w6 ⟨rfl, hb⟩; (try (have HC := Lib.hid (HC.out.keep hb))))
              | (go_at_call 23; (with_reducible refine (HW.out _).mono ?_); rintro e w7 ⟨rfl, hb⟩; (try (have HC := Lib.hid (HC.out.keep hb)))))
            go_wp2_with fail
            refine hK.out _ _ (hold_dos (by with_reducible assumption) (by with_reducible assumption)) (fun hH2 => ?_)
            clear hK K hHeld hb
            have hHeld := hH2
            clear hH2
            (try simp only [List.getElem_toArray, List.getElem_cons_succ, List.getElem_cons_zero, Act.put, List.setIfInBounds_toArray, List.set_cons_zero, List.set_cons_succ])
            refine wpAnyH_ready (rs := [5, 9]) (by kernel_rfl) (by simp) ?_
            refine AllReadyH.cons (o := _) rfl (fun K hK => ?_) ?_
            · go_simp
              (first
                | (go_at_call 20; (with_reducible refine (ATX.out _ (dos_of (by with_reducible assumption)).below).mono ?_); rintro e w6 ⟨rfl, hb⟩; (try (have HC := Lib.hid (HC.out.keep hb))))
                | (go_at_call 23; (with_reducible refine (HW.out _).mono ?_); rintro e w7 ⟨rfl, hb⟩; (try (have HC := Lib.hid (HC.out.keep hb)))))
              go_wp2_with fail
              refine hK.out _ _ (hold_dos (by with_reducible assumption) (by with_reducible assumption)) (fun hH2 => ?_)
              clear hK K hHeld hb
              have hHeld := hH2
              clear hH2
              (try simp only [List.getElem_toArray, List.getElem_cons_succ, List.getElem_cons_zero, Act.put, List.setIfInBounds_toArray, List.set_cons_zero, List.set_cons_succ])
              refine wpAnyH_take (i := 6) (oi := _) (v := ?_) rfl (by kernel_rfl) (by kernel_rfl) (by kernel_rfl) (fun _ _ _ h => h) (Or.inl ⟨by rfl, ?_⟩) (by assumption) ?_
              rotate_left
              · intro ww hSw
                (try dsimp only at hSw)
                go_simp <;> with_reducible rfl
              (try simp only [List.getElem_toArray, List.getElem_cons_succ, List.getElem_cons_zero, Act.put, List.setIfInBounds_toArray, List.set_cons_zero, List.set_cons_succ])
              refine wpAnyH_take (i := 7) (oi := _) (v := ?_) rfl (by kernel_rfl) (by kernel_rfl) (by kernel_rfl) (fun _ _ _ h => h) (Or.inl ⟨by rfl, ?_⟩) (by assumption) ?_
              rotate_left
              · intro ww hSw
                (try dsimp only at hSw)
                go_simp <;> with_reducible rfl
              (try simp only [List.getElem_toArray, List.getElem_cons_succ, List.getElem_cons_zero, Act.put, List.setIfInBounds_toArray, List.set_cons_zero, List.set_cons_succ])
              refine wpAnyH_take (i := 8) (oi := _) (v := ?_) rfl (by kernel_rfl) (by kernel_rfl) (by kernel_rfl) (fun _ _ _ h => h) (Or.inl ⟨by rfl, ?_⟩) (by assumption) ?_
              rotate_left
              · intro ww hSw
                (try dsimp only at hSw)
                go_simp <;> with_reducible rfl
              (try simp only [List.getElem_toArray, List.getElem_cons_succ, List.getElem_cons_zero, Act.put, List.setIfInBounds_toArray, List.set_cons_zero, List.set_cons_succ])
              refine wpAnyH_ready (rs := [9]) (by kernel_rfl) (by simp) ?_
              refine AllReadyH.cons (o := _) rfl (fun K hK => ?_) AllReadyH.nil
              go_simp
              refine hK.out _ _ (hold_dos (below_alloc1 _ _) (by with_reducible assumption)) (fun hH2 => ?_)
              clear hK K
              (first | have HC := Lib.hid (hole_of hH2) | have HC := Lib.hid (hole_of2 hH2))
              have hHeld0 := Lib.hid hHeld
              clear hHeld
              have hHeld := hH2
              clear hH2
              (try simp only [List.getElem_toArray, List.getElem_cons_succ, List.getElem_cons_zero, Act.put, List.setIfInBounds_toArray, List.set_cons_zero, List.set_cons_succ])
              refine wpAnyH_ready (rs := [10]) (by kernel_rfl) (by simp) ?_
              refine AllReadyH.cons (o := _) rfl (fun K hK => ?_) AllReadyH.nil
              obtain ⟨h6, h0, h1, h2, h3, h4, h5⟩ := HC.out
              clear h6
              go_simp
              clear h0 h1 h2 h3 h4 h5
              (first
                | refine hK.out _ _ (hold_dos (below_alloc1 _ _) hHeld0.out) (fun hH2 => ?_)
                | refine hK.out _ _ (hold_dos (HC.out.fill _ _).1 hHeld0.out) (fun hH2 => ?_))
              clear hK K hHeld
              have hHeld := hH2
              clear hH2
              (try simp only [List.getElem_toArray, List.getElem_cons_succ, List.getElem_cons_zero, Act.put, List.setIfInBounds_toArray, List.set_cons_zero, List.set_cons_succ])
              refine wpAnyH_take (i := 11) (oi := _) (v := ?_) rfl (by kernel_rfl) (by kernel_rfl) (by kernel_rfl) (fun _ _ _ h => h) (Or.inl ⟨by rfl, ?_⟩) (by assumption) ?_
              rotate_left
              · intro ww hSw
                (try dsimp only at hSw)
                go_simp <;> with_reducible rfl
              (try simp only [List.getElem_toArray, List.getElem_cons_succ, List.getElem_cons_zero, Act.put, List.setIfInBounds_toArray, List.set_cons_zero, List.set_cons_succ])
              refine wpAnyH_done (by kernel_rfl) ?_ _
              refine NoPanic.normal ?_
              go_wp2_with fail
              go_meet
              case rel => first | exact mid_alloc (dos_of hHeld0.out) 24 | exact mid_fill (dos_of hHeld0.out) HC.out
            refine AllReadyH.cons (o := _) rfl (fun K hK => ?_) AllReadyH.nil
            go_simp
            refine hK.out _ _ (hold_dos (below_alloc1 _ _) (by with_reducible assumption)) (fun hH2 => ?_)
            clear hK K
            (first | have HC := Lib.hid (hole_of hH2) | have HC := Lib.hid (hole_of2 hH2))
            have hHeld0 := Lib.hid hHeld
            clear hHeld
            have hHeld := hH2
            clear hH2
            (try simp only [List.getElem_toArray, List.getElem_cons_succ, List.getElem_cons_zero, Act.put, List.setIfInBounds_toArray, List.set_cons_zero, List.set_cons_succ])
            refine wpAnyH_ready (rs := [5]) (by kernel_rfl) (by simp) ?_
            refine AllReadyH.cons (o := _) rfl (fun K hK => ?_) AllReadyH.nil
            go_simp
            (first
              | (go_at_call 20; (with_reducible refine (ATX.out _ (dos_of (by with_reducible assumption)).below).mono ?_); rintro e w6 ⟨rfl, hb⟩; (try (have HC := Lib.hid (HC.out.keep hb))))
              | (go_at_call 23; (with_reducible refine (HW.out _).mono ?_); rintro e w7 ⟨rfl, hb⟩; (try (have HC := Lib.hid (HC.out.keep hb)))))
            go_wp2_with fail
            refine hK.out _ _ (hold_dos (by with_reducible assumption) (by with_reducible assumption)) (fun hH2 => ?_)
            clear hK K hHeld hb
            have hHeld := hH2
            clear hH2
            (try simp only [List.getElem_toArray, List.getElem_cons_succ, List.getElem_cons_zero, Act.put, List.setIfInBounds_toArray, List.set_cons_zero, List.set_cons_succ])
            refine wpAnyH_take (i := 6) (oi := _) (v := ?_) rfl (by kernel_rfl) (by kernel_rfl) (by kernel_rfl) (fun _ _ _ h => h) (Or.inl ⟨by rfl, ?_⟩) (by assumption) ?_
            rotate_left
            · intro ww hSw
              (try dsimp only at hSw)
              go_simp <;> with_reducible rfl
            (try simp only [List.getElem_toArray, List.getElem_cons_succ, List.getElem_cons_zero, Act.put, List.setIfInBounds_toArray, List.set_cons_zero, List.set_cons_succ])
            refine wpAnyH_take (i := 7) (oi := _) (v := ?_) rfl (by kernel_rfl) (by kernel_rfl) (by kernel_rfl) (fun _ _ _ h => h) (Or.inl ⟨by rfl, ?_⟩) (by assumption) ?_
            rotate_left
            · intro ww hSw
              (try dsimp only at hSw)
              go_simp <;> with_reducible rfl
            (try simp only [List.getElem_toArray, List.getElem_cons_succ, List.getElem_cons_zero, Act.put, List.setIfInBounds_toArray, List.set_cons_zero, List.set_cons_succ])
            refine wpAnyH_take (i := 8) (oi := _) (v := ?_) rfl (by kernel_rfl) (by kernel_rfl) (by kernel_rfl) (fun _ _ _ h => h) (Or.inl ⟨by rfl, ?_⟩) (by assumption) ?_
            rotate_left
            · intro ww hSw
              (try dsimp only at hSw)
              go_simp <;> with_reducible rfl
            (try simp only [List.getElem_toArray, List.getElem_cons_succ, List.getElem_cons_zero, Act.put, List.setIfInBounds_toArray, List.set_cons_zero, List.set_cons_succ])
            refine wpAnyH_ready (rs := [10]) (by kernel_rfl) (by simp) ?_
            refine AllReadyH.cons (o := _) rfl (fun K hK => ?_) AllReadyH.nil
            obtain ⟨h6, h0, h1, h2, h3, h4, h5⟩ := HC.out
            clear h6
            go_simp
            clear h0 h1 h2 h3 h4 h5
            (first
              | refine hK.out _ _ (hold_dos (below_alloc1 _ _) hHeld0.out) (fun hH2 => ?_)
              | refine hK.out _ _ (hold_dos (HC.out.fill _ _).1 hHeld0.out) (fun hH2 => ?_))
            clear hK K hHeld
            have hHeld := hH2
            clear hH2
            (try simp only [List.getElem_toArray, List.getElem_cons_succ, List.getElem_cons_zero, Act.put, List.setIfInBounds_toArray, List.set_cons_zero, List.set_cons_succ])
            refine wpAnyH_take (i := 11) (oi := _) (v := ?_) rfl (by kernel_rfl) (by kernel_rfl) (by kernel_rfl) (fun _ _ _ h => h) (Or.inl ⟨by rfl, ?_⟩) (by assumption) ?_
            rotate_left
            · intro ww hSw
              (try dsimp only at hSw)
              go_simp <;> with_reducible rfl
            (try simp only [List.getElem_toArray, List.getElem_cons_succ, List.getElem_cons_zero, Act.put, List.setIfInBounds_toArray, List.set_cons_zero, List.set_cons_succ])
            refine wpAnyH_done (by kernel_rfl) ?_ _
            refine NoPanic.normal ?_
            go_wp2_with fail
            go_meet
            case rel => first | exact mid_alloc (dos_of hHeld0.out) 24 | exact mid_fill (dos_of hHeld0.out) HC.out
          refine AllReadyH.cons (o := _) rfl (fun K hK => ?_) AllReadyH.nil
          go_simp
          refine hK.out _ _ (hold_dos (below_alloc1 _ _) (by with_reducible assumption)) (fun hH2 => ?_)
          clear hK K
          (first | have HC := Lib.hid (hole_of hH2) | have HC := Lib.hid (hole_of2 hH2))
          have hHeld0 := Lib.hid hHeld
          clear hHeld
          have hHeld := hH2
          clear hH2
          (try simp only [List.getElem_toArray, List.getElem_cons_succ, List.getElem_cons_zero, Act.put, List.setIfInBounds_toArray, List.set_cons_zero, List.set_cons_succ])
          refine wpAnyH_ready (rs := [3]) (by kernel_rfl) (by simp) ?_
          refine AllReadyH.cons (o := _) rfl (fun K hK => ?_) AllReadyH.nil
          go_simp
          (first
            | (go_at_call 20; (with_reducible refine (ATX.out _ (dos_of (by with_reducible assumption)).below).mono ?_); rintro e w6 ⟨rfl, hb⟩; (try (have HC := Lib.hid (HC.out.keep hb))))
            | (go_at_call 23; (with_reducible refine (HW.out _).mono ?_); rintro e w7 ⟨rfl, hb⟩; (try (have HC := Lib.hid (HC.out.keep hb)))))
          go_wp2_with fail
          refine hK.out _ _ (hold_dos (by with_reducible assumption) (by with_reducible assumption)) (fun hH2 => ?_)
          clear hK K hHeld hb
          have hHeld := hH2
          clear hH2
          (try simp only [List.getElem_toArray, List.getElem_cons_succ, List.getElem_cons_zero, Act.put, List.setIfInBounds_toArray, List.set_cons_zero, List.set_cons_succ])
          refine wpAnyH_ready (rs := [5]) (by kernel_rfl) (by simp) ?_
          refine AllReadyH.cons (o := _) rfl (fun K hK => ?_) AllReadyH.nil
          go_simp
          (first
            | (go_at_call 20; (with_reducible refine (ATX.out _ (dos_of (by with_reducible assumption)).below).mono ?_); rintro e w6 ⟨rfl, hb⟩; (try (have HC := Lib.hid (HC.out.keep hb))))
            | (go_at_call 23; (with_reducible refine (HW.out _).mono ?_); rintro e w7 ⟨rfl, hb⟩; (try (have HC := Lib.hid (HC.out.keep hb)))))
          go_wp2_with fail
          refine hK.out _ _ (hold_dos (by with_reducible assumption) (by with_reducible assumption)) (fun hH2 => ?_)
          clear hK K hHeld hb
          have hHeld := hH2
          clear hH2
          (try simp only [List.getElem_toArray, List.getElem_cons_succ, List.getElem_cons_zero, Act.put, List.setIfInBounds_toArray, List.set_cons_zero, List.set_cons_succ])
          refine wpAnyH_take (i := 6) (oi := _) (v := ?_) rfl (by kernel_rfl) (by kernel_rfl) (by kernel_rfl) (fun _ _ _ h => h) (Or.inl ⟨by rfl, ?_⟩) (by assumption) ?_
          rotate_left
          · intro ww hSw
            (try dsimp only at hSw)
            go_simp <;> with_reducible rfl
          (try simp only [List.getElem_toArray, List.getElem_cons_succ, List.getElem_cons_zero, Act.put, List.setIfInBounds_toArray, List.set_cons_zero, List.set_cons_succ])
          refine wpAnyH_take (i := 7) (oi := _) (v := ?_) rfl (by kernel_rfl) (by kernel_rfl) (by kernel_rfl) (fun _ _ _ h => h) (Or.inl ⟨by rfl, ?_⟩) (by assumption) ?_
          rotate_left
          · intro ww hSw
            (try dsimp only at hSw)
            go_simp <;> with_reducible rfl
          (try simp only [List.getElem_toArray, List.getElem_cons_succ, List.getElem_cons_zero, Act.put, List.setIfInBounds_toArray, List.set_cons_zero, List.set_cons_succ])
          refine wpAnyH_take (i := 8) (oi := _) (v := ?_) rfl (by kernel_rfl) (by kernel_rfl) (by kernel_rfl) (fun _ _ _ h => h) (Or.inl ⟨by rfl, ?_⟩) (by assumption) ?_
          rotate_left
          · intro ww hSw
            (try dsimp only at hSw)
            go_simp <;> with_reducible rfl
          (try simp only [List.getElem_toArray, List.getElem_cons_succ, List.getElem_cons_zero, Act.put, List.setIfInBounds_toArray, List.set_cons_zero, List.set_cons_succ])
          refine wpAnyH_ready (rs := [10]) (by kernel_rfl) (by simp) ?_
          refine AllReadyH.cons (o := _) rfl (fun K hK => ?_) AllReadyH.nil
          obtain ⟨h6, h0, h1, h2, h3, h4, h5⟩ := HC.out
          clear h6
          go_simp
          clear h0 h1 h2 h3 h4 h5
          (first
            | refine hK.out _ _ (hold_dos (below_alloc1 _ _) hHeld0.out) (fun hH2 => ?_)
            | refine hK.out _ _ (hold_dos (HC.out.fill _ _).1 hHeld0.out) (fun hH2 => ?_))
          clear hK K hHeld
          have hHeld := hH2
          clear hH2
          (try simp only [List.getElem_toArray, List.getElem_cons_succ, List.getElem_cons_zero, Act.put, List.setIfInBounds_toArray, List.set_cons_zero, List.set_cons_succ])
          refine wpAnyH_take (i := 11) (oi := _) (v := ?_) rfl (by kernel_rfl) (by kernel_rfl) (by kernel_rfl) (fun _ _ _ h => h) (Or.inl ⟨by rfl, ?_⟩) (by assumption) ?_
          rotate_left
          · intro ww hSw
            (try dsimp only at hSw)
            go_simp <;> with_reducible rfl
          (try simp only [List.getElem_toArray, List.getElem_cons_succ, List.getElem_cons_zero, Act.put, List.setIfInBounds_toArray, List.set_cons_zero, List.set_cons_succ])
          refine wpAnyH_done (by kernel_rfl) ?_ _
          refine NoPanic.normal ?_
          go_wp2_with fail
          go_meet
          case rel => first | exact mid_alloc (dos_of hHeld0.out) 24 | exact mid_fill (dos_of hHeld0.out) HC.out
        case rest =>
          obtain ⟨cc, rfl, rfl, RC, D⟩ := hcut
          clear DD m1 m2 k0 m0 a5 n1 n2
          have rc0 := RC.k0; have rc1 := RC.k1
          have o0 := D.O.k0
          have DD := Lib.hid D
          have hkl : k ≤ 8 := by have := HLT.out; omega
          have szb : b + 2 ≤ wc.heap.size := by have := D.O.lt; omega
          clear D
          have OWN := Lib.hid DD.out.o
          go_wp2_with (at_builtin; refine wpList_append_own _ rfl _ _ 22 rfl (b + 2) 24 i0 (.agg #[.int .i64 0, .int .i64 0]) 2 16 Tryd.underlying22 hi hz0 hz1 hz2 rfl (by decide) _ _ _ rfl (OWN.out.alloc _) ⟨wc.heap.size, 0, none⟩ 1 1 [.int .i64 qn, .int .i64 qd] rfl rfl ?c1 ?c2 ?c3 ?c4 ?c5 ?_)
          case c1 => exact one_pair _ _ _
          case c2 => intro u hu; simp at hu; rcases hu with rfl | rfl <;> rfl
          case c3 => unfold maxLen; omega
          case c4 => omega
          case c5 => simp; omega
          intro v' w8 hown' hgrow _
          obtain ⟨Av8, cv8, rfl⟩ := own_shape hown'
          have D8 := DD.out.push (q := (qn, qd)) hgrow hown'
          have g8 := grown_belowR szb OWN.out hgrow
          have o8 := (DD.out.O.keepB g8 (by omega)).k0
          have f8 := (DD.out.O.keepB g8 (by omega)).l0
          have D8 := Lib.hid D8
          clear hown' hgrow g8
          have wk : IntKind.i64.wrap ((k : Int) + 1) = (k : Int) + 1 := IntWalk.i64_in _ (by have := HLT.out; omega)
          go_wp2_with fail
          go_roundg (ll - (k + 1))
          case measure => have := HK.out; have := HLT.out; omega
          case rel => exact ⟨k + 1, _, by push_cast; rfl, by have := HLT.out; omega, rfl, HC2.out, by rw [NX.out]; exact D8.out⟩
      · have hx1 : decide ((k : Int) < (ll : Int)) = true := decide_eq_true (by omega)
        have hx3 : (k : Int) < (ll : Int) := by omega
        have hx5 : decide (k < ll) = true := decide_eq_true (by omega)
        have atx := fun (w' : World) (hb : Below w.heap.size w w') => rat_any w' (.slice A ll c) l xn xd k (TS.out.1.below hb)
        have aty := fun (w' : World) (hb : Below w.heap.size w w') => rat_any w' (.slice none 0 0) [] bn bd k (TS.out.2.below hb)
        have hw := fun (w' : World) => HOW.out w' k
        rw [HH.out k he0] at hw
        have ATX := Lib.hid atx; have ATY := Lib.hid aty; have HW := Lib.hid hw
        have HLT := Lib.hid hlt
        have HK := Lib.hid hg
        have DD := Lib.hid D
        have m1 := D.G.k1; have m2 := D.G.k2
        clear atx aty hw D hck he0 hg hkn hk hlt
        generalize atL l k = x at *
        generalize atL [] k = y at *
        obtain ⟨x1, x2⟩ := x
        obtain ⟨y1, y2⟩ := y
        dsimp only at *
        go_upto_region 13 with (go_at_call 20; (with_reducible refine (ATY.out _ DD.out.below).mono ?_); rintro e w5 ⟨rfl, hb⟩; have DD := Lib.hid (DD.out.keep hb); have m1 := DD.out.G.k1; have m2 := DD.out.G.k2; have a5 := DD.out.keep (below_alloc1 w5 (.cells #[.int .i64 y1, .int .i64 y2] 24)); have n1 := a5.G.k1; have n2 := a5.G.k2; clear hb)
        go_cut [13, 14] from 39 to 78 (fun v13 v14 wx => DoMidT w b k (.slice A ll c) xn xd (.slice none 0 0) bn bd zn zd v (doneK (scaleH kb) l [] k) 0 0 3 v13 v14 wx)
        case first =>
          have HS := hold_dos (below_drew _) ((DD.out.keep (below_alloc1 w5 (.cells #[.int .i64 bn, .int .i64 bd] 24))).cells (RatAt.start w5 bn bd 24))
          generalize w5.heap.size = cy at *
          generalize w5.alloc (.cells #[.int .i64 bn, .int .i64 bd] 24) = wq at *
          clear DD m1 m2 k0 m0 a5 n1 n2
          refine wp_region_noPanic ?_
          refine wp_region_held_drew (S := (fun w' => ((w'.cell? ⟨w.heap.size, 0, none⟩ = some (.slice A ll c) ∧ w'.cell? ⟨w.heap.size, 1, none⟩ = some (.int .i64 xn) ∧ w'.cell? ⟨w.heap.size, 2, none⟩ = some (.int .i64 xd)) ∧ (w'.cell? ⟨cy, 0, none⟩ = some (.int .i64 bn) ∧ w'.cell? ⟨cy, 1, none⟩ = some (.int .i64 bd)) ∧ RatAt w' cy bn bd) ∧ DoS w w' b k (.slice A ll c) xn xd (.slice none 0 0) bn bd zn zd v (doneK (scaleH kb) l [] k))) (by kernel_rfl) HS (fun hHeld => ?_)
          clear HS
          refine wpAnyH_take (i := 0) (oi := _) (v := ?_) rfl (by kernel_rfl) (by kernel_rfl) (by kernel_rfl) (fun _ _ _ h => h) (Or.inl ⟨by rfl, ?_⟩) (by assumption) ?_
          rotate_left
          · intro ww hSw
            (try dsimp only at hSw)
            go_simp <;> with_reducible rfl
          (try simp only [List.getElem_toArray, List.getElem_cons_zero, Act.put, List.setIfInBounds_toArray, List.set_cons_zero, List.set_cons_succ])
          refine wpAnyH_take (i := 1) (oi := _) (v := ?_) rfl (by kernel_rfl) (by kernel_rfl) (by kernel_rfl) (fun _ _ _ h => h) (Or.inl ⟨by rfl, ?_⟩) (by assumption) ?_
          rotate_left
          · intro ww hSw
            (try dsimp only at hSw)
            go_simp <;> with_reducible rfl
          (try simp only [List.getElem_toArray, List.getElem_cons_succ, List.getElem_cons_zero, Act.put, List.setIfInBounds_toArray, List.set_cons_zero, List.set_cons_succ])
          refine wpAnyH_take (i := 2) (oi := _) (v := ?_) rfl (by kernel_rfl) (by kernel_rfl) (by kernel_rfl) (fun _ _ _ h => h) (Or.inl ⟨by rfl, ?_⟩) (by assumption) ?_
          rotate_left
          · intro ww hSw
            (try dsimp only at hSw)
            go_simp <;> with_reducible rfl
          (try simp only [List.getElem_toArray, List.getElem_cons_succ, List.getElem_cons_zero, Act.put, List.setIfInBounds_toArray, List.set_cons_zero, List.set_cons_succ])
          refine wpAnyH_take (i := 4) (oi := _) (v := ?_) rfl (by kernel_rfl) (by kernel_rfl) (by kernel_rfl) (fun _ _ _ h => h) (Or.inl ⟨by rfl, ?_⟩) (by assumption) ?_
          rotate_left
          · intro ww hSw
            (try dsimp only at hSw)
            go_simp <;> with_reducible rfl
          (try simp only [List.getElem_toArray, List.getElem_cons_succ, List.getElem_cons_zero, Act.put, List.setIfInBounds_toArray, List.set_cons_zero, List.set_cons_succ])
          refine wpAnyH_ready (rs := [3, 9]) (by kernel_rfl) (by simp) ?_
          refine AllReadyH.cons (o := _) rfl (fun K hK => ?_) ?_
          · go_simp
            (first
              | (go_at_call 20; (with_reducible refine (ATX.out _ (dos_of (by with_reducible assumption)).below).mono ?_); rintro e w6 ⟨rfl, hb⟩; (try (have HC := Lib.hid (HC.out.keep hb))))
              | (go_at_call 23; (with_reducible refine (HW.out _).mono ?_); rintro e w7 ⟨rfl, hb⟩; (try (have HC := Lib.hid (HC.out.keep hb)))))
            go_wp2_with fail
            refine hK.out _ _ (hold_dos (by with_reducible assumption) (by with_reducible assumption)) (fun hH2 => ?_)
            clear hK K hHeld hb
            have hHeld := hH2
            clear hH2
            (try simp only [List.getElem_toArray, List.getElem_cons_succ, List.getElem_cons_zero, Act.put, List.setIfInBounds_toArray, List.set_cons_zero, List.set_cons_succ])
            refine wpAnyH_ready (rs := [5, 9]) (by kernel_rfl) (by simp) ?_
            refine AllReadyH.cons (o := _) rfl (fun K hK => ?_) ?_
            · go_simp
              (first
                | (go_at_call 20; (with_reducible refine (ATX.out _ (dos_of (by with_reducible assumption)).below).mono ?_); rintro e w6 ⟨rfl, hb⟩; (try (have HC := Lib.hid (HC.out.keep hb))))
                | (go_at_call 23; (with_reducible refine (HW.out _).mono ?_); rintro e w7 ⟨rfl, hb⟩; (try (have HC := Lib.hid (HC.out.keep hb)))))
              go_wp2_with fail
              refine hK.out _ _ (hold_dos (by with_reducible assumption) (by with_reducible assumption)) (fun hH2 => ?_)
              clear hK K hHeld hb
              have hHeld := hH2
              clear hH2
              (try simp only [List.getElem_toArray, List.getElem_cons_succ, List.getElem_cons_zero, Act.put, List.setIfInBounds_toArray, List.set_cons_zero, List.set_cons_succ])
              refine wpAnyH_take (i := 6) (oi := _) (v := ?_) rfl (by kernel_rfl) (by kernel_rfl) (by kernel_rfl) (fun _ _ _ h => h) (Or.inl ⟨by rfl, ?_⟩) (by assumption) ?_
              rotate_left
              · intro ww hSw
                (try dsimp only at hSw)
                go_simp <;> with_reducible rfl
              (try simp only [List.getElem_toArray, List.getElem_cons_succ, List.getElem_cons_zero, Act.put, List.setIfInBounds_toArray, List.set_cons_zero, List.set_cons_succ])
              refine wpAnyH_take (i := 7) (oi := _) (v := ?_) rfl (by kernel_rfl) (by kernel_rfl) (by kernel_rfl) (fun _ _ _ h => h) (Or.inl ⟨by rfl, ?_⟩) (by assumption) ?_
              rotate_left
              · intro ww hSw
                (try dsimp only at hSw)
                go_simp <;> with_reducible rfl
              (try simp only [List.getElem_toArray, List.getElem_cons_succ, List.getElem_cons_zero, Act.put, List.setIfInBounds_toArray, List.set_cons_zero, List.set_cons_succ])
              refine wpAnyH_take (i := 8) (oi := _) (v := ?_) rfl (by kernel_rfl) (by kernel_rfl) (by kernel_rfl) (fun _ _ _ h => h) (Or.inl ⟨by rfl, ?_⟩) (by assumption) ?_
              rotate_left
              · intro ww hSw
                (try dsimp only at hSw)
                go_simp <;> with_reducible rfl
              (try simp only [List.getElem_toArray, List.getElem_cons_succ, List.getElem_cons_zero, Act.put, List.setIfInBounds_toArray, List.set_cons_zero, List.set_cons_succ])
              refine wpAnyH_ready (rs := [9]) (by kernel_rfl) (by simp) ?_
              refine AllReadyH.cons (o := _) rfl (fun K hK => ?_) AllReadyH.nil
              go_simp
              refine hK.out _ _ (hold_dos (below_alloc1 _ _) (by with_reducible assumption)) (fun hH2 => ?_)
              clear hK K
              (first | have HC := Lib.hid (hole_of hH2) | have HC := Lib.hid (hole_of2 hH2))
              have hHeld0 := Lib.hid hHeld
              clear hHeld
              have hHeld := hH2
              clear hH2
              (try simp only [List.getElem_toArray, List.getElem_cons_succ, List.getElem_cons_zero, Act.put, List.setIfInBounds_toArray, List.set_cons_zero, List.set_cons_succ])
              refine wpAnyH_ready (rs := [10]) (by kernel_rfl) (by simp) ?_
              refine AllReadyH.cons (o := _) rfl (fun K hK => ?_) AllReadyH.nil
              obtain ⟨h6, h0, h1, h2, h3, h4, h5⟩ := HC.out
              clear h6
              go_simp
              clear h0 h1 h2 h3 h4 h5
              (first
                | refine hK.out _ _ (hold_dos (below_alloc1 _ _) hHeld0.out) (fun hH2 => ?_)
                | refine hK.out _ _ (hold_dos (HC.out.fill _ _).1 hHeld0.out) (fun hH2 => ?_))
              clear hK K hHeld
              have hHeld := hH2
              clear hH2
              (try simp only [List.getElem_toArray, List.getElem_cons_succ, List.getElem_cons_zero, Act.put, List.setIfInBounds_toArray, List.set_cons_zero, List.set_cons_succ])
              refine wpAnyH_take (i := 11) (oi := _) (v := ?_) rfl (by kernel_rfl) (by kernel_rfl) (by kernel_rfl) (fun _ _ _ h => h) (Or.inl ⟨by rfl, ?_⟩) (by assumption) ?_
              rotate_left
              · intro ww hSw
                (try dsimp only at hSw)
                go_simp <;> with_reducible rfl
              (try simp only [List.getElem_toArray, List.getElem_cons_succ, List.getElem_cons_zero, Act.put, List.setIfInBounds_toArray, List.set_cons_zero, List.set_cons_succ])
              refine wpAnyH_done (by kernel_rfl) ?_ _
              refine NoPanic.normal ?_
              go_wp2_with fail
              go_meet
              case rel => first | exact mid_alloc (dos_of hHeld0.out) 24 | exact mid_fill (dos_of hHeld0.out) HC.out
            refine AllReadyH.cons (o := _) rfl (fun K hK => ?_) AllReadyH.nil
            go_simp
            refine hK.out _ _ (hold_dos (below_alloc1 _ _) (by with_reducible assumption)) (fun hH2 => ?_)
            clear hK K
            (first | have HC := Lib.hid (hole_of hH2) | have HC := Lib.hid (hole_of2 hH2))
            have hHeld0 := Lib.hid hHeld
            clear hHeld
            have hHeld := hH2
            clear hH2
            (try simp only [List.getElem_toArray, List.getElem_cons_succ, List.getElem_cons_zero, Act.put, List.setIfInBounds_toArray, List.set_cons_zero, List.set_cons_succ])
            refine wpAnyH_ready (rs := [5]) (by kernel_rfl) (by simp) ?_
            refine AllReadyH.cons (o := _) rfl (fun K hK => ?_) AllReadyH.nil
            go_simp
            (first
              | (go_at_call 20; (with_reducible refine (ATX.out _ (dos_of (by with_reducible assumption)).below).mono ?_); rintro e w6 ⟨rfl, hb⟩; (try (have HC := Lib.hid (HC.out.keep hb))))
              | (go_at_call 23; (with_reducible refine (HW.out _).mono ?_); rintro e w7 ⟨rfl, hb⟩; (try (have HC := Lib.hid (HC.out.keep hb)))))
            go_wp2_with fail
            refine hK.out _ _ (hold_dos (by with_reducible assumption) (by with_reducible assumption)) (fun hH2 => ?_)
            clear hK K hHeld hb
            have hHeld := hH2
            clear hH2
            (try simp only [List.getElem_toArray, List.getElem_cons_succ, List.getElem_cons_zero, Act.put, List.setIfInBounds_toArray, List.set_cons_zero, List.set_cons_succ])
            refine wpAnyH_take (i := 6) (oi := _) (v := ?_) rfl (by kernel_rfl) (by kernel_rfl) (by kernel_rfl) (fun _ _ _ h => h) (Or.inl ⟨by rfl, ?_⟩) (by assumption) ?_
            rotate_left
            · intro ww hSw
              (try dsimp only at hSw)
              go_simp <;> with_reducible rfl
            (try simp only [List.getElem_toArray, List.getElem_cons_succ, List.getElem_cons_zero, Act.put, List.setIfInBounds_toArray, List.set_cons_zero, List.set_cons_succ])
            refine wpAnyH_take (i := 7) (oi := _) (v := ?_) rfl (by kernel_rfl) (by kernel_rfl) (by kernel_rfl) (fun _ _ _ h => h) (Or.inl ⟨by rfl, ?_⟩) (by assumption) ?_
            rotate_left
            · intro ww hSw
              (try dsimp only at hSw)
              go_simp <;> with_reducible rfl
            (try simp only [List.getElem_toArray, List.getElem_cons_succ, List.getElem_cons_zero, Act.put, List.setIfInBounds_toArray, List.set_cons_zero, List.set_cons_succ])
            refine wpAnyH_take (i := 8) (oi := _) (v := ?_) rfl (by kernel_rfl) (by kernel_rfl) (by kernel_rfl) (fun _ _ _ h => h) (Or.inl ⟨by rfl, ?_⟩) (by assumption) ?_
            rotate_left
            · intro ww hSw
              (try dsimp only at hSw)
              go_simp <;> with_reducible rfl
            (try simp only [List.getElem_toArray, List.getElem_cons_succ, List.getElem_cons_zero, Act.put, List.setIfInBounds_toArray, List.set_cons_zero, List.set_cons_succ])
            refine wpAnyH_ready (rs := [10]) (by kernel_rfl) (by simp) ?_
            refine AllReadyH.cons (o := _) rfl (fun K hK => ?_) AllReadyH.nil
            obtain ⟨h6, h0, h1, h2, h3, h4, h5⟩ := HC.out
            clear h6
            go_simp
            clear h0 h1 h2 h3 h4 h5
            (first
              | refine hK.out _ _ (hold_dos (below_alloc1 _ _) hHeld0.out) (fun hH2 => ?_)
              | refine hK.out _ _ (hold_dos (HC.out.fill _ _).1 hHeld0.out) (fun hH2 => ?_))
            clear hK K hHeld
            have hHeld := hH2
            clear hH2
            (try simp only [List.getElem_toArray, List.getElem_cons_succ, List.getElem_cons_zero, Act.put, List.setIfInBounds_toArray, List.set_cons_zero, List.set_cons_succ])
            refine wpAnyH_take (i := 11) (oi := _) (v := ?_) rfl (by kernel_rfl) (by kernel_rfl) (by kernel_rfl) (fun _ _ _ h => h) (Or.inl ⟨by rfl, ?_⟩) (by assumption) ?_
            rotate_left
            · intro ww hSw
              (try dsimp only at hSw)
              go_simp <;> with_reducible rfl
            (try simp only [List.getElem_toArray, List.getElem_cons_succ, List.getElem_cons_zero, Act.put, List.setIfInBounds_toArray, List.set_cons_zero, List.set_cons_succ])
            refine wpAnyH_done (by kernel_rfl) ?_ _
            refine NoPanic.normal ?_
            go_wp2_with fail
            go_meet
            case rel => first | exact mid_alloc (dos_of hHeld0.out) 24 | exact mid_fill (dos_of hHeld0.out) HC.out
          refine AllReadyH.cons (o := _) rfl (fun K hK => ?_) AllReadyH.nil
          go_simp
          refine hK.out _ _ (hold_dos (below_alloc1 _ _) (by with_reducible assumption)) (fun hH2 => ?_)
          clear hK K
          (first | have HC := Lib.hid (hole_of hH2) | have HC := Lib.hid (hole_of2 hH2))
          have hHeld0 := Lib.hid hHeld
          clear hHeld
          have hHeld := hH2
          clear hH2
          (try simp only [List.getElem_toArray, List.getElem_cons_succ, List.getElem_cons_zero, Act.put, List.setIfInBounds_toArray, List.set_cons_zero, List.set_cons_succ])
          refine wpAnyH_ready (rs := [3]) (by kernel_rfl) (by simp) ?_
          refine AllReadyH.cons (o := _) rfl (fun K hK => ?_) AllReadyH.nil
          go_simp
          (first
            | (go_at_call 20; (with_reducible refine (ATX.out _ (dos_of (by with_reducible assumption)).below).mono ?_); rintro e w6 ⟨rfl, hb⟩; (try (have HC := Lib.hid (HC.out.keep hb))))
            | (go_at_call 23; (with_reducible refine (HW.out _).mono ?_); rintro e w7 ⟨rfl, hb⟩; (try (have HC := Lib.hid (HC.out.keep hb)))))
          go_wp2_with fail
          refine hK.out _ _ (hold_dos (by with_reducible assumption) (by with_reducible assumption)) (fun hH2 => ?_)
          clear hK K hHeld hb
          have hHeld := hH2
          clear hH2
          (try simp only [List.getElem_toArray, List.getElem_cons_succ, List.getElem_cons_zero, Act.put, List.setIfInBounds_toArray, List.set_cons_zero, List.set_cons_succ])
          refine wpAnyH_ready (rs := [5]) (by kernel_rfl) (by simp) ?_
          refine AllReadyH.cons (o := _) rfl (fun K hK => ?_) AllReadyH.nil
          go_simp
          (first
            | (go_at_call 20; (with_reducible refine (ATX.out _ (dos_of (by with_reducible assumption)).below).mono ?_); rintro e w6 ⟨rfl, hb⟩; (try (have HC := Lib.hid (HC.out.keep hb))))
            | (go_at_call 23; (with_reducible refine (HW.out _).mono ?_); rintro e w7 ⟨rfl, hb⟩; (try (have HC := Lib.hid (HC.out.keep hb)))))
          go_wp2_with fail
          refine hK.out _ _ (hold_dos (by with_reducible assumption) (by with_reducible assumption)) (fun hH2 => ?_)
          clear hK K hHeld hb
          have hHeld := hH2
          clear hH2
          (try simp only [List.getElem_toArray, List.getElem_cons_succ, List.getElem_cons_zero, Act.put, List.setIfInBounds_toArray, List.set_cons_zero, List.set_cons_succ])
          refine wpAnyH_take (i := 6) (oi := _) (v := ?_) rfl (by kernel_rfl) (by kernel_rfl) (by kernel_rfl) (fun _ _ _ h => h) (Or.inl ⟨by rfl, ?_⟩) (by assumption) ?_
          rotate_left
          · intro ww hSw
            (try dsimp only at hSw)
            go_simp <;> with_reducible rfl
          (try simp only [List.getElem_toArray, List.getElem_cons_succ, List.getElem_cons_zero, Act.put, List.setIfInBounds_toArray, List.set_cons_zero, List.set_cons_succ])
          refine wpAnyH_take (i := 7) (oi := _) (v := ?_) rfl (by kernel_rfl) (by kernel_rfl) (by kernel_rfl) (fun _ _ _ h => h) (Or.inl ⟨by rfl, ?_⟩) (by assumption) ?_
          rotate_left
          · intro ww hSw
            (try dsimp only at hSw)
            go_simp <;> with_reducible rfl
          (try simp only [List.getElem_toArray, List.getElem_cons_succ, List.getElem_cons_zero, Act.put, List.setIfInBounds_toArray, List.set_cons_zero, List.set_cons_succ])
          refine wpAnyH_take (i := 8) (oi := _) (v := ?_) rfl (by kernel_rfl) (by kernel_rfl) (by kernel_rfl) (fun _ _ _ h => h) (Or.inl ⟨by rfl, ?_⟩) (by assumption) ?_
          rotate_left
          · intro ww hSw
            (try dsimp only at hSw)
            go_simp <;> with_reducible rfl
          (try simp only [List.getElem_toArray, List.getElem_cons_succ, List.getElem_cons_zero, Act.put, List.setIfInBounds_toArray, List.set_cons_zero, List.set_cons_succ])
          refine wpAnyH_ready (rs := [10]) (by kernel_rfl) (by simp) ?_
          refine AllReadyH.cons (o := _) rfl (fun K hK => ?_) AllReadyH.nil
          obtain ⟨h6, h0, h1, h2, h3, h4, h5⟩ := HC.out
          clear h6
          go_simp
          clear h0 h1 h2 h3 h4 h5
          (first
            | refine hK.out _ _ (hold_dos (below_alloc1 _ _) hHeld0.out) (fun hH2 => ?_)
            | refine hK.out _ _ (hold_dos (HC.out.fill _ _).1 hHeld0.out) (fun hH2 => ?_))
          clear hK K hHeld
          have hHeld := hH2
          clear hH2
          (try simp only [List.getElem_toArray, List.getElem_cons_succ, List.getElem_cons_zero, Act.put, List.setIfInBounds_toArray, List.set_cons_zero, List.set_cons_succ])
          refine wpAnyH_take (i := 11) (oi := _) (v := ?_) rfl (by kernel_rfl) (by kernel_rfl) (by kernel_rfl) (fun _ _ _ h => h) (Or.inl ⟨by rfl, ?_⟩) (by assumption) ?_
          rotate_left
          · intro ww hSw
            (try dsimp only at hSw)
            go_simp <;> with_reducible rfl
          (try simp only [List.getElem_toArray, List.getElem_cons_succ, List.getElem_cons_zero, Act.put, List.setIfInBounds_toArray, List.set_cons_zero, List.set_cons_succ])
          refine wpAnyH_done (by kernel_rfl) ?_ _
          refine NoPanic.normal ?_
          go_wp2_with fail
          go_meet
          case rel => first | exact mid_alloc (dos_of hHeld0.out) 24 | exact mid_fill (dos_of hHeld0.out) HC.out
        case rest =>
          obtain ⟨cc, rfl, rfl, RC, H⟩ := hcut
          clear DD m1 m2 k0 m0 a5 n1 n2 RC
          have k0 := H.E.k0; have k1 := H.E.k1; have k2 := H.E.k2; have l0 := H.E.l0; have l1 := H.E.l1; have l2 := H.E.l2
          have b1 := Lib.hid H.below
          clear H
          go_wp2_with fail
          obtain ⟨c0, c1, c2⟩ := set_three (x := .slice none 0 0) (y := .int .i64 0) (z := .int .i64 0) k0 k1 k2
          refine bodyPost_ret (v := .tuple #[.agg #[.slice none 0 0, .int .i64 0, .int .i64 0], .int .i64 3]) (by simp [results, Tryd.results12, go_sem, c0, c1, c2]) rfl ⟨_, rfl, RatsAt.nil _, ?_, Fresh.none_ _ _ _⟩
          exact ((b1.out.setCell (by show w.heap.size ≤ w.heap.size + 1 + 1; omega) _).setCell (by show w.heap.size ≤ w.heap.size + 1 + 1; omega) _).setCell (by show w.heap.size ≤ w.heap.size + 1 + 1; omega) _
end Go.Proofs.YtkgndeiddjkhmaaDoor
