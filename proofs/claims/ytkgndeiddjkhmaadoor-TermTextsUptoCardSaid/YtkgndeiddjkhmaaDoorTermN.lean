/-
  The walk of the law TermOwn. (Template: by-name.py fills it; gen/genOwn.py writes it.)
-/
import Derived.Test.YtkgndeiddjkhmaaDoorTermM
import Derived.Test.YtkgndeiddjkhmaaDoorTermI
import Derived.Test.YtkgndeiddjkhmaaDoorTermG
import Derived.Deep.RegionHeld3
namespace Go.Proofs.YtkgndeiddjkhmaaDoor
open Go.RowKit

/-- What stands in the law: both boxes, the own form's row. -/
structure OwnS (w w1 : World) (b : Nat) (s : Value) (kn kd : Int) (v : Value) (m : List (Int × Int)) (mn md : Int) : Prop where
  t : FracBox w1 w.heap.size s (.int .i64 kn) (.int .i64 kd)
  o : FracBox w1 b v (.int .i64 mn) (.int .i64 md)
  r : RatsAt w1 v m
  below : Below w.heap.size w w1

theorem OwnS.keep {w w1 w2 : World} {b : Nat} {s v : Value} {kn kd mn md : Int} {m : List (Int × Int)} (h : OwnS w w1 b s kn kd v m mn md) (hb : Below w1.heap.size w1 w2) : OwnS w w2 b s kn kd v m mn md :=
  ⟨h.t.keep hb, h.o.keep hb, h.r.below hb, h.below.trans (hb.mono h.below.size)⟩

theorem hold_own3 {w w1 w2 : World} {b : Nat} {s v : Value} {kn kd mn md : Int} {m : List (Int × Int)} {A : Prop} (hb : Below w1.heap.size w1 w2) (h : A ∧ OwnS w w1 b s kn kd v m mn md) :
    (w2.cell? ⟨b, 0, none⟩ = some v ∧ w2.cell? ⟨b, 1, none⟩ = some (.int .i64 mn) ∧ w2.cell? ⟨b, 2, none⟩ = some (.int .i64 md)) ∧ OwnS w w2 b s kn kd v m mn md :=
  have H := h.2.keep hb
  ⟨⟨H.o.k0, H.o.k1, H.o.k2⟩, H⟩
theorem hold_own4 {w w1 w2 : World} {b : Nat} {s v : Value} {kn kd mn md : Int} {m : List (Int × Int)} {p : Addr} {u : Value} {A B C : Prop} (hb : Below w1.heap.size w1 w2) (h : (A ∧ B ∧ C ∧ w1.cell? p = some u) ∧ OwnS w w1 b s kn kd v m mn md) :
    (w2.cell? ⟨b, 0, none⟩ = some v ∧ w2.cell? ⟨b, 1, none⟩ = some (.int .i64 mn) ∧ w2.cell? ⟨b, 2, none⟩ = some (.int .i64 md) ∧ w2.cell? p = some u) ∧ OwnS w w2 b s kn kd v m mn md :=
  have H := h.2.keep hb
  ⟨⟨H.o.k0, H.o.k1, H.o.k2, (hb.cell (World.block_lt_of_cell? _ _ h.1.2.2.2)).trans h.1.2.2.2⟩, H⟩
theorem own_of {w w1 : World} {b : Nat} {s v : Value} {kn kd mn md : Int} {m : List (Int × Int)} {A : Prop} (h : A ∧ OwnS w w1 b s kn kd v m mn md) : OwnS w w1 b s kn kd v m mn md := h.2

theorem rats_form {w : World} {v : Value} {l : List (Int × Int)} (h : RatsAt w v l) : ∃ A c, v = .slice A l.length c := by
  obtain ⟨A, c, rfl, _⟩ := h
  exact ⟨A, c, rfl⟩
theorem rats_form0 {w : World} {v : Value} (h : RatsAt w v []) : ∃ A c, v = .slice A 0 c := rats_form h
theorem rats_last {w : World} {v : Value} {m : List (Int × Int)} (h : RatsAt w v m) (hne : 0 < m.length) :
    ∃ ad c x, v = .slice (some ad) m.length c ∧ m[m.length - 1]? = some x ∧ w.cell? (ad.add ((m.length - 1) * 2)) = some (.int .i64 x.1) ∧ m.length ≤ c ∧ c ≤ 9223372036854775807 := by
  obtain ⟨A, c, rfl, h2, h3, h4⟩ := h
  unfold maxLen at h3
  obtain ⟨x, hx⟩ : ∃ x, m[m.length - 1]? = some x := ⟨_, List.getElem?_eq_getElem (by omega)⟩
  obtain ⟨ad, rfl, c1, _⟩ := rats_at h4 hx hne
  exact ⟨ad, c, x, rfl, hx, c1, h2, h3⟩

theorem r2equal_same (w : World) (v v' : Value) (m : List (Int × Int)) (mn md : Int) (h : RatsAt w v m) (h' : RatsAt w v' m) :
    Calls Tryd.prog 14 #[.agg #[v, .int .i64 mn, .int .i64 md], .agg #[v', .int .i64 mn, .int .i64 md]] w fun r w' => r = .returned (.bool true) ∧ Below w.heap.size w w' :=
  (r2equal_any w v v' m m mn md mn md h h').mono fun _ _ q => ⟨q.1.trans (by simp), q.2⟩

theorem termnew_more {w w1 : World} {l : List (Int × Int)} {kn kd : Int} {e : Ending} (h : TermNew w l kn kd e w1) : ∃ v, e = .returned (.agg #[v, .int .i64 kn, .int .i64 kd]) ∧ RatsAt w1 v l ∧ Below w.heap.size w w1 := by
  obtain ⟨v, a, b, c, _⟩ := h
  exact ⟨v, a, b, c⟩

set_option maxRecDepth 4000 in
set_option maxHeartbeats 4000000 in
theorem own_law_wrong (w : World) (ht : Pow10 w) (s : Value) (l : List (Int × Int)) (kn kd : Int) (h : RatsAt w s l) (hw : Wide l) (h1 : -9223372036854775808 ≤ kn) (h2 : kn ≤ 9223372036854775807) (h3 : -9223372036854775808 ≤ kd) (h4 : kd ≤ 9223372036854775807) (hl : l.length ≤ 12)
    (hr : rightT l kn kd = false) :
    Calls Tryd.prog 8 #[.agg #[s, .int .i64 kn, .int .i64 kd]] w fun r w' => r = .returned (.bool true) ∧ Below w.heap.size w w' := by
  have ow := fun (w' : World) (hb : Below w.heap.size w w') => own_wrong w' s l kn kd (h.below hb) hw h1 h2 h3 h4 hr
  have hmr : rightT [] 0 1 = true := by
    unfold rightT allR
    rw [show rightB 0 1 = true from (show Valid 0 1 from ⟨by decide, by decide, by decide, by decide⟩).right]
    rfl
  have hmw : Wide [] := fun x hx => by cases hx
  have oo := fun (w' : World) (v : Value) (hv : RatsAt w' v []) => own_right w' v [] 0 1 hv hmw (by decide) (by decide) (by decide) (by decide) hmr
  rw [show trimL [] = [] from rfl] at oo
  have rr := fun (w' : World) (hb : Below w.heap.size w w') => r2right_any w' s l kn kd (h.below hb) hw h1 h2 h3 h4
  rw [hr] at rr
  have tr := fun (w' : World) (v : Value) (hv : RatsAt w' v []) => tright_any w' v [] 0 1 hv hmw (by decide) (by decide) (by decide) (by decide)
  rw [hmr] at tr
  have eq := fun (w' : World) (v v' : Value) (hv : RatsAt w' v []) (hv' : RatsAt w' v' []) => r2equal_same w' v v' [] 0 1 hv hv'
  have sa := fun (w' : World) (hb : Below w.heap.size w w') => small_any w' s l kn kd (h.below hb)
  rw [decide_eq_true hl] at sa
  have AW := Lib.hid (fun (w' : World) (hb : Below w.heap.size w w') => awake2_yes w' (pow10_on ht hb))
  have SA := Lib.hid sa; have OW := Lib.hid ow; have OO := Lib.hid oo; have RR := Lib.hid rr; have TR := Lib.hid tr; have EQ := Lib.hid eq
  obtain ⟨A, c, rfl⟩ := rats_form h
  generalize l.length = k at *
  clear ht h hw h1 h2 h3 h4 hr hl ow oo rr tr eq sa hmr hmw
  have F := FracBox.start w (.slice A k c) (.int .i64 kn) (.int .i64 kd) 26
  have hb0 := below_alloc1 w (.cells #[.slice A k c, .int .i64 kn, .int .i64 kd] 26)
  go_enter Tryd.func8, Tryd.ntmps8
  go_upto_region 3 with (first
    | (go_at_call 9; (with_reducible refine (AW.out _ hb0).mono ?_); rintro e w1 ⟨rfl, hb1⟩; have F := F.keep hb1; have b1 := hb0.trans (hb1.mono hb0.size); have k0 := F.k0; have k1 := F.k1; have k2 := F.k2)
    | (go_at_call 10; (with_reducible refine (SA.out _ b1).mono ?_); rintro e w2 ⟨rfl, hb2⟩; have F := F.keep hb2; have b2 := b1.trans (hb2.mono b1.size); have k0 := F.k0; have k1 := F.k1; have k2 := F.k2))
  go_upto_region 4 with (go_at_call 17; (with_reducible refine (OW.out _ b2).mono ?_); rintro e w3 hT3; obtain ⟨v3, rfl, hv3, hb3⟩ := termnew_more hT3; obtain ⟨A3, c3, rfl⟩ := rats_form0 hv3; clear hT3; have F := F.keep hb3; have b3 := b2.trans (hb3.mono b2.size))
  have G := FracBox.start w3 (.slice A3 0 c3) (.int .i64 0) (.int .i64 1) 26
  have a3 := below_alloc1 w3 (.cells #[(.slice A3 0 c3), .int .i64 0, .int .i64 1] 26)
  have HS := hold_own3 (below_drew _) (And.intro (And.intro G.k0 (And.intro G.k1 G.k2)) (OwnS.mk (F.keep a3) G (hv3.below a3) (b3.trans (a3.mono b3.size))))
  clear F G a3 b3 b2 b1 hb3 hb2 hb1 hb0 hv3 k0 k1 k2
  refine wp_region_noPanic ?_
  refine wp_region_held_drew (S := (fun w' => (w'.cell? ⟨w3.heap.size, 0, none⟩ = some (.slice A3 0 c3) ∧ w'.cell? ⟨w3.heap.size, 1, none⟩ = some (.int .i64 0) ∧ w'.cell? ⟨w3.heap.size, 2, none⟩ = some (.int .i64 1)) ∧ OwnS w w' w3.heap.size (.slice A k c) kn kd (.slice A3 0 c3) [] 0 1)) (by kernel_rfl) HS (fun hHeld => ?_)
  clear HS
  refine wpAnyH_take (i := 0) (oi := _) (v := ?_) rfl (by kernel_rfl) (by kernel_rfl) (by kernel_rfl) (fun _ _ _ h => h) (Or.inl ⟨by rfl, ?_⟩) (by assumption) ?_
  rotate_left
  · intro ww hSw
    (try dsimp only at hSw)
    go_simp <;> with_reducible rfl
  (try simp only [List.getElem_toArray, List.getElem_cons_zero, Act.put, List.setIfInBounds_toArray, List.set_cons_zero, List.set_cons_succ])
  refine wpAnyH_ready (rs := [1]) (by kernel_rfl) (by simp) ?_
  refine AllReadyH.cons (o := _) rfl (fun K hK => ?_) AllReadyH.nil
  go_simp
  (first
    | (go_at_call 15; (with_reducible refine (TR.out _ _ (own_of (by with_reducible assumption)).r).mono ?_); rintro e w5 ⟨rfl, hb⟩)
    | (go_at_call 17; (with_reducible refine (OO.out _ _ (own_of (by with_reducible assumption)).r).mono ?_); rintro e w6 hT6; obtain ⟨v6, rfl, hv6, hb⟩ := termnew_more hT6; clear hT6; have HV6 := Lib.hid hv6; clear hv6)
    | (go_at_call 14; (with_reducible refine (EQ.out _ _ _ HV6.out (own_of (by with_reducible assumption)).r).mono ?_); rintro e w7 ⟨rfl, hb⟩))
  go_wp2_with fail
  refine hK.out _ _ (hold_own3 (by with_reducible assumption) (by with_reducible assumption)) (fun hH2 => ?_)
  clear hK K hHeld hb
  have hHeld := hH2
  clear hH2
  (try simp only [List.getElem_toArray, List.getElem_cons_succ, List.getElem_cons_zero, Act.put, List.setIfInBounds_toArray, List.set_cons_zero, List.set_cons_succ])
  refine wpAnyH_take (i := 2) (oi := _) (v := ?_) rfl (by kernel_rfl) (by kernel_rfl) (by kernel_rfl) (fun _ _ _ h => h) (Or.inl ⟨by rfl, ?_⟩) (by assumption) ?_
  rotate_left
  · intro ww hSw
    (try dsimp only at hSw)
    go_simp <;> with_reducible rfl
  (try simp only [List.getElem_toArray, List.getElem_cons_succ, List.getElem_cons_zero, Act.put, List.setIfInBounds_toArray, List.set_cons_zero, List.set_cons_succ])
  refine wpAnyH_take (i := 3) (oi := _) (v := ?_) rfl (by kernel_rfl) (by kernel_rfl) (by kernel_rfl) (fun _ _ _ h => h) (Or.inl ⟨by rfl, ?_⟩) (by assumption) ?_
  rotate_left
  · intro ww hSw
    (try dsimp only at hSw)
    go_simp <;> with_reducible rfl
  (try simp only [List.getElem_toArray, List.getElem_cons_succ, List.getElem_cons_zero, Act.put, List.setIfInBounds_toArray, List.set_cons_zero, List.set_cons_succ])
  refine wpAnyH_take (i := 4) (oi := _) (v := ?_) rfl (by kernel_rfl) (by kernel_rfl) (by kernel_rfl) (fun _ _ _ h => h) (Or.inl ⟨by rfl, ?_⟩) (by assumption) ?_
  rotate_left
  · intro ww hSw
    (try dsimp only at hSw)
    go_simp <;> with_reducible rfl
  (try simp only [List.getElem_toArray, List.getElem_cons_succ, List.getElem_cons_zero, Act.put, List.setIfInBounds_toArray, List.set_cons_zero, List.set_cons_succ])
  refine wpAnyH_take (i := 6) (oi := _) (v := ?_) rfl (by kernel_rfl) (by kernel_rfl) (by kernel_rfl) (fun _ _ _ h => h) (Or.inl ⟨by rfl, ?_⟩) (by assumption) ?_
  rotate_left
  · intro ww hSw
    (try dsimp only at hSw)
    go_simp <;> with_reducible rfl
  (try simp only [List.getElem_toArray, List.getElem_cons_succ, List.getElem_cons_zero, Act.put, List.setIfInBounds_toArray, List.set_cons_zero, List.set_cons_succ])
  refine wpAnyH_ready (rs := [5]) (by kernel_rfl) (by simp) ?_
  refine AllReadyH.cons (o := _) rfl (fun K hK => ?_) AllReadyH.nil
  go_simp
  (first
    | (go_at_call 15; (with_reducible refine (TR.out _ _ (own_of (by with_reducible assumption)).r).mono ?_); rintro e w5 ⟨rfl, hb⟩)
    | (go_at_call 17; (with_reducible refine (OO.out _ _ (own_of (by with_reducible assumption)).r).mono ?_); rintro e w6 hT6; obtain ⟨v6, rfl, hv6, hb⟩ := termnew_more hT6; clear hT6; have HV6 := Lib.hid hv6; clear hv6)
    | (go_at_call 14; (with_reducible refine (EQ.out _ _ _ HV6.out (own_of (by with_reducible assumption)).r).mono ?_); rintro e w7 ⟨rfl, hb⟩))
  go_wp2_with fail
  refine hK.out _ _ (hold_own3 (by with_reducible assumption) (by with_reducible assumption)) (fun hH2 => ?_)
  clear hK K hHeld hb
  have hHeld := hH2
  clear hH2
  (try simp only [List.getElem_toArray, List.getElem_cons_succ, List.getElem_cons_zero, Act.put, List.setIfInBounds_toArray, List.set_cons_zero, List.set_cons_succ])
  refine wpAnyH_ready (rs := [7]) (by kernel_rfl) (by simp) ?_
  refine AllReadyH.cons (o := _) rfl (fun K hK => ?_) AllReadyH.nil
  go_simp
  (first
    | (go_at_call 15; (with_reducible refine (TR.out _ _ (own_of (by with_reducible assumption)).r).mono ?_); rintro e w5 ⟨rfl, hb⟩)
    | (go_at_call 17; (with_reducible refine (OO.out _ _ (own_of (by with_reducible assumption)).r).mono ?_); rintro e w6 hT6; obtain ⟨v6, rfl, hv6, hb⟩ := termnew_more hT6; clear hT6; have HV6 := Lib.hid hv6; clear hv6)
    | (go_at_call 14; (with_reducible refine (EQ.out _ _ _ HV6.out (own_of (by with_reducible assumption)).r).mono ?_); rintro e w7 ⟨rfl, hb⟩))
  go_wp2_with fail
  refine hK.out _ _ (hold_own3 (by with_reducible assumption) (by with_reducible assumption)) (fun hH2 => ?_)
  clear hK K hHeld hb
  have hHeld := hH2
  clear hH2
  (try simp only [List.getElem_toArray, List.getElem_cons_succ, List.getElem_cons_zero, Act.put, List.setIfInBounds_toArray, List.set_cons_zero, List.set_cons_succ])
  refine wpAnyH_take (i := 8) (oi := _) (v := ?_) rfl (by kernel_rfl) (by kernel_rfl) (by kernel_rfl) (fun _ _ _ h => h) (Or.inl ⟨by rfl, ?_⟩) (by assumption) ?_
  rotate_left
  · intro ww hSw
    (try dsimp only at hSw)
    go_simp <;> with_reducible rfl
  (try simp only [List.getElem_toArray, List.getElem_cons_succ, List.getElem_cons_zero, Act.put, List.setIfInBounds_toArray, List.set_cons_zero, List.set_cons_succ])
  refine wpAnyH_take (i := 9) (oi := _) (v := ?_) rfl (by kernel_rfl) (by kernel_rfl) (by kernel_rfl) (fun _ _ _ h => h) (Or.inl ⟨by rfl, ?_⟩) (by assumption) ?_
  rotate_left
  · intro ww hSw
    (try dsimp only at hSw)
    go_simp <;> with_reducible rfl
  (try simp only [List.getElem_toArray, List.getElem_cons_succ, List.getElem_cons_zero, Act.put, List.setIfInBounds_toArray, List.set_cons_zero, List.set_cons_succ])
  refine wpAnyH_take (i := 10) (oi := _) (v := ?_) rfl (by kernel_rfl) (by kernel_rfl) (by kernel_rfl) (fun _ _ _ h => h) (Or.inl ⟨by rfl, ?_⟩) (by assumption) ?_
  rotate_left
  · intro ww hSw
    (try dsimp only at hSw)
    go_simp <;> with_reducible rfl
  (try simp only [List.getElem_toArray, List.getElem_cons_succ, List.getElem_cons_zero, Act.put, List.setIfInBounds_toArray, List.set_cons_zero, List.set_cons_succ])
  refine wpAnyH_take (i := 11) (oi := _) (v := ?_) rfl (by kernel_rfl) (by kernel_rfl) (by kernel_rfl) (fun _ _ _ h => h) (Or.inl ⟨by rfl, ?_⟩) (by assumption) ?_
  rotate_left
  · intro ww hSw
    (try dsimp only at hSw)
    go_simp <;> with_reducible rfl
  (try simp only [List.getElem_toArray, List.getElem_cons_succ, List.getElem_cons_zero, Act.put, List.setIfInBounds_toArray, List.set_cons_zero, List.set_cons_succ])
  refine wpAnyH_take (i := 12) (oi := _) (v := ?_) rfl (by kernel_rfl) (by kernel_rfl) (by kernel_rfl) (fun _ _ _ h => h) (Or.inl ⟨by rfl, ?_⟩) (by assumption) ?_
  rotate_left
  · intro ww hSw
    (try dsimp only at hSw)
    go_simp <;> with_reducible rfl
  (try simp only [List.getElem_toArray, List.getElem_cons_succ, List.getElem_cons_zero, Act.put, List.setIfInBounds_toArray, List.set_cons_zero, List.set_cons_succ])
  refine wpAnyH_take (i := 13) (oi := _) (v := ?_) rfl (by kernel_rfl) (by kernel_rfl) (by kernel_rfl) (fun _ _ _ h => h) (Or.inl ⟨by rfl, ?_⟩) (by assumption) ?_
  rotate_left
  · intro ww hSw
    (try dsimp only at hSw)
    go_simp <;> with_reducible rfl
  (try simp only [List.getElem_toArray, List.getElem_cons_succ, List.getElem_cons_zero, Act.put, List.setIfInBounds_toArray, List.set_cons_zero, List.set_cons_succ])
  refine wpAnyH_take (i := 14) (oi := _) (v := ?_) rfl (by kernel_rfl) (by kernel_rfl) (by kernel_rfl) (fun _ _ _ h => h) (Or.inl ⟨by rfl, ?_⟩) (by assumption) ?_
  rotate_left
  · intro ww hSw
    (try dsimp only at hSw)
    go_simp <;> with_reducible rfl
  (try simp only [List.getElem_toArray, List.getElem_cons_succ, List.getElem_cons_zero, Act.put, List.setIfInBounds_toArray, List.set_cons_zero, List.set_cons_succ])
  refine wpAnyH_take (i := 15) (oi := _) (v := ?_) rfl (by kernel_rfl) (by kernel_rfl) (by kernel_rfl) (fun _ _ _ h => h) (Or.inl ⟨by rfl, ?_⟩) (by assumption) ?_
  rotate_left
  · intro ww hSw
    (try dsimp only at hSw)
    go_simp <;> with_reducible rfl
  (try simp only [List.getElem_toArray, List.getElem_cons_succ, List.getElem_cons_zero, Act.put, List.setIfInBounds_toArray, List.set_cons_zero, List.set_cons_succ])
  refine wpAnyH_take (i := 16) (oi := _) (v := undef) rfl (by kernel_rfl) (by kernel_rfl) (by kernel_rfl) (fun _ _ _ h => h) (Or.inr ⟨by rfl, rfl⟩) (by assumption) ?_
  (try simp only [List.getElem_toArray, List.getElem_cons_succ, List.getElem_cons_zero, Act.put, List.setIfInBounds_toArray, List.set_cons_zero, List.set_cons_succ])
  refine wpAnyH_take (i := 17) (oi := _) (v := undef) rfl (by kernel_rfl) (by kernel_rfl) (by kernel_rfl) (fun _ _ _ h => h) (Or.inr ⟨by rfl, rfl⟩) (by assumption) ?_
  (try simp only [List.getElem_toArray, List.getElem_cons_succ, List.getElem_cons_zero, Act.put, List.setIfInBounds_toArray, List.set_cons_zero, List.set_cons_succ])
  refine wpAnyH_take (i := 18) (oi := _) (v := undef) rfl (by kernel_rfl) (by kernel_rfl) (by kernel_rfl) (fun _ _ _ h => h) (Or.inr ⟨by rfl, rfl⟩) (by assumption) ?_
  (try simp only [List.getElem_toArray, List.getElem_cons_succ, List.getElem_cons_zero, Act.put, List.setIfInBounds_toArray, List.set_cons_zero, List.set_cons_succ])
  refine wpAnyH_take (i := 19) (oi := _) (v := undef) rfl (by kernel_rfl) (by kernel_rfl) (by kernel_rfl) (fun _ _ _ h => h) (Or.inr ⟨by rfl, rfl⟩) (by assumption) ?_
  (try simp only [List.getElem_toArray, List.getElem_cons_succ, List.getElem_cons_zero, Act.put, List.setIfInBounds_toArray, List.set_cons_zero, List.set_cons_succ])
  refine wpAnyH_take (i := 20) (oi := _) (v := undef) rfl (by kernel_rfl) (by kernel_rfl) (by kernel_rfl) (fun _ _ _ h => h) (Or.inr ⟨by rfl, rfl⟩) (by assumption) ?_
  (try simp only [List.getElem_toArray, List.getElem_cons_succ, List.getElem_cons_zero, Act.put, List.setIfInBounds_toArray, List.set_cons_zero, List.set_cons_succ])
  refine wpAnyH_take (i := 21) (oi := _) (v := undef) rfl (by kernel_rfl) (by kernel_rfl) (by kernel_rfl) (fun _ _ _ h => h) (Or.inr ⟨by rfl, rfl⟩) (by assumption) ?_
  (try simp only [List.getElem_toArray, List.getElem_cons_succ, List.getElem_cons_zero, Act.put, List.setIfInBounds_toArray, List.set_cons_zero, List.set_cons_succ])
  refine wpAnyH_take (i := 22) (oi := _) (v := undef) rfl (by kernel_rfl) (by kernel_rfl) (by kernel_rfl) (fun _ _ _ h => h) (Or.inr ⟨by rfl, rfl⟩) (by assumption) ?_
  (try simp only [List.getElem_toArray, List.getElem_cons_succ, List.getElem_cons_zero, Act.put, List.setIfInBounds_toArray, List.set_cons_zero, List.set_cons_succ])
  refine wpAnyH_take (i := 23) (oi := _) (v := undef) rfl (by kernel_rfl) (by kernel_rfl) (by kernel_rfl) (fun _ _ _ h => h) (Or.inr ⟨by rfl, rfl⟩) (by assumption) ?_
  (try simp only [List.getElem_toArray, List.getElem_cons_succ, List.getElem_cons_zero, Act.put, List.setIfInBounds_toArray, List.set_cons_zero, List.set_cons_succ])
  refine wpAnyH_take (i := 24) (oi := _) (v := undef) rfl (by kernel_rfl) (by kernel_rfl) (by kernel_rfl) (fun _ _ _ h => h) (Or.inr ⟨by rfl, rfl⟩) (by assumption) ?_
  (try simp only [List.getElem_toArray, List.getElem_cons_succ, List.getElem_cons_zero, Act.put, List.setIfInBounds_toArray, List.set_cons_zero, List.set_cons_succ])
  refine wpAnyH_take (i := 25) (oi := _) (v := undef) rfl (by kernel_rfl) (by kernel_rfl) (by kernel_rfl) (fun _ _ _ h => h) (Or.inr ⟨by rfl, rfl⟩) (by assumption) ?_
  (try simp only [List.getElem_toArray, List.getElem_cons_succ, List.getElem_cons_zero, Act.put, List.setIfInBounds_toArray, List.set_cons_zero, List.set_cons_succ])
  refine wpAnyH_take (i := 26) (oi := _) (v := ?_) rfl (by kernel_rfl) (by kernel_rfl) (by kernel_rfl) (fun _ _ _ h => h) (Or.inl ⟨by rfl, ?_⟩) (by assumption) ?_
  rotate_left
  · intro ww hSw
    (try dsimp only at hSw)
    go_simp <;> with_reducible rfl
  (try simp only [List.getElem_toArray, List.getElem_cons_succ, List.getElem_cons_zero, Act.put, List.setIfInBounds_toArray, List.set_cons_zero, List.set_cons_succ])
  refine wpAnyH_take (i := 27) (oi := _) (v := ?_) rfl (by kernel_rfl) (by kernel_rfl) (by kernel_rfl) (fun _ _ _ h => h) (Or.inl ⟨by rfl, ?_⟩) (by assumption) ?_
  rotate_left
  · intro ww hSw
    (try dsimp only at hSw)
    go_simp <;> with_reducible rfl
  (try simp only [List.getElem_toArray, List.getElem_cons_succ, List.getElem_cons_zero, Act.put, List.setIfInBounds_toArray, List.set_cons_zero, List.set_cons_succ])
  refine wpAnyH_done (by kernel_rfl) ?_ _
  refine NoPanic.normal ?_
  have H := own_of hHeld
  clear hHeld
  have k0 := H.t.k0; have k1 := H.t.k1; have k2 := H.t.k2
  go_wp2_with (go_at_call 16; (with_reducible refine (RR.out _ H.below).mono ?_); rintro e w8 ⟨rfl, hb8⟩; have H := H.keep hb8)
  go_ret
  exact ⟨rfl, H.below⟩

set_option maxRecDepth 4000 in
set_option maxHeartbeats 4000000 in
theorem own_law_none (w : World) (ht : Pow10 w) (s : Value) (l : List (Int × Int)) (kn kd : Int) (h : RatsAt w s l) (hw : Wide l) (h1 : -9223372036854775808 ≤ kn) (h2 : kn ≤ 9223372036854775807) (h3 : -9223372036854775808 ≤ kd) (h4 : kd ≤ 9223372036854775807) (hl : l.length ≤ 12)
    (hr : rightT l kn kd = true) (he : trimL l = []) :
    Calls Tryd.prog 8 #[.agg #[s, .int .i64 kn, .int .i64 kd]] w fun r w' => r = .returned (.bool true) ∧ Below w.heap.size w w' := by
  have ow := fun (w' : World) (hb : Below w.heap.size w w') => own_right w' s l kn kd (h.below hb) hw h1 h2 h3 h4 hr
  have hmr := right_trim hr
  have hmw := wide_trim hw
  have sm := fun (w' : World) (v : Value) (hv : RatsAt w' v (trimL l)) (hb : Below w.heap.size w w') => same_right w' v s (trimL l) l kn kd hv hmw (h.below hb) hw h1 h2 h3 h4 hmr hr
  rw [trimL_twice, decide_eq_true (rfl : trimL l = trimL l)] at sm
  have oo := fun (w' : World) (v : Value) (hv : RatsAt w' v (trimL l)) => own_right w' v (trimL l) kn kd hv hmw h1 h2 h3 h4 hmr
  rw [trimL_twice] at oo
  have hla := trimL_last l
  rw [he] at ow hmr hmw sm oo
  clear hla he
  obtain ⟨mn, hmn⟩ : ∃ mn, mn = kn := ⟨_, rfl⟩
  obtain ⟨md, hmd⟩ : ∃ md, md = kd := ⟨_, rfl⟩
  subst hmn
  subst hmd
  have rr := fun (w' : World) (hb : Below w.heap.size w w') => r2right_any w' s l mn md (h.below hb) hw h1 h2 h3 h4
  rw [hr] at rr
  have tr := fun (w' : World) (v : Value) (hv : RatsAt w' v []) => tright_any w' v [] mn md hv hmw h1 h2 h3 h4
  rw [hmr] at tr
  have eq := fun (w' : World) (v v' : Value) (hv : RatsAt w' v []) (hv' : RatsAt w' v' []) => r2equal_same w' v v' [] mn md hv hv'
  have sa := fun (w' : World) (hb : Below w.heap.size w w') => small_any w' s l mn md (h.below hb)
  rw [decide_eq_true hl] at sa
  have AW := Lib.hid (fun (w' : World) (hb : Below w.heap.size w w') => awake2_yes w' (pow10_on ht hb))
  have SA := Lib.hid sa; have OW := Lib.hid ow; have OO := Lib.hid oo; have RR := Lib.hid rr; have TR := Lib.hid tr; have EQ := Lib.hid eq
  have SM := Lib.hid sm
  obtain ⟨A, c, rfl⟩ := rats_form h
  generalize l.length = k at *
  clear ht h hw h1 h2 h3 h4 hr hl ow oo rr tr eq sa hmr hmw sm
  have F := FracBox.start w (.slice A k c) (.int .i64 mn) (.int .i64 md) 26
  have hb0 := below_alloc1 w (.cells #[.slice A k c, .int .i64 mn, .int .i64 md] 26)
  go_enter Tryd.func8, Tryd.ntmps8
  go_upto_region 3 with (first
    | (go_at_call 9; (with_reducible refine (AW.out _ hb0).mono ?_); rintro e w1 ⟨rfl, hb1⟩; have F := F.keep hb1; have b1 := hb0.trans (hb1.mono hb0.size); have k0 := F.k0; have k1 := F.k1; have k2 := F.k2)
    | (go_at_call 10; (with_reducible refine (SA.out _ b1).mono ?_); rintro e w2 ⟨rfl, hb2⟩; have F := F.keep hb2; have b2 := b1.trans (hb2.mono b1.size); have k0 := F.k0; have k1 := F.k1; have k2 := F.k2))
  go_upto_region 4 with (go_at_call 17; (with_reducible refine (OW.out _ b2).mono ?_); rintro e w3 hT3; obtain ⟨v3, rfl, hv3, hb3⟩ := termnew_more hT3; obtain ⟨A3, c3, rfl⟩ := rats_form0 hv3; clear hT3; have F := F.keep hb3; have b3 := b2.trans (hb3.mono b2.size))
  have G := FracBox.start w3 (.slice A3 0 c3) (.int .i64 mn) (.int .i64 md) 26
  have a3 := below_alloc1 w3 (.cells #[(.slice A3 0 c3), .int .i64 mn, .int .i64 md] 26)
  have HS := hold_own3 (below_drew _) (And.intro (And.intro G.k0 (And.intro G.k1 G.k2)) (OwnS.mk (F.keep a3) G (hv3.below a3) (b3.trans (a3.mono b3.size))))
  clear F G a3 b3 b2 b1 hb3 hb2 hb1 hb0 hv3 k0 k1 k2
  refine wp_region_noPanic ?_
  refine wp_region_held_drew (S := (fun w' => (w'.cell? ⟨w3.heap.size, 0, none⟩ = some (.slice A3 0 c3) ∧ w'.cell? ⟨w3.heap.size, 1, none⟩ = some (.int .i64 mn) ∧ w'.cell? ⟨w3.heap.size, 2, none⟩ = some (.int .i64 md)) ∧ OwnS w w' w3.heap.size (.slice A k c) mn md (.slice A3 0 c3) [] mn md)) (by kernel_rfl) HS (fun hHeld => ?_)
  clear HS
  refine wpAnyH_take (i := 0) (oi := _) (v := ?_) rfl (by kernel_rfl) (by kernel_rfl) (by kernel_rfl) (fun _ _ _ h => h) (Or.inl ⟨by rfl, ?_⟩) (by assumption) ?_
  rotate_left
  · intro ww hSw
    (try dsimp only at hSw)
    go_simp <;> with_reducible rfl
  (try simp only [List.getElem_toArray, List.getElem_cons_zero, Act.put, List.setIfInBounds_toArray, List.set_cons_zero, List.set_cons_succ])
  refine wpAnyH_ready (rs := [1]) (by kernel_rfl) (by simp) ?_
  refine AllReadyH.cons (o := _) rfl (fun K hK => ?_) AllReadyH.nil
  go_simp
  (first
    | (go_at_call 15; (with_reducible refine (TR.out _ _ (own_of (by with_reducible assumption)).r).mono ?_); rintro e w5 ⟨rfl, hb⟩)
    | (go_at_call 17; (with_reducible refine (OO.out _ _ (own_of (by with_reducible assumption)).r).mono ?_); rintro e w6 hT6; obtain ⟨v6, rfl, hv6, hb⟩ := termnew_more hT6; clear hT6; have HV6 := Lib.hid hv6; clear hv6)
    | (go_at_call 14; (with_reducible refine (EQ.out _ _ _ HV6.out (own_of (by with_reducible assumption)).r).mono ?_); rintro e w7 ⟨rfl, hb⟩))
  go_wp2_with fail
  refine hK.out _ _ (hold_own3 (by with_reducible assumption) (by with_reducible assumption)) (fun hH2 => ?_)
  clear hK K hHeld hb
  have hHeld := hH2
  clear hH2
  (try simp only [List.getElem_toArray, List.getElem_cons_succ, List.getElem_cons_zero, Act.put, List.setIfInBounds_toArray, List.set_cons_zero, List.set_cons_succ])
  refine wpAnyH_take (i := 2) (oi := _) (v := ?_) rfl (by kernel_rfl) (by kernel_rfl) (by kernel_rfl) (fun _ _ _ h => h) (Or.inl ⟨by rfl, ?_⟩) (by assumption) ?_
  rotate_left
  · intro ww hSw
    (try dsimp only at hSw)
    go_simp <;> with_reducible rfl
  (try simp only [List.getElem_toArray, List.getElem_cons_succ, List.getElem_cons_zero, Act.put, List.setIfInBounds_toArray, List.set_cons_zero, List.set_cons_succ])
  refine wpAnyH_take (i := 3) (oi := _) (v := ?_) rfl (by kernel_rfl) (by kernel_rfl) (by kernel_rfl) (fun _ _ _ h => h) (Or.inl ⟨by rfl, ?_⟩) (by assumption) ?_
  rotate_left
  · intro ww hSw
    (try dsimp only at hSw)
    go_simp <;> with_reducible rfl
  (try simp only [List.getElem_toArray, List.getElem_cons_succ, List.getElem_cons_zero, Act.put, List.setIfInBounds_toArray, List.set_cons_zero, List.set_cons_succ])
  refine wpAnyH_take (i := 4) (oi := _) (v := ?_) rfl (by kernel_rfl) (by kernel_rfl) (by kernel_rfl) (fun _ _ _ h => h) (Or.inl ⟨by rfl, ?_⟩) (by assumption) ?_
  rotate_left
  · intro ww hSw
    (try dsimp only at hSw)
    go_simp <;> with_reducible rfl
  (try simp only [List.getElem_toArray, List.getElem_cons_succ, List.getElem_cons_zero, Act.put, List.setIfInBounds_toArray, List.set_cons_zero, List.set_cons_succ])
  refine wpAnyH_take (i := 6) (oi := _) (v := ?_) rfl (by kernel_rfl) (by kernel_rfl) (by kernel_rfl) (fun _ _ _ h => h) (Or.inl ⟨by rfl, ?_⟩) (by assumption) ?_
  rotate_left
  · intro ww hSw
    (try dsimp only at hSw)
    go_simp <;> with_reducible rfl
  (try simp only [List.getElem_toArray, List.getElem_cons_succ, List.getElem_cons_zero, Act.put, List.setIfInBounds_toArray, List.set_cons_zero, List.set_cons_succ])
  refine wpAnyH_ready (rs := [5]) (by kernel_rfl) (by simp) ?_
  refine AllReadyH.cons (o := _) rfl (fun K hK => ?_) AllReadyH.nil
  go_simp
  (first
    | (go_at_call 15; (with_reducible refine (TR.out _ _ (own_of (by with_reducible assumption)).r).mono ?_); rintro e w5 ⟨rfl, hb⟩)
    | (go_at_call 17; (with_reducible refine (OO.out _ _ (own_of (by with_reducible assumption)).r).mono ?_); rintro e w6 hT6; obtain ⟨v6, rfl, hv6, hb⟩ := termnew_more hT6; clear hT6; have HV6 := Lib.hid hv6; clear hv6)
    | (go_at_call 14; (with_reducible refine (EQ.out _ _ _ HV6.out (own_of (by with_reducible assumption)).r).mono ?_); rintro e w7 ⟨rfl, hb⟩))
  go_wp2_with fail
  refine hK.out _ _ (hold_own3 (by with_reducible assumption) (by with_reducible assumption)) (fun hH2 => ?_)
  clear hK K hHeld hb
  have hHeld := hH2
  clear hH2
  (try simp only [List.getElem_toArray, List.getElem_cons_succ, List.getElem_cons_zero, Act.put, List.setIfInBounds_toArray, List.set_cons_zero, List.set_cons_succ])
  refine wpAnyH_ready (rs := [7]) (by kernel_rfl) (by simp) ?_
  refine AllReadyH.cons (o := _) rfl (fun K hK => ?_) AllReadyH.nil
  go_simp
  (first
    | (go_at_call 15; (with_reducible refine (TR.out _ _ (own_of (by with_reducible assumption)).r).mono ?_); rintro e w5 ⟨rfl, hb⟩)
    | (go_at_call 17; (with_reducible refine (OO.out _ _ (own_of (by with_reducible assumption)).r).mono ?_); rintro e w6 hT6; obtain ⟨v6, rfl, hv6, hb⟩ := termnew_more hT6; clear hT6; have HV6 := Lib.hid hv6; clear hv6)
    | (go_at_call 14; (with_reducible refine (EQ.out _ _ _ HV6.out (own_of (by with_reducible assumption)).r).mono ?_); rintro e w7 ⟨rfl, hb⟩))
  go_wp2_with fail
  refine hK.out _ _ (hold_own3 (by with_reducible assumption) (by with_reducible assumption)) (fun hH2 => ?_)
  clear hK K hHeld hb
  have hHeld := hH2
  clear hH2
  (try simp only [List.getElem_toArray, List.getElem_cons_succ, List.getElem_cons_zero, Act.put, List.setIfInBounds_toArray, List.set_cons_zero, List.set_cons_succ])
  refine wpAnyH_take (i := 8) (oi := _) (v := ?_) rfl (by kernel_rfl) (by kernel_rfl) (by kernel_rfl) (fun _ _ _ h => h) (Or.inl ⟨by rfl, ?_⟩) (by assumption) ?_
  rotate_left
  · intro ww hSw
    (try dsimp only at hSw)
    go_simp <;> with_reducible rfl
  (try simp only [List.getElem_toArray, List.getElem_cons_succ, List.getElem_cons_zero, Act.put, List.setIfInBounds_toArray, List.set_cons_zero, List.set_cons_succ])
  refine wpAnyH_take (i := 9) (oi := _) (v := ?_) rfl (by kernel_rfl) (by kernel_rfl) (by kernel_rfl) (fun _ _ _ h => h) (Or.inl ⟨by rfl, ?_⟩) (by assumption) ?_
  rotate_left
  · intro ww hSw
    (try dsimp only at hSw)
    go_simp <;> with_reducible rfl
  (try simp only [List.getElem_toArray, List.getElem_cons_succ, List.getElem_cons_zero, Act.put, List.setIfInBounds_toArray, List.set_cons_zero, List.set_cons_succ])
  refine wpAnyH_take (i := 10) (oi := _) (v := ?_) rfl (by kernel_rfl) (by kernel_rfl) (by kernel_rfl) (fun _ _ _ h => h) (Or.inl ⟨by rfl, ?_⟩) (by assumption) ?_
  rotate_left
  · intro ww hSw
    (try dsimp only at hSw)
    go_simp <;> with_reducible rfl
  (try simp only [List.getElem_toArray, List.getElem_cons_succ, List.getElem_cons_zero, Act.put, List.setIfInBounds_toArray, List.set_cons_zero, List.set_cons_succ])
  refine wpAnyH_take (i := 11) (oi := _) (v := ?_) rfl (by kernel_rfl) (by kernel_rfl) (by kernel_rfl) (fun _ _ _ h => h) (Or.inl ⟨by rfl, ?_⟩) (by assumption) ?_
  rotate_left
  · intro ww hSw
    (try dsimp only at hSw)
    go_simp <;> with_reducible rfl
  (try simp only [List.getElem_toArray, List.getElem_cons_succ, List.getElem_cons_zero, Act.put, List.setIfInBounds_toArray, List.set_cons_zero, List.set_cons_succ])
  refine wpAnyH_take (i := 12) (oi := _) (v := ?_) rfl (by kernel_rfl) (by kernel_rfl) (by kernel_rfl) (fun _ _ _ h => h) (Or.inl ⟨by rfl, ?_⟩) (by assumption) ?_
  rotate_left
  · intro ww hSw
    (try dsimp only at hSw)
    go_simp <;> with_reducible rfl
  (try simp only [List.getElem_toArray, List.getElem_cons_succ, List.getElem_cons_zero, Act.put, List.setIfInBounds_toArray, List.set_cons_zero, List.set_cons_succ])
  refine wpAnyH_take (i := 13) (oi := _) (v := ?_) rfl (by kernel_rfl) (by kernel_rfl) (by kernel_rfl) (fun _ _ _ h => h) (Or.inl ⟨by rfl, ?_⟩) (by assumption) ?_
  rotate_left
  · intro ww hSw
    (try dsimp only at hSw)
    go_simp <;> with_reducible rfl
  (try simp only [List.getElem_toArray, List.getElem_cons_succ, List.getElem_cons_zero, Act.put, List.setIfInBounds_toArray, List.set_cons_zero, List.set_cons_succ])
  refine wpAnyH_take (i := 14) (oi := _) (v := ?_) rfl (by kernel_rfl) (by kernel_rfl) (by kernel_rfl) (fun _ _ _ h => h) (Or.inl ⟨by rfl, ?_⟩) (by assumption) ?_
  rotate_left
  · intro ww hSw
    (try dsimp only at hSw)
    go_simp <;> with_reducible rfl
  (try simp only [List.getElem_toArray, List.getElem_cons_succ, List.getElem_cons_zero, Act.put, List.setIfInBounds_toArray, List.set_cons_zero, List.set_cons_succ])
  refine wpAnyH_take (i := 15) (oi := _) (v := ?_) rfl (by kernel_rfl) (by kernel_rfl) (by kernel_rfl) (fun _ _ _ h => h) (Or.inl ⟨by rfl, ?_⟩) (by assumption) ?_
  rotate_left
  · intro ww hSw
    (try dsimp only at hSw)
    go_simp <;> with_reducible rfl
  (try simp only [List.getElem_toArray, List.getElem_cons_succ, List.getElem_cons_zero, Act.put, List.setIfInBounds_toArray, List.set_cons_zero, List.set_cons_succ])
  refine wpAnyH_take (i := 16) (oi := _) (v := undef) rfl (by kernel_rfl) (by kernel_rfl) (by kernel_rfl) (fun _ _ _ h => h) (Or.inr ⟨by rfl, rfl⟩) (by assumption) ?_
  (try simp only [List.getElem_toArray, List.getElem_cons_succ, List.getElem_cons_zero, Act.put, List.setIfInBounds_toArray, List.set_cons_zero, List.set_cons_succ])
  refine wpAnyH_take (i := 17) (oi := _) (v := undef) rfl (by kernel_rfl) (by kernel_rfl) (by kernel_rfl) (fun _ _ _ h => h) (Or.inr ⟨by rfl, rfl⟩) (by assumption) ?_
  (try simp only [List.getElem_toArray, List.getElem_cons_succ, List.getElem_cons_zero, Act.put, List.setIfInBounds_toArray, List.set_cons_zero, List.set_cons_succ])
  refine wpAnyH_take (i := 18) (oi := _) (v := undef) rfl (by kernel_rfl) (by kernel_rfl) (by kernel_rfl) (fun _ _ _ h => h) (Or.inr ⟨by rfl, rfl⟩) (by assumption) ?_
  (try simp only [List.getElem_toArray, List.getElem_cons_succ, List.getElem_cons_zero, Act.put, List.setIfInBounds_toArray, List.set_cons_zero, List.set_cons_succ])
  refine wpAnyH_take (i := 19) (oi := _) (v := undef) rfl (by kernel_rfl) (by kernel_rfl) (by kernel_rfl) (fun _ _ _ h => h) (Or.inr ⟨by rfl, rfl⟩) (by assumption) ?_
  (try simp only [List.getElem_toArray, List.getElem_cons_succ, List.getElem_cons_zero, Act.put, List.setIfInBounds_toArray, List.set_cons_zero, List.set_cons_succ])
  refine wpAnyH_take (i := 20) (oi := _) (v := undef) rfl (by kernel_rfl) (by kernel_rfl) (by kernel_rfl) (fun _ _ _ h => h) (Or.inr ⟨by rfl, rfl⟩) (by assumption) ?_
  (try simp only [List.getElem_toArray, List.getElem_cons_succ, List.getElem_cons_zero, Act.put, List.setIfInBounds_toArray, List.set_cons_zero, List.set_cons_succ])
  refine wpAnyH_take (i := 21) (oi := _) (v := undef) rfl (by kernel_rfl) (by kernel_rfl) (by kernel_rfl) (fun _ _ _ h => h) (Or.inr ⟨by rfl, rfl⟩) (by assumption) ?_
  (try simp only [List.getElem_toArray, List.getElem_cons_succ, List.getElem_cons_zero, Act.put, List.setIfInBounds_toArray, List.set_cons_zero, List.set_cons_succ])
  refine wpAnyH_take (i := 22) (oi := _) (v := undef) rfl (by kernel_rfl) (by kernel_rfl) (by kernel_rfl) (fun _ _ _ h => h) (Or.inr ⟨by rfl, rfl⟩) (by assumption) ?_
  (try simp only [List.getElem_toArray, List.getElem_cons_succ, List.getElem_cons_zero, Act.put, List.setIfInBounds_toArray, List.set_cons_zero, List.set_cons_succ])
  refine wpAnyH_take (i := 23) (oi := _) (v := undef) rfl (by kernel_rfl) (by kernel_rfl) (by kernel_rfl) (fun _ _ _ h => h) (Or.inr ⟨by rfl, rfl⟩) (by assumption) ?_
  (try simp only [List.getElem_toArray, List.getElem_cons_succ, List.getElem_cons_zero, Act.put, List.setIfInBounds_toArray, List.set_cons_zero, List.set_cons_succ])
  refine wpAnyH_take (i := 24) (oi := _) (v := undef) rfl (by kernel_rfl) (by kernel_rfl) (by kernel_rfl) (fun _ _ _ h => h) (Or.inr ⟨by rfl, rfl⟩) (by assumption) ?_
  (try simp only [List.getElem_toArray, List.getElem_cons_succ, List.getElem_cons_zero, Act.put, List.setIfInBounds_toArray, List.set_cons_zero, List.set_cons_succ])
  refine wpAnyH_take (i := 25) (oi := _) (v := undef) rfl (by kernel_rfl) (by kernel_rfl) (by kernel_rfl) (fun _ _ _ h => h) (Or.inr ⟨by rfl, rfl⟩) (by assumption) ?_
  (try simp only [List.getElem_toArray, List.getElem_cons_succ, List.getElem_cons_zero, Act.put, List.setIfInBounds_toArray, List.set_cons_zero, List.set_cons_succ])
  refine wpAnyH_take (i := 26) (oi := _) (v := ?_) rfl (by kernel_rfl) (by kernel_rfl) (by kernel_rfl) (fun _ _ _ h => h) (Or.inl ⟨by rfl, ?_⟩) (by assumption) ?_
  rotate_left
  · intro ww hSw
    (try dsimp only at hSw)
    go_simp <;> with_reducible rfl
  (try simp only [List.getElem_toArray, List.getElem_cons_succ, List.getElem_cons_zero, Act.put, List.setIfInBounds_toArray, List.set_cons_zero, List.set_cons_succ])
  refine wpAnyH_take (i := 27) (oi := _) (v := ?_) rfl (by kernel_rfl) (by kernel_rfl) (by kernel_rfl) (fun _ _ _ h => h) (Or.inl ⟨by rfl, ?_⟩) (by assumption) ?_
  rotate_left
  · intro ww hSw
    (try dsimp only at hSw)
    go_simp <;> with_reducible rfl
  (try simp only [List.getElem_toArray, List.getElem_cons_succ, List.getElem_cons_zero, Act.put, List.setIfInBounds_toArray, List.set_cons_zero, List.set_cons_succ])
  refine wpAnyH_done (by kernel_rfl) ?_ _
  refine NoPanic.normal ?_
  have H := own_of hHeld
  clear hHeld
  have k0 := H.t.k0; have k1 := H.t.k1; have k2 := H.t.k2
  go_wp2_with (first
    | (go_at_call 16; (with_reducible refine (RR.out _ H.below).mono ?_); rintro e w8 ⟨rfl, hb8⟩; have H := H.keep hb8; have k0 := H.t.k0; have k1 := H.t.k1; have k2 := H.t.k2; have m0 := H.o.k0; have m1 := H.o.k1; have m2 := H.o.k2)
    | (go_at_call 26; (with_reducible refine (SM.out _ _ H.r H.below).mono ?_); rintro e w9 ⟨rfl, hb9⟩; have H := H.keep hb9; have k0 := H.t.k0; have k1 := H.t.k1; have k2 := H.t.k2; have m0 := H.o.k0; have m1 := H.o.k1; have m2 := H.o.k2))
  go_ret
  exact ⟨rfl, H.below⟩

set_option maxRecDepth 4000 in
set_option maxHeartbeats 4000000 in
theorem own_law_some (w : World) (ht : Pow10 w) (s : Value) (l : List (Int × Int)) (kn kd : Int) (h : RatsAt w s l) (hw : Wide l) (h1 : -9223372036854775808 ≤ kn) (h2 : kn ≤ 9223372036854775807) (h3 : -9223372036854775808 ≤ kd) (h4 : kd ≤ 9223372036854775807) (hl : l.length ≤ 12)
    (hr : rightT l kn kd = true) (hne : 0 < (trimL l).length) :
    Calls Tryd.prog 8 #[.agg #[s, .int .i64 kn, .int .i64 kd]] w fun r w' => r = .returned (.bool true) ∧ Below w.heap.size w w' := by
  have ow := fun (w' : World) (hb : Below w.heap.size w w') => own_right w' s l kn kd (h.below hb) hw h1 h2 h3 h4 hr
  have hmr := right_trim hr
  have hmw := wide_trim hw
  have sm := fun (w' : World) (v : Value) (hv : RatsAt w' v (trimL l)) (hb : Below w.heap.size w w') => same_right w' v s (trimL l) l kn kd hv hmw (h.below hb) hw h1 h2 h3 h4 hmr hr
  rw [trimL_twice, decide_eq_true (rfl : trimL l = trimL l)] at sm
  have oo := fun (w' : World) (v : Value) (hv : RatsAt w' v (trimL l)) => own_right w' v (trimL l) kn kd hv hmw h1 h2 h3 h4 hmr
  rw [trimL_twice] at oo
  have hla := trimL_last l
  generalize trimL l = m at *
  obtain ⟨mn, hmn⟩ : ∃ mn, mn = kn := ⟨_, rfl⟩
  obtain ⟨md, hmd⟩ : ∃ md, md = kd := ⟨_, rfl⟩
  subst hmn
  subst hmd
  have rr := fun (w' : World) (hb : Below w.heap.size w w') => r2right_any w' s l mn md (h.below hb) hw h1 h2 h3 h4
  rw [hr] at rr
  have tr := fun (w' : World) (v : Value) (hv : RatsAt w' v m) => tright_any w' v m mn md hv hmw h1 h2 h3 h4
  rw [hmr] at tr
  have eq := fun (w' : World) (v v' : Value) (hv : RatsAt w' v m) (hv' : RatsAt w' v' m) => r2equal_same w' v v' m mn md hv hv'
  have sa := fun (w' : World) (hb : Below w.heap.size w w') => small_any w' s l mn md (h.below hb)
  rw [decide_eq_true hl] at sa
  have AW := Lib.hid (fun (w' : World) (hb : Below w.heap.size w w') => awake2_yes w' (pow10_on ht hb))
  have SA := Lib.hid sa; have OW := Lib.hid ow; have OO := Lib.hid oo; have RR := Lib.hid rr; have TR := Lib.hid tr; have EQ := Lib.hid eq
  have SM := Lib.hid sm
  have LA := Lib.hid (And.intro hla hne)
  obtain ⟨A, c, rfl⟩ := rats_form h
  generalize l.length = k at *
  clear ht h hw h1 h2 h3 h4 hr hl ow oo rr tr eq sa hmr hmw sm hla hne
  have F := FracBox.start w (.slice A k c) (.int .i64 mn) (.int .i64 md) 26
  have hb0 := below_alloc1 w (.cells #[.slice A k c, .int .i64 mn, .int .i64 md] 26)
  go_enter Tryd.func8, Tryd.ntmps8
  go_upto_region 3 with (first
    | (go_at_call 9; (with_reducible refine (AW.out _ hb0).mono ?_); rintro e w1 ⟨rfl, hb1⟩; have F := F.keep hb1; have b1 := hb0.trans (hb1.mono hb0.size); have k0 := F.k0; have k1 := F.k1; have k2 := F.k2)
    | (go_at_call 10; (with_reducible refine (SA.out _ b1).mono ?_); rintro e w2 ⟨rfl, hb2⟩; have F := F.keep hb2; have b2 := b1.trans (hb2.mono b1.size); have k0 := F.k0; have k1 := F.k1; have k2 := F.k2))
  go_upto_region 4 with (go_at_call 17; (with_reducible refine (OW.out _ b2).mono ?_); rintro e w3 hT3; obtain ⟨v3, rfl, hv3, hb3⟩ := termnew_more hT3; obtain ⟨A3, c3, x3, rfl, hx3, cx3, ic3, im3⟩ := rats_last hv3 LA.out.2; clear hT3; have F := F.keep hb3; have b3 := b2.trans (hb3.mono b2.size))
  have hz3 := LA.out.1 x3 hx3 LA.out.2
  have hz : (x3.1 == 0) = false := by simpa using hz3
  have hnp := LA.out.2
  generalize m.length = n at *
  have i0 : (0 : Int) < (n : Int) := by omega
  have i1 : ((n - 1 : Nat) : Int) < (n : Int) := by omega
  have i2 : (0 : Int) ≤ ((n - 1 : Nat) : Int) := by omega
  have i3 : ((n - 1 : Nat) : Int) ≤ (c3 : Int) := by omega
  have wk : IntKind.i64.wrap ((n : Int) - 1) = ((n - 1 : Nat) : Int) := by rw [IntWalk.i64_in _ (by omega)]; omega
  clear hx3 hz3
  have G := FracBox.start w3 (.slice (some A3) n c3) (.int .i64 mn) (.int .i64 md) 26
  have a3 := below_alloc1 w3 (.cells #[(.slice (some A3) n c3), .int .i64 mn, .int .i64 md] 26)
  have HS := hold_own4 (below_drew _) (And.intro (And.intro G.k0 (And.intro G.k1 (And.intro G.k2 ((a3.cell (World.block_lt_of_cell? _ _ cx3)).trans cx3)))) (OwnS.mk (F.keep a3) G (hv3.below a3) (b3.trans (a3.mono b3.size))))
  clear F G a3 b3 b2 b1 hb3 hb2 hb1 hb0 hv3 k0 k1 k2 cx3
  refine wp_region_noPanic ?_
  refine wp_region_held_drew (S := (fun w' => (w'.cell? ⟨w3.heap.size, 0, none⟩ = some (.slice (some A3) n c3) ∧ w'.cell? ⟨w3.heap.size, 1, none⟩ = some (.int .i64 mn) ∧ w'.cell? ⟨w3.heap.size, 2, none⟩ = some (.int .i64 md) ∧ w'.cell? (A3.add ((n - 1) * 2)) = some (.int .i64 x3.1)) ∧ OwnS w w' w3.heap.size (.slice A k c) mn md (.slice (some A3) n c3) m mn md)) (by kernel_rfl) HS (fun hHeld => ?_)
  clear HS
  refine wpAnyH_take (i := 0) (oi := _) (v := ?_) rfl (by kernel_rfl) (by kernel_rfl) (by kernel_rfl) (fun _ _ _ h => h) (Or.inl ⟨by rfl, ?_⟩) (by assumption) ?_
  rotate_left
  · intro ww hSw
    (try dsimp only at hSw)
    go_simp <;> with_reducible rfl
  (try simp only [List.getElem_toArray, List.getElem_cons_zero, Act.put, List.setIfInBounds_toArray, List.set_cons_zero, List.set_cons_succ])
  refine wpAnyH_ready (rs := [1]) (by kernel_rfl) (by simp) ?_
  refine AllReadyH.cons (o := _) rfl (fun K hK => ?_) AllReadyH.nil
  go_simp
  (first
    | (go_at_call 15; (with_reducible refine (TR.out _ _ (own_of (by with_reducible assumption)).r).mono ?_); rintro e w5 ⟨rfl, hb⟩)
    | (go_at_call 17; (with_reducible refine (OO.out _ _ (own_of (by with_reducible assumption)).r).mono ?_); rintro e w6 hT6; obtain ⟨v6, rfl, hv6, hb⟩ := termnew_more hT6; clear hT6; have HV6 := Lib.hid hv6; clear hv6)
    | (go_at_call 14; (with_reducible refine (EQ.out _ _ _ HV6.out (own_of (by with_reducible assumption)).r).mono ?_); rintro e w7 ⟨rfl, hb⟩))
  go_wp2_with fail
  refine hK.out _ _ (hold_own4 (by with_reducible assumption) (by with_reducible assumption)) (fun hH2 => ?_)
  clear hK K hHeld hb
  have hHeld := hH2
  clear hH2
  (try simp only [List.getElem_toArray, List.getElem_cons_succ, List.getElem_cons_zero, Act.put, List.setIfInBounds_toArray, List.set_cons_zero, List.set_cons_succ])
  refine wpAnyH_take (i := 2) (oi := _) (v := ?_) rfl (by kernel_rfl) (by kernel_rfl) (by kernel_rfl) (fun _ _ _ h => h) (Or.inl ⟨by rfl, ?_⟩) (by assumption) ?_
  rotate_left
  · intro ww hSw
    (try dsimp only at hSw)
    go_simp <;> with_reducible rfl
  (try simp only [List.getElem_toArray, List.getElem_cons_succ, List.getElem_cons_zero, Act.put, List.setIfInBounds_toArray, List.set_cons_zero, List.set_cons_succ])
  refine wpAnyH_take (i := 3) (oi := _) (v := ?_) rfl (by kernel_rfl) (by kernel_rfl) (by kernel_rfl) (fun _ _ _ h => h) (Or.inl ⟨by rfl, ?_⟩) (by assumption) ?_
  rotate_left
  · intro ww hSw
    (try dsimp only at hSw)
    go_simp <;> with_reducible rfl
  (try simp only [List.getElem_toArray, List.getElem_cons_succ, List.getElem_cons_zero, Act.put, List.setIfInBounds_toArray, List.set_cons_zero, List.set_cons_succ])
  refine wpAnyH_take (i := 4) (oi := _) (v := ?_) rfl (by kernel_rfl) (by kernel_rfl) (by kernel_rfl) (fun _ _ _ h => h) (Or.inl ⟨by rfl, ?_⟩) (by assumption) ?_
  rotate_left
  · intro ww hSw
    (try dsimp only at hSw)
    go_simp <;> with_reducible rfl
  (try simp only [List.getElem_toArray, List.getElem_cons_succ, List.getElem_cons_zero, Act.put, List.setIfInBounds_toArray, List.set_cons_zero, List.set_cons_succ])
  refine wpAnyH_take (i := 6) (oi := _) (v := ?_) rfl (by kernel_rfl) (by kernel_rfl) (by kernel_rfl) (fun _ _ _ h => h) (Or.inl ⟨by rfl, ?_⟩) (by assumption) ?_
  rotate_left
  · intro ww hSw
    (try dsimp only at hSw)
    go_simp <;> with_reducible rfl
  (try simp only [List.getElem_toArray, List.getElem_cons_succ, List.getElem_cons_zero, Act.put, List.setIfInBounds_toArray, List.set_cons_zero, List.set_cons_succ])
  refine wpAnyH_ready (rs := [5]) (by kernel_rfl) (by simp) ?_
  refine AllReadyH.cons (o := _) rfl (fun K hK => ?_) AllReadyH.nil
  go_simp
  (first
    | (go_at_call 15; (with_reducible refine (TR.out _ _ (own_of (by with_reducible assumption)).r).mono ?_); rintro e w5 ⟨rfl, hb⟩)
    | (go_at_call 17; (with_reducible refine (OO.out _ _ (own_of (by with_reducible assumption)).r).mono ?_); rintro e w6 hT6; obtain ⟨v6, rfl, hv6, hb⟩ := termnew_more hT6; clear hT6; have HV6 := Lib.hid hv6; clear hv6)
    | (go_at_call 14; (with_reducible refine (EQ.out _ _ _ HV6.out (own_of (by with_reducible assumption)).r).mono ?_); rintro e w7 ⟨rfl, hb⟩))
  go_wp2_with fail
  refine hK.out _ _ (hold_own4 (by with_reducible assumption) (by with_reducible assumption)) (fun hH2 => ?_)
  clear hK K hHeld hb
  have hHeld := hH2
  clear hH2
  (try simp only [List.getElem_toArray, List.getElem_cons_succ, List.getElem_cons_zero, Act.put, List.setIfInBounds_toArray, List.set_cons_zero, List.set_cons_succ])
  refine wpAnyH_ready (rs := [7]) (by kernel_rfl) (by simp) ?_
  refine AllReadyH.cons (o := _) rfl (fun K hK => ?_) AllReadyH.nil
  go_simp
  (first
    | (go_at_call 15; (with_reducible refine (TR.out _ _ (own_of (by with_reducible assumption)).r).mono ?_); rintro e w5 ⟨rfl, hb⟩)
    | (go_at_call 17; (with_reducible refine (OO.out _ _ (own_of (by with_reducible assumption)).r).mono ?_); rintro e w6 hT6; obtain ⟨v6, rfl, hv6, hb⟩ := termnew_more hT6; clear hT6; have HV6 := Lib.hid hv6; clear hv6)
    | (go_at_call 14; (with_reducible refine (EQ.out _ _ _ HV6.out (own_of (by with_reducible assumption)).r).mono ?_); rintro e w7 ⟨rfl, hb⟩))
  go_wp2_with fail
  refine hK.out _ _ (hold_own4 (by with_reducible assumption) (by with_reducible assumption)) (fun hH2 => ?_)
  clear hK K hHeld hb
  have hHeld := hH2
  clear hH2
  (try simp only [List.getElem_toArray, List.getElem_cons_succ, List.getElem_cons_zero, Act.put, List.setIfInBounds_toArray, List.set_cons_zero, List.set_cons_succ])
  refine wpAnyH_take (i := 8) (oi := _) (v := ?_) rfl (by kernel_rfl) (by kernel_rfl) (by kernel_rfl) (fun _ _ _ h => h) (Or.inl ⟨by rfl, ?_⟩) (by assumption) ?_
  rotate_left
  · intro ww hSw
    (try dsimp only at hSw)
    go_simp <;> with_reducible rfl
  (try simp only [List.getElem_toArray, List.getElem_cons_succ, List.getElem_cons_zero, Act.put, List.setIfInBounds_toArray, List.set_cons_zero, List.set_cons_succ])
  refine wpAnyH_take (i := 9) (oi := _) (v := ?_) rfl (by kernel_rfl) (by kernel_rfl) (by kernel_rfl) (fun _ _ _ h => h) (Or.inl ⟨by rfl, ?_⟩) (by assumption) ?_
  rotate_left
  · intro ww hSw
    (try dsimp only at hSw)
    go_simp <;> with_reducible rfl
  (try simp only [List.getElem_toArray, List.getElem_cons_succ, List.getElem_cons_zero, Act.put, List.setIfInBounds_toArray, List.set_cons_zero, List.set_cons_succ])
  refine wpAnyH_take (i := 10) (oi := _) (v := ?_) rfl (by kernel_rfl) (by kernel_rfl) (by kernel_rfl) (fun _ _ _ h => h) (Or.inl ⟨by rfl, ?_⟩) (by assumption) ?_
  rotate_left
  · intro ww hSw
    (try dsimp only at hSw)
    go_simp <;> with_reducible rfl
  (try simp only [List.getElem_toArray, List.getElem_cons_succ, List.getElem_cons_zero, Act.put, List.setIfInBounds_toArray, List.set_cons_zero, List.set_cons_succ])
  refine wpAnyH_take (i := 11) (oi := _) (v := ?_) rfl (by kernel_rfl) (by kernel_rfl) (by kernel_rfl) (fun _ _ _ h => h) (Or.inl ⟨by rfl, ?_⟩) (by assumption) ?_
  rotate_left
  · intro ww hSw
    (try dsimp only at hSw)
    go_simp <;> with_reducible rfl
  (try simp only [List.getElem_toArray, List.getElem_cons_succ, List.getElem_cons_zero, Act.put, List.setIfInBounds_toArray, List.set_cons_zero, List.set_cons_succ])
  refine wpAnyH_take (i := 12) (oi := _) (v := ?_) rfl (by kernel_rfl) (by kernel_rfl) (by kernel_rfl) (fun _ _ _ h => h) (Or.inl ⟨by rfl, ?_⟩) (by assumption) ?_
  rotate_left
  · intro ww hSw
    (try dsimp only at hSw)
    go_simp <;> with_reducible rfl
  (try simp only [List.getElem_toArray, List.getElem_cons_succ, List.getElem_cons_zero, Act.put, List.setIfInBounds_toArray, List.set_cons_zero, List.set_cons_succ])
  refine wpAnyH_take (i := 13) (oi := _) (v := ?_) rfl (by kernel_rfl) (by kernel_rfl) (by kernel_rfl) (fun _ _ _ h => h) (Or.inl ⟨by rfl, ?_⟩) (by assumption) ?_
  rotate_left
  · intro ww hSw
    (try dsimp only at hSw)
    go_simp <;> with_reducible rfl
  (try simp only [List.getElem_toArray, List.getElem_cons_succ, List.getElem_cons_zero, Act.put, List.setIfInBounds_toArray, List.set_cons_zero, List.set_cons_succ])
  refine wpAnyH_take (i := 14) (oi := _) (v := ?_) rfl (by kernel_rfl) (by kernel_rfl) (by kernel_rfl) (fun _ _ _ h => h) (Or.inl ⟨by rfl, ?_⟩) (by assumption) ?_
  rotate_left
  · intro ww hSw
    (try dsimp only at hSw)
    go_simp <;> with_reducible rfl
  (try simp only [List.getElem_toArray, List.getElem_cons_succ, List.getElem_cons_zero, Act.put, List.setIfInBounds_toArray, List.set_cons_zero, List.set_cons_succ])
  refine wpAnyH_take (i := 15) (oi := _) (v := ?_) rfl (by kernel_rfl) (by kernel_rfl) (by kernel_rfl) (fun _ _ _ h => h) (Or.inl ⟨by rfl, ?_⟩) (by assumption) ?_
  rotate_left
  · intro ww hSw
    (try dsimp only at hSw)
    go_simp <;> with_reducible rfl
  (try simp only [List.getElem_toArray, List.getElem_cons_succ, List.getElem_cons_zero, Act.put, List.setIfInBounds_toArray, List.set_cons_zero, List.set_cons_succ])
  refine wpAnyH_take (i := 16) (oi := _) (v := ?_) rfl (by kernel_rfl) (by kernel_rfl) (by kernel_rfl) (fun _ _ _ h => h) (Or.inl ⟨by rfl, ?_⟩) (by assumption) ?_
  rotate_left
  · intro ww hSw
    (try dsimp only at hSw)
    go_simp <;> with_reducible rfl
  (try simp only [List.getElem_toArray, List.getElem_cons_succ, List.getElem_cons_zero, Act.put, List.setIfInBounds_toArray, List.set_cons_zero, List.set_cons_succ])
  refine wpAnyH_take (i := 17) (oi := _) (v := ?_) rfl (by kernel_rfl) (by kernel_rfl) (by kernel_rfl) (fun _ _ _ h => h) (Or.inl ⟨by rfl, ?_⟩) (by assumption) ?_
  rotate_left
  · intro ww hSw
    (try dsimp only at hSw)
    go_simp <;> with_reducible rfl
  (try simp only [List.getElem_toArray, List.getElem_cons_succ, List.getElem_cons_zero, Act.put, List.setIfInBounds_toArray, List.set_cons_zero, List.set_cons_succ])
  refine wpAnyH_take (i := 18) (oi := _) (v := ?_) rfl (by kernel_rfl) (by kernel_rfl) (by kernel_rfl) (fun _ _ _ h => h) (Or.inl ⟨by rfl, ?_⟩) (by assumption) ?_
  rotate_left
  · intro ww hSw
    (try dsimp only at hSw)
    go_simp <;> with_reducible rfl
  (try simp only [List.getElem_toArray, List.getElem_cons_succ, List.getElem_cons_zero, Act.put, List.setIfInBounds_toArray, List.set_cons_zero, List.set_cons_succ])
  refine wpAnyH_take (i := 19) (oi := _) (v := ?_) rfl (by kernel_rfl) (by kernel_rfl) (by kernel_rfl) (fun _ _ _ h => h) (Or.inl ⟨by rfl, ?_⟩) (by assumption) ?_
  rotate_left
  · intro ww hSw
    (try dsimp only at hSw)
    go_simp <;> with_reducible rfl
  (try simp only [List.getElem_toArray, List.getElem_cons_succ, List.getElem_cons_zero, Act.put, List.setIfInBounds_toArray, List.set_cons_zero, List.set_cons_succ])
  refine wpAnyH_take (i := 20) (oi := _) (v := ?_) rfl (by kernel_rfl) (by kernel_rfl) (by kernel_rfl) (fun _ _ _ h => h) (Or.inl ⟨by rfl, ?_⟩) (by assumption) ?_
  rotate_left
  · intro ww hSw
    (try dsimp only at hSw)
    go_simp <;> with_reducible rfl
  (try simp only [List.getElem_toArray, List.getElem_cons_succ, List.getElem_cons_zero, Act.put, List.setIfInBounds_toArray, List.set_cons_zero, List.set_cons_succ])
  refine wpAnyH_take (i := 21) (oi := _) (v := ?_) rfl (by kernel_rfl) (by kernel_rfl) (by kernel_rfl) (fun _ _ _ h => h) (Or.inl ⟨by rfl, ?_⟩) (by assumption) ?_
  rotate_left
  · intro ww hSw
    (try dsimp only at hSw)
    go_simp <;> with_reducible rfl
  (try simp only [List.getElem_toArray, List.getElem_cons_succ, List.getElem_cons_zero, Act.put, List.setIfInBounds_toArray, List.set_cons_zero, List.set_cons_succ])
  refine wpAnyH_take (i := 22) (oi := _) (v := ?_) rfl (by kernel_rfl) (by kernel_rfl) (by kernel_rfl) (fun _ _ _ h => h) (Or.inl ⟨by rfl, ?_⟩) (by assumption) ?_
  rotate_left
  · intro ww hSw
    (try dsimp only at hSw)
    go_simp <;> with_reducible rfl
  (try simp only [List.getElem_toArray, List.getElem_cons_succ, List.getElem_cons_zero, Act.put, List.setIfInBounds_toArray, List.set_cons_zero, List.set_cons_succ])
  refine wpAnyH_take (i := 23) (oi := _) (v := ?_) rfl (by kernel_rfl) (by kernel_rfl) (by kernel_rfl) (fun _ _ _ h => h) (Or.inl ⟨by rfl, ?_⟩) (by assumption) ?_
  rotate_left
  · intro ww hSw
    (try dsimp only at hSw)
    go_simp <;> with_reducible rfl
  (try simp only [List.getElem_toArray, List.getElem_cons_succ, List.getElem_cons_zero, Act.put, List.setIfInBounds_toArray, List.set_cons_zero, List.set_cons_succ])
  refine wpAnyH_take (i := 24) (oi := _) (v := ?_) rfl (by kernel_rfl) (by kernel_rfl) (by kernel_rfl) (fun _ _ _ h => h) (Or.inl ⟨by rfl, ?_⟩) (by assumption) ?_
  rotate_left
  · intro ww hSw
    (try dsimp only at hSw)
    go_simp <;> with_reducible rfl
  (try simp only [List.getElem_toArray, List.getElem_cons_succ, List.getElem_cons_zero, Act.put, List.setIfInBounds_toArray, List.set_cons_zero, List.set_cons_succ])
  refine wpAnyH_take (i := 25) (oi := _) (v := ?_) rfl (by kernel_rfl) (by kernel_rfl) (by kernel_rfl) (fun _ _ _ h => h) (Or.inl ⟨by rfl, ?_⟩) (by assumption) ?_
  rotate_left
  · intro ww hSw
    (try dsimp only at hSw)
    go_simp <;> with_reducible rfl
  (try simp only [List.getElem_toArray, List.getElem_cons_succ, List.getElem_cons_zero, Act.put, List.setIfInBounds_toArray, List.set_cons_zero, List.set_cons_succ])
  refine wpAnyH_take (i := 26) (oi := _) (v := ?_) rfl (by kernel_rfl) (by kernel_rfl) (by kernel_rfl) (fun _ _ _ h => h) (Or.inl ⟨by rfl, ?_⟩) (by assumption) ?_
  rotate_left
  · intro ww hSw
    (try dsimp only at hSw)
    go_simp <;> with_reducible rfl
  (try simp only [List.getElem_toArray, List.getElem_cons_succ, List.getElem_cons_zero, Act.put, List.setIfInBounds_toArray, List.set_cons_zero, List.set_cons_succ])
  refine wpAnyH_take (i := 27) (oi := _) (v := ?_) rfl (by kernel_rfl) (by kernel_rfl) (by kernel_rfl) (fun _ _ _ h => h) (Or.inl ⟨by rfl, ?_⟩) (by assumption) ?_
  rotate_left
  · intro ww hSw
    (try dsimp only at hSw)
    go_simp <;> with_reducible rfl
  (try simp only [List.getElem_toArray, List.getElem_cons_succ, List.getElem_cons_zero, Act.put, List.setIfInBounds_toArray, List.set_cons_zero, List.set_cons_succ])
  refine wpAnyH_done (by kernel_rfl) ?_ _
  refine NoPanic.normal ?_
  have H := own_of hHeld
  clear hHeld
  have k0 := H.t.k0; have k1 := H.t.k1; have k2 := H.t.k2
  go_wp2_with (first
    | (go_at_call 16; (with_reducible refine (RR.out _ H.below).mono ?_); rintro e w8 ⟨rfl, hb8⟩; have H := H.keep hb8; have k0 := H.t.k0; have k1 := H.t.k1; have k2 := H.t.k2; have m0 := H.o.k0; have m1 := H.o.k1; have m2 := H.o.k2)
    | (go_at_call 26; (with_reducible refine (SM.out _ _ H.r H.below).mono ?_); rintro e w9 ⟨rfl, hb9⟩; have H := H.keep hb9; have k0 := H.t.k0; have k1 := H.t.k1; have k2 := H.t.k2; have m0 := H.o.k0; have m1 := H.o.k1; have m2 := H.o.k2))
  go_ret
  exact ⟨rfl, H.below⟩

set_option maxRecDepth 4000 in
set_option maxHeartbeats 2000000 in
theorem own_law_big (w : World) (ht : Pow10 w) (s : Value) (l : List (Int × Int)) (kn kd : Int) (h : RatsAt w s l) (hl : ¬ l.length ≤ 12) :
    Calls Tryd.prog 8 #[.agg #[s, .int .i64 kn, .int .i64 kd]] w fun r w' => r = .returned (.bool true) ∧ Below w.heap.size w w' := by
  have sa := fun (w' : World) (hb : Below w.heap.size w w') => small_any w' s l kn kd (h.below hb)
  rw [decide_eq_false hl] at sa
  have AW := Lib.hid (fun (w' : World) (hb : Below w.heap.size w w') => awake2_yes w' (pow10_on ht hb))
  have SA := Lib.hid sa
  obtain ⟨A, c, rfl⟩ := rats_form h
  generalize l.length = k at *
  clear ht h hl sa
  have F := FracBox.start w (.slice A k c) (.int .i64 kn) (.int .i64 kd) 26
  have hb0 := below_alloc1 w (.cells #[.slice A k c, .int .i64 kn, .int .i64 kd] 26)
  go_enter Tryd.func8, Tryd.ntmps8
  go_upto_region 2 with (first
    | (go_at_call 9; (with_reducible refine (AW.out _ hb0).mono ?_); rintro e w1 ⟨rfl, hb1⟩; have F := F.keep hb1; have b1 := hb0.trans (hb1.mono hb0.size); have k0 := F.k0; have k1 := F.k1; have k2 := F.k2)
    | (go_at_call 10; (with_reducible refine (SA.out _ b1).mono ?_); rintro e w2 ⟨rfl, hb2⟩; have b2 := b1.trans (hb2.mono b1.size)))
  go_wp2_with (go_at_call 9; (with_reducible refine (AW.out _ b2).mono ?_); rintro e w3 ⟨rfl, hb3⟩)
  go_ret
  exact ⟨rfl, b2.trans (hb3.mono b2.size)⟩

theorem own_law_any (w : World) (ht : Pow10 w) (s : Value) (l : List (Int × Int)) (kn kd : Int) (h : RatsAt w s l) (hw : Wide l) (h1 : -9223372036854775808 ≤ kn) (h2 : kn ≤ 9223372036854775807) (h3 : -9223372036854775808 ≤ kd) (h4 : kd ≤ 9223372036854775807) :
    Calls Tryd.prog 8 #[.agg #[s, .int .i64 kn, .int .i64 kd]] w fun r w' => r = .returned (.bool true) ∧ Below w.heap.size w w' := by
  by_cases hl : l.length ≤ 12
  · cases hr : rightT l kn kd
    · exact own_law_wrong w ht s l kn kd h hw h1 h2 h3 h4 hl hr
    · rcases Nat.eq_zero_or_pos (trimL l).length with g | g
      · exact own_law_none w ht s l kn kd h hw h1 h2 h3 h4 hl hr (List.eq_nil_of_length_eq_zero g)
      · exact own_law_some w ht s l kn kd h hw h1 h2 h3 h4 hl hr g
  · exact own_law_big w ht s l kn kd h hl
end Go.Proofs.YtkgndeiddjkhmaaDoor
