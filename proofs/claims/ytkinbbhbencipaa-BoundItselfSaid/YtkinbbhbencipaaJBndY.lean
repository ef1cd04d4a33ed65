/-
  The walk of package bound's Entails. (Template: by-name.py fills it; gen/genBndY.py writes it.)
-/
import Derived.Test.YtkinbbhbencipaaJBndV
namespace Go.Proofs.Ytkinbbhbencipaa
open Go.RowKit

/-- A row with the term less so many times. -/
def minR (op : Int) (r : Rw) : Rw := (op, (timesT r.2.1 r.2.2 (-1, 1)).1, (timesT r.2.1 r.2.2 (-1, 1)).2.1)
/-- What Entails answers of a row that is no equation. -/
def entG (l : List Rw) (r : Rw) : Int := if wrongR r = true then 2 else exclB (solB (l ++ [minR (if r.1 = 1 then 2 else 1) r])).2
/-- What Entails answers. -/
def entB (l : List Rw) (r : Rw) : Int := if wrongR r = true then 2 else if r.1 = 0 then (if entG l (1, r.2) = 0 then entG l (minR 1 r) else entG l (1, r.2)) else entG l r
theorem bd_minus : Bd (-1, 1) := by decide
theorem rwide_min {r : Rw} {op : Int} (h : RWide r) (ho : -9223372036854775808 ≤ op ∧ op ≤ 9223372036854775807) : RWide (minR op r) := by
  have := timesT_wide (kb := (-1, 1)) h.1 h.2.1 bd_minus
  exact ⟨this.1, this.2, ho⟩

set_option maxRecDepth 100000 in
set_option maxHeartbeats 8000000 in
theorem entails_bad (w : World) (v vr : Value) (l : List Rw) (r : Rw) (h : RowsAt w v l) (hr : RatsAt w vr r.2.1) (hx : RWide r) (hwr : wrongR r = true) :
    Calls Try.prog 11 #[v, .agg #[.int .i64 r.1, vr, .int .i64 r.2.2.1, .int .i64 r.2.2.2]] w fun e w' => e = .returned (.int .i64 (2)) ∧ Below w.heap.size w w' := by
  have wr := fun (w' : World) (hb : Below w.heap.size w w') => bwrong_any w' vr r (hr.below hb) hx.1 hx.2.1
  have tw := timesT_wide (kb := (-1, 1)) hx.1 hx.2.1 bd_minus
  have sc := fun (w' : World) (hb : Below w.heap.size w w') => tscale_any w' vr r.2.1 r.2.2 (-1, 1) (hr.below hb) hx.1 hx.2.1 bd_minus
  obtain ⟨xo, xl, x1, x2⟩ := r
  dsimp only at *
  obtain ⟨Ax, cx, rfl⟩ := rats_shape hr
  obtain ⟨A, c, _, e, _⟩ := id h
  subst e
  have a := below_alloc1 w (.cells #[.int .i64 xo, .slice Ax xl.length cx, .int .i64 x1, .int .i64 x2] 29)
  have BB := Blk.start w #[.int .i64 xo, .slice Ax xl.length cx, .int .i64 x1, .int .i64 x2] 29
  have B1 := Lib.hid (And.intro a BB)
  have SCL := Lib.hid sc
  have TW := Lib.hid tw
  generalize timesT xl (x1, x2) (-1, 1) = P at *
  obtain ⟨M, ⟨m1, m2⟩, er⟩ := P
  dsimp only at *
  clear sc tw a BB
  rw [hwr] at wr
  have WRO := Lib.hid wr
  clear wr hwr h hr hx
  generalize xl.length = xn at *
  generalize l.length = n at *
  go_enter Try.func11, Try.ntmps11
  go_upto_region 1 with fail
  generalize hb3 : w.heap.size = b3 at *
  generalize w.alloc (.cells #[.int .i64 xo, .slice Ax xn cx, .int .i64 x1, .int .i64 x2] 29) = w0 at *
  have r0 := B1.out.2.cell 0
  have r1 := B1.out.2.cell 1
  have r2 := B1.out.2.cell 2
  have r3 := B1.out.2.cell 3
  go_wp2_with (go_at_call 15; (with_reducible refine (WRO.out _ B1.out.1).mono ?_); rintro e1 w1 ⟨rfl, hb1⟩)
  go_ret
  exact ⟨rfl, by rw [hb3]; exact below_next hb3 B1.out.1 hb1⟩

set_option maxRecDepth 100000 in
set_option maxHeartbeats 8000000 in
theorem entails_one (w : World) (v vr : Value) (l : List Rw) (r : Rw) (h : RowsAt w v l) (hw : ∀ r ∈ l, RWide r) (hl : l.length ≤ 1000) (hr : RatsAt w vr r.2.1) (hx : RWide r) (hop : r.1 = 1 ∨ r.1 = 2) :
    Calls Try.prog 11 #[v, .agg #[.int .i64 r.1, vr, .int .i64 r.2.2.1, .int .i64 r.2.2.2]] w fun e w' => e = .returned (.int .i64 (entG l r)) ∧ Below w.heap.size w w' := by
  have wr := fun (w' : World) (hb : Below w.heap.size w w') => bwrong_any w' vr r (hr.below hb) hx.1 hx.2.1
  have tw := timesT_wide (kb := (-1, 1)) hx.1 hx.2.1 bd_minus
  have sc := fun (w' : World) (hb : Below w.heap.size w w') => tscale_any w' vr r.2.1 r.2.2 (-1, 1) (hr.below hb) hx.1 hx.2.1 bd_minus
  have ex := fun (w' : World) (v' : Value) (h' : RowsAt w' v l) (h2 : RatsAt w' v' (minR (if r.1 = 1 then 2 else 1) r).2.1) => excludes_any w' v v' l (minR (if r.1 = 1 then 2 else 1) r) h' hw hl h2 (rwide_min hx (by split <;> decide))
  obtain ⟨xo, xl, x1, x2⟩ := r
  unfold minR at ex
  dsimp only at *
  obtain ⟨Ax, cx, rfl⟩ := rats_shape hr
  obtain ⟨A, c, _, e, _⟩ := id h
  subst e
  have a := below_alloc1 w (.cells #[.int .i64 xo, .slice Ax xl.length cx, .int .i64 x1, .int .i64 x2] 29)
  have BB := Blk.start w #[.int .i64 xo, .slice Ax xl.length cx, .int .i64 x1, .int .i64 x2] 29
  have B1 := Lib.hid (And.intro a BB)
  have SCL := Lib.hid sc
  have TW := Lib.hid tw
  generalize hP : timesT xl (x1, x2) (-1, 1) = P at *
  obtain ⟨M, ⟨m1, m2⟩, er⟩ := P
  dsimp only at *
  clear sc tw a BB
  cases hwr : wrongR (xo, xl, x1, x2) with
  | true =>
    rw [hwr] at wr
    have WRO := Lib.hid wr
    have E := Lib.hid (show entG l (xo, xl, x1, x2) = 2 from by unfold entG; rw [if_pos hwr])
    clear wr hwr h hw hr hx ex hop hl
    generalize xl.length = xn at *
    generalize l.length = n at *
    go_enter Try.func11, Try.ntmps11
    go_upto_region 1 with fail
    generalize hb3 : w.heap.size = b3 at *
    generalize w.alloc (.cells #[.int .i64 xo, .slice Ax xn cx, .int .i64 x1, .int .i64 x2] 29) = w0 at *
    have r0 := B1.out.2.cell 0
    have r1 := B1.out.2.cell 1
    have r2 := B1.out.2.cell 2
    have r3 := B1.out.2.cell 3
    go_wp2_with (go_at_call 15; (with_reducible refine (WRO.out _ B1.out.1).mono ?_); rintro e1 w1 ⟨rfl, hb1⟩)
    go_ret
    exact ⟨by rw [E.out]; rfl, by rw [hb3]; exact below_next hb3 B1.out.1 hb1⟩
  | false =>
  rw [hwr] at wr
  have WRO := Lib.hid wr
  have HG := Lib.hid (show entG l (xo, xl, x1, x2) = exclB (solB (l ++ [(if xo = 1 then 2 else 1, M, m1, m2)])).2 from by unfold entG; rw [if_neg (by rw [hwr]; simp)]; unfold minR; dsimp only; rw [hP])
  have EXC := Lib.hid ex
  have HW := Lib.hid (fun (w' : World) (hb : Below w.heap.size w w') => h.below hb)
  clear wr hwr h hw hr hx ex hl hP
  generalize xl.length = xn at *
  generalize l.length = n at *
  go_enter Try.func11, Try.ntmps11
  go_upto_region 1 with fail
  generalize hb3 : w.heap.size = b3 at *
  generalize w.alloc (.cells #[.int .i64 xo, .slice Ax xn cx, .int .i64 x1, .int .i64 x2] 29) = w0 at *
  have r0 := B1.out.2.cell 0
  have r1 := B1.out.2.cell 1
  have r2 := B1.out.2.cell 2
  have r3 := B1.out.2.cell 3
  go_upto_region 3 with (go_at_call 15; (with_reducible refine (WRO.out _ B1.out.1).mono ?_); rintro e1 w1 ⟨rfl, hb1⟩)
  have B2 := Lib.hid (And.intro (below_next hb3 B1.out.1 hb1) (B1.out.2.keep hb1))
  clear r0 r1 r2 r3 hb1
  generalize hwq : w1 = wq at *
  have r1 := B2.out.2.cell 1
  have r2 := B2.out.2.cell 2
  have r3 := B2.out.2.cell 3
  have SCL := Lib.hid (fun (w' : World) (hb : Below wq.heap.size wq w') => SCL.out w' (below_next hb3 B2.out.1 hb))
  go_cut [5, 6] from 7 to 42 (fun v5 v6 wx => TermMid wq M m1 m2 v5 wx)
  case first =>
    have STB := Lib.hid (show Stab (fun w' => ((w'.cell? ⟨b3, 1, none⟩ = some (.slice Ax xn cx) ∧ w'.cell? ⟨b3, 2, none⟩ = some (.int .i64 x1)) ∧ w'.cell? ⟨b3, 3, none⟩ = some (.int .i64 x2)) ∧ Below wq.heap.size wq w') from stab_and (stab_and (stab_and (stab_cell _ _) (stab_cell _ _)) (stab_cell _ _)) (stab_below wq))
    have HS : ((wq.drew.cell? ⟨b3, 1, none⟩ = some (.slice Ax xn cx) ∧ wq.drew.cell? ⟨b3, 2, none⟩ = some (.int .i64 x1)) ∧ wq.drew.cell? ⟨b3, 3, none⟩ = some (.int .i64 x2)) ∧ Below wq.heap.size wq wq.drew := ⟨⟨⟨r1, r2⟩, r3⟩, below_drew _⟩
    clear r1 r2 r3
    refine wp_region_noPanic ?_
    refine wp_region_held_drew (S := (fun w' => ((w'.cell? ⟨b3, 1, none⟩ = some (.slice Ax xn cx) ∧ w'.cell? ⟨b3, 2, none⟩ = some (.int .i64 x1)) ∧ w'.cell? ⟨b3, 3, none⟩ = some (.int .i64 x2)) ∧ Below wq.heap.size wq w')) (by kernel_rfl) HS (fun hHeld => ?_)
    clear HS
    refine wpAnyH_take (i := 0) (oi := _) (v := ?_) rfl (by kernel_rfl) (by kernel_rfl) (by kernel_rfl) (fun _ _ _ h => h) (Or.inl ⟨by rfl, ?_⟩) (by assumption) ?_
    rotate_left
    · intro ww hSw
      (try dsimp only at hSw)
      go_simp <;> with_reducible rfl
    (try simp only [List.getElem_toArray, List.getElem_cons_zero, Act.put, List.setIfInBounds_toArray, List.set_cons_zero, List.set_cons_succ])
    refine wpAnyH_take (i := 1) (oi := _) (v := ?_) rfl (by kernel_rfl) (by kernel_rfl) (by kernel_rfl) (fun _ _ _ h => h) (Or.inl ⟨by rfl, ?_⟩) (by assumption) ?_
    rotate_left
    · intro ww hSw
      (try dsimp only at hSw)
      go_simp <;> with_reducible rfl
    (try simp only [List.getElem_toArray, List.getElem_cons_succ, List.getElem_cons_zero, Act.put, List.setIfInBounds_toArray, List.set_cons_zero, List.set_cons_succ])
    refine wpAnyH_ready (rs := [2, 7]) (by kernel_rfl) (by simp) ?_
    refine AllReadyH.cons (o := _) rfl (fun K hK => ?_) ?_
    · go_simp
      (first
        | (go_at_call 26; (with_reducible refine (bwhole_any _ _).mono ?_); rintro e5 w5 ⟨rfl, hb⟩; (try have HC := Lib.hid (HC.out.keep hb)))
        | (go_at_call 25; (with_reducible refine (SCL.out _ (bel_of (by with_reducible assumption))).mono ?_); rintro e6 w6 ⟨v6, rfl, hv6, hb, fr6⟩; obtain ⟨A6, c6, rfl⟩ := rats_shape hv6; (try (have HF := Lib.hid (Off.fresh (l := M) (S := fun b => b = _) fr6 (fun b q => by rw [q]; exact HC.out.F.lt)); have HC := Lib.hid (HC.out.keep hb))); have HV := Lib.hid hv6; clear hv6 fr6))
      go_wp2_with fail
      refine hK.out _ _ (STB.out _ _ hb (by with_reducible assumption)) (fun hH2 => ?_)
      clear hK K hHeld hb
      have hHeld := hH2
      clear hH2
      (try simp only [List.getElem_toArray, List.getElem_cons_succ, List.getElem_cons_zero, Act.put, List.setIfInBounds_toArray, List.set_cons_zero, List.set_cons_succ])
      refine wpAnyH_ready (rs := [3, 7]) (by kernel_rfl) (by simp) ?_
      refine AllReadyH.cons (o := _) rfl (fun K hK => ?_) ?_
      · go_simp
        (first
          | (go_at_call 26; (with_reducible refine (bwhole_any _ _).mono ?_); rintro e5 w5 ⟨rfl, hb⟩; (try have HC := Lib.hid (HC.out.keep hb)))
          | (go_at_call 25; (with_reducible refine (SCL.out _ (bel_of (by with_reducible assumption))).mono ?_); rintro e6 w6 ⟨v6, rfl, hv6, hb, fr6⟩; obtain ⟨A6, c6, rfl⟩ := rats_shape hv6; (try (have HF := Lib.hid (Off.fresh (l := M) (S := fun b => b = _) fr6 (fun b q => by rw [q]; exact HC.out.F.lt)); have HC := Lib.hid (HC.out.keep hb))); have HV := Lib.hid hv6; clear hv6 fr6))
        go_wp2_with fail
        refine hK.out _ _ (STB.out _ _ hb (by with_reducible assumption)) (fun hH2 => ?_)
        clear hK K hHeld hb
        have hHeld := hH2
        clear hH2
        (try simp only [List.getElem_toArray, List.getElem_cons_succ, List.getElem_cons_zero, Act.put, List.setIfInBounds_toArray, List.set_cons_zero, List.set_cons_succ])
        refine wpAnyH_take (i := 4) (oi := _) (v := ?_) rfl (by kernel_rfl) (by kernel_rfl) (by kernel_rfl) (fun _ _ _ h => h) (Or.inl ⟨by rfl, ?_⟩) (by assumption) ?_
        rotate_left
        · intro ww hSw
          (try dsimp only at hSw)
          go_simp <;> with_reducible rfl
        (try simp only [List.getElem_toArray, List.getElem_cons_succ, List.getElem_cons_zero, Act.put, List.setIfInBounds_toArray, List.set_cons_zero, List.set_cons_succ])
        refine wpAnyH_take (i := 5) (oi := _) (v := ?_) rfl (by kernel_rfl) (by kernel_rfl) (by kernel_rfl) (fun _ _ _ h => h) (Or.inl ⟨by rfl, ?_⟩) (by assumption) ?_
        rotate_left
        · intro ww hSw
          (try dsimp only at hSw)
          go_simp <;> with_reducible rfl
        (try simp only [List.getElem_toArray, List.getElem_cons_succ, List.getElem_cons_zero, Act.put, List.setIfInBounds_toArray, List.set_cons_zero, List.set_cons_succ])
        refine wpAnyH_take (i := 6) (oi := _) (v := ?_) rfl (by kernel_rfl) (by kernel_rfl) (by kernel_rfl) (fun _ _ _ h => h) (Or.inl ⟨by rfl, ?_⟩) (by assumption) ?_
        rotate_left
        · intro ww hSw
          (try dsimp only at hSw)
          go_simp <;> with_reducible rfl
        (try simp only [List.getElem_toArray, List.getElem_cons_succ, List.getElem_cons_zero, Act.put, List.setIfInBounds_toArray, List.set_cons_zero, List.set_cons_succ])
        refine wpAnyH_ready (rs := [7]) (by kernel_rfl) (by simp) ?_
        refine AllReadyH.cons (o := _) rfl (fun K hK => ?_) AllReadyH.nil
        go_simp
        (first | refine hK.out _ _ (stab2 STB.out (by with_reducible assumption)) (fun hH2 => ?_) | refine hK.out _ _ (STB.out _ _ (below_alloc1 _ _) (by with_reducible assumption)) (fun hH2 => ?_))
        clear hK K
        (try dsimp only at hH2)
        (first | have HC := Lib.hid (holeR_of hH2) | have HC := Lib.hid (holeR_of2 hH2))
        have hHeld0 := Lib.hid hHeld
        clear hHeld
        have hHeld := hH2
        clear hH2
        (try simp only [List.getElem_toArray, List.getElem_cons_succ, List.getElem_cons_zero, Act.put, List.setIfInBounds_toArray, List.set_cons_zero, List.set_cons_succ])
        refine wpAnyH_ready (rs := [8]) (by kernel_rfl) (by simp) ?_
        refine AllReadyH.cons (o := _) rfl (fun K hK => ?_) AllReadyH.nil
        obtain ⟨⟨h0, h1, h2, h3, h4, h5, h6⟩, h7, h8⟩ := HC.out
        clear h7 h8
        go_simp
        clear h0 h1 h2 h3 h4 h5 h6
        (first
          | refine hK.out _ _ (STB.out _ _ (below_alloc1 _ _) hHeld0.out) (fun hH2 => ?_)
          | refine hK.out _ _ (STB.out _ _ (HC.out.fill _ _ _).1 hHeld0.out) (fun hH2 => ?_))
        clear hK K hHeld
        (try dsimp only at hH2)
        have hHeld := hH2
        clear hH2
        (try simp only [List.getElem_toArray, List.getElem_cons_succ, List.getElem_cons_zero, Act.put, List.setIfInBounds_toArray, List.set_cons_zero, List.set_cons_succ])
        refine wpAnyH_take (i := 9) (oi := _) (v := ?_) rfl (by kernel_rfl) (by kernel_rfl) (by kernel_rfl) (fun _ _ _ h => h) (Or.inl ⟨by rfl, ?_⟩) (by assumption) ?_
        rotate_left
        · intro ww hSw
          (try dsimp only at hSw)
          go_simp <;> with_reducible rfl
        (try simp only [List.getElem_toArray, List.getElem_cons_succ, List.getElem_cons_zero, Act.put, List.setIfInBounds_toArray, List.set_cons_zero, List.set_cons_succ])
        refine wpAnyH_done (by kernel_rfl) ?_ _
        refine NoPanic.normal ?_
        go_wp2_with fail
        go_meet
        case rel => first | exact tmid_alloc hHeld0.out.2 27 HV.out | exact tmid_fill hHeld0.out.2 HC.out HV.out HF.out
      refine AllReadyH.cons (o := _) rfl (fun K hK => ?_) AllReadyH.nil
      go_simp
      (first | refine hK.out _ _ (stab2 STB.out (by with_reducible assumption)) (fun hH2 => ?_) | refine hK.out _ _ (STB.out _ _ (below_alloc1 _ _) (by with_reducible assumption)) (fun hH2 => ?_))
      clear hK K
      (try dsimp only at hH2)
      (first | have HC := Lib.hid (holeR_of hH2) | have HC := Lib.hid (holeR_of2 hH2))
      have hHeld0 := Lib.hid hHeld
      clear hHeld
      have hHeld := hH2
      clear hH2
      (try simp only [List.getElem_toArray, List.getElem_cons_succ, List.getElem_cons_zero, Act.put, List.setIfInBounds_toArray, List.set_cons_zero, List.set_cons_succ])
      refine wpAnyH_ready (rs := [3]) (by kernel_rfl) (by simp) ?_
      refine AllReadyH.cons (o := _) rfl (fun K hK => ?_) AllReadyH.nil
      go_simp
      (first
        | (go_at_call 26; (with_reducible refine (bwhole_any _ _).mono ?_); rintro e5 w5 ⟨rfl, hb⟩; (try have HC := Lib.hid (HC.out.keep hb)))
        | (go_at_call 25; (with_reducible refine (SCL.out _ (bel_of (by with_reducible assumption))).mono ?_); rintro e6 w6 ⟨v6, rfl, hv6, hb, fr6⟩; obtain ⟨A6, c6, rfl⟩ := rats_shape hv6; (try (have HF := Lib.hid (Off.fresh (l := M) (S := fun b => b = _) fr6 (fun b q => by rw [q]; exact HC.out.F.lt)); have HC := Lib.hid (HC.out.keep hb))); have HV := Lib.hid hv6; clear hv6 fr6))
      go_wp2_with fail
      refine hK.out _ _ (STB.out _ _ hb (by with_reducible assumption)) (fun hH2 => ?_)
      clear hK K hHeld hb
      have hHeld := hH2
      clear hH2
      (try simp only [List.getElem_toArray, List.getElem_cons_succ, List.getElem_cons_zero, Act.put, List.setIfInBounds_toArray, List.set_cons_zero, List.set_cons_succ])
      refine wpAnyH_take (i := 4) (oi := _) (v := ?_) rfl (by kernel_rfl) (by kernel_rfl) (by kernel_rfl) (fun _ _ _ h => h) (Or.inl ⟨by rfl, ?_⟩) (by assumption) ?_
      rotate_left
      · intro ww hSw
        (try dsimp only at hSw)
        go_simp <;> with_reducible rfl
      (try simp only [List.getElem_toArray, List.getElem_cons_succ, List.getElem_cons_zero, Act.put, List.setIfInBounds_toArray, List.set_cons_zero, List.set_cons_succ])
      refine wpAnyH_take (i := 5) (oi := _) (v := ?_) rfl (by kernel_rfl) (by kernel_rfl) (by kernel_rfl) (fun _ _ _ h => h) (Or.inl ⟨by rfl, ?_⟩) (by assumption) ?_
      rotate_left
      · intro ww hSw
        (try dsimp only at hSw)
        go_simp <;> with_reducible rfl
      (try simp only [List.getElem_toArray, List.getElem_cons_succ, List.getElem_cons_zero, Act.put, List.setIfInBounds_toArray, List.set_cons_zero, List.set_cons_succ])
      refine wpAnyH_take (i := 6) (oi := _) (v := ?_) rfl (by kernel_rfl) (by kernel_rfl) (by kernel_rfl) (fun _ _ _ h => h) (Or.inl ⟨by rfl, ?_⟩) (by assumption) ?_
      rotate_left
      · intro ww hSw
        (try dsimp only at hSw)
        go_simp <;> with_reducible rfl
      (try simp only [List.getElem_toArray, List.getElem_cons_succ, List.getElem_cons_zero, Act.put, List.setIfInBounds_toArray, List.set_cons_zero, List.set_cons_succ])
      refine wpAnyH_ready (rs := [8]) (by kernel_rfl) (by simp) ?_
      refine AllReadyH.cons (o := _) rfl (fun K hK => ?_) AllReadyH.nil
      obtain ⟨⟨h0, h1, h2, h3, h4, h5, h6⟩, h7, h8⟩ := HC.out
      clear h7 h8
      go_simp
      clear h0 h1 h2 h3 h4 h5 h6
      (first
        | refine hK.out _ _ (STB.out _ _ (below_alloc1 _ _) hHeld0.out) (fun hH2 => ?_)
        | refine hK.out _ _ (STB.out _ _ (HC.out.fill _ _ _).1 hHeld0.out) (fun hH2 => ?_))
      clear hK K hHeld
      (try dsimp only at hH2)
      have hHeld := hH2
      clear hH2
      (try simp only [List.getElem_toArray, List.getElem_cons_succ, List.getElem_cons_zero, Act.put, List.setIfInBounds_toArray, List.set_cons_zero, List.set_cons_succ])
      refine wpAnyH_take (i := 9) (oi := _) (v := ?_) rfl (by kernel_rfl) (by kernel_rfl) (by kernel_rfl) (fun _ _ _ h => h) (Or.inl ⟨by rfl, ?_⟩) (by assumption) ?_
      rotate_left
      · intro ww hSw
        (try dsimp only at hSw)
        go_simp <;> with_reducible rfl
      (try simp only [List.getElem_toArray, List.getElem_cons_succ, List.getElem_cons_zero, Act.put, List.setIfInBounds_toArray, List.set_cons_zero, List.set_cons_succ])
      refine wpAnyH_done (by kernel_rfl) ?_ _
      refine NoPanic.normal ?_
      go_wp2_with fail
      go_meet
      case rel => first | exact tmid_alloc hHeld0.out.2 27 HV.out | exact tmid_fill hHeld0.out.2 HC.out HV.out HF.out
    refine AllReadyH.cons (o := _) rfl (fun K hK => ?_) AllReadyH.nil
    go_simp
    (first | refine hK.out _ _ (stab2 STB.out (by with_reducible assumption)) (fun hH2 => ?_) | refine hK.out _ _ (STB.out _ _ (below_alloc1 _ _) (by with_reducible assumption)) (fun hH2 => ?_))
    clear hK K
    (try dsimp only at hH2)
    (first | have HC := Lib.hid (holeR_of hH2) | have HC := Lib.hid (holeR_of2 hH2))
    have hHeld0 := Lib.hid hHeld
    clear hHeld
    have hHeld := hH2
    clear hH2
    (try simp only [List.getElem_toArray, List.getElem_cons_succ, List.getElem_cons_zero, Act.put, List.setIfInBounds_toArray, List.set_cons_zero, List.set_cons_succ])
    refine wpAnyH_ready (rs := [2]) (by kernel_rfl) (by simp) ?_
    refine AllReadyH.cons (o := _) rfl (fun K hK => ?_) AllReadyH.nil
    go_simp
    (first
      | (go_at_call 26; (with_reducible refine (bwhole_any _ _).mono ?_); rintro e5 w5 ⟨rfl, hb⟩; (try have HC := Lib.hid (HC.out.keep hb)))
      | (go_at_call 25; (with_reducible refine (SCL.out _ (bel_of (by with_reducible assumption))).mono ?_); rintro e6 w6 ⟨v6, rfl, hv6, hb, fr6⟩; obtain ⟨A6, c6, rfl⟩ := rats_shape hv6; (try (have HF := Lib.hid (Off.fresh (l := M) (S := fun b => b = _) fr6 (fun b q => by rw [q]; exact HC.out.F.lt)); have HC := Lib.hid (HC.out.keep hb))); have HV := Lib.hid hv6; clear hv6 fr6))
    go_wp2_with fail
    refine hK.out _ _ (STB.out _ _ hb (by with_reducible assumption)) (fun hH2 => ?_)
    clear hK K hHeld hb
    have hHeld := hH2
    clear hH2
    (try simp only [List.getElem_toArray, List.getElem_cons_succ, List.getElem_cons_zero, Act.put, List.setIfInBounds_toArray, List.set_cons_zero, List.set_cons_succ])
    refine wpAnyH_ready (rs := [3]) (by kernel_rfl) (by simp) ?_
    refine AllReadyH.cons (o := _) rfl (fun K hK => ?_) AllReadyH.nil
    go_simp
    (first
      | (go_at_call 26; (with_reducible refine (bwhole_any _ _).mono ?_); rintro e5 w5 ⟨rfl, hb⟩; (try have HC := Lib.hid (HC.out.keep hb)))
      | (go_at_call 25; (with_reducible refine (SCL.out _ (bel_of (by with_reducible assumption))).mono ?_); rintro e6 w6 ⟨v6, rfl, hv6, hb, fr6⟩; obtain ⟨A6, c6, rfl⟩ := rats_shape hv6; (try (have HF := Lib.hid (Off.fresh (l := M) (S := fun b => b = _) fr6 (fun b q => by rw [q]; exact HC.out.F.lt)); have HC := Lib.hid (HC.out.keep hb))); have HV := Lib.hid hv6; clear hv6 fr6))
    go_wp2_with fail
    refine hK.out _ _ (STB.out _ _ hb (by with_reducible assumption)) (fun hH2 => ?_)
    clear hK K hHeld hb
    have hHeld := hH2
    clear hH2
    (try simp only [List.getElem_toArray, List.getElem_cons_succ, List.getElem_cons_zero, Act.put, List.setIfInBounds_toArray, List.set_cons_zero, List.set_cons_succ])
    refine wpAnyH_take (i := 4) (oi := _) (v := ?_) rfl (by kernel_rfl) (by kernel_rfl) (by kernel_rfl) (fun _ _ _ h => h) (Or.inl ⟨by rfl, ?_⟩) (by assumption) ?_
    rotate_left
    · intro ww hSw
      (try dsimp only at hSw)
      go_simp <;> with_reducible rfl
    (try simp only [List.getElem_toArray, List.getElem_cons_succ, List.getElem_cons_zero, Act.put, List.setIfInBounds_toArray, List.set_cons_zero, List.set_cons_succ])
    refine wpAnyH_take (i := 5) (oi := _) (v := ?_) rfl (by kernel_rfl) (by kernel_rfl) (by kernel_rfl) (fun _ _ _ h => h) (Or.inl ⟨by rfl, ?_⟩) (by assumption) ?_
    rotate_left
    · intro ww hSw
      (try dsimp only at hSw)
      go_simp <;> with_reducible rfl
    (try simp only [List.getElem_toArray, List.getElem_cons_succ, List.getElem_cons_zero, Act.put, List.setIfInBounds_toArray, List.set_cons_zero, List.set_cons_succ])
    refine wpAnyH_take (i := 6) (oi := _) (v := ?_) rfl (by kernel_rfl) (by kernel_rfl) (by kernel_rfl) (fun _ _ _ h => h) (Or.inl ⟨by rfl, ?_⟩) (by assumption) ?_
    rotate_left
    · intro ww hSw
      (try dsimp only at hSw)
      go_simp <;> with_reducible rfl
    (try simp only [List.getElem_toArray, List.getElem_cons_succ, List.getElem_cons_zero, Act.put, List.setIfInBounds_toArray, List.set_cons_zero, List.set_cons_succ])
    refine wpAnyH_ready (rs := [8]) (by kernel_rfl) (by simp) ?_
    refine AllReadyH.cons (o := _) rfl (fun K hK => ?_) AllReadyH.nil
    obtain ⟨⟨h0, h1, h2, h3, h4, h5, h6⟩, h7, h8⟩ := HC.out
    clear h7 h8
    go_simp
    clear h0 h1 h2 h3 h4 h5 h6
    (first
      | refine hK.out _ _ (STB.out _ _ (below_alloc1 _ _) hHeld0.out) (fun hH2 => ?_)
      | refine hK.out _ _ (STB.out _ _ (HC.out.fill _ _ _).1 hHeld0.out) (fun hH2 => ?_))
    clear hK K hHeld
    (try dsimp only at hH2)
    have hHeld := hH2
    clear hH2
    (try simp only [List.getElem_toArray, List.getElem_cons_succ, List.getElem_cons_zero, Act.put, List.setIfInBounds_toArray, List.set_cons_zero, List.set_cons_succ])
    refine wpAnyH_take (i := 9) (oi := _) (v := ?_) rfl (by kernel_rfl) (by kernel_rfl) (by kernel_rfl) (fun _ _ _ h => h) (Or.inl ⟨by rfl, ?_⟩) (by assumption) ?_
    rotate_left
    · intro ww hSw
      (try dsimp only at hSw)
      go_simp <;> with_reducible rfl
    (try simp only [List.getElem_toArray, List.getElem_cons_succ, List.getElem_cons_zero, Act.put, List.setIfInBounds_toArray, List.set_cons_zero, List.set_cons_succ])
    refine wpAnyH_done (by kernel_rfl) ?_ _
    refine NoPanic.normal ?_
    go_wp2_with fail
    go_meet
    case rel => first | exact tmid_alloc hHeld0.out.2 27 HV.out | exact tmid_fill hHeld0.out.2 HC.out HV.out HF.out
  case rest =>
    obtain ⟨c5, A6, c6, rfl, F6, r6, hbq⟩ := hcut
    have B4 := Lib.hid (And.intro (below_next hb3 B2.out.1 hbq) (B2.out.2.keep hbq))
    clear r1 r2 r3 hbq
    have r0 := B4.out.2.cell 0
    have k0 := F6.k0; have k1 := F6.k1; have k2 := F6.k2
    have HH := Lib.hid (HW.out _ B4.out.1)
    rcases hop with rfl | rfl
    · have EX2 := EXC.out
      simp only [↓reduceIte] at EX2
      have EXC := Lib.hid EX2
      clear EX2
      go_wp2_with (go_at_call 27; (with_reducible refine (EXC.out _ _ HH.out r6).mono ?_); rintro e7 w7 ⟨rfl, hb7⟩)
      go_ret
      exact ⟨by rw [HG.out]; rfl, by rw [hb3]; exact below_next hb3 B4.out.1 hb7⟩
    · have EX2 := EXC.out
      rw [if_neg (by decide)] at EX2
      have EXC := Lib.hid EX2
      clear EX2
      go_wp2_with (go_at_call 27; (with_reducible refine (EXC.out _ _ HH.out r6).mono ?_); rintro e7 w7 ⟨rfl, hb7⟩)
      go_ret
      exact ⟨by rw [HG.out]; rfl, by rw [hb3]; exact below_next hb3 B4.out.1 hb7⟩

set_option maxRecDepth 100000 in
set_option maxHeartbeats 8000000 in
theorem entails_zero (w : World) (v vr : Value) (l : List Rw) (r : Rw) (h : RowsAt w v l) (hw : ∀ r ∈ l, RWide r) (hl : l.length ≤ 1000) (hr : RatsAt w vr r.2.1) (hx : RWide r) (hop : r.1 = 0) (hwr : wrongR r = false) :
    Calls Try.prog 11 #[v, .agg #[.int .i64 r.1, vr, .int .i64 r.2.2.1, .int .i64 r.2.2.2]] w fun e w' => e = .returned (.int .i64 (if entG l (1, r.2) = 0 then entG l (minR 1 r) else entG l (1, r.2))) ∧ Below w.heap.size w w' := by
  have wr := fun (w' : World) (hb : Below w.heap.size w w') => bwrong_any w' vr r (hr.below hb) hx.1 hx.2.1
  have tw := timesT_wide (kb := (-1, 1)) hx.1 hx.2.1 bd_minus
  have sc := fun (w' : World) (hb : Below w.heap.size w w') => tscale_any w' vr r.2.1 r.2.2 (-1, 1) (hr.below hb) hx.1 hx.2.1 bd_minus
  have e1 := fun (w' : World) (v' : Value) (h' : RowsAt w' v l) (h2 : RatsAt w' v' r.2.1) => entails_one w' v v' l (1, r.2) h' hw hl h2 ⟨hx.1, hx.2.1, (show -9223372036854775808 ≤ (1 : Int) ∧ (1 : Int) ≤ 9223372036854775807 by decide)⟩ (.inl rfl)
  have e2 := fun (w' : World) (v' : Value) (h' : RowsAt w' v l) (h2 : RatsAt w' v' (minR 1 r).2.1) => entails_one w' v v' l (minR 1 r) h' hw hl h2 (rwide_min hx (by decide)) (.inl rfl)
  obtain ⟨g1, hg1⟩ : ∃ g1, g1 = entG l (1, r.2) := ⟨_, rfl⟩
  obtain ⟨g2, hg2⟩ : ∃ g2, g2 = entG l (minR 1 r) := ⟨_, rfl⟩
  rw [← hg1] at e1 ⊢
  rw [← hg2] at e2 ⊢
  clear hg1 hg2
  unfold minR at e2
  obtain ⟨xo, xl, x1, x2⟩ := r
  dsimp only at *
  obtain ⟨Ax, cx, rfl⟩ := rats_shape hr
  obtain ⟨A, c, _, e, _⟩ := id h
  subst e
  have a := below_alloc1 w (.cells #[.int .i64 0, .slice Ax xl.length cx, .int .i64 x1, .int .i64 x2] 29)
  have BB := Blk.start w #[.int .i64 0, .slice Ax xl.length cx, .int .i64 x1, .int .i64 x2] 29
  have B1 := Lib.hid (And.intro a BB)
  have SCL := Lib.hid sc
  have TW := Lib.hid tw
  generalize timesT xl (x1, x2) (-1, 1) = P at *
  obtain ⟨M, ⟨m1, m2⟩, er⟩ := P
  dsimp only at *
  clear sc tw a BB
  subst hop
  rw [hwr] at wr
  have WRO := Lib.hid wr
  have E1 := Lib.hid e1
  have E2 := Lib.hid e2
  have HW := Lib.hid (fun (w' : World) (hb : Below w.heap.size w w') => And.intro (h.below hb) (hr.below hb))
  obtain ⟨xn, hxn⟩ : ∃ xn, xl.length = xn := ⟨_, rfl⟩
  have HXN := Lib.hid hxn
  clear wr hwr h hw hr hx e1 e2 hl
  rw [hxn] at SCL B1 HW WRO ⊢
  generalize l.length = n at *
  go_enter Try.func11, Try.ntmps11
  go_upto_region 1 with fail
  generalize hb3 : w.heap.size = b3 at *
  generalize w.alloc (.cells #[.int .i64 0, .slice Ax xn cx, .int .i64 x1, .int .i64 x2] 29) = w0 at *
  have r0 := B1.out.2.cell 0
  have r1 := B1.out.2.cell 1
  have r2 := B1.out.2.cell 2
  have r3 := B1.out.2.cell 3
  go_upto_region 3 with (go_at_call 15; (with_reducible refine (WRO.out _ B1.out.1).mono ?_); rintro e1 w1 ⟨rfl, hb1⟩)
  have B2 := Lib.hid (And.intro (below_next hb3 B1.out.1 hb1) (B1.out.2.keep hb1))
  clear r0 r1 r2 r3 hb1
  generalize hwq : w1 = wq at *
  have r1 := B2.out.2.cell 1
  have r2 := B2.out.2.cell 2
  have r3 := B2.out.2.cell 3
  have SCL := Lib.hid (fun (w' : World) (hb : Below wq.heap.size wq w') => SCL.out w' (below_next hb3 B2.out.1 hb))
  go_cut [5, 6] from 7 to 42 (fun v5 v6 wx => TermMid wq M m1 m2 v5 wx)
  case first =>
    have STB := Lib.hid (show Stab (fun w' => ((w'.cell? ⟨b3, 1, none⟩ = some (.slice Ax xn cx) ∧ w'.cell? ⟨b3, 2, none⟩ = some (.int .i64 x1)) ∧ w'.cell? ⟨b3, 3, none⟩ = some (.int .i64 x2)) ∧ Below wq.heap.size wq w') from stab_and (stab_and (stab_and (stab_cell _ _) (stab_cell _ _)) (stab_cell _ _)) (stab_below wq))
    have HS : ((wq.drew.cell? ⟨b3, 1, none⟩ = some (.slice Ax xn cx) ∧ wq.drew.cell? ⟨b3, 2, none⟩ = some (.int .i64 x1)) ∧ wq.drew.cell? ⟨b3, 3, none⟩ = some (.int .i64 x2)) ∧ Below wq.heap.size wq wq.drew := ⟨⟨⟨r1, r2⟩, r3⟩, below_drew _⟩
    clear r1 r2 r3
    refine wp_region_noPanic ?_
    refine wp_region_held_drew (S := (fun w' => ((w'.cell? ⟨b3, 1, none⟩ = some (.slice Ax xn cx) ∧ w'.cell? ⟨b3, 2, none⟩ = some (.int .i64 x1)) ∧ w'.cell? ⟨b3, 3, none⟩ = some (.int .i64 x2)) ∧ Below wq.heap.size wq w')) (by kernel_rfl) HS (fun hHeld => ?_)
    clear HS
    refine wpAnyH_take (i := 0) (oi := _) (v := ?_) rfl (by kernel_rfl) (by kernel_rfl) (by kernel_rfl) (fun _ _ _ h => h) (Or.inl ⟨by rfl, ?_⟩) (by assumption) ?_
    rotate_left
    · intro ww hSw
      (try dsimp only at hSw)
      go_simp <;> with_reducible rfl
    (try simp only [List.getElem_toArray, List.getElem_cons_zero, Act.put, List.setIfInBounds_toArray, List.set_cons_zero, List.set_cons_succ])
    refine wpAnyH_take (i := 1) (oi := _) (v := ?_) rfl (by kernel_rfl) (by kernel_rfl) (by kernel_rfl) (fun _ _ _ h => h) (Or.inl ⟨by rfl, ?_⟩) (by assumption) ?_
    rotate_left
    · intro ww hSw
      (try dsimp only at hSw)
      go_simp <;> with_reducible rfl
    (try simp only [List.getElem_toArray, List.getElem_cons_succ, List.getElem_cons_zero, Act.put, List.setIfInBounds_toArray, List.set_cons_zero, List.set_cons_succ])
    refine wpAnyH_ready (rs := [2, 7]) (by kernel_rfl) (by simp) ?_
    refine AllReadyH.cons (o := _) rfl (fun K hK => ?_) ?_
    · go_simp
      (first
        | (go_at_call 26; (with_reducible refine (bwhole_any _ _).mono ?_); rintro e5 w5 ⟨rfl, hb⟩; (try have HC := Lib.hid (HC.out.keep hb)))
        | (go_at_call 25; (with_reducible refine (SCL.out _ (bel_of (by with_reducible assumption))).mono ?_); rintro e6 w6 ⟨v6, rfl, hv6, hb, fr6⟩; obtain ⟨A6, c6, rfl⟩ := rats_shape hv6; (try (have HF := Lib.hid (Off.fresh (l := M) (S := fun b => b = _) fr6 (fun b q => by rw [q]; exact HC.out.F.lt)); have HC := Lib.hid (HC.out.keep hb))); have HV := Lib.hid hv6; clear hv6 fr6))
      go_wp2_with fail
      refine hK.out _ _ (STB.out _ _ hb (by with_reducible assumption)) (fun hH2 => ?_)
      clear hK K hHeld hb
      have hHeld := hH2
      clear hH2
      (try simp only [List.getElem_toArray, List.getElem_cons_succ, List.getElem_cons_zero, Act.put, List.setIfInBounds_toArray, List.set_cons_zero, List.set_cons_succ])
      refine wpAnyH_ready (rs := [3, 7]) (by kernel_rfl) (by simp) ?_
      refine AllReadyH.cons (o := _) rfl (fun K hK => ?_) ?_
      · go_simp
        (first
          | (go_at_call 26; (with_reducible refine (bwhole_any _ _).mono ?_); rintro e5 w5 ⟨rfl, hb⟩; (try have HC := Lib.hid (HC.out.keep hb)))
          | (go_at_call 25; (with_reducible refine (SCL.out _ (bel_of (by with_reducible assumption))).mono ?_); rintro e6 w6 ⟨v6, rfl, hv6, hb, fr6⟩; obtain ⟨A6, c6, rfl⟩ := rats_shape hv6; (try (have HF := Lib.hid (Off.fresh (l := M) (S := fun b => b = _) fr6 (fun b q => by rw [q]; exact HC.out.F.lt)); have HC := Lib.hid (HC.out.keep hb))); have HV := Lib.hid hv6; clear hv6 fr6))
        go_wp2_with fail
        refine hK.out _ _ (STB.out _ _ hb (by with_reducible assumption)) (fun hH2 => ?_)
        clear hK K hHeld hb
        have hHeld := hH2
        clear hH2
        (try simp only [List.getElem_toArray, List.getElem_cons_succ, List.getElem_cons_zero, Act.put, List.setIfInBounds_toArray, List.set_cons_zero, List.set_cons_succ])
        refine wpAnyH_take (i := 4) (oi := _) (v := ?_) rfl (by kernel_rfl) (by kernel_rfl) (by kernel_rfl) (fun _ _ _ h => h) (Or.inl ⟨by rfl, ?_⟩) (by assumption) ?_
        rotate_left
        · intro ww hSw
          (try dsimp only at hSw)
          go_simp <;> with_reducible rfl
        (try simp only [List.getElem_toArray, List.getElem_cons_succ, List.getElem_cons_zero, Act.put, List.setIfInBounds_toArray, List.set_cons_zero, List.set_cons_succ])
        refine wpAnyH_take (i := 5) (oi := _) (v := ?_) rfl (by kernel_rfl) (by kernel_rfl) (by kernel_rfl) (fun _ _ _ h => h) (Or.inl ⟨by rfl, ?_⟩) (by assumption) ?_
        rotate_left
        · intro ww hSw
          (try dsimp only at hSw)
          go_simp <;> with_reducible rfl
        (try simp only [List.getElem_toArray, List.getElem_cons_succ, List.getElem_cons_zero, Act.put, List.setIfInBounds_toArray, List.set_cons_zero, List.set_cons_succ])
        refine wpAnyH_take (i := 6) (oi := _) (v := ?_) rfl (by kernel_rfl) (by kernel_rfl) (by kernel_rfl) (fun _ _ _ h => h) (Or.inl ⟨by rfl, ?_⟩) (by assumption) ?_
        rotate_left
        · intro ww hSw
          (try dsimp only at hSw)
          go_simp <;> with_reducible rfl
        (try simp only [List.getElem_toArray, List.getElem_cons_succ, List.getElem_cons_zero, Act.put, List.setIfInBounds_toArray, List.set_cons_zero, List.set_cons_succ])
        refine wpAnyH_ready (rs := [7]) (by kernel_rfl) (by simp) ?_
        refine AllReadyH.cons (o := _) rfl (fun K hK => ?_) AllReadyH.nil
        go_simp
        (first | refine hK.out _ _ (stab2 STB.out (by with_reducible assumption)) (fun hH2 => ?_) | refine hK.out _ _ (STB.out _ _ (below_alloc1 _ _) (by with_reducible assumption)) (fun hH2 => ?_))
        clear hK K
        (try dsimp only at hH2)
        (first | have HC := Lib.hid (holeR_of hH2) | have HC := Lib.hid (holeR_of2 hH2))
        have hHeld0 := Lib.hid hHeld
        clear hHeld
        have hHeld := hH2
        clear hH2
        (try simp only [List.getElem_toArray, List.getElem_cons_succ, List.getElem_cons_zero, Act.put, List.setIfInBounds_toArray, List.set_cons_zero, List.set_cons_succ])
        refine wpAnyH_ready (rs := [8]) (by kernel_rfl) (by simp) ?_
        refine AllReadyH.cons (o := _) rfl (fun K hK => ?_) AllReadyH.nil
        obtain ⟨⟨h0, h1, h2, h3, h4, h5, h6⟩, h7, h8⟩ := HC.out
        clear h7 h8
        go_simp
        clear h0 h1 h2 h3 h4 h5 h6
        (first
          | refine hK.out _ _ (STB.out _ _ (below_alloc1 _ _) hHeld0.out) (fun hH2 => ?_)
          | refine hK.out _ _ (STB.out _ _ (HC.out.fill _ _ _).1 hHeld0.out) (fun hH2 => ?_))
        clear hK K hHeld
        (try dsimp only at hH2)
        have hHeld := hH2
        clear hH2
        (try simp only [List.getElem_toArray, List.getElem_cons_succ, List.getElem_cons_zero, Act.put, List.setIfInBounds_toArray, List.set_cons_zero, List.set_cons_succ])
        refine wpAnyH_take (i := 9) (oi := _) (v := ?_) rfl (by kernel_rfl) (by kernel_rfl) (by kernel_rfl) (fun _ _ _ h => h) (Or.inl ⟨by rfl, ?_⟩) (by assumption) ?_
        rotate_left
        · intro ww hSw
          (try dsimp only at hSw)
          go_simp <;> with_reducible rfl
        (try simp only [List.getElem_toArray, List.getElem_cons_succ, List.getElem_cons_zero, Act.put, List.setIfInBounds_toArray, List.set_cons_zero, List.set_cons_succ])
        refine wpAnyH_done (by kernel_rfl) ?_ _
        refine NoPanic.normal ?_
        go_wp2_with fail
        go_meet
        case rel => first | exact tmid_alloc hHeld0.out.2 27 HV.out | exact tmid_fill hHeld0.out.2 HC.out HV.out HF.out
      refine AllReadyH.cons (o := _) rfl (fun K hK => ?_) AllReadyH.nil
      go_simp
      (first | refine hK.out _ _ (stab2 STB.out (by with_reducible assumption)) (fun hH2 => ?_) | refine hK.out _ _ (STB.out _ _ (below_alloc1 _ _) (by with_reducible assumption)) (fun hH2 => ?_))
      clear hK K
      (try dsimp only at hH2)
      (first | have HC := Lib.hid (holeR_of hH2) | have HC := Lib.hid (holeR_of2 hH2))
      have hHeld0 := Lib.hid hHeld
      clear hHeld
      have hHeld := hH2
      clear hH2
      (try simp only [List.getElem_toArray, List.getElem_cons_succ, List.getElem_cons_zero, Act.put, List.setIfInBounds_toArray, List.set_cons_zero, List.set_cons_succ])
      refine wpAnyH_ready (rs := [3]) (by kernel_rfl) (by simp) ?_
      refine AllReadyH.cons (o := _) rfl (fun K hK => ?_) AllReadyH.nil
      go_simp
      (first
        | (go_at_call 26; (with_reducible refine (bwhole_any _ _).mono ?_); rintro e5 w5 ⟨rfl, hb⟩; (try have HC := Lib.hid (HC.out.keep hb)))
        | (go_at_call 25; (with_reducible refine (SCL.out _ (bel_of (by with_reducible assumption))).mono ?_); rintro e6 w6 ⟨v6, rfl, hv6, hb, fr6⟩; obtain ⟨A6, c6, rfl⟩ := rats_shape hv6; (try (have HF := Lib.hid (Off.fresh (l := M) (S := fun b => b = _) fr6 (fun b q => by rw [q]; exact HC.out.F.lt)); have HC := Lib.hid (HC.out.keep hb))); have HV := Lib.hid hv6; clear hv6 fr6))
      go_wp2_with fail
      refine hK.out _ _ (STB.out _ _ hb (by with_reducible assumption)) (fun hH2 => ?_)
      clear hK K hHeld hb
      have hHeld := hH2
      clear hH2
      (try simp only [List.getElem_toArray, List.getElem_cons_succ, List.getElem_cons_zero, Act.put, List.setIfInBounds_toArray, List.set_cons_zero, List.set_cons_succ])
      refine wpAnyH_take (i := 4) (oi := _) (v := ?_) rfl (by kernel_rfl) (by kernel_rfl) (by kernel_rfl) (fun _ _ _ h => h) (Or.inl ⟨by rfl, ?_⟩) (by assumption) ?_
      rotate_left
      · intro ww hSw
        (try dsimp only at hSw)
        go_simp <;> with_reducible rfl
      (try simp only [List.getElem_toArray, List.getElem_cons_succ, List.getElem_cons_zero, Act.put, List.setIfInBounds_toArray, List.set_cons_zero, List.set_cons_succ])
      refine wpAnyH_take (i := 5) (oi := _) (v := ?_) rfl (by kernel_rfl) (by kernel_rfl) (by kernel_rfl) (fun _ _ _ h => h) (Or.inl ⟨by rfl, ?_⟩) (by assumption) ?_
      rotate_left
      · intro ww hSw
        (try dsimp only at hSw)
        go_simp <;> with_reducible rfl
      (try simp only [List.getElem_toArray, List.getElem_cons_succ, List.getElem_cons_zero, Act.put, List.setIfInBounds_toArray, List.set_cons_zero, List.set_cons_succ])
      refine wpAnyH_take (i := 6) (oi := _) (v := ?_) rfl (by kernel_rfl) (by kernel_rfl) (by kernel_rfl) (fun _ _ _ h => h) (Or.inl ⟨by rfl, ?_⟩) (by assumption) ?_
      rotate_left
      · intro ww hSw
        (try dsimp only at hSw)
        go_simp <;> with_reducible rfl
      (try simp only [List.getElem_toArray, List.getElem_cons_succ, List.getElem_cons_zero, Act.put, List.setIfInBounds_toArray, List.set_cons_zero, List.set_cons_succ])
      refine wpAnyH_ready (rs := [8]) (by kernel_rfl) (by simp) ?_
      refine AllReadyH.cons (o := _) rfl (fun K hK => ?_) AllReadyH.nil
      obtain ⟨⟨h0, h1, h2, h3, h4, h5, h6⟩, h7, h8⟩ := HC.out
      clear h7 h8
      go_simp
      clear h0 h1 h2 h3 h4 h5 h6
      (first
        | refine hK.out _ _ (STB.out _ _ (below_alloc1 _ _) hHeld0.out) (fun hH2 => ?_)
        | refine hK.out _ _ (STB.out _ _ (HC.out.fill _ _ _).1 hHeld0.out) (fun hH2 => ?_))
      clear hK K hHeld
      (try dsimp only at hH2)
      have hHeld := hH2
      clear hH2
      (try simp only [List.getElem_toArray, List.getElem_cons_succ, List.getElem_cons_zero, Act.put, List.setIfInBounds_toArray, List.set_cons_zero, List.set_cons_succ])
      refine wpAnyH_take (i := 9) (oi := _) (v := ?_) rfl (by kernel_rfl) (by kernel_rfl) (by kernel_rfl) (fun _ _ _ h => h) (Or.inl ⟨by rfl, ?_⟩) (by assumption) ?_
      rotate_left
      · intro ww hSw
        (try dsimp only at hSw)
        go_simp <;> with_reducible rfl
      (try simp only [List.getElem_toArray, List.getElem_cons_succ, List.getElem_cons_zero, Act.put, List.setIfInBounds_toArray, List.set_cons_zero, List.set_cons_succ])
      refine wpAnyH_done (by kernel_rfl) ?_ _
      refine NoPanic.normal ?_
      go_wp2_with fail
      go_meet
      case rel => first | exact tmid_alloc hHeld0.out.2 27 HV.out | exact tmid_fill hHeld0.out.2 HC.out HV.out HF.out
    refine AllReadyH.cons (o := _) rfl (fun K hK => ?_) AllReadyH.nil
    go_simp
    (first | refine hK.out _ _ (stab2 STB.out (by with_reducible assumption)) (fun hH2 => ?_) | refine hK.out _ _ (STB.out _ _ (below_alloc1 _ _) (by with_reducible assumption)) (fun hH2 => ?_))
    clear hK K
    (try dsimp only at hH2)
    (first | have HC := Lib.hid (holeR_of hH2) | have HC := Lib.hid (holeR_of2 hH2))
    have hHeld0 := Lib.hid hHeld
    clear hHeld
    have hHeld := hH2
    clear hH2
    (try simp only [List.getElem_toArray, List.getElem_cons_succ, List.getElem_cons_zero, Act.put, List.setIfInBounds_toArray, List.set_cons_zero, List.set_cons_succ])
    refine wpAnyH_ready (rs := [2]) (by kernel_rfl) (by simp) ?_
    refine AllReadyH.cons (o := _) rfl (fun K hK => ?_) AllReadyH.nil
    go_simp
    (first
      | (go_at_call 26; (with_reducible refine (bwhole_any _ _).mono ?_); rintro e5 w5 ⟨rfl, hb⟩; (try have HC := Lib.hid (HC.out.keep hb)))
      | (go_at_call 25; (with_reducible refine (SCL.out _ (bel_of (by with_reducible assumption))).mono ?_); rintro e6 w6 ⟨v6, rfl, hv6, hb, fr6⟩; obtain ⟨A6, c6, rfl⟩ := rats_shape hv6; (try (have HF := Lib.hid (Off.fresh (l := M) (S := fun b => b = _) fr6 (fun b q => by rw [q]; exact HC.out.F.lt)); have HC := Lib.hid (HC.out.keep hb))); have HV := Lib.hid hv6; clear hv6 fr6))
    go_wp2_with fail
    refine hK.out _ _ (STB.out _ _ hb (by with_reducible assumption)) (fun hH2 => ?_)
    clear hK K hHeld hb
    have hHeld := hH2
    clear hH2
    (try simp only [List.getElem_toArray, List.getElem_cons_succ, List.getElem_cons_zero, Act.put, List.setIfInBounds_toArray, List.set_cons_zero, List.set_cons_succ])
    refine wpAnyH_ready (rs := [3]) (by kernel_rfl) (by simp) ?_
    refine AllReadyH.cons (o := _) rfl (fun K hK => ?_) AllReadyH.nil
    go_simp
    (first
      | (go_at_call 26; (with_reducible refine (bwhole_any _ _).mono ?_); rintro e5 w5 ⟨rfl, hb⟩; (try have HC := Lib.hid (HC.out.keep hb)))
      | (go_at_call 25; (with_reducible refine (SCL.out _ (bel_of (by with_reducible assumption))).mono ?_); rintro e6 w6 ⟨v6, rfl, hv6, hb, fr6⟩; obtain ⟨A6, c6, rfl⟩ := rats_shape hv6; (try (have HF := Lib.hid (Off.fresh (l := M) (S := fun b => b = _) fr6 (fun b q => by rw [q]; exact HC.out.F.lt)); have HC := Lib.hid (HC.out.keep hb))); have HV := Lib.hid hv6; clear hv6 fr6))
    go_wp2_with fail
    refine hK.out _ _ (STB.out _ _ hb (by with_reducible assumption)) (fun hH2 => ?_)
    clear hK K hHeld hb
    have hHeld := hH2
    clear hH2
    (try simp only [List.getElem_toArray, List.getElem_cons_succ, List.getElem_cons_zero, Act.put, List.setIfInBounds_toArray, List.set_cons_zero, List.set_cons_succ])
    refine wpAnyH_take (i := 4) (oi := _) (v := ?_) rfl (by kernel_rfl) (by kernel_rfl) (by kernel_rfl) (fun _ _ _ h => h) (Or.inl ⟨by rfl, ?_⟩) (by assumption) ?_
    rotate_left
    · intro ww hSw
      (try dsimp only at hSw)
      go_simp <;> with_reducible rfl
    (try simp only [List.getElem_toArray, List.getElem_cons_succ, List.getElem_cons_zero, Act.put, List.setIfInBounds_toArray, List.set_cons_zero, List.set_cons_succ])
    refine wpAnyH_take (i := 5) (oi := _) (v := ?_) rfl (by kernel_rfl) (by kernel_rfl) (by kernel_rfl) (fun _ _ _ h => h) (Or.inl ⟨by rfl, ?_⟩) (by assumption) ?_
    rotate_left
    · intro ww hSw
      (try dsimp only at hSw)
      go_simp <;> with_reducible rfl
    (try simp only [List.getElem_toArray, List.getElem_cons_succ, List.getElem_cons_zero, Act.put, List.setIfInBounds_toArray, List.set_cons_zero, List.set_cons_succ])
    refine wpAnyH_take (i := 6) (oi := _) (v := ?_) rfl (by kernel_rfl) (by kernel_rfl) (by kernel_rfl) (fun _ _ _ h => h) (Or.inl ⟨by rfl, ?_⟩) (by assumption) ?_
    rotate_left
    · intro ww hSw
      (try dsimp only at hSw)
      go_simp <;> with_reducible rfl
    (try simp only [List.getElem_toArray, List.getElem_cons_succ, List.getElem_cons_zero, Act.put, List.setIfInBounds_toArray, List.set_cons_zero, List.set_cons_succ])
    refine wpAnyH_ready (rs := [8]) (by kernel_rfl) (by simp) ?_
    refine AllReadyH.cons (o := _) rfl (fun K hK => ?_) AllReadyH.nil
    obtain ⟨⟨h0, h1, h2, h3, h4, h5, h6⟩, h7, h8⟩ := HC.out
    clear h7 h8
    go_simp
    clear h0 h1 h2 h3 h4 h5 h6
    (first
      | refine hK.out _ _ (STB.out _ _ (below_alloc1 _ _) hHeld0.out) (fun hH2 => ?_)
      | refine hK.out _ _ (STB.out _ _ (HC.out.fill _ _ _).1 hHeld0.out) (fun hH2 => ?_))
    clear hK K hHeld
    (try dsimp only at hH2)
    have hHeld := hH2
    clear hH2
    (try simp only [List.getElem_toArray, List.getElem_cons_succ, List.getElem_cons_zero, Act.put, List.setIfInBounds_toArray, List.set_cons_zero, List.set_cons_succ])
    refine wpAnyH_take (i := 9) (oi := _) (v := ?_) rfl (by kernel_rfl) (by kernel_rfl) (by kernel_rfl) (fun _ _ _ h => h) (Or.inl ⟨by rfl, ?_⟩) (by assumption) ?_
    rotate_left
    · intro ww hSw
      (try dsimp only at hSw)
      go_simp <;> with_reducible rfl
    (try simp only [List.getElem_toArray, List.getElem_cons_succ, List.getElem_cons_zero, Act.put, List.setIfInBounds_toArray, List.set_cons_zero, List.set_cons_succ])
    refine wpAnyH_done (by kernel_rfl) ?_ _
    refine NoPanic.normal ?_
    go_wp2_with fail
    go_meet
    case rel => first | exact tmid_alloc hHeld0.out.2 27 HV.out | exact tmid_fill hHeld0.out.2 HC.out HV.out HF.out
  case rest =>
    obtain ⟨c5, A6, c6, rfl, F6, r6, hbq⟩ := hcut
    have B4 := Lib.hid (And.intro (below_next hb3 B2.out.1 hbq) (B2.out.2.keep hbq))
    clear r1 r2 r3 hbq
    have r0 := B4.out.2.cell 0
    have k0 := F6.k0; have k1 := F6.k1; have k2 := F6.k2
    have HH := Lib.hid (HW.out _ B4.out.1)
    have r1 := B4.out.2.cell 1
    have r2 := B4.out.2.cell 2
    have r3 := B4.out.2.cell 3
    by_cases h1 : g1 = 0
    · subst h1
      go_wp2_with (go_at_call 11; (first
        | (with_reducible refine (E1.out _ _ HH.out.1 HH.out.2).mono ?_); rintro e7 w7 ⟨rfl, hb7⟩; have HH2 := Lib.hid (HH.out.1.below hb7); have R6 := Lib.hid (r6.below hb7); have B5 := Lib.hid (below_next hb3 B4.out.1 hb7); have G6 := F6.keep hb7; clear k0 k1 k2 hb7; have k0 := G6.k0; have k1 := G6.k1; have k2 := G6.k2
        | (with_reducible refine (E2.out _ _ HH2.out R6.out).mono ?_); rintro e8 w8 ⟨rfl, hb8⟩))
      go_ret
      exact ⟨by first | rfl | (rw [if_pos rfl]; rfl), by first | exact below_next hb3 B5.out hb8 | (rw [hb3]; exact below_next hb3 B5.out hb8)⟩
    · have H1 := Lib.hid h1
      have ne : (g1 != 0) = true := by simpa using h1
      clear h1
      go_wp2_with (go_at_call 11; (with_reducible refine (E1.out _ _ HH.out.1 HH.out.2).mono ?_); rintro e7 w7 ⟨rfl, hb7⟩)
      go_ret
      exact ⟨by first | rfl | (rw [if_neg H1.out]; rfl), by first | exact below_next hb3 B4.out.1 hb7 | (rw [hb3]; exact below_next hb3 B4.out.1 hb7)⟩

theorem entails_any (w : World) (v vr : Value) (l : List Rw) (r : Rw) (h : RowsAt w v l) (hw : ∀ r ∈ l, RWide r) (hl : l.length ≤ 1000) (hr : RatsAt w vr r.2.1) (hx : RWide r) :
    Calls Try.prog 11 #[v, .agg #[.int .i64 r.1, vr, .int .i64 r.2.2.1, .int .i64 r.2.2.2]] w fun e w' => e = .returned (.int .i64 (entB l r)) ∧ Below w.heap.size w w' := by
  unfold entB
  cases hwr : wrongR r with
  | true =>
    rw [if_pos rfl]
    exact entails_bad w v vr l r h hr hx hwr
  | false =>
    rw [if_neg (by simp)]
    by_cases h0 : r.1 = 0
    · rw [if_pos h0]
      exact entails_zero w v vr l r h hw hl hr hx h0 hwr
    · rw [if_neg h0]
      refine entails_one w v vr l r h hw hl hr hx ?_
      unfold wrongR at hwr
      by_cases h1 : r.1 = 1
      · exact .inl h1
      · by_cases h2 : r.1 = 2
        · exact .inr h2
        · have a0 : (r.1 == 0) = false := by simpa using h0
          have a1 : (r.1 == 1) = false := by simpa using h1
          have a2 : (r.1 == 2) = false := by simpa using h2
          rw [a0, a1, a2] at hwr
          cases hwr
end Go.Proofs.Ytkinbbhbencipaa
