/-
  What a solvable system's answer is; the walk of GaussPivots. (Template: by-name.py fills it; gen/genGauQ.py writes it.)
-/
import Derived.Test.YtocmhidkfjahcaaJG
import Derived.Test.YtocmhidkfjahcaaJH
import Derived.Test.YtocmhidkfjahcaaJTermY
namespace Go.Proofs.Ytocmhidkfjahcaa
open Go.RowKit

theorem trms_ok {ts : List Trm} (hw : ∀ t ∈ ts, Wide t.1 ∧ Bd t.2) (h : ts.any prWrong = false) : ∀ t ∈ ts, TrmOk t := fun t ht => by
  have q : prWrong t = false := by
    cases e : prWrong t
    · rfl
    · have := List.any_eq_true.2 ⟨t, ht, e⟩
      rw [h] at this
      cases this
  unfold prWrong at q
  obtain ⟨p, a, b⟩ := right_parts (by simpa using q) (hw t ht).1 (hw t ht).2.1.1 (hw t ht).2.1.2 (hw t ht).2.2.1 (hw t ht).2.2.2
  exact ⟨a, b, p⟩
theorem solveT_sat {ts a : List Trm} {p : List Int} (hw : ∀ t ∈ ts, Wide t.1 ∧ Bd t.2) (h : solveT ts = ((a, p), 0)) : (∀ t ∈ ts, TrmOk t) ∧ ∃ l, solveK ts 8 = some (l, a, p) ∧ l.any prK = false := by
  unfold solveT at h
  split at h
  · rename_i g
    refine ⟨trms_ok hw g.2, ?_⟩
    split at h
    · simp at h
    · rename_i s hs
      split at h
      · simp at h
      · rename_i hq
        obtain ⟨l, a', p'⟩ := s
        simp only [Prod.mk.injEq, and_true] at h
        obtain ⟨rfl, rfl⟩ := h
        exact ⟨l, hs, by simpa using hq⟩
  · simp at h
theorem solveT_code (ts : List Trm) : (solveT ts).2 = 0 ∨ ((solveT ts).2 = 1 ∧ (solveT ts).1 = ([], [])) ∨ ((solveT ts).2 = 2 ∧ (solveT ts).1 = ([], [])) := by
  unfold solveT
  split
  · split
    · exact .inr (.inr ⟨rfl, rfl⟩)
    · split
      · exact .inr (.inl ⟨rfl, rfl⟩)
      · exact .inl rfl
  · exact .inr (.inr ⟨rfl, rfl⟩)

/-- A variable that is taken stands once. -/
structure PivOk (a : List Trm) (p : List Int) : Prop where
  len : a.length = p.length
  rng : ∀ (i : Nat) (x : Int), p[i]? = some x → 0 ≤ x ∧ x < 8
  inc : ∀ (i j : Nat) (x y : Int), i < j → p[i]? = some x → p[j]? = some y → x < y
  at_ : ∀ (i k : Nat) (x : Int) (t : Trm), p[i]? = some x → a[k]? = some t → atL t.1 x = if k = i then (1, 1) else (0, 1)
theorem piv_ok {ts a : List Trm} {p : List Int} (hw : ∀ t ∈ ts, Wide t.1 ∧ Bd t.2) (h : solveT ts = ((a, p), 0)) : PivOk a p := by
  obtain ⟨hok, l, hk, _⟩ := solveT_sat hw h
  obtain ⟨so, E⟩ := ech_all hok 8 _ hk
  refine ⟨so.ql, E.rng, E.inc, fun i k x t hx ht => ?_⟩
  have u := E.unit i k x t hx ht
  have ok := (so.q t (List.mem_of_getElem? ht)).ok.at x
  by_cases g : k = i
  · rw [if_pos g]
    rw [if_pos g.symm] at u
    exact ok.inj okR_one (by rw [q_one]; exact u)
  · rw [if_neg g]
    rw [if_neg (fun e => g e.symm)] at u
    exact ok.inj okR_nought (by rw [q_zero]; exact u)

/-- What stands in memory in the inner round. -/
structure PivS (w3 wr : World) (b8 : Nat) (q1 : Int) : Prop where
  b : Below w3.heap.size w3 wr
  k0 : wr.cell? ⟨b8, 0, none⟩ = some (.int .i64 q1)
  k1 : wr.cell? ⟨b8, 1, none⟩ = some (.int .i64 1)
theorem PivS.keep {w3 wr w2 : World} {b8 : Nat} {q1 : Int} (h : PivS w3 wr b8 q1) (hb : Below wr.heap.size wr w2) : PivS w3 w2 b8 q1 :=
  ⟨h.b.trans (hb.mono h.b.size), keep_cell hb (World.block_lt_of_cell? _ _ h.k0) h.k0, keep_cell hb (World.block_lt_of_cell? _ _ h.k1) h.k1⟩
abbrev PivC (w' : World) (ad bd : Addr) (k i b8 : Nat) (x0 : Value) (x1 x2 y q1 : Int) : Prop :=
  (w'.cell? (ad.add (k * 3)) = some x0 ∧ w'.cell? ⟨(ad.add (k * 3)).block, (ad.add (k * 3)).off + 1, none⟩ = some (.int .i64 x1) ∧ w'.cell? ⟨(ad.add (k * 3)).block, (ad.add (k * 3)).off + 2, none⟩ = some (.int .i64 x2)) ∧ w'.cell? (bd.add i) = some (.int .i64 y) ∧ w'.cell? ⟨b8, 0, none⟩ = some (.int .i64 q1) ∧ w'.cell? ⟨b8, 1, none⟩ = some (.int .i64 1)
abbrev PivD (w' : World) (ad bd : Addr) (k i : Nat) (x0 : Value) (x1 x2 y : Int) : Prop :=
  (w'.cell? (ad.add (k * 3)) = some x0 ∧ w'.cell? ⟨(ad.add (k * 3)).block, (ad.add (k * 3)).off + 1, none⟩ = some (.int .i64 x1) ∧ w'.cell? ⟨(ad.add (k * 3)).block, (ad.add (k * 3)).off + 2, none⟩ = some (.int .i64 x2)) ∧ w'.cell? (bd.add i) = some (.int .i64 y)
theorem hold_piv {w3 wr w2 : World} {ad bd : Addr} {k i b8 : Nat} {x0 : Value} {x1 x2 y q1 : Int} {C : Prop} (CE : ∀ w', Below w3.heap.size w3 w' → PivD w' ad bd k i x0 x1 x2 y) (hb : Below wr.heap.size wr w2) (h : C ∧ PivS w3 wr b8 q1) : PivC w2 ad bd k i b8 x0 x1 x2 y q1 ∧ PivS w3 w2 b8 q1 :=
  have s := h.2.keep hb
  have c := CE w2 s.b
  ⟨⟨c.1, c.2, s.k0, s.k1⟩, s⟩
theorem piv_of {w3 wr : World} {b8 : Nat} {q1 : Int} {C : Prop} (h : C ∧ PivS w3 wr b8 q1) : PivS w3 wr b8 q1 := h.2

set_option maxRecDepth 10000 in
set_option maxHeartbeats 2000000 in
theorem pivots_out (w : World) (v : Value) (ts : List Trm) (h : TermsAt w v ts) (hs : smallT ts = false) :
    Calls Try.prog 6 #[v] w fun e w' => e = .returned (.bool true) ∧ Below w.heap.size w w' := by
  have sm := fun (w' : World) (hb : Below w.heap.size w w') => smalls_any w' v ts (h.below hb)
  rw [hs] at sm
  have SM := Lib.hid sm
  have B0 := Lib.hid (Below.refl w.heap.size w)
  clear sm h hs
  go_enter Try.func6, Try.ntmps6
  go_wp2_with (first
    | (go_at_call 12; (with_reducible refine (awake3_yes _).mono ?_); rintro e w1 ⟨rfl, hb⟩; have B0 := Lib.hid (B0.out.trans (hb.mono B0.out.size)); clear hb)
    | (go_at_call 13; (with_reducible refine (SM.out _ B0.out).mono ?_); rintro e w2 ⟨rfl, hb⟩; have B0 := Lib.hid (B0.out.trans (hb.mono B0.out.size)); clear hb))
  go_ret
  exact ⟨rfl, B0.out⟩

set_option maxRecDepth 100000 in
set_option maxHeartbeats 8000000 in
theorem pivots_big (w : World) (v : Value) (ts : List Trm) (h : TermsAt w v ts) (hw : ∀ t ∈ ts, Wide t.1 ∧ Bd t.2) (hs : smallT ts = true) :
    Calls Try.prog 6 #[v] w fun e w' => e = .returned (.bool true) ∧ Below w.heap.size w w' := by
  have sm := fun (w' : World) (hb : Below w.heap.size w w') => smalls_any w' v ts (h.below hb)
  rw [hs] at sm
  have SM := Lib.hid sm
  have gs := fun (w' : World) (hb : Below w.heap.size w w') => gsolve_any w' v ts (h.below hb) hw
  obtain ⟨⟨⟨a, p⟩, z⟩, hG⟩ : ∃ r, solveT ts = r := ⟨_, rfl⟩
  rw [hG] at gs
  have G := Lib.hid gs
  have B0 := Lib.hid (Below.refl w.heap.size w)
  clear sm gs h hs
  by_cases hz : z = 0
  rotate_left
  · have z1 : (z != 0) = true := by simpa using hz
    clear hz hG
    go_enter Try.func6, Try.ntmps6
    go_wp2_with (first
    | (go_at_call 12; (with_reducible refine (awake3_yes _).mono ?_); rintro e w1 ⟨rfl, hb⟩; have B0 := Lib.hid (B0.out.trans (hb.mono B0.out.size)); clear hb)
    | (go_at_call 13; (with_reducible refine (SM.out _ B0.out).mono ?_); rintro e w2 ⟨rfl, hb⟩; have b2 := Lib.hid (B0.out.trans (hb.mono B0.out.size)); clear hb)
    | (go_at_call 14; (with_reducible refine (G.out _ b2.out).mono ?_); rintro e w3 ⟨A, c, B, d, rfl, hT, hI, hb⟩; have b3 := Lib.hid (b2.out.trans (hb.mono b2.out.size)); have HT := Lib.hid hT; have HI := Lib.hid hI; clear hb hT hI))
    go_ret
    exact ⟨rfl, b3.out⟩
  subst hz
  have PO := Lib.hid (piv_ok hw hG)
  clear hG hw
  go_enter Try.func6, Try.ntmps6
  go_upto_region 6 with (first
    | (go_at_call 12; (with_reducible refine (awake3_yes _).mono ?_); rintro e w1 ⟨rfl, hb⟩; have B0 := Lib.hid (B0.out.trans (hb.mono B0.out.size)); clear hb)
    | (go_at_call 13; (with_reducible refine (SM.out _ B0.out).mono ?_); rintro e w2 ⟨rfl, hb⟩; have b2 := Lib.hid (B0.out.trans (hb.mono B0.out.size)); clear hb)
    | (go_at_call 14; (with_reducible refine (G.out _ b2.out).mono ?_); rintro e w3 ⟨A, c, B, d, rfl, hT, hI, hb⟩; have b3 := Lib.hid (b2.out.trans (hb.mono b2.out.size)); have HT := Lib.hid hT; have HI := Lib.hid hI; clear hb hT hI))
  clear B0 b2
  have hlp := PO.out.len
  rw [hlp] at HT
  obtain ⟨m, hm⟩ : ∃ m, m = p.length := ⟨_, rfl⟩
  rw [hlp, ← hm]
  rw [← hm] at HT HI
  have HM := Lib.hid (And.intro hm hlp)
  obtain ⟨A0, c0, rs, e, t1, t2, t3, t4, t5⟩ := HT.out
  injection e with e1 e2 e3
  subst e1 e3
  rw [← e2] at t4
  obtain ⟨B1, d0, e, u1, u2, u3⟩ := HI.out
  injection e with e1 e4 e3
  subst e1 e3
  rw [← e4] at u3
  have hmx : m ≤ 9223372036854775807 := by unfold maxLen at t2; omega
  have HN := Lib.hid (And.intro t3 (And.intro t4 (And.intro t5 (And.intro u3 (And.intro e2 hmx)))))
  clear t1 t2 t3 t4 t5 u1 u2 u3 e2 e4 hmx HT HI hm hlp SM G
  have e0 : ((m : Int) == (m : Int)) = true := by simp
  go_wp2_with fail
  go_loopg [6] m (fun g v6 wr => ∃ i : Nat, v6 = .int .i64 i ∧ i ≤ m ∧ g = m - i ∧ Below w3.heap.size w3 wr)
  case atStart => exact ⟨0, rfl, Nat.zero_le _, rfl, Below.refl _ _⟩
  case round =>
    obtain ⟨i, rfl, hi, hg, hb⟩ := hrel
    by_cases him : i = m
    · subst him
      have HB := Lib.hid hb
      clear hi hg hb
      go_wp2_with fail
      go_ret
      exact ⟨rfl, b3.out.trans (HB.out.mono b3.out.size)⟩
    · have hlt : i < m := by omega
      obtain ⟨y, hy⟩ : ∃ y, p[i]? = some y := ⟨_, List.getElem?_eq_getElem (by have := HM.out.1; omega)⟩
      have hyr := PO.out.rng i y hy
      obtain ⟨bd, rfl, d1⟩ := ints_cells HN.out.2.2.2.1 hb hy (by omega)
      have f1 : (i : Int) < (m : Int) := by omega
      have f2 : (0 : Int) ≤ (i : Int) := by omega
      have wi : IntKind.i64.wrap ((i : Int) + 1) = (i : Int) + 1 := IntWalk.i64_in _ (by have := HN.out.2.2.2.2.2; omega)
      have f3 : decide (y < 0) = false := decide_eq_false (by omega)
      have f4 : decide (7 < y) = false := decide_eq_false (by omega)
      have f5 : ¬ y < 0 := by omega
      have f6 : ¬ 7 < y := by omega
      have HB2 := Lib.hid (fun n => below_drewN hb n)
      have HY := Lib.hid hy
      have HI := Lib.hid (And.intro hlt hg)
      have CD : ∀ w', Below w3.heap.size w3 w' → w'.cell? (bd.add i) = some (.int .i64 y) := fun w' hb => by
        obtain ⟨_, e, q⟩ := ints_cells HN.out.2.2.2.1 hb hy (by omega)
        injection e with e
        subst e
        exact q
      have CD := Lib.hid CD
      by_cases h0 : 0 < i
      rotate_left
      · have g0 : decide ((0 : Int) < (i : Int)) = false := decide_eq_false (by omega)
        have g1 : ¬ (0 : Int) < (i : Int) := by omega
        have g2 : ¬ 0 < i := h0
        clear hi hg hb him hlt hy hyr h0
        go_upto_region 9 with fail
        go_quiet (fail)
        clear g0 g1 g2 f3 f4 f5 f6 d1
        go_wp2_with fail
        go_loopg [7] m (fun g v7 wx => ∃ k : Nat, v7 = .int .i64 k ∧ k ≤ m ∧ g = m - k ∧ Below w3.heap.size w3 wx)
        case atStart => exact ⟨0, rfl, Nat.zero_le _, rfl, HB2.out _⟩
        case round =>
          obtain ⟨wx, rfl⟩ : ∃ wx : World, wx = wr := ⟨_, rfl⟩
          obtain ⟨k, rfl, hk, hg, hb⟩ := hrel
          by_cases hkm : k = m
          · subst hkm
            have HB := Lib.hid hb
            clear hk hg hb
            go_wp2_with fail
            go_roundg (k - (i + 1))
            case measure => have := HI.out; omega
            case rel => exact ⟨i + 1, by push_cast; rfl, by have := HI.out; omega, rfl, HB.out⟩
          · have hlt : k < m := by omega
            obtain ⟨x, hx⟩ : ∃ x, rs[k]? = some x := ⟨_, List.getElem?_eq_getElem (by have a := HN.out.1; have b := HN.out.2.2.2.2.1; rw [← a, List.length_map] at b; omega)⟩
            have hxa : a[k]? = some x.2 := by rw [← HN.out.1, List.getElem?_map, hx]; rfl
            obtain ⟨ad, rfl, _, _⟩ := terms_cells HN.out.2.1 (Below.refl _ _) hx (by omega)
            have CE := Lib.hid (fun (w' : World) (hb : Below w3.heap.size w3 w') => show PivD w' ad bd k i x.1 x.2.2.1 x.2.2.2 y by
              obtain ⟨_, e1, q⟩ := terms_cells HN.out.2.1 hb hx (by omega)
              injection e1 with e1
              subst e1
              exact ⟨q, CD.out w' hb⟩)
            have i1 : (k : Int) < (m : Int) := by omega
            have i2 : (0 : Int) ≤ (k : Int) := by omega
            have wk : IntKind.i64.wrap ((k : Int) + 1) = (k : Int) + 1 := IntWalk.i64_in _ (by have := HN.out.2.2.2.2.2; omega)
            have HK := Lib.hid (And.intro hlt hg)
            have HB := Lib.hid hb
            clear hlt hg hb
            by_cases hki : k = i
            · skip
              have i5 : ((k : Int) == (i : Int)) = true := by rw [hki]; simp
              have at_ := fun (w' : World) (hb : Below w3.heap.size w3 w') => rat_any w' x.1 x.2.1 x.2.2.1 x.2.2.2 y ((HN.out.2.2.1 x (List.mem_of_getElem? hx)).below hb)
              rw [show atL x.2.1 y = (1, 1) from (PO.out.at_ i k y x.2 HY.out hxa).trans (if_pos hki)] at at_
              have AT := Lib.hid at_
              clear at_ hxa hx hki hkm hk
              obtain ⟨x0, xl, x1, x2⟩ := x
              dsimp only at *
              go_upto_region 17 with fail
              have P0 : PivS w3 (wx.alloc (.cells #[.int .i64 1, .int .i64 1] 36)) wx.heap.size 1 := ⟨HB.out.trans ((below_alloc1 wx _).mono HB.out.size), by go_simp, by go_simp⟩
              generalize wx.alloc (.cells #[.int .i64 1, .int .i64 1] 36) = wq at *
              generalize wx.heap.size = b8 at *
              have HS := hold_piv CE.out (below_drew wq) (And.intro True.intro P0)
              clear P0
              refine wp_region_noPanic ?_
              refine wp_region_held_drew (S := (fun w' => ((w'.cell? (ad.add (k * 3)) = some x0 ∧ w'.cell? ⟨(ad.add (k * 3)).block, (ad.add (k * 3)).off + 1, none⟩ = some (.int .i64 x1) ∧ w'.cell? ⟨(ad.add (k * 3)).block, (ad.add (k * 3)).off + 2, none⟩ = some (.int .i64 x2)) ∧ w'.cell? (bd.add i) = some (.int .i64 y) ∧ w'.cell? ⟨b8, 0, none⟩ = some (.int .i64 1) ∧ w'.cell? ⟨b8, 1, none⟩ = some (.int .i64 1)) ∧ PivS w3 w' b8 1)) (by kernel_rfl) HS (fun hHeld => ?_)
              clear HS
              refine wpAnyH_take (i := 0) (oi := _) (v := ?_) rfl (by kernel_rfl) (by kernel_rfl) (by kernel_rfl) (fun _ _ _ h => h) (Or.inl ⟨by rfl, ?_⟩) (by assumption) ?_
              rotate_left
              · intro ww hSw
                (try dsimp only at hSw)
                go_simp <;> with_reducible rfl
              (try simp only [List.getElem_toArray, List.getElem_cons_zero, Act.put, List.setIfInBounds_toArray, List.set_cons_zero, List.set_cons_succ])
              refine wpAnyH_take (i := 1) (oi := _) (v := ?_) rfl (by kernel_rfl) (by kernel_rfl) (by kernel_rfl) (fun _ _ _ h => h) (Or.inl ⟨by rfl, ?_⟩) (by assumption) ?_
              rotate_left
              · intro ww hSw
                (try dsimp only at hSw)
                go_simp <;> with_reducible rfl
              (try simp only [List.getElem_toArray, List.getElem_cons_succ, List.getElem_cons_zero, Act.put, List.setIfInBounds_toArray, List.set_cons_zero, List.set_cons_succ])
              refine wpAnyH_take (i := 2) (oi := _) (v := ?_) rfl (by kernel_rfl) (by kernel_rfl) (by kernel_rfl) (fun _ _ _ h => h) (Or.inl ⟨by rfl, ?_⟩) (by assumption) ?_
              rotate_left
              · intro ww hSw
                (try dsimp only at hSw)
                go_simp <;> with_reducible rfl
              (try simp only [List.getElem_toArray, List.getElem_cons_succ, List.getElem_cons_zero, Act.put, List.setIfInBounds_toArray, List.set_cons_zero, List.set_cons_succ])
              refine wpAnyH_take (i := 3) (oi := _) (v := ?_) rfl (by kernel_rfl) (by kernel_rfl) (by kernel_rfl) (fun _ _ _ h => h) (Or.inl ⟨by rfl, ?_⟩) (by assumption) ?_
              rotate_left
              · intro ww hSw
                (try dsimp only at hSw)
                go_simp <;> with_reducible rfl
              (try simp only [List.getElem_toArray, List.getElem_cons_succ, List.getElem_cons_zero, Act.put, List.setIfInBounds_toArray, List.set_cons_zero, List.set_cons_succ])
              refine wpAnyH_take (i := 4) (oi := _) (v := ?_) rfl (by kernel_rfl) (by kernel_rfl) (by kernel_rfl) (fun _ _ _ h => h) (Or.inl ⟨by rfl, ?_⟩) (by assumption) ?_
              rotate_left
              · intro ww hSw
                (try dsimp only at hSw)
                go_simp <;> with_reducible rfl
              (try simp only [List.getElem_toArray, List.getElem_cons_succ, List.getElem_cons_zero, Act.put, List.setIfInBounds_toArray, List.set_cons_zero, List.set_cons_succ])
              refine wpAnyH_take (i := 5) (oi := _) (v := ?_) rfl (by kernel_rfl) (by kernel_rfl) (by kernel_rfl) (fun _ _ _ h => h) (Or.inl ⟨by rfl, ?_⟩) (by assumption) ?_
              rotate_left
              · intro ww hSw
                (try dsimp only at hSw)
                go_simp <;> with_reducible rfl
              (try simp only [List.getElem_toArray, List.getElem_cons_succ, List.getElem_cons_zero, Act.put, List.setIfInBounds_toArray, List.set_cons_zero, List.set_cons_succ])
              refine wpAnyH_take (i := 6) (oi := _) (v := ?_) rfl (by kernel_rfl) (by kernel_rfl) (by kernel_rfl) (fun _ _ _ h => h) (Or.inl ⟨by rfl, ?_⟩) (by assumption) ?_
              rotate_left
              · intro ww hSw
                (try dsimp only at hSw)
                go_simp <;> with_reducible rfl
              (try simp only [List.getElem_toArray, List.getElem_cons_succ, List.getElem_cons_zero, Act.put, List.setIfInBounds_toArray, List.set_cons_zero, List.set_cons_succ])
              refine wpAnyH_take (i := 7) (oi := _) (v := ?_) rfl (by kernel_rfl) (by kernel_rfl) (by kernel_rfl) (fun _ _ _ h => h) (Or.inl ⟨by rfl, ?_⟩) (by assumption) ?_
              rotate_left
              · intro ww hSw
                (try dsimp only at hSw)
                go_simp <;> with_reducible rfl
              (try simp only [List.getElem_toArray, List.getElem_cons_succ, List.getElem_cons_zero, Act.put, List.setIfInBounds_toArray, List.set_cons_zero, List.set_cons_succ])
              refine wpAnyH_take (i := 9) (oi := _) (v := ?_) rfl (by kernel_rfl) (by kernel_rfl) (by kernel_rfl) (fun _ _ _ h => h) (Or.inl ⟨by rfl, ?_⟩) (by assumption) ?_
              rotate_left
              · intro ww hSw
                (try dsimp only at hSw)
                go_simp <;> with_reducible rfl
              (try simp only [List.getElem_toArray, List.getElem_cons_succ, List.getElem_cons_zero, Act.put, List.setIfInBounds_toArray, List.set_cons_zero, List.set_cons_succ])
              refine wpAnyH_ready (rs := [8]) (by kernel_rfl) (by simp) ?_
              refine AllReadyH.cons (o := _) rfl (fun K hK => ?_) AllReadyH.nil
              go_simp
              (go_at_call 20; (with_reducible refine (AT.out _ (piv_of (by with_reducible assumption)).b).mono ?_); rintro e w5 ⟨rfl, hb⟩)
              go_wp2_with fail
              refine hK.out _ _ (hold_piv CE.out (by with_reducible assumption) (by with_reducible assumption)) (fun hH2 => ?_)
              clear hK K hHeld hb
              have hHeld := hH2
              clear hH2
              (try simp only [List.getElem_toArray, List.getElem_cons_succ, List.getElem_cons_zero, Act.put, List.setIfInBounds_toArray, List.set_cons_zero, List.set_cons_succ])
              refine wpAnyH_take (i := 10) (oi := _) (v := ?_) rfl (by kernel_rfl) (by kernel_rfl) (by kernel_rfl) (fun _ _ _ h => h) (Or.inl ⟨by rfl, ?_⟩) (by assumption) ?_
              rotate_left
              · intro ww hSw
                (try dsimp only at hSw)
                go_simp <;> with_reducible rfl
              (try simp only [List.getElem_toArray, List.getElem_cons_succ, List.getElem_cons_zero, Act.put, List.setIfInBounds_toArray, List.set_cons_zero, List.set_cons_succ])
              refine wpAnyH_done (by kernel_rfl) ?_ _
              refine NoPanic.normal ?_
              have B9 := Lib.hid (piv_of hHeld).b
              clear hHeld
              go_wp2_with fail
              go_roundg (m - (k + 1))
              case measure => have := HK.out; omega
              case rel => exact ⟨k + 1, by push_cast; rfl, by have := HK.out; omega, rfl, B9.out⟩
            · skip
              have i5 : ((k : Int) == (i : Int)) = false := by rw [beq_eq_false_iff_ne]; omega
              have at_ := fun (w' : World) (hb : Below w3.heap.size w3 w') => rat_any w' x.1 x.2.1 x.2.2.1 x.2.2.2 y ((HN.out.2.2.1 x (List.mem_of_getElem? hx)).below hb)
              rw [show atL x.2.1 y = (0, 1) from (PO.out.at_ i k y x.2 HY.out hxa).trans (if_neg hki)] at at_
              have AT := Lib.hid at_
              clear at_ hxa hx hki hkm hk
              obtain ⟨x0, xl, x1, x2⟩ := x
              dsimp only at *
              go_upto_region 17 with fail
              have P0 : PivS w3 (wx.alloc (.cells #[.int .i64 0, .int .i64 1] 36)) wx.heap.size 0 := ⟨HB.out.trans ((below_alloc1 wx _).mono HB.out.size), by go_simp, by go_simp⟩
              generalize wx.alloc (.cells #[.int .i64 0, .int .i64 1] 36) = wq at *
              generalize wx.heap.size = b8 at *
              have HS := hold_piv CE.out (below_drew wq) (And.intro True.intro P0)
              clear P0
              refine wp_region_noPanic ?_
              refine wp_region_held_drew (S := (fun w' => ((w'.cell? (ad.add (k * 3)) = some x0 ∧ w'.cell? ⟨(ad.add (k * 3)).block, (ad.add (k * 3)).off + 1, none⟩ = some (.int .i64 x1) ∧ w'.cell? ⟨(ad.add (k * 3)).block, (ad.add (k * 3)).off + 2, none⟩ = some (.int .i64 x2)) ∧ w'.cell? (bd.add i) = some (.int .i64 y) ∧ w'.cell? ⟨b8, 0, none⟩ = some (.int .i64 0) ∧ w'.cell? ⟨b8, 1, none⟩ = some (.int .i64 1)) ∧ PivS w3 w' b8 0)) (by kernel_rfl) HS (fun hHeld => ?_)
              clear HS
              refine wpAnyH_take (i := 0) (oi := _) (v := ?_) rfl (by kernel_rfl) (by kernel_rfl) (by kernel_rfl) (fun _ _ _ h => h) (Or.inl ⟨by rfl, ?_⟩) (by assumption) ?_
              rotate_left
              · intro ww hSw
                (try dsimp only at hSw)
                go_simp <;> with_reducible rfl
              (try simp only [List.getElem_toArray, List.getElem_cons_zero, Act.put, List.setIfInBounds_toArray, List.set_cons_zero, List.set_cons_succ])
              refine wpAnyH_take (i := 1) (oi := _) (v := ?_) rfl (by kernel_rfl) (by kernel_rfl) (by kernel_rfl) (fun _ _ _ h => h) (Or.inl ⟨by rfl, ?_⟩) (by assumption) ?_
              rotate_left
              · intro ww hSw
                (try dsimp only at hSw)
                go_simp <;> with_reducible rfl
              (try simp only [List.getElem_toArray, List.getElem_cons_succ, List.getElem_cons_zero, Act.put, List.setIfInBounds_toArray, List.set_cons_zero, List.set_cons_succ])
              refine wpAnyH_take (i := 2) (oi := _) (v := ?_) rfl (by kernel_rfl) (by kernel_rfl) (by kernel_rfl) (fun _ _ _ h => h) (Or.inl ⟨by rfl, ?_⟩) (by assumption) ?_
              rotate_left
              · intro ww hSw
                (try dsimp only at hSw)
                go_simp <;> with_reducible rfl
              (try simp only [List.getElem_toArray, List.getElem_cons_succ, List.getElem_cons_zero, Act.put, List.setIfInBounds_toArray, List.set_cons_zero, List.set_cons_succ])
              refine wpAnyH_take (i := 3) (oi := _) (v := ?_) rfl (by kernel_rfl) (by kernel_rfl) (by kernel_rfl) (fun _ _ _ h => h) (Or.inl ⟨by rfl, ?_⟩) (by assumption) ?_
              rotate_left
              · intro ww hSw
                (try dsimp only at hSw)
                go_simp <;> with_reducible rfl
              (try simp only [List.getElem_toArray, List.getElem_cons_succ, List.getElem_cons_zero, Act.put, List.setIfInBounds_toArray, List.set_cons_zero, List.set_cons_succ])
              refine wpAnyH_take (i := 4) (oi := _) (v := ?_) rfl (by kernel_rfl) (by kernel_rfl) (by kernel_rfl) (fun _ _ _ h => h) (Or.inl ⟨by rfl, ?_⟩) (by assumption) ?_
              rotate_left
              · intro ww hSw
                (try dsimp only at hSw)
                go_simp <;> with_reducible rfl
              (try simp only [List.getElem_toArray, List.getElem_cons_succ, List.getElem_cons_zero, Act.put, List.setIfInBounds_toArray, List.set_cons_zero, List.set_cons_succ])
              refine wpAnyH_take (i := 5) (oi := _) (v := ?_) rfl (by kernel_rfl) (by kernel_rfl) (by kernel_rfl) (fun _ _ _ h => h) (Or.inl ⟨by rfl, ?_⟩) (by assumption) ?_
              rotate_left
              · intro ww hSw
                (try dsimp only at hSw)
                go_simp <;> with_reducible rfl
              (try simp only [List.getElem_toArray, List.getElem_cons_succ, List.getElem_cons_zero, Act.put, List.setIfInBounds_toArray, List.set_cons_zero, List.set_cons_succ])
              refine wpAnyH_take (i := 6) (oi := _) (v := ?_) rfl (by kernel_rfl) (by kernel_rfl) (by kernel_rfl) (fun _ _ _ h => h) (Or.inl ⟨by rfl, ?_⟩) (by assumption) ?_
              rotate_left
              · intro ww hSw
                (try dsimp only at hSw)
                go_simp <;> with_reducible rfl
              (try simp only [List.getElem_toArray, List.getElem_cons_succ, List.getElem_cons_zero, Act.put, List.setIfInBounds_toArray, List.set_cons_zero, List.set_cons_succ])
              refine wpAnyH_take (i := 7) (oi := _) (v := ?_) rfl (by kernel_rfl) (by kernel_rfl) (by kernel_rfl) (fun _ _ _ h => h) (Or.inl ⟨by rfl, ?_⟩) (by assumption) ?_
              rotate_left
              · intro ww hSw
                (try dsimp only at hSw)
                go_simp <;> with_reducible rfl
              (try simp only [List.getElem_toArray, List.getElem_cons_succ, List.getElem_cons_zero, Act.put, List.setIfInBounds_toArray, List.set_cons_zero, List.set_cons_succ])
              refine wpAnyH_take (i := 9) (oi := _) (v := ?_) rfl (by kernel_rfl) (by kernel_rfl) (by kernel_rfl) (fun _ _ _ h => h) (Or.inl ⟨by rfl, ?_⟩) (by assumption) ?_
              rotate_left
              · intro ww hSw
                (try dsimp only at hSw)
                go_simp <;> with_reducible rfl
              (try simp only [List.getElem_toArray, List.getElem_cons_succ, List.getElem_cons_zero, Act.put, List.setIfInBounds_toArray, List.set_cons_zero, List.set_cons_succ])
              refine wpAnyH_ready (rs := [8]) (by kernel_rfl) (by simp) ?_
              refine AllReadyH.cons (o := _) rfl (fun K hK => ?_) AllReadyH.nil
              go_simp
              (go_at_call 20; (with_reducible refine (AT.out _ (piv_of (by with_reducible assumption)).b).mono ?_); rintro e w5 ⟨rfl, hb⟩)
              go_wp2_with fail
              refine hK.out _ _ (hold_piv CE.out (by with_reducible assumption) (by with_reducible assumption)) (fun hH2 => ?_)
              clear hK K hHeld hb
              have hHeld := hH2
              clear hH2
              (try simp only [List.getElem_toArray, List.getElem_cons_succ, List.getElem_cons_zero, Act.put, List.setIfInBounds_toArray, List.set_cons_zero, List.set_cons_succ])
              refine wpAnyH_take (i := 10) (oi := _) (v := ?_) rfl (by kernel_rfl) (by kernel_rfl) (by kernel_rfl) (fun _ _ _ h => h) (Or.inl ⟨by rfl, ?_⟩) (by assumption) ?_
              rotate_left
              · intro ww hSw
                (try dsimp only at hSw)
                go_simp <;> with_reducible rfl
              (try simp only [List.getElem_toArray, List.getElem_cons_succ, List.getElem_cons_zero, Act.put, List.setIfInBounds_toArray, List.set_cons_zero, List.set_cons_succ])
              refine wpAnyH_done (by kernel_rfl) ?_ _
              refine NoPanic.normal ?_
              have B9 := Lib.hid (piv_of hHeld).b
              clear hHeld
              go_wp2_with fail
              go_roundg (m - (k + 1))
              case measure => have := HK.out; omega
              case rel => exact ⟨k + 1, by push_cast; rfl, by have := HK.out; omega, rfl, B9.out⟩
      · obtain ⟨y', hy'⟩ : ∃ y', p[i - 1]? = some y' := ⟨_, List.getElem?_eq_getElem (by have := HM.out.1; omega)⟩
        have hlt' := PO.out.inc (i - 1) i y' y (by omega) hy' hy
        obtain ⟨_, e, d2⟩ := ints_cells HN.out.2.2.2.1 hb hy' (by omega)
        injection e with e
        subst e
        have g0 : decide ((0 : Int) < (i : Int)) = true := decide_eq_true (by omega)
        have g1 : (0 : Int) < (i : Int) := by omega
        have g2 : 0 < i := h0
        have g3 : decide (y ≤ y') = false := decide_eq_false (by omega)
        have g4 : IntKind.i64.wrap ((i : Int) - 1) = ((i - 1 : Nat) : Int) := by rw [IntWalk.i64_in _ (by have := HN.out.2.2.2.2.2; omega)]; omega
        have g5 : ((i - 1 : Nat) : Int) < (m : Int) := by omega
        have g6 : (0 : Int) ≤ ((i - 1 : Nat) : Int) := by omega
        clear hi hg hb him hlt hy hyr h0 hy' hlt'
        go_upto_region 9 with fail
        go_quiet (fail)
        clear g0 g1 g2 g3 g4 g5 g6 f3 f4 f5 f6 d1 d2
        go_wp2_with fail
        go_loopg [7] m (fun g v7 wx => ∃ k : Nat, v7 = .int .i64 k ∧ k ≤ m ∧ g = m - k ∧ Below w3.heap.size w3 wx)
        case atStart => exact ⟨0, rfl, Nat.zero_le _, rfl, HB2.out _⟩
        case round =>
          obtain ⟨wx, rfl⟩ : ∃ wx : World, wx = wr := ⟨_, rfl⟩
          obtain ⟨k, rfl, hk, hg, hb⟩ := hrel
          by_cases hkm : k = m
          · subst hkm
            have HB := Lib.hid hb
            clear hk hg hb
            go_wp2_with fail
            go_roundg (k - (i + 1))
            case measure => have := HI.out; omega
            case rel => exact ⟨i + 1, by push_cast; rfl, by have := HI.out; omega, rfl, HB.out⟩
          · have hlt : k < m := by omega
            obtain ⟨x, hx⟩ : ∃ x, rs[k]? = some x := ⟨_, List.getElem?_eq_getElem (by have a := HN.out.1; have b := HN.out.2.2.2.2.1; rw [← a, List.length_map] at b; omega)⟩
            have hxa : a[k]? = some x.2 := by rw [← HN.out.1, List.getElem?_map, hx]; rfl
            obtain ⟨ad, rfl, _, _⟩ := terms_cells HN.out.2.1 (Below.refl _ _) hx (by omega)
            have CE := Lib.hid (fun (w' : World) (hb : Below w3.heap.size w3 w') => show PivD w' ad bd k i x.1 x.2.2.1 x.2.2.2 y by
              obtain ⟨_, e1, q⟩ := terms_cells HN.out.2.1 hb hx (by omega)
              injection e1 with e1
              subst e1
              exact ⟨q, CD.out w' hb⟩)
            have i1 : (k : Int) < (m : Int) := by omega
            have i2 : (0 : Int) ≤ (k : Int) := by omega
            have wk : IntKind.i64.wrap ((k : Int) + 1) = (k : Int) + 1 := IntWalk.i64_in _ (by have := HN.out.2.2.2.2.2; omega)
            have HK := Lib.hid (And.intro hlt hg)
            have HB := Lib.hid hb
            clear hlt hg hb
            by_cases hki : k = i
            · skip
              have i5 : ((k : Int) == (i : Int)) = true := by rw [hki]; simp
              have at_ := fun (w' : World) (hb : Below w3.heap.size w3 w') => rat_any w' x.1 x.2.1 x.2.2.1 x.2.2.2 y ((HN.out.2.2.1 x (List.mem_of_getElem? hx)).below hb)
              rw [show atL x.2.1 y = (1, 1) from (PO.out.at_ i k y x.2 HY.out hxa).trans (if_pos hki)] at at_
              have AT := Lib.hid at_
              clear at_ hxa hx hki hkm hk
              obtain ⟨x0, xl, x1, x2⟩ := x
              dsimp only at *
              go_upto_region 17 with fail
              have P0 : PivS w3 (wx.alloc (.cells #[.int .i64 1, .int .i64 1] 36)) wx.heap.size 1 := ⟨HB.out.trans ((below_alloc1 wx _).mono HB.out.size), by go_simp, by go_simp⟩
              generalize wx.alloc (.cells #[.int .i64 1, .int .i64 1] 36) = wq at *
              generalize wx.heap.size = b8 at *
              have HS := hold_piv CE.out (below_drew wq) (And.intro True.intro P0)
              clear P0
              refine wp_region_noPanic ?_
              refine wp_region_held_drew (S := (fun w' => ((w'.cell? (ad.add (k * 3)) = some x0 ∧ w'.cell? ⟨(ad.add (k * 3)).block, (ad.add (k * 3)).off + 1, none⟩ = some (.int .i64 x1) ∧ w'.cell? ⟨(ad.add (k * 3)).block, (ad.add (k * 3)).off + 2, none⟩ = some (.int .i64 x2)) ∧ w'.cell? (bd.add i) = some (.int .i64 y) ∧ w'.cell? ⟨b8, 0, none⟩ = some (.int .i64 1) ∧ w'.cell? ⟨b8, 1, none⟩ = some (.int .i64 1)) ∧ PivS w3 w' b8 1)) (by kernel_rfl) HS (fun hHeld => ?_)
              clear HS
              refine wpAnyH_take (i := 0) (oi := _) (v := ?_) rfl (by kernel_rfl) (by kernel_rfl) (by kernel_rfl) (fun _ _ _ h => h) (Or.inl ⟨by rfl, ?_⟩) (by assumption) ?_
              rotate_left
              · intro ww hSw
                (try dsimp only at hSw)
                go_simp <;> with_reducible rfl
              (try simp only [List.getElem_toArray, List.getElem_cons_zero, Act.put, List.setIfInBounds_toArray, List.set_cons_zero, List.set_cons_succ])
              refine wpAnyH_take (i := 1) (oi := _) (v := ?_) rfl (by kernel_rfl) (by kernel_rfl) (by kernel_rfl) (fun _ _ _ h => h) (Or.inl ⟨by rfl, ?_⟩) (by assumption) ?_
              rotate_left
              · intro ww hSw
                (try dsimp only at hSw)
                go_simp <;> with_reducible rfl
              (try simp only [List.getElem_toArray, List.getElem_cons_succ, List.getElem_cons_zero, Act.put, List.setIfInBounds_toArray, List.set_cons_zero, List.set_cons_succ])
              refine wpAnyH_take (i := 2) (oi := _) (v := ?_) rfl (by kernel_rfl) (by kernel_rfl) (by kernel_rfl) (fun _ _ _ h => h) (Or.inl ⟨by rfl, ?_⟩) (by assumption) ?_
              rotate_left
              · intro ww hSw
                (try dsimp only at hSw)
                go_simp <;> with_reducible rfl
              (try simp only [List.getElem_toArray, List.getElem_cons_succ, List.getElem_cons_zero, Act.put, List.setIfInBounds_toArray, List.set_cons_zero, List.set_cons_succ])
              refine wpAnyH_take (i := 3) (oi := _) (v := ?_) rfl (by kernel_rfl) (by kernel_rfl) (by kernel_rfl) (fun _ _ _ h => h) (Or.inl ⟨by rfl, ?_⟩) (by assumption) ?_
              rotate_left
              · intro ww hSw
                (try dsimp only at hSw)
                go_simp <;> with_reducible rfl
              (try simp only [List.getElem_toArray, List.getElem_cons_succ, List.getElem_cons_zero, Act.put, List.setIfInBounds_toArray, List.set_cons_zero, List.set_cons_succ])
              refine wpAnyH_take (i := 4) (oi := _) (v := ?_) rfl (by kernel_rfl) (by kernel_rfl) (by kernel_rfl) (fun _ _ _ h => h) (Or.inl ⟨by rfl, ?_⟩) (by assumption) ?_
              rotate_left
              · intro ww hSw
                (try dsimp only at hSw)
                go_simp <;> with_reducible rfl
              (try simp only [List.getElem_toArray, List.getElem_cons_succ, List.getElem_cons_zero, Act.put, List.setIfInBounds_toArray, List.set_cons_zero, List.set_cons_succ])
              refine wpAnyH_take (i := 5) (oi := _) (v := ?_) rfl (by kernel_rfl) (by kernel_rfl) (by kernel_rfl) (fun _ _ _ h => h) (Or.inl ⟨by rfl, ?_⟩) (by assumption) ?_
              rotate_left
              · intro ww hSw
                (try dsimp only at hSw)
                go_simp <;> with_reducible rfl
              (try simp only [List.getElem_toArray, List.getElem_cons_succ, List.getElem_cons_zero, Act.put, List.setIfInBounds_toArray, List.set_cons_zero, List.set_cons_succ])
              refine wpAnyH_take (i := 6) (oi := _) (v := ?_) rfl (by kernel_rfl) (by kernel_rfl) (by kernel_rfl) (fun _ _ _ h => h) (Or.inl ⟨by rfl, ?_⟩) (by assumption) ?_
              rotate_left
              · intro ww hSw
                (try dsimp only at hSw)
                go_simp <;> with_reducible rfl
              (try simp only [List.getElem_toArray, List.getElem_cons_succ, List.getElem_cons_zero, Act.put, List.setIfInBounds_toArray, List.set_cons_zero, List.set_cons_succ])
              refine wpAnyH_take (i := 7) (oi := _) (v := ?_) rfl (by kernel_rfl) (by kernel_rfl) (by kernel_rfl) (fun _ _ _ h => h) (Or.inl ⟨by rfl, ?_⟩) (by assumption) ?_
              rotate_left
              · intro ww hSw
                (try dsimp only at hSw)
                go_simp <;> with_reducible rfl
              (try simp only [List.getElem_toArray, List.getElem_cons_succ, List.getElem_cons_zero, Act.put, List.setIfInBounds_toArray, List.set_cons_zero, List.set_cons_succ])
              refine wpAnyH_take (i := 9) (oi := _) (v := ?_) rfl (by kernel_rfl) (by kernel_rfl) (by kernel_rfl) (fun _ _ _ h => h) (Or.inl ⟨by rfl, ?_⟩) (by assumption) ?_
              rotate_left
              · intro ww hSw
                (try dsimp only at hSw)
                go_simp <;> with_reducible rfl
              (try simp only [List.getElem_toArray, List.getElem_cons_succ, List.getElem_cons_zero, Act.put, List.setIfInBounds_toArray, List.set_cons_zero, List.set_cons_succ])
              refine wpAnyH_ready (rs := [8]) (by kernel_rfl) (by simp) ?_
              refine AllReadyH.cons (o := _) rfl (fun K hK => ?_) AllReadyH.nil
              go_simp
              (go_at_call 20; (with_reducible refine (AT.out _ (piv_of (by with_reducible assumption)).b).mono ?_); rintro e w5 ⟨rfl, hb⟩)
              go_wp2_with fail
              refine hK.out _ _ (hold_piv CE.out (by with_reducible assumption) (by with_reducible assumption)) (fun hH2 => ?_)
              clear hK K hHeld hb
              have hHeld := hH2
              clear hH2
              (try simp only [List.getElem_toArray, List.getElem_cons_succ, List.getElem_cons_zero, Act.put, List.setIfInBounds_toArray, List.set_cons_zero, List.set_cons_succ])
              refine wpAnyH_take (i := 10) (oi := _) (v := ?_) rfl (by kernel_rfl) (by kernel_rfl) (by kernel_rfl) (fun _ _ _ h => h) (Or.inl ⟨by rfl, ?_⟩) (by assumption) ?_
              rotate_left
              · intro ww hSw
                (try dsimp only at hSw)
                go_simp <;> with_reducible rfl
              (try simp only [List.getElem_toArray, List.getElem_cons_succ, List.getElem_cons_zero, Act.put, List.setIfInBounds_toArray, List.set_cons_zero, List.set_cons_succ])
              refine wpAnyH_done (by kernel_rfl) ?_ _
              refine NoPanic.normal ?_
              have B9 := Lib.hid (piv_of hHeld).b
              clear hHeld
              go_wp2_with fail
              go_roundg (m - (k + 1))
              case measure => have := HK.out; omega
              case rel => exact ⟨k + 1, by push_cast; rfl, by have := HK.out; omega, rfl, B9.out⟩
            · skip
              have i5 : ((k : Int) == (i : Int)) = false := by rw [beq_eq_false_iff_ne]; omega
              have at_ := fun (w' : World) (hb : Below w3.heap.size w3 w') => rat_any w' x.1 x.2.1 x.2.2.1 x.2.2.2 y ((HN.out.2.2.1 x (List.mem_of_getElem? hx)).below hb)
              rw [show atL x.2.1 y = (0, 1) from (PO.out.at_ i k y x.2 HY.out hxa).trans (if_neg hki)] at at_
              have AT := Lib.hid at_
              clear at_ hxa hx hki hkm hk
              obtain ⟨x0, xl, x1, x2⟩ := x
              dsimp only at *
              go_upto_region 17 with fail
              have P0 : PivS w3 (wx.alloc (.cells #[.int .i64 0, .int .i64 1] 36)) wx.heap.size 0 := ⟨HB.out.trans ((below_alloc1 wx _).mono HB.out.size), by go_simp, by go_simp⟩
              generalize wx.alloc (.cells #[.int .i64 0, .int .i64 1] 36) = wq at *
              generalize wx.heap.size = b8 at *
              have HS := hold_piv CE.out (below_drew wq) (And.intro True.intro P0)
              clear P0
              refine wp_region_noPanic ?_
              refine wp_region_held_drew (S := (fun w' => ((w'.cell? (ad.add (k * 3)) = some x0 ∧ w'.cell? ⟨(ad.add (k * 3)).block, (ad.add (k * 3)).off + 1, none⟩ = some (.int .i64 x1) ∧ w'.cell? ⟨(ad.add (k * 3)).block, (ad.add (k * 3)).off + 2, none⟩ = some (.int .i64 x2)) ∧ w'.cell? (bd.add i) = some (.int .i64 y) ∧ w'.cell? ⟨b8, 0, none⟩ = some (.int .i64 0) ∧ w'.cell? ⟨b8, 1, none⟩ = some (.int .i64 1)) ∧ PivS w3 w' b8 0)) (by kernel_rfl) HS (fun hHeld => ?_)
              clear HS
              refine wpAnyH_take (i := 0) (oi := _) (v := ?_) rfl (by kernel_rfl) (by kernel_rfl) (by kernel_rfl) (fun _ _ _ h => h) (Or.inl ⟨by rfl, ?_⟩) (by assumption) ?_
              rotate_left
              · intro ww hSw
                (try dsimp only at hSw)
                go_simp <;> with_reducible rfl
              (try simp only [List.getElem_toArray, List.getElem_cons_zero, Act.put, List.setIfInBounds_toArray, List.set_cons_zero, List.set_cons_succ])
              refine wpAnyH_take (i := 1) (oi := _) (v := ?_) rfl (by kernel_rfl) (by kernel_rfl) (by kernel_rfl) (fun _ _ _ h => h) (Or.inl ⟨by rfl, ?_⟩) (by assumption) ?_
              rotate_left
              · intro ww hSw
                (try dsimp only at hSw)
                go_simp <;> with_reducible rfl
              (try simp only [List.getElem_toArray, List.getElem_cons_succ, List.getElem_cons_zero, Act.put, List.setIfInBounds_toArray, List.set_cons_zero, List.set_cons_succ])
              refine wpAnyH_take (i := 2) (oi := _) (v := ?_) rfl (by kernel_rfl) (by kernel_rfl) (by kernel_rfl) (fun _ _ _ h => h) (Or.inl ⟨by rfl, ?_⟩) (by assumption) ?_
              rotate_left
              · intro ww hSw
                (try dsimp only at hSw)
                go_simp <;> with_reducible rfl
              (try simp only [List.getElem_toArray, List.getElem_cons_succ, List.getElem_cons_zero, Act.put, List.setIfInBounds_toArray, List.set_cons_zero, List.set_cons_succ])
              refine wpAnyH_take (i := 3) (oi := _) (v := ?_) rfl (by kernel_rfl) (by kernel_rfl) (by kernel_rfl) (fun _ _ _ h => h) (Or.inl ⟨by rfl, ?_⟩) (by assumption) ?_
              rotate_left
              · intro ww hSw
                (try dsimp only at hSw)
                go_simp <;> with_reducible rfl
              (try simp only [List.getElem_toArray, List.getElem_cons_succ, List.getElem_cons_zero, Act.put, List.setIfInBounds_toArray, List.set_cons_zero, List.set_cons_succ])
              refine wpAnyH_take (i := 4) (oi := _) (v := ?_) rfl (by kernel_rfl) (by kernel_rfl) (by kernel_rfl) (fun _ _ _ h => h) (Or.inl ⟨by rfl, ?_⟩) (by assumption) ?_
              rotate_left
              · intro ww hSw
                (try dsimp only at hSw)
                go_simp <;> with_reducible rfl
              (try simp only [List.getElem_toArray, List.getElem_cons_succ, List.getElem_cons_zero, Act.put, List.setIfInBounds_toArray, List.set_cons_zero, List.set_cons_succ])
              refine wpAnyH_take (i := 5) (oi := _) (v := ?_) rfl (by kernel_rfl) (by kernel_rfl) (by kernel_rfl) (fun _ _ _ h => h) (Or.inl ⟨by rfl, ?_⟩) (by assumption) ?_
              rotate_left
              · intro ww hSw
                (try dsimp only at hSw)
                go_simp <;> with_reducible rfl
              (try simp only [List.getElem_toArray, List.getElem_cons_succ, List.getElem_cons_zero, Act.put, List.setIfInBounds_toArray, List.set_cons_zero, List.set_cons_succ])
              refine wpAnyH_take (i := 6) (oi := _) (v := ?_) rfl (by kernel_rfl) (by kernel_rfl) (by kernel_rfl) (fun _ _ _ h => h) (Or.inl ⟨by rfl, ?_⟩) (by assumption) ?_
              rotate_left
              · intro ww hSw
                (try dsimp only at hSw)
                go_simp <;> with_reducible rfl
              (try simp only [List.getElem_toArray, List.getElem_cons_succ, List.getElem_cons_zero, Act.put, List.setIfInBounds_toArray, List.set_cons_zero, List.set_cons_succ])
              refine wpAnyH_take (i := 7) (oi := _) (v := ?_) rfl (by kernel_rfl) (by kernel_rfl) (by kernel_rfl) (fun _ _ _ h => h) (Or.inl ⟨by rfl, ?_⟩) (by assumption) ?_
              rotate_left
              · intro ww hSw
                (try dsimp only at hSw)
                go_simp <;> with_reducible rfl
              (try simp only [List.getElem_toArray, List.getElem_cons_succ, List.getElem_cons_zero, Act.put, List.setIfInBounds_toArray, List.set_cons_zero, List.set_cons_succ])
              refine wpAnyH_take (i := 9) (oi := _) (v := ?_) rfl (by kernel_rfl) (by kernel_rfl) (by kernel_rfl) (fun _ _ _ h => h) (Or.inl ⟨by rfl, ?_⟩) (by assumption) ?_
              rotate_left
              · intro ww hSw
                (try dsimp only at hSw)
                go_simp <;> with_reducible rfl
              (try simp only [List.getElem_toArray, List.getElem_cons_succ, List.getElem_cons_zero, Act.put, List.setIfInBounds_toArray, List.set_cons_zero, List.set_cons_succ])
              refine wpAnyH_ready (rs := [8]) (by kernel_rfl) (by simp) ?_
              refine AllReadyH.cons (o := _) rfl (fun K hK => ?_) AllReadyH.nil
              go_simp
              (go_at_call 20; (with_reducible refine (AT.out _ (piv_of (by with_reducible assumption)).b).mono ?_); rintro e w5 ⟨rfl, hb⟩)
              go_wp2_with fail
              refine hK.out _ _ (hold_piv CE.out (by with_reducible assumption) (by with_reducible assumption)) (fun hH2 => ?_)
              clear hK K hHeld hb
              have hHeld := hH2
              clear hH2
              (try simp only [List.getElem_toArray, List.getElem_cons_succ, List.getElem_cons_zero, Act.put, List.setIfInBounds_toArray, List.set_cons_zero, List.set_cons_succ])
              refine wpAnyH_take (i := 10) (oi := _) (v := ?_) rfl (by kernel_rfl) (by kernel_rfl) (by kernel_rfl) (fun _ _ _ h => h) (Or.inl ⟨by rfl, ?_⟩) (by assumption) ?_
              rotate_left
              · intro ww hSw
                (try dsimp only at hSw)
                go_simp <;> with_reducible rfl
              (try simp only [List.getElem_toArray, List.getElem_cons_succ, List.getElem_cons_zero, Act.put, List.setIfInBounds_toArray, List.set_cons_zero, List.set_cons_succ])
              refine wpAnyH_done (by kernel_rfl) ?_ _
              refine NoPanic.normal ?_
              have B9 := Lib.hid (piv_of hHeld).b
              clear hHeld
              go_wp2_with fail
              go_roundg (m - (k + 1))
              case measure => have := HK.out; omega
              case rel => exact ⟨k + 1, by push_cast; rfl, by have := HK.out; omega, rfl, B9.out⟩

theorem pivots_any (w : World) (v : Value) (ts : List Trm) (h : TermsAt w v ts) (hw : ∀ t ∈ ts, Wide t.1 ∧ Bd t.2) :
    Calls Try.prog 6 #[v] w fun e w' => e = .returned (.bool true) ∧ Below w.heap.size w w' := by
  cases hs : smallT ts
  · exact pivots_out w v ts h hs
  · exact pivots_big w v ts h hw hs
end Go.Proofs.Ytocmhidkfjahcaa
