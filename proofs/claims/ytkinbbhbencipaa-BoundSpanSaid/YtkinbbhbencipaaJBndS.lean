/-
  The walk of package bound's Solve. (Template: by-name.py fills it; gen/genBndS.py writes it.)
-/
import Derived.Test.YtkinbbhbencipaaJR
import Derived.Test.YtkinbbhbencipaaJP
import Derived.Test.YtkinbbhbencipaaJG
namespace Go.Proofs.Ytkinbbhbencipaa
open Go.RowKit

/-- What Solve answers. -/
def solB (l : List Rw) : List (Int × Int) × Int :=
  match frontT l with
  | .inl z => ([], z)
  | .inr f => match witO ((f.2.1.map chOf).reverse ++ solsC (f.2.2.1.zip f.2.2.2)) m0 with
    | none => ([], 2)
    | some m => (m, 0)
def BSolPut (w : World) (r : List (Int × Int) × Int) (e : Ending) (w' : World) : Prop :=
  ∃ A c, e = .returned (.tuple #[.slice A r.1.length c, .int .i64 r.2]) ∧ RatsAt w' (.slice A r.1.length c) r.1 ∧ AllOk r.1 ∧ Below w.heap.size w w'
theorem bsol_none {w w' : World} {z : Int} (hb : Below w.heap.size w w') : BSolPut w ([], z) (.returned (.tuple #[.slice none 0 0, .int .i64 z])) w' :=
  ⟨none, 0, rfl, RatsAt.nil _, fun x hx => (by cases hx), hb⟩
def ChOk (c : Choice) : Prop := (∃ n : Nat, c.1 = n ∧ n < 8) ∧ (∀ r ∈ c.2.1, TrmOk r.2) ∧ ∀ r ∈ c.2.2, TrmOk r.2
theorem elimR_ch : ∀ (vs : List Int) (rows : List Rw) (ch : List Choice) (res : List Rw × List Choice), Good rows → (∀ v ∈ vs, ∃ n : Nat, v = n ∧ n < 8) → elimR vs rows ch = some res → (∀ c ∈ ch, ChOk c) → ∀ c ∈ res.2, ChOk c
  | [], rows, ch, res, _, _, h, hc => by
    obtain rfl := Option.some.inj h
    exact hc
  | v :: vs, rows, ch, res, hg, hv, h, hc => by
    rw [elimR, Option.bind_eq_some_iff] at h
    obtain ⟨s, hs, h⟩ := h
    rw [Option.bind_eq_some_iff] at h
    obtain ⟨r, hw, h⟩ := h
    obtain ⟨n, hn, h8⟩ := hv v (by simp)
    have SI := sort_is v rows ([], [], []) s (fun r hr => (hg r hr).1) hs
    subst hn
    refine elimR_ch vs r _ res (elim_step h8 hg hs hw).1 (fun u hu => hv u (by simp [hu])) h fun c hc' => ?_
    rcases List.mem_append.1 hc' with q | q
    · exact hc c q
    · rw [List.mem_singleton] at q
      subst q
      refine ⟨⟨n, rfl, h8⟩, fun t ht => ?_, fun t ht => ?_⟩
      · rcases SI.lo t ht with q | ⟨r, _, q, _⟩
        · cases q
        · exact q.2.1
      · rcases SI.up t ht with q | ⟨r, _, q, _⟩
        · cases q
        · exact q.2.1
theorem all_fun {ch : List Choice} {a : List Trm} {p : List Int} (hc : ∀ c ∈ ch, ChOk c) (S : Solved a p) : (∀ c ∈ (ch.map chOf).reverse ++ solsC (a.zip p), FunOk c.2) ∧ ∀ c ∈ (ch.map chOf).reverse ++ solsC (a.zip p), ∃ n : Nat, c.1 = n ∧ n < 8 := by
  have key : ∀ c ∈ (ch.map chOf).reverse ++ solsC (a.zip p), FunOk c.2 ∧ ∃ n : Nat, c.1 = n ∧ n < 8 := fun c h => by
    rcases List.mem_append.1 h with q | q
    · rw [List.mem_reverse] at q
      obtain ⟨x, hx, rfl⟩ := List.mem_map.1 q
      exact ⟨(hc x hx).2, (hc x hx).1⟩
    · unfold solsC at q
      obtain ⟨x, hx, rfl⟩ := List.mem_map.1 q
      obtain ⟨j, h1, h2⟩ := zip_get hx
      have := S.po.rng j _ h2
      exact ⟨S.ok _ (List.mem_of_getElem? h1), x.2.toNat, by show x.2 = _; omega, by omega⟩
  exact ⟨fun c h => (key c h).1, fun c h => (key c h).2⟩
/-- The facts ahead of the walk. -/
theorem front_facts {l : List Rw} (hw : ∀ r ∈ l, RWide r) (hn : l.length ≤ 400) (hw2 : l.any wrongR = false) : Good (othR l) ∧ (∀ t ∈ eqsR l, Wide t.1 ∧ Bd t.2) ∧ (othR l).length ≤ 400 ∧ (eqsR l).length ≤ 400 := by
  have hr : ∀ r ∈ l, TrmOk r.2 ∧ (r.1 = 0 ∨ r.1 = 1 ∨ r.1 = 2) := fun r hr => right_trm ⟨(hw r hr).1, (hw r hr).2.1⟩ (by
    have := List.any_eq_false.1 hw2 r hr
    simpa using this)
  refine ⟨fun r h => ?_, fun t ht => ?_, ?_, ?_⟩
  · obtain ⟨a, b⟩ := oth_mem.1 h
    obtain ⟨k1, k2⟩ := hr r a
    exact ⟨k1, by rcases k2 with c | c | c; (· exact absurd c b); (· exact .inl c); (· exact .inr c)⟩
  · obtain ⟨r, a, _, rfl⟩ := eqs_mem.1 ht
    exact ⟨(hw r a).1, (hw r a).2.1⟩
  · exact Nat.le_trans (List.length_filter_le _ _) hn
  · unfold eqsR
    rw [List.length_map]
    exact Nat.le_trans (List.length_filter_le _ _) hn
theorem solve_facts {E a : List Trm} {p : List Int} (hw : ∀ t ∈ E, Wide t.1 ∧ Bd t.2) (h : solveT E = ((a, p), 0)) : Solved a p ∧ a.length = p.length ∧ a.length ≤ 8 := by
  have S := solved_of hw h
  obtain ⟨hok, l, hk, _⟩ := solveT_sat hw h
  have so := solveK_ok hok 8 _ hk
  exact ⟨S, S.po.len, by have := so.k; have := so.ql; dsimp only at *; omega⟩
theorem freeK_ok (p : List Int) : (∀ v ∈ freeK p 8, ∃ n : Nat, v = n ∧ n < 8) ∧ (freeK p 8).length ≤ 8 :=
  ⟨fun v hv => by obtain ⟨⟨n, a, b⟩, _⟩ := (free_mem p 8 v).1 hv; exact ⟨n, a, b⟩, freeK_len p 8⟩
theorem subR_good {a : List Trm} {p : List Int} (S : Solved a p) {O rows : List Rw} (g : Good O) (h : subR (a.zip p) O = some rows) : Good rows :=
  (subR_is (a.zip p) (fun s hs => by obtain ⟨j, h1, _⟩ := zip_get hs; exact S.ok _ (List.mem_of_getElem? h1)) O rows g h).1

set_option maxRecDepth 100000 in
set_option maxHeartbeats 8000000 in
theorem bsolve_out (w : World) (v : Value) (l : List Rw) (h : RowsAt w v l) (hw : ∀ r ∈ l, RWide r) (hr : ¬ (l.length ≤ 400 ∧ l.any wrongR = false)) :
    Calls Try.prog 10 #[v] w (BSolPut w ([], 2)) := by
  have cw := bcontainsw_any w v l hw h
  obtain ⟨A, c, rs, rfl, h2, h3, _⟩ := id h
  by_cases hl : l.length ≤ 400
  · have hq : l.any wrongR = true := by
      cases e : l.any wrongR
      · exact absurd ⟨hl, e⟩ hr
      · rfl
    rw [hq] at cw
    have CW := Lib.hid cw
    have i1 : ¬ (400 : Int) < (l.length : Int) := by omega
    have i2 : ¬ 400 < l.length := by omega
    clear hr h hw h2 h3 hq cw hl
    generalize l.length = n at *
    go_enter Try.func10, Try.ntmps10
    go_wp2_with (go_at_call 14; (with_reducible refine CW.out.mono ?_); rintro e1 w1 ⟨rfl, hb1⟩)
    go_ret2
    exact bsol_none hb1
  · have i1 : (400 : Int) < (l.length : Int) := by omega
    have i2 : 400 < l.length := by omega
    clear hr h hw h2 h3 hl cw
    generalize l.length = n at *
    go_enter Try.func10, Try.ntmps10
    go_wp2_with fail
    go_ret2
    exact bsol_none (Below.refl _ _)

set_option maxRecDepth 100000 in
set_option maxHeartbeats 8000000 in
theorem bsolve_in (w : World) (v : Value) (l : List Rw) (h : RowsAt w v l) (hw : ∀ r ∈ l, RWide r) (hr : l.length ≤ 400 ∧ l.any wrongR = false) :
    Calls Try.prog 10 #[v] w (BSolPut w (solB l)) := by
  obtain ⟨iC, hiC, zC0, zC1, zC2⟩ := info_parts infoCh
  obtain ⟨gO, wE, lO, lE⟩ := front_facts hw hr.1 hr.2
  have cw := bcontainsw_any w v l hw h
  rw [hr.2] at cw
  have CW := Lib.hid cw
  have PA := Lib.hid (fun (w' : World) (hb : Below w.heap.size w w') => parted_any w' v l (h.below hb) (by omega))
  have GS := Lib.hid (fun (w' : World) (v' : Value) (h' : TermsAt w' v' (eqsR l)) => gsolve_any w' v' (eqsR l) h' wE)
  have hf : frontT l = if (solveT (eqsR l)).2 ≠ 0 then .inl (solveT (eqsR l)).2
      else match subR ((solveT (eqsR l)).1.1.zip (solveT (eqsR l)).1.2) (othR l) with
      | none => .inl 2
      | some rows => match elimR (freeK (solveT (eqsR l)).1.2 8) rows [] with
        | none => .inl 2
        | some res => if res.1.any (fun r => !metB r.1 r.2.2.1) = true then .inl 1 else .inr (res.1, res.2, (solveT (eqsR l)).1.1, (solveT (eqsR l)).1.2) := by
    unfold frontT
    rw [if_neg (by rintro (q | q); (· omega); (· rw [hr.2] at q; cases q))]
    rfl
  have i1 : ¬ (400 : Int) < (l.length : Int) := by omega
  have i2 : ¬ 400 < l.length := by omega
  obtain ⟨A, c, rs, rfl, h2, h3, _⟩ := id h
  have hS : solB l = match frontT l with
    | .inl z => ([], z)
    | .inr f => match witO ((f.2.1.map chOf).reverse ++ solsC (f.2.2.1.zip f.2.2.2)) m0 with
      | none => ([], 2)
      | some m => (m, 0) := rfl
  rw [hf] at hS
  generalize solB l = Z at *
  clear h hw hr h2 h3 cw hf
  generalize l.length = n at *
  cases hq : solveT (eqsR l) with
  | mk ap ans =>
  obtain ⟨a, p⟩ := ap
  rw [hq] at hS GS
  dsimp only at hS
  by_cases ha : ans = 0
  rotate_left
  · have ne : (ans != 0) = true := by simpa using ha
    rw [if_pos ha] at hS
    dsimp only at hS
    subst hS
    clear ha hq gO wE lO lE
    go_enter Try.func10, Try.ntmps10
    go_wp2_with (first
        | (go_at_call 14; (with_reducible refine CW.out.mono ?_); rintro e1 w1 ⟨rfl, hb1⟩)
        | (go_at_call 16; (with_reducible refine (PA.out _ hb1).mono ?_); rintro e2 w2 ⟨Ae, ce, Ao, co_, rfl, TE, TO, hb2⟩; have b2 := hb1.trans (hb2.mono hb1.size))
        | (go_at_call 17; (with_reducible refine (GS.out _ _ TE).mono ?_); rintro e3 w3 ⟨As, cs, Ap, cp, rfl, TS, IP, hb3⟩; have b3 := b2.trans (hb3.mono b2.size)))
    go_ret2
    exact bsol_none b3
  subst ha
  rw [if_neg (by simp)] at hS
  obtain ⟨S, lap, la8⟩ := solve_facts wE hq
  have SB := Lib.hid (fun (w' : World) (v1 v2 v3 : Value) (h1 : RowsAt w' v1 (othR l)) (h2 : TermsAt w' v2 a) (h3 : IntsAt w' v3 p) => substituted_any w' v1 v2 v3 (othR l) a p h1 h2 h3 lap (fun r hr => (gO r hr).1) S.ok (by omega) (by omega))
  cases hs : subR (a.zip p) (othR l) with
  | none =>
    rw [hs] at hS SB
    dsimp only at hS
    subst hS
    clear hs hq gO wE lO lE S lap la8
    go_enter Try.func10, Try.ntmps10
    go_wp2_with (first
        | (go_at_call 14; (with_reducible refine CW.out.mono ?_); rintro e1 w1 ⟨rfl, hb1⟩)
        | (go_at_call 16; (with_reducible refine (PA.out _ hb1).mono ?_); rintro e2 w2 ⟨Ae, ce, Ao, co_, rfl, TE, TO, hb2⟩; have b2 := hb1.trans (hb2.mono hb1.size))
        | (go_at_call 17; (with_reducible refine (GS.out _ _ TE).mono ?_); rintro e3 w3 ⟨As, cs, Ap, cp, rfl, TS, IP, hb3⟩; have b3 := b2.trans (hb3.mono b2.size))
        | (go_at_call 18; (with_reducible refine (SB.out _ _ _ _ (TO.below hb3) TS IP).mono ?_); rintro e4 w4 (⟨rows2, vr, q, _⟩ | ⟨_, z, hz, rfl, hb4⟩); (next => cases q); have b4 := b3.trans (hb4.mono b3.size)))
    go_ret2
    exact bsol_none b4
  | some rows =>
    rw [hs] at hS SB
    dsimp only at hS
    have gR := subR_good S gO hs
    have lR := subR_len _ _ _ hs
    have EL := Lib.hid (fun (w' : World) (v1 v2 : Value) (h1 : RowsAt w' v1 rows) (h2 : IntsAt w' v2 (freeK p 8)) => eliminated_any w' v1 v2 rows (freeK p 8) h1 h2 gR (freeK_ok p).1 (by omega) (freeK_ok p).2)
    cases he : elimR (freeK p 8) rows [] with
    | none =>
      rw [he] at hS EL
      dsimp only at hS
      subst hS
      clear hs hq gO wE lO lE S lap la8 he gR lR
      go_enter Try.func10, Try.ntmps10
      go_wp2_with (first
        | (go_at_call 14; (with_reducible refine CW.out.mono ?_); rintro e1 w1 ⟨rfl, hb1⟩)
        | (go_at_call 16; (with_reducible refine (PA.out _ hb1).mono ?_); rintro e2 w2 ⟨Ae, ce, Ao, co_, rfl, TE, TO, hb2⟩; have b2 := hb1.trans (hb2.mono hb1.size))
        | (go_at_call 17; (with_reducible refine (GS.out _ _ TE).mono ?_); rintro e3 w3 ⟨As, cs, Ap, cp, rfl, TS, IP, hb3⟩; have b3 := b2.trans (hb3.mono b2.size))
        | (go_at_call 18; (with_reducible refine (SB.out _ _ _ _ (TO.below hb3) TS IP).mono ?_); rintro e4 w4 (⟨rows2, vr, q, rfl, RO, hb4⟩ | ⟨q, _⟩); rotate_left; (next => cases q); injection q with q; subst q; have b4 := b3.trans (hb4.mono b3.size))
        | (go_at_call 20; (with_reducible refine (free_any _ _ _ (IP.below hb4)).mono ?_); rintro e5 w5 ⟨Af, cf, rfl, IF, hb5⟩; have b5 := b4.trans (hb5.mono b4.size))
        | (go_at_call 19; (with_reducible refine (EL.out _ _ _ (RO.below hb5) IF).mono ?_); rintro e6 w6 (⟨x, vr6, vch, q, _⟩ | ⟨_, z, hz, rfl, hb6⟩); (next => cases q); have b6 := b5.trans (hb6.mono b5.size)))
      go_ret2
      exact bsol_none b6
    | some res =>
      have hch := elimR_ch _ _ _ _ gR (freeK_ok p).1 he (fun c hc => by cases hc)
      have lch := elimR_len _ _ _ _ he
      rw [he] at hS EL
      dsimp only at hS
      have CU := Lib.hid (fun (w' : World) (v1 : Value) (h1 : RowsAt w' v1 res.1) => bcontainsu_any w' v1 res.1 h1)
      have hun : (fun r : Rw => !metB r.1 r.2.2.1) = unmetR := rfl
      rw [hun] at hS
      cases hu : res.1.any unmetR with
      | true =>
        rw [hu] at hS CU
        rw [if_pos rfl] at hS
        dsimp only at hS
        subst hS
        clear hs hq gO wE lO lE S lap la8 he gR lR hch lch hun hu
        go_enter Try.func10, Try.ntmps10
        go_wp2_with (first
        | (go_at_call 14; (with_reducible refine CW.out.mono ?_); rintro e1 w1 ⟨rfl, hb1⟩)
        | (go_at_call 16; (with_reducible refine (PA.out _ hb1).mono ?_); rintro e2 w2 ⟨Ae, ce, Ao, co_, rfl, TE, TO, hb2⟩; have b2 := hb1.trans (hb2.mono hb1.size))
        | (go_at_call 17; (with_reducible refine (GS.out _ _ TE).mono ?_); rintro e3 w3 ⟨As, cs, Ap, cp, rfl, TS, IP, hb3⟩; have b3 := b2.trans (hb3.mono b2.size))
        | (go_at_call 18; (with_reducible refine (SB.out _ _ _ _ (TO.below hb3) TS IP).mono ?_); rintro e4 w4 (⟨rows2, vr, q, rfl, RO, hb4⟩ | ⟨q, _⟩); rotate_left; (next => cases q); injection q with q; subst q; have b4 := b3.trans (hb4.mono b3.size))
        | (go_at_call 20; (with_reducible refine (free_any _ _ _ (IP.below hb4)).mono ?_); rintro e5 w5 ⟨Af, cf, rfl, IF, hb5⟩; have b5 := b4.trans (hb5.mono b4.size))
        | (go_at_call 19; (with_reducible refine (EL.out _ _ _ (RO.below hb5) IF).mono ?_); rintro e6 w6 (⟨x, vr6, vch, q, rfl, RE, CE, hb6⟩ | ⟨q, _⟩); rotate_left; (next => cases q); injection q with q; subst q; have b6 := b5.trans (hb6.mono b5.size))
        | (go_at_call 14; (with_reducible refine (CU.out _ _ RE).mono ?_); rintro e7 w7 ⟨rfl, hb7⟩; have b7 := b6.trans (hb7.mono b6.size)))
        go_ret2
        exact bsol_none b7
      | false =>
        rw [hu] at hS CU
        rw [if_neg (by simp)] at hS
        dsimp only at hS
        obtain ⟨f1, f2⟩ := all_fun hch S
        have lz : (a.zip p).length ≤ 8 := by rw [List.length_zip]; omega
        have fl := freeK_len p 8
        have lall : ((res.2.map chOf).reverse ++ solsC (a.zip p)).length ≤ 16 := by
          unfold solsC
          rw [List.length_append, List.length_reverse, List.length_map, List.length_map]
          rw [lch]
          simp only [List.length_nil]
          omega
        have lre : (res.2.map chOf).reverse.length ≤ 8 := by
          rw [List.length_reverse, List.length_map, lch]
          simp only [List.length_nil]
          omega
        have lsc : (solsC (a.zip p)).length ≤ 8 := by unfold solsC; rw [List.length_map]; exact lz
        obtain ⟨C1, hC1⟩ : ∃ C1, C1 = (res.2.map chOf).reverse := ⟨_, rfl⟩
        obtain ⟨C2, hC2⟩ : ∃ C2, C2 = solsC (a.zip p) := ⟨_, rfl⟩
        have SOL := Lib.hid (fun (w0 w' : World) (hb : Below w0.heap.size w0 w') (v1 v2 : Value) (h1 : TermsAt w0 v1 a) (h2 : IntsAt w' v2 p) => solutions_any w0 w' hb v1 v2 a p h1 h2 lap (by omega))
        have WI := Lib.hid (fun (w' : World) (v1 : Value) (S0 : Nat → Prop) (h1 : ChsAt w' v1 ((res.2.map chOf).reverse ++ solsC (a.zip p)) S0) => witness_any w' v1 _ S0 h1 f1 f2 (by omega))
        rw [← hC1, ← hC2] at hS
        rw [hC1.symm, hC2.symm] at WI
        rw [← hC1] at lre
        rw [← hC2] at lsc
        have HC1 := Lib.hid hC1
        have HC2 := Lib.hid hC2
        have LL := Lib.hid (And.intro lre lsc)
        have HS := Lib.hid hS
        clear hS
        rw [← hC2] at SOL
        clear hs hq gO wE lO lE S lap la8 he gR lR hch lch hun hu f1 f2 lz fl lall lre lsc hC1 hC2
        go_enter Try.func10, Try.ntmps10
        go_upto_region 15 with (first
        | (go_at_call 14; (with_reducible refine CW.out.mono ?_); rintro e1 w1 ⟨rfl, hb1⟩)
        | (go_at_call 16; (with_reducible refine (PA.out _ hb1).mono ?_); rintro e2 w2 ⟨Ae, ce, Ao, co_, rfl, TE, TO, hb2⟩; have b2 := hb1.trans (hb2.mono hb1.size))
        | (go_at_call 17; (with_reducible refine (GS.out _ _ TE).mono ?_); rintro e3 w3 ⟨As, cs, Ap, cp, rfl, TS, IP, hb3⟩; have b3 := b2.trans (hb3.mono b2.size))
        | (go_at_call 18; (with_reducible refine (SB.out _ _ _ _ (TO.below hb3) TS IP).mono ?_); rintro e4 w4 (⟨rows2, vr, q, rfl, RO, hb4⟩ | ⟨q, _⟩); rotate_left; (next => cases q); injection q with q; subst q; have b4 := b3.trans (hb4.mono b3.size))
        | (go_at_call 20; (with_reducible refine (free_any _ _ _ (IP.below hb4)).mono ?_); rintro e5 w5 ⟨Af, cf, rfl, IF, hb5⟩; have b5 := b4.trans (hb5.mono b4.size))
        | (go_at_call 19; (with_reducible refine (EL.out _ _ _ (RO.below hb5) IF).mono ?_); rintro e6 w6 (⟨x, vr6, vch, q, rfl, RE, CE, hb6⟩ | ⟨q, _⟩); rotate_left; (next => cases q); injection q with q; subst q; have b6 := b5.trans (hb6.mono b5.size))
        | (go_at_call 14; (with_reducible refine (CU.out _ _ RE).mono ?_); rintro e7 w7 ⟨rfl, hb7⟩; have b7 := b6.trans (hb7.mono b6.size)))
        have b36 := hb4.trans ((hb5.trans (hb6.mono hb5.size)).mono hb4.size)
        have b37 := b36.trans (hb7.mono b36.size)
        have CE7 := CE.below hb7
        rw [← HC1.out] at CE7
        have hlo : ∀ b, vch.ownBlock = some b → w3.heap.size ≤ b ∧ b < w7.heap.size := fun b q => by
          have h1 := (CE.lt b q).1
          have h2 := (CE7.lt b q).2
          have h3 := hb4.size
          have h4 := hb5.size
          omega
        have D7 := Lib.hid (And.intro CE7 (And.intro b7 (And.intro hlo (show w5.heap.size ≤ w7.heap.size from Nat.le_trans hb6.size hb7.size))))
        have SO := Lib.hid (SOL.out w3 w7 b37 _ _ TS (IP.below b37))
        have WB := Lib.hid (show w.heap.size ≤ w5.heap.size from b5.size)
        clear hb1 hb2 hb3 hb4 hb5 hb6 hb7 b2 b3 b4 b5 b6 b7 b36 b37 TE TO TS IP RO IF RE CE CE7 hlo SOL
        go_wp2_with (first
          | (go_at_call 24; (with_reducible refine SO.out.mono ?_); rintro e8 w8 ⟨vsol, rfl, OS, hb8⟩; obtain ⟨A8, c8, ns, rfl, n2, n3, n1, n4, n5⟩ := OS.chs; obtain ⟨rs2, z1, z2, z3⟩ := D7.out.1.below hb8; have NS := Lib.hid (And.intro n1 (And.intro n4 (fun x hx => (n5 x hx).mono (S' := fun b => vch.ownBlock = some b) (fun b q => .inl (.inr (D7.out.2.2.1 b q)))))); have QW := Lib.hid (And.intro z1 (And.intro z2 (And.intro z3 (And.intro (D7.out.2.1.trans (hb8.mono D7.out.2.1.size)) (Nat.le_trans D7.out.2.2.2 hb8.size))))); clear OS n1 n2 n3 n4 n5 z1 z2 z3 hb8)
          | (at_builtin; refine wpList_append_any _ rfl _ _ 56 rfl w5.heap.size 94 iC (.agg #[.int .i64 0, Value.nilFunc]) 2 16 Try.underlying56 hiC zC0 zC1 zC2 rfl (by decide) _ C1.length (chCells rs2) rfl QW.out.2.1 w8.heap.size A8 C2.length c8 (chCells ns) rfl NS.out.2.1 (OwnC.one NS.out.2.2) (by have := LL.out; unfold maxLen; omega) (by have := LL.out; omega) QW.out.2.2.2.2 ?_))
        intro v9 w9 hown hgrow hat
        have D9 := OwnC.appended (S' := fun b => v9.ownBlock = some b) QW.out.1 QW.out.2.2.1 NS.out.1 NS.out.2.2 rfl hown hgrow (fun b q => q) (fun b q => by
          rcases hat with e | e
          · rw [e] at q; exact .inl q
          · rw [e] at q; injection q with q; exact .inr (by omega))
        have b9 := QW.out.2.2.2.1.grown hgrow QW.out.2.2.2.1.size (fun b q => Nat.le_trans WB.out (World.ownsRow.lt QW.out.2.1 b q).1)
        have WC := Lib.hid (WI.out w9 v9 _ D9.chs)
        have B9 := Lib.hid b9
        clear hown hgrow hat D9 b9
        cases hm : witO (C1 ++ C2) m0 with
        | none =>
          have hS := HS.out
          rw [hm] at hS WC
          dsimp only at hS
          subst hS
          clear hm
          go_wp2_with (go_at_call 23; (with_reducible refine WC.out.mono ?_); rintro e10 w10 (⟨m, v10, q, _⟩ | ⟨_, z, hz, rfl, hb10⟩); (next => cases q))
          go_ret2
          exact bsol_none (B9.out.trans (hb10.mono B9.out.size))
        | some m =>
          have hS := HS.out
          rw [hm] at hS WC
          dsimp only at hS
          subst hS
          clear hm
          go_wp2_with (go_at_call 23; (with_reducible refine WC.out.mono ?_); rintro e10 w10 (⟨m2, v10, q, rfl, hr10, hl10, hk10, hb10⟩ | ⟨q, _⟩); rotate_left; (next => cases q); injection q with q; subst q; obtain ⟨Am, cm, rfl⟩ := rats_shape hr10; have FIN := Lib.hid (show BSolPut w (m, 0) (.returned (.tuple #[.slice Am m.length cm, .int .i64 0])) w10 from ⟨Am, cm, rfl, hr10, hk10, B9.out.trans (hb10.mono B9.out.size)⟩); clear hr10 hl10 hk10 hb10)
          go_ret2
          exact FIN.out

theorem bsolve_any (w : World) (v : Value) (l : List Rw) (h : RowsAt w v l) (hw : ∀ r ∈ l, RWide r) : Calls Try.prog 10 #[v] w (BSolPut w (solB l)) := by
  by_cases hr : l.length ≤ 400 ∧ l.any wrongR = false
  · exact bsolve_in w v l h hw hr
  · have e : solB l = ([], 2) := by
      unfold solB frontT
      rw [if_pos]
      cases q : l.any wrongR
      · exact .inl (by have : ¬ l.length ≤ 400 := fun a => hr ⟨a, q⟩; omega)
      · exact .inr rfl
    rw [e]
    exact bsolve_out w v l h hw hr
end Go.Proofs.Ytkinbbhbencipaa
