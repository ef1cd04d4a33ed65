/-
  The walk of the reference's Wrong. (Template: by-name.py fills it; gen/genAutV.py writes it.)
-/
import Derived.Test.YtbfgeiimjmhhdaaAutU
namespace Go.Proofs.Ytbfgeiimjmhhdaa
open Go.RowKit

section
variable {P : Program} {ops : Array Oper} {Q : Exit → Act → World → Prop} {md : Region.Mode} {S : World → Prop} {fuel : Nat} {listed : Array Bool} {a : Act} {w : World}
/-- A read is taken (guards by the kernel). -/
theorem tkk (i : Nat) {oi : Oper} (hi : ops[i]? = some oi) {v : Value} (h : wpAnyH P md ops Q S fuel (listed.setIfInBounds i true) (a.put oi.dst v) w) (hy : ∀ w' : World, S w' → Sem.run P (execOp a.eval oi) w' = .ok (.value v) w' := by intro _ hS_; (try dsimp only at hS_); go_simp <;> with_reducible rfl)
    (hs : Region.noSelect ops = true := by kernel_rfl) (hf : Region.free md ops listed i = true := by kernel_rfl) (hr : (Region.ready md ops listed).contains i = true := by kernel_rfl) (hQ : ∀ c a w, Q (.panic c) (a.put oi.dst v) w → Q (.panic c) a w := by exact fun _ _ _ h => h) (hn : Region.wanted oi (yielded ops a.tmps) = true := by kernel_rfl) (hS : S w := by assumption) : wpAnyH P md ops Q S (fuel + 1) listed a w :=
  wpAnyH_take hi hs hf hr hQ (.inl ⟨hn, hy⟩) hS h
/-- What its guard keeps from running (guards by the kernel). -/
theorem txk (i : Nat) {oi : Oper} (hi : ops[i]? = some oi) (h : wpAnyH P md ops Q S fuel (listed.setIfInBounds i true) (a.put oi.dst undef) w)
    (hs : Region.noSelect ops = true := by kernel_rfl) (hf : Region.free md ops listed i = true := by kernel_rfl) (hr : (Region.ready md ops listed).contains i = true := by kernel_rfl) (hQ : ∀ c a w, Q (.panic c) (a.put oi.dst undef) w → Q (.panic c) a w := by exact fun _ _ _ h => h) (hn : Region.wanted oi (yielded ops a.tmps) = false := by kernel_rfl) (hS : S w := by assumption) : wpAnyH P md ops Q S (fuel + 1) listed a w :=
  wpAnyH_take hi hs hf hr hQ (.inr ⟨hn, rfl⟩) hS h
end
theorem wrong_eq {p : Pro} (h : ¬ (p.states.length = 0 ∨ 16 < p.states.length)) : wrongP p = (if 0 ≤ fstI (dupS p.states) p.states.length then (1, fstI (dupS p.states) p.states.length) else if 0 ≤ fstL (astrayB p.states.length) p.moves then (2, fstL (astrayB p.states.length) p.moves) else if 0 ≤ fstI (dupM p.moves) p.moves.length then (3, fstI (dupM p.moves) p.moves.length) else if 0 ≤ fstL (finM p.states) p.moves then (4, fstL (finM p.states) p.moves) else if 0 ≤ fstI (stuckB p) p.states.length then (5, fstI (stuckB p) p.states.length) else (0, 0)) := by unfold wrongP; rw [if_neg h]
theorem fstI_neg {t : Nat → Bool} {n : Nat} (h : ∀ i, i < n → t i = false) : ¬ 0 ≤ fstI t n := by rw [fst_none h]; decide
theorem fstL_neg {α : Type} {f : α → Bool} {l : List α} (h : ∀ (i : Nat) (x : α), l[i]? = some x → f x = false) : ¬ 0 ≤ fstL f l := by
  rw [fstL_none fun x hx => by
    obtain ⟨i, hi⟩ := List.mem_iff_getElem?.1 hx
    exact h i x hi]
  decide
theorem fstL_hit {α : Type} {f : α → Bool} {l : List α} {k : Nat} {x : α} (hx : l[k]? = some x) (ht : f x = true) (h : ∀ (i : Nat) (y : α), i < k → l[i]? = some y → f y = false) : fstL f l = (k : Int) := by
  have e := fstI_list (l := l) (t := fun i => match l[i]? with | some y => f y | none => false) (f := f) (fun i y hy => by rw [hy])
  rw [← e]
  refine fst_hit (List.getElem?_eq_some_iff.1 hx).1 (by rw [hx]; exact ht) fun i hi => ?_
  have hl := (List.getElem?_eq_some_iff.1 hx).1
  rw [List.getElem?_eq_getElem (by omega : i < l.length)]
  exact h i _ hi (List.getElem?_eq_getElem _)
theorem dupS_hit {ss : List Sta} {i k : Nat} {x y : Sta} (hx : ss[i]? = some x) (hy : ss[k]? = some y) (hk : k < i) (e : y.name = x.name) : dupS ss i = true := by
  unfold dupS
  rw [hx]
  exact List.contains_iff_mem.mpr (List.mem_map.2 ⟨y, List.mem_of_getElem? (i := k) (by rw [List.getElem?_take_of_lt hk]; exact hy), e⟩)
theorem dupS_none {os : List Sta} {i : Nat} {x : Sta} (hx : os[i]? = some x) (h : ∀ k y, k < i → os[k]? = some y → y.name ≠ x.name) : dupS os i = false := by
  unfold dupS
  rw [hx]
  cases q : ((os.take i).map (·.name)).contains x.name with
  | false => exact q
  | true =>
    obtain ⟨y, hy, e⟩ := List.mem_map.1 (List.contains_iff_mem.mp q)
    obtain ⟨k, hk⟩ := List.mem_iff_getElem?.1 hy
    have hl := (List.getElem?_eq_some_iff.1 hk).1
    rw [List.length_take] at hl
    rw [List.getElem?_take_of_lt (by omega)] at hk
    exact absurd e (h k y (by omega) hk)
/-- What the reference's Wrong keeps. -/
structure WrS (w0 w : World) (b : Nat) (cs : Array Value) : Prop where
  p : Blk w b cs
  b : Below w0.heap.size w0 w
theorem WrS.keep {w0 w w' : World} {b : Nat} {cs : Array Value} (h : WrS w0 w b cs) (hb : Below w.heap.size w w') : WrS w0 w' b cs := ⟨h.p.keep hb, h.b.trans (hb.mono h.b.size)⟩
/-- What is known when the moves are looked at. -/
def KindOk (p : Pro) (q : Nat) : Prop :=
  (2 < q → ∀ (i : Nat) (m : Mov), p.moves[i]? = some m → astrayB p.states.length m = false) ∧ (3 < q → ∀ i, i < p.moves.length → dupM p.moves i = false) ∧ (4 < q → ∀ (i : Nat) (m : Mov), p.moves[i]? = some m → finM p.states m = false)
theorem KindOk.fits {p : Pro} {q : Nat} (h : KindOk p q) (hq : 2 < q) : Fits p := fits_of (fstL_neg (h.1 hq))
set_option maxRecDepth 100000 in
set_option maxHeartbeats 16000000 in
theorem rwrong_any (w : World) (vs vm : Value) (p : Pro) (h : ProAt w vs vm p) (hz : SzP p) :
    Calls Try.prog 7 #[proV vs vm p] w fun e w' => e = .returned (.tuple #[.int .i64 (wrongP p).1, .int .i64 (wrongP p).2]) ∧ Below w.heap.size w w' := by
  have HPA := Lib.hid h
  obtain ⟨As, cs, rfl, _, _, hS, _⟩ := h.states
  obtain ⟨rs, hm, Am, cm, rfl, hm1, hm2, hM, hE⟩ := h.moves
  have hml := moves_len hm
  have a1 := below_alloc1 w (.cells #[txt p.name, .slice As p.states.length cs, .slice Am rs.length cm] 30)
  have B1 := Blk.start w #[txt p.name, .slice As p.states.length cs, .slice Am rs.length cm] 30
  have HO := Lib.hid (And.intro hS (And.intro hM (And.intro hE (And.intro hm (And.intro hz hml)))))
  have S0 := Lib.hid (WrS.mk B1 a1)
  have RF := Lib.hid (fun (v : World) (hb : Below w.heap.size w v) (vo : Value) (m : Mov) (ho : OutsAt v vo m.outs) (hl : m.outs.length ≤ 80) => rfit_any v As cs (.slice Am rs.length cm) vo p.name p.states.length m ho hl ⟨_, _, _, rfl⟩)
  have RA := Lib.hid (fun (v : World) (hb : Below w.heap.size w v) (a : Nat) (m : Mov) (hm : p.moves[a]? = some m) => ragain_any v As cs (.slice Am rs.length cm) p.name p.states.length p.moves ((h.below hb).moves) a m hm hz.mv (hz.out m (List.mem_of_getElem? hm)))
  have RE := Lib.hid (fun (v : World) (hb : Below w.heap.size w v) (hf : Fits p) (hn : p.states.length ≤ 16) (a : Nat) (ha : a < p.states.length) => rends_any v _ _ p (h.below hb) hf hz hn a ha)
  have c1 := B1.cell 1
  simp only [List.getElem?_toArray, List.getElem?_cons_zero, List.getElem?_cons_succ] at c1
  have HW := Lib.hid (And.intro (show ∀ q : (p.states.length = 0 ∨ 16 < p.states.length), wrongP p = (1, 0) from fun q => by unfold wrongP; rw [if_pos q]) (fun q : ¬ (p.states.length = 0 ∨ 16 < p.states.length) => wrong_eq q))
  generalize wrongP p = R at *
  clear hS hM hE hm hz hml a1 B1 h hm1 hm2
  by_cases hbad : p.states.length = 0 ∨ 16 < p.states.length
  · have HB := Lib.hid (HW.out.1 hbad)
    rcases hbad with q | q
    · have i1 : (p.states.length : Int) < 1 := by omega
      have i2 : p.states.length < 1 := by omega
      have HQ := Lib.hid q
      clear q
      go_enter Try.func7, Try.ntmps7
      go_wp2_with fail
      exact bodyPost_ret (v := .tuple #[.int .i64 1, .int .i64 0]) (by simp [results, Try.results7, go_sem]) rfl ⟨by rw [HB.out], S0.out.b⟩
    · have i1 : ¬ (p.states.length : Int) < 1 := by omega
      have i2 : decide (p.states.length < 1) = false := decide_eq_false (by omega)
      have i3 : decide ((p.states.length : Int) < 1) = false := decide_eq_false (by omega)
      have i4 : (16 : Int) < (p.states.length : Int) := by omega
      have HQ := Lib.hid q
      go_enter Try.func7, Try.ntmps7
      go_wp2_with fail
      exact bodyPost_ret (v := .tuple #[.int .i64 1, .int .i64 0]) (by simp [results, Try.results7, go_sem]) rfl ⟨by rw [HB.out], S0.out.b⟩
  · have HN := Lib.hid (And.intro (show p.states.length ≤ 16 by omega) (show 1 ≤ p.states.length by omega))
    have HB := Lib.hid (HW.out.2 hbad)
    have i2 : decide (p.states.length < 1) = false := decide_eq_false (by omega)
    have i3 : decide ((p.states.length : Int) < 1) = false := decide_eq_false (by omega)
    have i4 : decide ((16 : Int) < (p.states.length : Int)) = false := decide_eq_false (by omega)
    have i5 : decide (16 < p.states.length) = false := decide_eq_false (by omega)
    clear hbad
    go_enter Try.func7, Try.ntmps7
    go_upto_region 4 with fail
    generalize (w.alloc (.cells #[txt p.name, .slice As p.states.length cs, .slice Am rs.length cm] 30)) = W at *
    clear c1
    go_wp2_with fail
    go_loopg [5] p.states.length (fun g v5 wr => ∃ i : Nat, v5 = .int .i64 i ∧ i ≤ p.states.length ∧ g = p.states.length - i ∧ (∀ i', i' < i → dupS p.states i' = false) ∧ WrS w wr w.heap.size #[txt p.name, .slice As p.states.length cs, .slice Am rs.length cm])
    case atStart => exact ⟨0, rfl, Nat.zero_le _, rfl, fun i hi => absurd hi (Nat.not_lt_zero _), S0.out⟩
    case round =>
      obtain ⟨i, rfl, hi, hg, hall, hS⟩ := hrel
      by_cases hin : i = p.states.length
      · have j1 : decide (i < p.states.length) = false := decide_eq_false (by omega)
        have D1 := Lib.hid (And.intro (show ∀ i, i < p.states.length → dupS p.states i = false by rw [← hin]; exact hall) hS)
        clear hi hg hall hS hin
        go_wp2_with fail
        generalize wr = w8 at *
        go_loopg [7] 3 (fun g v7 wr => ∃ q : Nat, v7 = .int .i64 q ∧ 2 ≤ q ∧ q ≤ 5 ∧ g = 5 - q ∧ KindOk p q ∧ WrS w wr w.heap.size #[txt p.name, .slice As p.states.length cs, .slice Am rs.length cm])
        case atStart => exact ⟨2, rfl, by omega, by omega, rfl, ⟨fun h => absurd h (by omega), fun h => absurd h (by omega), fun h => absurd h (by omega)⟩, D1.out.2⟩
        case round =>
          obtain ⟨q, rfl, hq1, hq2, hg, hK, hS⟩ := hrel
          have HS9 := Lib.hid hS
          have hq : q = 2 ∨ q = 3 ∨ q = 4 ∨ q = 5 := by omega
          clear hS hq1 hq2
          rcases hq with rfl | rfl | rfl | rfl
          · have KO := Lib.hid hK
            have HG := Lib.hid hg
            clear hK hg
            go_wp2_with fail
            generalize wr = w9 at *
            go_loopg [8] rs.length (fun g v8 wr => ∃ i : Nat, v8 = .int .i64 i ∧ i ≤ rs.length ∧ g = rs.length - i ∧ (∀ (i' : Nat) (m : Mov), i' < i → p.moves[i']? = some m → astrayB p.states.length m = false) ∧ WrS w wr w.heap.size #[txt p.name, .slice As p.states.length cs, .slice Am rs.length cm])
            case atStart => exact ⟨0, rfl, Nat.zero_le _, rfl, fun i' m h => absurd h (Nat.not_lt_zero _), HS9.out⟩
            case round =>
              obtain ⟨i, rfl, hi, hg, hall, hS⟩ := hrel
              have m2 := hS.p.cell 2
              simp only [List.getElem?_toArray, List.getElem?_cons_zero, List.getElem?_cons_succ] at m2
              by_cases hin : i = rs.length
              · have j2 : decide (i < rs.length) = false := decide_eq_false (by omega)
                have NX := Lib.hid (And.intro (show KindOk p 3 from ⟨fun _ i m h => hall i m (by have := (List.getElem?_eq_some_iff.1 h).1; have := HO.out.2.2.2.2.2; omega) h, fun h => absurd h (by omega), fun h => absurd h (by omega)⟩) hS)
                clear hi hg hall hS hin
                go_wp2_with fail
                go_roundg (5 - 3)
                case measure => have := HG.out; omega
                case rel => exact ⟨3, rfl, by omega, by omega, rfl, NX.out⟩
              · have hlt : i < rs.length := by omega
                obtain ⟨y, hy⟩ : ∃ y, rs[i]? = some y := ⟨_, List.getElem?_eq_getElem hlt⟩
                have hmy := moves_at HO.out.2.2.2.1 hy
                obtain ⟨am, rfl, d0, d1, d2⟩ := sl_cell3 mvC_len HO.out.2.1 hS.b.drew hy (by omega)
                have p0 := hS.p.drew.cell 0
                have p1 := hS.p.drew.cell 1
                have p2 := hS.p.drew.cell 2
                unfold mvC at d0 d1 d2
                simp only [List.getElem?_toArray, List.getElem?_cons_zero, List.getElem?_cons_succ] at p0 p1 p2 d0 d1 d2
                have j2 : (i : Int) < (rs.length : Int) := by omega
                have j3 : (0 : Int) ≤ (i : Int) := by omega
                have wi : IntKind.i64.wrap ((i : Int) + 1) = (i : Int) + 1 := IntWalk.i64_in _ (by have := HO.out.2.2.2.2.1.mv; have := HO.out.2.2.2.2.2; omega)
                have RC := Lib.hid (fun (v : World) (hb : Below wr.heap.size wr v) => RF.out v (hS.b.trans (hb.mono hS.b.size)) y.1 y.2 (((HO.out.2.2.1 y (List.mem_of_getElem? hy)).2).below (hS.b.trans (hb.mono hS.b.size))) (HO.out.2.2.2.2.1.out y.2 (List.mem_of_getElem? hmy)))
                obtain ⟨Ay, cy, ey, _⟩ := (HO.out.2.2.1 y (List.mem_of_getElem? hy)).2.len
                have HK := Lib.hid (And.intro hlt (And.intro hg (And.intro hall (And.intro hS (And.intro hy hmy)))))
                clear hin hlt hi hg hall hS hy hmy
                rw [ey] at d2 RC
                generalize hB2 : astrayB p.states.length y.2 = B at *
                have HB2 := Lib.hid hB2
                clear hB2 ey
                cases B
                · go_wp2_with fail
                  have STB := Lib.hid (show Stab (fun v => (((((v.cell? ⟨w.heap.size, 0, none⟩ = some (txt p.name) ∧ v.cell? ⟨w.heap.size, 1, none⟩ = some (.slice As p.states.length cs)) ∧ v.cell? ⟨w.heap.size, 2, none⟩ = some (.slice (some am) rs.length cm)) ∧ v.cell? (am.add (i * 3)) = some (txt y.2.op)) ∧ v.cell? ⟨(am.add (i * 3)).block, (am.add (i * 3)).off + 1, none⟩ = some (.int .i64 y.2.at_)) ∧ v.cell? ⟨(am.add (i * 3)).block, (am.add (i * 3)).off + 2, none⟩ = some (.slice Ay y.2.outs.length cy)) ∧ Below wr.heap.size wr v) from stab_and (stab_and (stab_and (stab_and (stab_and (stab_and (stab_cell _ _) (stab_cell _ _)) (stab_cell _ _)) (stab_cell _ _)) (stab_cell _ _)) (stab_cell _ _)) (stab_below wr))
                  have HS : (((((wr.drew.cell? ⟨w.heap.size, 0, none⟩ = some (txt p.name) ∧ wr.drew.cell? ⟨w.heap.size, 1, none⟩ = some (.slice As p.states.length cs)) ∧ wr.drew.cell? ⟨w.heap.size, 2, none⟩ = some (.slice (some am) rs.length cm)) ∧ wr.drew.cell? (am.add (i * 3)) = some (txt y.2.op)) ∧ wr.drew.cell? ⟨(am.add (i * 3)).block, (am.add (i * 3)).off + 1, none⟩ = some (.int .i64 y.2.at_)) ∧ wr.drew.cell? ⟨(am.add (i * 3)).block, (am.add (i * 3)).off + 2, none⟩ = some (.slice Ay y.2.outs.length cy)) ∧ Below wr.heap.size wr wr.drew := ⟨⟨⟨⟨⟨⟨p0, p1⟩, p2⟩, d0⟩, d1⟩, d2⟩, belowD wr⟩
                  clear p0 p1 p2 d0 d1 d2 m2
                  refine wp_region_noPanic ?_
                  refine wp_region_held_drew (S := (fun v => (((((v.cell? ⟨w.heap.size, 0, none⟩ = some (txt p.name) ∧ v.cell? ⟨w.heap.size, 1, none⟩ = some (.slice As p.states.length cs)) ∧ v.cell? ⟨w.heap.size, 2, none⟩ = some (.slice (some am) rs.length cm)) ∧ v.cell? (am.add (i * 3)) = some (txt y.2.op)) ∧ v.cell? ⟨(am.add (i * 3)).block, (am.add (i * 3)).off + 1, none⟩ = some (.int .i64 y.2.at_)) ∧ v.cell? ⟨(am.add (i * 3)).block, (am.add (i * 3)).off + 2, none⟩ = some (.slice Ay y.2.outs.length cy)) ∧ Below wr.heap.size wr v)) (by kernel_rfl) HS (fun hHeld => ?_)
                  clear HS
                  refine tkk 0 rfl ?_
                  refine tkk 1 rfl ?_
                  refine tkk 2 rfl ?_
                  refine tkk 3 rfl ?_
                  refine tkk 4 rfl ?_
                  refine tkk 5 rfl ?_
                  refine tkk 6 rfl ?_
                  refine tkk 7 rfl ?_
                  refine tkk 8 rfl ?_
                  (try simp only [cl, Act.put])
                  refine rd 9 rfl fun K hK => ?_
                  go_simp
                  (go_at_call 14; (refine (RC.out _ hHeld.2).mono ?_); rintro e w1 ⟨rfl, hb⟩; have H1 := Lib.hid (HK.out.2.2.2.1.keep (hHeld.2.trans (hb.mono hHeld.2.size))))
                  go_wp2_with fail
                  refine hK.out _ _ (STB.out _ _ hb (by with_reducible assumption)) (fun hH2 => ?_)
                  clear hK K hHeld hb; have hHeld := hH2; clear hH2
                  (try simp only [cl, Act.put])
                  refine tkk 10 rfl ?_
                  refine tkk 11 rfl ?_
                  refine tkk 12 rfl ?_
                  refine tkk 13 rfl ?_
                  refine tkk 14 rfl ?_
                  refine tkk 15 rfl ?_
                  refine txk 16 rfl ?_
                  refine txk 17 rfl ?_
                  refine txk 18 rfl ?_
                  refine tkk 19 rfl ?_
                  refine tkk 20 rfl ?_
                  refine tkk 21 rfl ?_
                  refine tkk 22 rfl ?_
                  refine tkk 23 rfl ?_
                  refine tkk 24 rfl ?_
                  refine txk 25 rfl ?_
                  refine txk 26 rfl ?_
                  refine txk 27 rfl ?_
                  refine txk 28 rfl ?_
                  refine txk 29 rfl ?_
                  refine txk 30 rfl ?_
                  refine txk 31 rfl ?_
                  refine txk 32 rfl ?_
                  refine txk 33 rfl ?_
                  refine txk 34 rfl ?_
                  refine txk 35 rfl ?_
                  refine tkk 36 rfl ?_
                  refine tkk 37 rfl ?_
                  (try simp only [cl, Act.put])
                  refine wpAnyH_done (by kernel_rfl) ?_ _
                  refine NoPanic.normal ?_
                  go_wp2_with fail
                  go_roundg (rs.length - (i + 1))
                  case measure => have := HK.out.1; have := HK.out.2.1; omega
                  case rel => exact ⟨i + 1, by push_cast; rfl, HK.out.1, rfl, fun i' m h1 h2 => by
                      by_cases e : i' = i
                      · subst e; rw [HK.out.2.2.2.2.2] at h2; obtain rfl := Option.some.inj h2; exact HB2.out
                      · exact HK.out.2.2.1 i' m (by omega) h2, H1.out⟩
                · go_wp2_with fail
                  have STB := Lib.hid (show Stab (fun v => (((((v.cell? ⟨w.heap.size, 0, none⟩ = some (txt p.name) ∧ v.cell? ⟨w.heap.size, 1, none⟩ = some (.slice As p.states.length cs)) ∧ v.cell? ⟨w.heap.size, 2, none⟩ = some (.slice (some am) rs.length cm)) ∧ v.cell? (am.add (i * 3)) = some (txt y.2.op)) ∧ v.cell? ⟨(am.add (i * 3)).block, (am.add (i * 3)).off + 1, none⟩ = some (.int .i64 y.2.at_)) ∧ v.cell? ⟨(am.add (i * 3)).block, (am.add (i * 3)).off + 2, none⟩ = some (.slice Ay y.2.outs.length cy)) ∧ Below wr.heap.size wr v) from stab_and (stab_and (stab_and (stab_and (stab_and (stab_and (stab_cell _ _) (stab_cell _ _)) (stab_cell _ _)) (stab_cell _ _)) (stab_cell _ _)) (stab_cell _ _)) (stab_below wr))
                  have HS : (((((wr.drew.cell? ⟨w.heap.size, 0, none⟩ = some (txt p.name) ∧ wr.drew.cell? ⟨w.heap.size, 1, none⟩ = some (.slice As p.states.length cs)) ∧ wr.drew.cell? ⟨w.heap.size, 2, none⟩ = some (.slice (some am) rs.length cm)) ∧ wr.drew.cell? (am.add (i * 3)) = some (txt y.2.op)) ∧ wr.drew.cell? ⟨(am.add (i * 3)).block, (am.add (i * 3)).off + 1, none⟩ = some (.int .i64 y.2.at_)) ∧ wr.drew.cell? ⟨(am.add (i * 3)).block, (am.add (i * 3)).off + 2, none⟩ = some (.slice Ay y.2.outs.length cy)) ∧ Below wr.heap.size wr wr.drew := ⟨⟨⟨⟨⟨⟨p0, p1⟩, p2⟩, d0⟩, d1⟩, d2⟩, belowD wr⟩
                  clear p0 p1 p2 d0 d1 d2 m2
                  refine wp_region_noPanic ?_
                  refine wp_region_held_drew (S := (fun v => (((((v.cell? ⟨w.heap.size, 0, none⟩ = some (txt p.name) ∧ v.cell? ⟨w.heap.size, 1, none⟩ = some (.slice As p.states.length cs)) ∧ v.cell? ⟨w.heap.size, 2, none⟩ = some (.slice (some am) rs.length cm)) ∧ v.cell? (am.add (i * 3)) = some (txt y.2.op)) ∧ v.cell? ⟨(am.add (i * 3)).block, (am.add (i * 3)).off + 1, none⟩ = some (.int .i64 y.2.at_)) ∧ v.cell? ⟨(am.add (i * 3)).block, (am.add (i * 3)).off + 2, none⟩ = some (.slice Ay y.2.outs.length cy)) ∧ Below wr.heap.size wr v)) (by kernel_rfl) HS (fun hHeld => ?_)
                  clear HS
                  refine tkk 0 rfl ?_
                  refine tkk 1 rfl ?_
                  refine tkk 2 rfl ?_
                  refine tkk 3 rfl ?_
                  refine tkk 4 rfl ?_
                  refine tkk 5 rfl ?_
                  refine tkk 6 rfl ?_
                  refine tkk 7 rfl ?_
                  refine tkk 8 rfl ?_
                  (try simp only [cl, Act.put])
                  refine rd 9 rfl fun K hK => ?_
                  go_simp
                  (go_at_call 14; (refine (RC.out _ hHeld.2).mono ?_); rintro e w1 ⟨rfl, hb⟩; have H1 := Lib.hid (HK.out.2.2.2.1.keep (hHeld.2.trans (hb.mono hHeld.2.size))))
                  go_wp2_with fail
                  refine hK.out _ _ (STB.out _ _ hb (by with_reducible assumption)) (fun hH2 => ?_)
                  clear hK K hHeld hb; have hHeld := hH2; clear hH2
                  (try simp only [cl, Act.put])
                  refine tkk 10 rfl ?_
                  refine tkk 11 rfl ?_
                  refine tkk 12 rfl ?_
                  refine txk 13 rfl ?_
                  refine txk 14 rfl ?_
                  refine txk 15 rfl ?_
                  refine txk 16 rfl ?_
                  refine txk 17 rfl ?_
                  refine txk 18 rfl ?_
                  refine txk 19 rfl ?_
                  refine tkk 20 rfl ?_
                  refine tkk 21 rfl ?_
                  refine txk 22 rfl ?_
                  refine txk 23 rfl ?_
                  refine txk 24 rfl ?_
                  refine txk 25 rfl ?_
                  refine txk 26 rfl ?_
                  refine txk 27 rfl ?_
                  refine txk 28 rfl ?_
                  refine txk 29 rfl ?_
                  refine txk 30 rfl ?_
                  refine txk 31 rfl ?_
                  refine txk 32 rfl ?_
                  refine txk 33 rfl ?_
                  refine txk 34 rfl ?_
                  refine txk 35 rfl ?_
                  refine txk 36 rfl ?_
                  refine tkk 37 rfl ?_
                  (try simp only [cl, Act.put])
                  refine wpAnyH_done (by kernel_rfl) ?_ _
                  refine NoPanic.normal ?_
                  go_wp2_with fail
                  refine bodyPost_ret (v := .tuple #[.int .i64 2, .int .i64 (i : Int)]) (by simp [results, Try.results7, go_sem]) rfl ⟨?_, H1.out.b⟩
                  have hit := fstL_hit HK.out.2.2.2.2.2 HB2.out HK.out.2.2.1
                  rw [HB.out, if_neg (fstI_neg D1.out.1), hit, if_pos (Int.natCast_nonneg i)]
          · have KO := Lib.hid hK
            have HG := Lib.hid hg
            clear hK hg
            go_wp2_with fail
            generalize wr = w9 at *
            go_loopg [8] rs.length (fun g v8 wr => ∃ i : Nat, v8 = .int .i64 i ∧ i ≤ rs.length ∧ g = rs.length - i ∧ (∀ i', i' < i → dupM p.moves i' = false) ∧ WrS w wr w.heap.size #[txt p.name, .slice As p.states.length cs, .slice Am rs.length cm])
            case atStart => exact ⟨0, rfl, Nat.zero_le _, rfl, fun i' h => absurd h (Nat.not_lt_zero _), HS9.out⟩
            case round =>
              obtain ⟨i, rfl, hi, hg, hall, hS⟩ := hrel
              have m2 := hS.p.cell 2
              simp only [List.getElem?_toArray, List.getElem?_cons_zero, List.getElem?_cons_succ] at m2
              by_cases hin : i = rs.length
              · have j2 : decide (i < rs.length) = false := decide_eq_false (by omega)
                have NX := Lib.hid (And.intro (show KindOk p 4 from ⟨fun _ => KO.out.1 (by omega), fun _ i h => hall i (by have := HO.out.2.2.2.2.2; omega), fun h => absurd h (by omega)⟩) hS)
                clear hi hg hall hS hin
                go_wp2_with fail
                go_roundg (5 - 4)
                case measure => have := HG.out; omega
                case rel => exact ⟨4, rfl, by omega, by omega, rfl, NX.out⟩
              · have hlt : i < rs.length := by omega
                obtain ⟨y, hy⟩ : ∃ y, rs[i]? = some y := ⟨_, List.getElem?_eq_getElem hlt⟩
                have hmy := moves_at HO.out.2.2.2.1 hy
                obtain ⟨am, rfl, d0, d1, d2⟩ := sl_cell3 mvC_len HO.out.2.1 hS.b.drew hy (by omega)
                have p0 := hS.p.drew.cell 0
                have p1 := hS.p.drew.cell 1
                have p2 := hS.p.drew.cell 2
                unfold mvC at d0 d1 d2
                simp only [List.getElem?_toArray, List.getElem?_cons_zero, List.getElem?_cons_succ] at p0 p1 p2 d0 d1 d2
                have j2 : (i : Int) < (rs.length : Int) := by omega
                have j3 : (0 : Int) ≤ (i : Int) := by omega
                have wi : IntKind.i64.wrap ((i : Int) + 1) = (i : Int) + 1 := IntWalk.i64_in _ (by have := HO.out.2.2.2.2.1.mv; have := HO.out.2.2.2.2.2; omega)
                have RC := Lib.hid (fun (v : World) (hb : Below wr.heap.size wr v) => RA.out v (hS.b.trans (hb.mono hS.b.size)) i y.2 hmy)
                obtain ⟨Ay, cy, ey, _⟩ := (HO.out.2.2.1 y (List.mem_of_getElem? hy)).2.len
                have HK := Lib.hid (And.intro hlt (And.intro hg (And.intro hall (And.intro hS (And.intro hy hmy)))))
                clear hin hlt hi hg hall hS hy hmy
                rw [ey] at d2
                generalize hB2 : dupM p.moves i = B at *
                have HB2 := Lib.hid hB2
                clear hB2 ey
                cases B
                · go_wp2_with fail
                  have STB := Lib.hid (show Stab (fun v => (((((v.cell? ⟨w.heap.size, 0, none⟩ = some (txt p.name) ∧ v.cell? ⟨w.heap.size, 1, none⟩ = some (.slice As p.states.length cs)) ∧ v.cell? ⟨w.heap.size, 2, none⟩ = some (.slice (some am) rs.length cm)) ∧ v.cell? (am.add (i * 3)) = some (txt y.2.op)) ∧ v.cell? ⟨(am.add (i * 3)).block, (am.add (i * 3)).off + 1, none⟩ = some (.int .i64 y.2.at_)) ∧ v.cell? ⟨(am.add (i * 3)).block, (am.add (i * 3)).off + 2, none⟩ = some (.slice Ay y.2.outs.length cy)) ∧ Below wr.heap.size wr v) from stab_and (stab_and (stab_and (stab_and (stab_and (stab_and (stab_cell _ _) (stab_cell _ _)) (stab_cell _ _)) (stab_cell _ _)) (stab_cell _ _)) (stab_cell _ _)) (stab_below wr))
                  have HS : (((((wr.drew.cell? ⟨w.heap.size, 0, none⟩ = some (txt p.name) ∧ wr.drew.cell? ⟨w.heap.size, 1, none⟩ = some (.slice As p.states.length cs)) ∧ wr.drew.cell? ⟨w.heap.size, 2, none⟩ = some (.slice (some am) rs.length cm)) ∧ wr.drew.cell? (am.add (i * 3)) = some (txt y.2.op)) ∧ wr.drew.cell? ⟨(am.add (i * 3)).block, (am.add (i * 3)).off + 1, none⟩ = some (.int .i64 y.2.at_)) ∧ wr.drew.cell? ⟨(am.add (i * 3)).block, (am.add (i * 3)).off + 2, none⟩ = some (.slice Ay y.2.outs.length cy)) ∧ Below wr.heap.size wr wr.drew := ⟨⟨⟨⟨⟨⟨p0, p1⟩, p2⟩, d0⟩, d1⟩, d2⟩, belowD wr⟩
                  clear p0 p1 p2 d0 d1 d2 m2
                  refine wp_region_noPanic ?_
                  refine wp_region_held_drew (S := (fun v => (((((v.cell? ⟨w.heap.size, 0, none⟩ = some (txt p.name) ∧ v.cell? ⟨w.heap.size, 1, none⟩ = some (.slice As p.states.length cs)) ∧ v.cell? ⟨w.heap.size, 2, none⟩ = some (.slice (some am) rs.length cm)) ∧ v.cell? (am.add (i * 3)) = some (txt y.2.op)) ∧ v.cell? ⟨(am.add (i * 3)).block, (am.add (i * 3)).off + 1, none⟩ = some (.int .i64 y.2.at_)) ∧ v.cell? ⟨(am.add (i * 3)).block, (am.add (i * 3)).off + 2, none⟩ = some (.slice Ay y.2.outs.length cy)) ∧ Below wr.heap.size wr v)) (by kernel_rfl) HS (fun hHeld => ?_)
                  clear HS
                  refine tkk 0 rfl ?_
                  refine tkk 1 rfl ?_
                  refine tkk 2 rfl ?_
                  refine txk 3 rfl ?_
                  refine txk 4 rfl ?_
                  refine txk 5 rfl ?_
                  refine txk 6 rfl ?_
                  refine txk 7 rfl ?_
                  refine txk 8 rfl ?_
                  refine txk 9 rfl ?_
                  refine txk 10 rfl ?_
                  refine tkk 11 rfl ?_
                  refine tkk 12 rfl ?_
                  refine tkk 13 rfl ?_
                  refine tkk 14 rfl ?_
                  refine tkk 15 rfl ?_
                  refine tkk 16 rfl ?_
                  refine tkk 17 rfl ?_
                  (try simp only [cl, Act.put])
                  refine rd 18 rfl fun K hK => ?_
                  go_simp
                  (go_at_call 15; (refine (RC.out _ hHeld.2).mono ?_); rintro e w1 ⟨rfl, hb⟩; have H1 := Lib.hid (HK.out.2.2.2.1.keep (hHeld.2.trans (hb.mono hHeld.2.size))))
                  go_wp2_with fail
                  refine hK.out _ _ (STB.out _ _ hb (by with_reducible assumption)) (fun hH2 => ?_)
                  clear hK K hHeld hb; have hHeld := hH2; clear hH2
                  (try simp only [cl, Act.put])
                  refine tkk 19 rfl ?_
                  refine tkk 20 rfl ?_
                  refine tkk 21 rfl ?_
                  refine tkk 22 rfl ?_
                  refine tkk 23 rfl ?_
                  refine tkk 24 rfl ?_
                  refine txk 25 rfl ?_
                  refine txk 26 rfl ?_
                  refine txk 27 rfl ?_
                  refine txk 28 rfl ?_
                  refine txk 29 rfl ?_
                  refine txk 30 rfl ?_
                  refine txk 31 rfl ?_
                  refine txk 32 rfl ?_
                  refine txk 33 rfl ?_
                  refine txk 34 rfl ?_
                  refine txk 35 rfl ?_
                  refine tkk 36 rfl ?_
                  refine tkk 37 rfl ?_
                  (try simp only [cl, Act.put])
                  refine wpAnyH_done (by kernel_rfl) ?_ _
                  refine NoPanic.normal ?_
                  go_wp2_with fail
                  go_roundg (rs.length - (i + 1))
                  case measure => have := HK.out.1; have := HK.out.2.1; omega
                  case rel => exact ⟨i + 1, by push_cast; rfl, HK.out.1, rfl, fun i' h1 => by
                      by_cases e : i' = i
                      · rw [e]; exact HB2.out
                      · exact HK.out.2.2.1 i' (by omega), H1.out⟩
                · go_wp2_with fail
                  have STB := Lib.hid (show Stab (fun v => (((((v.cell? ⟨w.heap.size, 0, none⟩ = some (txt p.name) ∧ v.cell? ⟨w.heap.size, 1, none⟩ = some (.slice As p.states.length cs)) ∧ v.cell? ⟨w.heap.size, 2, none⟩ = some (.slice (some am) rs.length cm)) ∧ v.cell? (am.add (i * 3)) = some (txt y.2.op)) ∧ v.cell? ⟨(am.add (i * 3)).block, (am.add (i * 3)).off + 1, none⟩ = some (.int .i64 y.2.at_)) ∧ v.cell? ⟨(am.add (i * 3)).block, (am.add (i * 3)).off + 2, none⟩ = some (.slice Ay y.2.outs.length cy)) ∧ Below wr.heap.size wr v) from stab_and (stab_and (stab_and (stab_and (stab_and (stab_and (stab_cell _ _) (stab_cell _ _)) (stab_cell _ _)) (stab_cell _ _)) (stab_cell _ _)) (stab_cell _ _)) (stab_below wr))
                  have HS : (((((wr.drew.cell? ⟨w.heap.size, 0, none⟩ = some (txt p.name) ∧ wr.drew.cell? ⟨w.heap.size, 1, none⟩ = some (.slice As p.states.length cs)) ∧ wr.drew.cell? ⟨w.heap.size, 2, none⟩ = some (.slice (some am) rs.length cm)) ∧ wr.drew.cell? (am.add (i * 3)) = some (txt y.2.op)) ∧ wr.drew.cell? ⟨(am.add (i * 3)).block, (am.add (i * 3)).off + 1, none⟩ = some (.int .i64 y.2.at_)) ∧ wr.drew.cell? ⟨(am.add (i * 3)).block, (am.add (i * 3)).off + 2, none⟩ = some (.slice Ay y.2.outs.length cy)) ∧ Below wr.heap.size wr wr.drew := ⟨⟨⟨⟨⟨⟨p0, p1⟩, p2⟩, d0⟩, d1⟩, d2⟩, belowD wr⟩
                  clear p0 p1 p2 d0 d1 d2 m2
                  refine wp_region_noPanic ?_
                  refine wp_region_held_drew (S := (fun v => (((((v.cell? ⟨w.heap.size, 0, none⟩ = some (txt p.name) ∧ v.cell? ⟨w.heap.size, 1, none⟩ = some (.slice As p.states.length cs)) ∧ v.cell? ⟨w.heap.size, 2, none⟩ = some (.slice (some am) rs.length cm)) ∧ v.cell? (am.add (i * 3)) = some (txt y.2.op)) ∧ v.cell? ⟨(am.add (i * 3)).block, (am.add (i * 3)).off + 1, none⟩ = some (.int .i64 y.2.at_)) ∧ v.cell? ⟨(am.add (i * 3)).block, (am.add (i * 3)).off + 2, none⟩ = some (.slice Ay y.2.outs.length cy)) ∧ Below wr.heap.size wr v)) (by kernel_rfl) HS (fun hHeld => ?_)
                  clear HS
                  refine tkk 0 rfl ?_
                  refine tkk 1 rfl ?_
                  refine tkk 2 rfl ?_
                  refine txk 3 rfl ?_
                  refine txk 4 rfl ?_
                  refine txk 5 rfl ?_
                  refine txk 6 rfl ?_
                  refine txk 7 rfl ?_
                  refine txk 8 rfl ?_
                  refine txk 9 rfl ?_
                  refine txk 10 rfl ?_
                  refine tkk 11 rfl ?_
                  refine tkk 12 rfl ?_
                  refine tkk 13 rfl ?_
                  refine tkk 14 rfl ?_
                  refine tkk 15 rfl ?_
                  refine tkk 16 rfl ?_
                  refine tkk 17 rfl ?_
                  (try simp only [cl, Act.put])
                  refine rd 18 rfl fun K hK => ?_
                  go_simp
                  (go_at_call 15; (refine (RC.out _ hHeld.2).mono ?_); rintro e w1 ⟨rfl, hb⟩; have H1 := Lib.hid (HK.out.2.2.2.1.keep (hHeld.2.trans (hb.mono hHeld.2.size))))
                  go_wp2_with fail
                  refine hK.out _ _ (STB.out _ _ hb (by with_reducible assumption)) (fun hH2 => ?_)
                  clear hK K hHeld hb; have hHeld := hH2; clear hH2
                  (try simp only [cl, Act.put])
                  refine tkk 19 rfl ?_
                  refine tkk 20 rfl ?_
                  refine tkk 21 rfl ?_
                  refine txk 22 rfl ?_
                  refine txk 23 rfl ?_
                  refine txk 24 rfl ?_
                  refine txk 25 rfl ?_
                  refine txk 26 rfl ?_
                  refine txk 27 rfl ?_
                  refine txk 28 rfl ?_
                  refine txk 29 rfl ?_
                  refine txk 30 rfl ?_
                  refine txk 31 rfl ?_
                  refine txk 32 rfl ?_
                  refine txk 33 rfl ?_
                  refine txk 34 rfl ?_
                  refine txk 35 rfl ?_
                  refine txk 36 rfl ?_
                  refine tkk 37 rfl ?_
                  (try simp only [cl, Act.put])
                  refine wpAnyH_done (by kernel_rfl) ?_ _
                  refine NoPanic.normal ?_
                  go_wp2_with fail
                  refine bodyPost_ret (v := .tuple #[.int .i64 3, .int .i64 (i : Int)]) (by simp [results, Try.results7, go_sem]) rfl ⟨?_, H1.out.b⟩
                  have hit := fst_hit (n := p.moves.length) (by have := HK.out.1; have := HO.out.2.2.2.2.2; omega) HB2.out HK.out.2.2.1
                  rw [HB.out, if_neg (fstI_neg D1.out.1), if_neg (fstL_neg (KO.out.1 (by omega))), hit, if_pos (Int.natCast_nonneg i)]
          · have KO := Lib.hid hK
            have HG := Lib.hid hg
            clear hK hg
            go_wp2_with fail
            generalize wr = w9 at *
            go_loopg [8] rs.length (fun g v8 wr => ∃ i : Nat, v8 = .int .i64 i ∧ i ≤ rs.length ∧ g = rs.length - i ∧ (∀ (i' : Nat) (m : Mov), i' < i → p.moves[i']? = some m → finM p.states m = false) ∧ WrS w wr w.heap.size #[txt p.name, .slice As p.states.length cs, .slice Am rs.length cm])
            case atStart => exact ⟨0, rfl, Nat.zero_le _, rfl, fun i' m h => absurd h (Nat.not_lt_zero _), HS9.out⟩
            case round =>
              obtain ⟨i, rfl, hi, hg, hall, hS⟩ := hrel
              have m2 := hS.p.cell 2
              simp only [List.getElem?_toArray, List.getElem?_cons_zero, List.getElem?_cons_succ] at m2
              by_cases hin : i = rs.length
              · have j2 : decide (i < rs.length) = false := decide_eq_false (by omega)
                have NX := Lib.hid (And.intro (show KindOk p 5 from ⟨fun _ => KO.out.1 (by omega), fun _ => KO.out.2.1 (by omega), fun _ i m h => hall i m (by have := (List.getElem?_eq_some_iff.1 h).1; have := HO.out.2.2.2.2.2; omega) h⟩) hS)
                clear hi hg hall hS hin
                go_wp2_with fail
                go_roundg (5 - 5)
                case measure => have := HG.out; omega
                case rel => exact ⟨5, rfl, by omega, by omega, rfl, NX.out⟩
              · have hlt : i < rs.length := by omega
                obtain ⟨y, hy⟩ : ∃ y, rs[i]? = some y := ⟨_, List.getElem?_eq_getElem hlt⟩
                have hmy := moves_at HO.out.2.2.2.1 hy
                obtain ⟨am, rfl, d0, d1, d2⟩ := sl_cell3 mvC_len HO.out.2.1 hS.b.drew hy (by omega)
                have p0 := hS.p.drew.cell 0
                have p1 := hS.p.drew.cell 1
                have p2 := hS.p.drew.cell 2
                unfold mvC at d0 d1 d2
                simp only [List.getElem?_toArray, List.getElem?_cons_zero, List.getElem?_cons_succ] at p0 p1 p2 d0 d1 d2
                have j2 : (i : Int) < (rs.length : Int) := by omega
                have j3 : (0 : Int) ≤ (i : Int) := by omega
                have wi : IntKind.i64.wrap ((i : Int) + 1) = (i : Int) + 1 := IntWalk.i64_in _ (by have := HO.out.2.2.2.2.1.mv; have := HO.out.2.2.2.2.2; omega)
                have hat := (KO.out.fits (by omega)).at_ y.2 (List.mem_of_getElem? hmy)
                obtain ⟨sx, hsx⟩ : ∃ sx, p.states[y.2.at_.toNat]? = some sx := ⟨_, List.getElem?_eq_getElem (by omega)⟩
                obtain ⟨sa, rfl, _, ds⟩ := sl_cell2 stC_len HO.out.1 hS.b.drew hsx (by omega)
                unfold stC at ds
                simp only [List.getElem?_cons_zero, List.getElem?_cons_succ] at ds
                have hfe : finM p.states y.2 = sx.final := by unfold finM; rw [hsx]
                obtain ⟨Ay, cy, ey, _⟩ := (HO.out.2.2.1 y (List.mem_of_getElem? hy)).2.len
                have HK := Lib.hid (And.intro hlt (And.intro hg (And.intro hall (And.intro hS (And.intro hy hmy)))))
                clear hin hlt hi hg hall hS hy hmy
                rw [ey] at d2
                obtain ⟨zz, hzz⟩ : ∃ z : Nat, y.2.at_ = z := ⟨y.2.at_.toNat, by omega⟩
                rw [hzz, Int.toNat_natCast] at ds
                rw [hzz] at d1
                have k1 : (zz : Int) < (p.states.length : Int) := by omega
                have k2 : (0 : Int) ≤ (zz : Int) := by omega
                clear hat hsx hzz
                rw [← hfe] at ds
                clear hfe
                generalize hB2 : finM p.states y.2 = B at *
                have HB2 := Lib.hid hB2
                clear hB2 ey
                cases B
                · go_wp2_with fail
                  have STB := Lib.hid (show Stab (fun v => ((((((v.cell? ⟨w.heap.size, 0, none⟩ = some (txt p.name) ∧ v.cell? ⟨w.heap.size, 1, none⟩ = some (.slice (some sa) p.states.length cs)) ∧ v.cell? ⟨w.heap.size, 2, none⟩ = some (.slice (some am) rs.length cm)) ∧ v.cell? (am.add (i * 3)) = some (txt y.2.op)) ∧ v.cell? ⟨(am.add (i * 3)).block, (am.add (i * 3)).off + 1, none⟩ = some (.int .i64 (zz : Int))) ∧ v.cell? ⟨(am.add (i * 3)).block, (am.add (i * 3)).off + 2, none⟩ = some (.slice Ay y.2.outs.length cy)) ∧ v.cell? ⟨(sa.add (zz * 2)).block, (sa.add (zz * 2)).off + 1, none⟩ = some (.bool false)) ∧ Below wr.heap.size wr v) from stab_and (stab_and (stab_and (stab_and (stab_and (stab_and (stab_and (stab_cell _ _) (stab_cell _ _)) (stab_cell _ _)) (stab_cell _ _)) (stab_cell _ _)) (stab_cell _ _)) (stab_cell _ _)) (stab_below wr))
                  have HS : ((((((wr.drew.cell? ⟨w.heap.size, 0, none⟩ = some (txt p.name) ∧ wr.drew.cell? ⟨w.heap.size, 1, none⟩ = some (.slice (some sa) p.states.length cs)) ∧ wr.drew.cell? ⟨w.heap.size, 2, none⟩ = some (.slice (some am) rs.length cm)) ∧ wr.drew.cell? (am.add (i * 3)) = some (txt y.2.op)) ∧ wr.drew.cell? ⟨(am.add (i * 3)).block, (am.add (i * 3)).off + 1, none⟩ = some (.int .i64 (zz : Int))) ∧ wr.drew.cell? ⟨(am.add (i * 3)).block, (am.add (i * 3)).off + 2, none⟩ = some (.slice Ay y.2.outs.length cy)) ∧ wr.drew.cell? ⟨(sa.add (zz * 2)).block, (sa.add (zz * 2)).off + 1, none⟩ = some (.bool false)) ∧ Below wr.heap.size wr wr.drew := ⟨⟨⟨⟨⟨⟨⟨p0, p1⟩, p2⟩, d0⟩, d1⟩, d2⟩, ds⟩, belowD wr⟩
                  clear p0 p1 p2 d0 d1 d2 ds m2
                  refine wp_region_noPanic ?_
                  refine wp_region_held_drew (S := (fun v => ((((((v.cell? ⟨w.heap.size, 0, none⟩ = some (txt p.name) ∧ v.cell? ⟨w.heap.size, 1, none⟩ = some (.slice (some sa) p.states.length cs)) ∧ v.cell? ⟨w.heap.size, 2, none⟩ = some (.slice (some am) rs.length cm)) ∧ v.cell? (am.add (i * 3)) = some (txt y.2.op)) ∧ v.cell? ⟨(am.add (i * 3)).block, (am.add (i * 3)).off + 1, none⟩ = some (.int .i64 (zz : Int))) ∧ v.cell? ⟨(am.add (i * 3)).block, (am.add (i * 3)).off + 2, none⟩ = some (.slice Ay y.2.outs.length cy)) ∧ v.cell? ⟨(sa.add (zz * 2)).block, (sa.add (zz * 2)).off + 1, none⟩ = some (.bool false)) ∧ Below wr.heap.size wr v)) (by kernel_rfl) HS (fun hHeld => ?_)
                  clear HS
                  refine tkk 0 rfl ?_
                  refine tkk 1 rfl ?_
                  refine tkk 2 rfl ?_
                  refine txk 3 rfl ?_
                  refine txk 4 rfl ?_
                  refine txk 5 rfl ?_
                  refine txk 6 rfl ?_
                  refine txk 7 rfl ?_
                  refine txk 8 rfl ?_
                  refine txk 9 rfl ?_
                  refine txk 10 rfl ?_
                  refine tkk 11 rfl ?_
                  refine tkk 12 rfl ?_
                  refine tkk 13 rfl ?_
                  refine tkk 14 rfl ?_
                  refine tkk 15 rfl ?_
                  refine txk 16 rfl ?_
                  refine txk 17 rfl ?_
                  refine txk 18 rfl ?_
                  refine tkk 19 rfl ?_
                  refine tkk 20 rfl ?_
                  refine tkk 21 rfl ?_
                  refine tkk 22 rfl ?_
                  refine tkk 23 rfl ?_
                  refine tkk 24 rfl ?_
                  refine tkk 25 rfl ?_
                  refine tkk 26 rfl ?_
                  refine tkk 27 rfl ?_
                  refine tkk 28 rfl ?_
                  refine tkk 29 rfl ?_
                  refine tkk 30 rfl ?_
                  refine tkk 31 rfl ?_
                  refine tkk 32 rfl ?_
                  refine tkk 33 rfl ?_
                  refine tkk 34 rfl ?_
                  refine tkk 35 rfl ?_
                  refine tkk 36 rfl ?_
                  refine tkk 37 rfl ?_
                  (try simp only [cl, Act.put])
                  refine wpAnyH_done (by kernel_rfl) ?_ _
                  refine NoPanic.normal ?_
                  go_wp2_with fail
                  go_roundg (rs.length - (i + 1))
                  case measure => have := HK.out.1; have := HK.out.2.1; omega
                  case rel => exact ⟨i + 1, by push_cast; rfl, HK.out.1, rfl, fun i' m h1 h2 => by
                      by_cases e : i' = i
                      · subst e; rw [HK.out.2.2.2.2.2] at h2; obtain rfl := Option.some.inj h2; exact HB2.out
                      · exact HK.out.2.2.1 i' m (by omega) h2, (HK.out.2.2.2.1.keep (belowD wr))⟩
                · go_wp2_with fail
                  have STB := Lib.hid (show Stab (fun v => ((((((v.cell? ⟨w.heap.size, 0, none⟩ = some (txt p.name) ∧ v.cell? ⟨w.heap.size, 1, none⟩ = some (.slice (some sa) p.states.length cs)) ∧ v.cell? ⟨w.heap.size, 2, none⟩ = some (.slice (some am) rs.length cm)) ∧ v.cell? (am.add (i * 3)) = some (txt y.2.op)) ∧ v.cell? ⟨(am.add (i * 3)).block, (am.add (i * 3)).off + 1, none⟩ = some (.int .i64 (zz : Int))) ∧ v.cell? ⟨(am.add (i * 3)).block, (am.add (i * 3)).off + 2, none⟩ = some (.slice Ay y.2.outs.length cy)) ∧ v.cell? ⟨(sa.add (zz * 2)).block, (sa.add (zz * 2)).off + 1, none⟩ = some (.bool true)) ∧ Below wr.heap.size wr v) from stab_and (stab_and (stab_and (stab_and (stab_and (stab_and (stab_and (stab_cell _ _) (stab_cell _ _)) (stab_cell _ _)) (stab_cell _ _)) (stab_cell _ _)) (stab_cell _ _)) (stab_cell _ _)) (stab_below wr))
                  have HS : ((((((wr.drew.cell? ⟨w.heap.size, 0, none⟩ = some (txt p.name) ∧ wr.drew.cell? ⟨w.heap.size, 1, none⟩ = some (.slice (some sa) p.states.length cs)) ∧ wr.drew.cell? ⟨w.heap.size, 2, none⟩ = some (.slice (some am) rs.length cm)) ∧ wr.drew.cell? (am.add (i * 3)) = some (txt y.2.op)) ∧ wr.drew.cell? ⟨(am.add (i * 3)).block, (am.add (i * 3)).off + 1, none⟩ = some (.int .i64 (zz : Int))) ∧ wr.drew.cell? ⟨(am.add (i * 3)).block, (am.add (i * 3)).off + 2, none⟩ = some (.slice Ay y.2.outs.length cy)) ∧ wr.drew.cell? ⟨(sa.add (zz * 2)).block, (sa.add (zz * 2)).off + 1, none⟩ = some (.bool true)) ∧ Below wr.heap.size wr wr.drew := ⟨⟨⟨⟨⟨⟨⟨p0, p1⟩, p2⟩, d0⟩, d1⟩, d2⟩, ds⟩, belowD wr⟩
                  clear p0 p1 p2 d0 d1 d2 ds m2
                  refine wp_region_noPanic ?_
                  refine wp_region_held_drew (S := (fun v => ((((((v.cell? ⟨w.heap.size, 0, none⟩ = some (txt p.name) ∧ v.cell? ⟨w.heap.size, 1, none⟩ = some (.slice (some sa) p.states.length cs)) ∧ v.cell? ⟨w.heap.size, 2, none⟩ = some (.slice (some am) rs.length cm)) ∧ v.cell? (am.add (i * 3)) = some (txt y.2.op)) ∧ v.cell? ⟨(am.add (i * 3)).block, (am.add (i * 3)).off + 1, none⟩ = some (.int .i64 (zz : Int))) ∧ v.cell? ⟨(am.add (i * 3)).block, (am.add (i * 3)).off + 2, none⟩ = some (.slice Ay y.2.outs.length cy)) ∧ v.cell? ⟨(sa.add (zz * 2)).block, (sa.add (zz * 2)).off + 1, none⟩ = some (.bool true)) ∧ Below wr.heap.size wr v)) (by kernel_rfl) HS (fun hHeld => ?_)
                  clear HS
                  refine tkk 0 rfl ?_
                  refine tkk 1 rfl ?_
                  refine tkk 2 rfl ?_
                  refine txk 3 rfl ?_
                  refine txk 4 rfl ?_
                  refine txk 5 rfl ?_
                  refine txk 6 rfl ?_
                  refine txk 7 rfl ?_
                  refine txk 8 rfl ?_
                  refine txk 9 rfl ?_
                  refine txk 10 rfl ?_
                  refine tkk 11 rfl ?_
                  refine tkk 12 rfl ?_
                  refine tkk 13 rfl ?_
                  refine tkk 14 rfl ?_
                  refine tkk 15 rfl ?_
                  refine txk 16 rfl ?_
                  refine txk 17 rfl ?_
                  refine txk 18 rfl ?_
                  refine tkk 19 rfl ?_
                  refine tkk 20 rfl ?_
                  refine tkk 21 rfl ?_
                  refine tkk 22 rfl ?_
                  refine tkk 23 rfl ?_
                  refine tkk 24 rfl ?_
                  refine tkk 25 rfl ?_
                  refine tkk 26 rfl ?_
                  refine tkk 27 rfl ?_
                  refine tkk 28 rfl ?_
                  refine tkk 29 rfl ?_
                  refine tkk 30 rfl ?_
                  refine tkk 31 rfl ?_
                  refine tkk 32 rfl ?_
                  refine tkk 33 rfl ?_
                  refine tkk 34 rfl ?_
                  refine tkk 35 rfl ?_
                  refine tkk 36 rfl ?_
                  refine tkk 37 rfl ?_
                  (try simp only [cl, Act.put])
                  refine wpAnyH_done (by kernel_rfl) ?_ _
                  refine NoPanic.normal ?_
                  go_wp2_with fail
                  refine bodyPost_ret (v := .tuple #[.int .i64 4, .int .i64 (i : Int)]) (by simp [results, Try.results7, go_sem]) rfl ⟨?_, (HK.out.2.2.2.1.keep (belowD wr)).b⟩
                  have hit := fstL_hit HK.out.2.2.2.2.2 HB2.out HK.out.2.2.1
                  rw [HB.out, if_neg (fstI_neg D1.out.1), if_neg (fstL_neg (KO.out.1 (by omega))), if_neg (fstI_neg (KO.out.2.1 (by omega))), hit, if_pos (Int.natCast_nonneg i)]
          · have KO := Lib.hid hK
            clear hK hg
            go_wp2_with fail
            generalize wr = w9 at *
            go_loopg [9] p.states.length (fun g v9 wr => ∃ i : Nat, v9 = .int .i64 i ∧ i ≤ p.states.length ∧ g = p.states.length - i ∧ (∀ i', i' < i → stuckB p i' = false) ∧ WrS w wr w.heap.size #[txt p.name, .slice As p.states.length cs, .slice Am rs.length cm])
            case atStart => exact ⟨0, rfl, Nat.zero_le _, rfl, fun i' h => absurd h (Nat.not_lt_zero _), HS9.out⟩
            case round =>
              obtain ⟨i, rfl, hi, hg, hall, hS⟩ := hrel
              have p0 := hS.p.cell 0
              have p1 := hS.p.cell 1
              have p2 := hS.p.cell 2
              simp only [List.getElem?_toArray, List.getElem?_cons_zero, List.getElem?_cons_succ] at p0 p1 p2
              by_cases hin : i = p.states.length
              · have j2 : decide (i < p.states.length) = false := decide_eq_false (by omega)
                have FIN := Lib.hid (And.intro (fstI_neg (t := stuckB p) (n := p.states.length) (by rw [← hin]; exact hall)) hS)
                clear hi hg hall hS hin
                go_wp2_with fail
                refine bodyPost_ret (v := .tuple #[.int .i64 0, .int .i64 0]) (by simp [results, Try.results7, go_sem]) rfl ⟨?_, FIN.out.2.b⟩
                rw [HB.out, if_neg (fstI_neg D1.out.1), if_neg (fstL_neg (KO.out.1 (by omega))), if_neg (fstI_neg (KO.out.2.1 (by omega))), if_neg (fstL_neg (KO.out.2.2 (by omega))), if_neg (show ¬ 0 ≤ fstI (stuckB p) p.states.length by have := FIN.out.1; omega)]
              · have hlt : i < p.states.length := by omega
                have j2 : (i : Int) < (p.states.length : Int) := by omega
                have j3 : (0 : Int) ≤ (i : Int) := by omega
                have wi : IntKind.i64.wrap ((i : Int) + 1) = (i : Int) + 1 := IntWalk.i64_in _ (by have := HN.out.1; omega)
                have RC := Lib.hid (RE.out wr hS.b (KO.out.fits (by omega)) HN.out.1 i hlt)
                have hs : stuckB p i = !goesB p p.states.length i := rfl
                have HK := Lib.hid (And.intro hlt (And.intro hg (And.intro hall (And.intro hS hs))))
                clear hin hlt hi hg hall hS hs
                generalize goesB p p.states.length i = B at *
                cases B
                · go_wp2_with (go_at_call 16; (refine RC.out.mono ?_); rintro e w1 ⟨rfl, hb⟩; have H1 := Lib.hid (HK.out.2.2.2.1.keep hb); clear hb)
                  refine bodyPost_ret (v := .tuple #[.int .i64 5, .int .i64 (i : Int)]) (by simp [results, Try.results7, go_sem]) rfl ⟨?_, H1.out.b⟩
                  have hit := fst_hit HK.out.1 HK.out.2.2.2.2 HK.out.2.2.1
                  rw [HB.out, if_neg (fstI_neg D1.out.1), if_neg (fstL_neg (KO.out.1 (by omega))), if_neg (fstI_neg (KO.out.2.1 (by omega))), if_neg (fstL_neg (KO.out.2.2 (by omega))), hit, if_pos (Int.natCast_nonneg i)]
                · go_wp2_with (go_at_call 16; (refine RC.out.mono ?_); rintro e w1 ⟨rfl, hb⟩; have H1 := Lib.hid (HK.out.2.2.2.1.keep hb); clear hb)
                  go_roundg (p.states.length - (i + 1))
                  case measure => have := HK.out.1; have := HK.out.2.1; omega
                  case rel => exact ⟨i + 1, by push_cast; rfl, HK.out.1, rfl, fun i' h1 => by
                      by_cases e : i' = i
                      · rw [e]; exact HK.out.2.2.2.2
                      · exact HK.out.2.2.1 i' (by omega), H1.out⟩
      · have hlt : i < p.states.length := by omega
        obtain ⟨x, hx⟩ : ∃ x, p.states[i]? = some x := ⟨_, List.getElem?_eq_getElem hlt⟩
        have j1 : (i : Int) < (p.states.length : Int) := by omega
        have j2 : (0 : Int) ≤ (i : Int) := by omega
        have wi : IntKind.i64.wrap ((i : Int) + 1) = (i : Int) + 1 := IntWalk.i64_in _ (by have := HN.out.1; omega)
        have HI := Lib.hid (And.intro hlt (And.intro hg (And.intro hall (And.intro hS hx))))
        clear hin hlt hi hg hall hS hx
        go_wp2_with fail
        generalize wr = w9 at *
        go_loopg [6] i (fun g v6 wr => ∃ k : Nat, v6 = .int .i64 k ∧ k ≤ i ∧ g = i - k ∧ (∀ k' y, k' < k → p.states[k']? = some y → y.name ≠ x.name) ∧ WrS w wr w.heap.size #[txt p.name, .slice As p.states.length cs, .slice Am rs.length cm])
        case atStart => exact ⟨0, rfl, Nat.zero_le _, rfl, fun k y hk _ => absurd hk (Nat.not_lt_zero _), HI.out.2.2.2.1⟩
        case round =>
          obtain ⟨k, rfl, hk, hg, hall, hS⟩ := hrel
          by_cases hki : k = i
          · have i6 : decide (k < i) = false := decide_eq_false (by omega)
            have NX := Lib.hid (And.intro (dupS_none HI.out.2.2.2.2 (by rw [← hki]; exact hall)) hS)
            clear hk hg hall hS hki
            go_wp2_with fail
            go_roundg (p.states.length - (i + 1))
            case measure => have := HI.out.1; have := HI.out.2.1; omega
            case rel => exact ⟨i + 1, by push_cast; rfl, HI.out.1, rfl, fun j hj => by
              by_cases e : j = i
              · rw [e]; exact NX.out.1
              · exact HI.out.2.2.1 j (by omega), NX.out.2⟩
          · have hlt : k < i := by omega
            have hil := HI.out.1
            obtain ⟨y, hy⟩ : ∃ y, p.states[k]? = some y := ⟨_, List.getElem?_eq_getElem (by omega)⟩
            obtain ⟨ao, ea, d0, _⟩ := sl_cell2 stC_len HO.out.1 hS.b HI.out.2.2.2.2 (by omega)
            obtain ⟨ao', ea', d1, _⟩ := sl_cell2 stC_len HO.out.1 hS.b hy (by omega)
            rw [ea] at ea'
            obtain rfl := Option.some.inj ea'
            subst ea
            unfold stC at d0 d1
            simp only [List.getElem?_cons_zero] at d0 d1
            have m3 := hS.p.cell 1
            simp only [List.getElem?_toArray, List.getElem?_cons_zero, List.getElem?_cons_succ] at m3
            have i6 : (k : Int) < (i : Int) := by omega
            have i7 : (0 : Int) ≤ (k : Int) := by omega
            have i8 : (k : Int) < (p.states.length : Int) := by omega
            have wk : IntKind.i64.wrap ((k : Int) + 1) = (k : Int) + 1 := IntWalk.i64_in _ (by have := HN.out.1; omega)
            have HK := Lib.hid (And.intro hlt (And.intro hg (And.intro hall (And.intro hS hy))))
            clear hki hlt hk hg hall hS hy hil
            by_cases q1 : y.name = x.name
            · rw [q1] at d1
              have HQ1 := Lib.hid q1
              clear q1
              go_wp2_with fail
              go_quiet (fail)
              go_wp2_with fail
              have hit := fst_hit HI.out.1 (dupS_hit HI.out.2.2.2.2 HK.out.2.2.2.2 HK.out.1 HQ1.out) HI.out.2.2.1
              refine bodyPost_ret (v := .tuple #[.int .i64 1, .int .i64 (i : Int)]) (by simp [results, Try.results7, go_sem]) rfl ⟨?_, HK.out.2.2.2.1.b.trans ((below_drewN _ _).mono HK.out.2.2.2.1.b.size)⟩
              rw [HB.out, hit, if_pos (Int.natCast_nonneg i)]
            · have t1 : (x.name == y.name) = false := beq_eq_false_iff_ne.mpr (fun e => q1 e.symm)
              have HQ1 := Lib.hid q1
              clear q1
              go_wp2_with fail
              go_quiet (fail)
              go_wp2_with fail
              go_roundg (i - (k + 1))
              case measure => have := HK.out.1; have := HK.out.2.1; omega
              case rel => exact ⟨k + 1, by push_cast; rfl, HK.out.1, rfl, fun j u hj hu => by
                  by_cases e : j = k
                  · subst e; rw [HK.out.2.2.2.2] at hu; obtain rfl := Option.some.inj hu; exact HQ1.out
                  · exact HK.out.2.2.1 j u (by omega) hu, HK.out.2.2.2.1.keep (below_drewN _ _)⟩
end Go.Proofs.Ytbfgeiimjmhhdaa
