/-
  The walks of the reference's Same and Like at equal things. (Template: by-name.py fills it; gen/genAutX.py writes it.)
-/
import Derived.Test.YtbfgeiimjmhhdaaAutV
import Derived.Test.YtbfgeiimjmhhdaaAutW
namespace Go.Proofs.Ytbfgeiimjmhhdaa
open Go.RowKit

set_option maxRecDepth 10000 in
set_option maxHeartbeats 4000000 in
theorem rsame_same (w : World) (va vb : Value) (os : List Ou) (ha : OutsAt w va os) (hb : OutsAt w vb os) (hl : os.length ≤ 80) :
    Calls Try.prog 17 #[va, vb] w fun e w' => e = .returned (.bool true) ∧ Below w.heap.size w w' := by
  obtain ⟨A, c, rfl, _, _, hA, _⟩ := ha
  obtain ⟨B, d, rfl, _, _, hB, _⟩ := hb
  have HO := Lib.hid (And.intro hA (And.intro hB hl))
  have t0 : ((os.length : Int) != (os.length : Int)) = false := by simp
  clear hA hB hl
  go_enter Try.func17, Try.ntmps17
  go_wp2_with fail
  go_loopg [5] os.length (fun g v5 wr => ∃ k : Nat, v5 = .int .i64 k ∧ k ≤ os.length ∧ g = os.length - k ∧ Below w.heap.size w wr)
  case atStart => exact ⟨0, rfl, Nat.zero_le _, rfl, Below.refl _ _⟩
  case round =>
    obtain ⟨k, rfl, hk, hg, hb⟩ := hrel
    by_cases hkn : k = os.length
    · have j1 : decide (k < os.length) = false := decide_eq_false (by omega)
      have FIN := Lib.hid hb
      clear hk hg hb hkn
      go_wp2_with fail
      go_ret
      exact ⟨rfl, FIN.out⟩
    · have hlt : k < os.length := by omega
      obtain ⟨x, hx⟩ : ∃ x, os[k]? = some x := ⟨_, List.getElem?_eq_getElem hlt⟩
      obtain ⟨ad, rfl, d0, d1⟩ := sl_cell2 ouC_len HO.out.1 hb hx (by omega)
      obtain ⟨bd, rfl, e0, e1⟩ := sl_cell2 ouC_len HO.out.2.1 hb hx (by omega)
      unfold ouC at d0 d1 e0 e1
      simp only [List.getElem?_cons_zero, List.getElem?_cons_succ] at d0 d1 e0 e1
      have j1 : (k : Int) < (os.length : Int) := by omega
      have j2 : (0 : Int) ≤ (k : Int) := by omega
      have wk : IntKind.i64.wrap ((k : Int) + 1) = (k : Int) + 1 := IntWalk.i64_in _ (by have := HO.out.2.2; omega)
      have HK := Lib.hid (And.intro hlt (And.intro hg hb))
      clear hkn hlt hk hg hb hx
      go_wp2_with fail
      go_quiet (fail)
      go_wp2_with fail
      go_roundg (os.length - (k + 1))
      case measure => have := HK.out.1; have := HK.out.2.1; omega
      case rel => exact ⟨k + 1, by push_cast; rfl, HK.out.1, rfl, HK.out.2.2.trans ((below_drewN _ _).mono HK.out.2.2.size)⟩
set_option maxRecDepth 100000 in
set_option maxHeartbeats 8000000 in
theorem rlike_same (w : World) (va vma vb vmb : Value) (p : Pro) (ha : ProAt w va vma p) (hb : ProAt w vb vmb p) (hz : SzP p) :
    Calls Try.prog 8 #[proV va vma p, proV vb vmb p] w fun e w' => e = .returned (.bool true) ∧ Below w.heap.size w w' := by
  obtain ⟨As, cs, rfl, _, _, hS, _⟩ := ha.states
  obtain ⟨Bs, ds, rfl, _, _, hT, _⟩ := hb.states
  obtain ⟨rs, hm, Am, cm, rfl, _, _, hM, hE⟩ := ha.moves
  obtain ⟨ss, hn, Bm, dm, rfl, _, _, hN, hF⟩ := hb.moves
  have hml := moves_len hm
  have hnl := moves_len hn
  have hle : ss.length = rs.length := by omega
  rw [hle] at hN ⊢
  have a1 := below_alloc1 w (.cells #[txt p.name, .slice As p.states.length cs, .slice Am rs.length cm] 30)
  have B1 := Blk.start w #[txt p.name, .slice As p.states.length cs, .slice Am rs.length cm] 30
  have a2 := below_alloc1 (w.alloc (.cells #[txt p.name, .slice As p.states.length cs, .slice Am rs.length cm] 30)) (.cells #[txt p.name, .slice Bs p.states.length ds, .slice Bm rs.length dm] 30)
  have B2 := Blk.start (w.alloc (.cells #[txt p.name, .slice As p.states.length cs, .slice Am rs.length cm] 30)) #[txt p.name, .slice Bs p.states.length ds, .slice Bm rs.length dm] 30
  rw [World.size_alloc] at B2
  have S0 := Lib.hid (FitS.mk (B1.keep a2) B2 (a1.trans (a2.mono a1.size)))
  have HO := Lib.hid (And.intro hS (And.intro hT (And.intro hM (And.intro hN (And.intro hE (And.intro hF (And.intro hm (And.intro hn (And.intro hz (And.intro hml hle))))))))))
  clear ha hb hS hT hM hN hE hF hm hn hz hml hnl hle a1 a2 B1 B2
  go_enter Try.func8, Try.ntmps8
  go_upto_region 1 with fail
  generalize ((w.alloc (.cells #[txt p.name, .slice As p.states.length cs, .slice Am rs.length cm] 30)).alloc (.cells #[txt p.name, .slice Bs p.states.length ds, .slice Bm rs.length dm] 30)) = W at *
  have p0 := S0.out.p.cell 0
  have p1 := S0.out.p.cell 1
  have p2 := S0.out.p.cell 2
  have q0 := S0.out.m.cell 0
  have q1 := S0.out.m.cell 1
  have q2 := S0.out.m.cell 2
  simp only [List.getElem?_toArray, List.getElem?_cons_zero, List.getElem?_cons_succ] at p0 p1 p2 q0 q1 q2
  go_wp2_with fail
  go_loopg [5] p.states.length (fun g v5 wr => ∃ k : Nat, v5 = .int .i64 k ∧ k ≤ p.states.length ∧ g = p.states.length - k ∧ FitS w wr w.heap.size (w.heap.size + 1) #[txt p.name, .slice As p.states.length cs, .slice Am rs.length cm] #[txt p.name, .slice Bs p.states.length ds, .slice Bm rs.length dm])
  case atStart => exact ⟨0, rfl, Nat.zero_le _, rfl, S0.out⟩
  case round =>
    obtain ⟨k, rfl, hk, hg, hS⟩ := hrel
    have p1 := hS.p.cell 1
    have q1 := hS.m.cell 1
    simp only [List.getElem?_toArray, List.getElem?_cons_zero, List.getElem?_cons_succ] at p1 q1
    by_cases hkn : k = p.states.length
    · have j1 : decide (k < p.states.length) = false := decide_eq_false (by omega)
      have S1 := Lib.hid hS
      clear hk hg hS hkn p0 p2 q0 q2
      go_wp2_with fail
      generalize wr = w8 at *
      go_loopg [6] rs.length (fun g v6 wr => ∃ k : Nat, v6 = .int .i64 k ∧ k ≤ rs.length ∧ g = rs.length - k ∧ FitS w wr w.heap.size (w.heap.size + 1) #[txt p.name, .slice As p.states.length cs, .slice Am rs.length cm] #[txt p.name, .slice Bs p.states.length ds, .slice Bm rs.length dm])
      case atStart => exact ⟨0, rfl, Nat.zero_le _, rfl, S1.out⟩
      case round =>
        obtain ⟨k, rfl, hk, hg, hS⟩ := hrel
        have p2 := hS.p.cell 2
        have q2 := hS.m.cell 2
        simp only [List.getElem?_toArray, List.getElem?_cons_zero, List.getElem?_cons_succ] at p2 q2
        by_cases hkn : k = rs.length
        · have j2 : decide (k < rs.length) = false := decide_eq_false (by omega)
          have FIN := Lib.hid hS
          clear hk hg hS hkn
          go_wp2_with fail
          go_ret
          exact ⟨rfl, FIN.out.b⟩
        have hlt : k < rs.length := by omega
        obtain ⟨y, hy⟩ : ∃ y, rs[k]? = some y := ⟨_, List.getElem?_eq_getElem hlt⟩
        have hle := HO.out.2.2.2.2.2.2.2.2.2.2
        obtain ⟨z, hz⟩ : ∃ z, ss[k]? = some z := ⟨_, List.getElem?_eq_getElem (by omega)⟩
        have hmy := moves_at HO.out.2.2.2.2.2.2.1 hy
        have hmz := moves_at HO.out.2.2.2.2.2.2.2.1 hz
        have hyz : z.2 = y.2 := Option.some.inj (hmz.symm.trans hmy)
        have oy := (HO.out.2.2.2.2.1 y (List.mem_of_getElem? hy)).2
        have oz := (HO.out.2.2.2.2.2.1 z (List.mem_of_getElem? hz)).2
        obtain ⟨am, rfl, d0, d1, d2⟩ := sl_cell3 mvC_len HO.out.2.2.1 hS.b.drew hy (by omega)
        obtain ⟨bm, rfl, e0, e1, e2⟩ := sl_cell3 mvC_len HO.out.2.2.2.1 hS.b.drew hz (by omega)
        unfold mvC at d0 d1 d2 e0 e1 e2
        simp only [List.getElem?_cons_zero, List.getElem?_cons_succ] at d0 d1 d2 e0 e1 e2
        rw [hyz] at e0 e1 oz
        obtain ⟨Ax, cx, ex, _⟩ := oy.len
        obtain ⟨Ay, cy, ey, _⟩ := oz.len
        rw [ex] at d2 oy
        rw [ey] at e2 oz
        have RC := Lib.hid (fun (v : World) (hb : Below wr.heap.size wr v) => rsame_same v _ _ y.2.outs (oy.below (hS.b.trans (hb.mono hS.b.size))) (oz.below (hS.b.trans (hb.mono hS.b.size))) (HO.out.2.2.2.2.2.2.2.2.1.out y.2 (List.mem_of_getElem? hmy)))
        have p2 := hS.p.drew.cell 2
        have q2 := hS.m.drew.cell 2
        simp only [List.getElem?_toArray, List.getElem?_cons_zero, List.getElem?_cons_succ] at p2 q2
        have j2 : (k : Int) < (rs.length : Int) := by omega
        have j3 : (0 : Int) ≤ (k : Int) := by omega
        have wk : IntKind.i64.wrap ((k : Int) + 1) = (k : Int) + 1 := IntWalk.i64_in _ (by have := HO.out.2.2.2.2.2.2.2.2.1.mv; have := HO.out.2.2.2.2.2.2.2.2.2.1; omega)
        have HK := Lib.hid (And.intro hlt (And.intro hg hS))
        clear hkn hlt hk hg hy hz hmy hmz hyz oy oz ex ey hle
        have HK := Lib.hid (And.intro HK.out.1 (And.intro HK.out.2.1 (And.intro HK.out.2.2 trivial)))
        clear hS
        go_wp2_with fail
        have STB := Lib.hid (show Stab (fun v => (((((((v.cell? ⟨w.heap.size, 2, none⟩ = some (.slice (some am) rs.length cm) ∧ v.cell? ⟨w.heap.size + 1, 2, none⟩ = some (.slice (some bm) rs.length dm)) ∧ v.cell? (am.add (k * 3)) = some (txt y.2.op)) ∧ v.cell? ⟨(am.add (k * 3)).block, (am.add (k * 3)).off + 1, none⟩ = some (.int .i64 y.2.at_)) ∧ v.cell? ⟨(am.add (k * 3)).block, (am.add (k * 3)).off + 2, none⟩ = some (.slice Ax y.2.outs.length cx)) ∧ v.cell? (bm.add (k * 3)) = some (txt y.2.op)) ∧ v.cell? ⟨(bm.add (k * 3)).block, (bm.add (k * 3)).off + 1, none⟩ = some (.int .i64 y.2.at_)) ∧ v.cell? ⟨(bm.add (k * 3)).block, (bm.add (k * 3)).off + 2, none⟩ = some (.slice Ay y.2.outs.length cy)) ∧ Below wr.heap.size wr v) from stab_and (stab_and (stab_and (stab_and (stab_and (stab_and (stab_and (stab_and (stab_cell _ _) (stab_cell _ _)) (stab_cell _ _)) (stab_cell _ _)) (stab_cell _ _)) (stab_cell _ _)) (stab_cell _ _)) (stab_cell _ _)) (stab_below wr))
        have HS : (((((((wr.drew.cell? ⟨w.heap.size, 2, none⟩ = some (.slice (some am) rs.length cm) ∧ wr.drew.cell? ⟨w.heap.size + 1, 2, none⟩ = some (.slice (some bm) rs.length dm)) ∧ wr.drew.cell? (am.add (k * 3)) = some (txt y.2.op)) ∧ wr.drew.cell? ⟨(am.add (k * 3)).block, (am.add (k * 3)).off + 1, none⟩ = some (.int .i64 y.2.at_)) ∧ wr.drew.cell? ⟨(am.add (k * 3)).block, (am.add (k * 3)).off + 2, none⟩ = some (.slice Ax y.2.outs.length cx)) ∧ wr.drew.cell? (bm.add (k * 3)) = some (txt y.2.op)) ∧ wr.drew.cell? ⟨(bm.add (k * 3)).block, (bm.add (k * 3)).off + 1, none⟩ = some (.int .i64 y.2.at_)) ∧ wr.drew.cell? ⟨(bm.add (k * 3)).block, (bm.add (k * 3)).off + 2, none⟩ = some (.slice Ay y.2.outs.length cy)) ∧ Below wr.heap.size wr wr.drew := ⟨⟨⟨⟨⟨⟨⟨⟨p2, q2⟩, d0⟩, d1⟩, d2⟩, e0⟩, e1⟩, e2⟩, belowD wr⟩
        clear p2 q2 d0 d1 d2 e0 e1 e2
        refine wp_region_noPanic ?_
        refine wp_region_held_drew (S := (fun v => (((((((v.cell? ⟨w.heap.size, 2, none⟩ = some (.slice (some am) rs.length cm) ∧ v.cell? ⟨w.heap.size + 1, 2, none⟩ = some (.slice (some bm) rs.length dm)) ∧ v.cell? (am.add (k * 3)) = some (txt y.2.op)) ∧ v.cell? ⟨(am.add (k * 3)).block, (am.add (k * 3)).off + 1, none⟩ = some (.int .i64 y.2.at_)) ∧ v.cell? ⟨(am.add (k * 3)).block, (am.add (k * 3)).off + 2, none⟩ = some (.slice Ax y.2.outs.length cx)) ∧ v.cell? (bm.add (k * 3)) = some (txt y.2.op)) ∧ v.cell? ⟨(bm.add (k * 3)).block, (bm.add (k * 3)).off + 1, none⟩ = some (.int .i64 y.2.at_)) ∧ v.cell? ⟨(bm.add (k * 3)).block, (bm.add (k * 3)).off + 2, none⟩ = some (.slice Ay y.2.outs.length cy)) ∧ Below wr.heap.size wr v)) (by kernel_rfl) HS (fun hHeld => ?_)
        clear HS
        refine tkk 0 rfl ?_
        refine tkk 1 rfl ?_
        refine tkk 2 rfl ?_
        refine tkk 3 rfl ?_
        refine tkk 4 rfl ?_
        refine tkk 5 rfl ?_
        refine tkk 6 rfl ?_
        refine tkk 7 rfl ?_
        refine tkk 8 rfl ?_
        refine tkk 9 rfl ?_
        refine tkk 10 rfl ?_
        refine tkk 11 rfl ?_
        refine tkk 12 rfl ?_
        refine tkk 13 rfl ?_
        refine tkk 14 rfl ?_
        refine tkk 15 rfl ?_
        refine tkk 16 rfl ?_
        refine tkk 17 rfl ?_
        refine tkk 18 rfl ?_
        refine tkk 19 rfl ?_
        refine tkk 20 rfl ?_
        refine tkk 21 rfl ?_
        refine tkk 22 rfl ?_
        refine tkk 23 rfl ?_
        refine tkk 24 rfl ?_
        refine tkk 25 rfl ?_
        refine tkk 26 rfl ?_
        refine tkk 27 rfl ?_
        refine tkk 28 rfl ?_
        refine tkk 29 rfl ?_
        refine tkk 30 rfl ?_
        refine tkk 31 rfl ?_
        refine tkk 32 rfl ?_
        refine tkk 33 rfl ?_
        refine tkk 34 rfl ?_
        refine tkk 35 rfl ?_
        refine tkk 36 rfl ?_
        refine tkk 37 rfl ?_
        refine tkk 38 rfl ?_
        refine tkk 39 rfl ?_
        refine tkk 40 rfl ?_
        (try simp only [cl, Act.put])
        refine rd 41 rfl fun K hK => ?_
        go_simp
        (go_at_call 17; (refine (RC.out _ hHeld.2).mono ?_); rintro e w1 ⟨rfl, hb⟩; have H1 := Lib.hid (HK.out.2.2.1.keep (hHeld.2.trans (hb.mono hHeld.2.size))))
        go_wp2_with fail
        refine hK.out _ _ (STB.out _ _ hb (by with_reducible assumption)) (fun hH2 => ?_)
        clear hK K hHeld hb; have hHeld := hH2; clear hH2
        (try simp only [cl, Act.put])
        refine tkk 42 rfl ?_
        refine tkk 43 rfl ?_
        (try simp only [cl, Act.put])
        refine wpAnyH_done (by kernel_rfl) ?_ _
        refine NoPanic.normal ?_
        go_wp2_with fail
        go_roundg (rs.length - (k + 1))
        case measure => have := HK.out.1; have := HK.out.2.1; omega
        case rel => exact ⟨k + 1, by push_cast; rfl, HK.out.1, rfl, H1.out⟩
    · have hlt : k < p.states.length := by omega
      obtain ⟨x, hx⟩ : ∃ x, p.states[k]? = some x := ⟨_, List.getElem?_eq_getElem hlt⟩
      obtain ⟨ad, rfl, d0, d1⟩ := sl_cell2 stC_len HO.out.1 hS.b hx (by omega)
      obtain ⟨bd, rfl, e0, e1⟩ := sl_cell2 stC_len HO.out.2.1 hS.b hx (by omega)
      unfold stC at d0 d1 e0 e1
      simp only [List.getElem?_cons_zero, List.getElem?_cons_succ] at d0 d1 e0 e1
      have j1 : (k : Int) < (p.states.length : Int) := by omega
      have j2 : (0 : Int) ≤ (k : Int) := by omega
      have wk : IntKind.i64.wrap ((k : Int) + 1) = (k : Int) + 1 := IntWalk.i64_in _ (by have := HO.out.2.2.2.2.2.2.2.2.1.st; omega)
      have HK := Lib.hid (And.intro hlt (And.intro hg hS))
      clear hkn hlt hk hg hx p0 p2 q0 q2 hS
      go_wp2_with fail
      go_quiet (fail)
      go_wp2_with fail
      go_roundg (p.states.length - (k + 1))
      case measure => have := HK.out.1; have := HK.out.2.1; omega
      case rel => exact ⟨k + 1, by push_cast; rfl, HK.out.1, rfl, HK.out.2.2.keep (below_drewN _ _)⟩
end Go.Proofs.Ytbfgeiimjmhhdaa
