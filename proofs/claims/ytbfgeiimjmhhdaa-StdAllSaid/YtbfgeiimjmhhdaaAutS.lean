/-
  The walk of the reference's again. (Template: by-name.py fills it.)
-/
import Derived.Test.YtbfgeiimjmhhdaaAutR
namespace Go.Proofs.Ytbfgeiimjmhhdaa
open Go.RowKit

theorem below_drewN (w : World) (n : Nat) : Below w.heap.size w (w.drewN n) := ⟨rfl, rfl, rfl, Nat.le_refl _, fun _ _ => rfl⟩
theorem dupO_hit {os : List Ou} {i k : Nat} {x y : Ou} (hx : os[i]? = some x) (hy : os[k]? = some y) (hk : k < i) (e : y.name = x.name) : anyDup os = true := by
  refine List.any_eq_true.mpr ⟨i, List.mem_range.mpr (List.getElem?_eq_some_iff.1 hx).1, ?_⟩
  unfold dupO
  rw [hx]
  exact List.contains_iff_mem.mpr (List.mem_map.2 ⟨y, List.mem_of_getElem? (i := k) (by rw [List.getElem?_take_of_lt hk]; exact hy), e⟩)
theorem dupO_none {os : List Ou} {i : Nat} {x : Ou} (hx : os[i]? = some x) (h : ∀ k y, k < i → os[k]? = some y → y.name ≠ x.name) : dupO os i = false := by
  unfold dupO
  rw [hx]
  cases q : ((os.take i).map (·.name)).contains x.name with
  | false => exact q
  | true =>
    obtain ⟨y, hy, e⟩ := List.mem_map.1 (List.contains_iff_mem.mp q)
    obtain ⟨k, hk⟩ := List.mem_iff_getElem?.1 hy
    have hl := (List.getElem?_eq_some_iff.1 hk).1
    rw [List.length_take] at hl
    rw [List.getElem?_take_of_lt (by omega)] at hk
    exact absurd e (h k y (by omega) hk)
set_option maxRecDepth 10000 in
set_option maxHeartbeats 8000000 in
theorem ragain_any (w : World) (As : Option Addr) (cs : Nat) (vm : Value) (nm : List UInt8) (n : Nat) (ms : List Mov) (hM : MovesAt w vm ms) (a : Nat) (m : Mov) (hm : ms[a]? = some m) (hl : ms.length ≤ 80) (ho : m.outs.length ≤ 80) :
    Calls Try.prog 15 #[.agg #[txt nm, .slice As n cs, vm], .int .i64 (a : Int)] w fun e w' => e = .returned (.bool (dupM ms a)) ∧ Below w.heap.size w w' := by
  obtain ⟨rs, hr, Am, cm, rfl, _, _, hR, hE⟩ := hM
  have hlt := (List.getElem?_eq_some_iff.1 hm).1
  have hrl := moves_len hr
  obtain ⟨y, hy⟩ : ∃ y, rs[a]? = some y := ⟨_, List.getElem?_eq_getElem (by omega)⟩
  have hym : y.2 = m := Option.some.inj ((moves_at hr hy).symm.trans hm)
  have hO := (hE y (List.mem_of_getElem? hy)).2
  obtain ⟨vo, m'⟩ := y
  dsimp only at hym hO
  subst hym
  obtain ⟨op, z, outs⟩ := m'
  dsimp only at hO ho
  obtain ⟨Ao, co, rfl, ho1, ho2, hO, _⟩ := hO
  have ev : dupM ms a = ((((ms.take a).map fun m => ((m.op, m.at_) : Stt)).contains (op, z)) || anyDup outs) := by unfold dupM; rw [hm]
  have HV := Lib.hid ev
  generalize dupM ms a = R at *
  have a1 := below_alloc1 w (.cells #[txt nm, .slice As n cs, .slice Am rs.length cm] 30)
  have B1 := Blk.start w #[txt nm, .slice As n cs, .slice Am rs.length cm] 30
  obtain ⟨ad, rfl, d0, d1, d2⟩ := sl_cell3 mvC_len hR a1 hy (by omega)
  unfold mvC at d0 d1 d2
  simp only [List.getElem?_cons_zero, List.getElem?_cons_succ] at d0 d1 d2
  have a2 := below_alloc1 (w.alloc (.cells #[txt nm, .slice As n cs, .slice (some ad) rs.length cm] 30)) (.cells #[txt op, .int .i64 z, .slice Ao outs.length co] 38)
  have B2 := Blk.start (w.alloc (.cells #[txt nm, .slice As n cs, .slice (some ad) rs.length cm] 30)) #[txt op, .int .i64 z, .slice Ao outs.length co] 38
  rw [World.size_alloc] at B2
  have S0 := Lib.hid (FitS.mk (B1.keep a2) B2 (a1.trans (a2.mono a1.size)))
  have HO := Lib.hid (And.intro hO (And.intro ho (And.intro hR (And.intro hr (And.intro hE (And.intro hl hlt))))))
  have i1 : (a : Int) < (rs.length : Int) := by omega
  have i2 : (0 : Int) ≤ (a : Int) := by omega
  clear a1 B1 a2 B2 ho1 ho2 hO hl ho ev hR hr hE hy hm hlt hrl
  go_enter Try.func15, Try.ntmps15
  go_upto_region 2 with fail
  generalize ((w.alloc (.cells #[txt nm, .slice As n cs, .slice (some ad) rs.length cm] 30)).alloc (.cells #[txt op, .int .i64 z, .slice Ao outs.length co] 38)) = W at *
  clear i1 d0 d1 d2
  go_wp2_with fail
  go_loopg [6] a (fun g v6 wr => ∃ k : Nat, v6 = .int .i64 k ∧ k ≤ a ∧ g = a - k ∧ (∀ i x, i < k → ms[i]? = some x → ¬ (x.op = op ∧ x.at_ = z)) ∧ FitS w wr w.heap.size (w.heap.size + 1) #[txt nm, .slice As n cs, .slice (some ad) rs.length cm] #[txt op, .int .i64 z, .slice Ao outs.length co])
  case atStart => exact ⟨0, rfl, Nat.zero_le _, rfl, fun i o hi _ => absurd hi (Nat.not_lt_zero _), S0.out⟩
  case round =>
    obtain ⟨k, rfl, hk, hg, hall, hS⟩ := hrel
    by_cases hkn : k = a
    · have hno : (((ms.take a).map fun m => ((m.op, m.at_) : Stt)).contains (op, z)) = false := by
        cases q : (((ms.take a).map fun m => ((m.op, m.at_) : Stt)).contains (op, z)) with
        | false => rfl
        | true =>
          obtain ⟨y, hy, e⟩ := List.mem_map.1 (List.contains_iff_mem.mp q)
          obtain ⟨i, hi⟩ := List.mem_iff_getElem?.1 hy
          have hl := (List.getElem?_eq_some_iff.1 hi).1
          rw [List.length_take] at hl
          rw [List.getElem?_take_of_lt (by omega)] at hi
          injection e with e1 e2
          exact absurd ⟨e1, e2⟩ (hall i y (by omega) hi)
      have i3 : decide (k < a) = false := decide_eq_false (by omega)
      have H1 := Lib.hid (And.intro hno hS)
      clear hk hg hall hS hkn hno
      generalize wr = w8 at *
      go_wp2_with fail
      go_loopg [7] outs.length (fun g v7 wr => ∃ i : Nat, v7 = .int .i64 i ∧ i ≤ outs.length ∧ g = outs.length - i ∧ (∀ i', i' < i → dupO outs i' = false) ∧ FitS w wr w.heap.size (w.heap.size + 1) #[txt nm, .slice As n cs, .slice (some ad) rs.length cm] #[txt op, .int .i64 z, .slice Ao outs.length co])
      case atStart => exact ⟨0, rfl, Nat.zero_le _, rfl, fun i hi => absurd hi (Nat.not_lt_zero _), H1.out.2⟩
      case round =>
        obtain ⟨i, rfl, hi, hg, hall, hS⟩ := hrel
        have m2 := hS.m.cell 2
        simp only [List.getElem?_toArray, List.getElem?_cons_zero, List.getElem?_cons_succ] at m2
        by_cases hin : i = outs.length
        · have hno : anyDup outs = false := List.any_eq_false.mpr fun j hj => by rw [hall j (by have := List.mem_range.mp hj; omega)]; decide
          have i4 : decide (i < outs.length) = false := decide_eq_false (by omega)
          have FIN := Lib.hid (And.intro hno hS)
          clear hi hg hall hS hin hno
          go_wp2_with fail
          go_ret
          exact ⟨by rw [HV.out, H1.out.1, FIN.out.1]; rfl, FIN.out.2.b⟩
        · have hlt : i < outs.length := by omega
          obtain ⟨x, hx⟩ : ∃ x, outs[i]? = some x := ⟨_, List.getElem?_eq_getElem hlt⟩
          have i4 : (i : Int) < (outs.length : Int) := by omega
          have i5 : (0 : Int) ≤ (i : Int) := by omega
          have wi : IntKind.i64.wrap ((i : Int) + 1) = (i : Int) + 1 := IntWalk.i64_in _ (by have := HO.out.2.1; omega)
          have HI := Lib.hid (And.intro hlt (And.intro hg (And.intro hall (And.intro hS hx))))
          clear hin hlt hi hg hall hS hx
          go_wp2_with fail
          generalize wr = w9 at *
          go_loopg [8] i (fun g v8 wr => ∃ k : Nat, v8 = .int .i64 k ∧ k ≤ i ∧ g = i - k ∧ (∀ k' y, k' < k → outs[k']? = some y → y.name ≠ x.name) ∧ FitS w wr w.heap.size (w.heap.size + 1) #[txt nm, .slice As n cs, .slice (some ad) rs.length cm] #[txt op, .int .i64 z, .slice Ao outs.length co])
          case atStart => exact ⟨0, rfl, Nat.zero_le _, rfl, fun k y hk _ => absurd hk (Nat.not_lt_zero _), HI.out.2.2.2.1⟩
          case round =>
            obtain ⟨k, rfl, hk, hg, hall, hS⟩ := hrel
            by_cases hki : k = i
            · have i6 : decide (k < i) = false := decide_eq_false (by omega)
              have NX := Lib.hid (And.intro (dupO_none HI.out.2.2.2.2 (by rw [← hki]; exact hall)) hS)
              clear hk hg hall hS hki
              go_wp2_with fail
              go_roundg (outs.length - (i + 1))
              case measure => have := HI.out.1; have := HI.out.2.1; omega
              case rel => exact ⟨i + 1, by push_cast; rfl, HI.out.1, rfl, fun j hj => by
                by_cases e : j = i
                · rw [e]; exact NX.out.1
                · exact HI.out.2.2.1 j (by omega), NX.out.2⟩
            · have hlt : k < i := by omega
              have hil := HI.out.1
              obtain ⟨y, hy⟩ : ∃ y, outs[k]? = some y := ⟨_, List.getElem?_eq_getElem (by omega)⟩
              obtain ⟨ao, ea, d0, _⟩ := sl_cell2 ouC_len HO.out.1 hS.b HI.out.2.2.2.2 (by omega)
              obtain ⟨ao', ea', d1, _⟩ := sl_cell2 ouC_len HO.out.1 hS.b hy (by omega)
              rw [ea] at ea'
              obtain rfl := Option.some.inj ea'
              subst ea
              unfold ouC at d0 d1
              simp only [List.getElem?_cons_zero] at d0 d1
              have m3 := hS.m.cell 2
              simp only [List.getElem?_toArray, List.getElem?_cons_zero, List.getElem?_cons_succ] at m3
              have i6 : (k : Int) < (i : Int) := by omega
              have i7 : (0 : Int) ≤ (k : Int) := by omega
              have i8 : (k : Int) < (outs.length : Int) := by omega
              have wk : IntKind.i64.wrap ((k : Int) + 1) = (k : Int) + 1 := IntWalk.i64_in _ (by have := HO.out.2.1; omega)
              have HK := Lib.hid (And.intro hlt (And.intro hg (And.intro hall (And.intro hS hy))))
              clear hki hlt hk hg hall hS hy hil
              by_cases q1 : y.name = x.name
              · rw [q1] at d1
                have HQ1 := Lib.hid q1
                clear q1
                go_wp2_with fail
                go_quiet (fail)
                go_wp2_with fail
                go_ret
                exact ⟨by rw [HV.out, dupO_hit HI.out.2.2.2.2 HK.out.2.2.2.2 HK.out.1 HQ1.out, Bool.or_true]; rfl, HK.out.2.2.2.1.b.trans ((below_drewN _ _).mono HK.out.2.2.2.1.b.size)⟩
              · have t1 : (x.name == y.name) = false := beq_eq_false_iff_ne.mpr (fun e => q1 e.symm)
                have HQ1 := Lib.hid q1
                clear q1
                go_wp2_with fail
                go_quiet (fail)
                go_wp2_with fail
                go_roundg (i - (k + 1))
                case measure => have := HK.out.1; have := HK.out.2.1; omega
                case rel => exact ⟨k + 1, by push_cast; rfl, HK.out.1, rfl, fun j u hj hu => by
                    by_cases e : j = k
                    · subst e; rw [HK.out.2.2.2.2] at hu; obtain rfl := Option.some.inj hu; exact HQ1.out
                    · exact HK.out.2.2.1 j u (by omega) hu, HK.out.2.2.2.1.keep (below_drewN _ _)⟩
    · have hlt : k < a := by omega
      have hal := HO.out.2.2.2.2.2.2
      have hrl := moves_len HO.out.2.2.2.1
      obtain ⟨x, hx⟩ : ∃ x, rs[k]? = some x := ⟨_, List.getElem?_eq_getElem (by omega)⟩
      obtain ⟨ad2, e2, d0, d1, _⟩ := sl_cell3 mvC_len HO.out.2.2.1 hS.b hx (by omega)
      obtain rfl := Option.some.inj e2
      unfold mvC at d0 d1
      simp only [List.getElem?_cons_zero, List.getElem?_cons_succ] at d0 d1
      have p2 := hS.p.cell 2
      have m0 := hS.m.cell 0
      have m1 := hS.m.cell 1
      simp only [List.getElem?_toArray, List.getElem?_cons_zero, List.getElem?_cons_succ] at p2 m0 m1
      have i1 : (k : Int) < (a : Int) := by omega
      have i2 : (0 : Int) ≤ (k : Int) := by omega
      have i3 : (k : Int) < (rs.length : Int) := by omega
      have wk : IntKind.i64.wrap ((k : Int) + 1) = (k : Int) + 1 := IntWalk.i64_in _ (by have := HO.out; omega)
      have HK := Lib.hid (And.intro hlt (And.intro hg (And.intro hall (And.intro hS hx))))
      clear hkn hlt hk hg hall hS hx hal hrl
      by_cases q1 : x.2.op = op
      · rw [q1] at d0
        have HQ1 := Lib.hid q1
        clear q1
        by_cases q2 : x.2.at_ = z
        · rw [q2] at d1
          have HQ2 := Lib.hid q2
          clear q2
          go_wp2_with fail
          go_quiet (fail)
          go_wp2_with fail
          go_ret
          refine ⟨?_, HK.out.2.2.2.1.b.trans ((below_drewN _ _).mono HK.out.2.2.2.1.b.size)⟩
          rw [HV.out, show (((ms.take a).map fun m => ((m.op, m.at_) : Stt)).contains (op, z)) = true from List.contains_iff_mem.mpr (List.mem_map.2 ⟨x.2, List.mem_of_getElem? (i := k) (by rw [List.getElem?_take_of_lt HK.out.1]; exact moves_at HO.out.2.2.2.1 HK.out.2.2.2.2), by rw [HQ1.out, HQ2.out]⟩)]
          rfl
        · have t1 : (x.2.at_ == z) = false := beq_eq_false_iff_ne.mpr q2
          have HQ2 := Lib.hid q2
          clear q2
          go_wp2_with fail
          go_quiet (fail)
          go_wp2_with fail
          go_roundg (a - (k + 1))
          case measure => have := HK.out.1; have := HK.out.2.1; omega
          case rel => exact ⟨k + 1, by push_cast; rfl, HK.out.1, rfl, fun i y hi hy => by
              by_cases e : i = k
              · subst e; rw [moves_at HO.out.2.2.2.1 HK.out.2.2.2.2] at hy; obtain rfl := Option.some.inj hy; exact fun h => HQ2.out h.2
              · exact HK.out.2.2.1 i y (by omega) hy, HK.out.2.2.2.1.keep (below_drewN _ _)⟩
      · have t1 : (x.2.op == op) = false := beq_eq_false_iff_ne.mpr q1
        have HQ1 := Lib.hid q1
        clear q1
        go_wp2_with fail
        go_quiet (fail)
        go_wp2_with fail
        go_roundg (a - (k + 1))
        case measure => have := HK.out.1; have := HK.out.2.1; omega
        case rel => exact ⟨k + 1, by push_cast; rfl, HK.out.1, rfl, fun i y hi hy => by
            by_cases e : i = k
            · subst e; rw [moves_at HO.out.2.2.2.1 HK.out.2.2.2.2] at hy; obtain rfl := Option.some.inj hy; exact fun h => HQ1.out h.1
            · exact HK.out.2.2.1 i y (by omega) hy, HK.out.2.2.2.1.keep (below_drewN _ _)⟩
end Go.Proofs.Ytbfgeiimjmhhdaa
