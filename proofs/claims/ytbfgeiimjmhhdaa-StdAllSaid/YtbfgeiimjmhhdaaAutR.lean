/-
  The walks of the reference's in, fit and again. (Template: by-name.py fills it.)
-/
import Derived.Test.YtbfgeiimjmhhdaaAutQ
namespace Go.Proofs.Ytbfgeiimjmhhdaa
open Go.RowKit

set_option maxHeartbeats 2000000 in
theorem rin_any (w : World) (As : Option Addr) (cs : Nat) (vm : Value) (nm : List UInt8) (n : Nat) (z : Int) :
    Calls Try.prog 22 #[.agg #[txt nm, .slice As n cs, vm], .int .i64 z] w fun e w' => e = .returned (.bool (!noneB n z)) ∧ Below w.heap.size w w' := by
  have a1 := below_alloc1 w (.cells #[txt nm, .slice As n cs, vm] 30)
  have B1 := Blk.start w #[txt nm, .slice As n cs, vm] 30
  have c1 := B1.cell 1
  simp only [List.getElem?_toArray, List.getElem?_cons_zero, List.getElem?_cons_succ] at c1
  have HA := Lib.hid a1
  unfold noneB
  clear a1 B1
  by_cases q : 0 ≤ z
  · have q2 : decide (z < 0) = false := decide_eq_false (by omega)
    rw [q2]
    clear q2
    by_cases q3 : z < (n : Int)
    · rw [decide_eq_false (by omega : ¬ (n : Int) ≤ z)]
      go_enter Try.func22, Try.ntmps22
      go_wp2_with fail
      go_ret
      exact ⟨rfl, HA.out⟩
    · rw [decide_eq_true (by omega : (n : Int) ≤ z)]
      have q4 : decide (z < (n : Int)) = false := decide_eq_false q3
      clear q3
      go_enter Try.func22, Try.ntmps22
      go_wp2_with fail
      go_ret
      exact ⟨rfl, HA.out⟩
  · rw [decide_eq_true (by omega : z < 0)]
    have q4 : decide (0 ≤ z) = false := decide_eq_false q
    clear q
    go_enter Try.func22, Try.ntmps22
    go_wp2_with fail
    go_ret
    exact ⟨rfl, HA.out⟩
/-- What fit keeps. -/
structure FitS (w0 w : World) (b1 b2 : Nat) (cs1 cs2 : Array Value) : Prop where
  p : Blk w b1 cs1
  m : Blk w b2 cs2
  b : Below w0.heap.size w0 w
theorem FitS.keep {w0 w w' : World} {b1 b2 : Nat} {cs1 cs2 : Array Value} (h : FitS w0 w b1 b2 cs1 cs2) (hb : Below w.heap.size w w') : FitS w0 w' b1 b2 cs1 cs2 := ⟨h.p.keep hb, h.m.keep hb, h.b.trans (hb.mono h.b.size)⟩
set_option maxRecDepth 10000 in
set_option maxHeartbeats 8000000 in
theorem rfit_any (w : World) (As : Option Addr) (cs : Nat) (vm vo : Value) (nm : List UInt8) (n : Nat) (m : Mov) (ho : OutsAt w vo m.outs) (hl : m.outs.length ≤ 80) (hvm : ∃ A k c, vm = .slice A k c) :
    Calls Try.prog 14 #[.agg #[txt nm, .slice As n cs, vm], .agg #[txt m.op, .int .i64 m.at_, vo]] w fun e w' => e = .returned (.bool (!astrayB n m)) ∧ Below w.heap.size w w' := by
  obtain ⟨op, z, outs⟩ := m
  obtain ⟨Am, km, cm, rfl⟩ := hvm
  obtain ⟨Ao, co, rfl, ho1, ho2, hO, _⟩ := ho
  dsimp only at hl hO ⊢
  have a1 := below_alloc1 w (.cells #[txt nm, .slice As n cs, .slice Am km cm] 30)
  have B1 := Blk.start w #[txt nm, .slice As n cs, .slice Am km cm] 30
  have a2 := below_alloc1 (w.alloc (.cells #[txt nm, .slice As n cs, .slice Am km cm] 30)) (.cells #[txt op, .int .i64 z, .slice Ao outs.length co] 38)
  have B2 := Blk.start (w.alloc (.cells #[txt nm, .slice As n cs, .slice Am km cm] 30)) #[txt op, .int .i64 z, .slice Ao outs.length co] 38
  rw [World.size_alloc] at B2
  have S0 := Lib.hid (FitS.mk (B1.keep a2) B2 (a1.trans (a2.mono a1.size)))
  have RI := Lib.hid (fun (v : World) (z : Int) => rin_any v As cs (.slice Am km cm) nm n z)
  have HO := Lib.hid (And.intro hO hl)
  have ev : astrayB n ⟨op, z, outs⟩ = (noneB n z || decide (outs.length = 0) || outs.any fun o => noneB n o.to) := rfl
  have HV := Lib.hid ev
  generalize astrayB n ⟨op, z, outs⟩ = R at *
  clear a1 B1 a2 B2 ho1 ho2 hO hl ev
  go_enter Try.func14, Try.ntmps14
  go_upto_region 1 with fail
  generalize ((w.alloc (.cells #[txt nm, .slice As n cs, .slice Am km cm] 30)).alloc (.cells #[txt op, .int .i64 z, .slice Ao outs.length co] 38)) = W at *
  go_wp2_with fail
  go_loopg [5] outs.length (fun g v5 wr => ∃ k : Nat, v5 = .int .i64 k ∧ k ≤ outs.length ∧ g = outs.length - k ∧ (∀ i o, i < k → outs[i]? = some o → noneB n o.to = false) ∧ FitS w wr w.heap.size (w.heap.size + 1) #[txt nm, .slice As n cs, .slice Am km cm] #[txt op, .int .i64 z, .slice Ao outs.length co])
  case atStart => exact ⟨0, rfl, Nat.zero_le _, rfl, fun i o hi _ => absurd hi (Nat.not_lt_zero _), S0.out⟩
  case round =>
    obtain ⟨k, rfl, hk, hg, hall, hS⟩ := hrel
    have p0 := hS.p.cell 0
    have p1 := hS.p.cell 1
    have p2 := hS.p.cell 2
    have m1 := hS.m.cell 1
    have m2 := hS.m.cell 2
    simp only [List.getElem?_toArray, List.getElem?_cons_zero, List.getElem?_cons_succ] at p0 p1 p2 m1 m2
    by_cases hkn : k = outs.length
    · have hany : (outs.any fun o => noneB n o.to) = false := List.any_eq_false.mpr fun o ho => by
        obtain ⟨i, hi⟩ := List.mem_iff_getElem?.1 ho
        have hl := (List.getElem?_eq_some_iff.1 hi).1
        rw [hall i o (by omega) hi]; decide
      have i1 : decide (k < outs.length) = false := decide_eq_false (by omega)
      have FIN := Lib.hid (And.intro hany hS)
      clear hk hg hall hS hany hkn
      have RY := Lib.hid (fun (v : World) => RI.out v z)
      generalize hB : noneB n z = B at *
      have HB := Lib.hid hB
      clear hB
      cases B
      · by_cases q : outs.length = 0
        · have t1 : decide (0 < outs.length) = false := decide_eq_false (by omega)
          have HQ := Lib.hid q
          clear q
          go_wp2_with (go_at_call 22; (refine (RY.out _).mono ?_); rintro e w1 ⟨rfl, hb⟩; have H1 := Lib.hid (FIN.out.2.keep hb); have m3 := H1.out.m.cell 2; simp only [List.getElem?_toArray, List.getElem?_cons_zero, List.getElem?_cons_succ] at m3; clear hb)
          go_ret
          exact ⟨by rw [HV.out, decide_eq_true HQ.out]; rfl, H1.out.b⟩
        · have t1 : decide (0 < outs.length) = true := decide_eq_true (by omega)
          have HQ := Lib.hid q
          clear q
          go_wp2_with (go_at_call 22; (refine (RY.out _).mono ?_); rintro e w1 ⟨rfl, hb⟩; have H1 := Lib.hid (FIN.out.2.keep hb); have m3 := H1.out.m.cell 2; simp only [List.getElem?_toArray, List.getElem?_cons_zero, List.getElem?_cons_succ] at m3; clear hb)
          go_ret
          exact ⟨by rw [HV.out, decide_eq_false HQ.out, FIN.out.1]; rfl, H1.out.b⟩
      · go_wp2_with (go_at_call 22; (refine (RY.out _).mono ?_); rintro e w1 ⟨rfl, hb⟩; have H1 := Lib.hid (FIN.out.2.keep hb); have m3 := H1.out.m.cell 2; simp only [List.getElem?_toArray, List.getElem?_cons_zero, List.getElem?_cons_succ] at m3; clear hb)
        go_ret
        exact ⟨by rw [HV.out]; rfl, H1.out.b⟩
    · have hlt : k < outs.length := by omega
      obtain ⟨x, hx⟩ : ∃ x, outs[k]? = some x := ⟨_, List.getElem?_eq_getElem hlt⟩
      obtain ⟨ad, rfl, d0, d1⟩ := sl_cell2 ouC_len HO.out.1 hS.b hx (by omega)
      unfold ouC at d1
      simp only [List.getElem?_cons_zero, List.getElem?_cons_succ] at d1
      have i1 : (k : Int) < (outs.length : Int) := by omega
      have i2 : (0 : Int) ≤ (k : Int) := by omega
      have wk : IntKind.i64.wrap ((k : Int) + 1) = (k : Int) + 1 := IntWalk.i64_in _ (by have := HO.out.2; omega)
      have RY := Lib.hid (fun (v : World) => RI.out v x.to)
      have bd := fun (v : World) (hb : Below wr.heap.size wr v) => keep_any hb d1
      have K1 := Lib.hid bd
      have HK := Lib.hid (And.intro hlt (And.intro hg (And.intro hall (And.intro hS hx))))
      clear hkn hlt hk hg hall hS hx d0 bd
      generalize hB : noneB n x.to = B at *
      have HB := Lib.hid hB
      clear hB
      cases B
      all_goals
        go_upto_region 4 with fail
        have p0 := HK.out.2.2.2.1.p.drew.cell 0
        have p1 := HK.out.2.2.2.1.p.drew.cell 1
        have p2 := HK.out.2.2.2.1.p.drew.cell 2
        have m2 := HK.out.2.2.2.1.m.drew.cell 2
        simp only [List.getElem?_toArray, List.getElem?_cons_zero, List.getElem?_cons_succ] at p0 p1 p2 m2
        have d1 := K1.out wr.drew (belowD wr)
        go_region_with (go_at_call 22; (refine (RY.out _).mono ?_); rintro e w1 ⟨rfl, hb⟩; have H1 := Lib.hid (HK.out.2.2.2.1.keep ((belowD wr).trans hb)); clear hb)
      all_goals
        go_wp2_with fail
        first
          | (go_ret; exact ⟨by rw [HV.out, show (outs.any fun o => noneB n o.to) = true from List.any_eq_true.mpr ⟨x, List.mem_of_getElem? HK.out.2.2.2.2, HB.out⟩, Bool.or_true]; rfl, H1.out.b⟩)
          | (go_roundg (outs.length - (k + 1))
             case measure => have := HK.out.1; have := HK.out.2.1; omega
             case rel => exact ⟨k + 1, by push_cast; rfl, HK.out.1, rfl, fun i o hi ho => by
                by_cases e : i = k
                · subst e; rw [HK.out.2.2.2.2] at ho; obtain rfl := Option.some.inj ho; exact HB.out
                · exact HK.out.2.2.1 i o (by omega) ho, H1.out⟩)
end Go.Proofs.Ytbfgeiimjmhhdaa
