/-
  The walk of BoundSpan. (Template: by-name.py fills it.)
-/
import Derived.Test.YtkinbbhbencipaaJSpnA
import Derived.Laws.StructEq
import Derived.RegionTactic
import Derived.Test.YtkinbbhbencipaaJBndU
import Derived.Test.YtkinbbhbencipaaJNumQ
namespace Go.Proofs.Ytkinbbhbencipaa
open Go.RowKit

def opOf (p : Bool) : Int := if p then 2 else 1
/-- What stands in memory: the flags, the conditions. -/
structure SpS (w wr : World) (b5 b7 : Nat) (p q : Bool) (x y : Int) : Prop where
  f : Blk wr b5 #[.bool p, .bool q]
  o : Blk wr b7 #[.int .i64 x, .int .i64 y]
  ne : b7 ≠ b5
  ge : w.heap.size ≤ b7
  below : Below w.heap.size w wr
theorem SpS.keep {w wr w2 : World} {b5 b7 : Nat} {p q : Bool} {x y : Int} (h : SpS w wr b5 b7 p q x y) (hb : Below wr.heap.size wr w2) : SpS w w2 b5 b7 p q x y :=
  ⟨h.f.keep hb, h.o.keep hb, h.ne, h.ge, h.below.trans (hb.mono h.below.size)⟩
theorem SpS.put0 {w wr : World} {b5 b7 : Nat} {p q : Bool} {x y : Int} (h : SpS w wr b5 b7 p q x y) (z : Int) : SpS w (wr.setCell ⟨b7, 0, none⟩ (.int .i64 z)) b5 b7 p q z y :=
  ⟨h.f.other (p := ⟨b7, 0, none⟩) h.ne _, by have := h.o.set 0 (.int .i64 z); simpa using this, h.ne, h.ge, h.below.setCell (p := ⟨b7, 0, none⟩) h.ge _⟩
theorem SpS.put1 {w wr : World} {b5 b7 : Nat} {p q : Bool} {x y : Int} (h : SpS w wr b5 b7 p q x y) (z : Int) : SpS w (wr.setCell ⟨b7, 1, none⟩ (.int .i64 z)) b5 b7 p q x z :=
  ⟨h.f.other (p := ⟨b7, 1, none⟩) h.ne _, by have := h.o.set 1 (.int .i64 z); simpa using this, h.ne, h.ge, h.below.setCell (p := ⟨b7, 1, none⟩) h.ge _⟩
/-- The conditions behind i rounds. -/
def opsK (p q : Bool) (i : Nat) : Int × Int := (if 1 ≤ i then opOf p else 1, if 2 ≤ i then opOf q else 1)

theorem span_world (w : World) (x y a b : Int) : ∃ W, W = ((w.alloc (.cells #[.int .i64 1, .int .i64 1] 25)).alloc (.cells #[.int .i64 (-1), .int .i64 1] 25)).alloc (.cells #[.int .i64 x, .slice (some ⟨w.heap.size, 0, none⟩) 1 1, .int .i64 (-a), .int .i64 1, .int .i64 y, .slice (some ⟨w.heap.size + 1, 0, none⟩) 1 1, .int .i64 b, .int .i64 1] 29) ∧
    RowsAt W (.slice (some ⟨w.heap.size + 1 + 1, 0, none⟩) 2 2) (spanR x y (-a) b) ∧ Below w.heap.size w W := by
  refine ⟨_, rfl, ?_, ?_⟩
  · refine rows_block (rs := [(.slice (some ⟨w.heap.size, 0, none⟩) 1 1, (x, [(1, 1)], (-a, 1))), (.slice (some ⟨w.heap.size + 1, 0, none⟩) 1 1, (y, [(-1, 1)], (b, 1)))]) (new_at (by simp)) rfl rfl (by decide) rfl (fun z hz => ?_)
    simp only [List.mem_cons, List.not_mem_nil, or_false] at hz
    rcases hz with rfl | rfl
    · exact rats_block (l := [(1, 1)]) (old_at (old_at (new_at (by simp)))) rfl (by decide)
    · exact rats_block (l := [(-1, 1)]) (old_at (new_at (by simp))) rfl (by decide)
  · exact (((Below.refl _ w).alloc (Nat.le_refl _) _).alloc (by simp) _).alloc (by simp; omega) _
theorem span_wide {x y a b : Int} (hx : x = 1 ∨ x = 2) (hy : y = 1 ∨ y = 2) (a1 : -40000 ≤ a) (a2 : a ≤ 40000) (b1 : -40000 ≤ b) (b2 : b ≤ 40000) : ∀ r ∈ spanR x y a b, RWide r := fun r hr => by
  unfold spanR at hr
  simp only [List.mem_cons, List.not_mem_nil, or_false] at hr
  rcases hr with rfl | rfl
  · exact ⟨fun z hz => by rw [List.mem_singleton] at hz; subst hz; decide, (okR_int (by omega) (by omega)).wide, by show -9223372036854775808 ≤ x ∧ x ≤ 9223372036854775807; omega⟩
  · exact ⟨fun z hz => by rw [List.mem_singleton] at hz; subst hz; decide, (okR_int (by omega) (by omega)).wide, by show -9223372036854775808 ≤ y ∧ y ≤ 9223372036854775807; omega⟩

theorem rat_eql (w : World) (a b : Int) : (binOp .eql 25 (.agg #[.int .i64 a, .int .i64 b]) (.agg #[.int .i64 a, .int .i64 b])).run Try.prog w = .ok (.bool true) w := by
  rw [run_eql_struct, show (10000 : Nat) = 9999 + 1 from rfl, run_equalIn_agg w 9999 _ _ _ (by kernel_rfl) (by kernel_rfl)]
  have h64 : Try.prog.underlying 2 = some (.int .i64) := by kernel_rfl
  have hl : ∃ f g, (Try.prog.fieldsOf 25).toList = [f, g] ∧ f.name = "N" ∧ f.type = 2 ∧ f.offset = 0 ∧ g.name = "D" ∧ g.type = 2 ∧ g.offset = 1 := ⟨(Try.prog.fieldsOf 25)[0]!, (Try.prog.fieldsOf 25)[1]!, by kernel_rfl, by kernel_rfl, by kernel_rfl, by kernel_rfl, by kernel_rfl, by kernel_rfl, by kernel_rfl⟩
  obtain ⟨f, g, hl, f1, f2, f3, g1, g2, g3⟩ := hl
  have p0 : ∀ w, (part 2 #[.int .i64 a, .int .i64 b] 0).run Try.prog w = .ok (.int .i64 a) w := fun w => by kernel_rfl
  have p1 : ∀ w, (part 2 #[.int .i64 a, .int .i64 b] 1).run Try.prog w = .ok (.int .i64 b) w := fun w => by kernel_rfl
  have e0 : ∀ w (a : Int), (Op.equalIn 9999 2 (.int .i64 a) (.int .i64 a)).run Try.prog w = .ok true w := fun w a => by
    rw [show (9999 : Nat) = 9998 + 1 from rfl, run_equalIn_int w 9998 _ _ _ _ _ h64]
    simp
  rw [hl]
  simp only [Op.eqFields, f1, f2, f3, g1, g2, g3, Sem.run_bind, Sem.run_ite, p0, p1, e0, Result.andThen_ok, Sem.run_pure]
  simp
set_option maxRecDepth 100000 in
set_option maxHeartbeats 8000000 in
theorem span_any (w : World) (a b : Int) (p q : Bool) (a1 : -32768 ≤ a) (a2 : a ≤ 32767) (b1 : -32768 ≤ b) (b2 : b ≤ 32767) :
    Calls Try.prog 5 #[.int .i16 a, .int .i16 b, .agg #[.bool p, .bool q]] w fun e w' => e = .returned (.bool true) ∧ Below w.heap.size w w' := by
  have a0 := below_alloc1 w (.cells #[.bool p, .bool q] 39)
  have B0 := Lib.hid (And.intro a0 (Blk.start w #[.bool p, .bool q] 39))
  have HAB := Lib.hid (And.intro a1 (And.intro a2 (And.intro b1 b2)))
  have wa : IntKind.i64.wrap a = a := IntWalk.i64_in _ (by omega)
  have wb : IntKind.i64.wrap b = b := IntWalk.i64_in _ (by omega)
  have wn : IntKind.i64.wrap (-a) = -a := IntWalk.i64_in _ (by omega)
  have ws : IntKind.i64.wrap (a + b) = a + b := IntWalk.i64_in _ (by omega)
  clear a0 a1 a2 b1 b2
  go_enter Try.func5, Try.ntmps5
  go_upto_region 1 with fail
  generalize hb5 : w.heap.size = b5 at *
  generalize w.alloc (.cells #[.bool p, .bool q] 39) = w0 at *
  go_upto_region 3 with (go_at_call 7; (with_reducible refine (awake4_yes _).mono ?_); rintro e w1 ⟨rfl, hb1⟩)
  go_upto_region 4 with fail
  have D0 : SpS w (w1.alloc (.cells #[.int .i64 1, .int .i64 1] 40)) b5 w1.heap.size p q 1 1 := by
    have aa := below_alloc1 w1 (.cells #[.int .i64 1, .int .i64 1] 40)
    have h1 := Nat.lt_of_lt_of_le B0.out.2.lt hb1.size
    refine ⟨(B0.out.2.keep hb1).keep aa, Blk.start _ _ _, by omega, by omega, ?_⟩
    have := below_next hb5 (below_next hb5 B0.out.1 hb1) aa
    rw [hb5]
    exact this
  have DD := Lib.hid D0
  clear D0 hb1 B0
  generalize w1.alloc (.cells #[.int .i64 1, .int .i64 1] 40) = w2 at *
  generalize w1.heap.size = b7 at *
  go_wp2_with fail
  go_loopg [8] 2 (fun g v8 wr => ∃ i : Nat, v8 = .int .i64 i ∧ i ≤ 2 ∧ g = 2 - i ∧ SpS w wr b5 b7 p q (opsK p q i).1 (opsK p q i).2)
  case atStart => exact ⟨0, rfl, by omega, rfl, DD.out⟩
  case round =>
    clear DD
    obtain ⟨i, rfl, hi, hg, D⟩ := hrel
    have hi3 : i = 0 ∨ i = 1 ∨ i = 2 := by omega
    rcases hi3 with rfl | rfl | rfl
    · have f0 := D.f.cell 0
      have o0 := D.o.cell 0
      have q0 := D.o.free 0
      have HG := Lib.hid hg
      cases p
      · have DD := Lib.hid D
        clear D hi hg
        go_wp2_with fail
        go_roundg 1
        case measure => have := HG.out; omega
        case rel => exact ⟨1, rfl, by omega, rfl, DD.out⟩
      · have DD := Lib.hid (D.put0 2)
        clear D hi hg
        go_wp2_with fail
        go_roundg 1
        case measure => have := HG.out; omega
        case rel => exact ⟨1, rfl, by omega, rfl, DD.out⟩
    · have f0 := D.f.cell 1
      have o0 := D.o.cell 1
      have q0 := D.o.free 1
      have HG := Lib.hid hg
      cases q
      · have DD := Lib.hid D
        clear D hi hg
        go_wp2_with fail
        go_roundg 0
        case measure => have := HG.out; omega
        case rel => exact ⟨2, rfl, by omega, rfl, DD.out⟩
      · have DD := Lib.hid (D.put1 2)
        clear D hi hg
        go_wp2_with fail
        go_roundg 0
        case measure => have := HG.out; omega
        case rel => exact ⟨2, rfl, by omega, rfl, DD.out⟩
    · have DD := Lib.hid (show SpS w wr b5 b7 p q (opOf p) (opOf q) from D)
      have o0 := DD.out.o.cell 0
      have o1 := DD.out.o.cell 1
      clear D hi hg
      generalize hx : opOf p = x at *
      generalize hy : opOf q = y at *
      have hxo : x = 1 ∨ x = 2 := by rw [← hx]; cases p <;> decide
      have hyo : y = 1 ∨ y = 2 := by rw [← hy]; cases q <;> decide
      go_upto_region 10 with fail
      have a9 := below_alloc2 wr (.cells #[.int .i64 1, .int .i64 1] 25) (.cells #[.int .i64 (-1), .int .i64 1] 25)
      have X9 := (Blk.start wr #[.int .i64 1, .int .i64 1] 25).keep (below_alloc1 _ (.cells #[.int .i64 (-1), .int .i64 1] 25))
      have Y9 := Blk.start (wr.alloc (.cells #[.int .i64 1, .int .i64 1] 25)) #[.int .i64 (-1), .int .i64 1] 25
      rw [World.size_alloc] at Y9
      have DD := Lib.hid (DD.out.keep a9)
      clear a9 o0 o1
      generalize (wr.alloc (.cells #[.int .i64 1, .int .i64 1] 25)).alloc (.cells #[.int .i64 (-1), .int .i64 1] 25) = w9 at *
      generalize wr.heap.size = b9 at *
      have o0 : w9.cell? ⟨b7, 0, none⟩ = some (.int .i64 x) := DD.out.o.cell 0
      have o1 : w9.cell? ⟨b7, 1, none⟩ = some (.int .i64 y) := DD.out.o.cell 1
      have x0 : w9.cell? ⟨b9, 0, none⟩ = some (.int .i64 1) := X9.cell 0
      have x1 : w9.cell? ⟨b9, 1, none⟩ = some (.int .i64 1) := X9.cell 1
      have y0 : w9.cell? ⟨b9 + 1, 0, none⟩ = some (.int .i64 (-1)) := Y9.cell 0
      have y1 : w9.cell? ⟨b9 + 1, 1, none⟩ = some (.int .i64 1) := Y9.cell 1
      have o1' : ∀ o, (w9.alloc o).cell? ⟨b7, 1, none⟩ = some (.int .i64 y) := fun o => keep_any (below_alloc1 w9 o) o1
      have y0' : ∀ o, (w9.alloc o).cell? ⟨b9 + 1, 0, none⟩ = some (.int .i64 (-1)) := fun o => keep_any (below_alloc1 w9 o) y0
      have y1' : ∀ o, (w9.alloc o).cell? ⟨b9 + 1, 1, none⟩ = some (.int .i64 1) := fun o => keep_any (below_alloc1 w9 o) y1
      clear X9 Y9
      obtain ⟨W5, hW, hR, hbw⟩ := span_world w9 x y a b
      have sv := bsolve_any W5 _ _ hR (span_wide hxo hyo (by have := HAB.out; omega) (by have := HAB.out; omega) (by have := HAB.out; omega) (by have := HAB.out; omega))
      rw [span_sol hxo hyo (by have := HAB.out; omega) (by have := HAB.out; omega) (by have := HAB.out; omega) (by have := HAB.out; omega), show - -a + b = a + b by omega] at sv
      have hh := half_of (M := a + b) (by have := HAB.out; omega) (by have := HAB.out; omega)
      have nw := fun w => rnew_any (a + b) 2 w (by have := HAB.out; omega) (by have := HAB.out; omega) (by decide) (by decide) (by decide)
      have tz : toV (a + b).natAbs (2 : Int).natAbs (decide (a + b < 0) != decide ((2 : Int) < 0)) = .tuple #[ratV (resT (a + b) 2).1.1 (resT (a + b) 2).1.2, .int .i64 (resT (a + b) 2).2] := by
        rw [show decide ((2 : Int) < 0) = false from rfl, Bool.bne_false]
        rfl
      rw [tz, hh.1] at nw
      generalize (resT (a + b) 2).1 = z at *
      have D5 := DD.out.keep hbw
      have HW := Lib.hid hW
      have HV := Lib.hid sv
      have NW := Lib.hid nw
      have D5 := Lib.hid D5
      have hm : metB (sOp x y) (-a + b) = (decide (a < b) || (decide (a = b) && !p && !q)) := by
        rw [← hx, ← hy]
        cases p <;> cases q <;> simp [opOf, sOp, metB] <;> (by_cases g : a < b <;> simp [g] <;> omega)
      have HM := Lib.hid hm
      clear hR hbw sv hh nw tz hW hm hxo hyo
      generalize hsm : metB (sOp x y) (-a + b) = m at *
      have CS : (a < b ∧ m = true) ∨ (a = b ∧ p = false ∧ q = false ∧ m = true) ∨ (a = b ∧ p = true ∧ m = false) ∨ (a = b ∧ p = false ∧ q = true ∧ m = false) ∨ (b < a ∧ m = false) := by
        have hm := HM.out
        by_cases g : a < b
        · exact .inl ⟨g, by rw [hm]; simp [g]⟩
        · by_cases g2 : a = b
          · cases p
            · cases q
              · exact .inr (.inl ⟨g2, rfl, rfl, by rw [hm]; simp [g2]⟩)
              · exact .inr (.inr (.inr (.inl ⟨g2, rfl, rfl, by rw [hm]; simp [g]⟩)))
            · exact .inr (.inr (.inl ⟨g2, rfl, by rw [hm]; simp [g]⟩))
          · exact .inr (.inr (.inr (.inr ⟨by omega, by rw [hm]; simp [g, g2]⟩)))
      clear hsm HM
      clear hx hy
      cases m
      · rw [if_neg (by decide)] at HV
        go_upto_region 11 with (go_at_call 10; rw [← HW.out]; (with_reducible refine HV.out.mono ?_); rintro e3 w3 ⟨A, c, rfl, hr3, _, hb3⟩)
        have D6 := D5.out.keep hb3
        have f0 := D6.f.cell 0
        have f1 := D6.f.cell 1
        have DD := Lib.hid D6
        clear D6 D5 HW HV hb3 hr3 NW o0 o1 x0 x1 y0 y1 o1' y0' y1'
        rcases CS with ⟨_, h⟩ | ⟨_, _, _, h⟩ | ⟨g, g0, _⟩ | ⟨g, g0, g1, _⟩ | ⟨g, _⟩
        · cases h
        · cases h
        · subst g0
          have gd : decide (a < b) = false := decide_eq_false (by omega)
          have ge : decide (a = b) = true := decide_eq_true g
          have f0 : w3.cell? ⟨b5, 0, none⟩ = some (.bool true) := f0
          go_wp2_with fail
          go_ret
          exact ⟨rfl, DD.out.below⟩
        · subst g0 g1
          have gd : decide (a < b) = false := decide_eq_false (by omega)
          have ge : decide (a = b) = true := decide_eq_true g
          have f0 : w3.cell? ⟨b5, 0, none⟩ = some (.bool false) := f0
          have f1 : w3.cell? ⟨b5, 1, none⟩ = some (.bool true) := f1
          go_wp2_with fail
          go_ret
          exact ⟨rfl, DD.out.below⟩
        · have gd : decide (a < b) = false := decide_eq_false (by omega)
          have ge : decide (a = b) = false := decide_eq_false (by omega)
          go_wp2_with fail
          go_ret
          exact ⟨rfl, DD.out.below⟩
      · rw [if_pos rfl] at HV
        have HV : Hid (Calls Try.prog 10 #[.slice (some ⟨w9.heap.size + 1 + 1, 0, none⟩) 2 2] W5 fun e w' => ∃ A c, e = .returned (.tuple #[.slice A 8 c, .int .i64 0]) ∧ RatsAt w' (.slice A 8 c) (z :: List.replicate 7 (0, 1)) ∧ AllOk (z :: List.replicate 7 (0, 1)) ∧ Below W5.heap.size W5 w') := Lib.hid HV.out
        go_upto_region 11 with (go_at_call 10; rw [← HW.out]; (with_reducible refine HV.out.mono ?_); rintro e3 w3 ⟨A, c, rfl, hr3, _, hb3⟩)
        have D6 := D5.out.keep hb3
        have f0 := D6.f.cell 0
        have f1 := D6.f.cell 1
        have DD := Lib.hid D6
        clear D6 D5 HW HV hb3 o0 o1 x0 x1 y0 y1 o1' y0' y1'
        obtain ⟨A', c', e, _, _, h4⟩ := hr3
        have e1 : A' = A := by injection e with a; exact a.symm
        subst e1
        clear e
        obtain ⟨ad, rfl, d0, d1⟩ := rats_cells (k := 0) (x := z) h4 (Below.refl _ _) rfl (by simp)
        rw [show ad.add (0 * 2) = ad by unfold Addr.add; simp] at d0 d1
        clear h4
        rcases CS with ⟨g, _⟩ | ⟨g, g0, g1, _⟩ | ⟨_, _, h⟩ | ⟨_, _, _, h⟩ | ⟨_, h⟩
        · have gd : decide (a < b) = true := decide_eq_true g
          go_upto_region 15 with (go_at_call 12; (with_reducible refine (NW.out _).mono ?_); rintro e4 w4 ⟨rfl, hb4⟩)
          have HB := Lib.hid ((DD.out.keep hb4).keep (below_alloc1 w4 (.cells #[.int .i64 z.1, .int .i64 z.2] 25)))
          have d0' : ∀ o, (w4.alloc o).cell? ad = some (.int .i64 z.1) := fun o => keep_any (below_alloc1 w4 o) (keep_any hb4 d0)
          have d1' : ∀ o, (w4.alloc o).cell? ⟨ad.block, ad.off + 1, none⟩ = some (.int .i64 z.2) := fun o => keep_any (below_alloc1 w4 o) (keep_any hb4 d1)
          have qT := fun w => rat_eql w z.1 z.2
          have a0 : ad.add 0 = ad := by unfold Addr.add; simp
          clear DD hb4 d0 d1 NW
          go_region
          all_goals
            go_wp2_with fail
            go_ret
            exact ⟨rfl, HB.out.below.drew⟩
        · subst g0 g1 g
          have gd : decide (a < a) = false := decide_eq_false (by omega)
          have f0 : w3.cell? ⟨b5, 0, none⟩ = some (.bool false) := f0
          have f1 : w3.cell? ⟨b5, 1, none⟩ = some (.bool false) := f1
          go_upto_region 15 with (go_at_call 12; (with_reducible refine (NW.out _).mono ?_); rintro e4 w4 ⟨rfl, hb4⟩)
          have HB := Lib.hid ((DD.out.keep hb4).keep (below_alloc1 w4 (.cells #[.int .i64 z.1, .int .i64 z.2] 25)))
          have d0' : ∀ o, (w4.alloc o).cell? ad = some (.int .i64 z.1) := fun o => keep_any (below_alloc1 w4 o) (keep_any hb4 d0)
          have d1' : ∀ o, (w4.alloc o).cell? ⟨ad.block, ad.off + 1, none⟩ = some (.int .i64 z.2) := fun o => keep_any (below_alloc1 w4 o) (keep_any hb4 d1)
          have qT := fun w => rat_eql w z.1 z.2
          have a0 : ad.add 0 = ad := by unfold Addr.add; simp
          clear DD hb4 d0 d1 NW
          go_region
          all_goals
            go_wp2_with fail
            go_ret
            exact ⟨rfl, HB.out.below.drew⟩
        · cases h
        · cases h
        · cases h
end Go.Proofs.Ytkinbbhbencipaa
