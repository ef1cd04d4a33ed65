/-
  The walk of PermKeeps. (Template: by-name.py fills it.)
-/
import Derived.Test.YthlogaenbnhobaaDoorPkC
import Derived.Test.YthlogaenbnhobaaDoorPmE
import Derived.Deep.CutRange
namespace Go.Proofs.YthlogaenbnhobaaDoor
open Go.RowKit

set_option maxRecDepth 10000 in
set_option maxHeartbeats 4000000 in
theorem keeps_walk (w : World) (ht : RestTab w) (A0 A1 : Option Addr) (c0 c1 : Nat) (ks ns : List Int) (hk : ks.length ≤ 12) (hn : ns.length ≤ maxLen) (h0 : Reads w w.heap.size 1 A0 ks.length (ks.map (Value.int .u8))) (h1 : Reads w w.heap.size 1 A1 ns.length (ns.map (Value.int .u8)))
    (b0 : ∀ x ∈ ks, 0 ≤ x ∧ x ≤ 255) (b1 : ∀ x ∈ ns, 0 ≤ x ∧ x ≤ 255) :
    Calls Tryd.prog 3 #[.slice A0 ks.length c0, .slice A1 ns.length c1] w fun e w' => e = .returned (.bool true) ∧ Below w.heap.size w w' := by
  have AW := Lib.hid (awake15_yes w ht)
  have OW := Lib.hid (fun w => own_any w)
  have HT := Lib.hid ht
  have HK := Lib.hid (And.intro h0 (And.intro h1 (And.intro b0 (And.intro b1 hk))))
  have k1 : decide ((ks.length : Int) > 12) = false := decide_eq_false (by omega)
  have HN := Lib.hid hn
  clear ht h0 h1 b0 b1 hk hn
  go_enter Tryd.func3, Tryd.ntmps3
  go_upto_region 3 with (go_at_call 5; (with_reducible refine AW.out.mono ?_); rintro e w1 ⟨rfl, hb1⟩)
  have H1 := Lib.hid hb1
  clear hb1 AW k1
  go_upto_region 4 with (go_at_call 6; (with_reducible refine (OW.out _).mono ?_); rintro e w2 ⟨rfl, hb2⟩)
  have a2 := below_alloc1 w2 (.cells (permC 0 1 1 (-1) 0) 28)
  have R0 := Lib.hid (show RowP (w2.alloc (.cells (permC 0 1 1 (-1) 0) 28)) w.heap.size (.slice (some ⟨w2.heap.size, 0, none⟩) 1 1) [(0, 0, 0)] from
    World.ownsRow_lit w2 (permC 0 1 1 (-1) 0) 1 (Nat.le_trans H1.out.size hb2.size) (by decide) rfl)
  have H2 := Lib.hid (H1.out.trans ((hb2.trans (a2.mono hb2.size)).mono H1.out.size))
  clear hb2 a2 OW
  generalize w2.alloc (.cells (permC 0 1 1 (-1) 0) 28) = wb at *
  go_wp2_with fail
  go_loopg [5, 6, 7, 8, 9, 10, 11, 12] (ks.length) (fun g v5 v6 v7 v8 v9 v10 v11 v12 wr => ∃ (i : Nat) (l : List Pt), v6 = .int .i64 i ∧ i ≤ ks.length ∧ g = ks.length - i ∧ InvP l i ∧ RowP wr w.heap.size v5 l ∧ Below w.heap.size w wr)
  case atStart => exact ⟨0, _, rfl, by omega, by omega, InvP.start, R0.out, H2.out⟩
  case round =>
    obtain ⟨i, l, rfl, hi, hg, hI, hR, hW⟩ := hrel
    obtain ⟨gr, c, rfl, hlc, hcm, hBg, hgs⟩ := hR.shape hI.ne
    by_cases hin : i < ks.length
    · obtain ⟨kx, hkx⟩ : ∃ kx, ks[i]? = some kx := ⟨_, List.getElem?_eq_getElem hin⟩
      have bk := HK.out.2.2.1 kx (List.mem_of_getElem? hkx)
      obtain ⟨ad, rfl, ck⟩ := bytl_at HK.out.1 hW hkx (by omega)
      have lt1 : decide ((i : Int) < (ks.length : Int)) = true := decide_eq_true (by omega)
      have lt2 : (i : Int) < (ks.length : Int) := by omega
      have lt3 : decide (i < ks.length) = true := decide_eq_true hin
      have HR := Lib.hid (And.intro hR (And.intro hI (And.intro hW (And.intro hi (And.intro hg (And.intro hlc (And.intro hBg (And.intro hgs hcm))))))))
      have HX := Lib.hid (And.intro hin (And.intro bk hkx))
      clear hR hI hW hi hg hlc hcm hBg hgs hin bk hkx
      go_upto_if 36 with fail
      go_cut [7] from 28 to 85 (fun v7 wx => ∃ a : Nat, v7 = .int .i64 a ∧ a < l.length ∧ wx = wr)
      case first =>
        clear ck lt1 lt2 lt3
        by_cases hz : 0 < ns.length
        · obtain ⟨y, hy⟩ : ∃ y, ns[i % ns.length]? = some y := ⟨_, List.getElem?_eq_getElem (Nat.mod_lt _ hz)⟩
          have bY := HK.out.2.2.2.1 y (List.mem_of_getElem? hy)
          obtain ⟨ay, rfl, cy⟩ := bytl_at HK.out.2.1 HR.out.2.2.1 hy hz
          have gt1 : decide ((ns.length : Int) > 0) = true := decide_eq_true (by omega)
          have gt2 : (0 : Int) < (ns.length : Int) := by omega
          have hl0 := HR.out.2.1.ne
          have im : (i : Int) % (ns.length : Int) = ((i % ns.length : Nat) : Int) := (Int.natCast_emod _ _).symm
          have ib1 : 0 ≤ (i : Int) % (ns.length : Int) := Int.emod_nonneg _ (by omega)
          have ib2 : (i : Int) % (ns.length : Int) < (ns.length : Int) := Int.emod_lt_of_pos _ (by omega)
          have yb : 0 ≤ y % (l.length : Int) ∧ y % (l.length : Int) < (l.length : Int) := ⟨Int.emod_nonneg _ (by omega), Int.emod_lt_of_pos _ (by omega)⟩
          have HY := Lib.hid yb
          clear hy yb im
          go_wp2_with fail
          go_meet
          case rel => exact ⟨(y % (l.length : Int)).toNat, by rw [Int.toNat_of_nonneg HY.out.1], by have := HY.out; omega, rfl⟩
        · have gt1 : decide ((ns.length : Int) > 0) = false := decide_eq_false (by omega)
          have gt2 : ¬ (0 : Int) < (ns.length : Int) := by omega
          clear hz
          go_wp2_with fail
          go_meet
          case rel => exact ⟨0, rfl, HR.out.2.1.ne, rfl⟩
      case rest =>
        obtain ⟨a, rfl, ha, rfl⟩ := hcut
        generalize wc = wr at *
        obtain ⟨x, hx⟩ : ∃ x, l[a]? = some x := ⟨_, List.getElem?_eq_getElem ha⟩
        obtain ⟨⟨z0, z1, z2, z3, z4⟩, ff⟩ := HR.out.1.cells rfl hx
        have pb : 0 ≤ kx % 5 ∧ kx % 5 < 5 := ⟨Int.emod_nonneg _ (by decide), Int.emod_lt_of_pos _ (by decide)⟩
        have HP := Lib.hid (show kx % 5 = 0 ∨ kx % 5 = 1 ∨ kx % 5 = 2 ∨ kx % 5 = 3 ∨ kx % 5 = 4 by omega)
        have at1 : decide ((a : Int) < (l.length : Int)) = true := decide_eq_true (by omega)
        have at2 : (a : Int) < (l.length : Int) := by omega
        have HA := Lib.hid (And.intro ha hx)
        clear ha hx pb
        have bk0 := HX.out.2.1.1
        have bk1 := HX.out.2.1.2
        go_upto_region 12 with fail
        clear bk0 bk1
        generalize hp : kx % 5 = p at *
        clear hp
        clear ck lt1 lt2 lt3
        go_cut [63] from 28 to 85 (fun v63 wx => v63 = .bool (givenB x.1 p) ∧ wx = wr)
        case first =>
          clear z1 z2 z3 z4
          obtain ⟨x1, xe, xs⟩ := x
          dsimp only at z0
          cases hgk : (x1 == 0)
          · go_wp2_with fail
            go_meet
            case rel => exact ⟨by unfold givenB; rw [hgk]; rfl, rfl⟩
          · cases hgp : (p != 3)
            · go_wp2_with fail
              go_meet
              case rel => exact ⟨by unfold givenB; rw [hgk, hgp]; rfl, rfl⟩
            · go_wp2_with fail
              go_meet
              case rel => exact ⟨by unfold givenB; rw [hgk, hgp]; rfl, rfl⟩
        case rest =>
          obtain ⟨rfl, rfl⟩ := hcut
          generalize wc = wr at *
          cases hgb : givenB x.1 p
          · have hst : setOf x p = 0 := by unfold setOf; rw [hgb]; rfl
            have he : x.2.1 < 12 := Nat.lt_of_le_of_lt (HR.out.2.1.low x (List.mem_of_getElem? HA.out.2)) (Nat.lt_of_lt_of_le HX.out.1 HK.out.2.2.2.2)
            have wi : IntKind.i64.wrap ((i : Int) + 1) = (i : Int) + 1 := IntWalk.i64_in _ (by have := HX.out.1; have := HK.out.2.2.2.2; omega)
            have HE := Lib.hid he
            have HST := Lib.hid hst
            by_cases hr : restK x.1 p = -1
            · have SP := Lib.hid (split_none x p hr wr (HT.out.below HR.out.2.2.1))
              rw [hst] at SP
              have hz : stepP l a x p = l := by unfold stepP; rw [if_pos hr]
              have HZ := Lib.hid hz
              clear he hst hr hz
              go_upto_region 15 with (go_at_call 7; (with_reducible refine SP.out.mono ?_); rintro e' w4 ⟨rfl, hb⟩)
              have a5 := hb.trans ((below_alloc2 w4 (.cells (permC 0 0 0 0 0) 28) (.cells (permC 0 0 0 0 0) 28)).mono hb.size)
              have R5 := Lib.hid (HR.out.1.keep a5)
              have W5 := Lib.hid (HR.out.2.2.1.trans (a5.mono HR.out.2.2.1.size))
              clear hb a5 z0 z1 z2 z3 z4 SP
              go_wp2_with fail
              go_roundg (ks.length - (i + 1))
              case measure => have := HR.out.2.2.2.2.1; have := HX.out.1; omega
              case rel => exact ⟨i + 1, l, by push_cast; rfl, HX.out.1, rfl, by have := HR.out.2.1.step (Nat.lt_of_lt_of_le HX.out.1 HK.out.2.2.2.2) HA.out.2 HP.out; rw [HZ.out] at this; exact this, R5.out, W5.out⟩
            · have SP := Lib.hid (split_part x p he hr wr (HT.out.below HR.out.2.2.1))
              rw [hst] at SP
              have hz : stepP l a x p = l.set a (restK x.1 p, x.2.1 + 1, keptS x.1 x.2.2 p (setOf x p)) ++ [(p, x.2.1 + 1, keptS x.1 x.2.2 p (setOf x p))] := by unfold stepP; rw [if_neg hr]
              rw [hst] at hz
              have HZ := Lib.hid hz
              clear he hst hr hz
              generalize restK x.1 p = rk at *
              generalize keptS x.1 x.2.2 p 0 = kp at *
              generalize hpw : pwI (x.2.1 + 1) = pw at *
              have HPW := Lib.hid hpw
              clear hpw
              go_upto_region 15 with (go_at_call 7; (with_reducible refine SP.out.mono ?_); rintro e' w4 ⟨rfl, hb⟩)
              have a5 := hb.trans ((below_alloc2 w4 (.cells (permC rk 1 pw (-1) kp) 28) (.cells (permC p 1 pw (-1) kp) 28)).mono hb.size)
              have R5 := HR.out.1.keep a5
              have W5 := Lib.hid (HR.out.2.2.1.trans (a5.mono HR.out.2.2.1.size))
              have A5 := (Blk.start w4 (permC rk 1 pw (-1) kp) 28).keep (below_alloc1 _ (.cells (permC p 1 pw (-1) kp) 28))
              have B5 := Blk.start (w4.alloc (.cells (permC rk 1 pw (-1) kp) 28)) (permC p 1 pw (-1) kp) 28
              rw [World.size_alloc] at B5
              have g4 : gr < w4.heap.size := Nat.lt_of_lt_of_le HR.out.2.2.2.2.2.2.2.1 hb.size
              have z5 : w4.heap.size + 1 < ((w4.alloc (.cells (permC rk 1 pw (-1) kp) 28)).alloc (.cells (permC p 1 pw (-1) kp) 28)).heap.size := B5.lt
              clear hb a5 z0 z1 z2 z3 z4 SP ff
              generalize (w4.alloc (.cells (permC rk 1 pw (-1) kp) 28)).alloc (.cells (permC p 1 pw (-1) kp) 28) = w5 at *
              generalize w4.heap.size = bA at *
              obtain ⟨⟨z0, z1, z2, z3, z4⟩, ff⟩ := R5.cells rfl HA.out.2
              obtain ⟨⟨e0, e1, e2, e3, e4⟩, _⟩ := five_cells A5
              have f0 := ff (a * 5); have f1 := ff (a * 5 + 1); have f2 := ff (a * 5 + 2); have f3 := ff (a * 5 + 3); have f4 := ff (a * 5 + 4)
              have R6 := R5.put rfl HA.out.1 (rk, x.2.1 + 1, kp)
              have B6 := ((((B5.other (p := ⟨gr, a * 5, none⟩) (by show gr ≠ bA + 1; omega) (.int .i64 rk)).other (p := ⟨gr, a * 5 + 1, none⟩) (by show gr ≠ bA + 1; omega) (.int .i64 1)).other (p := ⟨gr, a * 5 + 2, none⟩) (by show gr ≠ bA + 1; omega) (.int .i64 pw)).other (p := ⟨gr, a * 5 + 3, none⟩) (by show gr ≠ bA + 1; omega) (.int .i64 (-1))).other (p := ⟨gr, a * 5 + 4, none⟩) (by show gr ≠ bA + 1; omega) (.int .u32 kp)
              have hBg := HR.out.2.2.2.2.2.2.1
              have W6 := Lib.hid (((((W5.out.setCell (p := ⟨gr, a * 5, none⟩) hBg (.int .i64 rk)).setCell (p := ⟨gr, a * 5 + 1, none⟩) hBg (.int .i64 1)).setCell (p := ⟨gr, a * 5 + 2, none⟩) hBg (.int .i64 pw)).setCell (p := ⟨gr, a * 5 + 3, none⟩) hBg (.int .i64 (-1))).setCell (p := ⟨gr, a * 5 + 4, none⟩) hBg (.int .u32 kp))
              dsimp only at R6
              rw [HPW.out] at R6
              clear ff R5 A5 B5 hBg z5 g4 W5
              go_upto_region 17 with fail
              clear z0 z1 z2 z3 z4 f0 f1 f2 f3 f4 e0 e1 e2 e3 e4
              generalize ((((w5.setCell ⟨gr, a * 5, none⟩ (.int .i64 rk)).setCell ⟨gr, a * 5 + 1, none⟩ (.int .i64 1)).setCell ⟨gr, a * 5 + 2, none⟩ (.int .i64 pw)).setCell ⟨gr, a * 5 + 3, none⟩ (.int .i64 (-1))).setCell ⟨gr, a * 5 + 4, none⟩ (.int .u32 kp) = w6 at *
              obtain ⟨⟨e0, e1, e2, e3, e4⟩, _⟩ := five_cells B6
              have R7 := Lib.hid (R6.keep (below_alloc1 w6 (.cells (permC p 1 pw (-1) kp) 28)))
              clear R6 B6 at1 at2
              obtain ⟨iP, hiP, zP0, zP1, zP2⟩ := info_parts infoPm
              go_wp2_with (at_builtin; refine wpList_append_any _ rfl _ _ 30 rfl w.heap.size 28 iP (.agg #[.int .i64 0, .int .i64 0, .int .i64 0, .int .i64 0, .int .u32 0]) 5 40 Tryd.underlying30 hiP zP0 zP1 zP2 rfl (by decide) _ l.length (ptCells (l.set a (rk, x.2.1 + 1, kp))) rfl (by have := R7.out; unfold RowP at this; rw [List.length_set] at this; exact this) _ (some ⟨w6.heap.size, 0, none⟩) 1 1 [.int .i64 p, .int .i64 1, .int .i64 pw, .int .i64 (-1), .int .u32 kp] rfl (reads_litsP w6 [.int .i64 p, .int .i64 1, .int .i64 pw, .int .i64 (-1), .int .u32 kp] 28 1 5 rfl) ?c1 ?c2 ?c3 ?c4 ?_)
              case c1 => intro u hu; simp only [List.mem_cons, List.not_mem_nil, or_false] at hu; rcases hu with rfl | rfl | rfl | rfl | rfl <;> rfl
              case c2 => have := HR.out.2.1.len; have := HX.out.1; have := HK.out.2.2.2.2; have e9 : maxLen = 9223372036854775807 := rfl; omega
              case c3 => have := HR.out.2.1.len; have := HX.out.1; have := HK.out.2.2.2.2; omega
              case c4 => rw [World.size_alloc]; have := W6.out.size; omega
              intro v7 w7 hown hgrow _
              have W7 := Lib.hid ((W6.out.alloc W6.out.size _).grown hgrow (by rw [World.size_alloc]; have := W6.out.size; omega) (fun k hk => by injection hk with hk; subst hk; exact HR.out.2.2.2.2.2.2.1))
              have R8 := Lib.hid (show RowP w7 w.heap.size v7 (stepP l a x p) by
                unfold RowP
                rw [HZ.out, ptCells_append, List.length_append, List.length_set]
                show w7.ownsRow _ _ _ _ _ (_ ++ [.int .i64 p, .int .i64 1, .int .i64 (pwI (x.2.1 + 1)), .int .i64 (-1), .int .u32 kp])
                rw [HPW.out]
                exact hown)
              clear hown hgrow R7 HPW HZ
              go_wp2_with fail
              go_roundg (ks.length - (i + 1))
              case measure => have := HR.out.2.2.2.2.1; have := HX.out.1; omega
              case rel => exact ⟨i + 1, stepP l a x p, by push_cast; rfl, HX.out.1, rfl, HR.out.2.1.step (Nat.lt_of_lt_of_le HX.out.1 HK.out.2.2.2.2) HA.out.2 HP.out, R8.out, W7.out⟩
          · have hst : setOf x p = 3 := by unfold setOf; rw [hgb]; rfl
            have he : x.2.1 < 12 := Nat.lt_of_le_of_lt (HR.out.2.1.low x (List.mem_of_getElem? HA.out.2)) (Nat.lt_of_lt_of_le HX.out.1 HK.out.2.2.2.2)
            have wi : IntKind.i64.wrap ((i : Int) + 1) = (i : Int) + 1 := IntWalk.i64_in _ (by have := HX.out.1; have := HK.out.2.2.2.2; omega)
            have HE := Lib.hid he
            have HST := Lib.hid hst
            by_cases hr : restK x.1 p = -1
            · have SP := Lib.hid (split_none x p hr wr (HT.out.below HR.out.2.2.1))
              rw [hst] at SP
              have hz : stepP l a x p = l := by unfold stepP; rw [if_pos hr]
              have HZ := Lib.hid hz
              clear he hst hr hz
              go_upto_region 15 with (go_at_call 7; (with_reducible refine SP.out.mono ?_); rintro e' w4 ⟨rfl, hb⟩)
              have a5 := hb.trans ((below_alloc2 w4 (.cells (permC 0 0 0 0 0) 28) (.cells (permC 0 0 0 0 0) 28)).mono hb.size)
              have R5 := Lib.hid (HR.out.1.keep a5)
              have W5 := Lib.hid (HR.out.2.2.1.trans (a5.mono HR.out.2.2.1.size))
              clear hb a5 z0 z1 z2 z3 z4 SP
              go_wp2_with fail
              go_roundg (ks.length - (i + 1))
              case measure => have := HR.out.2.2.2.2.1; have := HX.out.1; omega
              case rel => exact ⟨i + 1, l, by push_cast; rfl, HX.out.1, rfl, by have := HR.out.2.1.step (Nat.lt_of_lt_of_le HX.out.1 HK.out.2.2.2.2) HA.out.2 HP.out; rw [HZ.out] at this; exact this, R5.out, W5.out⟩
            · have SP := Lib.hid (split_part x p he hr wr (HT.out.below HR.out.2.2.1))
              rw [hst] at SP
              have hz : stepP l a x p = l.set a (restK x.1 p, x.2.1 + 1, keptS x.1 x.2.2 p (setOf x p)) ++ [(p, x.2.1 + 1, keptS x.1 x.2.2 p (setOf x p))] := by unfold stepP; rw [if_neg hr]
              rw [hst] at hz
              have HZ := Lib.hid hz
              clear he hst hr hz
              generalize restK x.1 p = rk at *
              generalize keptS x.1 x.2.2 p 3 = kp at *
              generalize hpw : pwI (x.2.1 + 1) = pw at *
              have HPW := Lib.hid hpw
              clear hpw
              go_upto_region 15 with (go_at_call 7; (with_reducible refine SP.out.mono ?_); rintro e' w4 ⟨rfl, hb⟩)
              have a5 := hb.trans ((below_alloc2 w4 (.cells (permC rk 1 pw (-1) kp) 28) (.cells (permC p 1 pw (-1) kp) 28)).mono hb.size)
              have R5 := HR.out.1.keep a5
              have W5 := Lib.hid (HR.out.2.2.1.trans (a5.mono HR.out.2.2.1.size))
              have A5 := (Blk.start w4 (permC rk 1 pw (-1) kp) 28).keep (below_alloc1 _ (.cells (permC p 1 pw (-1) kp) 28))
              have B5 := Blk.start (w4.alloc (.cells (permC rk 1 pw (-1) kp) 28)) (permC p 1 pw (-1) kp) 28
              rw [World.size_alloc] at B5
              have g4 : gr < w4.heap.size := Nat.lt_of_lt_of_le HR.out.2.2.2.2.2.2.2.1 hb.size
              have z5 : w4.heap.size + 1 < ((w4.alloc (.cells (permC rk 1 pw (-1) kp) 28)).alloc (.cells (permC p 1 pw (-1) kp) 28)).heap.size := B5.lt
              clear hb a5 z0 z1 z2 z3 z4 SP ff
              generalize (w4.alloc (.cells (permC rk 1 pw (-1) kp) 28)).alloc (.cells (permC p 1 pw (-1) kp) 28) = w5 at *
              generalize w4.heap.size = bA at *
              obtain ⟨⟨z0, z1, z2, z3, z4⟩, ff⟩ := R5.cells rfl HA.out.2
              obtain ⟨⟨e0, e1, e2, e3, e4⟩, _⟩ := five_cells A5
              have f0 := ff (a * 5); have f1 := ff (a * 5 + 1); have f2 := ff (a * 5 + 2); have f3 := ff (a * 5 + 3); have f4 := ff (a * 5 + 4)
              have R6 := R5.put rfl HA.out.1 (rk, x.2.1 + 1, kp)
              have B6 := ((((B5.other (p := ⟨gr, a * 5, none⟩) (by show gr ≠ bA + 1; omega) (.int .i64 rk)).other (p := ⟨gr, a * 5 + 1, none⟩) (by show gr ≠ bA + 1; omega) (.int .i64 1)).other (p := ⟨gr, a * 5 + 2, none⟩) (by show gr ≠ bA + 1; omega) (.int .i64 pw)).other (p := ⟨gr, a * 5 + 3, none⟩) (by show gr ≠ bA + 1; omega) (.int .i64 (-1))).other (p := ⟨gr, a * 5 + 4, none⟩) (by show gr ≠ bA + 1; omega) (.int .u32 kp)
              have hBg := HR.out.2.2.2.2.2.2.1
              have W6 := Lib.hid (((((W5.out.setCell (p := ⟨gr, a * 5, none⟩) hBg (.int .i64 rk)).setCell (p := ⟨gr, a * 5 + 1, none⟩) hBg (.int .i64 1)).setCell (p := ⟨gr, a * 5 + 2, none⟩) hBg (.int .i64 pw)).setCell (p := ⟨gr, a * 5 + 3, none⟩) hBg (.int .i64 (-1))).setCell (p := ⟨gr, a * 5 + 4, none⟩) hBg (.int .u32 kp))
              dsimp only at R6
              rw [HPW.out] at R6
              clear ff R5 A5 B5 hBg z5 g4 W5
              go_upto_region 17 with fail
              clear z0 z1 z2 z3 z4 f0 f1 f2 f3 f4 e0 e1 e2 e3 e4
              generalize ((((w5.setCell ⟨gr, a * 5, none⟩ (.int .i64 rk)).setCell ⟨gr, a * 5 + 1, none⟩ (.int .i64 1)).setCell ⟨gr, a * 5 + 2, none⟩ (.int .i64 pw)).setCell ⟨gr, a * 5 + 3, none⟩ (.int .i64 (-1))).setCell ⟨gr, a * 5 + 4, none⟩ (.int .u32 kp) = w6 at *
              obtain ⟨⟨e0, e1, e2, e3, e4⟩, _⟩ := five_cells B6
              have R7 := Lib.hid (R6.keep (below_alloc1 w6 (.cells (permC p 1 pw (-1) kp) 28)))
              clear R6 B6 at1 at2
              obtain ⟨iP, hiP, zP0, zP1, zP2⟩ := info_parts infoPm
              go_wp2_with (at_builtin; refine wpList_append_any _ rfl _ _ 30 rfl w.heap.size 28 iP (.agg #[.int .i64 0, .int .i64 0, .int .i64 0, .int .i64 0, .int .u32 0]) 5 40 Tryd.underlying30 hiP zP0 zP1 zP2 rfl (by decide) _ l.length (ptCells (l.set a (rk, x.2.1 + 1, kp))) rfl (by have := R7.out; unfold RowP at this; rw [List.length_set] at this; exact this) _ (some ⟨w6.heap.size, 0, none⟩) 1 1 [.int .i64 p, .int .i64 1, .int .i64 pw, .int .i64 (-1), .int .u32 kp] rfl (reads_litsP w6 [.int .i64 p, .int .i64 1, .int .i64 pw, .int .i64 (-1), .int .u32 kp] 28 1 5 rfl) ?c1 ?c2 ?c3 ?c4 ?_)
              case c1 => intro u hu; simp only [List.mem_cons, List.not_mem_nil, or_false] at hu; rcases hu with rfl | rfl | rfl | rfl | rfl <;> rfl
              case c2 => have := HR.out.2.1.len; have := HX.out.1; have := HK.out.2.2.2.2; have e9 : maxLen = 9223372036854775807 := rfl; omega
              case c3 => have := HR.out.2.1.len; have := HX.out.1; have := HK.out.2.2.2.2; omega
              case c4 => rw [World.size_alloc]; have := W6.out.size; omega
              intro v7 w7 hown hgrow _
              have W7 := Lib.hid ((W6.out.alloc W6.out.size _).grown hgrow (by rw [World.size_alloc]; have := W6.out.size; omega) (fun k hk => by injection hk with hk; subst hk; exact HR.out.2.2.2.2.2.2.1))
              have R8 := Lib.hid (show RowP w7 w.heap.size v7 (stepP l a x p) by
                unfold RowP
                rw [HZ.out, ptCells_append, List.length_append, List.length_set]
                show w7.ownsRow _ _ _ _ _ (_ ++ [.int .i64 p, .int .i64 1, .int .i64 (pwI (x.2.1 + 1)), .int .i64 (-1), .int .u32 kp])
                rw [HPW.out]
                exact hown)
              clear hown hgrow R7 HPW HZ
              go_wp2_with fail
              go_roundg (ks.length - (i + 1))
              case measure => have := HR.out.2.2.2.2.1; have := HX.out.1; omega
              case rel => exact ⟨i + 1, stepP l a x p, by push_cast; rfl, HX.out.1, rfl, HR.out.2.1.step (Nat.lt_of_lt_of_le HX.out.1 HK.out.2.2.2.2) HA.out.2 HP.out, R8.out, W7.out⟩
    · have hie : i = ks.length := by omega
      subst hie
      have lt1 : decide ((ks.length : Int) < (ks.length : Int)) = false := decide_eq_false (by omega)
      have lt3 : decide (ks.length < ks.length) = false := decide_eq_false (by omega)
      clear hin hi hg
      -- @LOOP2
      have HI := Lib.hid hI
      have HK2 := HK.out.2.2.2.2
      have hll := hI.len
      have HL := Lib.hid (show l.length ≤ 13 by omega)
      have a9 := below_alloc2 wr (.cells #[.int .i64 0, .int .i64 0, .int .i64 0, .int .i64 0, .int .i64 0] 34) (.cells #[.int .i64 0, .int .i64 1] 25)
      have R9 := Lib.hid (hR.keep a9)
      have W9 := Lib.hid (hW.trans (a9.mono hW.size))
      have N9 := (Blk.start wr #[.int .i64 0, .int .i64 0, .int .i64 0, .int .i64 0, .int .i64 0] 34).keep (below_alloc1 _ (.cells #[.int .i64 0, .int .i64 1] 25))
      have S9 := Blk.start (wr.alloc (.cells #[.int .i64 0, .int .i64 0, .int .i64 0, .int .i64 0, .int .i64 0] 34)) #[.int .i64 0, .int .i64 1] 25
      rw [World.size_alloc] at S9
      have HG := Lib.hid (And.intro hBg (And.intro hgs hW.size))
      have N9 := Lib.hid N9
      have S9 := Lib.hid S9
      clear hI hR hW hlc hcm hBg hgs HK2 hll a9 R0 H2
      go_upto_region 20 with fail
      generalize (wr.alloc (.cells #[.int .i64 0, .int .i64 0, .int .i64 0, .int .i64 0, .int .i64 0] 34)).alloc (.cells #[.int .i64 0, .int .i64 1] 25) = w9 at *
      generalize hbN : wr.heap.size = bN at *
      generalize hbS : bN + 1 = bS at *
      have HBS := Lib.hid hbS
      clear hbN hbS
      go_wp2_with fail
      go_loopg [15, 16, 17] (l.length) (fun g v15 v16 v17 wx => ∃ j : Nat, v15 = .int .i64 j ∧ j ≤ l.length ∧ g = l.length - j ∧ RowP wx w.heap.size (.slice (some ⟨gr, 0, none⟩) l.length c) l ∧ Blk wx bN #[.int .i64 (cntP (l.take j) 0 : Nat), .int .i64 (cntP (l.take j) 1 : Nat), .int .i64 (cntP (l.take j) 2 : Nat), .int .i64 (cntP (l.take j) 3 : Nat), .int .i64 (cntP (l.take j) 4 : Nat)] ∧ Blk wx bS #[.int .i64 (frN (wtP (l.take j))), .int .i64 (frD (wtP (l.take j)) : Nat)] ∧ Below w.heap.size w wx)
      case atStart => exact ⟨0, rfl, by omega, by omega, R9.out, N9.out, by show Blk w9 bS #[.int .i64 (frN 0), .int .i64 (frD 0 : Nat)]; rw [fr_zero.1, fr_zero.2]; exact S9.out, W9.out⟩
      case round =>
        obtain ⟨j, rfl, hj, hg, hR, hN, hS, hW⟩ := hrel
        by_cases hin : j < l.length
        · obtain ⟨x, hx⟩ : ∃ x, l[j]? = some x := ⟨_, List.getElem?_eq_getElem hin⟩
          obtain ⟨⟨z0, z1, z2, z3, z4⟩, ff⟩ := hR.cells rfl hx
          have hm := List.mem_of_getElem? hx
          have he : x.2.1 ≤ 12 := Nat.le_trans (HI.out.low x hm) HK.out.2.2.2.2
          have HKD := Lib.hid (cfg_kind HI.out.cfg hm)
          have lt1 : decide ((j : Int) < (l.length : Int)) = true := decide_eq_true (by omega)
          have lt2 : (j : Int) < (l.length : Int) := by omega
          have lt3 : decide (j < l.length) = true := decide_eq_true hin
          have tk := cnt_snoc (l.take j) x
          rw [show l.take j ++ [x] = l.take (j + 1) by rw [List.take_add_one, hx]; rfl] at tk
          have TK := Lib.hid tk
          have CL := Lib.hid (fun k => Nat.le_trans (cnt_le (l.take j) k) (List.length_take_le _ _))
          have HJ := Lib.hid (And.intro hin (And.intro hx (And.intro hg he)))
          have HR := Lib.hid hR
          have HN := Lib.hid hN
          have HS := Lib.hid hS
          have HW := Lib.hid hW
          clear hj hg hR hN hS hW hin hx hm he tk ff z3 z4
          go_upto_region 23 with fail
          go_cut [] from 87 to 114 (fun wx => RowP wx w.heap.size (.slice (some ⟨gr, 0, none⟩) l.length c) l ∧ Blk wx bN #[.int .i64 (cntP (l.take (j + 1)) 0 : Nat), .int .i64 (cntP (l.take (j + 1)) 1 : Nat), .int .i64 (cntP (l.take (j + 1)) 2 : Nat), .int .i64 (cntP (l.take (j + 1)) 3 : Nat), .int .i64 (cntP (l.take (j + 1)) 4 : Nat)] ∧ Blk wx bS #[.int .i64 (frN (wtP (l.take j))), .int .i64 (frD (wtP (l.take j)) : Nat)] ∧ Below w.heap.size w wx)
          case first =>
            obtain ⟨⟨n0, n1, n2, n3, n4⟩, f0, f1, f2, f3, f4⟩ := five_cells HN.out
            clear z1 z2
            obtain ⟨x1, xe, xs⟩ := x
            dsimp only at z0
            rcases HKD.out with h | h | h | h | h
            · obtain rfl : x1 = 0 := h
              have wk : IntKind.i64.wrap ((cntP (l.take j) 0 : Nat) + 1 : Int) = (cntP (l.take j) 0 : Nat) + 1 := IntWalk.i64_in _ (by have := CL.out 0; have := HJ.out.1; have := HL.out; omega)
              go_wp2_with fail
              go_meet
              case rel =>
                have q := TK.out
                have q0 := q 0; have q1 := q 1; have q2 := q 2; have q3 := q 3; have q4 := q 4
                simp only [Int.reduceBEq, Bool.false_eq_true, if_false, if_true, Nat.add_zero] at q0 q1 q2 q3 q4
                have hgN := HG.out.2.1
                refine ⟨own_past HR.out (by intro e; injection e with e; dsimp only at e; omega), ?_, HS.out.other (p := ⟨bN, 0, none⟩) (by show bN ≠ bS; have := HBS.out; omega) _, HW.out.setCell (p := ⟨bN, 0, none⟩) HG.out.2.2 _⟩
                rw [q0, q1, q2, q3, q4, Int.natCast_add]
                exact HN.out.set 0 _
            · obtain rfl : x1 = 1 := h
              have wk : IntKind.i64.wrap ((cntP (l.take j) 1 : Nat) + 1 : Int) = (cntP (l.take j) 1 : Nat) + 1 := IntWalk.i64_in _ (by have := CL.out 1; have := HJ.out.1; have := HL.out; omega)
              go_wp2_with fail
              go_meet
              case rel =>
                have q := TK.out
                have q0 := q 0; have q1 := q 1; have q2 := q 2; have q3 := q 3; have q4 := q 4
                simp only [Int.reduceBEq, Bool.false_eq_true, if_false, if_true, Nat.add_zero] at q0 q1 q2 q3 q4
                have hgN := HG.out.2.1
                refine ⟨own_past HR.out (by intro e; injection e with e; dsimp only at e; omega), ?_, HS.out.other (p := ⟨bN, 1, none⟩) (by show bN ≠ bS; have := HBS.out; omega) _, HW.out.setCell (p := ⟨bN, 1, none⟩) HG.out.2.2 _⟩
                rw [q0, q1, q2, q3, q4, Int.natCast_add]
                exact HN.out.set 1 _
            · obtain rfl : x1 = 2 := h
              have wk : IntKind.i64.wrap ((cntP (l.take j) 2 : Nat) + 1 : Int) = (cntP (l.take j) 2 : Nat) + 1 := IntWalk.i64_in _ (by have := CL.out 2; have := HJ.out.1; have := HL.out; omega)
              go_wp2_with fail
              go_meet
              case rel =>
                have q := TK.out
                have q0 := q 0; have q1 := q 1; have q2 := q 2; have q3 := q 3; have q4 := q 4
                simp only [Int.reduceBEq, Bool.false_eq_true, if_false, if_true, Nat.add_zero] at q0 q1 q2 q3 q4
                have hgN := HG.out.2.1
                refine ⟨own_past HR.out (by intro e; injection e with e; dsimp only at e; omega), ?_, HS.out.other (p := ⟨bN, 2, none⟩) (by show bN ≠ bS; have := HBS.out; omega) _, HW.out.setCell (p := ⟨bN, 2, none⟩) HG.out.2.2 _⟩
                rw [q0, q1, q2, q3, q4, Int.natCast_add]
                exact HN.out.set 2 _
            · obtain rfl : x1 = 3 := h
              have wk : IntKind.i64.wrap ((cntP (l.take j) 3 : Nat) + 1 : Int) = (cntP (l.take j) 3 : Nat) + 1 := IntWalk.i64_in _ (by have := CL.out 3; have := HJ.out.1; have := HL.out; omega)
              go_wp2_with fail
              go_meet
              case rel =>
                have q := TK.out
                have q0 := q 0; have q1 := q 1; have q2 := q 2; have q3 := q 3; have q4 := q 4
                simp only [Int.reduceBEq, Bool.false_eq_true, if_false, if_true, Nat.add_zero] at q0 q1 q2 q3 q4
                have hgN := HG.out.2.1
                refine ⟨own_past HR.out (by intro e; injection e with e; dsimp only at e; omega), ?_, HS.out.other (p := ⟨bN, 3, none⟩) (by show bN ≠ bS; have := HBS.out; omega) _, HW.out.setCell (p := ⟨bN, 3, none⟩) HG.out.2.2 _⟩
                rw [q0, q1, q2, q3, q4, Int.natCast_add]
                exact HN.out.set 3 _
            · obtain rfl : x1 = 4 := h
              have wk : IntKind.i64.wrap ((cntP (l.take j) 4 : Nat) + 1 : Int) = (cntP (l.take j) 4 : Nat) + 1 := IntWalk.i64_in _ (by have := CL.out 4; have := HJ.out.1; have := HL.out; omega)
              go_wp2_with fail
              go_meet
              case rel =>
                have q := TK.out
                have q0 := q 0; have q1 := q 1; have q2 := q 2; have q3 := q 3; have q4 := q 4
                simp only [Int.reduceBEq, Bool.false_eq_true, if_false, if_true, Nat.add_zero] at q0 q1 q2 q3 q4
                have hgN := HG.out.2.1
                refine ⟨own_past HR.out (by intro e; injection e with e; dsimp only at e; omega), ?_, HS.out.other (p := ⟨bN, 4, none⟩) (by show bN ≠ bS; have := HBS.out; omega) _, HW.out.setCell (p := ⟨bN, 4, none⟩) HG.out.2.2 _⟩
                rw [q0, q1, q2, q3, q4, Int.natCast_add]
                exact HN.out.set 4 _
          case rest =>
            obtain ⟨hR, hN, hS, hW⟩ := hcut
            generalize wc = wq at *
            obtain ⟨⟨z0, z1, z2, z3, z4⟩, ff⟩ := hR.cells rfl HJ.out.2.1
            have hs := wt_take HJ.out.2.1
            have hle := wt_le l (j + 1)
            rw [HI.out.sum, hs] at hle
            have DO := Lib.hid (fun w => rdo_fr (S := wtP (l.take j)) (e := x.2.1) hle HJ.out.2.2.2 w)
            rw [← hs] at DO
            have HR2 := Lib.hid hR
            have HN2 := Lib.hid hN
            have HS2 := Lib.hid hS
            have HW2 := Lib.hid hW
            have s0 : wq.cell? ⟨bS, 0, none⟩ = some (.int .i64 (frN (wtP (l.take j)))) := hS.cell 0
            have s1 : wq.cell? ⟨bS, 1, none⟩ = some (.int .i64 (frD (wtP (l.take j)) : Nat)) := hS.cell 1
            clear hs hle hR hN hS hW ff z0 z3 z4 HR HN HS HW HKD TK CL
            generalize hsn : frN (wtP (l.take j)) = sn at *
            generalize hsd : ((frD (wtP (l.take j)) : Nat) : Int) = sd at *
            generalize hsn2 : frN (wtP (l.take (j + 1))) = sn2 at *
            generalize hsd2 : ((frD (wtP (l.take (j + 1))) : Nat) : Int) = sd2 at *
            have HSN := Lib.hid (And.intro hsn2 hsd2)
            clear hsn hsd hsn2 hsd2
            generalize pwI x.2.1 = pw at *
            go_upto_region 24 with fail
            go_cut [16, 17] from 87 to 114 (fun v16 v17 wx => v17 = .int .i64 0 ∧ MidP wq sn2 sd2 v16 wx)
            case first =>
              have STB := Lib.hid (show StabP (fun w' => ((w'.cell? ⟨bS, 0, none⟩ = some (.int .i64 sn) ∧ w'.cell? ⟨bS, 1, none⟩ = some (.int .i64 sd)) ∧ (w'.cell? ⟨gr, j * 5 + 1, none⟩ = some (.int .i64 1) ∧ w'.cell? ⟨gr, j * 5 + 2, none⟩ = some (.int .i64 pw))) ∧ Below wq.heap.size wq w') from stab_andP (stab_andP (stab_andP (stab_cellP _ _) (stab_cellP _ _)) (stab_andP (stab_cellP _ _) (stab_cellP _ _))) (stab_belowP wq))
              have HS : (fun w' => ((w'.cell? ⟨bS, 0, none⟩ = some (.int .i64 sn) ∧ w'.cell? ⟨bS, 1, none⟩ = some (.int .i64 sd)) ∧ (w'.cell? ⟨gr, j * 5 + 1, none⟩ = some (.int .i64 1) ∧ w'.cell? ⟨gr, j * 5 + 2, none⟩ = some (.int .i64 pw))) ∧ Below wq.heap.size wq w') wq.drew := ⟨⟨⟨s0, s1⟩, z1, z2⟩, below_drew _⟩
              dsimp only at HS
              clear s0 s1 z1 z2
              refine wp_region_noPanic ?_
              refine wp_region_held_drew (S := (fun w' => ((w'.cell? ⟨bS, 0, none⟩ = some (.int .i64 sn) ∧ w'.cell? ⟨bS, 1, none⟩ = some (.int .i64 sd)) ∧ (w'.cell? ⟨gr, j * 5 + 1, none⟩ = some (.int .i64 1) ∧ w'.cell? ⟨gr, j * 5 + 2, none⟩ = some (.int .i64 pw))) ∧ Below wq.heap.size wq w')) (by kernel_rfl) HS (fun hHeld => ?_)
              clear HS
              refine tk 0 rfl ?_
              refine tk 1 rfl ?_
              refine tk 2 rfl ?_
              refine tk 3 rfl ?_
              refine tk 4 rfl ?_
              refine tk 5 rfl ?_
              (try simp only [cl, Act.put])
              refine wpAnyH_ready (rs := [6, 10]) (by kernel_rfl) (by simp) (AllReadyH.cons (o := _) rfl (fun K hK => ?_) (AllReadyH.cons (o := _) rfl (fun K hK => ?_) AllReadyH.nil))
              rotate_left
              go_simp
              (first | refine hK.out _ _ (stab2P STB.out (by with_reducible assumption)) (fun hH2 => ?_) | refine hK.out _ _ (STB.out _ _ (below_alloc1 _ _) (by with_reducible assumption)) (fun hH2 => ?_))
              clear hK K
              (try dsimp only at hH2)
              (first | have HC := Lib.hid (holeP_of hH2) | have HC := Lib.hid (holeP_of2 hH2))
              have hHeld0 := Lib.hid hHeld
              clear hHeld
              have hHeld := hH2
              clear hH2
              (try simp only [cl, Act.put])
              refine rd 6 rfl fun K hK => ?_
              rotate_right
              all_goals
                go_simp
                (first
                  | (go_at_call 8; (with_reducible refine (DO.out _).mono ?_); rintro e6 w6 ⟨rfl, hb⟩; (try have HC := Lib.hid (HC.out.keep hb))))
                go_wp2_with fail
                refine hK.out _ _ (STB.out _ _ hb (by with_reducible assumption)) (fun hH2 => ?_)
                clear hK K hHeld hb; have hHeld := hH2; clear hH2
                (try simp only [cl, Act.put])
              all_goals
                refine tk 7 rfl ?_
                refine tk 8 rfl ?_
                refine tk 9 rfl ?_
                (try simp only [cl, Act.put])
              refine rd 10 rfl fun K hK => ?_
              go_simp
              (first | refine hK.out _ _ (stab2P STB.out (by with_reducible assumption)) (fun hH2 => ?_) | refine hK.out _ _ (STB.out _ _ (below_alloc1 _ _) (by with_reducible assumption)) (fun hH2 => ?_))
              clear hK K
              (try dsimp only at hH2)
              (first | have HC := Lib.hid (holeP_of hH2) | have HC := Lib.hid (holeP_of2 hH2))
              have hHeld0 := Lib.hid hHeld
              clear hHeld
              have hHeld := hH2
              clear hH2
              (try simp only [cl, Act.put])
              all_goals
                refine rd 11 rfl fun K hK => ?_
                obtain ⟨h7, h0, h1, h2, h3, h4, h8⟩ := HC.out
                clear h7 h8
                go_simp
                clear h0 h1 h2 h3 h4
                (first
                  | refine hK.out _ _ (STB.out _ _ (below_alloc1 _ _) hHeld0.out) (fun hH2 => ?_)
                  | refine hK.out _ _ (STB.out _ _ (HC.out.fill _ _).1 hHeld0.out) (fun hH2 => ?_))
                clear hK K hHeld
                (try dsimp only at hH2)
                have hHeld := hH2
                clear hH2
                (try simp only [cl, Act.put])
                refine tk 12 rfl ?_
                (try simp only [cl, Act.put])
                refine wpAnyH_done (by kernel_rfl) ?_ _
                refine NoPanic.normal ?_
                go_wp2_with fail
                go_meet
                case rel => first | exact ⟨rfl, pmid_alloc hHeld0.out.2 25⟩ | exact ⟨rfl, pmid_fill hHeld0.out.2 HC.out⟩

            case rest =>
              obtain ⟨rfl, cc, rfl, hM, hb⟩ := hcut
              have HR3 := Lib.hid (HR2.out.keep hb)
              have HN3 := Lib.hid (HN2.out.keep hb)
              have HS3 := HS2.out.keep hb
              have HW3 := Lib.hid (HW2.out.trans (hb.mono HW2.out.size))
              have m0 := hM.k0
              have m1 := hM.k1
              clear s0 s1 z1 z2 HR2 HN2 HS2 HW2 hb hM
              obtain ⟨t0, t1⟩ : wc.cell? ⟨bS, 0, none⟩ = some (.int .i64 sn) ∧ wc.cell? ⟨bS, 1, none⟩ = some (.int .i64 sd) := ⟨HS3.cell 0, HS3.cell 1⟩
              have f0 := HS3.free 0
              have f1 := HS3.free 1
              have S4 := Lib.hid ((HS3.set 0 (.int .i64 sn2)).set 1 (.int .i64 sd2))
              have hgN := HG.out.2.1
              have hbs := HBS.out
              have N4 := Lib.hid ((HN3.out.other (p := ⟨bS, 0, none⟩) (by show bS ≠ bN; omega) (.int .i64 sn2)).other (p := ⟨bS, 1, none⟩) (by show bS ≠ bN; omega) (.int .i64 sd2))
              have r1 := own_past (g := bS) (j := 0) (u := .int .i64 sn2) HR3.out (by intro e; injection e with e; dsimp only at e; omega)
              have r2 := own_past (g := bS) (j := 1) (u := .int .i64 sd2) r1 (by intro e; injection e with e; dsimp only at e; omega)
              have R4 := Lib.hid r2
              clear r1 r2
              have W4 := Lib.hid ((HW3.out.setCell (p := ⟨bS, 0, none⟩) (by show w.heap.size ≤ bS; have := HG.out.2.2; omega) (.int .i64 sn2)).setCell (p := ⟨bS, 1, none⟩) (by show w.heap.size ≤ bS; have := HG.out.2.2; omega) (.int .i64 sd2))
              have wj : IntKind.i64.wrap ((j : Int) + 1) = (j : Int) + 1 := IntWalk.i64_in _ (by have := HJ.out.1; have := HL.out; omega)
              clear HS3 HR3 HN3 HW3 hgN hbs
              go_wp2_with fail
              go_roundg (l.length - (j + 1))
              case measure => have := HJ.out.1; have := HJ.out.2.2.1; omega
              case rel => exact ⟨j + 1, by push_cast; rfl, HJ.out.1, rfl, R4.out, N4.out, by rw [HSN.out.1, HSN.out.2]; exact S4.out, W4.out⟩
        · have hje : j = l.length := by omega
          subst hje
          have lt1 : decide ((l.length : Int) < (l.length : Int)) = false := decide_eq_false (by omega)
          have lt3 : decide (l.length < l.length) = false := decide_eq_false (by omega)
          rw [List.take_length] at hN hS
          rw [HI.out.sum, fr_all.1, fr_all.2] at hS
          have s0 : wr.cell? ⟨bS, 0, none⟩ = some (.int .i64 1) := hS.cell 0
          have s1 : wr.cell? ⟨bS, 1, none⟩ = some (.int .i64 1) := hS.cell 1
          obtain ⟨⟨n0, n1, n2, n3, n4⟩, _⟩ := five_cells hN
          have HW := Lib.hid hW
          clear hin hj hg hR hN hS hW
          have HC4 := cfg_four HI.out.cfg
          clear HI HL HG HBS R9 W9 N9 S9
          rcases HC4 with ⟨hl, q0, q1, q2, q3, q4⟩ | ⟨q0, q1, q2, q3⟩ | ⟨q0, q1, q3⟩ | ⟨q0, q1, q2, q4⟩
          · rw [q0] at n0; rw [q1] at n1; rw [q2] at n2; rw [q3] at n3; rw [q4] at n4
            rw [hl]
            simp only [Int.natCast_zero, Int.natCast_one] at n0 n1 n2 n3 n4 ⊢
            clear hl q0 q1 q2 q3 q4
            go_wp2_with fail
            go_ret
            exact ⟨rfl, HW.out⟩
          · rw [q0] at n0; rw [q1] at n1; rw [q2] at n2; rw [q3] at n3
            simp only [Int.natCast_zero, Int.natCast_one] at n0 n1 n2 n3
            clear q0 q1 q2 q3
            go_wp2_with fail
            go_ret
            exact ⟨rfl, HW.out⟩
          · rw [q0] at n0; rw [q1] at n1; rw [q3] at n3
            simp only [Int.natCast_zero] at n0 n1 n3
            clear q0 q1 q3
            generalize cntP l 2 = c2 at *
            by_cases hc : c2 = 0
            · subst hc
              go_wp2_with fail
              go_ret
              exact ⟨rfl, HW.out⟩
            · have g1 : decide ((c2 : Int) > 0) = true := decide_eq_true (by omega)
              have g2 : (0 : Int) < (c2 : Int) := by omega
              have g3 : decide (0 < c2) = true := decide_eq_true (by omega)
              clear hc
              go_wp2_with fail
              go_ret
              exact ⟨rfl, HW.out⟩
          · rw [q0] at n0; rw [q1] at n1; rw [q2] at n2; rw [q4] at n4
            simp only [Int.natCast_zero] at n0 n1 n2 n4
            clear q0 q1 q2 q4
            generalize cntP l 3 = c3 at *
            by_cases hc : c3 = 0
            · subst hc
              go_wp2_with fail
              go_ret
              exact ⟨rfl, HW.out⟩
            · have g1 : decide ((c3 : Int) > 0) = true := decide_eq_true (by omega)
              have g2 : (0 : Int) < (c3 : Int) := by omega
              have g3 : decide (0 < c3) = true := decide_eq_true (by omega)
              clear hc
              go_wp2_with fail
              go_ret
              exact ⟨rfl, HW.out⟩
end Go.Proofs.YthlogaenbnhobaaDoor
