/-
  The walks of package term's Right and of the reference's. (Template: by-name.py fills it.)
-/
import Derived.Test.YtkgndeiddjkhmaaDoorTermA
import Derived.Test.YtkgndeiddjkhmaaDoorNumK
namespace Go.Proofs.YtkgndeiddjkhmaaDoor
open Go.RowKit

/-- Is a term right? -/
def rightT (l : List (Int × Int)) (kn kd : Int) : Bool := decide (l.length ≤ 8) && rightB kn kd && allR l

set_option maxHeartbeats 2000000 in
theorem tright_any (w : World) (v : Value) (l : List (Int × Int)) (kn kd : Int) (h : RatsAt w v l) (hw : Wide l) (h1 : -9223372036854775808 ≤ kn) (h2 : kn ≤ 9223372036854775807) (h3 : -9223372036854775808 ≤ kd) (h4 : kd ≤ 9223372036854775807) :
    Calls Tryd.prog 15 #[.agg #[v, .int .i64 kn, .int .i64 kd]] w fun r w' => r = .returned (.bool (rightT l kn kd)) ∧ Below w.heap.size w w' := by
  have ra := fun w => right_any kn kd w h1 h2 h3 h4
  have al := Lib.hid (fun (w' : World) (hb : Below w.heap.size w w') => allright_any w' v l (h.below hb) hw)
  obtain ⟨A, c, rfl, h5, h6, _⟩ := id h
  have hn : l.length ≤ 9223372036854775807 := by unfold maxLen at h6; omega
  unfold rightT
  clear h hw h1 h2 h3 h4 h5 h6
  generalize rightB kn kd = R at *
  generalize allR l = Q at *
  generalize l.length = n at *
  have F := FracBox.start w (.slice A n c) (.int .i64 kn) (.int .i64 kd) 26
  have hb0 := below_alloc1 w (.cells #[.slice A n c, .int .i64 kn, .int .i64 kd] 26)
  by_cases hl : n ≤ 8
  · have i1 : (n : Int) ≤ 8 := by omega
    have i2 : decide ((n : Int) ≤ 8) = true := decide_eq_true i1
    rw [decide_eq_true hl]
    clear hl hn
    cases R
    · go_enter Tryd.func15, Tryd.ntmps15
      go_wp2_with (go_at_call 29; (with_reducible refine (ra _).mono ?_); rintro e w1 ⟨rfl, hb⟩)
      go_ret
      exact ⟨rfl, hb0.trans (hb.mono hb0.size)⟩
    · go_enter Tryd.func15, Tryd.ntmps15
      go_wp2_with (first
        | (go_at_call 29; (with_reducible refine (ra _).mono ?_); rintro e w1 ⟨rfl, hb⟩; have F := F.keep hb; have b1 := hb0.trans (hb.mono hb0.size); have k0 := F.k0; have k1 := F.k1; have k2 := F.k2)
        | (go_at_call 33; (with_reducible refine (al.out _ b1).mono ?_); rintro e w2 ⟨rfl, hb2⟩))
      go_ret
      exact ⟨rfl, b1.trans (hb2.mono b1.size)⟩
  · have i2 : decide ((n : Int) ≤ 8) = false := decide_eq_false (by omega)
    have i3 : ¬ (n : Int) ≤ 8 := by omega
    rw [decide_eq_false hl]
    clear hl hn
    go_enter Tryd.func15, Tryd.ntmps15
    go_wp2_with fail
    go_ret
    exact ⟨rfl, hb0⟩

/-- A fraction's place in a row, its cells as the walk spells them. -/
theorem rats_cells {w wr : World} {A : Option Addr} {n k : Nat} {l : List (Int × Int)} {x : Int × Int} (h4 : Reads w w.heap.size 2 A n (ratCells l)) (hb : Below w.heap.size w wr) (hx : l[k]? = some x) (hn : 0 < n) :
    ∃ ad, A = some ad ∧ wr.cell? (ad.add (k * 2)) = some (.int .i64 x.1) ∧ wr.cell? ⟨(ad.add (k * 2)).block, (ad.add (k * 2)).off + 1, none⟩ = some (.int .i64 x.2) := by
  obtain ⟨ad, rfl, c1, c2⟩ := rats_at h4 hx hn
  have hbk : ad.block < w.heap.size := by
    obtain ⟨_, e, hb, _⟩ := h4.2 hn
    injection e with e
    subst e
    exact hb
  have d1 := (hb.cell (p := ad.add (k * 2)) (by rw [block_of_add]; exact hbk)).trans c1
  have d2 := (hb.cell (p := ad.add (k * 2 + 1)) (by rw [block_of_add]; exact hbk)).trans c2
  rw [← add_of_add] at d2
  exact ⟨ad, rfl, d1, d2⟩

theorem rightT_bad {l : List (Int × Int)} {kn kd : Int} (h : allR l = false) : rightT l kn kd = false := by
  unfold rightT
  rw [h, Bool.and_false]

set_option maxHeartbeats 2000000 in
theorem r2right_any (w : World) (v : Value) (l : List (Int × Int)) (kn kd : Int) (h : RatsAt w v l) (hw : Wide l) (h1 : -9223372036854775808 ≤ kn) (h2 : kn ≤ 9223372036854775807) (h3 : -9223372036854775808 ≤ kd) (h4 : kd ≤ 9223372036854775807) :
    Calls Tryd.prog 16 #[.agg #[v, .int .i64 kn, .int .i64 kd]] w fun r w' => r = .returned (.bool (rightT l kn kd)) ∧ Below w.heap.size w w' := by
  have ra := Lib.hid (fun w => rright_any kn kd w h1 h2 h3 h4)
  obtain ⟨A, c, rfl, h5, h6, h7⟩ := id h
  obtain ⟨n, hn⟩ : ∃ n, n = l.length := ⟨_, rfl⟩
  have hmx : n ≤ 9223372036854775807 := by unfold maxLen at h6; omega
  rw [← hn] at h5 h7 ⊢
  have HN := Lib.hid (And.intro hn (And.intro hw hmx))
  have H7 := Lib.hid h7
  obtain ⟨V, hV⟩ : ∃ V, V = rightT l kn kd := ⟨_, rfl⟩
  rw [← hV]
  have HV := Lib.hid hV
  clear h hn hw h1 h2 h3 h4 h5 h6 h7 hmx hV
  have F := FracBox.start w (.slice A n c) (.int .i64 kn) (.int .i64 kd) 26
  have hb0 := below_alloc1 w (.cells #[.slice A n c, .int .i64 kn, .int .i64 kd] 26)
  go_enter Tryd.func16, Tryd.ntmps16
  go_wp2_with fail
  go_loopg [3] n (fun g v3 wr => ∃ k : Nat, v3 = .int .i64 k ∧ k ≤ n ∧ g = n - k ∧ allR (l.take k) = true ∧ FracBox wr w.heap.size (.slice A n c) (.int .i64 kn) (.int .i64 kd) ∧ Below w.heap.size w wr)
  case atStart => exact ⟨0, rfl, Nat.zero_le _, rfl, by rw [List.take_zero]; rfl, F, hb0⟩
  case round =>
    clear F hb0
    obtain ⟨k, rfl, hk, hg, hall, F, hb⟩ := hrel
    have k0 := F.k0; have k1 := F.k1; have k2 := F.k2
    by_cases hkn : k = n
    · have hal : allR l = true := by rw [hkn, HN.out.1, List.take_length] at hall; exact hall
      have hv := HV.out
      unfold rightT at hv
      rw [hal, Bool.and_true, ← HN.out.1] at hv
      subst hkn
      have HB := Lib.hid hb
      by_cases hl : k ≤ 8
      · rw [decide_eq_true hl, Bool.true_and] at hv
        have i1 : (k : Int) ≤ 8 := by omega
        have i2 : decide ((k : Int) ≤ 8) = true := decide_eq_true i1
        have ra := ra.out
        rw [← hv] at ra
        clear hk hg hall hb hal hv hl F
        go_wp2_with (go_at_call 34; (with_reducible refine (ra _).mono ?_); rintro e w1 ⟨rfl, hb1⟩)
        go_ret
        exact ⟨rfl, HB.out.trans (hb1.mono HB.out.size)⟩
      · rw [decide_eq_false hl, Bool.false_and] at hv
        have i1 : ¬ (k : Int) ≤ 8 := by omega
        have i2 : decide ((k : Int) ≤ 8) = false := decide_eq_false i1
        subst hv
        clear hk hg hall hb hal hl F
        go_wp2_with fail
        go_ret
        exact ⟨rfl, HB.out⟩
    · have hlt : k < n := by omega
      obtain ⟨x, hx⟩ : ∃ x, l[k]? = some x := ⟨_, List.getElem?_eq_getElem (by have := HN.out.1; omega)⟩
      obtain ⟨ad, rfl, d1, d3⟩ := rats_cells H7.out hb hx (by omega)
      obtain ⟨hx1, hx2⟩ := HN.out.2.1 x (List.mem_of_getElem? hx)
      have nr := fun w => rright_any x.1 x.2 w hx1.1 hx1.2 hx2.1 hx2.2
      have nxt := allR_take hx hall
      have bad := @allR_bad l k x hx
      have i1 : (k : Int) < (n : Int) := by omega
      have i2 : (0 : Int) ≤ (k : Int) := by omega
      have wk : IntKind.i64.wrap ((k : Int) + 1) = (k : Int) + 1 := IntWalk.i64_in _ (by have := HN.out; omega)
      generalize rightB x.1 x.2 = R at *
      generalize x.1 = xn at *
      generalize x.2 = xd at *
      have HK := Lib.hid (And.intro hlt (And.intro hg hb))
      have NX := Lib.hid (And.intro nxt bad)
      have HF := Lib.hid F
      clear hk hg hall hb hkn hlt hx hx1 hx2 nxt bad F
      cases R
      · obtain rfl : V = false := HV.out.trans (rightT_bad (NX.out.2 rfl))
        go_wp2_with (go_at_call 34; (with_reducible refine (nr _).mono ?_); rintro e w1 ⟨rfl, hb1⟩)
        go_ret
        exact ⟨rfl, HK.out.2.2.trans (hb1.mono HK.out.2.2.size)⟩
      · go_wp2_with (go_at_call 34; (with_reducible refine (nr _).mono ?_); rintro e w1 ⟨rfl, hb1⟩)
        go_roundg (n - (k + 1))
        case measure => have := HK.out; omega
        case rel => exact ⟨k + 1, by push_cast; rfl, by have := HK.out; omega, rfl, NX.out.1, HF.out.keep hb1, HK.out.2.2.trans (hb1.mono HK.out.2.2.size)⟩
end Go.Proofs.YtkgndeiddjkhmaaDoor
