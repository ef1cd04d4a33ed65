/-
  The walk of the law TermTexts. (Template: by-name.py fills it; gen/genTexts.py writes it.)
-/
import Derived.Test.YtkgndeiddjkhmaaDoorTextD
import Derived.Test.YtkgndeiddjkhmaaDoorTermY
import Derived.Test.YtkgndeiddjkhmaaDoorTermN
namespace Go.Proofs.YtkgndeiddjkhmaaDoor
open Go.RowKit

theorem sameT_self {l : List (Int × Int)} {kn kd : Int} : sameT l kn kd l kn kd = rightT l kn kd := by
  unfold sameT
  cases rightT l kn kd <;> simp
theorem sameT_right {l m : List (Int × Int)} {kn kd kn' kd' : Int} (hr : rightT l kn kd = true) (hr' : rightT m kn' kd' = true) : decide (trimL l = trimL m ∧ kn = kn' ∧ kd = kd') = sameT l kn kd m kn' kd' := by
  unfold sameT
  rw [hr, hr', Bool.eq_iff_iff]
  simp
  exact And.comm
theorem names_shape {w : World} {v : Value} {ns : List (List UInt8)} (h : NamesAt w v ns) : ∃ A c, v = .slice A ns.length c := by
  obtain ⟨A, c, e, _⟩ := h
  exact ⟨A, c, e⟩

set_option maxRecDepth 4000 in
set_option maxHeartbeats 8000000 in
theorem texts_a (w : World) (ht : Pow10 w) (sa : Value) (l : List (Int × Int)) (xn xd : Int) (ha : RatsAt w sa l) (hl : Wide l) (x1 : -9223372036854775808 ≤ xn) (x2 : xn ≤ 9223372036854775807) (x3 : -9223372036854775808 ≤ xd) (x4 : xd ≤ 9223372036854775807) (sb : Value) (m : List (Int × Int)) (yn yd : Int) (hb : RatsAt w sb m) (hm : Wide m) (y1 : -9223372036854775808 ≤ yn) (y2 : yn ≤ 9223372036854775807) (y3 : -9223372036854775808 ≤ yd) (y4 : yd ≤ 9223372036854775807) (nv : Value) (ns : List (List UInt8)) (hN : NamesAt w nv ns) (hsz : ∀ k, (nameL ns k).length ≤ 1099511627776) (hl12 : l.length ≤ 12) (hm12 : m.length ≤ 12) (hn12 : ns.length ≤ 12) (hr : rightT l xn xd = false) :
    Calls Tryd.prog 5 #[.agg #[sa, .int .i64 xn, .int .i64 xd], .agg #[sb, .int .i64 yn, .int .i64 yd], nv] w fun r w' => r = .returned (.bool true) ∧ Below w.heap.size w w' := by
  have ra := fun (w' : World) (h : Below w.heap.size w w') => r2right_any w' sa l xn xd (ha.below h) hl x1 x2 x3 x4
  have rb := fun (w' : World) (h : Below w.heap.size w w') => r2right_any w' sb m yn yd (hb.below h) hm y1 y2 y3 y4
  have c1 := fun (w' : World) (h : Below w.heap.size w w') => tshow_any w' (pow10_on ht h) sa nv l xn xd ns (ha.below h) hl x1 x2 x3 x4 (hN.below h) hsz
  have c2 := fun (w' : World) (h : Below w.heap.size w w') => rtshow_any w' sa nv l xn xd ns (ha.below h) hl x1 x2 x3 x4 (hN.below h) hsz
  have c3 := fun (w' : World) (h : Below w.heap.size w w') => same_any w' sa sb l m xn xd yn yd (ha.below h) hl (hb.below h) hm x1 x2 x3 x4 y1 y2 y3 y4
  have c4 := fun (w' : World) (h : Below w.heap.size w w') => same_any w' sa sa l l xn xd xn xd (ha.below h) hl (ha.below h) hl x1 x2 x3 x4 x1 x2 x3 x4
  rw [sameT_self] at c4
  have z1 := fun (w' : World) (h : Below w.heap.size w w') => small_any w' sa l xn xd (ha.below h)
  rw [decide_eq_true hl12] at z1
  have z2 := fun (w' : World) (h : Below w.heap.size w w') => small_any w' sb m yn yd (hb.below h)
  rw [decide_eq_true hm12] at z2
  have e : sameT l xn xd m yn yd = false := by unfold sameT; rw [hr]; rfl
  rw [e] at c3
  rw [hr] at ra c4
  clear e hr
  generalize showT ns l xn xd = tx at *
  have RA := Lib.hid ra; have RB := Lib.hid rb; have C1 := Lib.hid c1; have C2 := Lib.hid c2; have C3 := Lib.hid c3; have C4 := Lib.hid c4; have Z1 := Lib.hid z1; have Z2 := Lib.hid z2
  have AW := Lib.hid (fun (w' : World) (hb : Below w.heap.size w w') => awake2_yes w' (pow10_on ht hb))
  obtain ⟨A, c, rfl⟩ := rats_shape ha
  obtain ⟨B, d, rfl⟩ := rats_shape hb
  obtain ⟨Q, f, rfl⟩ := names_shape hN
  have q13 : ¬ (12 : Int) < (ns.length : Int) := by omega
  have q12 : decide ((ns.length : Int) > 12) = false := decide_eq_false q13
  have q14 : decide (12 < ns.length) = false := decide_eq_false (by omega)
  clear ht ha hl hb hm hN hsz x1 x2 x3 x4 y1 y2 y3 y4 ra rb c1 c2 c3 c4 z1 z2 hl12 hm12 hn12
  generalize l.length = la at *
  generalize m.length = lb at *
  generalize ns.length = ln at *
  have HS := same_start2 w A B la c lb d xn xd yn yd
  go_enter Tryd.func5, Tryd.ntmps5
  go_upto_region 3 with (first
    | (go_at_call 9; (with_reducible refine (AW.out _ (same_below HS)).mono ?_); rintro e w1 ⟨rfl, hq⟩; have HS := keep_same hq HS; obtain ⟨⟨a0, a1, a2, b0, b1, b2⟩, _, _⟩ := id HS; clear hq)
    | (go_at_call 10; (first | with_reducible refine (Z1.out _ (same_below HS)).mono ?_ | with_reducible refine (Z2.out _ (same_below HS)).mono ?_); rintro e w2 ⟨rfl, hq⟩; have HS := keep_same hq HS; obtain ⟨⟨a0, a1, a2, b0, b1, b2⟩, _, _⟩ := id HS; clear hq))
  clear q12 q13 q14
  have HS := keep_same (below_drew _) HS
  refine wp_region_noPanic ?_
  refine wp_region_held_drew (S := (fun w' => (w'.cell? ⟨w.heap.size, 0, none⟩ = some (.slice A la c) ∧ w'.cell? ⟨w.heap.size, 1, none⟩ = some (.int .i64 xn) ∧ w'.cell? ⟨w.heap.size, 2, none⟩ = some (.int .i64 xd) ∧ w'.cell? ⟨w.heap.size + 1, 0, none⟩ = some (.slice B lb d) ∧ w'.cell? ⟨w.heap.size + 1, 1, none⟩ = some (.int .i64 yn) ∧ w'.cell? ⟨w.heap.size + 1, 2, none⟩ = some (.int .i64 yd)) ∧ w.heap.size + 1 < w'.heap.size ∧ Below w.heap.size w w')) (by kernel_rfl) HS (fun hHeld => ?_)
  clear HS a0 a1 a2 b0 b1 b2
  refine wpAnyH_take (i := 0) (oi := _) (v := ?_) rfl (by kernel_rfl) (by kernel_rfl) (by kernel_rfl) (fun _ _ _ h => h) (Or.inl ⟨by rfl, ?_⟩) (by assumption) ?_
  rotate_left
  · intro ww hSw
    (try dsimp only at hSw)
    go_simp <;> with_reducible rfl
  (try simp only [List.getElem_toArray, List.getElem_cons_zero, Act.put, List.setIfInBounds_toArray, List.set_cons_zero, List.set_cons_succ])
  refine wpAnyH_ready (rs := [1]) (by kernel_rfl) (by simp) ?_
  refine AllReadyH.cons (o := _) rfl (fun K hK => ?_) AllReadyH.nil
  go_simp
  (go_at_call 16; (first | with_reducible refine (RA.out _ (same_below hHeld)).mono ?_ | with_reducible refine (RB.out _ (same_below hHeld)).mono ?_); rintro e w3 ⟨rfl, hb⟩)
  go_wp2_with fail
  refine hK.out _ _ (keep_same hb hHeld) (fun hH2 => ?_)
  clear hK K hHeld hb
  have hHeld := hH2
  clear hH2
  (try simp only [List.getElem_toArray, List.getElem_cons_succ, List.getElem_cons_zero, Act.put, List.setIfInBounds_toArray, List.set_cons_zero, List.set_cons_succ])
  refine wpAnyH_take (i := 2) (oi := _) (v := ?_) rfl (by kernel_rfl) (by kernel_rfl) (by kernel_rfl) (fun _ _ _ h => h) (Or.inl ⟨by rfl, ?_⟩) (by assumption) ?_
  rotate_left
  · intro ww hSw
    (try dsimp only at hSw)
    go_simp <;> with_reducible rfl
  (try simp only [List.getElem_toArray, List.getElem_cons_succ, List.getElem_cons_zero, Act.put, List.setIfInBounds_toArray, List.set_cons_zero, List.set_cons_succ])
  refine wpAnyH_take (i := 3) (oi := _) (v := undef) rfl (by kernel_rfl) (by kernel_rfl) (by kernel_rfl) (fun _ _ _ h => h) (Or.inr ⟨by rfl, rfl⟩) (by assumption) ?_
  (try simp only [List.getElem_toArray, List.getElem_cons_succ, List.getElem_cons_zero, Act.put, List.setIfInBounds_toArray, List.set_cons_zero, List.set_cons_succ])
  refine wpAnyH_take (i := 4) (oi := _) (v := undef) rfl (by kernel_rfl) (by kernel_rfl) (by kernel_rfl) (fun _ _ _ h => h) (Or.inr ⟨by rfl, rfl⟩) (by assumption) ?_
  (try simp only [List.getElem_toArray, List.getElem_cons_succ, List.getElem_cons_zero, Act.put, List.setIfInBounds_toArray, List.set_cons_zero, List.set_cons_succ])
  refine wpAnyH_take (i := 5) (oi := _) (v := ?_) rfl (by kernel_rfl) (by kernel_rfl) (by kernel_rfl) (fun _ _ _ h => h) (Or.inl ⟨by rfl, ?_⟩) (by assumption) ?_
  rotate_left
  · intro ww hSw
    (try dsimp only at hSw)
    go_simp <;> with_reducible rfl
  (try simp only [List.getElem_toArray, List.getElem_cons_succ, List.getElem_cons_zero, Act.put, List.setIfInBounds_toArray, List.set_cons_zero, List.set_cons_succ])
  refine wpAnyH_take (i := 6) (oi := _) (v := ?_) rfl (by kernel_rfl) (by kernel_rfl) (by kernel_rfl) (fun _ _ _ h => h) (Or.inl ⟨by rfl, ?_⟩) (by assumption) ?_
  rotate_left
  · intro ww hSw
    (try dsimp only at hSw)
    go_simp <;> with_reducible rfl
  (try simp only [List.getElem_toArray, List.getElem_cons_succ, List.getElem_cons_zero, Act.put, List.setIfInBounds_toArray, List.set_cons_zero, List.set_cons_succ])
  refine wpAnyH_take (i := 7) (oi := _) (v := undef) rfl (by kernel_rfl) (by kernel_rfl) (by kernel_rfl) (fun _ _ _ h => h) (Or.inr ⟨by rfl, rfl⟩) (by assumption) ?_
  (try simp only [List.getElem_toArray, List.getElem_cons_succ, List.getElem_cons_zero, Act.put, List.setIfInBounds_toArray, List.set_cons_zero, List.set_cons_succ])
  refine wpAnyH_take (i := 8) (oi := _) (v := undef) rfl (by kernel_rfl) (by kernel_rfl) (by kernel_rfl) (fun _ _ _ h => h) (Or.inr ⟨by rfl, rfl⟩) (by assumption) ?_
  (try simp only [List.getElem_toArray, List.getElem_cons_succ, List.getElem_cons_zero, Act.put, List.setIfInBounds_toArray, List.set_cons_zero, List.set_cons_succ])
  refine wpAnyH_take (i := 9) (oi := _) (v := undef) rfl (by kernel_rfl) (by kernel_rfl) (by kernel_rfl) (fun _ _ _ h => h) (Or.inr ⟨by rfl, rfl⟩) (by assumption) ?_
  (try simp only [List.getElem_toArray, List.getElem_cons_succ, List.getElem_cons_zero, Act.put, List.setIfInBounds_toArray, List.set_cons_zero, List.set_cons_succ])
  refine wpAnyH_take (i := 10) (oi := _) (v := undef) rfl (by kernel_rfl) (by kernel_rfl) (by kernel_rfl) (fun _ _ _ h => h) (Or.inr ⟨by rfl, rfl⟩) (by assumption) ?_
  (try simp only [List.getElem_toArray, List.getElem_cons_succ, List.getElem_cons_zero, Act.put, List.setIfInBounds_toArray, List.set_cons_zero, List.set_cons_succ])
  refine wpAnyH_take (i := 11) (oi := _) (v := undef) rfl (by kernel_rfl) (by kernel_rfl) (by kernel_rfl) (fun _ _ _ h => h) (Or.inr ⟨by rfl, rfl⟩) (by assumption) ?_
  (try simp only [List.getElem_toArray, List.getElem_cons_succ, List.getElem_cons_zero, Act.put, List.setIfInBounds_toArray, List.set_cons_zero, List.set_cons_succ])
  refine wpAnyH_take (i := 12) (oi := _) (v := ?_) rfl (by kernel_rfl) (by kernel_rfl) (by kernel_rfl) (fun _ _ _ h => h) (Or.inl ⟨by rfl, ?_⟩) (by assumption) ?_
  rotate_left
  · intro ww hSw
    (try dsimp only at hSw)
    go_simp <;> with_reducible rfl
  (try simp only [List.getElem_toArray, List.getElem_cons_succ, List.getElem_cons_zero, Act.put, List.setIfInBounds_toArray, List.set_cons_zero, List.set_cons_succ])
  refine wpAnyH_take (i := 13) (oi := _) (v := ?_) rfl (by kernel_rfl) (by kernel_rfl) (by kernel_rfl) (fun _ _ _ h => h) (Or.inl ⟨by rfl, ?_⟩) (by assumption) ?_
  rotate_left
  · intro ww hSw
    (try dsimp only at hSw)
    go_simp <;> with_reducible rfl
  (try simp only [List.getElem_toArray, List.getElem_cons_succ, List.getElem_cons_zero, Act.put, List.setIfInBounds_toArray, List.set_cons_zero, List.set_cons_succ])
  refine wpAnyH_done (by kernel_rfl) ?_ _
  refine NoPanic.normal ?_
  have HS := keep_same (below_drew _) hHeld
  clear hHeld
  go_upto_region 4 with fail
  refine wp_region_noPanic ?_
  refine wp_region_held_drew (S := (fun w' => (w'.cell? ⟨w.heap.size, 0, none⟩ = some (.slice A la c) ∧ w'.cell? ⟨w.heap.size, 1, none⟩ = some (.int .i64 xn) ∧ w'.cell? ⟨w.heap.size, 2, none⟩ = some (.int .i64 xd) ∧ w'.cell? ⟨w.heap.size + 1, 0, none⟩ = some (.slice B lb d) ∧ w'.cell? ⟨w.heap.size + 1, 1, none⟩ = some (.int .i64 yn) ∧ w'.cell? ⟨w.heap.size + 1, 2, none⟩ = some (.int .i64 yd)) ∧ w.heap.size + 1 < w'.heap.size ∧ Below w.heap.size w w')) (by kernel_rfl) HS (fun hHeld => ?_)
  clear HS
  refine wpAnyH_take (i := 0) (oi := _) (v := ?_) rfl (by kernel_rfl) (by kernel_rfl) (by kernel_rfl) (fun _ _ _ h => h) (Or.inl ⟨by rfl, ?_⟩) (by assumption) ?_
  rotate_left
  · intro ww hSw
    (try dsimp only at hSw)
    go_simp <;> with_reducible rfl
  (try simp only [List.getElem_toArray, List.getElem_cons_zero, Act.put, List.setIfInBounds_toArray, List.set_cons_zero, List.set_cons_succ])
  refine wpAnyH_take (i := 1) (oi := _) (v := ?_) rfl (by kernel_rfl) (by kernel_rfl) (by kernel_rfl) (fun _ _ _ h => h) (Or.inl ⟨by rfl, ?_⟩) (by assumption) ?_
  rotate_left
  · intro ww hSw
    (try dsimp only at hSw)
    go_simp <;> with_reducible rfl
  (try simp only [List.getElem_toArray, List.getElem_cons_succ, List.getElem_cons_zero, Act.put, List.setIfInBounds_toArray, List.set_cons_zero, List.set_cons_succ])
  refine wpAnyH_take (i := 3) (oi := _) (v := ?_) rfl (by kernel_rfl) (by kernel_rfl) (by kernel_rfl) (fun _ _ _ h => h) (Or.inl ⟨by rfl, ?_⟩) (by assumption) ?_
  rotate_left
  · intro ww hSw
    (try dsimp only at hSw)
    go_simp <;> with_reducible rfl
  (try simp only [List.getElem_toArray, List.getElem_cons_succ, List.getElem_cons_zero, Act.put, List.setIfInBounds_toArray, List.set_cons_zero, List.set_cons_succ])
  refine wpAnyH_take (i := 4) (oi := _) (v := ?_) rfl (by kernel_rfl) (by kernel_rfl) (by kernel_rfl) (fun _ _ _ h => h) (Or.inl ⟨by rfl, ?_⟩) (by assumption) ?_
  rotate_left
  · intro ww hSw
    (try dsimp only at hSw)
    go_simp <;> with_reducible rfl
  (try simp only [List.getElem_toArray, List.getElem_cons_succ, List.getElem_cons_zero, Act.put, List.setIfInBounds_toArray, List.set_cons_zero, List.set_cons_succ])
  refine wpAnyH_ready (rs := [2]) (by kernel_rfl) (by simp) ?_
  refine AllReadyH.cons (o := _) rfl (fun K hK => ?_) AllReadyH.nil
  go_simp
  (first
    | (go_at_call 24; (with_reducible refine (C1.out _ (same_below hHeld)).mono ?_); rintro e w7 ⟨rfl, hb⟩)
    | (go_at_call 25; (with_reducible refine (C2.out _ (same_below hHeld)).mono ?_); rintro e w8 ⟨rfl, hb⟩)
    | (go_at_call 26; (first | with_reducible refine (C3.out _ (same_below hHeld)).mono ?_ | with_reducible refine (C4.out _ (same_below hHeld)).mono ?_); rintro e w9 ⟨rfl, hb⟩)
    | (go_at_call 16; (first | with_reducible refine (RA.out _ (same_below hHeld)).mono ?_ | with_reducible refine (RB.out _ (same_below hHeld)).mono ?_); rintro e w3 ⟨rfl, hb⟩))
  go_wp2_with fail
  refine hK.out _ _ (keep_same hb hHeld) (fun hH2 => ?_)
  clear hK K hHeld hb
  have hHeld := hH2
  clear hH2
  (try simp only [List.getElem_toArray, List.getElem_cons_succ, List.getElem_cons_zero, Act.put, List.setIfInBounds_toArray, List.set_cons_zero, List.set_cons_succ])
  refine wpAnyH_ready (rs := [5]) (by kernel_rfl) (by simp) ?_
  refine AllReadyH.cons (o := _) rfl (fun K hK => ?_) AllReadyH.nil
  go_simp
  (first
    | (go_at_call 24; (with_reducible refine (C1.out _ (same_below hHeld)).mono ?_); rintro e w7 ⟨rfl, hb⟩)
    | (go_at_call 25; (with_reducible refine (C2.out _ (same_below hHeld)).mono ?_); rintro e w8 ⟨rfl, hb⟩)
    | (go_at_call 26; (first | with_reducible refine (C3.out _ (same_below hHeld)).mono ?_ | with_reducible refine (C4.out _ (same_below hHeld)).mono ?_); rintro e w9 ⟨rfl, hb⟩)
    | (go_at_call 16; (first | with_reducible refine (RA.out _ (same_below hHeld)).mono ?_ | with_reducible refine (RB.out _ (same_below hHeld)).mono ?_); rintro e w3 ⟨rfl, hb⟩))
  go_wp2_with fail
  refine hK.out _ _ (keep_same hb hHeld) (fun hH2 => ?_)
  clear hK K hHeld hb
  have hHeld := hH2
  clear hH2
  (try simp only [List.getElem_toArray, List.getElem_cons_succ, List.getElem_cons_zero, Act.put, List.setIfInBounds_toArray, List.set_cons_zero, List.set_cons_succ])
  refine wpAnyH_take (i := 6) (oi := _) (v := ?_) rfl (by kernel_rfl) (by kernel_rfl) (by kernel_rfl) (fun _ _ _ h => h) (Or.inl ⟨by rfl, ?_⟩) (by assumption) ?_
  rotate_left
  · intro ww hSw
    (try dsimp only at hSw)
    go_simp <;> with_reducible rfl
  (try simp only [List.getElem_toArray, List.getElem_cons_succ, List.getElem_cons_zero, Act.put, List.setIfInBounds_toArray, List.set_cons_zero, List.set_cons_succ])
  refine wpAnyH_take (i := 7) (oi := _) (v := ?_) rfl (by kernel_rfl) (by kernel_rfl) (by kernel_rfl) (fun _ _ _ h => h) (Or.inl ⟨by rfl, ?_⟩) (by assumption) ?_
  rotate_left
  · intro ww hSw
    (try dsimp only at hSw)
    go_simp <;> with_reducible rfl
  (try simp only [List.getElem_toArray, List.getElem_cons_succ, List.getElem_cons_zero, Act.put, List.setIfInBounds_toArray, List.set_cons_zero, List.set_cons_succ])
  refine wpAnyH_take (i := 8) (oi := _) (v := ?_) rfl (by kernel_rfl) (by kernel_rfl) (by kernel_rfl) (fun _ _ _ h => h) (Or.inl ⟨by rfl, ?_⟩) (by assumption) ?_
  rotate_left
  · intro ww hSw
    (try dsimp only at hSw)
    go_simp <;> with_reducible rfl
  (try simp only [List.getElem_toArray, List.getElem_cons_succ, List.getElem_cons_zero, Act.put, List.setIfInBounds_toArray, List.set_cons_zero, List.set_cons_succ])
  refine wpAnyH_take (i := 9) (oi := _) (v := ?_) rfl (by kernel_rfl) (by kernel_rfl) (by kernel_rfl) (fun _ _ _ h => h) (Or.inl ⟨by rfl, ?_⟩) (by assumption) ?_
  rotate_left
  · intro ww hSw
    (try dsimp only at hSw)
    go_simp <;> with_reducible rfl
  (try simp only [List.getElem_toArray, List.getElem_cons_succ, List.getElem_cons_zero, Act.put, List.setIfInBounds_toArray, List.set_cons_zero, List.set_cons_succ])
  refine wpAnyH_take (i := 11) (oi := _) (v := ?_) rfl (by kernel_rfl) (by kernel_rfl) (by kernel_rfl) (fun _ _ _ h => h) (Or.inl ⟨by rfl, ?_⟩) (by assumption) ?_
  rotate_left
  · intro ww hSw
    (try dsimp only at hSw)
    go_simp <;> with_reducible rfl
  (try simp only [List.getElem_toArray, List.getElem_cons_succ, List.getElem_cons_zero, Act.put, List.setIfInBounds_toArray, List.set_cons_zero, List.set_cons_succ])
  refine wpAnyH_ready (rs := [10]) (by kernel_rfl) (by simp) ?_
  refine AllReadyH.cons (o := _) rfl (fun K hK => ?_) AllReadyH.nil
  go_simp
  (first
    | (go_at_call 24; (with_reducible refine (C1.out _ (same_below hHeld)).mono ?_); rintro e w7 ⟨rfl, hb⟩)
    | (go_at_call 25; (with_reducible refine (C2.out _ (same_below hHeld)).mono ?_); rintro e w8 ⟨rfl, hb⟩)
    | (go_at_call 26; (first | with_reducible refine (C3.out _ (same_below hHeld)).mono ?_ | with_reducible refine (C4.out _ (same_below hHeld)).mono ?_); rintro e w9 ⟨rfl, hb⟩)
    | (go_at_call 16; (first | with_reducible refine (RA.out _ (same_below hHeld)).mono ?_ | with_reducible refine (RB.out _ (same_below hHeld)).mono ?_); rintro e w3 ⟨rfl, hb⟩))
  go_wp2_with fail
  refine hK.out _ _ (keep_same hb hHeld) (fun hH2 => ?_)
  clear hK K hHeld hb
  have hHeld := hH2
  clear hH2
  (try simp only [List.getElem_toArray, List.getElem_cons_succ, List.getElem_cons_zero, Act.put, List.setIfInBounds_toArray, List.set_cons_zero, List.set_cons_succ])
  refine wpAnyH_take (i := 12) (oi := _) (v := ?_) rfl (by kernel_rfl) (by kernel_rfl) (by kernel_rfl) (fun _ _ _ h => h) (Or.inl ⟨by rfl, ?_⟩) (by assumption) ?_
  rotate_left
  · intro ww hSw
    (try dsimp only at hSw)
    go_simp <;> with_reducible rfl
  (try simp only [List.getElem_toArray, List.getElem_cons_succ, List.getElem_cons_zero, Act.put, List.setIfInBounds_toArray, List.set_cons_zero, List.set_cons_succ])
  refine wpAnyH_take (i := 13) (oi := _) (v := ?_) rfl (by kernel_rfl) (by kernel_rfl) (by kernel_rfl) (fun _ _ _ h => h) (Or.inl ⟨by rfl, ?_⟩) (by assumption) ?_
  rotate_left
  · intro ww hSw
    (try dsimp only at hSw)
    go_simp <;> with_reducible rfl
  (try simp only [List.getElem_toArray, List.getElem_cons_succ, List.getElem_cons_zero, Act.put, List.setIfInBounds_toArray, List.set_cons_zero, List.set_cons_succ])
  refine wpAnyH_take (i := 14) (oi := _) (v := ?_) rfl (by kernel_rfl) (by kernel_rfl) (by kernel_rfl) (fun _ _ _ h => h) (Or.inl ⟨by rfl, ?_⟩) (by assumption) ?_
  rotate_left
  · intro ww hSw
    (try dsimp only at hSw)
    go_simp <;> with_reducible rfl
  (try simp only [List.getElem_toArray, List.getElem_cons_succ, List.getElem_cons_zero, Act.put, List.setIfInBounds_toArray, List.set_cons_zero, List.set_cons_succ])
  refine wpAnyH_take (i := 15) (oi := _) (v := ?_) rfl (by kernel_rfl) (by kernel_rfl) (by kernel_rfl) (fun _ _ _ h => h) (Or.inl ⟨by rfl, ?_⟩) (by assumption) ?_
  rotate_left
  · intro ww hSw
    (try dsimp only at hSw)
    go_simp <;> with_reducible rfl
  (try simp only [List.getElem_toArray, List.getElem_cons_succ, List.getElem_cons_zero, Act.put, List.setIfInBounds_toArray, List.set_cons_zero, List.set_cons_succ])
  refine wpAnyH_take (i := 16) (oi := _) (v := ?_) rfl (by kernel_rfl) (by kernel_rfl) (by kernel_rfl) (fun _ _ _ h => h) (Or.inl ⟨by rfl, ?_⟩) (by assumption) ?_
  rotate_left
  · intro ww hSw
    (try dsimp only at hSw)
    go_simp <;> with_reducible rfl
  (try simp only [List.getElem_toArray, List.getElem_cons_succ, List.getElem_cons_zero, Act.put, List.setIfInBounds_toArray, List.set_cons_zero, List.set_cons_succ])
  refine wpAnyH_take (i := 18) (oi := _) (v := ?_) rfl (by kernel_rfl) (by kernel_rfl) (by kernel_rfl) (fun _ _ _ h => h) (Or.inl ⟨by rfl, ?_⟩) (by assumption) ?_
  rotate_left
  · intro ww hSw
    (try dsimp only at hSw)
    go_simp <;> with_reducible rfl
  (try simp only [List.getElem_toArray, List.getElem_cons_succ, List.getElem_cons_zero, Act.put, List.setIfInBounds_toArray, List.set_cons_zero, List.set_cons_succ])
  refine wpAnyH_ready (rs := [17]) (by kernel_rfl) (by simp) ?_
  refine AllReadyH.cons (o := _) rfl (fun K hK => ?_) AllReadyH.nil
  go_simp
  (first
    | (go_at_call 24; (with_reducible refine (C1.out _ (same_below hHeld)).mono ?_); rintro e w7 ⟨rfl, hb⟩)
    | (go_at_call 25; (with_reducible refine (C2.out _ (same_below hHeld)).mono ?_); rintro e w8 ⟨rfl, hb⟩)
    | (go_at_call 26; (first | with_reducible refine (C3.out _ (same_below hHeld)).mono ?_ | with_reducible refine (C4.out _ (same_below hHeld)).mono ?_); rintro e w9 ⟨rfl, hb⟩)
    | (go_at_call 16; (first | with_reducible refine (RA.out _ (same_below hHeld)).mono ?_ | with_reducible refine (RB.out _ (same_below hHeld)).mono ?_); rintro e w3 ⟨rfl, hb⟩))
  go_wp2_with fail
  refine hK.out _ _ (keep_same hb hHeld) (fun hH2 => ?_)
  clear hK K hHeld hb
  have hHeld := hH2
  clear hH2
  (try simp only [List.getElem_toArray, List.getElem_cons_succ, List.getElem_cons_zero, Act.put, List.setIfInBounds_toArray, List.set_cons_zero, List.set_cons_succ])
  refine wpAnyH_ready (rs := [19]) (by kernel_rfl) (by simp) ?_
  refine AllReadyH.cons (o := _) rfl (fun K hK => ?_) AllReadyH.nil
  go_simp
  (first
    | (go_at_call 24; (with_reducible refine (C1.out _ (same_below hHeld)).mono ?_); rintro e w7 ⟨rfl, hb⟩)
    | (go_at_call 25; (with_reducible refine (C2.out _ (same_below hHeld)).mono ?_); rintro e w8 ⟨rfl, hb⟩)
    | (go_at_call 26; (first | with_reducible refine (C3.out _ (same_below hHeld)).mono ?_ | with_reducible refine (C4.out _ (same_below hHeld)).mono ?_); rintro e w9 ⟨rfl, hb⟩)
    | (go_at_call 16; (first | with_reducible refine (RA.out _ (same_below hHeld)).mono ?_ | with_reducible refine (RB.out _ (same_below hHeld)).mono ?_); rintro e w3 ⟨rfl, hb⟩))
  go_wp2_with fail
  refine hK.out _ _ (keep_same hb hHeld) (fun hH2 => ?_)
  clear hK K hHeld hb
  have hHeld := hH2
  clear hH2
  (try simp only [List.getElem_toArray, List.getElem_cons_succ, List.getElem_cons_zero, Act.put, List.setIfInBounds_toArray, List.set_cons_zero, List.set_cons_succ])
  refine wpAnyH_take (i := 20) (oi := _) (v := ?_) rfl (by kernel_rfl) (by kernel_rfl) (by kernel_rfl) (fun _ _ _ h => h) (Or.inl ⟨by rfl, ?_⟩) (by assumption) ?_
  rotate_left
  · intro ww hSw
    (try dsimp only at hSw)
    go_simp <;> with_reducible rfl
  (try simp only [List.getElem_toArray, List.getElem_cons_succ, List.getElem_cons_zero, Act.put, List.setIfInBounds_toArray, List.set_cons_zero, List.set_cons_succ])
  refine wpAnyH_take (i := 21) (oi := _) (v := ?_) rfl (by kernel_rfl) (by kernel_rfl) (by kernel_rfl) (fun _ _ _ h => h) (Or.inl ⟨by rfl, ?_⟩) (by assumption) ?_
  rotate_left
  · intro ww hSw
    (try dsimp only at hSw)
    go_simp <;> with_reducible rfl
  (try simp only [List.getElem_toArray, List.getElem_cons_succ, List.getElem_cons_zero, Act.put, List.setIfInBounds_toArray, List.set_cons_zero, List.set_cons_succ])
  refine wpAnyH_take (i := 22) (oi := _) (v := ?_) rfl (by kernel_rfl) (by kernel_rfl) (by kernel_rfl) (fun _ _ _ h => h) (Or.inl ⟨by rfl, ?_⟩) (by assumption) ?_
  rotate_left
  · intro ww hSw
    (try dsimp only at hSw)
    go_simp <;> with_reducible rfl
  (try simp only [List.getElem_toArray, List.getElem_cons_succ, List.getElem_cons_zero, Act.put, List.setIfInBounds_toArray, List.set_cons_zero, List.set_cons_succ])
  refine wpAnyH_done (by kernel_rfl) ?_ _
  refine NoPanic.normal ?_
  go_wp2_with fail
  go_ret
  exact ⟨rfl, same_below hHeld⟩

set_option maxRecDepth 4000 in
set_option maxHeartbeats 8000000 in
theorem texts_b (w : World) (ht : Pow10 w) (sa : Value) (l : List (Int × Int)) (xn xd : Int) (ha : RatsAt w sa l) (hl : Wide l) (x1 : -9223372036854775808 ≤ xn) (x2 : xn ≤ 9223372036854775807) (x3 : -9223372036854775808 ≤ xd) (x4 : xd ≤ 9223372036854775807) (sb : Value) (m : List (Int × Int)) (yn yd : Int) (hb : RatsAt w sb m) (hm : Wide m) (y1 : -9223372036854775808 ≤ yn) (y2 : yn ≤ 9223372036854775807) (y3 : -9223372036854775808 ≤ yd) (y4 : yd ≤ 9223372036854775807) (nv : Value) (ns : List (List UInt8)) (hN : NamesAt w nv ns) (hsz : ∀ k, (nameL ns k).length ≤ 1099511627776) (hl12 : l.length ≤ 12) (hm12 : m.length ≤ 12) (hn12 : ns.length ≤ 12) (hr : rightT l xn xd = true) (hr' : rightT m yn yd = false) :
    Calls Tryd.prog 5 #[.agg #[sa, .int .i64 xn, .int .i64 xd], .agg #[sb, .int .i64 yn, .int .i64 yd], nv] w fun r w' => r = .returned (.bool true) ∧ Below w.heap.size w w' := by
  have ra := fun (w' : World) (h : Below w.heap.size w w') => r2right_any w' sa l xn xd (ha.below h) hl x1 x2 x3 x4
  have rb := fun (w' : World) (h : Below w.heap.size w w') => r2right_any w' sb m yn yd (hb.below h) hm y1 y2 y3 y4
  have c1 := fun (w' : World) (h : Below w.heap.size w w') => tshow_any w' (pow10_on ht h) sa nv l xn xd ns (ha.below h) hl x1 x2 x3 x4 (hN.below h) hsz
  have c2 := fun (w' : World) (h : Below w.heap.size w w') => rtshow_any w' sa nv l xn xd ns (ha.below h) hl x1 x2 x3 x4 (hN.below h) hsz
  have c3 := fun (w' : World) (h : Below w.heap.size w w') => same_any w' sa sb l m xn xd yn yd (ha.below h) hl (hb.below h) hm x1 x2 x3 x4 y1 y2 y3 y4
  have c4 := fun (w' : World) (h : Below w.heap.size w w') => same_any w' sa sa l l xn xd xn xd (ha.below h) hl (ha.below h) hl x1 x2 x3 x4 x1 x2 x3 x4
  rw [sameT_self] at c4
  have z1 := fun (w' : World) (h : Below w.heap.size w w') => small_any w' sa l xn xd (ha.below h)
  rw [decide_eq_true hl12] at z1
  have z2 := fun (w' : World) (h : Below w.heap.size w w') => small_any w' sb m yn yd (hb.below h)
  rw [decide_eq_true hm12] at z2
  have e : sameT l xn xd m yn yd = false := by unfold sameT; rw [hr, hr']; rfl
  rw [e] at c3
  rw [hr] at ra c4
  rw [hr'] at rb
  clear e hr hr'
  generalize showT ns l xn xd = tx at *
  have RA := Lib.hid ra; have RB := Lib.hid rb; have C1 := Lib.hid c1; have C2 := Lib.hid c2; have C3 := Lib.hid c3; have C4 := Lib.hid c4; have Z1 := Lib.hid z1; have Z2 := Lib.hid z2
  have AW := Lib.hid (fun (w' : World) (hb : Below w.heap.size w w') => awake2_yes w' (pow10_on ht hb))
  obtain ⟨A, c, rfl⟩ := rats_shape ha
  obtain ⟨B, d, rfl⟩ := rats_shape hb
  obtain ⟨Q, f, rfl⟩ := names_shape hN
  have q13 : ¬ (12 : Int) < (ns.length : Int) := by omega
  have q12 : decide ((ns.length : Int) > 12) = false := decide_eq_false q13
  have q14 : decide (12 < ns.length) = false := decide_eq_false (by omega)
  clear ht ha hl hb hm hN hsz x1 x2 x3 x4 y1 y2 y3 y4 ra rb c1 c2 c3 c4 z1 z2 hl12 hm12 hn12
  generalize l.length = la at *
  generalize m.length = lb at *
  generalize ns.length = ln at *
  have HS := same_start2 w A B la c lb d xn xd yn yd
  go_enter Tryd.func5, Tryd.ntmps5
  go_upto_region 3 with (first
    | (go_at_call 9; (with_reducible refine (AW.out _ (same_below HS)).mono ?_); rintro e w1 ⟨rfl, hq⟩; have HS := keep_same hq HS; obtain ⟨⟨a0, a1, a2, b0, b1, b2⟩, _, _⟩ := id HS; clear hq)
    | (go_at_call 10; (first | with_reducible refine (Z1.out _ (same_below HS)).mono ?_ | with_reducible refine (Z2.out _ (same_below HS)).mono ?_); rintro e w2 ⟨rfl, hq⟩; have HS := keep_same hq HS; obtain ⟨⟨a0, a1, a2, b0, b1, b2⟩, _, _⟩ := id HS; clear hq))
  clear q12 q13 q14
  have HS := keep_same (below_drew _) HS
  refine wp_region_noPanic ?_
  refine wp_region_held_drew (S := (fun w' => (w'.cell? ⟨w.heap.size, 0, none⟩ = some (.slice A la c) ∧ w'.cell? ⟨w.heap.size, 1, none⟩ = some (.int .i64 xn) ∧ w'.cell? ⟨w.heap.size, 2, none⟩ = some (.int .i64 xd) ∧ w'.cell? ⟨w.heap.size + 1, 0, none⟩ = some (.slice B lb d) ∧ w'.cell? ⟨w.heap.size + 1, 1, none⟩ = some (.int .i64 yn) ∧ w'.cell? ⟨w.heap.size + 1, 2, none⟩ = some (.int .i64 yd)) ∧ w.heap.size + 1 < w'.heap.size ∧ Below w.heap.size w w')) (by kernel_rfl) HS (fun hHeld => ?_)
  clear HS a0 a1 a2 b0 b1 b2
  refine wpAnyH_take (i := 0) (oi := _) (v := ?_) rfl (by kernel_rfl) (by kernel_rfl) (by kernel_rfl) (fun _ _ _ h => h) (Or.inl ⟨by rfl, ?_⟩) (by assumption) ?_
  rotate_left
  · intro ww hSw
    (try dsimp only at hSw)
    go_simp <;> with_reducible rfl
  (try simp only [List.getElem_toArray, List.getElem_cons_zero, Act.put, List.setIfInBounds_toArray, List.set_cons_zero, List.set_cons_succ])
  refine wpAnyH_ready (rs := [1]) (by kernel_rfl) (by simp) ?_
  refine AllReadyH.cons (o := _) rfl (fun K hK => ?_) AllReadyH.nil
  go_simp
  (go_at_call 16; (first | with_reducible refine (RA.out _ (same_below hHeld)).mono ?_ | with_reducible refine (RB.out _ (same_below hHeld)).mono ?_); rintro e w3 ⟨rfl, hb⟩)
  go_wp2_with fail
  refine hK.out _ _ (keep_same hb hHeld) (fun hH2 => ?_)
  clear hK K hHeld hb
  have hHeld := hH2
  clear hH2
  (try simp only [List.getElem_toArray, List.getElem_cons_succ, List.getElem_cons_zero, Act.put, List.setIfInBounds_toArray, List.set_cons_zero, List.set_cons_succ])
  refine wpAnyH_take (i := 2) (oi := _) (v := ?_) rfl (by kernel_rfl) (by kernel_rfl) (by kernel_rfl) (fun _ _ _ h => h) (Or.inl ⟨by rfl, ?_⟩) (by assumption) ?_
  rotate_left
  · intro ww hSw
    (try dsimp only at hSw)
    go_simp <;> with_reducible rfl
  (try simp only [List.getElem_toArray, List.getElem_cons_succ, List.getElem_cons_zero, Act.put, List.setIfInBounds_toArray, List.set_cons_zero, List.set_cons_succ])
  refine wpAnyH_take (i := 3) (oi := _) (v := ?_) rfl (by kernel_rfl) (by kernel_rfl) (by kernel_rfl) (fun _ _ _ h => h) (Or.inl ⟨by rfl, ?_⟩) (by assumption) ?_
  rotate_left
  · intro ww hSw
    (try dsimp only at hSw)
    go_simp <;> with_reducible rfl
  (try simp only [List.getElem_toArray, List.getElem_cons_succ, List.getElem_cons_zero, Act.put, List.setIfInBounds_toArray, List.set_cons_zero, List.set_cons_succ])
  refine wpAnyH_ready (rs := [4]) (by kernel_rfl) (by simp) ?_
  refine AllReadyH.cons (o := _) rfl (fun K hK => ?_) AllReadyH.nil
  go_simp
  (go_at_call 16; (first | with_reducible refine (RA.out _ (same_below hHeld)).mono ?_ | with_reducible refine (RB.out _ (same_below hHeld)).mono ?_); rintro e w3 ⟨rfl, hb⟩)
  go_wp2_with fail
  refine hK.out _ _ (keep_same hb hHeld) (fun hH2 => ?_)
  clear hK K hHeld hb
  have hHeld := hH2
  clear hH2
  (try simp only [List.getElem_toArray, List.getElem_cons_succ, List.getElem_cons_zero, Act.put, List.setIfInBounds_toArray, List.set_cons_zero, List.set_cons_succ])
  refine wpAnyH_take (i := 5) (oi := _) (v := ?_) rfl (by kernel_rfl) (by kernel_rfl) (by kernel_rfl) (fun _ _ _ h => h) (Or.inl ⟨by rfl, ?_⟩) (by assumption) ?_
  rotate_left
  · intro ww hSw
    (try dsimp only at hSw)
    go_simp <;> with_reducible rfl
  (try simp only [List.getElem_toArray, List.getElem_cons_succ, List.getElem_cons_zero, Act.put, List.setIfInBounds_toArray, List.set_cons_zero, List.set_cons_succ])
  refine wpAnyH_take (i := 6) (oi := _) (v := ?_) rfl (by kernel_rfl) (by kernel_rfl) (by kernel_rfl) (fun _ _ _ h => h) (Or.inl ⟨by rfl, ?_⟩) (by assumption) ?_
  rotate_left
  · intro ww hSw
    (try dsimp only at hSw)
    go_simp <;> with_reducible rfl
  (try simp only [List.getElem_toArray, List.getElem_cons_succ, List.getElem_cons_zero, Act.put, List.setIfInBounds_toArray, List.set_cons_zero, List.set_cons_succ])
  refine wpAnyH_take (i := 7) (oi := _) (v := undef) rfl (by kernel_rfl) (by kernel_rfl) (by kernel_rfl) (fun _ _ _ h => h) (Or.inr ⟨by rfl, rfl⟩) (by assumption) ?_
  (try simp only [List.getElem_toArray, List.getElem_cons_succ, List.getElem_cons_zero, Act.put, List.setIfInBounds_toArray, List.set_cons_zero, List.set_cons_succ])
  refine wpAnyH_take (i := 8) (oi := _) (v := undef) rfl (by kernel_rfl) (by kernel_rfl) (by kernel_rfl) (fun _ _ _ h => h) (Or.inr ⟨by rfl, rfl⟩) (by assumption) ?_
  (try simp only [List.getElem_toArray, List.getElem_cons_succ, List.getElem_cons_zero, Act.put, List.setIfInBounds_toArray, List.set_cons_zero, List.set_cons_succ])
  refine wpAnyH_take (i := 9) (oi := _) (v := undef) rfl (by kernel_rfl) (by kernel_rfl) (by kernel_rfl) (fun _ _ _ h => h) (Or.inr ⟨by rfl, rfl⟩) (by assumption) ?_
  (try simp only [List.getElem_toArray, List.getElem_cons_succ, List.getElem_cons_zero, Act.put, List.setIfInBounds_toArray, List.set_cons_zero, List.set_cons_succ])
  refine wpAnyH_take (i := 10) (oi := _) (v := undef) rfl (by kernel_rfl) (by kernel_rfl) (by kernel_rfl) (fun _ _ _ h => h) (Or.inr ⟨by rfl, rfl⟩) (by assumption) ?_
  (try simp only [List.getElem_toArray, List.getElem_cons_succ, List.getElem_cons_zero, Act.put, List.setIfInBounds_toArray, List.set_cons_zero, List.set_cons_succ])
  refine wpAnyH_take (i := 11) (oi := _) (v := undef) rfl (by kernel_rfl) (by kernel_rfl) (by kernel_rfl) (fun _ _ _ h => h) (Or.inr ⟨by rfl, rfl⟩) (by assumption) ?_
  (try simp only [List.getElem_toArray, List.getElem_cons_succ, List.getElem_cons_zero, Act.put, List.setIfInBounds_toArray, List.set_cons_zero, List.set_cons_succ])
  refine wpAnyH_take (i := 12) (oi := _) (v := ?_) rfl (by kernel_rfl) (by kernel_rfl) (by kernel_rfl) (fun _ _ _ h => h) (Or.inl ⟨by rfl, ?_⟩) (by assumption) ?_
  rotate_left
  · intro ww hSw
    (try dsimp only at hSw)
    go_simp <;> with_reducible rfl
  (try simp only [List.getElem_toArray, List.getElem_cons_succ, List.getElem_cons_zero, Act.put, List.setIfInBounds_toArray, List.set_cons_zero, List.set_cons_succ])
  refine wpAnyH_take (i := 13) (oi := _) (v := ?_) rfl (by kernel_rfl) (by kernel_rfl) (by kernel_rfl) (fun _ _ _ h => h) (Or.inl ⟨by rfl, ?_⟩) (by assumption) ?_
  rotate_left
  · intro ww hSw
    (try dsimp only at hSw)
    go_simp <;> with_reducible rfl
  (try simp only [List.getElem_toArray, List.getElem_cons_succ, List.getElem_cons_zero, Act.put, List.setIfInBounds_toArray, List.set_cons_zero, List.set_cons_succ])
  refine wpAnyH_done (by kernel_rfl) ?_ _
  refine NoPanic.normal ?_
  have HS := keep_same (below_drew _) hHeld
  clear hHeld
  go_upto_region 4 with fail
  refine wp_region_noPanic ?_
  refine wp_region_held_drew (S := (fun w' => (w'.cell? ⟨w.heap.size, 0, none⟩ = some (.slice A la c) ∧ w'.cell? ⟨w.heap.size, 1, none⟩ = some (.int .i64 xn) ∧ w'.cell? ⟨w.heap.size, 2, none⟩ = some (.int .i64 xd) ∧ w'.cell? ⟨w.heap.size + 1, 0, none⟩ = some (.slice B lb d) ∧ w'.cell? ⟨w.heap.size + 1, 1, none⟩ = some (.int .i64 yn) ∧ w'.cell? ⟨w.heap.size + 1, 2, none⟩ = some (.int .i64 yd)) ∧ w.heap.size + 1 < w'.heap.size ∧ Below w.heap.size w w')) (by kernel_rfl) HS (fun hHeld => ?_)
  clear HS
  refine wpAnyH_take (i := 0) (oi := _) (v := ?_) rfl (by kernel_rfl) (by kernel_rfl) (by kernel_rfl) (fun _ _ _ h => h) (Or.inl ⟨by rfl, ?_⟩) (by assumption) ?_
  rotate_left
  · intro ww hSw
    (try dsimp only at hSw)
    go_simp <;> with_reducible rfl
  (try simp only [List.getElem_toArray, List.getElem_cons_zero, Act.put, List.setIfInBounds_toArray, List.set_cons_zero, List.set_cons_succ])
  refine wpAnyH_take (i := 1) (oi := _) (v := ?_) rfl (by kernel_rfl) (by kernel_rfl) (by kernel_rfl) (fun _ _ _ h => h) (Or.inl ⟨by rfl, ?_⟩) (by assumption) ?_
  rotate_left
  · intro ww hSw
    (try dsimp only at hSw)
    go_simp <;> with_reducible rfl
  (try simp only [List.getElem_toArray, List.getElem_cons_succ, List.getElem_cons_zero, Act.put, List.setIfInBounds_toArray, List.set_cons_zero, List.set_cons_succ])
  refine wpAnyH_take (i := 3) (oi := _) (v := ?_) rfl (by kernel_rfl) (by kernel_rfl) (by kernel_rfl) (fun _ _ _ h => h) (Or.inl ⟨by rfl, ?_⟩) (by assumption) ?_
  rotate_left
  · intro ww hSw
    (try dsimp only at hSw)
    go_simp <;> with_reducible rfl
  (try simp only [List.getElem_toArray, List.getElem_cons_succ, List.getElem_cons_zero, Act.put, List.setIfInBounds_toArray, List.set_cons_zero, List.set_cons_succ])
  refine wpAnyH_take (i := 4) (oi := _) (v := ?_) rfl (by kernel_rfl) (by kernel_rfl) (by kernel_rfl) (fun _ _ _ h => h) (Or.inl ⟨by rfl, ?_⟩) (by assumption) ?_
  rotate_left
  · intro ww hSw
    (try dsimp only at hSw)
    go_simp <;> with_reducible rfl
  (try simp only [List.getElem_toArray, List.getElem_cons_succ, List.getElem_cons_zero, Act.put, List.setIfInBounds_toArray, List.set_cons_zero, List.set_cons_succ])
  refine wpAnyH_ready (rs := [2]) (by kernel_rfl) (by simp) ?_
  refine AllReadyH.cons (o := _) rfl (fun K hK => ?_) AllReadyH.nil
  go_simp
  (first
    | (go_at_call 24; (with_reducible refine (C1.out _ (same_below hHeld)).mono ?_); rintro e w7 ⟨rfl, hb⟩)
    | (go_at_call 25; (with_reducible refine (C2.out _ (same_below hHeld)).mono ?_); rintro e w8 ⟨rfl, hb⟩)
    | (go_at_call 26; (first | with_reducible refine (C3.out _ (same_below hHeld)).mono ?_ | with_reducible refine (C4.out _ (same_below hHeld)).mono ?_); rintro e w9 ⟨rfl, hb⟩)
    | (go_at_call 16; (first | with_reducible refine (RA.out _ (same_below hHeld)).mono ?_ | with_reducible refine (RB.out _ (same_below hHeld)).mono ?_); rintro e w3 ⟨rfl, hb⟩))
  go_wp2_with fail
  refine hK.out _ _ (keep_same hb hHeld) (fun hH2 => ?_)
  clear hK K hHeld hb
  have hHeld := hH2
  clear hH2
  (try simp only [List.getElem_toArray, List.getElem_cons_succ, List.getElem_cons_zero, Act.put, List.setIfInBounds_toArray, List.set_cons_zero, List.set_cons_succ])
  refine wpAnyH_ready (rs := [5]) (by kernel_rfl) (by simp) ?_
  refine AllReadyH.cons (o := _) rfl (fun K hK => ?_) AllReadyH.nil
  go_simp
  (first
    | (go_at_call 24; (with_reducible refine (C1.out _ (same_below hHeld)).mono ?_); rintro e w7 ⟨rfl, hb⟩)
    | (go_at_call 25; (with_reducible refine (C2.out _ (same_below hHeld)).mono ?_); rintro e w8 ⟨rfl, hb⟩)
    | (go_at_call 26; (first | with_reducible refine (C3.out _ (same_below hHeld)).mono ?_ | with_reducible refine (C4.out _ (same_below hHeld)).mono ?_); rintro e w9 ⟨rfl, hb⟩)
    | (go_at_call 16; (first | with_reducible refine (RA.out _ (same_below hHeld)).mono ?_ | with_reducible refine (RB.out _ (same_below hHeld)).mono ?_); rintro e w3 ⟨rfl, hb⟩))
  go_wp2_with fail
  refine hK.out _ _ (keep_same hb hHeld) (fun hH2 => ?_)
  clear hK K hHeld hb
  have hHeld := hH2
  clear hH2
  (try simp only [List.getElem_toArray, List.getElem_cons_succ, List.getElem_cons_zero, Act.put, List.setIfInBounds_toArray, List.set_cons_zero, List.set_cons_succ])
  refine wpAnyH_take (i := 6) (oi := _) (v := ?_) rfl (by kernel_rfl) (by kernel_rfl) (by kernel_rfl) (fun _ _ _ h => h) (Or.inl ⟨by rfl, ?_⟩) (by assumption) ?_
  rotate_left
  · intro ww hSw
    (try dsimp only at hSw)
    go_simp <;> with_reducible rfl
  (try simp only [List.getElem_toArray, List.getElem_cons_succ, List.getElem_cons_zero, Act.put, List.setIfInBounds_toArray, List.set_cons_zero, List.set_cons_succ])
  refine wpAnyH_take (i := 7) (oi := _) (v := ?_) rfl (by kernel_rfl) (by kernel_rfl) (by kernel_rfl) (fun _ _ _ h => h) (Or.inl ⟨by rfl, ?_⟩) (by assumption) ?_
  rotate_left
  · intro ww hSw
    (try dsimp only at hSw)
    go_simp <;> with_reducible rfl
  (try simp only [List.getElem_toArray, List.getElem_cons_succ, List.getElem_cons_zero, Act.put, List.setIfInBounds_toArray, List.set_cons_zero, List.set_cons_succ])
  refine wpAnyH_take (i := 8) (oi := _) (v := ?_) rfl (by kernel_rfl) (by kernel_rfl) (by kernel_rfl) (fun _ _ _ h => h) (Or.inl ⟨by rfl, ?_⟩) (by assumption) ?_
  rotate_left
  · intro ww hSw
    (try dsimp only at hSw)
    go_simp <;> with_reducible rfl
  (try simp only [List.getElem_toArray, List.getElem_cons_succ, List.getElem_cons_zero, Act.put, List.setIfInBounds_toArray, List.set_cons_zero, List.set_cons_succ])
  refine wpAnyH_take (i := 9) (oi := _) (v := ?_) rfl (by kernel_rfl) (by kernel_rfl) (by kernel_rfl) (fun _ _ _ h => h) (Or.inl ⟨by rfl, ?_⟩) (by assumption) ?_
  rotate_left
  · intro ww hSw
    (try dsimp only at hSw)
    go_simp <;> with_reducible rfl
  (try simp only [List.getElem_toArray, List.getElem_cons_succ, List.getElem_cons_zero, Act.put, List.setIfInBounds_toArray, List.set_cons_zero, List.set_cons_succ])
  refine wpAnyH_take (i := 11) (oi := _) (v := ?_) rfl (by kernel_rfl) (by kernel_rfl) (by kernel_rfl) (fun _ _ _ h => h) (Or.inl ⟨by rfl, ?_⟩) (by assumption) ?_
  rotate_left
  · intro ww hSw
    (try dsimp only at hSw)
    go_simp <;> with_reducible rfl
  (try simp only [List.getElem_toArray, List.getElem_cons_succ, List.getElem_cons_zero, Act.put, List.setIfInBounds_toArray, List.set_cons_zero, List.set_cons_succ])
  refine wpAnyH_ready (rs := [10]) (by kernel_rfl) (by simp) ?_
  refine AllReadyH.cons (o := _) rfl (fun K hK => ?_) AllReadyH.nil
  go_simp
  (first
    | (go_at_call 24; (with_reducible refine (C1.out _ (same_below hHeld)).mono ?_); rintro e w7 ⟨rfl, hb⟩)
    | (go_at_call 25; (with_reducible refine (C2.out _ (same_below hHeld)).mono ?_); rintro e w8 ⟨rfl, hb⟩)
    | (go_at_call 26; (first | with_reducible refine (C3.out _ (same_below hHeld)).mono ?_ | with_reducible refine (C4.out _ (same_below hHeld)).mono ?_); rintro e w9 ⟨rfl, hb⟩)
    | (go_at_call 16; (first | with_reducible refine (RA.out _ (same_below hHeld)).mono ?_ | with_reducible refine (RB.out _ (same_below hHeld)).mono ?_); rintro e w3 ⟨rfl, hb⟩))
  go_wp2_with fail
  refine hK.out _ _ (keep_same hb hHeld) (fun hH2 => ?_)
  clear hK K hHeld hb
  have hHeld := hH2
  clear hH2
  (try simp only [List.getElem_toArray, List.getElem_cons_succ, List.getElem_cons_zero, Act.put, List.setIfInBounds_toArray, List.set_cons_zero, List.set_cons_succ])
  refine wpAnyH_take (i := 12) (oi := _) (v := ?_) rfl (by kernel_rfl) (by kernel_rfl) (by kernel_rfl) (fun _ _ _ h => h) (Or.inl ⟨by rfl, ?_⟩) (by assumption) ?_
  rotate_left
  · intro ww hSw
    (try dsimp only at hSw)
    go_simp <;> with_reducible rfl
  (try simp only [List.getElem_toArray, List.getElem_cons_succ, List.getElem_cons_zero, Act.put, List.setIfInBounds_toArray, List.set_cons_zero, List.set_cons_succ])
  refine wpAnyH_take (i := 13) (oi := _) (v := ?_) rfl (by kernel_rfl) (by kernel_rfl) (by kernel_rfl) (fun _ _ _ h => h) (Or.inl ⟨by rfl, ?_⟩) (by assumption) ?_
  rotate_left
  · intro ww hSw
    (try dsimp only at hSw)
    go_simp <;> with_reducible rfl
  (try simp only [List.getElem_toArray, List.getElem_cons_succ, List.getElem_cons_zero, Act.put, List.setIfInBounds_toArray, List.set_cons_zero, List.set_cons_succ])
  refine wpAnyH_take (i := 14) (oi := _) (v := ?_) rfl (by kernel_rfl) (by kernel_rfl) (by kernel_rfl) (fun _ _ _ h => h) (Or.inl ⟨by rfl, ?_⟩) (by assumption) ?_
  rotate_left
  · intro ww hSw
    (try dsimp only at hSw)
    go_simp <;> with_reducible rfl
  (try simp only [List.getElem_toArray, List.getElem_cons_succ, List.getElem_cons_zero, Act.put, List.setIfInBounds_toArray, List.set_cons_zero, List.set_cons_succ])
  refine wpAnyH_take (i := 15) (oi := _) (v := ?_) rfl (by kernel_rfl) (by kernel_rfl) (by kernel_rfl) (fun _ _ _ h => h) (Or.inl ⟨by rfl, ?_⟩) (by assumption) ?_
  rotate_left
  · intro ww hSw
    (try dsimp only at hSw)
    go_simp <;> with_reducible rfl
  (try simp only [List.getElem_toArray, List.getElem_cons_succ, List.getElem_cons_zero, Act.put, List.setIfInBounds_toArray, List.set_cons_zero, List.set_cons_succ])
  refine wpAnyH_take (i := 16) (oi := _) (v := ?_) rfl (by kernel_rfl) (by kernel_rfl) (by kernel_rfl) (fun _ _ _ h => h) (Or.inl ⟨by rfl, ?_⟩) (by assumption) ?_
  rotate_left
  · intro ww hSw
    (try dsimp only at hSw)
    go_simp <;> with_reducible rfl
  (try simp only [List.getElem_toArray, List.getElem_cons_succ, List.getElem_cons_zero, Act.put, List.setIfInBounds_toArray, List.set_cons_zero, List.set_cons_succ])
  refine wpAnyH_take (i := 18) (oi := _) (v := ?_) rfl (by kernel_rfl) (by kernel_rfl) (by kernel_rfl) (fun _ _ _ h => h) (Or.inl ⟨by rfl, ?_⟩) (by assumption) ?_
  rotate_left
  · intro ww hSw
    (try dsimp only at hSw)
    go_simp <;> with_reducible rfl
  (try simp only [List.getElem_toArray, List.getElem_cons_succ, List.getElem_cons_zero, Act.put, List.setIfInBounds_toArray, List.set_cons_zero, List.set_cons_succ])
  refine wpAnyH_ready (rs := [17]) (by kernel_rfl) (by simp) ?_
  refine AllReadyH.cons (o := _) rfl (fun K hK => ?_) AllReadyH.nil
  go_simp
  (first
    | (go_at_call 24; (with_reducible refine (C1.out _ (same_below hHeld)).mono ?_); rintro e w7 ⟨rfl, hb⟩)
    | (go_at_call 25; (with_reducible refine (C2.out _ (same_below hHeld)).mono ?_); rintro e w8 ⟨rfl, hb⟩)
    | (go_at_call 26; (first | with_reducible refine (C3.out _ (same_below hHeld)).mono ?_ | with_reducible refine (C4.out _ (same_below hHeld)).mono ?_); rintro e w9 ⟨rfl, hb⟩)
    | (go_at_call 16; (first | with_reducible refine (RA.out _ (same_below hHeld)).mono ?_ | with_reducible refine (RB.out _ (same_below hHeld)).mono ?_); rintro e w3 ⟨rfl, hb⟩))
  go_wp2_with fail
  refine hK.out _ _ (keep_same hb hHeld) (fun hH2 => ?_)
  clear hK K hHeld hb
  have hHeld := hH2
  clear hH2
  (try simp only [List.getElem_toArray, List.getElem_cons_succ, List.getElem_cons_zero, Act.put, List.setIfInBounds_toArray, List.set_cons_zero, List.set_cons_succ])
  refine wpAnyH_ready (rs := [19]) (by kernel_rfl) (by simp) ?_
  refine AllReadyH.cons (o := _) rfl (fun K hK => ?_) AllReadyH.nil
  go_simp
  (first
    | (go_at_call 24; (with_reducible refine (C1.out _ (same_below hHeld)).mono ?_); rintro e w7 ⟨rfl, hb⟩)
    | (go_at_call 25; (with_reducible refine (C2.out _ (same_below hHeld)).mono ?_); rintro e w8 ⟨rfl, hb⟩)
    | (go_at_call 26; (first | with_reducible refine (C3.out _ (same_below hHeld)).mono ?_ | with_reducible refine (C4.out _ (same_below hHeld)).mono ?_); rintro e w9 ⟨rfl, hb⟩)
    | (go_at_call 16; (first | with_reducible refine (RA.out _ (same_below hHeld)).mono ?_ | with_reducible refine (RB.out _ (same_below hHeld)).mono ?_); rintro e w3 ⟨rfl, hb⟩))
  go_wp2_with fail
  refine hK.out _ _ (keep_same hb hHeld) (fun hH2 => ?_)
  clear hK K hHeld hb
  have hHeld := hH2
  clear hH2
  (try simp only [List.getElem_toArray, List.getElem_cons_succ, List.getElem_cons_zero, Act.put, List.setIfInBounds_toArray, List.set_cons_zero, List.set_cons_succ])
  refine wpAnyH_take (i := 20) (oi := _) (v := ?_) rfl (by kernel_rfl) (by kernel_rfl) (by kernel_rfl) (fun _ _ _ h => h) (Or.inl ⟨by rfl, ?_⟩) (by assumption) ?_
  rotate_left
  · intro ww hSw
    (try dsimp only at hSw)
    go_simp <;> with_reducible rfl
  (try simp only [List.getElem_toArray, List.getElem_cons_succ, List.getElem_cons_zero, Act.put, List.setIfInBounds_toArray, List.set_cons_zero, List.set_cons_succ])
  refine wpAnyH_take (i := 21) (oi := _) (v := ?_) rfl (by kernel_rfl) (by kernel_rfl) (by kernel_rfl) (fun _ _ _ h => h) (Or.inl ⟨by rfl, ?_⟩) (by assumption) ?_
  rotate_left
  · intro ww hSw
    (try dsimp only at hSw)
    go_simp <;> with_reducible rfl
  (try simp only [List.getElem_toArray, List.getElem_cons_succ, List.getElem_cons_zero, Act.put, List.setIfInBounds_toArray, List.set_cons_zero, List.set_cons_succ])
  refine wpAnyH_take (i := 22) (oi := _) (v := ?_) rfl (by kernel_rfl) (by kernel_rfl) (by kernel_rfl) (fun _ _ _ h => h) (Or.inl ⟨by rfl, ?_⟩) (by assumption) ?_
  rotate_left
  · intro ww hSw
    (try dsimp only at hSw)
    go_simp <;> with_reducible rfl
  (try simp only [List.getElem_toArray, List.getElem_cons_succ, List.getElem_cons_zero, Act.put, List.setIfInBounds_toArray, List.set_cons_zero, List.set_cons_succ])
  refine wpAnyH_done (by kernel_rfl) ?_ _
  refine NoPanic.normal ?_
  go_wp2_with fail
  go_ret
  exact ⟨rfl, same_below hHeld⟩

set_option maxRecDepth 4000 in
set_option maxHeartbeats 8000000 in
theorem texts_c (w : World) (ht : Pow10 w) (sa : Value) (l : List (Int × Int)) (xn xd : Int) (ha : RatsAt w sa l) (hl : Wide l) (x1 : -9223372036854775808 ≤ xn) (x2 : xn ≤ 9223372036854775807) (x3 : -9223372036854775808 ≤ xd) (x4 : xd ≤ 9223372036854775807) (sb : Value) (m : List (Int × Int)) (yn yd : Int) (hb : RatsAt w sb m) (hm : Wide m) (y1 : -9223372036854775808 ≤ yn) (y2 : yn ≤ 9223372036854775807) (y3 : -9223372036854775808 ≤ yd) (y4 : yd ≤ 9223372036854775807) (nv : Value) (ns : List (List UInt8)) (hN : NamesAt w nv ns) (hsz : ∀ k, (nameL ns k).length ≤ 1099511627776) (hl12 : l.length ≤ 12) (hm12 : m.length ≤ 12) (hn12 : ns.length ≤ 12) (hr : rightT l xn xd = true) (hr' : rightT m yn yd = true) :
    Calls Tryd.prog 5 #[.agg #[sa, .int .i64 xn, .int .i64 xd], .agg #[sb, .int .i64 yn, .int .i64 yd], nv] w fun r w' => r = .returned (.bool true) ∧ Below w.heap.size w w' := by
  have ra := fun (w' : World) (h : Below w.heap.size w w') => r2right_any w' sa l xn xd (ha.below h) hl x1 x2 x3 x4
  have rb := fun (w' : World) (h : Below w.heap.size w w') => r2right_any w' sb m yn yd (hb.below h) hm y1 y2 y3 y4
  have c1 := fun (w' : World) (h : Below w.heap.size w w') => tshow_any w' (pow10_on ht h) sa nv l xn xd ns (ha.below h) hl x1 x2 x3 x4 (hN.below h) hsz
  have c2 := fun (w' : World) (h : Below w.heap.size w w') => rtshow_any w' sa nv l xn xd ns (ha.below h) hl x1 x2 x3 x4 (hN.below h) hsz
  have c3 := fun (w' : World) (h : Below w.heap.size w w') => same_any w' sa sb l m xn xd yn yd (ha.below h) hl (hb.below h) hm x1 x2 x3 x4 y1 y2 y3 y4
  have c4 := fun (w' : World) (h : Below w.heap.size w w') => same_any w' sa sa l l xn xd xn xd (ha.below h) hl (ha.below h) hl x1 x2 x3 x4 x1 x2 x3 x4
  rw [sameT_self] at c4
  have z1 := fun (w' : World) (h : Below w.heap.size w w') => small_any w' sa l xn xd (ha.below h)
  rw [decide_eq_true hl12] at z1
  have z2 := fun (w' : World) (h : Below w.heap.size w w') => small_any w' sb m yn yd (hb.below h)
  rw [decide_eq_true hm12] at z2
  have oa := fun (w' : World) (h : Below w.heap.size w w') => rown_right w' sa l xn xd (ha.below h) hl x1 x2 x3 x4 hr
  have ob := fun (w' : World) (h : Below w.heap.size w w') => rown_right w' sb m yn yd (hb.below h) hm y1 y2 y3 y4 hr'
  have eq := fun (w' : World) (v v' : Value) (h : RatsAt w' v (trimL l)) (h' : RatsAt w' v' (trimL m)) => r2equal_any w' v v' (trimL l) (trimL m) xn xd yn yd h h'
  rw [sameT_right hr hr'] at eq
  generalize sameT l xn xd m yn yd = sm at *
  rw [hr] at ra c4
  rw [hr'] at rb
  generalize trimL l = tl at *
  generalize trimL m = tm at *
  have OA := Lib.hid oa; have OB := Lib.hid ob; have EQ := Lib.hid eq
  clear oa ob eq hr hr'
  generalize showT ns l xn xd = tx at *
  have RA := Lib.hid ra; have RB := Lib.hid rb; have C1 := Lib.hid c1; have C2 := Lib.hid c2; have C3 := Lib.hid c3; have C4 := Lib.hid c4; have Z1 := Lib.hid z1; have Z2 := Lib.hid z2
  have AW := Lib.hid (fun (w' : World) (hb : Below w.heap.size w w') => awake2_yes w' (pow10_on ht hb))
  obtain ⟨A, c, rfl⟩ := rats_shape ha
  obtain ⟨B, d, rfl⟩ := rats_shape hb
  obtain ⟨Q, f, rfl⟩ := names_shape hN
  have q13 : ¬ (12 : Int) < (ns.length : Int) := by omega
  have q12 : decide ((ns.length : Int) > 12) = false := decide_eq_false q13
  have q14 : decide (12 < ns.length) = false := decide_eq_false (by omega)
  clear ht ha hl hb hm hN hsz x1 x2 x3 x4 y1 y2 y3 y4 ra rb c1 c2 c3 c4 z1 z2 hl12 hm12 hn12
  generalize l.length = la at *
  generalize m.length = lb at *
  generalize ns.length = ln at *
  have HS := same_start2 w A B la c lb d xn xd yn yd
  go_enter Tryd.func5, Tryd.ntmps5
  go_upto_region 3 with (first
    | (go_at_call 9; (with_reducible refine (AW.out _ (same_below HS)).mono ?_); rintro e w1 ⟨rfl, hq⟩; have HS := keep_same hq HS; obtain ⟨⟨a0, a1, a2, b0, b1, b2⟩, _, _⟩ := id HS; clear hq)
    | (go_at_call 10; (first | with_reducible refine (Z1.out _ (same_below HS)).mono ?_ | with_reducible refine (Z2.out _ (same_below HS)).mono ?_); rintro e w2 ⟨rfl, hq⟩; have HS := keep_same hq HS; obtain ⟨⟨a0, a1, a2, b0, b1, b2⟩, _, _⟩ := id HS; clear hq))
  clear q12 q13 q14
  have HS := keep_same (below_drew _) HS
  refine wp_region_noPanic ?_
  refine wp_region_held_drew (S := (fun w' => (w'.cell? ⟨w.heap.size, 0, none⟩ = some (.slice A la c) ∧ w'.cell? ⟨w.heap.size, 1, none⟩ = some (.int .i64 xn) ∧ w'.cell? ⟨w.heap.size, 2, none⟩ = some (.int .i64 xd) ∧ w'.cell? ⟨w.heap.size + 1, 0, none⟩ = some (.slice B lb d) ∧ w'.cell? ⟨w.heap.size + 1, 1, none⟩ = some (.int .i64 yn) ∧ w'.cell? ⟨w.heap.size + 1, 2, none⟩ = some (.int .i64 yd)) ∧ w.heap.size + 1 < w'.heap.size ∧ Below w.heap.size w w')) (by kernel_rfl) HS (fun hHeld => ?_)
  clear HS a0 a1 a2 b0 b1 b2
  refine wpAnyH_take (i := 0) (oi := _) (v := ?_) rfl (by kernel_rfl) (by kernel_rfl) (by kernel_rfl) (fun _ _ _ h => h) (Or.inl ⟨by rfl, ?_⟩) (by assumption) ?_
  rotate_left
  · intro ww hSw
    (try dsimp only at hSw)
    go_simp <;> with_reducible rfl
  (try simp only [List.getElem_toArray, List.getElem_cons_zero, Act.put, List.setIfInBounds_toArray, List.set_cons_zero, List.set_cons_succ])
  refine wpAnyH_ready (rs := [1]) (by kernel_rfl) (by simp) ?_
  refine AllReadyH.cons (o := _) rfl (fun K hK => ?_) AllReadyH.nil
  go_simp
  (first
    | (go_at_call 16; (first | with_reducible refine (RA.out _ (same_below hHeld)).mono ?_ | with_reducible refine (RB.out _ (same_below hHeld)).mono ?_); rintro e w3 ⟨rfl, hb⟩)
    | (go_at_call 18; (with_reducible refine (OA.out _ (same_below hHeld)).mono ?_); rintro e w4 hT; obtain ⟨v4, rfl, hv4, hb⟩ := termnew_more hT; clear hT)
    | (go_at_call 18; (with_reducible refine (OB.out _ (same_below hHeld)).mono ?_); rintro e w5 hT; obtain ⟨v5, rfl, hv5, hb⟩ := termnew_more hT; clear hT; have hv4 := hv4.below hb)
    | (go_at_call 14; (with_reducible refine (EQ.out _ _ _ hv4 hv5).mono ?_); rintro e w6 ⟨rfl, hb⟩))
  go_wp2_with fail
  refine hK.out _ _ (keep_same hb hHeld) (fun hH2 => ?_)
  clear hK K hHeld hb
  have hHeld := hH2
  clear hH2
  (try simp only [List.getElem_toArray, List.getElem_cons_succ, List.getElem_cons_zero, Act.put, List.setIfInBounds_toArray, List.set_cons_zero, List.set_cons_succ])
  refine wpAnyH_take (i := 2) (oi := _) (v := ?_) rfl (by kernel_rfl) (by kernel_rfl) (by kernel_rfl) (fun _ _ _ h => h) (Or.inl ⟨by rfl, ?_⟩) (by assumption) ?_
  rotate_left
  · intro ww hSw
    (try dsimp only at hSw)
    go_simp <;> with_reducible rfl
  (try simp only [List.getElem_toArray, List.getElem_cons_succ, List.getElem_cons_zero, Act.put, List.setIfInBounds_toArray, List.set_cons_zero, List.set_cons_succ])
  refine wpAnyH_take (i := 3) (oi := _) (v := ?_) rfl (by kernel_rfl) (by kernel_rfl) (by kernel_rfl) (fun _ _ _ h => h) (Or.inl ⟨by rfl, ?_⟩) (by assumption) ?_
  rotate_left
  · intro ww hSw
    (try dsimp only at hSw)
    go_simp <;> with_reducible rfl
  (try simp only [List.getElem_toArray, List.getElem_cons_succ, List.getElem_cons_zero, Act.put, List.setIfInBounds_toArray, List.set_cons_zero, List.set_cons_succ])
  refine wpAnyH_ready (rs := [4]) (by kernel_rfl) (by simp) ?_
  refine AllReadyH.cons (o := _) rfl (fun K hK => ?_) AllReadyH.nil
  go_simp
  (first
    | (go_at_call 16; (first | with_reducible refine (RA.out _ (same_below hHeld)).mono ?_ | with_reducible refine (RB.out _ (same_below hHeld)).mono ?_); rintro e w3 ⟨rfl, hb⟩)
    | (go_at_call 18; (with_reducible refine (OA.out _ (same_below hHeld)).mono ?_); rintro e w4 hT; obtain ⟨v4, rfl, hv4, hb⟩ := termnew_more hT; clear hT)
    | (go_at_call 18; (with_reducible refine (OB.out _ (same_below hHeld)).mono ?_); rintro e w5 hT; obtain ⟨v5, rfl, hv5, hb⟩ := termnew_more hT; clear hT; have hv4 := hv4.below hb)
    | (go_at_call 14; (with_reducible refine (EQ.out _ _ _ hv4 hv5).mono ?_); rintro e w6 ⟨rfl, hb⟩))
  go_wp2_with fail
  refine hK.out _ _ (keep_same hb hHeld) (fun hH2 => ?_)
  clear hK K hHeld hb
  have hHeld := hH2
  clear hH2
  (try simp only [List.getElem_toArray, List.getElem_cons_succ, List.getElem_cons_zero, Act.put, List.setIfInBounds_toArray, List.set_cons_zero, List.set_cons_succ])
  refine wpAnyH_take (i := 5) (oi := _) (v := ?_) rfl (by kernel_rfl) (by kernel_rfl) (by kernel_rfl) (fun _ _ _ h => h) (Or.inl ⟨by rfl, ?_⟩) (by assumption) ?_
  rotate_left
  · intro ww hSw
    (try dsimp only at hSw)
    go_simp <;> with_reducible rfl
  (try simp only [List.getElem_toArray, List.getElem_cons_succ, List.getElem_cons_zero, Act.put, List.setIfInBounds_toArray, List.set_cons_zero, List.set_cons_succ])
  refine wpAnyH_take (i := 6) (oi := _) (v := ?_) rfl (by kernel_rfl) (by kernel_rfl) (by kernel_rfl) (fun _ _ _ h => h) (Or.inl ⟨by rfl, ?_⟩) (by assumption) ?_
  rotate_left
  · intro ww hSw
    (try dsimp only at hSw)
    go_simp <;> with_reducible rfl
  (try simp only [List.getElem_toArray, List.getElem_cons_succ, List.getElem_cons_zero, Act.put, List.setIfInBounds_toArray, List.set_cons_zero, List.set_cons_succ])
  refine wpAnyH_take (i := 7) (oi := _) (v := ?_) rfl (by kernel_rfl) (by kernel_rfl) (by kernel_rfl) (fun _ _ _ h => h) (Or.inl ⟨by rfl, ?_⟩) (by assumption) ?_
  rotate_left
  · intro ww hSw
    (try dsimp only at hSw)
    go_simp <;> with_reducible rfl
  (try simp only [List.getElem_toArray, List.getElem_cons_succ, List.getElem_cons_zero, Act.put, List.setIfInBounds_toArray, List.set_cons_zero, List.set_cons_succ])
  refine wpAnyH_take (i := 9) (oi := _) (v := ?_) rfl (by kernel_rfl) (by kernel_rfl) (by kernel_rfl) (fun _ _ _ h => h) (Or.inl ⟨by rfl, ?_⟩) (by assumption) ?_
  rotate_left
  · intro ww hSw
    (try dsimp only at hSw)
    go_simp <;> with_reducible rfl
  (try simp only [List.getElem_toArray, List.getElem_cons_succ, List.getElem_cons_zero, Act.put, List.setIfInBounds_toArray, List.set_cons_zero, List.set_cons_succ])
  refine wpAnyH_ready (rs := [8]) (by kernel_rfl) (by simp) ?_
  refine AllReadyH.cons (o := _) rfl (fun K hK => ?_) AllReadyH.nil
  go_simp
  (first
    | (go_at_call 16; (first | with_reducible refine (RA.out _ (same_below hHeld)).mono ?_ | with_reducible refine (RB.out _ (same_below hHeld)).mono ?_); rintro e w3 ⟨rfl, hb⟩)
    | (go_at_call 18; (with_reducible refine (OA.out _ (same_below hHeld)).mono ?_); rintro e w4 hT; obtain ⟨v4, rfl, hv4, hb⟩ := termnew_more hT; clear hT)
    | (go_at_call 18; (with_reducible refine (OB.out _ (same_below hHeld)).mono ?_); rintro e w5 hT; obtain ⟨v5, rfl, hv5, hb⟩ := termnew_more hT; clear hT; have hv4 := hv4.below hb)
    | (go_at_call 14; (with_reducible refine (EQ.out _ _ _ hv4 hv5).mono ?_); rintro e w6 ⟨rfl, hb⟩))
  go_wp2_with fail
  refine hK.out _ _ (keep_same hb hHeld) (fun hH2 => ?_)
  clear hK K hHeld hb
  have hHeld := hH2
  clear hH2
  (try simp only [List.getElem_toArray, List.getElem_cons_succ, List.getElem_cons_zero, Act.put, List.setIfInBounds_toArray, List.set_cons_zero, List.set_cons_succ])
  refine wpAnyH_ready (rs := [10]) (by kernel_rfl) (by simp) ?_
  refine AllReadyH.cons (o := _) rfl (fun K hK => ?_) AllReadyH.nil
  go_simp
  (first
    | (go_at_call 16; (first | with_reducible refine (RA.out _ (same_below hHeld)).mono ?_ | with_reducible refine (RB.out _ (same_below hHeld)).mono ?_); rintro e w3 ⟨rfl, hb⟩)
    | (go_at_call 18; (with_reducible refine (OA.out _ (same_below hHeld)).mono ?_); rintro e w4 hT; obtain ⟨v4, rfl, hv4, hb⟩ := termnew_more hT; clear hT)
    | (go_at_call 18; (with_reducible refine (OB.out _ (same_below hHeld)).mono ?_); rintro e w5 hT; obtain ⟨v5, rfl, hv5, hb⟩ := termnew_more hT; clear hT; have hv4 := hv4.below hb)
    | (go_at_call 14; (with_reducible refine (EQ.out _ _ _ hv4 hv5).mono ?_); rintro e w6 ⟨rfl, hb⟩))
  go_wp2_with fail
  refine hK.out _ _ (keep_same hb hHeld) (fun hH2 => ?_)
  clear hK K hHeld hb
  have hHeld := hH2
  clear hH2
  (try simp only [List.getElem_toArray, List.getElem_cons_succ, List.getElem_cons_zero, Act.put, List.setIfInBounds_toArray, List.set_cons_zero, List.set_cons_succ])
  refine wpAnyH_ready (rs := [11]) (by kernel_rfl) (by simp) ?_
  refine AllReadyH.cons (o := _) rfl (fun K hK => ?_) AllReadyH.nil
  go_simp
  (first
    | (go_at_call 16; (first | with_reducible refine (RA.out _ (same_below hHeld)).mono ?_ | with_reducible refine (RB.out _ (same_below hHeld)).mono ?_); rintro e w3 ⟨rfl, hb⟩)
    | (go_at_call 18; (with_reducible refine (OA.out _ (same_below hHeld)).mono ?_); rintro e w4 hT; obtain ⟨v4, rfl, hv4, hb⟩ := termnew_more hT; clear hT)
    | (go_at_call 18; (with_reducible refine (OB.out _ (same_below hHeld)).mono ?_); rintro e w5 hT; obtain ⟨v5, rfl, hv5, hb⟩ := termnew_more hT; clear hT; have hv4 := hv4.below hb)
    | (go_at_call 14; (with_reducible refine (EQ.out _ _ _ hv4 hv5).mono ?_); rintro e w6 ⟨rfl, hb⟩))
  go_wp2_with fail
  refine hK.out _ _ (keep_same hb hHeld) (fun hH2 => ?_)
  clear hK K hHeld hb
  have hHeld := hH2
  clear hH2
  (try simp only [List.getElem_toArray, List.getElem_cons_succ, List.getElem_cons_zero, Act.put, List.setIfInBounds_toArray, List.set_cons_zero, List.set_cons_succ])
  refine wpAnyH_take (i := 12) (oi := _) (v := ?_) rfl (by kernel_rfl) (by kernel_rfl) (by kernel_rfl) (fun _ _ _ h => h) (Or.inl ⟨by rfl, ?_⟩) (by assumption) ?_
  rotate_left
  · intro ww hSw
    (try dsimp only at hSw)
    go_simp <;> with_reducible rfl
  (try simp only [List.getElem_toArray, List.getElem_cons_succ, List.getElem_cons_zero, Act.put, List.setIfInBounds_toArray, List.set_cons_zero, List.set_cons_succ])
  refine wpAnyH_take (i := 13) (oi := _) (v := ?_) rfl (by kernel_rfl) (by kernel_rfl) (by kernel_rfl) (fun _ _ _ h => h) (Or.inl ⟨by rfl, ?_⟩) (by assumption) ?_
  rotate_left
  · intro ww hSw
    (try dsimp only at hSw)
    go_simp <;> with_reducible rfl
  (try simp only [List.getElem_toArray, List.getElem_cons_succ, List.getElem_cons_zero, Act.put, List.setIfInBounds_toArray, List.set_cons_zero, List.set_cons_succ])
  refine wpAnyH_done (by kernel_rfl) ?_ _
  refine NoPanic.normal ?_
  clear hv4 hv5
  have HS := keep_same (below_drew _) hHeld
  clear hHeld
  go_upto_region 4 with fail
  refine wp_region_noPanic ?_
  refine wp_region_held_drew (S := (fun w' => (w'.cell? ⟨w.heap.size, 0, none⟩ = some (.slice A la c) ∧ w'.cell? ⟨w.heap.size, 1, none⟩ = some (.int .i64 xn) ∧ w'.cell? ⟨w.heap.size, 2, none⟩ = some (.int .i64 xd) ∧ w'.cell? ⟨w.heap.size + 1, 0, none⟩ = some (.slice B lb d) ∧ w'.cell? ⟨w.heap.size + 1, 1, none⟩ = some (.int .i64 yn) ∧ w'.cell? ⟨w.heap.size + 1, 2, none⟩ = some (.int .i64 yd)) ∧ w.heap.size + 1 < w'.heap.size ∧ Below w.heap.size w w')) (by kernel_rfl) HS (fun hHeld => ?_)
  clear HS
  refine wpAnyH_take (i := 0) (oi := _) (v := ?_) rfl (by kernel_rfl) (by kernel_rfl) (by kernel_rfl) (fun _ _ _ h => h) (Or.inl ⟨by rfl, ?_⟩) (by assumption) ?_
  rotate_left
  · intro ww hSw
    (try dsimp only at hSw)
    go_simp <;> with_reducible rfl
  (try simp only [List.getElem_toArray, List.getElem_cons_zero, Act.put, List.setIfInBounds_toArray, List.set_cons_zero, List.set_cons_succ])
  refine wpAnyH_take (i := 1) (oi := _) (v := ?_) rfl (by kernel_rfl) (by kernel_rfl) (by kernel_rfl) (fun _ _ _ h => h) (Or.inl ⟨by rfl, ?_⟩) (by assumption) ?_
  rotate_left
  · intro ww hSw
    (try dsimp only at hSw)
    go_simp <;> with_reducible rfl
  (try simp only [List.getElem_toArray, List.getElem_cons_succ, List.getElem_cons_zero, Act.put, List.setIfInBounds_toArray, List.set_cons_zero, List.set_cons_succ])
  refine wpAnyH_take (i := 3) (oi := _) (v := ?_) rfl (by kernel_rfl) (by kernel_rfl) (by kernel_rfl) (fun _ _ _ h => h) (Or.inl ⟨by rfl, ?_⟩) (by assumption) ?_
  rotate_left
  · intro ww hSw
    (try dsimp only at hSw)
    go_simp <;> with_reducible rfl
  (try simp only [List.getElem_toArray, List.getElem_cons_succ, List.getElem_cons_zero, Act.put, List.setIfInBounds_toArray, List.set_cons_zero, List.set_cons_succ])
  refine wpAnyH_take (i := 4) (oi := _) (v := ?_) rfl (by kernel_rfl) (by kernel_rfl) (by kernel_rfl) (fun _ _ _ h => h) (Or.inl ⟨by rfl, ?_⟩) (by assumption) ?_
  rotate_left
  · intro ww hSw
    (try dsimp only at hSw)
    go_simp <;> with_reducible rfl
  (try simp only [List.getElem_toArray, List.getElem_cons_succ, List.getElem_cons_zero, Act.put, List.setIfInBounds_toArray, List.set_cons_zero, List.set_cons_succ])
  refine wpAnyH_ready (rs := [2]) (by kernel_rfl) (by simp) ?_
  refine AllReadyH.cons (o := _) rfl (fun K hK => ?_) AllReadyH.nil
  go_simp
  (first
    | (go_at_call 24; (with_reducible refine (C1.out _ (same_below hHeld)).mono ?_); rintro e w7 ⟨rfl, hb⟩)
    | (go_at_call 25; (with_reducible refine (C2.out _ (same_below hHeld)).mono ?_); rintro e w8 ⟨rfl, hb⟩)
    | (go_at_call 26; (first | with_reducible refine (C3.out _ (same_below hHeld)).mono ?_ | with_reducible refine (C4.out _ (same_below hHeld)).mono ?_); rintro e w9 ⟨rfl, hb⟩)
    | (go_at_call 16; (first | with_reducible refine (RA.out _ (same_below hHeld)).mono ?_ | with_reducible refine (RB.out _ (same_below hHeld)).mono ?_); rintro e w3 ⟨rfl, hb⟩))
  go_wp2_with fail
  refine hK.out _ _ (keep_same hb hHeld) (fun hH2 => ?_)
  clear hK K hHeld hb
  have hHeld := hH2
  clear hH2
  (try simp only [List.getElem_toArray, List.getElem_cons_succ, List.getElem_cons_zero, Act.put, List.setIfInBounds_toArray, List.set_cons_zero, List.set_cons_succ])
  refine wpAnyH_ready (rs := [5]) (by kernel_rfl) (by simp) ?_
  refine AllReadyH.cons (o := _) rfl (fun K hK => ?_) AllReadyH.nil
  go_simp
  (first
    | (go_at_call 24; (with_reducible refine (C1.out _ (same_below hHeld)).mono ?_); rintro e w7 ⟨rfl, hb⟩)
    | (go_at_call 25; (with_reducible refine (C2.out _ (same_below hHeld)).mono ?_); rintro e w8 ⟨rfl, hb⟩)
    | (go_at_call 26; (first | with_reducible refine (C3.out _ (same_below hHeld)).mono ?_ | with_reducible refine (C4.out _ (same_below hHeld)).mono ?_); rintro e w9 ⟨rfl, hb⟩)
    | (go_at_call 16; (first | with_reducible refine (RA.out _ (same_below hHeld)).mono ?_ | with_reducible refine (RB.out _ (same_below hHeld)).mono ?_); rintro e w3 ⟨rfl, hb⟩))
  go_wp2_with fail
  refine hK.out _ _ (keep_same hb hHeld) (fun hH2 => ?_)
  clear hK K hHeld hb
  have hHeld := hH2
  clear hH2
  (try simp only [List.getElem_toArray, List.getElem_cons_succ, List.getElem_cons_zero, Act.put, List.setIfInBounds_toArray, List.set_cons_zero, List.set_cons_succ])
  refine wpAnyH_take (i := 6) (oi := _) (v := ?_) rfl (by kernel_rfl) (by kernel_rfl) (by kernel_rfl) (fun _ _ _ h => h) (Or.inl ⟨by rfl, ?_⟩) (by assumption) ?_
  rotate_left
  · intro ww hSw
    (try dsimp only at hSw)
    go_simp <;> with_reducible rfl
  (try simp only [List.getElem_toArray, List.getElem_cons_succ, List.getElem_cons_zero, Act.put, List.setIfInBounds_toArray, List.set_cons_zero, List.set_cons_succ])
  refine wpAnyH_take (i := 7) (oi := _) (v := ?_) rfl (by kernel_rfl) (by kernel_rfl) (by kernel_rfl) (fun _ _ _ h => h) (Or.inl ⟨by rfl, ?_⟩) (by assumption) ?_
  rotate_left
  · intro ww hSw
    (try dsimp only at hSw)
    go_simp <;> with_reducible rfl
  (try simp only [List.getElem_toArray, List.getElem_cons_succ, List.getElem_cons_zero, Act.put, List.setIfInBounds_toArray, List.set_cons_zero, List.set_cons_succ])
  refine wpAnyH_take (i := 8) (oi := _) (v := ?_) rfl (by kernel_rfl) (by kernel_rfl) (by kernel_rfl) (fun _ _ _ h => h) (Or.inl ⟨by rfl, ?_⟩) (by assumption) ?_
  rotate_left
  · intro ww hSw
    (try dsimp only at hSw)
    go_simp <;> with_reducible rfl
  (try simp only [List.getElem_toArray, List.getElem_cons_succ, List.getElem_cons_zero, Act.put, List.setIfInBounds_toArray, List.set_cons_zero, List.set_cons_succ])
  refine wpAnyH_take (i := 9) (oi := _) (v := ?_) rfl (by kernel_rfl) (by kernel_rfl) (by kernel_rfl) (fun _ _ _ h => h) (Or.inl ⟨by rfl, ?_⟩) (by assumption) ?_
  rotate_left
  · intro ww hSw
    (try dsimp only at hSw)
    go_simp <;> with_reducible rfl
  (try simp only [List.getElem_toArray, List.getElem_cons_succ, List.getElem_cons_zero, Act.put, List.setIfInBounds_toArray, List.set_cons_zero, List.set_cons_succ])
  refine wpAnyH_take (i := 11) (oi := _) (v := ?_) rfl (by kernel_rfl) (by kernel_rfl) (by kernel_rfl) (fun _ _ _ h => h) (Or.inl ⟨by rfl, ?_⟩) (by assumption) ?_
  rotate_left
  · intro ww hSw
    (try dsimp only at hSw)
    go_simp <;> with_reducible rfl
  (try simp only [List.getElem_toArray, List.getElem_cons_succ, List.getElem_cons_zero, Act.put, List.setIfInBounds_toArray, List.set_cons_zero, List.set_cons_succ])
  refine wpAnyH_ready (rs := [10]) (by kernel_rfl) (by simp) ?_
  refine AllReadyH.cons (o := _) rfl (fun K hK => ?_) AllReadyH.nil
  go_simp
  (first
    | (go_at_call 24; (with_reducible refine (C1.out _ (same_below hHeld)).mono ?_); rintro e w7 ⟨rfl, hb⟩)
    | (go_at_call 25; (with_reducible refine (C2.out _ (same_below hHeld)).mono ?_); rintro e w8 ⟨rfl, hb⟩)
    | (go_at_call 26; (first | with_reducible refine (C3.out _ (same_below hHeld)).mono ?_ | with_reducible refine (C4.out _ (same_below hHeld)).mono ?_); rintro e w9 ⟨rfl, hb⟩)
    | (go_at_call 16; (first | with_reducible refine (RA.out _ (same_below hHeld)).mono ?_ | with_reducible refine (RB.out _ (same_below hHeld)).mono ?_); rintro e w3 ⟨rfl, hb⟩))
  go_wp2_with fail
  refine hK.out _ _ (keep_same hb hHeld) (fun hH2 => ?_)
  clear hK K hHeld hb
  have hHeld := hH2
  clear hH2
  (try simp only [List.getElem_toArray, List.getElem_cons_succ, List.getElem_cons_zero, Act.put, List.setIfInBounds_toArray, List.set_cons_zero, List.set_cons_succ])
  refine wpAnyH_take (i := 12) (oi := _) (v := ?_) rfl (by kernel_rfl) (by kernel_rfl) (by kernel_rfl) (fun _ _ _ h => h) (Or.inl ⟨by rfl, ?_⟩) (by assumption) ?_
  rotate_left
  · intro ww hSw
    (try dsimp only at hSw)
    go_simp <;> with_reducible rfl
  (try simp only [List.getElem_toArray, List.getElem_cons_succ, List.getElem_cons_zero, Act.put, List.setIfInBounds_toArray, List.set_cons_zero, List.set_cons_succ])
  refine wpAnyH_take (i := 13) (oi := _) (v := ?_) rfl (by kernel_rfl) (by kernel_rfl) (by kernel_rfl) (fun _ _ _ h => h) (Or.inl ⟨by rfl, ?_⟩) (by assumption) ?_
  rotate_left
  · intro ww hSw
    (try dsimp only at hSw)
    go_simp <;> with_reducible rfl
  (try simp only [List.getElem_toArray, List.getElem_cons_succ, List.getElem_cons_zero, Act.put, List.setIfInBounds_toArray, List.set_cons_zero, List.set_cons_succ])
  refine wpAnyH_take (i := 14) (oi := _) (v := ?_) rfl (by kernel_rfl) (by kernel_rfl) (by kernel_rfl) (fun _ _ _ h => h) (Or.inl ⟨by rfl, ?_⟩) (by assumption) ?_
  rotate_left
  · intro ww hSw
    (try dsimp only at hSw)
    go_simp <;> with_reducible rfl
  (try simp only [List.getElem_toArray, List.getElem_cons_succ, List.getElem_cons_zero, Act.put, List.setIfInBounds_toArray, List.set_cons_zero, List.set_cons_succ])
  refine wpAnyH_take (i := 15) (oi := _) (v := ?_) rfl (by kernel_rfl) (by kernel_rfl) (by kernel_rfl) (fun _ _ _ h => h) (Or.inl ⟨by rfl, ?_⟩) (by assumption) ?_
  rotate_left
  · intro ww hSw
    (try dsimp only at hSw)
    go_simp <;> with_reducible rfl
  (try simp only [List.getElem_toArray, List.getElem_cons_succ, List.getElem_cons_zero, Act.put, List.setIfInBounds_toArray, List.set_cons_zero, List.set_cons_succ])
  refine wpAnyH_take (i := 16) (oi := _) (v := ?_) rfl (by kernel_rfl) (by kernel_rfl) (by kernel_rfl) (fun _ _ _ h => h) (Or.inl ⟨by rfl, ?_⟩) (by assumption) ?_
  rotate_left
  · intro ww hSw
    (try dsimp only at hSw)
    go_simp <;> with_reducible rfl
  (try simp only [List.getElem_toArray, List.getElem_cons_succ, List.getElem_cons_zero, Act.put, List.setIfInBounds_toArray, List.set_cons_zero, List.set_cons_succ])
  refine wpAnyH_take (i := 18) (oi := _) (v := ?_) rfl (by kernel_rfl) (by kernel_rfl) (by kernel_rfl) (fun _ _ _ h => h) (Or.inl ⟨by rfl, ?_⟩) (by assumption) ?_
  rotate_left
  · intro ww hSw
    (try dsimp only at hSw)
    go_simp <;> with_reducible rfl
  (try simp only [List.getElem_toArray, List.getElem_cons_succ, List.getElem_cons_zero, Act.put, List.setIfInBounds_toArray, List.set_cons_zero, List.set_cons_succ])
  refine wpAnyH_ready (rs := [17]) (by kernel_rfl) (by simp) ?_
  refine AllReadyH.cons (o := _) rfl (fun K hK => ?_) AllReadyH.nil
  go_simp
  (first
    | (go_at_call 24; (with_reducible refine (C1.out _ (same_below hHeld)).mono ?_); rintro e w7 ⟨rfl, hb⟩)
    | (go_at_call 25; (with_reducible refine (C2.out _ (same_below hHeld)).mono ?_); rintro e w8 ⟨rfl, hb⟩)
    | (go_at_call 26; (first | with_reducible refine (C3.out _ (same_below hHeld)).mono ?_ | with_reducible refine (C4.out _ (same_below hHeld)).mono ?_); rintro e w9 ⟨rfl, hb⟩)
    | (go_at_call 16; (first | with_reducible refine (RA.out _ (same_below hHeld)).mono ?_ | with_reducible refine (RB.out _ (same_below hHeld)).mono ?_); rintro e w3 ⟨rfl, hb⟩))
  go_wp2_with fail
  refine hK.out _ _ (keep_same hb hHeld) (fun hH2 => ?_)
  clear hK K hHeld hb
  have hHeld := hH2
  clear hH2
  (try simp only [List.getElem_toArray, List.getElem_cons_succ, List.getElem_cons_zero, Act.put, List.setIfInBounds_toArray, List.set_cons_zero, List.set_cons_succ])
  refine wpAnyH_ready (rs := [19]) (by kernel_rfl) (by simp) ?_
  refine AllReadyH.cons (o := _) rfl (fun K hK => ?_) AllReadyH.nil
  go_simp
  (first
    | (go_at_call 24; (with_reducible refine (C1.out _ (same_below hHeld)).mono ?_); rintro e w7 ⟨rfl, hb⟩)
    | (go_at_call 25; (with_reducible refine (C2.out _ (same_below hHeld)).mono ?_); rintro e w8 ⟨rfl, hb⟩)
    | (go_at_call 26; (first | with_reducible refine (C3.out _ (same_below hHeld)).mono ?_ | with_reducible refine (C4.out _ (same_below hHeld)).mono ?_); rintro e w9 ⟨rfl, hb⟩)
    | (go_at_call 16; (first | with_reducible refine (RA.out _ (same_below hHeld)).mono ?_ | with_reducible refine (RB.out _ (same_below hHeld)).mono ?_); rintro e w3 ⟨rfl, hb⟩))
  go_wp2_with fail
  refine hK.out _ _ (keep_same hb hHeld) (fun hH2 => ?_)
  clear hK K hHeld hb
  have hHeld := hH2
  clear hH2
  (try simp only [List.getElem_toArray, List.getElem_cons_succ, List.getElem_cons_zero, Act.put, List.setIfInBounds_toArray, List.set_cons_zero, List.set_cons_succ])
  refine wpAnyH_take (i := 20) (oi := _) (v := ?_) rfl (by kernel_rfl) (by kernel_rfl) (by kernel_rfl) (fun _ _ _ h => h) (Or.inl ⟨by rfl, ?_⟩) (by assumption) ?_
  rotate_left
  · intro ww hSw
    (try dsimp only at hSw)
    go_simp <;> with_reducible rfl
  (try simp only [List.getElem_toArray, List.getElem_cons_succ, List.getElem_cons_zero, Act.put, List.setIfInBounds_toArray, List.set_cons_zero, List.set_cons_succ])
  refine wpAnyH_take (i := 21) (oi := _) (v := ?_) rfl (by kernel_rfl) (by kernel_rfl) (by kernel_rfl) (fun _ _ _ h => h) (Or.inl ⟨by rfl, ?_⟩) (by assumption) ?_
  rotate_left
  · intro ww hSw
    (try dsimp only at hSw)
    go_simp <;> with_reducible rfl
  (try simp only [List.getElem_toArray, List.getElem_cons_succ, List.getElem_cons_zero, Act.put, List.setIfInBounds_toArray, List.set_cons_zero, List.set_cons_succ])
  refine wpAnyH_take (i := 22) (oi := _) (v := ?_) rfl (by kernel_rfl) (by kernel_rfl) (by kernel_rfl) (fun _ _ _ h => h) (Or.inl ⟨by rfl, ?_⟩) (by assumption) ?_
  rotate_left
  · intro ww hSw
    (try dsimp only at hSw)
    go_simp <;> with_reducible rfl
  (try simp only [List.getElem_toArray, List.getElem_cons_succ, List.getElem_cons_zero, Act.put, List.setIfInBounds_toArray, List.set_cons_zero, List.set_cons_succ])
  refine wpAnyH_done (by kernel_rfl) ?_ _
  refine NoPanic.normal ?_
  go_wp2_with fail
  go_ret
  exact ⟨rfl, same_below hHeld⟩

set_option maxRecDepth 4000 in
set_option maxHeartbeats 4000000 in
theorem texts_big (w : World) (ht : Pow10 w) (sa : Value) (l : List (Int × Int)) (xn xd : Int) (ha : RatsAt w sa l) (sb : Value) (m : List (Int × Int)) (yn yd : Int) (hb : RatsAt w sb m) (nv : Value) (ns : List (List UInt8)) (hN : NamesAt w nv ns) (hbig : ¬ l.length ≤ 12 ∨ (l.length ≤ 12 ∧ ¬ m.length ≤ 12) ∨ (l.length ≤ 12 ∧ m.length ≤ 12 ∧ ¬ ns.length ≤ 12)) :
    Calls Tryd.prog 5 #[.agg #[sa, .int .i64 xn, .int .i64 xd], .agg #[sb, .int .i64 yn, .int .i64 yd], nv] w fun r w' => r = .returned (.bool true) ∧ Below w.heap.size w w' := by
  have z1 := fun (w' : World) (h : Below w.heap.size w w') => small_any w' sa l xn xd (ha.below h)
  have z2 := fun (w' : World) (h : Below w.heap.size w w') => small_any w' sb m yn yd (hb.below h)
  have AW := Lib.hid (fun (w' : World) (hb : Below w.heap.size w w') => awake2_yes w' (pow10_on ht hb))
  obtain ⟨A, c, rfl⟩ := rats_shape ha
  obtain ⟨B, d, rfl⟩ := rats_shape hb
  obtain ⟨Q, f, rfl⟩ := names_shape hN
  rcases hbig with hl12 | ⟨hl12, hm12⟩ | ⟨hl12, hm12, hn12⟩
  · rw [decide_eq_false hl12] at z1
    have Z1 := Lib.hid z1; have Z2 := Lib.hid z2
    clear ht ha hb hN z1 z2 hl12
    generalize l.length = la at *
    generalize m.length = lb at *
    generalize ns.length = ln at *
    have HS := same_start2 w A B la c lb d xn xd yn yd
    go_enter Tryd.func5, Tryd.ntmps5
    go_upto_region 2 with (first
      | (go_at_call 9; (with_reducible refine (AW.out _ (same_below HS)).mono ?_); rintro e w1 ⟨rfl, hq⟩; have HS := keep_same hq HS; obtain ⟨⟨a0, a1, a2, b0, b1, b2⟩, _, _⟩ := id HS; clear hq)
      | (go_at_call 10; (first | with_reducible refine (Z1.out _ (same_below HS)).mono ?_ | with_reducible refine (Z2.out _ (same_below HS)).mono ?_); rintro e w2 ⟨rfl, hq⟩; have HS := keep_same hq HS; obtain ⟨⟨a0, a1, a2, b0, b1, b2⟩, _, _⟩ := id HS; clear hq))
    go_wp2_with (go_at_call 9; (with_reducible refine (AW.out _ (same_below HS)).mono ?_); rintro e w1 ⟨rfl, hq⟩; have HS := keep_same hq HS; obtain ⟨⟨a0, a1, a2, b0, b1, b2⟩, _, _⟩ := id HS; clear hq)
    go_ret
    exact ⟨rfl, same_below HS⟩
  · rw [decide_eq_true hl12] at z1
    rw [decide_eq_false hm12] at z2
    have Z1 := Lib.hid z1; have Z2 := Lib.hid z2
    clear ht ha hb hN z1 z2 hl12 hm12
    generalize l.length = la at *
    generalize m.length = lb at *
    generalize ns.length = ln at *
    have HS := same_start2 w A B la c lb d xn xd yn yd
    go_enter Tryd.func5, Tryd.ntmps5
    go_upto_region 2 with (first
      | (go_at_call 9; (with_reducible refine (AW.out _ (same_below HS)).mono ?_); rintro e w1 ⟨rfl, hq⟩; have HS := keep_same hq HS; obtain ⟨⟨a0, a1, a2, b0, b1, b2⟩, _, _⟩ := id HS; clear hq)
      | (go_at_call 10; (first | with_reducible refine (Z1.out _ (same_below HS)).mono ?_ | with_reducible refine (Z2.out _ (same_below HS)).mono ?_); rintro e w2 ⟨rfl, hq⟩; have HS := keep_same hq HS; obtain ⟨⟨a0, a1, a2, b0, b1, b2⟩, _, _⟩ := id HS; clear hq))
    go_wp2_with (go_at_call 9; (with_reducible refine (AW.out _ (same_below HS)).mono ?_); rintro e w1 ⟨rfl, hq⟩; have HS := keep_same hq HS; obtain ⟨⟨a0, a1, a2, b0, b1, b2⟩, _, _⟩ := id HS; clear hq)
    go_ret
    exact ⟨rfl, same_below HS⟩
  · rw [decide_eq_true hl12] at z1
    rw [decide_eq_true hm12] at z2
    have Z1 := Lib.hid z1; have Z2 := Lib.hid z2
    have q13 : (12 : Int) < (ns.length : Int) := by omega
    have q12 : decide ((ns.length : Int) > 12) = true := decide_eq_true q13
    have q14 : decide (12 < ns.length) = true := decide_eq_true (by omega)
    clear ht ha hb hN z1 z2 hl12 hm12 hn12
    generalize l.length = la at *
    generalize m.length = lb at *
    generalize ns.length = ln at *
    have HS := same_start2 w A B la c lb d xn xd yn yd
    go_enter Tryd.func5, Tryd.ntmps5
    go_upto_region 2 with (first
      | (go_at_call 9; (with_reducible refine (AW.out _ (same_below HS)).mono ?_); rintro e w1 ⟨rfl, hq⟩; have HS := keep_same hq HS; obtain ⟨⟨a0, a1, a2, b0, b1, b2⟩, _, _⟩ := id HS; clear hq)
      | (go_at_call 10; (first | with_reducible refine (Z1.out _ (same_below HS)).mono ?_ | with_reducible refine (Z2.out _ (same_below HS)).mono ?_); rintro e w2 ⟨rfl, hq⟩; have HS := keep_same hq HS; obtain ⟨⟨a0, a1, a2, b0, b1, b2⟩, _, _⟩ := id HS; clear hq))
    go_wp2_with (go_at_call 9; (with_reducible refine (AW.out _ (same_below HS)).mono ?_); rintro e w1 ⟨rfl, hq⟩; have HS := keep_same hq HS; obtain ⟨⟨a0, a1, a2, b0, b1, b2⟩, _, _⟩ := id HS; clear hq)
    go_ret
    exact ⟨rfl, same_below HS⟩

theorem texts_any (w : World) (ht : Pow10 w) (sa : Value) (l : List (Int × Int)) (xn xd : Int) (ha : RatsAt w sa l) (hl : Wide l) (x1 : -9223372036854775808 ≤ xn) (x2 : xn ≤ 9223372036854775807) (x3 : -9223372036854775808 ≤ xd) (x4 : xd ≤ 9223372036854775807) (sb : Value) (m : List (Int × Int)) (yn yd : Int) (hb : RatsAt w sb m) (hm : Wide m) (y1 : -9223372036854775808 ≤ yn) (y2 : yn ≤ 9223372036854775807) (y3 : -9223372036854775808 ≤ yd) (y4 : yd ≤ 9223372036854775807) (nv : Value) (ns : List (List UInt8)) (hN : NamesAt w nv ns) (hsz : ∀ k, (nameL ns k).length ≤ 1099511627776) :
    Calls Tryd.prog 5 #[.agg #[sa, .int .i64 xn, .int .i64 xd], .agg #[sb, .int .i64 yn, .int .i64 yd], nv] w fun r w' => r = .returned (.bool true) ∧ Below w.heap.size w w' := by
  by_cases hl12 : l.length ≤ 12
  · by_cases hm12 : m.length ≤ 12
    · by_cases hn12 : ns.length ≤ 12
      · cases hr : rightT l xn xd
        · exact texts_a w ht sa l xn xd ha hl x1 x2 x3 x4 sb m yn yd hb hm y1 y2 y3 y4 nv ns hN hsz hl12 hm12 hn12 hr
        · cases hr' : rightT m yn yd
          · exact texts_b w ht sa l xn xd ha hl x1 x2 x3 x4 sb m yn yd hb hm y1 y2 y3 y4 nv ns hN hsz hl12 hm12 hn12 hr hr'
          · exact texts_c w ht sa l xn xd ha hl x1 x2 x3 x4 sb m yn yd hb hm y1 y2 y3 y4 nv ns hN hsz hl12 hm12 hn12 hr hr'
      · exact texts_big w ht sa l xn xd ha sb m yn yd hb nv ns hN (.inr (.inr ⟨hl12, hm12, hn12⟩))
    · exact texts_big w ht sa l xn xd ha sb m yn yd hb nv ns hN (.inr (.inl ⟨hl12, hm12⟩))
  · exact texts_big w ht sa l xn xd ha sb m yn yd hb nv ns hN (.inl hl12)
end Go.Proofs.YtkgndeiddjkhmaaDoor
