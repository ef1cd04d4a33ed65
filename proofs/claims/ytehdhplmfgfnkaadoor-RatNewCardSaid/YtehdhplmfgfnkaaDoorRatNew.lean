/-
  What is proved: the statement RatNew: the program's New, Right, Compare and Show answer as the document's, whatever the numbers. Its conditions are the row's own (the table of powers as it is laid).
  (Template: by-name.py fills it.)
-/
import Derived.Test.YtehdhplmfgfnkaaDoorRatNewC
import Derived.Test.YtehdhplmfgfnkaaDoorRatL
import Derived.Deep.LoopGhost
import Derived.Test.YtehdhplmfgfnkaaDoorCards
import Derived.Test.YtehdhplmfgfnkaaDoorTie
import Derived.OpenShut
import Derived.LaidMore
import Derived.Stop.Joined
import Derived.Stop.LaidErr
import Derived.Deep.DeepHandedRow
namespace Go.Proofs.YtehdhplmfgfnkaaDoor
open Go.ChangeShapes Go.WideShapes Go.ChangeAt Go.RowKit

theorem Live.four {w w1 : World} {l : List (Nat × Int × Int)} (h : Live w w1 l) (i j k o : Nat) {b0 b1 b2 b3 : Nat} {n0 d0 n1 d1 n2 d2 n3 d3 : Int} (h0 : l[i]? = some (b0, n0, d0)) (h1 : l[j]? = some (b1, n1, d1)) (h2 : l[k]? = some (b2, n2, d2)) (h3 : l[o]? = some (b3, n3, d3)) :
    (w1.cell? ⟨b0, 0, none⟩ = some (.int .i64 n0) ∧ w1.cell? ⟨b0, 1, none⟩ = some (.int .i64 d0) ∧ w1.cell? ⟨b1, 0, none⟩ = some (.int .i64 n1) ∧ w1.cell? ⟨b1, 1, none⟩ = some (.int .i64 d1) ∧ w1.cell? ⟨b2, 0, none⟩ = some (.int .i64 n2) ∧ w1.cell? ⟨b2, 1, none⟩ = some (.int .i64 d2) ∧ w1.cell? ⟨b3, 0, none⟩ = some (.int .i64 n3) ∧ w1.cell? ⟨b3, 1, none⟩ = some (.int .i64 d3)) ∧ Live w w1 l :=
  ⟨⟨h.n i h0, h.d i h0, h.n j h1, h.d j h1, h.n k h2, h.d k h2, h.n o h3, h.d o h3⟩, h⟩
theorem hold_four {A : Prop} {w w1 w2 : World} {l : List (Nat × Int × Int)} (i j k o : Nat) {b0 b1 b2 b3 : Nat} {n0 d0 n1 d1 n2 d2 n3 d3 : Int} (h0 : l[i]? = some (b0, n0, d0)) (h1 : l[j]? = some (b1, n1, d1)) (h2 : l[k]? = some (b2, n2, d2)) (h3 : l[o]? = some (b3, n3, d3))
    (hb : Below w1.heap.size w1 w2) (h : A ∧ Live w w1 l) :
    (w2.cell? ⟨b0, 0, none⟩ = some (.int .i64 n0) ∧ w2.cell? ⟨b0, 1, none⟩ = some (.int .i64 d0) ∧ w2.cell? ⟨b1, 0, none⟩ = some (.int .i64 n1) ∧ w2.cell? ⟨b1, 1, none⟩ = some (.int .i64 d1) ∧ w2.cell? ⟨b2, 0, none⟩ = some (.int .i64 n2) ∧ w2.cell? ⟨b2, 1, none⟩ = some (.int .i64 d2) ∧ w2.cell? ⟨b3, 0, none⟩ = some (.int .i64 n3) ∧ w2.cell? ⟨b3, 1, none⟩ = some (.int .i64 d3)) ∧ Live w w2 l :=
  (h.2.call hb).four i j k o h0 h1 h2 h3

set_option maxRecDepth 4000 in
set_option maxHeartbeats 4000000 in
theorem rnew_law (n d m e : Int) (h1 : -9223372036854775808 ≤ n) (h2 : n ≤ 9223372036854775807) (h3 : -9223372036854775808 ≤ d) (h4 : d ≤ 9223372036854775807)
    (k1 : -9223372036854775808 ≤ m) (k2 : m ≤ 9223372036854775807) (k3 : -9223372036854775808 ≤ e) (k4 : e ≤ 9223372036854775807) (w : World) (ht : Pow10 w) :
    Calls Tryd.prog 3 #[.int .i64 n, .int .i64 d, ratV m e] w fun e w' => e = .returned (.bool true) ∧ Below w.heap.size w w' := by
  have r1 := Lib.hid (fun w => right_any n d w h1 h2 h3 h4)
  have r2 := Lib.hid (fun w => right_any m e w k1 k2 k3 k4)
  have q1 := Lib.hid (fun w => rright_any n d w h1 h2 h3 h4)
  have q2 := Lib.hid (fun w => rright_any m e w k1 k2 k3 k4)
  obtain ⟨cv, c1, c2⟩ := same_compare n d m e h1 h2 h3 h4 k1 k2 k3 k4
  obtain ⟨st, s1, s2⟩ := same_show n d h1 h2 h3 h4
  obtain ⟨p1, p2, p3, nw, rn, hp⟩ := same_new n d h1 h2 h3 h4
  have C1 := Lib.hid c1; have C2 := Lib.hid c2; have S1 := Lib.hid s1; have S2 := Lib.hid s2; have NW := Lib.hid nw; have RN := Lib.hid rn
  have HT := Lib.hid ht
  clear c1 c2 s1 s2 nw rn ht h1 h2 h3 h4 k1 k2 k3 k4
  generalize rightB n d = R1 at *
  generalize rightB m e = R2 at *
  have L := (Live.start w).box m e
  rcases hp with ⟨e0, kd, rfl, vp⟩ | e0
  · obtain rfl : p3 = 0 := by simpa using e0
    have r3 := Lib.hid (fun w => right_yes vp w)
    clear e0 vp
    go_enter Tryd.func3, Tryd.ntmps3
    go_upto_region 3 with (go_at_call 10; (with_reducible refine (awake_yes _).mono ?_); rintro e w1 ⟨rfl, hb⟩; have L := L.call hb)
    clear hb
    go_upto_region 4 with (go_at_call 11; (with_reducible refine (NW.out _).mono ?_); rintro e w2 ⟨rfl, hb⟩)
    have L := (L.call hb).box p1 kd
    clear hb
    go_upto_region 5 with (go_at_call 12; (with_reducible refine (RN.out _).mono ?_); rintro e w3 ⟨rfl, hb⟩)
    have L := ((L.call hb).box p1 kd).boxAt n d (w3.heap.size + 1) (by simp)
    clear hb
    go_upto_region 6 with fail
    have HS := hold_four 0 1 2 3 rfl rfl rfl rfl (below_drew _) (And.intro trivial L)
    clear L
    (first | (go_region_held3 (fun w' => (w'.cell? ⟨w3.heap.size + 1, 0, none⟩ = some (.int .i64 n) ∧ w'.cell? ⟨w3.heap.size + 1, 1, none⟩ = some (.int .i64 d) ∧ w'.cell? ⟨w3.heap.size, 0, none⟩ = some (.int .i64 p1) ∧ w'.cell? ⟨w3.heap.size, 1, none⟩ = some (.int .i64 (kd : Int)) ∧ w'.cell? ⟨w2.heap.size, 0, none⟩ = some (.int .i64 p1) ∧ w'.cell? ⟨w2.heap.size, 1, none⟩ = some (.int .i64 (kd : Int)) ∧ w'.cell? ⟨w.heap.size, 0, none⟩ = some (.int .i64 m) ∧ w'.cell? ⟨w.heap.size, 1, none⟩ = some (.int .i64 e)) ∧ Live w w' [(w3.heap.size + 1, n, d), (w3.heap.size, p1, (kd : Int)), (w2.heap.size, p1, (kd : Int)), (w.heap.size, m, e)])
      (first
        | with_reducible assumption
        | with_reducible exact hold_four 0 1 2 3 rfl rfl rfl rfl (by with_reducible assumption) (by with_reducible assumption))
      (first
        | (go_at_call 13; (first | with_reducible refine (r1.out _).mono ?_ | with_reducible refine (r2.out _).mono ?_ | with_reducible refine (r3.out _).mono ?_); rintro e w' ⟨rfl, hb⟩)
        | (go_at_call 14; (first | with_reducible refine (q1.out _).mono ?_ | with_reducible refine (q2.out _).mono ?_); rintro e w' ⟨rfl, hb⟩)
        | (go_at_call 15; (with_reducible refine (C1.out _).mono ?_); rintro e w' ⟨rfl, hb⟩)
        | (go_at_call 16; (with_reducible refine (C2.out _).mono ?_); rintro e w' ⟨rfl, hb⟩)
        | (go_at_call 17; (with_reducible refine (S1.out _ (pow10_on HT.out (live_of (by with_reducible assumption)).below)).mono ?_); rintro e w' ⟨rfl, hb⟩)
        | (go_at_call 18; (with_reducible refine (S2.out _).mono ?_); rintro e w' ⟨rfl, hb⟩))) | fail)
    go_wp2_with fail
    go_ret
    exact ⟨rfl, (live_of (by with_reducible assumption)).below⟩
  · have e1 : (p3 != 0) = true := by simpa using e0
    go_enter Tryd.func3, Tryd.ntmps3
    go_upto_region 3 with (go_at_call 10; (with_reducible refine (awake_yes _).mono ?_); rintro e w1 ⟨rfl, hb⟩; have L := L.call hb)
    clear hb
    go_upto_region 4 with (go_at_call 11; (with_reducible refine (NW.out _).mono ?_); rintro e w2 ⟨rfl, hb⟩)
    have L := (L.call hb).box p1 p2
    clear hb
    go_upto_region 5 with (go_at_call 12; (with_reducible refine (RN.out _).mono ?_); rintro e w3 ⟨rfl, hb⟩)
    have L := ((L.call hb).box p1 p2).boxAt n d (w3.heap.size + 1) (by simp)
    clear hb
    go_upto_region 6 with fail
    have HS := hold_four 0 1 2 3 rfl rfl rfl rfl (below_drew _) (And.intro trivial L)
    clear L
    refine wp_region_noPanic ?_
    refine wp_region_held_drew (S := (fun w' => (w'.cell? ⟨w3.heap.size + 1, 0, none⟩ = some (.int .i64 n) ∧ w'.cell? ⟨w3.heap.size + 1, 1, none⟩ = some (.int .i64 d) ∧ w'.cell? ⟨w3.heap.size, 0, none⟩ = some (.int .i64 p1) ∧ w'.cell? ⟨w3.heap.size, 1, none⟩ = some (.int .i64 p2) ∧ w'.cell? ⟨w2.heap.size, 0, none⟩ = some (.int .i64 p1) ∧ w'.cell? ⟨w2.heap.size, 1, none⟩ = some (.int .i64 p2) ∧ w'.cell? ⟨w.heap.size, 0, none⟩ = some (.int .i64 m) ∧ w'.cell? ⟨w.heap.size, 1, none⟩ = some (.int .i64 e)) ∧ Live w w' [(w3.heap.size + 1, n, d), (w3.heap.size, p1, p2), (w2.heap.size, p1, p2), (w.heap.size, m, e)])) (by kernel_rfl) HS (fun hHeld => ?_)
    clear HS
    refine wpAnyH_take (i := 0) (oi := _) (v := ?_) rfl (by kernel_rfl) (by kernel_rfl) (by kernel_rfl) (fun _ _ _ h => h) (Or.inl ⟨by rfl, ?_⟩) (by assumption) ?_
    rotate_left
    · intro ww hSw
      go_simp <;> with_reducible rfl
    (try simp only [List.getElem_toArray, List.getElem_cons_zero, Act.put, List.setIfInBounds_toArray, List.set_cons_zero, List.set_cons_succ])
    refine wpAnyH_take (i := 1) (oi := _) (v := ?_) rfl (by kernel_rfl) (by kernel_rfl) (by kernel_rfl) (fun _ _ _ h => h) (Or.inl ⟨by rfl, ?_⟩) (by assumption) ?_
    rotate_left
    · intro ww hSw
      go_simp <;> with_reducible rfl
    (try simp only [List.getElem_toArray, List.getElem_cons_succ, List.getElem_cons_zero, Act.put, List.setIfInBounds_toArray, List.set_cons_zero, List.set_cons_succ])
    refine wpAnyH_take (i := 2) (oi := _) (v := ?_) rfl (by kernel_rfl) (by kernel_rfl) (by kernel_rfl) (fun _ _ _ h => h) (Or.inl ⟨by rfl, ?_⟩) (by assumption) ?_
    rotate_left
    · intro ww hSw
      go_simp <;> with_reducible rfl
    (try simp only [List.getElem_toArray, List.getElem_cons_succ, List.getElem_cons_zero, Act.put, List.setIfInBounds_toArray, List.set_cons_zero, List.set_cons_succ])
    refine wpAnyH_take (i := 3) (oi := _) (v := ?_) rfl (by kernel_rfl) (by kernel_rfl) (by kernel_rfl) (fun _ _ _ h => h) (Or.inl ⟨by rfl, ?_⟩) (by assumption) ?_
    rotate_left
    · intro ww hSw
      go_simp <;> with_reducible rfl
    (try simp only [List.getElem_toArray, List.getElem_cons_succ, List.getElem_cons_zero, Act.put, List.setIfInBounds_toArray, List.set_cons_zero, List.set_cons_succ])
    refine wpAnyH_take (i := 4) (oi := _) (v := ?_) rfl (by kernel_rfl) (by kernel_rfl) (by kernel_rfl) (fun _ _ _ h => h) (Or.inl ⟨by rfl, ?_⟩) (by assumption) ?_
    rotate_left
    · intro ww hSw
      go_simp <;> with_reducible rfl
    (try simp only [List.getElem_toArray, List.getElem_cons_succ, List.getElem_cons_zero, Act.put, List.setIfInBounds_toArray, List.set_cons_zero, List.set_cons_succ])
    refine wpAnyH_take (i := 5) (oi := _) (v := ?_) rfl (by kernel_rfl) (by kernel_rfl) (by kernel_rfl) (fun _ _ _ h => h) (Or.inl ⟨by rfl, ?_⟩) (by assumption) ?_
    rotate_left
    · intro ww hSw
      go_simp <;> with_reducible rfl
    (try simp only [List.getElem_toArray, List.getElem_cons_succ, List.getElem_cons_zero, Act.put, List.setIfInBounds_toArray, List.set_cons_zero, List.set_cons_succ])
    refine wpAnyH_take (i := 6) (oi := _) (v := ?_) rfl (by kernel_rfl) (by kernel_rfl) (by kernel_rfl) (fun _ _ _ h => h) (Or.inl ⟨by rfl, ?_⟩) (by assumption) ?_
    rotate_left
    · intro ww hSw
      go_simp <;> with_reducible rfl
    (try simp only [List.getElem_toArray, List.getElem_cons_succ, List.getElem_cons_zero, Act.put, List.setIfInBounds_toArray, List.set_cons_zero, List.set_cons_succ])
    refine wpAnyH_take (i := 7) (oi := _) (v := ?_) rfl (by kernel_rfl) (by kernel_rfl) (by kernel_rfl) (fun _ _ _ h => h) (Or.inl ⟨by rfl, ?_⟩) (by assumption) ?_
    rotate_left
    · intro ww hSw
      go_simp <;> with_reducible rfl
    (try simp only [List.getElem_toArray, List.getElem_cons_succ, List.getElem_cons_zero, Act.put, List.setIfInBounds_toArray, List.set_cons_zero, List.set_cons_succ])
    refine wpAnyH_take (i := 8) (oi := _) (v := ?_) rfl (by kernel_rfl) (by kernel_rfl) (by kernel_rfl) (fun _ _ _ h => h) (Or.inl ⟨by rfl, ?_⟩) (by assumption) ?_
    rotate_left
    · intro ww hSw
      go_simp <;> with_reducible rfl
    (try simp only [List.getElem_toArray, List.getElem_cons_succ, List.getElem_cons_zero, Act.put, List.setIfInBounds_toArray, List.set_cons_zero, List.set_cons_succ])
    refine wpAnyH_take (i := 9) (oi := _) (v := ?_) rfl (by kernel_rfl) (by kernel_rfl) (by kernel_rfl) (fun _ _ _ h => h) (Or.inl ⟨by rfl, ?_⟩) (by assumption) ?_
    rotate_left
    · intro ww hSw
      go_simp <;> with_reducible rfl
    (try simp only [List.getElem_toArray, List.getElem_cons_succ, List.getElem_cons_zero, Act.put, List.setIfInBounds_toArray, List.set_cons_zero, List.set_cons_succ])
    refine wpAnyH_take (i := 11) (oi := _) (v := ?_) rfl (by kernel_rfl) (by kernel_rfl) (by kernel_rfl) (fun _ _ _ h => h) (Or.inl ⟨by rfl, ?_⟩) (by assumption) ?_
    rotate_left
    · intro ww hSw
      go_simp <;> with_reducible rfl
    (try simp only [List.getElem_toArray, List.getElem_cons_succ, List.getElem_cons_zero, Act.put, List.setIfInBounds_toArray, List.set_cons_zero, List.set_cons_succ])
    refine wpAnyH_ready (rs := [10]) (by kernel_rfl) (by simp) ?_
    refine AllReadyH.cons (o := _) rfl (fun K hK => ?_) AllReadyH.nil
    go_simp
    (first
      | (go_at_call 13; (first | with_reducible refine (r1.out _).mono ?_ | with_reducible refine (r2.out _).mono ?_); rintro e w' ⟨rfl, hb⟩)
      | (go_at_call 14; (first | with_reducible refine (q1.out _).mono ?_ | with_reducible refine (q2.out _).mono ?_); rintro e w' ⟨rfl, hb⟩)
      | (go_at_call 15; (with_reducible refine (C1.out _).mono ?_); rintro e w' ⟨rfl, hb⟩)
      | (go_at_call 16; (with_reducible refine (C2.out _).mono ?_); rintro e w' ⟨rfl, hb⟩)
      | (go_at_call 17; (with_reducible refine (S1.out _ (pow10_on HT.out (live_of (by with_reducible assumption)).below)).mono ?_); rintro e w' ⟨rfl, hb⟩)
      | (go_at_call 18; (with_reducible refine (S2.out _).mono ?_); rintro e w' ⟨rfl, hb⟩))
    go_wp2_with fail
    refine hK.out _ _ (hold_four 0 1 2 3 rfl rfl rfl rfl (by with_reducible assumption) (by with_reducible assumption)) (fun hH2 => ?_)
    clear hK K hHeld hb
    have hHeld := hH2
    clear hH2
    (try simp only [List.getElem_toArray, List.getElem_cons_succ, List.getElem_cons_zero, Act.put, List.setIfInBounds_toArray, List.set_cons_zero, List.set_cons_succ])
    refine wpAnyH_ready (rs := [12]) (by kernel_rfl) (by simp) ?_
    refine AllReadyH.cons (o := _) rfl (fun K hK => ?_) AllReadyH.nil
    go_simp
    (first
      | (go_at_call 13; (first | with_reducible refine (r1.out _).mono ?_ | with_reducible refine (r2.out _).mono ?_); rintro e w' ⟨rfl, hb⟩)
      | (go_at_call 14; (first | with_reducible refine (q1.out _).mono ?_ | with_reducible refine (q2.out _).mono ?_); rintro e w' ⟨rfl, hb⟩)
      | (go_at_call 15; (with_reducible refine (C1.out _).mono ?_); rintro e w' ⟨rfl, hb⟩)
      | (go_at_call 16; (with_reducible refine (C2.out _).mono ?_); rintro e w' ⟨rfl, hb⟩)
      | (go_at_call 17; (with_reducible refine (S1.out _ (pow10_on HT.out (live_of (by with_reducible assumption)).below)).mono ?_); rintro e w' ⟨rfl, hb⟩)
      | (go_at_call 18; (with_reducible refine (S2.out _).mono ?_); rintro e w' ⟨rfl, hb⟩))
    go_wp2_with fail
    refine hK.out _ _ (hold_four 0 1 2 3 rfl rfl rfl rfl (by with_reducible assumption) (by with_reducible assumption)) (fun hH2 => ?_)
    clear hK K hHeld hb
    have hHeld := hH2
    clear hH2
    (try simp only [List.getElem_toArray, List.getElem_cons_succ, List.getElem_cons_zero, Act.put, List.setIfInBounds_toArray, List.set_cons_zero, List.set_cons_succ])
    refine wpAnyH_take (i := 13) (oi := _) (v := ?_) rfl (by kernel_rfl) (by kernel_rfl) (by kernel_rfl) (fun _ _ _ h => h) (Or.inl ⟨by rfl, ?_⟩) (by assumption) ?_
    rotate_left
    · intro ww hSw
      go_simp <;> with_reducible rfl
    (try simp only [List.getElem_toArray, List.getElem_cons_succ, List.getElem_cons_zero, Act.put, List.setIfInBounds_toArray, List.set_cons_zero, List.set_cons_succ])
    refine wpAnyH_take (i := 14) (oi := _) (v := ?_) rfl (by kernel_rfl) (by kernel_rfl) (by kernel_rfl) (fun _ _ _ h => h) (Or.inl ⟨by rfl, ?_⟩) (by assumption) ?_
    rotate_left
    · intro ww hSw
      go_simp <;> with_reducible rfl
    (try simp only [List.getElem_toArray, List.getElem_cons_succ, List.getElem_cons_zero, Act.put, List.setIfInBounds_toArray, List.set_cons_zero, List.set_cons_succ])
    refine wpAnyH_take (i := 15) (oi := _) (v := ?_) rfl (by kernel_rfl) (by kernel_rfl) (by kernel_rfl) (fun _ _ _ h => h) (Or.inl ⟨by rfl, ?_⟩) (by assumption) ?_
    rotate_left
    · intro ww hSw
      go_simp <;> with_reducible rfl
    (try simp only [List.getElem_toArray, List.getElem_cons_succ, List.getElem_cons_zero, Act.put, List.setIfInBounds_toArray, List.set_cons_zero, List.set_cons_succ])
    refine wpAnyH_take (i := 16) (oi := _) (v := ?_) rfl (by kernel_rfl) (by kernel_rfl) (by kernel_rfl) (fun _ _ _ h => h) (Or.inl ⟨by rfl, ?_⟩) (by assumption) ?_
    rotate_left
    · intro ww hSw
      go_simp <;> with_reducible rfl
    (try simp only [List.getElem_toArray, List.getElem_cons_succ, List.getElem_cons_zero, Act.put, List.setIfInBounds_toArray, List.set_cons_zero, List.set_cons_succ])
    refine wpAnyH_take (i := 18) (oi := _) (v := ?_) rfl (by kernel_rfl) (by kernel_rfl) (by kernel_rfl) (fun _ _ _ h => h) (Or.inl ⟨by rfl, ?_⟩) (by assumption) ?_
    rotate_left
    · intro ww hSw
      go_simp <;> with_reducible rfl
    (try simp only [List.getElem_toArray, List.getElem_cons_succ, List.getElem_cons_zero, Act.put, List.setIfInBounds_toArray, List.set_cons_zero, List.set_cons_succ])
    refine wpAnyH_ready (rs := [17]) (by kernel_rfl) (by simp) ?_
    refine AllReadyH.cons (o := _) rfl (fun K hK => ?_) AllReadyH.nil
    go_simp
    (first
      | (go_at_call 13; (first | with_reducible refine (r1.out _).mono ?_ | with_reducible refine (r2.out _).mono ?_); rintro e w' ⟨rfl, hb⟩)
      | (go_at_call 14; (first | with_reducible refine (q1.out _).mono ?_ | with_reducible refine (q2.out _).mono ?_); rintro e w' ⟨rfl, hb⟩)
      | (go_at_call 15; (with_reducible refine (C1.out _).mono ?_); rintro e w' ⟨rfl, hb⟩)
      | (go_at_call 16; (with_reducible refine (C2.out _).mono ?_); rintro e w' ⟨rfl, hb⟩)
      | (go_at_call 17; (with_reducible refine (S1.out _ (pow10_on HT.out (live_of (by with_reducible assumption)).below)).mono ?_); rintro e w' ⟨rfl, hb⟩)
      | (go_at_call 18; (with_reducible refine (S2.out _).mono ?_); rintro e w' ⟨rfl, hb⟩))
    go_wp2_with fail
    refine hK.out _ _ (hold_four 0 1 2 3 rfl rfl rfl rfl (by with_reducible assumption) (by with_reducible assumption)) (fun hH2 => ?_)
    clear hK K hHeld hb
    have hHeld := hH2
    clear hH2
    (try simp only [List.getElem_toArray, List.getElem_cons_succ, List.getElem_cons_zero, Act.put, List.setIfInBounds_toArray, List.set_cons_zero, List.set_cons_succ])
    refine wpAnyH_ready (rs := [19]) (by kernel_rfl) (by simp) ?_
    refine AllReadyH.cons (o := _) rfl (fun K hK => ?_) AllReadyH.nil
    go_simp
    (first
      | (go_at_call 13; (first | with_reducible refine (r1.out _).mono ?_ | with_reducible refine (r2.out _).mono ?_); rintro e w' ⟨rfl, hb⟩)
      | (go_at_call 14; (first | with_reducible refine (q1.out _).mono ?_ | with_reducible refine (q2.out _).mono ?_); rintro e w' ⟨rfl, hb⟩)
      | (go_at_call 15; (with_reducible refine (C1.out _).mono ?_); rintro e w' ⟨rfl, hb⟩)
      | (go_at_call 16; (with_reducible refine (C2.out _).mono ?_); rintro e w' ⟨rfl, hb⟩)
      | (go_at_call 17; (with_reducible refine (S1.out _ (pow10_on HT.out (live_of (by with_reducible assumption)).below)).mono ?_); rintro e w' ⟨rfl, hb⟩)
      | (go_at_call 18; (with_reducible refine (S2.out _).mono ?_); rintro e w' ⟨rfl, hb⟩))
    go_wp2_with fail
    refine hK.out _ _ (hold_four 0 1 2 3 rfl rfl rfl rfl (by with_reducible assumption) (by with_reducible assumption)) (fun hH2 => ?_)
    clear hK K hHeld hb
    have hHeld := hH2
    clear hH2
    (try simp only [List.getElem_toArray, List.getElem_cons_succ, List.getElem_cons_zero, Act.put, List.setIfInBounds_toArray, List.set_cons_zero, List.set_cons_succ])
    refine wpAnyH_take (i := 20) (oi := _) (v := ?_) rfl (by kernel_rfl) (by kernel_rfl) (by kernel_rfl) (fun _ _ _ h => h) (Or.inl ⟨by rfl, ?_⟩) (by assumption) ?_
    rotate_left
    · intro ww hSw
      go_simp <;> with_reducible rfl
    (try simp only [List.getElem_toArray, List.getElem_cons_succ, List.getElem_cons_zero, Act.put, List.setIfInBounds_toArray, List.set_cons_zero, List.set_cons_succ])
    refine wpAnyH_take (i := 21) (oi := _) (v := ?_) rfl (by kernel_rfl) (by kernel_rfl) (by kernel_rfl) (fun _ _ _ h => h) (Or.inl ⟨by rfl, ?_⟩) (by assumption) ?_
    rotate_left
    · intro ww hSw
      go_simp <;> with_reducible rfl
    (try simp only [List.getElem_toArray, List.getElem_cons_succ, List.getElem_cons_zero, Act.put, List.setIfInBounds_toArray, List.set_cons_zero, List.set_cons_succ])
    refine wpAnyH_take (i := 22) (oi := _) (v := ?_) rfl (by kernel_rfl) (by kernel_rfl) (by kernel_rfl) (fun _ _ _ h => h) (Or.inl ⟨by rfl, ?_⟩) (by assumption) ?_
    rotate_left
    · intro ww hSw
      go_simp <;> with_reducible rfl
    (try simp only [List.getElem_toArray, List.getElem_cons_succ, List.getElem_cons_zero, Act.put, List.setIfInBounds_toArray, List.set_cons_zero, List.set_cons_succ])
    refine wpAnyH_take (i := 23) (oi := _) (v := ?_) rfl (by kernel_rfl) (by kernel_rfl) (by kernel_rfl) (fun _ _ _ h => h) (Or.inl ⟨by rfl, ?_⟩) (by assumption) ?_
    rotate_left
    · intro ww hSw
      go_simp <;> with_reducible rfl
    (try simp only [List.getElem_toArray, List.getElem_cons_succ, List.getElem_cons_zero, Act.put, List.setIfInBounds_toArray, List.set_cons_zero, List.set_cons_succ])
    refine wpAnyH_take (i := 24) (oi := _) (v := ?_) rfl (by kernel_rfl) (by kernel_rfl) (by kernel_rfl) (fun _ _ _ h => h) (Or.inl ⟨by rfl, ?_⟩) (by assumption) ?_
    rotate_left
    · intro ww hSw
      go_simp <;> with_reducible rfl
    (try simp only [List.getElem_toArray, List.getElem_cons_succ, List.getElem_cons_zero, Act.put, List.setIfInBounds_toArray, List.set_cons_zero, List.set_cons_succ])
    refine wpAnyH_take (i := 26) (oi := _) (v := ?_) rfl (by kernel_rfl) (by kernel_rfl) (by kernel_rfl) (fun _ _ _ h => h) (Or.inl ⟨by rfl, ?_⟩) (by assumption) ?_
    rotate_left
    · intro ww hSw
      go_simp <;> with_reducible rfl
    (try simp only [List.getElem_toArray, List.getElem_cons_succ, List.getElem_cons_zero, Act.put, List.setIfInBounds_toArray, List.set_cons_zero, List.set_cons_succ])
    refine wpAnyH_take (i := 27) (oi := _) (v := ?_) rfl (by kernel_rfl) (by kernel_rfl) (by kernel_rfl) (fun _ _ _ h => h) (Or.inl ⟨by rfl, ?_⟩) (by assumption) ?_
    rotate_left
    · intro ww hSw
      go_simp <;> with_reducible rfl
    (try simp only [List.getElem_toArray, List.getElem_cons_succ, List.getElem_cons_zero, Act.put, List.setIfInBounds_toArray, List.set_cons_zero, List.set_cons_succ])
    refine wpAnyH_ready (rs := [25]) (by kernel_rfl) (by simp) ?_
    refine AllReadyH.cons (o := _) rfl (fun K hK => ?_) AllReadyH.nil
    go_simp
    (first
      | (go_at_call 13; (first | with_reducible refine (r1.out _).mono ?_ | with_reducible refine (r2.out _).mono ?_); rintro e w' ⟨rfl, hb⟩)
      | (go_at_call 14; (first | with_reducible refine (q1.out _).mono ?_ | with_reducible refine (q2.out _).mono ?_); rintro e w' ⟨rfl, hb⟩)
      | (go_at_call 15; (with_reducible refine (C1.out _).mono ?_); rintro e w' ⟨rfl, hb⟩)
      | (go_at_call 16; (with_reducible refine (C2.out _).mono ?_); rintro e w' ⟨rfl, hb⟩)
      | (go_at_call 17; (with_reducible refine (S1.out _ (pow10_on HT.out (live_of (by with_reducible assumption)).below)).mono ?_); rintro e w' ⟨rfl, hb⟩)
      | (go_at_call 18; (with_reducible refine (S2.out _).mono ?_); rintro e w' ⟨rfl, hb⟩))
    go_wp2_with fail
    refine hK.out _ _ (hold_four 0 1 2 3 rfl rfl rfl rfl (by with_reducible assumption) (by with_reducible assumption)) (fun hH2 => ?_)
    clear hK K hHeld hb
    have hHeld := hH2
    clear hH2
    (try simp only [List.getElem_toArray, List.getElem_cons_succ, List.getElem_cons_zero, Act.put, List.setIfInBounds_toArray, List.set_cons_zero, List.set_cons_succ])
    refine wpAnyH_ready (rs := [28]) (by kernel_rfl) (by simp) ?_
    refine AllReadyH.cons (o := _) rfl (fun K hK => ?_) AllReadyH.nil
    go_simp
    (first
      | (go_at_call 13; (first | with_reducible refine (r1.out _).mono ?_ | with_reducible refine (r2.out _).mono ?_); rintro e w' ⟨rfl, hb⟩)
      | (go_at_call 14; (first | with_reducible refine (q1.out _).mono ?_ | with_reducible refine (q2.out _).mono ?_); rintro e w' ⟨rfl, hb⟩)
      | (go_at_call 15; (with_reducible refine (C1.out _).mono ?_); rintro e w' ⟨rfl, hb⟩)
      | (go_at_call 16; (with_reducible refine (C2.out _).mono ?_); rintro e w' ⟨rfl, hb⟩)
      | (go_at_call 17; (with_reducible refine (S1.out _ (pow10_on HT.out (live_of (by with_reducible assumption)).below)).mono ?_); rintro e w' ⟨rfl, hb⟩)
      | (go_at_call 18; (with_reducible refine (S2.out _).mono ?_); rintro e w' ⟨rfl, hb⟩))
    go_wp2_with fail
    refine hK.out _ _ (hold_four 0 1 2 3 rfl rfl rfl rfl (by with_reducible assumption) (by with_reducible assumption)) (fun hH2 => ?_)
    clear hK K hHeld hb
    have hHeld := hH2
    clear hH2
    (try simp only [List.getElem_toArray, List.getElem_cons_succ, List.getElem_cons_zero, Act.put, List.setIfInBounds_toArray, List.set_cons_zero, List.set_cons_succ])
    refine wpAnyH_take (i := 29) (oi := _) (v := ?_) rfl (by kernel_rfl) (by kernel_rfl) (by kernel_rfl) (fun _ _ _ h => h) (Or.inl ⟨by rfl, ?_⟩) (by assumption) ?_
    rotate_left
    · intro ww hSw
      go_simp <;> with_reducible rfl
    (try simp only [List.getElem_toArray, List.getElem_cons_succ, List.getElem_cons_zero, Act.put, List.setIfInBounds_toArray, List.set_cons_zero, List.set_cons_succ])
    refine wpAnyH_take (i := 30) (oi := _) (v := ?_) rfl (by kernel_rfl) (by kernel_rfl) (by kernel_rfl) (fun _ _ _ h => h) (Or.inl ⟨by rfl, ?_⟩) (by assumption) ?_
    rotate_left
    · intro ww hSw
      go_simp <;> with_reducible rfl
    (try simp only [List.getElem_toArray, List.getElem_cons_succ, List.getElem_cons_zero, Act.put, List.setIfInBounds_toArray, List.set_cons_zero, List.set_cons_succ])
    refine wpAnyH_take (i := 31) (oi := _) (v := ?_) rfl (by kernel_rfl) (by kernel_rfl) (by kernel_rfl) (fun _ _ _ h => h) (Or.inl ⟨by rfl, ?_⟩) (by assumption) ?_
    rotate_left
    · intro ww hSw
      go_simp <;> with_reducible rfl
    (try simp only [List.getElem_toArray, List.getElem_cons_succ, List.getElem_cons_zero, Act.put, List.setIfInBounds_toArray, List.set_cons_zero, List.set_cons_succ])
    refine wpAnyH_take (i := 32) (oi := _) (v := ?_) rfl (by kernel_rfl) (by kernel_rfl) (by kernel_rfl) (fun _ _ _ h => h) (Or.inl ⟨by rfl, ?_⟩) (by assumption) ?_
    rotate_left
    · intro ww hSw
      go_simp <;> with_reducible rfl
    (try simp only [List.getElem_toArray, List.getElem_cons_succ, List.getElem_cons_zero, Act.put, List.setIfInBounds_toArray, List.set_cons_zero, List.set_cons_succ])
    refine wpAnyH_take (i := 34) (oi := _) (v := ?_) rfl (by kernel_rfl) (by kernel_rfl) (by kernel_rfl) (fun _ _ _ h => h) (Or.inl ⟨by rfl, ?_⟩) (by assumption) ?_
    rotate_left
    · intro ww hSw
      go_simp <;> with_reducible rfl
    (try simp only [List.getElem_toArray, List.getElem_cons_succ, List.getElem_cons_zero, Act.put, List.setIfInBounds_toArray, List.set_cons_zero, List.set_cons_succ])
    refine wpAnyH_ready (rs := [33]) (by kernel_rfl) (by simp) ?_
    refine AllReadyH.cons (o := _) rfl (fun K hK => ?_) AllReadyH.nil
    go_simp
    (first
      | (go_at_call 13; (first | with_reducible refine (r1.out _).mono ?_ | with_reducible refine (r2.out _).mono ?_); rintro e w' ⟨rfl, hb⟩)
      | (go_at_call 14; (first | with_reducible refine (q1.out _).mono ?_ | with_reducible refine (q2.out _).mono ?_); rintro e w' ⟨rfl, hb⟩)
      | (go_at_call 15; (with_reducible refine (C1.out _).mono ?_); rintro e w' ⟨rfl, hb⟩)
      | (go_at_call 16; (with_reducible refine (C2.out _).mono ?_); rintro e w' ⟨rfl, hb⟩)
      | (go_at_call 17; (with_reducible refine (S1.out _ (pow10_on HT.out (live_of (by with_reducible assumption)).below)).mono ?_); rintro e w' ⟨rfl, hb⟩)
      | (go_at_call 18; (with_reducible refine (S2.out _).mono ?_); rintro e w' ⟨rfl, hb⟩))
    go_wp2_with fail
    refine hK.out _ _ (hold_four 0 1 2 3 rfl rfl rfl rfl (by with_reducible assumption) (by with_reducible assumption)) (fun hH2 => ?_)
    clear hK K hHeld hb
    have hHeld := hH2
    clear hH2
    (try simp only [List.getElem_toArray, List.getElem_cons_succ, List.getElem_cons_zero, Act.put, List.setIfInBounds_toArray, List.set_cons_zero, List.set_cons_succ])
    refine wpAnyH_ready (rs := [35]) (by kernel_rfl) (by simp) ?_
    refine AllReadyH.cons (o := _) rfl (fun K hK => ?_) AllReadyH.nil
    go_simp
    (first
      | (go_at_call 13; (first | with_reducible refine (r1.out _).mono ?_ | with_reducible refine (r2.out _).mono ?_); rintro e w' ⟨rfl, hb⟩)
      | (go_at_call 14; (first | with_reducible refine (q1.out _).mono ?_ | with_reducible refine (q2.out _).mono ?_); rintro e w' ⟨rfl, hb⟩)
      | (go_at_call 15; (with_reducible refine (C1.out _).mono ?_); rintro e w' ⟨rfl, hb⟩)
      | (go_at_call 16; (with_reducible refine (C2.out _).mono ?_); rintro e w' ⟨rfl, hb⟩)
      | (go_at_call 17; (with_reducible refine (S1.out _ (pow10_on HT.out (live_of (by with_reducible assumption)).below)).mono ?_); rintro e w' ⟨rfl, hb⟩)
      | (go_at_call 18; (with_reducible refine (S2.out _).mono ?_); rintro e w' ⟨rfl, hb⟩))
    go_wp2_with fail
    refine hK.out _ _ (hold_four 0 1 2 3 rfl rfl rfl rfl (by with_reducible assumption) (by with_reducible assumption)) (fun hH2 => ?_)
    clear hK K hHeld hb
    have hHeld := hH2
    clear hH2
    (try simp only [List.getElem_toArray, List.getElem_cons_succ, List.getElem_cons_zero, Act.put, List.setIfInBounds_toArray, List.set_cons_zero, List.set_cons_succ])
    refine wpAnyH_take (i := 36) (oi := _) (v := ?_) rfl (by kernel_rfl) (by kernel_rfl) (by kernel_rfl) (fun _ _ _ h => h) (Or.inl ⟨by rfl, ?_⟩) (by assumption) ?_
    rotate_left
    · intro ww hSw
      go_simp <;> with_reducible rfl
    (try simp only [List.getElem_toArray, List.getElem_cons_succ, List.getElem_cons_zero, Act.put, List.setIfInBounds_toArray, List.set_cons_zero, List.set_cons_succ])
    refine wpAnyH_take (i := 37) (oi := _) (v := ?_) rfl (by kernel_rfl) (by kernel_rfl) (by kernel_rfl) (fun _ _ _ h => h) (Or.inl ⟨by rfl, ?_⟩) (by assumption) ?_
    rotate_left
    · intro ww hSw
      go_simp <;> with_reducible rfl
    (try simp only [List.getElem_toArray, List.getElem_cons_succ, List.getElem_cons_zero, Act.put, List.setIfInBounds_toArray, List.set_cons_zero, List.set_cons_succ])
    refine wpAnyH_take (i := 38) (oi := _) (v := ?_) rfl (by kernel_rfl) (by kernel_rfl) (by kernel_rfl) (fun _ _ _ h => h) (Or.inl ⟨by rfl, ?_⟩) (by assumption) ?_
    rotate_left
    · intro ww hSw
      go_simp <;> with_reducible rfl
    (try simp only [List.getElem_toArray, List.getElem_cons_succ, List.getElem_cons_zero, Act.put, List.setIfInBounds_toArray, List.set_cons_zero, List.set_cons_succ])
    refine wpAnyH_take (i := 39) (oi := _) (v := ?_) rfl (by kernel_rfl) (by kernel_rfl) (by kernel_rfl) (fun _ _ _ h => h) (Or.inl ⟨by rfl, ?_⟩) (by assumption) ?_
    rotate_left
    · intro ww hSw
      go_simp <;> with_reducible rfl
    (try simp only [List.getElem_toArray, List.getElem_cons_succ, List.getElem_cons_zero, Act.put, List.setIfInBounds_toArray, List.set_cons_zero, List.set_cons_succ])
    refine wpAnyH_take (i := 40) (oi := _) (v := ?_) rfl (by kernel_rfl) (by kernel_rfl) (by kernel_rfl) (fun _ _ _ h => h) (Or.inl ⟨by rfl, ?_⟩) (by assumption) ?_
    rotate_left
    · intro ww hSw
      go_simp <;> with_reducible rfl
    (try simp only [List.getElem_toArray, List.getElem_cons_succ, List.getElem_cons_zero, Act.put, List.setIfInBounds_toArray, List.set_cons_zero, List.set_cons_succ])
    refine wpAnyH_take (i := 41) (oi := _) (v := ?_) rfl (by kernel_rfl) (by kernel_rfl) (by kernel_rfl) (fun _ _ _ h => h) (Or.inl ⟨by rfl, ?_⟩) (by assumption) ?_
    rotate_left
    · intro ww hSw
      go_simp <;> with_reducible rfl
    (try simp only [List.getElem_toArray, List.getElem_cons_succ, List.getElem_cons_zero, Act.put, List.setIfInBounds_toArray, List.set_cons_zero, List.set_cons_succ])
    refine wpAnyH_ready (rs := [42]) (by kernel_rfl) (by simp) ?_
    refine AllReadyH.cons (o := _) rfl (fun K hK => ?_) AllReadyH.nil
    go_simp
    refine hK.out _ _ (by with_reducible assumption) (fun _ => ?_)
    clear hK K
    (try simp only [List.getElem_toArray, List.getElem_cons_succ, List.getElem_cons_zero, Act.put, List.setIfInBounds_toArray, List.set_cons_zero, List.set_cons_succ])
    refine wpAnyH_ready (rs := [43]) (by kernel_rfl) (by simp) ?_
    refine AllReadyH.cons (o := _) rfl (fun K hK => ?_) AllReadyH.nil
    go_simp
    refine hK.out _ _ (by with_reducible assumption) (fun _ => ?_)
    clear hK K
    (try simp only [List.getElem_toArray, List.getElem_cons_succ, List.getElem_cons_zero, Act.put, List.setIfInBounds_toArray, List.set_cons_zero, List.set_cons_succ])
    refine wpAnyH_take (i := 44) (oi := _) (v := ?_) rfl (by kernel_rfl) (by kernel_rfl) (by kernel_rfl) (fun _ _ _ h => h) (Or.inl ⟨by rfl, ?_⟩) (by assumption) ?_
    rotate_left
    · intro ww hSw
      go_simp <;> with_reducible rfl
    (try simp only [List.getElem_toArray, List.getElem_cons_succ, List.getElem_cons_zero, Act.put, List.setIfInBounds_toArray, List.set_cons_zero, List.set_cons_succ])
    refine wpAnyH_take (i := 45) (oi := _) (v := ?_) rfl (by kernel_rfl) (by kernel_rfl) (by kernel_rfl) (fun _ _ _ h => h) (Or.inl ⟨by rfl, ?_⟩) (by assumption) ?_
    rotate_left
    · intro ww hSw
      go_simp <;> with_reducible rfl
    (try simp only [List.getElem_toArray, List.getElem_cons_succ, List.getElem_cons_zero, Act.put, List.setIfInBounds_toArray, List.set_cons_zero, List.set_cons_succ])
    refine wpAnyH_take (i := 46) (oi := _) (v := ?_) rfl (by kernel_rfl) (by kernel_rfl) (by kernel_rfl) (fun _ _ _ h => h) (Or.inl ⟨by rfl, ?_⟩) (by assumption) ?_
    rotate_left
    · intro ww hSw
      go_simp <;> with_reducible rfl
    (try simp only [List.getElem_toArray, List.getElem_cons_succ, List.getElem_cons_zero, Act.put, List.setIfInBounds_toArray, List.set_cons_zero, List.set_cons_succ])
    refine wpAnyH_done (by kernel_rfl) ?_ _
    refine NoPanic.normal ?_
    go_wp2_with fail
    go_ret
    exact ⟨rfl, (live_of (by with_reducible assumption)).below⟩
end Go.Proofs.YtehdhplmfgfnkaaDoor
