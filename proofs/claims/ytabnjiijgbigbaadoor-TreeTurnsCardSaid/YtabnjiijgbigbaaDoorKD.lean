/-
  The walks of the document's own outer of layer 6, with loops. (Template: by-name.py fills it; gen/genTro.py writes it.)
-/
import Derived.Test.YtabnjiijgbigbaaDoorKA
namespace Go.Proofs.YtabnjiijgbigbaaDoor
open Go.RowKit

set_option maxRecDepth 10000 in
set_option maxHeartbeats 8000000 in
theorem router_state (w : World) (v : Value) (ns : List Nd) (va vb vc : Value) (ws : List (List UInt8)) (nums ks : List Int) (ps : Int) (hN : NodesAt w v ns) (hx : NdAt w ((va, vb, vc), ⟨2, ws, nums, ks, ps⟩)) (hk : KidsIn ks ns.length) :
    Calls Tryd.prog 24 #[v, ndV ((va, vb, vc), ⟨2, ws, nums, ks, ps⟩)] w fun e w' => OkB (validB ns ⟨2, ws, nums, ks, ps⟩ = true) e ∧ Below w.heap.size w w' := by
  obtain ⟨h1, h2, h3⟩ := id hx
  dsimp only at h1 h2 h3
  have WR := Lib.hid (fun (wr : World) (hb : Below w.heap.size w wr) (a b : Int) => rwords_any wr _ a b (hx.below hb))
  have NO0 := Lib.hid (fun (wr : World) (hb : Below w.heap.size w wr) => rnone_any wr _ (hx.below hb))
  have KD0 := Lib.hid (fun (wr : World) (hb : Below w.heap.size w wr) (i : Nat) (hi : i < ks.length) => rkid_any wr v ns _ i (hN.below hb) (hx.below hb) hk hi)
  have BL0 := Lib.hid (fun (wr : World) (hb : Below w.heap.size w wr) (f : Nat) (a b : Int) (hf : f ≤ ks.length) (hf1 : f ≤ 1) => rblocks_any wr v ns _ f a b (hN.below hb) (hx.below hb) hk hf hf1)
  have FR0 := Lib.hid (fun (hl : nums.length = 3) (wr : World) (hb : Below w.heap.size w wr) => rfrac_any wr _ (hx.below hb) hl)
  obtain ⟨A1, c1, rfl, _⟩ := h1
  obtain ⟨A2, c2, rfl, _, _, R2'⟩ := h2
  have KL := Lib.hid h3.len
  obtain ⟨A3, c3, rfl, _⟩ := h3
  have R2 := Lib.hid R2'
  unfold ndV at WR NO0 KD0 BL0 FR0 ⊢
  dsimp only at WR NO0 KD0 BL0 FR0 ⊢
  have STB := Lib.hid (show Stb (fun w' => (w'.cell? ⟨w.heap.size, 0, none⟩ = some (.int .i64 2) ∧ w'.cell? ⟨w.heap.size, 1, none⟩ = some (.slice A1 ws.length c1) ∧ w'.cell? ⟨w.heap.size, 2, none⟩ = some (.slice A2 nums.length c2) ∧ w'.cell? ⟨w.heap.size, 3, none⟩ = some (.slice A3 ks.length c3) ∧ w'.cell? ⟨w.heap.size, 4, none⟩ = some (.int .i64 ps)) ∧ Below w.heap.size w w') from stb_and (stb_and (stb_cell _ _) (stb_and (stb_cell _ _) (stb_and (stb_cell _ _) (stb_and (stb_cell _ _) (stb_cell _ _))))) (stb_below w))
  have HS1 : ((w.alloc (.cells #[.int .i64 2, .slice A1 ws.length c1, .slice A2 nums.length c2, .slice A3 ks.length c3, .int .i64 ps] 30)).cell? ⟨w.heap.size, 0, none⟩ = some (.int .i64 2) ∧ (w.alloc (.cells #[.int .i64 2, .slice A1 ws.length c1, .slice A2 nums.length c2, .slice A3 ks.length c3, .int .i64 ps] 30)).cell? ⟨w.heap.size, 1, none⟩ = some (.slice A1 ws.length c1) ∧ (w.alloc (.cells #[.int .i64 2, .slice A1 ws.length c1, .slice A2 nums.length c2, .slice A3 ks.length c3, .int .i64 ps] 30)).cell? ⟨w.heap.size, 2, none⟩ = some (.slice A2 nums.length c2) ∧ (w.alloc (.cells #[.int .i64 2, .slice A1 ws.length c1, .slice A2 nums.length c2, .slice A3 ks.length c3, .int .i64 ps] 30)).cell? ⟨w.heap.size, 3, none⟩ = some (.slice A3 ks.length c3) ∧ (w.alloc (.cells #[.int .i64 2, .slice A1 ws.length c1, .slice A2 nums.length c2, .slice A3 ks.length c3, .int .i64 ps] 30)).cell? ⟨w.heap.size, 4, none⟩ = some (.int .i64 ps)) ∧ Below w.heap.size w (w.alloc (.cells #[.int .i64 2, .slice A1 ws.length c1, .slice A2 nums.length c2, .slice A3 ks.length c3, .int .i64 ps] 30)) := ⟨⟨(Blk.start w _ _).cell 0, (Blk.start w _ _).cell 1, (Blk.start w _ _).cell 2, (Blk.start w _ _).cell 3, (Blk.start w _ _).cell 4⟩, below_alloc1 w _⟩
  have K1 := Lib.hid HS1
  obtain ⟨⟨g0, g1, g2, g3, g4⟩, _⟩ := HS1
  clear R2' hx hN hk
  have WF := Lib.hid (show ∀ wr : World, Below w.heap.size w wr → Calls Tryd.prog 25 #[.agg #[.int .i64 2, .slice A1 ws.length c1, .slice A2 nums.length c2, .slice A3 ks.length c3, .int .i64 ps], .int .i64 1, .int .i64 1] wr fun e w' => e = .returned (.bool (wordsR ⟨2, ws, nums, ks, ps⟩ 1 1)) ∧ Below wr.heap.size wr w' from fun wr hb => WR.out wr hb 1 1)
  generalize hqW : wordsR ⟨2, ws, nums, ks, ps⟩ 1 1 = W at WF
  have QW := Lib.hid hqW
  clear hqW
  cases W
  · go_enter Tryd.func24, Tryd.ntmps24
    go_upto_region 1 with fail
    generalize (w.alloc (.cells #[.int .i64 2, .slice A1 ws.length c1, .slice A2 nums.length c2, .slice A3 ks.length c3, .int .i64 ps] 30)) = w1 at *
    go_wp2_with (first
      | (go_at_call 25; (with_reducible refine (WF.out w1 (bl_of K1.out)).mono ?_); rintro e2 w2 ⟨rfl, hb2⟩; have K2 := Lib.hid (STB.out _ _ hb2 K1.out); obtain ⟨⟨k20, k21, k22, k23, k24⟩, _⟩ := id K2.out; clear hb2))
    go_ret
    exact ⟨ok_no, bl_of K2.out⟩
  · by_cases qn : nums.length = 1
    · have tn : ((nums.length : Int) == 1) = true := by rw [beq_iff_eq]; omega
      have tn2 : (0 : Int) < (nums.length : Int) := by omega
      obtain ⟨y, hy⟩ := List.length_eq_one_iff.mp qn
      obtain ⟨ad2, rfl, y1⟩ := ints_at (x := y) R2.out (bl_of K1.out) (k := 0) (by rw [hy]; rfl) (by omega)
      rw [show ad2.add 0 = ad2 by unfold Addr.add; simp] at y1
      have NC := Lib.hid (fun (wr : World) (hb : Below w.heap.size w wr) => show wr.cell? ad2 = some (.int .i64 y) from by obtain ⟨a2, e2, q2⟩ := ints_at (x := y) R2.out hb (k := 0) (by rw [hy]; rfl) (by omega); injection e2 with e2; subst e2; rwa [show ad2.add 0 = ad2 by unfold Addr.add; simp] at q2)
      have HY := Lib.hid hy
      clear hy qn
      by_cases qy : y = 0
      · have ty : (y == 0) = true := by rw [beq_iff_eq]; exact qy
        have QY := Lib.hid (Or.inl qy : y = 0 ∨ y = 1)
        clear qy
        by_cases qk : ks.length = 0
        · have tk : ((ks.length : Int) == 0) = true := by rw [beq_iff_eq]; omega
          have QK := Lib.hid qk
          clear qk
          go_enter Tryd.func24, Tryd.ntmps24
          go_upto_region 1 with fail
          generalize (w.alloc (.cells #[.int .i64 2, .slice A1 ws.length c1, .slice (some ad2) nums.length c2, .slice A3 ks.length c3, .int .i64 ps] 30)) = w1 at *
          go_wp2_with (first
            | (go_at_call 25; (with_reducible refine (WF.out w1 (bl_of K1.out)).mono ?_); rintro e2 w2 ⟨rfl, hb2⟩; have K2 := Lib.hid (STB.out _ _ hb2 K1.out); obtain ⟨⟨k20, k21, k22, k23, k24⟩, _⟩ := id K2.out; have y2 := NC.out w2 (bl_of K2.out); clear hb2))
          go_ret
          exact ⟨ok_yes (val_state QW.out HY.out QY.out QK.out), bl_of K2.out⟩
        · have tk : ((ks.length : Int) == 0) = false := by rw [beq_eq_false_iff_ne]; omega
          go_enter Tryd.func24, Tryd.ntmps24
          go_upto_region 1 with fail
          generalize (w.alloc (.cells #[.int .i64 2, .slice A1 ws.length c1, .slice (some ad2) nums.length c2, .slice A3 ks.length c3, .int .i64 ps] 30)) = w1 at *
          go_wp2_with (first
            | (go_at_call 25; (with_reducible refine (WF.out w1 (bl_of K1.out)).mono ?_); rintro e2 w2 ⟨rfl, hb2⟩; have K2 := Lib.hid (STB.out _ _ hb2 K1.out); obtain ⟨⟨k20, k21, k22, k23, k24⟩, _⟩ := id K2.out; have y2 := NC.out w2 (bl_of K2.out); clear hb2))
          go_ret
          exact ⟨ok_no, bl_of K2.out⟩
      · have ty : (y == 0) = false := by rw [beq_eq_false_iff_ne]; exact qy
        by_cases qz : y = 1
        · have tz : (y == 1) = true := by rw [beq_iff_eq]; exact qz
          have QY := Lib.hid (Or.inr qz : y = 0 ∨ y = 1)
          clear qy qz
          by_cases qk : ks.length = 0
          · have tk : ((ks.length : Int) == 0) = true := by rw [beq_iff_eq]; omega
            have QK := Lib.hid qk
            clear qk
            go_enter Tryd.func24, Tryd.ntmps24
            go_upto_region 1 with fail
            generalize (w.alloc (.cells #[.int .i64 2, .slice A1 ws.length c1, .slice (some ad2) nums.length c2, .slice A3 ks.length c3, .int .i64 ps] 30)) = w1 at *
            go_wp2_with (first
              | (go_at_call 25; (with_reducible refine (WF.out w1 (bl_of K1.out)).mono ?_); rintro e2 w2 ⟨rfl, hb2⟩; have K2 := Lib.hid (STB.out _ _ hb2 K1.out); obtain ⟨⟨k20, k21, k22, k23, k24⟩, _⟩ := id K2.out; have y2 := NC.out w2 (bl_of K2.out); clear hb2))
            go_ret
            exact ⟨ok_yes (val_state QW.out HY.out QY.out QK.out), bl_of K2.out⟩
          · have tk : ((ks.length : Int) == 0) = false := by rw [beq_eq_false_iff_ne]; omega
            go_enter Tryd.func24, Tryd.ntmps24
            go_upto_region 1 with fail
            generalize (w.alloc (.cells #[.int .i64 2, .slice A1 ws.length c1, .slice (some ad2) nums.length c2, .slice A3 ks.length c3, .int .i64 ps] 30)) = w1 at *
            go_wp2_with (first
              | (go_at_call 25; (with_reducible refine (WF.out w1 (bl_of K1.out)).mono ?_); rintro e2 w2 ⟨rfl, hb2⟩; have K2 := Lib.hid (STB.out _ _ hb2 K1.out); obtain ⟨⟨k20, k21, k22, k23, k24⟩, _⟩ := id K2.out; have y2 := NC.out w2 (bl_of K2.out); clear hb2))
            go_ret
            exact ⟨ok_no, bl_of K2.out⟩
        · have tz : (y == 1) = false := by rw [beq_eq_false_iff_ne]; exact qz
          go_enter Tryd.func24, Tryd.ntmps24
          go_upto_region 1 with fail
          generalize (w.alloc (.cells #[.int .i64 2, .slice A1 ws.length c1, .slice (some ad2) nums.length c2, .slice A3 ks.length c3, .int .i64 ps] 30)) = w1 at *
          go_wp2_with (first
            | (go_at_call 25; (with_reducible refine (WF.out w1 (bl_of K1.out)).mono ?_); rintro e2 w2 ⟨rfl, hb2⟩; have K2 := Lib.hid (STB.out _ _ hb2 K1.out); obtain ⟨⟨k20, k21, k22, k23, k24⟩, _⟩ := id K2.out; have y2 := NC.out w2 (bl_of K2.out); clear hb2))
          go_ret
          exact ⟨ok_no, bl_of K2.out⟩
    · have tn : ((nums.length : Int) == 1) = false := by rw [beq_eq_false_iff_ne]; omega
      go_enter Tryd.func24, Tryd.ntmps24
      go_upto_region 1 with fail
      generalize (w.alloc (.cells #[.int .i64 2, .slice A1 ws.length c1, .slice A2 nums.length c2, .slice A3 ks.length c3, .int .i64 ps] 30)) = w1 at *
      go_wp2_with (first
        | (go_at_call 25; (with_reducible refine (WF.out w1 (bl_of K1.out)).mono ?_); rintro e2 w2 ⟨rfl, hb2⟩; have K2 := Lib.hid (STB.out _ _ hb2 K1.out); obtain ⟨⟨k20, k21, k22, k23, k24⟩, _⟩ := id K2.out; clear hb2))
      go_ret
      exact ⟨ok_no, bl_of K2.out⟩

set_option maxRecDepth 10000 in
set_option maxHeartbeats 8000000 in
theorem router_op (w : World) (v : Value) (ns : List Nd) (va vb vc : Value) (ws : List (List UInt8)) (nums ks : List Int) (ps : Int) (hN : NodesAt w v ns) (hx : NdAt w ((va, vb, vc), ⟨3, ws, nums, ks, ps⟩)) (hk : KidsIn ks ns.length) :
    Calls Tryd.prog 24 #[v, ndV ((va, vb, vc), ⟨3, ws, nums, ks, ps⟩)] w fun e w' => OkB (validB ns ⟨3, ws, nums, ks, ps⟩ = true) e ∧ Below w.heap.size w w' := by
  obtain ⟨h1, h2, h3⟩ := id hx
  dsimp only at h1 h2 h3
  have WR := Lib.hid (fun (wr : World) (hb : Below w.heap.size w wr) (a b : Int) => rwords_any wr _ a b (hx.below hb))
  have NO0 := Lib.hid (fun (wr : World) (hb : Below w.heap.size w wr) => rnone_any wr _ (hx.below hb))
  have KD0 := Lib.hid (fun (wr : World) (hb : Below w.heap.size w wr) (i : Nat) (hi : i < ks.length) => rkid_any wr v ns _ i (hN.below hb) (hx.below hb) hk hi)
  have BL0 := Lib.hid (fun (wr : World) (hb : Below w.heap.size w wr) (f : Nat) (a b : Int) (hf : f ≤ ks.length) (hf1 : f ≤ 1) => rblocks_any wr v ns _ f a b (hN.below hb) (hx.below hb) hk hf hf1)
  have FR0 := Lib.hid (fun (hl : nums.length = 3) (wr : World) (hb : Below w.heap.size w wr) => rfrac_any wr _ (hx.below hb) hl)
  obtain ⟨A1, c1, rfl, _⟩ := h1
  obtain ⟨A2, c2, rfl, _, _, R2'⟩ := h2
  have KL := Lib.hid h3.len
  obtain ⟨A3, c3, rfl, _⟩ := h3
  have R2 := Lib.hid R2'
  unfold ndV at WR NO0 KD0 BL0 FR0 ⊢
  dsimp only at WR NO0 KD0 BL0 FR0 ⊢
  have STB := Lib.hid (show Stb (fun w' => (w'.cell? ⟨w.heap.size, 0, none⟩ = some (.int .i64 3) ∧ w'.cell? ⟨w.heap.size, 1, none⟩ = some (.slice A1 ws.length c1) ∧ w'.cell? ⟨w.heap.size, 2, none⟩ = some (.slice A2 nums.length c2) ∧ w'.cell? ⟨w.heap.size, 3, none⟩ = some (.slice A3 ks.length c3) ∧ w'.cell? ⟨w.heap.size, 4, none⟩ = some (.int .i64 ps)) ∧ Below w.heap.size w w') from stb_and (stb_and (stb_cell _ _) (stb_and (stb_cell _ _) (stb_and (stb_cell _ _) (stb_and (stb_cell _ _) (stb_cell _ _))))) (stb_below w))
  have HS1 : ((w.alloc (.cells #[.int .i64 3, .slice A1 ws.length c1, .slice A2 nums.length c2, .slice A3 ks.length c3, .int .i64 ps] 30)).cell? ⟨w.heap.size, 0, none⟩ = some (.int .i64 3) ∧ (w.alloc (.cells #[.int .i64 3, .slice A1 ws.length c1, .slice A2 nums.length c2, .slice A3 ks.length c3, .int .i64 ps] 30)).cell? ⟨w.heap.size, 1, none⟩ = some (.slice A1 ws.length c1) ∧ (w.alloc (.cells #[.int .i64 3, .slice A1 ws.length c1, .slice A2 nums.length c2, .slice A3 ks.length c3, .int .i64 ps] 30)).cell? ⟨w.heap.size, 2, none⟩ = some (.slice A2 nums.length c2) ∧ (w.alloc (.cells #[.int .i64 3, .slice A1 ws.length c1, .slice A2 nums.length c2, .slice A3 ks.length c3, .int .i64 ps] 30)).cell? ⟨w.heap.size, 3, none⟩ = some (.slice A3 ks.length c3) ∧ (w.alloc (.cells #[.int .i64 3, .slice A1 ws.length c1, .slice A2 nums.length c2, .slice A3 ks.length c3, .int .i64 ps] 30)).cell? ⟨w.heap.size, 4, none⟩ = some (.int .i64 ps)) ∧ Below w.heap.size w (w.alloc (.cells #[.int .i64 3, .slice A1 ws.length c1, .slice A2 nums.length c2, .slice A3 ks.length c3, .int .i64 ps] 30)) := ⟨⟨(Blk.start w _ _).cell 0, (Blk.start w _ _).cell 1, (Blk.start w _ _).cell 2, (Blk.start w _ _).cell 3, (Blk.start w _ _).cell 4⟩, below_alloc1 w _⟩
  have K1 := Lib.hid HS1
  obtain ⟨⟨g0, g1, g2, g3, g4⟩, _⟩ := HS1
  clear R2' hx hN hk
  have WF := Lib.hid (show ∀ wr : World, Below w.heap.size w wr → Calls Tryd.prog 25 #[.agg #[.int .i64 3, .slice A1 ws.length c1, .slice A2 nums.length c2, .slice A3 ks.length c3, .int .i64 ps], .int .i64 4, .int .i64 1500] wr fun e w' => e = .returned (.bool (wordsR ⟨3, ws, nums, ks, ps⟩ 4 1500)) ∧ Below wr.heap.size wr w' from fun wr hb => WR.out wr hb 4 1500)
  generalize hqW : wordsR ⟨3, ws, nums, ks, ps⟩ 4 1500 = W at WF
  have QW := Lib.hid hqW
  clear hqW
  cases W
  · go_enter Tryd.func24, Tryd.ntmps24
    go_upto_region 1 with fail
    generalize (w.alloc (.cells #[.int .i64 3, .slice A1 ws.length c1, .slice A2 nums.length c2, .slice A3 ks.length c3, .int .i64 ps] 30)) = w1 at *
    go_wp2_with (first
      | (go_at_call 25; (with_reducible refine (WF.out w1 (bl_of K1.out)).mono ?_); rintro e2 w2 ⟨rfl, hb2⟩; have K2 := Lib.hid (STB.out _ _ hb2 K1.out); obtain ⟨⟨k20, k21, k22, k23, k24⟩, _⟩ := id K2.out; clear hb2))
    go_ret
    exact ⟨ok_no, bl_of K2.out⟩
  · by_cases qe : ws.length % 2 = 0
    · have te : (ws.length : Int).tmod 2 = 0 := by rw [Int.tmod_eq_emod_of_nonneg (by omega)]; omega
      have NF := Lib.hid (show ∀ wr : World, Below w.heap.size w wr → Calls Tryd.prog 26 #[.agg #[.int .i64 3, .slice A1 ws.length c1, .slice A2 nums.length c2, .slice A3 ks.length c3, .int .i64 ps]] wr fun e w' => e = .returned (.bool (noneR ⟨3, ws, nums, ks, ps⟩)) ∧ Below wr.heap.size wr w' from fun wr hb => NO0.out wr hb)
      generalize hqN : noneR ⟨3, ws, nums, ks, ps⟩ = N at NF
      have QN := Lib.hid hqN
      clear hqN
      cases N
      · go_enter Tryd.func24, Tryd.ntmps24
        go_upto_region 1 with fail
        generalize (w.alloc (.cells #[.int .i64 3, .slice A1 ws.length c1, .slice A2 nums.length c2, .slice A3 ks.length c3, .int .i64 ps] 30)) = w1 at *
        go_wp2_with (first
          | (go_at_call 25; (with_reducible refine (WF.out w1 (bl_of K1.out)).mono ?_); rintro e2 w2 ⟨rfl, hb2⟩; have K2 := Lib.hid (STB.out _ _ hb2 K1.out); obtain ⟨⟨k20, k21, k22, k23, k24⟩, _⟩ := id K2.out; clear hb2)
          | (go_at_call 26; (with_reducible refine (NF.out w2 (bl_of K2.out)).mono ?_); rintro e3 w3 ⟨rfl, hb3⟩; have K3 := Lib.hid (STB.out _ _ hb3 K2.out); obtain ⟨⟨k30, k31, k32, k33, k34⟩, _⟩ := id K3.out; clear hb3))
        go_ret
        exact ⟨ok_no, bl_of K3.out⟩
      · by_cases qk : ks.length = 0
        · have tk : ((ks.length : Int) == 0) = true := by rw [beq_iff_eq]; omega
          have QK := Lib.hid qk
          clear qk
          go_enter Tryd.func24, Tryd.ntmps24
          go_upto_region 1 with fail
          generalize (w.alloc (.cells #[.int .i64 3, .slice A1 ws.length c1, .slice A2 nums.length c2, .slice A3 ks.length c3, .int .i64 ps] 30)) = w1 at *
          go_wp2_with (first
            | (go_at_call 25; (with_reducible refine (WF.out w1 (bl_of K1.out)).mono ?_); rintro e2 w2 ⟨rfl, hb2⟩; have K2 := Lib.hid (STB.out _ _ hb2 K1.out); obtain ⟨⟨k20, k21, k22, k23, k24⟩, _⟩ := id K2.out; clear hb2)
            | (go_at_call 26; (with_reducible refine (NF.out w2 (bl_of K2.out)).mono ?_); rintro e3 w3 ⟨rfl, hb3⟩; have K3 := Lib.hid (STB.out _ _ hb3 K2.out); obtain ⟨⟨k30, k31, k32, k33, k34⟩, _⟩ := id K3.out; clear hb3))
          go_ret
          exact ⟨ok_yes (val_op QW.out qe QN.out QK.out), bl_of K3.out⟩
        · have tk : ((ks.length : Int) == 0) = false := by rw [beq_eq_false_iff_ne]; omega
          go_enter Tryd.func24, Tryd.ntmps24
          go_upto_region 1 with fail
          generalize (w.alloc (.cells #[.int .i64 3, .slice A1 ws.length c1, .slice A2 nums.length c2, .slice A3 ks.length c3, .int .i64 ps] 30)) = w1 at *
          go_wp2_with (first
            | (go_at_call 25; (with_reducible refine (WF.out w1 (bl_of K1.out)).mono ?_); rintro e2 w2 ⟨rfl, hb2⟩; have K2 := Lib.hid (STB.out _ _ hb2 K1.out); obtain ⟨⟨k20, k21, k22, k23, k24⟩, _⟩ := id K2.out; clear hb2)
            | (go_at_call 26; (with_reducible refine (NF.out w2 (bl_of K2.out)).mono ?_); rintro e3 w3 ⟨rfl, hb3⟩; have K3 := Lib.hid (STB.out _ _ hb3 K2.out); obtain ⟨⟨k30, k31, k32, k33, k34⟩, _⟩ := id K3.out; clear hb3))
          go_ret
          exact ⟨ok_no, bl_of K3.out⟩
    · have te : (ws.length : Int).tmod 2 = 1 := by rw [Int.tmod_eq_emod_of_nonneg (by omega)]; omega
      go_enter Tryd.func24, Tryd.ntmps24
      go_upto_region 1 with fail
      generalize (w.alloc (.cells #[.int .i64 3, .slice A1 ws.length c1, .slice A2 nums.length c2, .slice A3 ks.length c3, .int .i64 ps] 30)) = w1 at *
      go_wp2_with (first
        | (go_at_call 25; (with_reducible refine (WF.out w1 (bl_of K1.out)).mono ?_); rintro e2 w2 ⟨rfl, hb2⟩; have K2 := Lib.hid (STB.out _ _ hb2 K1.out); obtain ⟨⟨k20, k21, k22, k23, k24⟩, _⟩ := id K2.out; clear hb2))
      go_ret
      exact ⟨ok_no, bl_of K2.out⟩

set_option maxRecDepth 10000 in
set_option maxHeartbeats 8000000 in
theorem router_names (w : World) (v : Value) (ns : List Nd) (va vb vc : Value) (ws : List (List UInt8)) (nums ks : List Int) (ps : Int) (hN : NodesAt w v ns) (hx : NdAt w ((va, vb, vc), ⟨6, ws, nums, ks, ps⟩)) (hk : KidsIn ks ns.length) :
    Calls Tryd.prog 24 #[v, ndV ((va, vb, vc), ⟨6, ws, nums, ks, ps⟩)] w fun e w' => OkB (validB ns ⟨6, ws, nums, ks, ps⟩ = true) e ∧ Below w.heap.size w w' := by
  obtain ⟨h1, h2, h3⟩ := id hx
  dsimp only at h1 h2 h3
  have WR := Lib.hid (fun (wr : World) (hb : Below w.heap.size w wr) (a b : Int) => rwords_any wr _ a b (hx.below hb))
  have NO0 := Lib.hid (fun (wr : World) (hb : Below w.heap.size w wr) => rnone_any wr _ (hx.below hb))
  have KD0 := Lib.hid (fun (wr : World) (hb : Below w.heap.size w wr) (i : Nat) (hi : i < ks.length) => rkid_any wr v ns _ i (hN.below hb) (hx.below hb) hk hi)
  have BL0 := Lib.hid (fun (wr : World) (hb : Below w.heap.size w wr) (f : Nat) (a b : Int) (hf : f ≤ ks.length) (hf1 : f ≤ 1) => rblocks_any wr v ns _ f a b (hN.below hb) (hx.below hb) hk hf hf1)
  have FR0 := Lib.hid (fun (hl : nums.length = 3) (wr : World) (hb : Below w.heap.size w wr) => rfrac_any wr _ (hx.below hb) hl)
  obtain ⟨A1, c1, rfl, _⟩ := h1
  obtain ⟨A2, c2, rfl, _, _, R2'⟩ := h2
  have KL := Lib.hid h3.len
  obtain ⟨A3, c3, rfl, _⟩ := h3
  have R2 := Lib.hid R2'
  unfold ndV at WR NO0 KD0 BL0 FR0 ⊢
  dsimp only at WR NO0 KD0 BL0 FR0 ⊢
  have STB := Lib.hid (show Stb (fun w' => (w'.cell? ⟨w.heap.size, 0, none⟩ = some (.int .i64 6) ∧ w'.cell? ⟨w.heap.size, 1, none⟩ = some (.slice A1 ws.length c1) ∧ w'.cell? ⟨w.heap.size, 2, none⟩ = some (.slice A2 nums.length c2) ∧ w'.cell? ⟨w.heap.size, 3, none⟩ = some (.slice A3 ks.length c3) ∧ w'.cell? ⟨w.heap.size, 4, none⟩ = some (.int .i64 ps)) ∧ Below w.heap.size w w') from stb_and (stb_and (stb_cell _ _) (stb_and (stb_cell _ _) (stb_and (stb_cell _ _) (stb_and (stb_cell _ _) (stb_cell _ _))))) (stb_below w))
  have HS1 : ((w.alloc (.cells #[.int .i64 6, .slice A1 ws.length c1, .slice A2 nums.length c2, .slice A3 ks.length c3, .int .i64 ps] 30)).cell? ⟨w.heap.size, 0, none⟩ = some (.int .i64 6) ∧ (w.alloc (.cells #[.int .i64 6, .slice A1 ws.length c1, .slice A2 nums.length c2, .slice A3 ks.length c3, .int .i64 ps] 30)).cell? ⟨w.heap.size, 1, none⟩ = some (.slice A1 ws.length c1) ∧ (w.alloc (.cells #[.int .i64 6, .slice A1 ws.length c1, .slice A2 nums.length c2, .slice A3 ks.length c3, .int .i64 ps] 30)).cell? ⟨w.heap.size, 2, none⟩ = some (.slice A2 nums.length c2) ∧ (w.alloc (.cells #[.int .i64 6, .slice A1 ws.length c1, .slice A2 nums.length c2, .slice A3 ks.length c3, .int .i64 ps] 30)).cell? ⟨w.heap.size, 3, none⟩ = some (.slice A3 ks.length c3) ∧ (w.alloc (.cells #[.int .i64 6, .slice A1 ws.length c1, .slice A2 nums.length c2, .slice A3 ks.length c3, .int .i64 ps] 30)).cell? ⟨w.heap.size, 4, none⟩ = some (.int .i64 ps)) ∧ Below w.heap.size w (w.alloc (.cells #[.int .i64 6, .slice A1 ws.length c1, .slice A2 nums.length c2, .slice A3 ks.length c3, .int .i64 ps] 30)) := ⟨⟨(Blk.start w _ _).cell 0, (Blk.start w _ _).cell 1, (Blk.start w _ _).cell 2, (Blk.start w _ _).cell 3, (Blk.start w _ _).cell 4⟩, below_alloc1 w _⟩
  have K1 := Lib.hid HS1
  obtain ⟨⟨g0, g1, g2, g3, g4⟩, _⟩ := HS1
  clear R2' hx hN hk
  have WF := Lib.hid (show ∀ wr : World, Below w.heap.size w wr → Calls Tryd.prog 25 #[.agg #[.int .i64 6, .slice A1 ws.length c1, .slice A2 nums.length c2, .slice A3 ks.length c3, .int .i64 ps], .int .i64 1, .int .i64 1500] wr fun e w' => e = .returned (.bool (wordsR ⟨6, ws, nums, ks, ps⟩ 1 1500)) ∧ Below wr.heap.size wr w' from fun wr hb => WR.out wr hb 1 1500)
  generalize hqW : wordsR ⟨6, ws, nums, ks, ps⟩ 1 1500 = W at WF
  have QW := Lib.hid hqW
  clear hqW
  cases W
  · go_enter Tryd.func24, Tryd.ntmps24
    go_upto_region 1 with fail
    generalize (w.alloc (.cells #[.int .i64 6, .slice A1 ws.length c1, .slice A2 nums.length c2, .slice A3 ks.length c3, .int .i64 ps] 30)) = w1 at *
    go_wp2_with (first
      | (go_at_call 25; (with_reducible refine (WF.out w1 (bl_of K1.out)).mono ?_); rintro e2 w2 ⟨rfl, hb2⟩; have K2 := Lib.hid (STB.out _ _ hb2 K1.out); obtain ⟨⟨k20, k21, k22, k23, k24⟩, _⟩ := id K2.out; clear hb2))
    go_ret
    exact ⟨ok_no, bl_of K2.out⟩
  · by_cases qn : nums.length = 1
    · have tn : ((nums.length : Int) == 1) = true := by rw [beq_iff_eq]; omega
      have tn2 : (0 : Int) < (nums.length : Int) := by omega
      obtain ⟨y, hy⟩ := List.length_eq_one_iff.mp qn
      obtain ⟨ad2, rfl, y1⟩ := ints_at (x := y) R2.out (bl_of K1.out) (k := 0) (by rw [hy]; rfl) (by omega)
      rw [show ad2.add 0 = ad2 by unfold Addr.add; simp] at y1
      have NC := Lib.hid (fun (wr : World) (hb : Below w.heap.size w wr) => show wr.cell? ad2 = some (.int .i64 y) from by obtain ⟨a2, e2, q2⟩ := ints_at (x := y) R2.out hb (k := 0) (by rw [hy]; rfl) (by omega); injection e2 with e2; subst e2; rwa [show ad2.add 0 = ad2 by unfold Addr.add; simp] at q2)
      have HY := Lib.hid hy
      clear hy qn
      by_cases qy : 0 ≤ y
      · by_cases qz : y ≤ 2
        · by_cases qk : ks.length = 0
          · have tk : ((ks.length : Int) == 0) = true := by rw [beq_iff_eq]; omega
            have QK := Lib.hid qk
            clear qk
            go_enter Tryd.func24, Tryd.ntmps24
            go_upto_region 1 with fail
            generalize (w.alloc (.cells #[.int .i64 6, .slice A1 ws.length c1, .slice (some ad2) nums.length c2, .slice A3 ks.length c3, .int .i64 ps] 30)) = w1 at *
            go_wp2_with (first
              | (go_at_call 25; (with_reducible refine (WF.out w1 (bl_of K1.out)).mono ?_); rintro e2 w2 ⟨rfl, hb2⟩; have K2 := Lib.hid (STB.out _ _ hb2 K1.out); obtain ⟨⟨k20, k21, k22, k23, k24⟩, _⟩ := id K2.out; have y2 := NC.out w2 (bl_of K2.out); clear hb2))
            go_ret
            exact ⟨ok_yes (val_names QW.out HY.out qy qz QK.out), bl_of K2.out⟩
          · have tk : ((ks.length : Int) == 0) = false := by rw [beq_eq_false_iff_ne]; omega
            go_enter Tryd.func24, Tryd.ntmps24
            go_upto_region 1 with fail
            generalize (w.alloc (.cells #[.int .i64 6, .slice A1 ws.length c1, .slice (some ad2) nums.length c2, .slice A3 ks.length c3, .int .i64 ps] 30)) = w1 at *
            go_wp2_with (first
              | (go_at_call 25; (with_reducible refine (WF.out w1 (bl_of K1.out)).mono ?_); rintro e2 w2 ⟨rfl, hb2⟩; have K2 := Lib.hid (STB.out _ _ hb2 K1.out); obtain ⟨⟨k20, k21, k22, k23, k24⟩, _⟩ := id K2.out; have y2 := NC.out w2 (bl_of K2.out); clear hb2))
            go_ret
            exact ⟨ok_no, bl_of K2.out⟩
        · have tz : 2 < y := by omega
          go_enter Tryd.func24, Tryd.ntmps24
          go_upto_region 1 with fail
          generalize (w.alloc (.cells #[.int .i64 6, .slice A1 ws.length c1, .slice (some ad2) nums.length c2, .slice A3 ks.length c3, .int .i64 ps] 30)) = w1 at *
          go_wp2_with (first
            | (go_at_call 25; (with_reducible refine (WF.out w1 (bl_of K1.out)).mono ?_); rintro e2 w2 ⟨rfl, hb2⟩; have K2 := Lib.hid (STB.out _ _ hb2 K1.out); obtain ⟨⟨k20, k21, k22, k23, k24⟩, _⟩ := id K2.out; have y2 := NC.out w2 (bl_of K2.out); clear hb2))
          go_ret
          exact ⟨ok_no, bl_of K2.out⟩
      · have ty : y < 0 := by omega
        go_enter Tryd.func24, Tryd.ntmps24
        go_upto_region 1 with fail
        generalize (w.alloc (.cells #[.int .i64 6, .slice A1 ws.length c1, .slice (some ad2) nums.length c2, .slice A3 ks.length c3, .int .i64 ps] 30)) = w1 at *
        go_wp2_with (first
          | (go_at_call 25; (with_reducible refine (WF.out w1 (bl_of K1.out)).mono ?_); rintro e2 w2 ⟨rfl, hb2⟩; have K2 := Lib.hid (STB.out _ _ hb2 K1.out); obtain ⟨⟨k20, k21, k22, k23, k24⟩, _⟩ := id K2.out; have y2 := NC.out w2 (bl_of K2.out); clear hb2))
        go_ret
        exact ⟨ok_no, bl_of K2.out⟩
    · have tn : ((nums.length : Int) == 1) = false := by rw [beq_eq_false_iff_ne]; omega
      go_enter Tryd.func24, Tryd.ntmps24
      go_upto_region 1 with fail
      generalize (w.alloc (.cells #[.int .i64 6, .slice A1 ws.length c1, .slice A2 nums.length c2, .slice A3 ks.length c3, .int .i64 ps] 30)) = w1 at *
      go_wp2_with (first
        | (go_at_call 25; (with_reducible refine (WF.out w1 (bl_of K1.out)).mono ?_); rintro e2 w2 ⟨rfl, hb2⟩; have K2 := Lib.hid (STB.out _ _ hb2 K1.out); obtain ⟨⟨k20, k21, k22, k23, k24⟩, _⟩ := id K2.out; clear hb2))
      go_ret
      exact ⟨ok_no, bl_of K2.out⟩
end Go.Proofs.YtabnjiijgbigbaaDoor

namespace Go.Proofs.YtabnjiijgbigbaaDoor
open Go.RowKit

set_option maxRecDepth 10000 in
set_option maxHeartbeats 8000000 in
theorem router_program (w : World) (v : Value) (ns : List Nd) (va vb vc : Value) (ws : List (List UInt8)) (nums ks : List Int) (ps : Int) (hN : NodesAt w v ns) (hx : NdAt w ((va, vb, vc), ⟨0, ws, nums, ks, ps⟩)) (hk : KidsIn ks ns.length) :
    Calls Tryd.prog 24 #[v, ndV ((va, vb, vc), ⟨0, ws, nums, ks, ps⟩)] w fun e w' => OkB (validB ns ⟨0, ws, nums, ks, ps⟩ = true) e ∧ Below w.heap.size w w' := by
  obtain ⟨h1, h2, h3⟩ := id hx
  dsimp only at h1 h2 h3
  have WR := Lib.hid (fun (wr : World) (hb : Below w.heap.size w wr) (a b : Int) => rwords_any wr _ a b (hx.below hb))
  have NO0 := Lib.hid (fun (wr : World) (hb : Below w.heap.size w wr) => rnone_any wr _ (hx.below hb))
  have KD0 := Lib.hid (fun (wr : World) (hb : Below w.heap.size w wr) (i : Nat) (hi : i < ks.length) => rkid_any wr v ns _ i (hN.below hb) (hx.below hb) hk hi)
  have BL0 := Lib.hid (fun (wr : World) (hb : Below w.heap.size w wr) (f : Nat) (a b : Int) (hf : f ≤ ks.length) (hf1 : f ≤ 1) => rblocks_any wr v ns _ f a b (hN.below hb) (hx.below hb) hk hf hf1)
  have FR0 := Lib.hid (fun (hl : nums.length = 3) (wr : World) (hb : Below w.heap.size w wr) => rfrac_any wr _ (hx.below hb) hl)
  obtain ⟨A1, c1, rfl, _⟩ := h1
  obtain ⟨A2, c2, rfl, _, _, R2'⟩ := h2
  have KL := Lib.hid h3.len
  obtain ⟨A3, c3, rfl, _⟩ := h3
  have R2 := Lib.hid R2'
  unfold ndV at WR NO0 KD0 BL0 FR0 ⊢
  dsimp only at WR NO0 KD0 BL0 FR0 ⊢
  have STB := Lib.hid (show Stb (fun w' => (w'.cell? ⟨w.heap.size, 0, none⟩ = some (.int .i64 0) ∧ w'.cell? ⟨w.heap.size, 1, none⟩ = some (.slice A1 ws.length c1) ∧ w'.cell? ⟨w.heap.size, 2, none⟩ = some (.slice A2 nums.length c2) ∧ w'.cell? ⟨w.heap.size, 3, none⟩ = some (.slice A3 ks.length c3) ∧ w'.cell? ⟨w.heap.size, 4, none⟩ = some (.int .i64 ps)) ∧ Below w.heap.size w w') from stb_and (stb_and (stb_cell _ _) (stb_and (stb_cell _ _) (stb_and (stb_cell _ _) (stb_and (stb_cell _ _) (stb_cell _ _))))) (stb_below w))
  have HS1 : ((w.alloc (.cells #[.int .i64 0, .slice A1 ws.length c1, .slice A2 nums.length c2, .slice A3 ks.length c3, .int .i64 ps] 30)).cell? ⟨w.heap.size, 0, none⟩ = some (.int .i64 0) ∧ (w.alloc (.cells #[.int .i64 0, .slice A1 ws.length c1, .slice A2 nums.length c2, .slice A3 ks.length c3, .int .i64 ps] 30)).cell? ⟨w.heap.size, 1, none⟩ = some (.slice A1 ws.length c1) ∧ (w.alloc (.cells #[.int .i64 0, .slice A1 ws.length c1, .slice A2 nums.length c2, .slice A3 ks.length c3, .int .i64 ps] 30)).cell? ⟨w.heap.size, 2, none⟩ = some (.slice A2 nums.length c2) ∧ (w.alloc (.cells #[.int .i64 0, .slice A1 ws.length c1, .slice A2 nums.length c2, .slice A3 ks.length c3, .int .i64 ps] 30)).cell? ⟨w.heap.size, 3, none⟩ = some (.slice A3 ks.length c3) ∧ (w.alloc (.cells #[.int .i64 0, .slice A1 ws.length c1, .slice A2 nums.length c2, .slice A3 ks.length c3, .int .i64 ps] 30)).cell? ⟨w.heap.size, 4, none⟩ = some (.int .i64 ps)) ∧ Below w.heap.size w (w.alloc (.cells #[.int .i64 0, .slice A1 ws.length c1, .slice A2 nums.length c2, .slice A3 ks.length c3, .int .i64 ps] 30)) := ⟨⟨(Blk.start w _ _).cell 0, (Blk.start w _ _).cell 1, (Blk.start w _ _).cell 2, (Blk.start w _ _).cell 3, (Blk.start w _ _).cell 4⟩, below_alloc1 w _⟩
  have K1 := Lib.hid HS1
  obtain ⟨⟨g0, g1, g2, g3, g4⟩, _⟩ := HS1
  clear R2' hx hN hk
  go_enter Tryd.func24, Tryd.ntmps24
  go_upto_region 1 with fail
  generalize (w.alloc (.cells #[.int .i64 0, .slice A1 ws.length c1, .slice A2 nums.length c2, .slice A3 ks.length c3, .int .i64 ps] 30)) = w1 at *
  go_wp2_with fail
  go_loopg [6] (ks.length) (fun gk vi wr => ∃ i : Nat, vi = .int .i64 i ∧ i ≤ ks.length ∧ gk = ks.length - i ∧ allB ns (ks.take i) (isB [1, 4]) = true ∧ (wr.cell? ⟨w.heap.size, 0, none⟩ = some (.int .i64 0) ∧ wr.cell? ⟨w.heap.size, 1, none⟩ = some (.slice A1 ws.length c1) ∧ wr.cell? ⟨w.heap.size, 2, none⟩ = some (.slice A2 nums.length c2) ∧ wr.cell? ⟨w.heap.size, 3, none⟩ = some (.slice A3 ks.length c3) ∧ wr.cell? ⟨w.heap.size, 4, none⟩ = some (.int .i64 ps)) ∧ Below w.heap.size w wr)
  case atStart => exact ⟨0, rfl, Nat.zero_le _, rfl, rfl, K1.out⟩
  case round =>
    clear K1 g0 g1 g2 g3 g4
    obtain ⟨i, rfl, hi, hgk, hall, hS⟩ := hrel
    have K1 := Lib.hid hS
    obtain ⟨⟨g0, g1, g2, g3, g4⟩, _⟩ := hS
    by_cases hin : i = ks.length
    · have e : ks.take i = ks := by rw [hin]; exact List.take_length
      rw [e] at hall
      have HA := Lib.hid hall
      have ti : ¬ (i : Int) < (ks.length : Int) := by omega
      clear e hall hgk
      have WF := Lib.hid (show ∀ wr : World, Below w.heap.size w wr → Calls Tryd.prog 25 #[.agg #[.int .i64 0, .slice A1 ws.length c1, .slice A2 nums.length c2, .slice A3 ks.length c3, .int .i64 ps], .int .i64 0, .int .i64 0] wr fun e w' => e = .returned (.bool (wordsR ⟨0, ws, nums, ks, ps⟩ 0 0)) ∧ Below wr.heap.size wr w' from fun wr hb => WR.out wr hb 0 0)
      generalize hqW : wordsR ⟨0, ws, nums, ks, ps⟩ 0 0 = W at WF
      have QW := Lib.hid hqW
      clear hqW
      cases W
      · go_wp2_with (first
          | (go_at_call 25; (with_reducible refine (WF.out wr (bl_of K1.out)).mono ?_); rintro e2 w2 ⟨rfl, hb2⟩; have K2 := Lib.hid (STB.out _ _ hb2 K1.out); obtain ⟨⟨k20, k21, k22, k23, k24⟩, _⟩ := id K2.out; clear hb2))
        go_ret
        exact ⟨ok_no, bl_of K2.out⟩
      · have NF := Lib.hid (show ∀ wr : World, Below w.heap.size w wr → Calls Tryd.prog 26 #[.agg #[.int .i64 0, .slice A1 ws.length c1, .slice A2 nums.length c2, .slice A3 ks.length c3, .int .i64 ps]] wr fun e w' => e = .returned (.bool (noneR ⟨0, ws, nums, ks, ps⟩)) ∧ Below wr.heap.size wr w' from fun wr hb => NO0.out wr hb)
        generalize hqN : noneR ⟨0, ws, nums, ks, ps⟩ = N at NF
        have QN := Lib.hid hqN
        clear hqN
        cases N
        · go_wp2_with (first
            | (go_at_call 25; (with_reducible refine (WF.out wr (bl_of K1.out)).mono ?_); rintro e2 w2 ⟨rfl, hb2⟩; have K2 := Lib.hid (STB.out _ _ hb2 K1.out); obtain ⟨⟨k20, k21, k22, k23, k24⟩, _⟩ := id K2.out; clear hb2)
            | (go_at_call 26; (with_reducible refine (NF.out w2 (bl_of K2.out)).mono ?_); rintro e3 w3 ⟨rfl, hb3⟩; have K3 := Lib.hid (STB.out _ _ hb3 K2.out); obtain ⟨⟨k30, k31, k32, k33, k34⟩, _⟩ := id K3.out; clear hb3))
          go_ret
          exact ⟨ok_no, bl_of K3.out⟩
        · go_wp2_with (first
            | (go_at_call 25; (with_reducible refine (WF.out wr (bl_of K1.out)).mono ?_); rintro e2 w2 ⟨rfl, hb2⟩; have K2 := Lib.hid (STB.out _ _ hb2 K1.out); obtain ⟨⟨k20, k21, k22, k23, k24⟩, _⟩ := id K2.out; clear hb2)
            | (go_at_call 26; (with_reducible refine (NF.out w2 (bl_of K2.out)).mono ?_); rintro e3 w3 ⟨rfl, hb3⟩; have K3 := Lib.hid (STB.out _ _ hb3 K2.out); obtain ⟨⟨k30, k31, k32, k33, k34⟩, _⟩ := id K3.out; clear hb3))
          go_ret
          exact ⟨ok_yes (val_program HA.out QW.out QN.out), bl_of K3.out⟩
    · have hlt : i < ks.length := by omega
      obtain ⟨z, hz⟩ : ∃ z, ks[i]? = some z := ⟨_, List.getElem?_eq_getElem hlt⟩
      have nxt := all_snoc (f := fun k => (isB [1, 4]) (kindAt ns k)) hz hall
      have kk : kdR ns ⟨0, ws, nums, ks, ps⟩ i = kindAt ns z := by unfold kdR; dsimp only; rw [atI_of hz]
      have KF := Lib.hid (fun (wz : World) (hz : Below w.heap.size w wz) => KD0.out wz hz i hlt)
      rw [kk] at KF
      have ti : (i : Int) < (ks.length : Int) := by omega
      have ti2 : (0 : Int) ≤ (i : Int) := by omega
      have wk : IntKind.i64.wrap ((i : Int) + 1) = (i : Int) + 1 := IntWalk.i64_in _ (by have := KL.out; unfold maxLen at this; omega)
      have HI := Lib.hid (And.intro hlt (And.intro hgk nxt))
      clear hgk nxt hz hall kk hin hlt hi
      generalize kindAt ns z = Z at *
      cases z1 : (Z == 1)
      · have u1 : (Z != 1) = true := by rw [bne, z1]; rfl
        cases z4 : (Z == 4)
        · have u4 : (Z != 4) = true := by rw [bne, z4]; rfl
          go_wp2_with (first
            | (go_at_call 28; (with_reducible refine (KF.out wr (bl_of K1.out)).mono ?_); rintro e2 w2 ⟨rfl, hb2⟩; have K2 := Lib.hid (STB.out _ _ hb2 K1.out); obtain ⟨⟨k20, k21, k22, k23, k24⟩, _⟩ := id K2.out; clear hb2))
          go_ret
          exact ⟨ok_no, bl_of K2.out⟩
        · have u4 : (Z != 4) = false := by rw [bne, z4]; rfl
          have TZ := Lib.hid (show isB [1, 4] Z = true from by unfold isB; rw [List.contains_cons, List.contains_cons, z1, z4]; rfl)
          go_wp2_with (first
            | (go_at_call 28; (with_reducible refine (KF.out wr (bl_of K1.out)).mono ?_); rintro e2 w2 ⟨rfl, hb2⟩; have K2 := Lib.hid (STB.out _ _ hb2 K1.out); obtain ⟨⟨k20, k21, k22, k23, k24⟩, _⟩ := id K2.out; clear hb2))
          go_roundg (ks.length - (i + 1))
          case measure => have := HI.out; omega
          case rel => exact ⟨i + 1, by push_cast; rfl, by have := HI.out; omega, rfl, HI.out.2.2.trans (TZ.out), K2.out⟩
      · have u1 : (Z != 1) = false := by rw [bne, z1]; rfl
        have TZ := Lib.hid (show isB [1, 4] Z = true from by unfold isB; rw [List.contains_cons, z1]; rfl)
        go_wp2_with (first
          | (go_at_call 28; (with_reducible refine (KF.out wr (bl_of K1.out)).mono ?_); rintro e2 w2 ⟨rfl, hb2⟩; have K2 := Lib.hid (STB.out _ _ hb2 K1.out); obtain ⟨⟨k20, k21, k22, k23, k24⟩, _⟩ := id K2.out; clear hb2))
        go_roundg (ks.length - (i + 1))
        case measure => have := HI.out; omega
        case rel => exact ⟨i + 1, by push_cast; rfl, by have := HI.out; omega, rfl, HI.out.2.2.trans (TZ.out), K2.out⟩

set_option maxRecDepth 10000 in
set_option maxHeartbeats 8000000 in
theorem router_proto (w : World) (v : Value) (ns : List Nd) (va vb vc : Value) (ws : List (List UInt8)) (nums ks : List Int) (ps : Int) (hN : NodesAt w v ns) (hx : NdAt w ((va, vb, vc), ⟨1, ws, nums, ks, ps⟩)) (hk : KidsIn ks ns.length) :
    Calls Tryd.prog 24 #[v, ndV ((va, vb, vc), ⟨1, ws, nums, ks, ps⟩)] w fun e w' => OkB (validB ns ⟨1, ws, nums, ks, ps⟩ = true) e ∧ Below w.heap.size w w' := by
  obtain ⟨h1, h2, h3⟩ := id hx
  dsimp only at h1 h2 h3
  have WR := Lib.hid (fun (wr : World) (hb : Below w.heap.size w wr) (a b : Int) => rwords_any wr _ a b (hx.below hb))
  have NO0 := Lib.hid (fun (wr : World) (hb : Below w.heap.size w wr) => rnone_any wr _ (hx.below hb))
  have KD0 := Lib.hid (fun (wr : World) (hb : Below w.heap.size w wr) (i : Nat) (hi : i < ks.length) => rkid_any wr v ns _ i (hN.below hb) (hx.below hb) hk hi)
  have BL0 := Lib.hid (fun (wr : World) (hb : Below w.heap.size w wr) (f : Nat) (a b : Int) (hf : f ≤ ks.length) (hf1 : f ≤ 1) => rblocks_any wr v ns _ f a b (hN.below hb) (hx.below hb) hk hf hf1)
  have FR0 := Lib.hid (fun (hl : nums.length = 3) (wr : World) (hb : Below w.heap.size w wr) => rfrac_any wr _ (hx.below hb) hl)
  obtain ⟨A1, c1, rfl, _⟩ := h1
  obtain ⟨A2, c2, rfl, _, _, R2'⟩ := h2
  have KL := Lib.hid h3.len
  obtain ⟨A3, c3, rfl, _⟩ := h3
  have R2 := Lib.hid R2'
  unfold ndV at WR NO0 KD0 BL0 FR0 ⊢
  dsimp only at WR NO0 KD0 BL0 FR0 ⊢
  have STB := Lib.hid (show Stb (fun w' => (w'.cell? ⟨w.heap.size, 0, none⟩ = some (.int .i64 1) ∧ w'.cell? ⟨w.heap.size, 1, none⟩ = some (.slice A1 ws.length c1) ∧ w'.cell? ⟨w.heap.size, 2, none⟩ = some (.slice A2 nums.length c2) ∧ w'.cell? ⟨w.heap.size, 3, none⟩ = some (.slice A3 ks.length c3) ∧ w'.cell? ⟨w.heap.size, 4, none⟩ = some (.int .i64 ps)) ∧ Below w.heap.size w w') from stb_and (stb_and (stb_cell _ _) (stb_and (stb_cell _ _) (stb_and (stb_cell _ _) (stb_and (stb_cell _ _) (stb_cell _ _))))) (stb_below w))
  have HS1 : ((w.alloc (.cells #[.int .i64 1, .slice A1 ws.length c1, .slice A2 nums.length c2, .slice A3 ks.length c3, .int .i64 ps] 30)).cell? ⟨w.heap.size, 0, none⟩ = some (.int .i64 1) ∧ (w.alloc (.cells #[.int .i64 1, .slice A1 ws.length c1, .slice A2 nums.length c2, .slice A3 ks.length c3, .int .i64 ps] 30)).cell? ⟨w.heap.size, 1, none⟩ = some (.slice A1 ws.length c1) ∧ (w.alloc (.cells #[.int .i64 1, .slice A1 ws.length c1, .slice A2 nums.length c2, .slice A3 ks.length c3, .int .i64 ps] 30)).cell? ⟨w.heap.size, 2, none⟩ = some (.slice A2 nums.length c2) ∧ (w.alloc (.cells #[.int .i64 1, .slice A1 ws.length c1, .slice A2 nums.length c2, .slice A3 ks.length c3, .int .i64 ps] 30)).cell? ⟨w.heap.size, 3, none⟩ = some (.slice A3 ks.length c3) ∧ (w.alloc (.cells #[.int .i64 1, .slice A1 ws.length c1, .slice A2 nums.length c2, .slice A3 ks.length c3, .int .i64 ps] 30)).cell? ⟨w.heap.size, 4, none⟩ = some (.int .i64 ps)) ∧ Below w.heap.size w (w.alloc (.cells #[.int .i64 1, .slice A1 ws.length c1, .slice A2 nums.length c2, .slice A3 ks.length c3, .int .i64 ps] 30)) := ⟨⟨(Blk.start w _ _).cell 0, (Blk.start w _ _).cell 1, (Blk.start w _ _).cell 2, (Blk.start w _ _).cell 3, (Blk.start w _ _).cell 4⟩, below_alloc1 w _⟩
  have K1 := Lib.hid HS1
  obtain ⟨⟨g0, g1, g2, g3, g4⟩, _⟩ := HS1
  clear R2' hx hN hk
  go_enter Tryd.func24, Tryd.ntmps24
  go_upto_region 1 with fail
  generalize (w.alloc (.cells #[.int .i64 1, .slice A1 ws.length c1, .slice A2 nums.length c2, .slice A3 ks.length c3, .int .i64 ps] 30)) = w1 at *
  go_wp2_with fail
  go_loopg [6] (ks.length) (fun gk vi wr => ∃ i : Nat, vi = .int .i64 i ∧ i ≤ ks.length ∧ gk = ks.length - i ∧ allB ns (ks.take i) (isB [2, 3]) = true ∧ (wr.cell? ⟨w.heap.size, 0, none⟩ = some (.int .i64 1) ∧ wr.cell? ⟨w.heap.size, 1, none⟩ = some (.slice A1 ws.length c1) ∧ wr.cell? ⟨w.heap.size, 2, none⟩ = some (.slice A2 nums.length c2) ∧ wr.cell? ⟨w.heap.size, 3, none⟩ = some (.slice A3 ks.length c3) ∧ wr.cell? ⟨w.heap.size, 4, none⟩ = some (.int .i64 ps)) ∧ Below w.heap.size w wr)
  case atStart => exact ⟨0, rfl, Nat.zero_le _, rfl, rfl, K1.out⟩
  case round =>
    clear K1 g0 g1 g2 g3 g4
    obtain ⟨i, rfl, hi, hgk, hall, hS⟩ := hrel
    have K1 := Lib.hid hS
    obtain ⟨⟨g0, g1, g2, g3, g4⟩, _⟩ := hS
    by_cases hin : i = ks.length
    · have e : ks.take i = ks := by rw [hin]; exact List.take_length
      rw [e] at hall
      have HA := Lib.hid hall
      have ti : ¬ (i : Int) < (ks.length : Int) := by omega
      clear e hall hgk
      have WF := Lib.hid (show ∀ wr : World, Below w.heap.size w wr → Calls Tryd.prog 25 #[.agg #[.int .i64 1, .slice A1 ws.length c1, .slice A2 nums.length c2, .slice A3 ks.length c3, .int .i64 ps], .int .i64 1, .int .i64 1] wr fun e w' => e = .returned (.bool (wordsR ⟨1, ws, nums, ks, ps⟩ 1 1)) ∧ Below wr.heap.size wr w' from fun wr hb => WR.out wr hb 1 1)
      generalize hqW : wordsR ⟨1, ws, nums, ks, ps⟩ 1 1 = W at WF
      have QW := Lib.hid hqW
      clear hqW
      cases W
      · go_wp2_with (first
          | (go_at_call 25; (with_reducible refine (WF.out wr (bl_of K1.out)).mono ?_); rintro e2 w2 ⟨rfl, hb2⟩; have K2 := Lib.hid (STB.out _ _ hb2 K1.out); obtain ⟨⟨k20, k21, k22, k23, k24⟩, _⟩ := id K2.out; clear hb2))
        go_ret
        exact ⟨ok_no, bl_of K2.out⟩
      · have NF := Lib.hid (show ∀ wr : World, Below w.heap.size w wr → Calls Tryd.prog 26 #[.agg #[.int .i64 1, .slice A1 ws.length c1, .slice A2 nums.length c2, .slice A3 ks.length c3, .int .i64 ps]] wr fun e w' => e = .returned (.bool (noneR ⟨1, ws, nums, ks, ps⟩)) ∧ Below wr.heap.size wr w' from fun wr hb => NO0.out wr hb)
        generalize hqN : noneR ⟨1, ws, nums, ks, ps⟩ = N at NF
        have QN := Lib.hid hqN
        clear hqN
        cases N
        · go_wp2_with (first
            | (go_at_call 25; (with_reducible refine (WF.out wr (bl_of K1.out)).mono ?_); rintro e2 w2 ⟨rfl, hb2⟩; have K2 := Lib.hid (STB.out _ _ hb2 K1.out); obtain ⟨⟨k20, k21, k22, k23, k24⟩, _⟩ := id K2.out; clear hb2)
            | (go_at_call 26; (with_reducible refine (NF.out w2 (bl_of K2.out)).mono ?_); rintro e3 w3 ⟨rfl, hb3⟩; have K3 := Lib.hid (STB.out _ _ hb3 K2.out); obtain ⟨⟨k30, k31, k32, k33, k34⟩, _⟩ := id K3.out; clear hb3))
          go_ret
          exact ⟨ok_no, bl_of K3.out⟩
        · go_wp2_with (first
            | (go_at_call 25; (with_reducible refine (WF.out wr (bl_of K1.out)).mono ?_); rintro e2 w2 ⟨rfl, hb2⟩; have K2 := Lib.hid (STB.out _ _ hb2 K1.out); obtain ⟨⟨k20, k21, k22, k23, k24⟩, _⟩ := id K2.out; clear hb2)
            | (go_at_call 26; (with_reducible refine (NF.out w2 (bl_of K2.out)).mono ?_); rintro e3 w3 ⟨rfl, hb3⟩; have K3 := Lib.hid (STB.out _ _ hb3 K2.out); obtain ⟨⟨k30, k31, k32, k33, k34⟩, _⟩ := id K3.out; clear hb3))
          go_ret
          exact ⟨ok_yes (val_proto HA.out QW.out QN.out), bl_of K3.out⟩
    · have hlt : i < ks.length := by omega
      obtain ⟨z, hz⟩ : ∃ z, ks[i]? = some z := ⟨_, List.getElem?_eq_getElem hlt⟩
      have nxt := all_snoc (f := fun k => (isB [2, 3]) (kindAt ns k)) hz hall
      have kk : kdR ns ⟨1, ws, nums, ks, ps⟩ i = kindAt ns z := by unfold kdR; dsimp only; rw [atI_of hz]
      have KF := Lib.hid (fun (wz : World) (hz : Below w.heap.size w wz) => KD0.out wz hz i hlt)
      rw [kk] at KF
      have ti : (i : Int) < (ks.length : Int) := by omega
      have ti2 : (0 : Int) ≤ (i : Int) := by omega
      have wk : IntKind.i64.wrap ((i : Int) + 1) = (i : Int) + 1 := IntWalk.i64_in _ (by have := KL.out; unfold maxLen at this; omega)
      have HI := Lib.hid (And.intro hlt (And.intro hgk nxt))
      clear hgk nxt hz hall kk hin hlt hi
      generalize kindAt ns z = Z at *
      cases z2 : (Z == 2)
      · have u2 : (Z != 2) = true := by rw [bne, z2]; rfl
        cases z3 : (Z == 3)
        · have u3 : (Z != 3) = true := by rw [bne, z3]; rfl
          go_wp2_with (first
            | (go_at_call 28; (with_reducible refine (KF.out wr (bl_of K1.out)).mono ?_); rintro e2 w2 ⟨rfl, hb2⟩; have K2 := Lib.hid (STB.out _ _ hb2 K1.out); obtain ⟨⟨k20, k21, k22, k23, k24⟩, _⟩ := id K2.out; clear hb2))
          go_ret
          exact ⟨ok_no, bl_of K2.out⟩
        · have u3 : (Z != 3) = false := by rw [bne, z3]; rfl
          have TZ := Lib.hid (show isB [2, 3] Z = true from by unfold isB; rw [List.contains_cons, List.contains_cons, z2, z3]; rfl)
          go_wp2_with (first
            | (go_at_call 28; (with_reducible refine (KF.out wr (bl_of K1.out)).mono ?_); rintro e2 w2 ⟨rfl, hb2⟩; have K2 := Lib.hid (STB.out _ _ hb2 K1.out); obtain ⟨⟨k20, k21, k22, k23, k24⟩, _⟩ := id K2.out; clear hb2))
          go_roundg (ks.length - (i + 1))
          case measure => have := HI.out; omega
          case rel => exact ⟨i + 1, by push_cast; rfl, by have := HI.out; omega, rfl, HI.out.2.2.trans (TZ.out), K2.out⟩
      · have u2 : (Z != 2) = false := by rw [bne, z2]; rfl
        have TZ := Lib.hid (show isB [2, 3] Z = true from by unfold isB; rw [List.contains_cons, z2]; rfl)
        go_wp2_with (first
          | (go_at_call 28; (with_reducible refine (KF.out wr (bl_of K1.out)).mono ?_); rintro e2 w2 ⟨rfl, hb2⟩; have K2 := Lib.hid (STB.out _ _ hb2 K1.out); obtain ⟨⟨k20, k21, k22, k23, k24⟩, _⟩ := id K2.out; clear hb2))
        go_roundg (ks.length - (i + 1))
        case measure => have := HI.out; omega
        case rel => exact ⟨i + 1, by push_cast; rfl, by have := HI.out; omega, rfl, HI.out.2.2.trans (TZ.out), K2.out⟩
end Go.Proofs.YtabnjiijgbigbaaDoor
