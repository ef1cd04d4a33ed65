/-
  The walks of the document's own inner of layer 6, kind by kind. (Template: by-name.py fills it; gen/genTro.py writes it.)
-/
import Derived.Test.YtabnjiijgbigbaaDoorKA
namespace Go.Proofs.YtabnjiijgbigbaaDoor
open Go.RowKit

set_option maxRecDepth 10000 in
set_option maxHeartbeats 8000000 in
theorem rinner_let (w : World) (v : Value) (ns : List Nd) (va vb vc : Value) (ws : List (List UInt8)) (nums ks : List Int) (ps : Int) (hN : NodesAt w v ns) (hx : NdAt w ((va, vb, vc), ⟨8, ws, nums, ks, ps⟩)) (hk : KidsIn ks ns.length) :
    Calls Tryd.prog 29 #[v, ndV ((va, vb, vc), ⟨8, ws, nums, ks, ps⟩)] w fun e w' => OkB (validB ns ⟨8, ws, nums, ks, ps⟩ = true) e ∧ Below w.heap.size w w' := by
  obtain ⟨h1, h2, h3⟩ := id hx
  dsimp only at h1 h2 h3
  have WR := Lib.hid (fun (wr : World) (hb : Below w.heap.size w wr) (a b : Int) => rwords_any wr _ a b (hx.below hb))
  have NO0 := Lib.hid (fun (wr : World) (hb : Below w.heap.size w wr) => rnone_any wr _ (hx.below hb))
  have KD0 := Lib.hid (fun (wr : World) (hb : Below w.heap.size w wr) (i : Nat) (hi : i < ks.length) => rkid_any wr v ns _ i (hN.below hb) (hx.below hb) hk hi)
  have BL0 := Lib.hid (fun (wr : World) (hb : Below w.heap.size w wr) (f : Nat) (a b : Int) (hf : f ≤ ks.length) (hf1 : f ≤ 1) => rblocks_any wr v ns _ f a b (hN.below hb) (hx.below hb) hk hf hf1)
  have FR0 := Lib.hid (fun (hl : nums.length = 3) (wr : World) (hb : Below w.heap.size w wr) => rfrac_any wr _ (hx.below hb) hl)
  obtain ⟨A1, c1, rfl, _⟩ := h1
  obtain ⟨A2, c2, rfl, _, _, R2'⟩ := h2
  have KL := Lib.hid h3.len
  obtain ⟨A3, c3, rfl, _⟩ := h3
  have R2 := Lib.hid R2'
  unfold ndV at WR NO0 KD0 BL0 FR0 ⊢
  dsimp only at WR NO0 KD0 BL0 FR0 ⊢
  have STB := Lib.hid (show Stb (fun w' => (w'.cell? ⟨w.heap.size, 0, none⟩ = some (.int .i64 8) ∧ w'.cell? ⟨w.heap.size, 1, none⟩ = some (.slice A1 ws.length c1) ∧ w'.cell? ⟨w.heap.size, 2, none⟩ = some (.slice A2 nums.length c2) ∧ w'.cell? ⟨w.heap.size, 3, none⟩ = some (.slice A3 ks.length c3) ∧ w'.cell? ⟨w.heap.size, 4, none⟩ = some (.int .i64 ps)) ∧ Below w.heap.size w w') from stb_and (stb_and (stb_cell _ _) (stb_and (stb_cell _ _) (stb_and (stb_cell _ _) (stb_and (stb_cell _ _) (stb_cell _ _))))) (stb_below w))
  have HS1 : ((w.alloc (.cells #[.int .i64 8, .slice A1 ws.length c1, .slice A2 nums.length c2, .slice A3 ks.length c3, .int .i64 ps] 30)).cell? ⟨w.heap.size, 0, none⟩ = some (.int .i64 8) ∧ (w.alloc (.cells #[.int .i64 8, .slice A1 ws.length c1, .slice A2 nums.length c2, .slice A3 ks.length c3, .int .i64 ps] 30)).cell? ⟨w.heap.size, 1, none⟩ = some (.slice A1 ws.length c1) ∧ (w.alloc (.cells #[.int .i64 8, .slice A1 ws.length c1, .slice A2 nums.length c2, .slice A3 ks.length c3, .int .i64 ps] 30)).cell? ⟨w.heap.size, 2, none⟩ = some (.slice A2 nums.length c2) ∧ (w.alloc (.cells #[.int .i64 8, .slice A1 ws.length c1, .slice A2 nums.length c2, .slice A3 ks.length c3, .int .i64 ps] 30)).cell? ⟨w.heap.size, 3, none⟩ = some (.slice A3 ks.length c3) ∧ (w.alloc (.cells #[.int .i64 8, .slice A1 ws.length c1, .slice A2 nums.length c2, .slice A3 ks.length c3, .int .i64 ps] 30)).cell? ⟨w.heap.size, 4, none⟩ = some (.int .i64 ps)) ∧ Below w.heap.size w (w.alloc (.cells #[.int .i64 8, .slice A1 ws.length c1, .slice A2 nums.length c2, .slice A3 ks.length c3, .int .i64 ps] 30)) := ⟨⟨(Blk.start w _ _).cell 0, (Blk.start w _ _).cell 1, (Blk.start w _ _).cell 2, (Blk.start w _ _).cell 3, (Blk.start w _ _).cell 4⟩, below_alloc1 w _⟩
  have K1 := Lib.hid HS1
  obtain ⟨⟨g0, g1, g2, g3, g4⟩, _⟩ := HS1
  clear R2' hx hN hk
  have WF := Lib.hid (show ∀ wr : World, Below w.heap.size w wr → Calls Tryd.prog 25 #[.agg #[.int .i64 8, .slice A1 ws.length c1, .slice A2 nums.length c2, .slice A3 ks.length c3, .int .i64 ps], .int .i64 1, .int .i64 1] wr fun e w' => e = .returned (.bool (wordsR ⟨8, ws, nums, ks, ps⟩ 1 1)) ∧ Below wr.heap.size wr w' from fun wr hb => WR.out wr hb 1 1)
  generalize hqW : wordsR ⟨8, ws, nums, ks, ps⟩ 1 1 = W at WF
  have QW := Lib.hid hqW
  clear hqW
  cases W
  · go_enter Tryd.func29, Tryd.ntmps29
    go_upto_region 1 with fail
    generalize (w.alloc (.cells #[.int .i64 8, .slice A1 ws.length c1, .slice A2 nums.length c2, .slice A3 ks.length c3, .int .i64 ps] 30)) = w1 at *
    go_wp2_with (first
      | (go_at_call 25; (with_reducible refine (WF.out w1 (bl_of K1.out)).mono ?_); rintro e2 w2 ⟨rfl, hb2⟩; have K2 := Lib.hid (STB.out _ _ hb2 K1.out); obtain ⟨⟨k20, k21, k22, k23, k24⟩, _⟩ := id K2.out; clear hb2))
    go_ret
    exact ⟨ok_no, bl_of K2.out⟩
  · have NF := Lib.hid (show ∀ wr : World, Below w.heap.size w wr → Calls Tryd.prog 26 #[.agg #[.int .i64 8, .slice A1 ws.length c1, .slice A2 nums.length c2, .slice A3 ks.length c3, .int .i64 ps]] wr fun e w' => e = .returned (.bool (noneR ⟨8, ws, nums, ks, ps⟩)) ∧ Below wr.heap.size wr w' from fun wr hb => NO0.out wr hb)
    generalize hqN : noneR ⟨8, ws, nums, ks, ps⟩ = N at NF
    have QN := Lib.hid hqN
    clear hqN
    cases N
    · go_enter Tryd.func29, Tryd.ntmps29
      go_upto_region 1 with fail
      generalize (w.alloc (.cells #[.int .i64 8, .slice A1 ws.length c1, .slice A2 nums.length c2, .slice A3 ks.length c3, .int .i64 ps] 30)) = w1 at *
      go_wp2_with (first
        | (go_at_call 25; (with_reducible refine (WF.out w1 (bl_of K1.out)).mono ?_); rintro e2 w2 ⟨rfl, hb2⟩; have K2 := Lib.hid (STB.out _ _ hb2 K1.out); obtain ⟨⟨k20, k21, k22, k23, k24⟩, _⟩ := id K2.out; clear hb2)
        | (go_at_call 26; (with_reducible refine (NF.out w2 (bl_of K2.out)).mono ?_); rintro e3 w3 ⟨rfl, hb3⟩; have K3 := Lib.hid (STB.out _ _ hb3 K2.out); obtain ⟨⟨k30, k31, k32, k33, k34⟩, _⟩ := id K3.out; clear hb3))
      go_ret
      exact ⟨ok_no, bl_of K3.out⟩
    · by_cases qk : ks.length = 1
      · have tk : ((ks.length : Int) == 1) = true := by rw [beq_iff_eq]; omega
        have QK := Lib.hid qk
        clear qk
        have EG := Lib.hid (show ∀ wr : World, Below w.heap.size w wr → Calls Tryd.prog 28 #[v, .agg #[.int .i64 8, .slice A1 ws.length c1, .slice A2 nums.length c2, .slice A3 ks.length c3, .int .i64 ps], .int .i64 0] wr fun e w' => e = .returned (.int .i64 (kdR ns ⟨8, ws, nums, ks, ps⟩ 0)) ∧ Below wr.heap.size wr w' from fun wr hb => KD0.out wr hb 0 (by have := QK.out; omega))
        have EF := Lib.hid (fun wr => rexpr_any wr (kdR ns ⟨8, ws, nums, ks, ps⟩ 0))
        generalize hqE : exprB (kdR ns ⟨8, ws, nums, ks, ps⟩ 0) = E at EF
        have QE := Lib.hid hqE
        clear hqE
        cases E
        · go_enter Tryd.func29, Tryd.ntmps29
          go_upto_region 1 with fail
          generalize (w.alloc (.cells #[.int .i64 8, .slice A1 ws.length c1, .slice A2 nums.length c2, .slice A3 ks.length c3, .int .i64 ps] 30)) = w1 at *
          go_wp2_with (first
            | (go_at_call 25; (with_reducible refine (WF.out w1 (bl_of K1.out)).mono ?_); rintro e2 w2 ⟨rfl, hb2⟩; have K2 := Lib.hid (STB.out _ _ hb2 K1.out); obtain ⟨⟨k20, k21, k22, k23, k24⟩, _⟩ := id K2.out; clear hb2)
            | (go_at_call 26; (with_reducible refine (NF.out w2 (bl_of K2.out)).mono ?_); rintro e3 w3 ⟨rfl, hb3⟩; have K3 := Lib.hid (STB.out _ _ hb3 K2.out); obtain ⟨⟨k30, k31, k32, k33, k34⟩, _⟩ := id K3.out; clear hb3)
            | (go_at_call 28; (with_reducible refine (EG.out w3 (bl_of K3.out)).mono ?_); rintro e4 w4 ⟨rfl, hb4⟩; have K4 := Lib.hid (STB.out _ _ hb4 K3.out); obtain ⟨⟨k40, k41, k42, k43, k44⟩, _⟩ := id K4.out; clear hb4)
            | (go_at_call 27; (with_reducible refine (EF.out w4).mono ?_); rintro _ _ ⟨rfl, rfl⟩))
          go_ret
          exact ⟨ok_no, bl_of K4.out⟩
        · go_enter Tryd.func29, Tryd.ntmps29
          go_upto_region 1 with fail
          generalize (w.alloc (.cells #[.int .i64 8, .slice A1 ws.length c1, .slice A2 nums.length c2, .slice A3 ks.length c3, .int .i64 ps] 30)) = w1 at *
          go_wp2_with (first
            | (go_at_call 25; (with_reducible refine (WF.out w1 (bl_of K1.out)).mono ?_); rintro e2 w2 ⟨rfl, hb2⟩; have K2 := Lib.hid (STB.out _ _ hb2 K1.out); obtain ⟨⟨k20, k21, k22, k23, k24⟩, _⟩ := id K2.out; clear hb2)
            | (go_at_call 26; (with_reducible refine (NF.out w2 (bl_of K2.out)).mono ?_); rintro e3 w3 ⟨rfl, hb3⟩; have K3 := Lib.hid (STB.out _ _ hb3 K2.out); obtain ⟨⟨k30, k31, k32, k33, k34⟩, _⟩ := id K3.out; clear hb3)
            | (go_at_call 28; (with_reducible refine (EG.out w3 (bl_of K3.out)).mono ?_); rintro e4 w4 ⟨rfl, hb4⟩; have K4 := Lib.hid (STB.out _ _ hb4 K3.out); obtain ⟨⟨k40, k41, k42, k43, k44⟩, _⟩ := id K4.out; clear hb4)
            | (go_at_call 27; (with_reducible refine (EF.out w4).mono ?_); rintro _ _ ⟨rfl, rfl⟩))
          go_ret
          exact ⟨ok_yes (val_let QW.out QN.out QK.out QE.out), bl_of K4.out⟩
      · have tk : ((ks.length : Int) == 1) = false := by rw [beq_eq_false_iff_ne]; omega
        go_enter Tryd.func29, Tryd.ntmps29
        go_upto_region 1 with fail
        generalize (w.alloc (.cells #[.int .i64 8, .slice A1 ws.length c1, .slice A2 nums.length c2, .slice A3 ks.length c3, .int .i64 ps] 30)) = w1 at *
        go_wp2_with (first
          | (go_at_call 25; (with_reducible refine (WF.out w1 (bl_of K1.out)).mono ?_); rintro e2 w2 ⟨rfl, hb2⟩; have K2 := Lib.hid (STB.out _ _ hb2 K1.out); obtain ⟨⟨k20, k21, k22, k23, k24⟩, _⟩ := id K2.out; clear hb2)
          | (go_at_call 26; (with_reducible refine (NF.out w2 (bl_of K2.out)).mono ?_); rintro e3 w3 ⟨rfl, hb3⟩; have K3 := Lib.hid (STB.out _ _ hb3 K2.out); obtain ⟨⟨k30, k31, k32, k33, k34⟩, _⟩ := id K3.out; clear hb3))
        go_ret
        exact ⟨ok_no, bl_of K3.out⟩

set_option maxRecDepth 10000 in
set_option maxHeartbeats 8000000 in
theorem rinner_set (w : World) (v : Value) (ns : List Nd) (va vb vc : Value) (ws : List (List UInt8)) (nums ks : List Int) (ps : Int) (hN : NodesAt w v ns) (hx : NdAt w ((va, vb, vc), ⟨9, ws, nums, ks, ps⟩)) (hk : KidsIn ks ns.length) :
    Calls Tryd.prog 29 #[v, ndV ((va, vb, vc), ⟨9, ws, nums, ks, ps⟩)] w fun e w' => OkB (validB ns ⟨9, ws, nums, ks, ps⟩ = true) e ∧ Below w.heap.size w w' := by
  obtain ⟨h1, h2, h3⟩ := id hx
  dsimp only at h1 h2 h3
  have WR := Lib.hid (fun (wr : World) (hb : Below w.heap.size w wr) (a b : Int) => rwords_any wr _ a b (hx.below hb))
  have NO0 := Lib.hid (fun (wr : World) (hb : Below w.heap.size w wr) => rnone_any wr _ (hx.below hb))
  have KD0 := Lib.hid (fun (wr : World) (hb : Below w.heap.size w wr) (i : Nat) (hi : i < ks.length) => rkid_any wr v ns _ i (hN.below hb) (hx.below hb) hk hi)
  have BL0 := Lib.hid (fun (wr : World) (hb : Below w.heap.size w wr) (f : Nat) (a b : Int) (hf : f ≤ ks.length) (hf1 : f ≤ 1) => rblocks_any wr v ns _ f a b (hN.below hb) (hx.below hb) hk hf hf1)
  have FR0 := Lib.hid (fun (hl : nums.length = 3) (wr : World) (hb : Below w.heap.size w wr) => rfrac_any wr _ (hx.below hb) hl)
  obtain ⟨A1, c1, rfl, _⟩ := h1
  obtain ⟨A2, c2, rfl, _, _, R2'⟩ := h2
  have KL := Lib.hid h3.len
  obtain ⟨A3, c3, rfl, _⟩ := h3
  have R2 := Lib.hid R2'
  unfold ndV at WR NO0 KD0 BL0 FR0 ⊢
  dsimp only at WR NO0 KD0 BL0 FR0 ⊢
  have STB := Lib.hid (show Stb (fun w' => (w'.cell? ⟨w.heap.size, 0, none⟩ = some (.int .i64 9) ∧ w'.cell? ⟨w.heap.size, 1, none⟩ = some (.slice A1 ws.length c1) ∧ w'.cell? ⟨w.heap.size, 2, none⟩ = some (.slice A2 nums.length c2) ∧ w'.cell? ⟨w.heap.size, 3, none⟩ = some (.slice A3 ks.length c3) ∧ w'.cell? ⟨w.heap.size, 4, none⟩ = some (.int .i64 ps)) ∧ Below w.heap.size w w') from stb_and (stb_and (stb_cell _ _) (stb_and (stb_cell _ _) (stb_and (stb_cell _ _) (stb_and (stb_cell _ _) (stb_cell _ _))))) (stb_below w))
  have HS1 : ((w.alloc (.cells #[.int .i64 9, .slice A1 ws.length c1, .slice A2 nums.length c2, .slice A3 ks.length c3, .int .i64 ps] 30)).cell? ⟨w.heap.size, 0, none⟩ = some (.int .i64 9) ∧ (w.alloc (.cells #[.int .i64 9, .slice A1 ws.length c1, .slice A2 nums.length c2, .slice A3 ks.length c3, .int .i64 ps] 30)).cell? ⟨w.heap.size, 1, none⟩ = some (.slice A1 ws.length c1) ∧ (w.alloc (.cells #[.int .i64 9, .slice A1 ws.length c1, .slice A2 nums.length c2, .slice A3 ks.length c3, .int .i64 ps] 30)).cell? ⟨w.heap.size, 2, none⟩ = some (.slice A2 nums.length c2) ∧ (w.alloc (.cells #[.int .i64 9, .slice A1 ws.length c1, .slice A2 nums.length c2, .slice A3 ks.length c3, .int .i64 ps] 30)).cell? ⟨w.heap.size, 3, none⟩ = some (.slice A3 ks.length c3) ∧ (w.alloc (.cells #[.int .i64 9, .slice A1 ws.length c1, .slice A2 nums.length c2, .slice A3 ks.length c3, .int .i64 ps] 30)).cell? ⟨w.heap.size, 4, none⟩ = some (.int .i64 ps)) ∧ Below w.heap.size w (w.alloc (.cells #[.int .i64 9, .slice A1 ws.length c1, .slice A2 nums.length c2, .slice A3 ks.length c3, .int .i64 ps] 30)) := ⟨⟨(Blk.start w _ _).cell 0, (Blk.start w _ _).cell 1, (Blk.start w _ _).cell 2, (Blk.start w _ _).cell 3, (Blk.start w _ _).cell 4⟩, below_alloc1 w _⟩
  have K1 := Lib.hid HS1
  obtain ⟨⟨g0, g1, g2, g3, g4⟩, _⟩ := HS1
  clear R2' hx hN hk
  have WF := Lib.hid (show ∀ wr : World, Below w.heap.size w wr → Calls Tryd.prog 25 #[.agg #[.int .i64 9, .slice A1 ws.length c1, .slice A2 nums.length c2, .slice A3 ks.length c3, .int .i64 ps], .int .i64 1, .int .i64 1] wr fun e w' => e = .returned (.bool (wordsR ⟨9, ws, nums, ks, ps⟩ 1 1)) ∧ Below wr.heap.size wr w' from fun wr hb => WR.out wr hb 1 1)
  generalize hqW : wordsR ⟨9, ws, nums, ks, ps⟩ 1 1 = W at WF
  have QW := Lib.hid hqW
  clear hqW
  cases W
  · go_enter Tryd.func29, Tryd.ntmps29
    go_upto_region 1 with fail
    generalize (w.alloc (.cells #[.int .i64 9, .slice A1 ws.length c1, .slice A2 nums.length c2, .slice A3 ks.length c3, .int .i64 ps] 30)) = w1 at *
    go_wp2_with (first
      | (go_at_call 25; (with_reducible refine (WF.out w1 (bl_of K1.out)).mono ?_); rintro e2 w2 ⟨rfl, hb2⟩; have K2 := Lib.hid (STB.out _ _ hb2 K1.out); obtain ⟨⟨k20, k21, k22, k23, k24⟩, _⟩ := id K2.out; clear hb2))
    go_ret
    exact ⟨ok_no, bl_of K2.out⟩
  · have NF := Lib.hid (show ∀ wr : World, Below w.heap.size w wr → Calls Tryd.prog 26 #[.agg #[.int .i64 9, .slice A1 ws.length c1, .slice A2 nums.length c2, .slice A3 ks.length c3, .int .i64 ps]] wr fun e w' => e = .returned (.bool (noneR ⟨9, ws, nums, ks, ps⟩)) ∧ Below wr.heap.size wr w' from fun wr hb => NO0.out wr hb)
    generalize hqN : noneR ⟨9, ws, nums, ks, ps⟩ = N at NF
    have QN := Lib.hid hqN
    clear hqN
    cases N
    · go_enter Tryd.func29, Tryd.ntmps29
      go_upto_region 1 with fail
      generalize (w.alloc (.cells #[.int .i64 9, .slice A1 ws.length c1, .slice A2 nums.length c2, .slice A3 ks.length c3, .int .i64 ps] 30)) = w1 at *
      go_wp2_with (first
        | (go_at_call 25; (with_reducible refine (WF.out w1 (bl_of K1.out)).mono ?_); rintro e2 w2 ⟨rfl, hb2⟩; have K2 := Lib.hid (STB.out _ _ hb2 K1.out); obtain ⟨⟨k20, k21, k22, k23, k24⟩, _⟩ := id K2.out; clear hb2)
        | (go_at_call 26; (with_reducible refine (NF.out w2 (bl_of K2.out)).mono ?_); rintro e3 w3 ⟨rfl, hb3⟩; have K3 := Lib.hid (STB.out _ _ hb3 K2.out); obtain ⟨⟨k30, k31, k32, k33, k34⟩, _⟩ := id K3.out; clear hb3))
      go_ret
      exact ⟨ok_no, bl_of K3.out⟩
    · by_cases qk : ks.length = 1
      · have tk : ((ks.length : Int) == 1) = true := by rw [beq_iff_eq]; omega
        have QK := Lib.hid qk
        clear qk
        have EG := Lib.hid (show ∀ wr : World, Below w.heap.size w wr → Calls Tryd.prog 28 #[v, .agg #[.int .i64 9, .slice A1 ws.length c1, .slice A2 nums.length c2, .slice A3 ks.length c3, .int .i64 ps], .int .i64 0] wr fun e w' => e = .returned (.int .i64 (kdR ns ⟨9, ws, nums, ks, ps⟩ 0)) ∧ Below wr.heap.size wr w' from fun wr hb => KD0.out wr hb 0 (by have := QK.out; omega))
        have EF := Lib.hid (fun wr => rexpr_any wr (kdR ns ⟨9, ws, nums, ks, ps⟩ 0))
        generalize hqE : exprB (kdR ns ⟨9, ws, nums, ks, ps⟩ 0) = E at EF
        have QE := Lib.hid hqE
        clear hqE
        cases E
        · go_enter Tryd.func29, Tryd.ntmps29
          go_upto_region 1 with fail
          generalize (w.alloc (.cells #[.int .i64 9, .slice A1 ws.length c1, .slice A2 nums.length c2, .slice A3 ks.length c3, .int .i64 ps] 30)) = w1 at *
          go_wp2_with (first
            | (go_at_call 25; (with_reducible refine (WF.out w1 (bl_of K1.out)).mono ?_); rintro e2 w2 ⟨rfl, hb2⟩; have K2 := Lib.hid (STB.out _ _ hb2 K1.out); obtain ⟨⟨k20, k21, k22, k23, k24⟩, _⟩ := id K2.out; clear hb2)
            | (go_at_call 26; (with_reducible refine (NF.out w2 (bl_of K2.out)).mono ?_); rintro e3 w3 ⟨rfl, hb3⟩; have K3 := Lib.hid (STB.out _ _ hb3 K2.out); obtain ⟨⟨k30, k31, k32, k33, k34⟩, _⟩ := id K3.out; clear hb3)
            | (go_at_call 28; (with_reducible refine (EG.out w3 (bl_of K3.out)).mono ?_); rintro e4 w4 ⟨rfl, hb4⟩; have K4 := Lib.hid (STB.out _ _ hb4 K3.out); obtain ⟨⟨k40, k41, k42, k43, k44⟩, _⟩ := id K4.out; clear hb4)
            | (go_at_call 27; (with_reducible refine (EF.out w4).mono ?_); rintro _ _ ⟨rfl, rfl⟩))
          go_ret
          exact ⟨ok_no, bl_of K4.out⟩
        · go_enter Tryd.func29, Tryd.ntmps29
          go_upto_region 1 with fail
          generalize (w.alloc (.cells #[.int .i64 9, .slice A1 ws.length c1, .slice A2 nums.length c2, .slice A3 ks.length c3, .int .i64 ps] 30)) = w1 at *
          go_wp2_with (first
            | (go_at_call 25; (with_reducible refine (WF.out w1 (bl_of K1.out)).mono ?_); rintro e2 w2 ⟨rfl, hb2⟩; have K2 := Lib.hid (STB.out _ _ hb2 K1.out); obtain ⟨⟨k20, k21, k22, k23, k24⟩, _⟩ := id K2.out; clear hb2)
            | (go_at_call 26; (with_reducible refine (NF.out w2 (bl_of K2.out)).mono ?_); rintro e3 w3 ⟨rfl, hb3⟩; have K3 := Lib.hid (STB.out _ _ hb3 K2.out); obtain ⟨⟨k30, k31, k32, k33, k34⟩, _⟩ := id K3.out; clear hb3)
            | (go_at_call 28; (with_reducible refine (EG.out w3 (bl_of K3.out)).mono ?_); rintro e4 w4 ⟨rfl, hb4⟩; have K4 := Lib.hid (STB.out _ _ hb4 K3.out); obtain ⟨⟨k40, k41, k42, k43, k44⟩, _⟩ := id K4.out; clear hb4)
            | (go_at_call 27; (with_reducible refine (EF.out w4).mono ?_); rintro _ _ ⟨rfl, rfl⟩))
          go_ret
          exact ⟨ok_yes (val_set QW.out QN.out QK.out QE.out), bl_of K4.out⟩
      · have tk : ((ks.length : Int) == 1) = false := by rw [beq_eq_false_iff_ne]; omega
        go_enter Tryd.func29, Tryd.ntmps29
        go_upto_region 1 with fail
        generalize (w.alloc (.cells #[.int .i64 9, .slice A1 ws.length c1, .slice A2 nums.length c2, .slice A3 ks.length c3, .int .i64 ps] 30)) = w1 at *
        go_wp2_with (first
          | (go_at_call 25; (with_reducible refine (WF.out w1 (bl_of K1.out)).mono ?_); rintro e2 w2 ⟨rfl, hb2⟩; have K2 := Lib.hid (STB.out _ _ hb2 K1.out); obtain ⟨⟨k20, k21, k22, k23, k24⟩, _⟩ := id K2.out; clear hb2)
          | (go_at_call 26; (with_reducible refine (NF.out w2 (bl_of K2.out)).mono ?_); rintro e3 w3 ⟨rfl, hb3⟩; have K3 := Lib.hid (STB.out _ _ hb3 K2.out); obtain ⟨⟨k30, k31, k32, k33, k34⟩, _⟩ := id K3.out; clear hb3))
        go_ret
        exact ⟨ok_no, bl_of K3.out⟩

set_option maxRecDepth 10000 in
set_option maxHeartbeats 8000000 in
theorem rinner_open (w : World) (v : Value) (ns : List Nd) (va vb vc : Value) (ws : List (List UInt8)) (nums ks : List Int) (ps : Int) (hN : NodesAt w v ns) (hx : NdAt w ((va, vb, vc), ⟨10, ws, nums, ks, ps⟩)) (hk : KidsIn ks ns.length) :
    Calls Tryd.prog 29 #[v, ndV ((va, vb, vc), ⟨10, ws, nums, ks, ps⟩)] w fun e w' => OkB (validB ns ⟨10, ws, nums, ks, ps⟩ = true) e ∧ Below w.heap.size w w' := by
  obtain ⟨h1, h2, h3⟩ := id hx
  dsimp only at h1 h2 h3
  have WR := Lib.hid (fun (wr : World) (hb : Below w.heap.size w wr) (a b : Int) => rwords_any wr _ a b (hx.below hb))
  have NO0 := Lib.hid (fun (wr : World) (hb : Below w.heap.size w wr) => rnone_any wr _ (hx.below hb))
  have KD0 := Lib.hid (fun (wr : World) (hb : Below w.heap.size w wr) (i : Nat) (hi : i < ks.length) => rkid_any wr v ns _ i (hN.below hb) (hx.below hb) hk hi)
  have BL0 := Lib.hid (fun (wr : World) (hb : Below w.heap.size w wr) (f : Nat) (a b : Int) (hf : f ≤ ks.length) (hf1 : f ≤ 1) => rblocks_any wr v ns _ f a b (hN.below hb) (hx.below hb) hk hf hf1)
  have FR0 := Lib.hid (fun (hl : nums.length = 3) (wr : World) (hb : Below w.heap.size w wr) => rfrac_any wr _ (hx.below hb) hl)
  obtain ⟨A1, c1, rfl, _⟩ := h1
  obtain ⟨A2, c2, rfl, _, _, R2'⟩ := h2
  have KL := Lib.hid h3.len
  obtain ⟨A3, c3, rfl, _⟩ := h3
  have R2 := Lib.hid R2'
  unfold ndV at WR NO0 KD0 BL0 FR0 ⊢
  dsimp only at WR NO0 KD0 BL0 FR0 ⊢
  have STB := Lib.hid (show Stb (fun w' => (w'.cell? ⟨w.heap.size, 0, none⟩ = some (.int .i64 10) ∧ w'.cell? ⟨w.heap.size, 1, none⟩ = some (.slice A1 ws.length c1) ∧ w'.cell? ⟨w.heap.size, 2, none⟩ = some (.slice A2 nums.length c2) ∧ w'.cell? ⟨w.heap.size, 3, none⟩ = some (.slice A3 ks.length c3) ∧ w'.cell? ⟨w.heap.size, 4, none⟩ = some (.int .i64 ps)) ∧ Below w.heap.size w w') from stb_and (stb_and (stb_cell _ _) (stb_and (stb_cell _ _) (stb_and (stb_cell _ _) (stb_and (stb_cell _ _) (stb_cell _ _))))) (stb_below w))
  have HS1 : ((w.alloc (.cells #[.int .i64 10, .slice A1 ws.length c1, .slice A2 nums.length c2, .slice A3 ks.length c3, .int .i64 ps] 30)).cell? ⟨w.heap.size, 0, none⟩ = some (.int .i64 10) ∧ (w.alloc (.cells #[.int .i64 10, .slice A1 ws.length c1, .slice A2 nums.length c2, .slice A3 ks.length c3, .int .i64 ps] 30)).cell? ⟨w.heap.size, 1, none⟩ = some (.slice A1 ws.length c1) ∧ (w.alloc (.cells #[.int .i64 10, .slice A1 ws.length c1, .slice A2 nums.length c2, .slice A3 ks.length c3, .int .i64 ps] 30)).cell? ⟨w.heap.size, 2, none⟩ = some (.slice A2 nums.length c2) ∧ (w.alloc (.cells #[.int .i64 10, .slice A1 ws.length c1, .slice A2 nums.length c2, .slice A3 ks.length c3, .int .i64 ps] 30)).cell? ⟨w.heap.size, 3, none⟩ = some (.slice A3 ks.length c3) ∧ (w.alloc (.cells #[.int .i64 10, .slice A1 ws.length c1, .slice A2 nums.length c2, .slice A3 ks.length c3, .int .i64 ps] 30)).cell? ⟨w.heap.size, 4, none⟩ = some (.int .i64 ps)) ∧ Below w.heap.size w (w.alloc (.cells #[.int .i64 10, .slice A1 ws.length c1, .slice A2 nums.length c2, .slice A3 ks.length c3, .int .i64 ps] 30)) := ⟨⟨(Blk.start w _ _).cell 0, (Blk.start w _ _).cell 1, (Blk.start w _ _).cell 2, (Blk.start w _ _).cell 3, (Blk.start w _ _).cell 4⟩, below_alloc1 w _⟩
  have K1 := Lib.hid HS1
  obtain ⟨⟨g0, g1, g2, g3, g4⟩, _⟩ := HS1
  clear R2' hx hN hk
  have WF := Lib.hid (show ∀ wr : World, Below w.heap.size w wr → Calls Tryd.prog 25 #[.agg #[.int .i64 10, .slice A1 ws.length c1, .slice A2 nums.length c2, .slice A3 ks.length c3, .int .i64 ps], .int .i64 2, .int .i64 2] wr fun e w' => e = .returned (.bool (wordsR ⟨10, ws, nums, ks, ps⟩ 2 2)) ∧ Below wr.heap.size wr w' from fun wr hb => WR.out wr hb 2 2)
  generalize hqW : wordsR ⟨10, ws, nums, ks, ps⟩ 2 2 = W at WF
  have QW := Lib.hid hqW
  clear hqW
  cases W
  · go_enter Tryd.func29, Tryd.ntmps29
    go_upto_region 1 with fail
    generalize (w.alloc (.cells #[.int .i64 10, .slice A1 ws.length c1, .slice A2 nums.length c2, .slice A3 ks.length c3, .int .i64 ps] 30)) = w1 at *
    go_wp2_with (first
      | (go_at_call 25; (with_reducible refine (WF.out w1 (bl_of K1.out)).mono ?_); rintro e2 w2 ⟨rfl, hb2⟩; have K2 := Lib.hid (STB.out _ _ hb2 K1.out); obtain ⟨⟨k20, k21, k22, k23, k24⟩, _⟩ := id K2.out; clear hb2))
    go_ret
    exact ⟨ok_no, bl_of K2.out⟩
  · have NF := Lib.hid (show ∀ wr : World, Below w.heap.size w wr → Calls Tryd.prog 26 #[.agg #[.int .i64 10, .slice A1 ws.length c1, .slice A2 nums.length c2, .slice A3 ks.length c3, .int .i64 ps]] wr fun e w' => e = .returned (.bool (noneR ⟨10, ws, nums, ks, ps⟩)) ∧ Below wr.heap.size wr w' from fun wr hb => NO0.out wr hb)
    generalize hqN : noneR ⟨10, ws, nums, ks, ps⟩ = N at NF
    have QN := Lib.hid hqN
    clear hqN
    cases N
    · go_enter Tryd.func29, Tryd.ntmps29
      go_upto_region 1 with fail
      generalize (w.alloc (.cells #[.int .i64 10, .slice A1 ws.length c1, .slice A2 nums.length c2, .slice A3 ks.length c3, .int .i64 ps] 30)) = w1 at *
      go_wp2_with (first
        | (go_at_call 25; (with_reducible refine (WF.out w1 (bl_of K1.out)).mono ?_); rintro e2 w2 ⟨rfl, hb2⟩; have K2 := Lib.hid (STB.out _ _ hb2 K1.out); obtain ⟨⟨k20, k21, k22, k23, k24⟩, _⟩ := id K2.out; clear hb2)
        | (go_at_call 26; (with_reducible refine (NF.out w2 (bl_of K2.out)).mono ?_); rintro e3 w3 ⟨rfl, hb3⟩; have K3 := Lib.hid (STB.out _ _ hb3 K2.out); obtain ⟨⟨k30, k31, k32, k33, k34⟩, _⟩ := id K3.out; clear hb3))
      go_ret
      exact ⟨ok_no, bl_of K3.out⟩
    · have BF := Lib.hid (show ∀ wr : World, Below w.heap.size w wr → Calls Tryd.prog 44 #[v, .agg #[.int .i64 10, .slice A1 ws.length c1, .slice A2 nums.length c2, .slice A3 ks.length c3, .int .i64 ps], .int .i64 0, .int .i64 2, .int .i64 2] wr fun e w' => e = .returned (.bool (blocksR ns ⟨10, ws, nums, ks, ps⟩ 0 2 2)) ∧ Below wr.heap.size wr w' from fun wr hb => BL0.out wr hb 0 2 2 (by omega) (by omega))
      generalize hqB : blocksR ns ⟨10, ws, nums, ks, ps⟩ 0 2 2 = B at BF
      have QB := Lib.hid hqB
      clear hqB
      cases B
      · go_enter Tryd.func29, Tryd.ntmps29
        go_upto_region 1 with fail
        generalize (w.alloc (.cells #[.int .i64 10, .slice A1 ws.length c1, .slice A2 nums.length c2, .slice A3 ks.length c3, .int .i64 ps] 30)) = w1 at *
        go_wp2_with (first
          | (go_at_call 25; (with_reducible refine (WF.out w1 (bl_of K1.out)).mono ?_); rintro e2 w2 ⟨rfl, hb2⟩; have K2 := Lib.hid (STB.out _ _ hb2 K1.out); obtain ⟨⟨k20, k21, k22, k23, k24⟩, _⟩ := id K2.out; clear hb2)
          | (go_at_call 26; (with_reducible refine (NF.out w2 (bl_of K2.out)).mono ?_); rintro e3 w3 ⟨rfl, hb3⟩; have K3 := Lib.hid (STB.out _ _ hb3 K2.out); obtain ⟨⟨k30, k31, k32, k33, k34⟩, _⟩ := id K3.out; clear hb3)
          | (go_at_call 44; (with_reducible refine (BF.out w3 (bl_of K3.out)).mono ?_); rintro e4 w4 ⟨rfl, hb4⟩; have K4 := Lib.hid (STB.out _ _ hb4 K3.out); obtain ⟨⟨k40, k41, k42, k43, k44⟩, _⟩ := id K4.out; clear hb4))
        go_ret
        exact ⟨ok_no, bl_of K4.out⟩
      · go_enter Tryd.func29, Tryd.ntmps29
        go_upto_region 1 with fail
        generalize (w.alloc (.cells #[.int .i64 10, .slice A1 ws.length c1, .slice A2 nums.length c2, .slice A3 ks.length c3, .int .i64 ps] 30)) = w1 at *
        go_wp2_with (first
          | (go_at_call 25; (with_reducible refine (WF.out w1 (bl_of K1.out)).mono ?_); rintro e2 w2 ⟨rfl, hb2⟩; have K2 := Lib.hid (STB.out _ _ hb2 K1.out); obtain ⟨⟨k20, k21, k22, k23, k24⟩, _⟩ := id K2.out; clear hb2)
          | (go_at_call 26; (with_reducible refine (NF.out w2 (bl_of K2.out)).mono ?_); rintro e3 w3 ⟨rfl, hb3⟩; have K3 := Lib.hid (STB.out _ _ hb3 K2.out); obtain ⟨⟨k30, k31, k32, k33, k34⟩, _⟩ := id K3.out; clear hb3)
          | (go_at_call 44; (with_reducible refine (BF.out w3 (bl_of K3.out)).mono ?_); rintro e4 w4 ⟨rfl, hb4⟩; have K4 := Lib.hid (STB.out _ _ hb4 K3.out); obtain ⟨⟨k40, k41, k42, k43, k44⟩, _⟩ := id K4.out; clear hb4))
        go_ret
        exact ⟨ok_yes (val_open QW.out QN.out QB.out), bl_of K4.out⟩

set_option maxRecDepth 10000 in
set_option maxHeartbeats 8000000 in
theorem rinner_case (w : World) (v : Value) (ns : List Nd) (va vb vc : Value) (ws : List (List UInt8)) (nums ks : List Int) (ps : Int) (hN : NodesAt w v ns) (hx : NdAt w ((va, vb, vc), ⟨12, ws, nums, ks, ps⟩)) (hk : KidsIn ks ns.length) :
    Calls Tryd.prog 29 #[v, ndV ((va, vb, vc), ⟨12, ws, nums, ks, ps⟩)] w fun e w' => OkB (validB ns ⟨12, ws, nums, ks, ps⟩ = true) e ∧ Below w.heap.size w w' := by
  obtain ⟨h1, h2, h3⟩ := id hx
  dsimp only at h1 h2 h3
  have WR := Lib.hid (fun (wr : World) (hb : Below w.heap.size w wr) (a b : Int) => rwords_any wr _ a b (hx.below hb))
  have NO0 := Lib.hid (fun (wr : World) (hb : Below w.heap.size w wr) => rnone_any wr _ (hx.below hb))
  have KD0 := Lib.hid (fun (wr : World) (hb : Below w.heap.size w wr) (i : Nat) (hi : i < ks.length) => rkid_any wr v ns _ i (hN.below hb) (hx.below hb) hk hi)
  have BL0 := Lib.hid (fun (wr : World) (hb : Below w.heap.size w wr) (f : Nat) (a b : Int) (hf : f ≤ ks.length) (hf1 : f ≤ 1) => rblocks_any wr v ns _ f a b (hN.below hb) (hx.below hb) hk hf hf1)
  have FR0 := Lib.hid (fun (hl : nums.length = 3) (wr : World) (hb : Below w.heap.size w wr) => rfrac_any wr _ (hx.below hb) hl)
  obtain ⟨A1, c1, rfl, _⟩ := h1
  obtain ⟨A2, c2, rfl, _, _, R2'⟩ := h2
  have KL := Lib.hid h3.len
  obtain ⟨A3, c3, rfl, _⟩ := h3
  have R2 := Lib.hid R2'
  unfold ndV at WR NO0 KD0 BL0 FR0 ⊢
  dsimp only at WR NO0 KD0 BL0 FR0 ⊢
  have STB := Lib.hid (show Stb (fun w' => (w'.cell? ⟨w.heap.size, 0, none⟩ = some (.int .i64 12) ∧ w'.cell? ⟨w.heap.size, 1, none⟩ = some (.slice A1 ws.length c1) ∧ w'.cell? ⟨w.heap.size, 2, none⟩ = some (.slice A2 nums.length c2) ∧ w'.cell? ⟨w.heap.size, 3, none⟩ = some (.slice A3 ks.length c3) ∧ w'.cell? ⟨w.heap.size, 4, none⟩ = some (.int .i64 ps)) ∧ Below w.heap.size w w') from stb_and (stb_and (stb_cell _ _) (stb_and (stb_cell _ _) (stb_and (stb_cell _ _) (stb_and (stb_cell _ _) (stb_cell _ _))))) (stb_below w))
  have HS1 : ((w.alloc (.cells #[.int .i64 12, .slice A1 ws.length c1, .slice A2 nums.length c2, .slice A3 ks.length c3, .int .i64 ps] 30)).cell? ⟨w.heap.size, 0, none⟩ = some (.int .i64 12) ∧ (w.alloc (.cells #[.int .i64 12, .slice A1 ws.length c1, .slice A2 nums.length c2, .slice A3 ks.length c3, .int .i64 ps] 30)).cell? ⟨w.heap.size, 1, none⟩ = some (.slice A1 ws.length c1) ∧ (w.alloc (.cells #[.int .i64 12, .slice A1 ws.length c1, .slice A2 nums.length c2, .slice A3 ks.length c3, .int .i64 ps] 30)).cell? ⟨w.heap.size, 2, none⟩ = some (.slice A2 nums.length c2) ∧ (w.alloc (.cells #[.int .i64 12, .slice A1 ws.length c1, .slice A2 nums.length c2, .slice A3 ks.length c3, .int .i64 ps] 30)).cell? ⟨w.heap.size, 3, none⟩ = some (.slice A3 ks.length c3) ∧ (w.alloc (.cells #[.int .i64 12, .slice A1 ws.length c1, .slice A2 nums.length c2, .slice A3 ks.length c3, .int .i64 ps] 30)).cell? ⟨w.heap.size, 4, none⟩ = some (.int .i64 ps)) ∧ Below w.heap.size w (w.alloc (.cells #[.int .i64 12, .slice A1 ws.length c1, .slice A2 nums.length c2, .slice A3 ks.length c3, .int .i64 ps] 30)) := ⟨⟨(Blk.start w _ _).cell 0, (Blk.start w _ _).cell 1, (Blk.start w _ _).cell 2, (Blk.start w _ _).cell 3, (Blk.start w _ _).cell 4⟩, below_alloc1 w _⟩
  have K1 := Lib.hid HS1
  obtain ⟨⟨g0, g1, g2, g3, g4⟩, _⟩ := HS1
  clear R2' hx hN hk
  have WF := Lib.hid (show ∀ wr : World, Below w.heap.size w wr → Calls Tryd.prog 25 #[.agg #[.int .i64 12, .slice A1 ws.length c1, .slice A2 nums.length c2, .slice A3 ks.length c3, .int .i64 ps], .int .i64 1, .int .i64 1] wr fun e w' => e = .returned (.bool (wordsR ⟨12, ws, nums, ks, ps⟩ 1 1)) ∧ Below wr.heap.size wr w' from fun wr hb => WR.out wr hb 1 1)
  generalize hqW : wordsR ⟨12, ws, nums, ks, ps⟩ 1 1 = W at WF
  have QW := Lib.hid hqW
  clear hqW
  cases W
  · go_enter Tryd.func29, Tryd.ntmps29
    go_upto_region 1 with fail
    generalize (w.alloc (.cells #[.int .i64 12, .slice A1 ws.length c1, .slice A2 nums.length c2, .slice A3 ks.length c3, .int .i64 ps] 30)) = w1 at *
    go_wp2_with (first
      | (go_at_call 25; (with_reducible refine (WF.out w1 (bl_of K1.out)).mono ?_); rintro e2 w2 ⟨rfl, hb2⟩; have K2 := Lib.hid (STB.out _ _ hb2 K1.out); obtain ⟨⟨k20, k21, k22, k23, k24⟩, _⟩ := id K2.out; clear hb2))
    go_ret
    exact ⟨ok_no, bl_of K2.out⟩
  · have NF := Lib.hid (show ∀ wr : World, Below w.heap.size w wr → Calls Tryd.prog 26 #[.agg #[.int .i64 12, .slice A1 ws.length c1, .slice A2 nums.length c2, .slice A3 ks.length c3, .int .i64 ps]] wr fun e w' => e = .returned (.bool (noneR ⟨12, ws, nums, ks, ps⟩)) ∧ Below wr.heap.size wr w' from fun wr hb => NO0.out wr hb)
    generalize hqN : noneR ⟨12, ws, nums, ks, ps⟩ = N at NF
    have QN := Lib.hid hqN
    clear hqN
    cases N
    · go_enter Tryd.func29, Tryd.ntmps29
      go_upto_region 1 with fail
      generalize (w.alloc (.cells #[.int .i64 12, .slice A1 ws.length c1, .slice A2 nums.length c2, .slice A3 ks.length c3, .int .i64 ps] 30)) = w1 at *
      go_wp2_with (first
        | (go_at_call 25; (with_reducible refine (WF.out w1 (bl_of K1.out)).mono ?_); rintro e2 w2 ⟨rfl, hb2⟩; have K2 := Lib.hid (STB.out _ _ hb2 K1.out); obtain ⟨⟨k20, k21, k22, k23, k24⟩, _⟩ := id K2.out; clear hb2)
        | (go_at_call 26; (with_reducible refine (NF.out w2 (bl_of K2.out)).mono ?_); rintro e3 w3 ⟨rfl, hb3⟩; have K3 := Lib.hid (STB.out _ _ hb3 K2.out); obtain ⟨⟨k30, k31, k32, k33, k34⟩, _⟩ := id K3.out; clear hb3))
      go_ret
      exact ⟨ok_no, bl_of K3.out⟩
    · have BF := Lib.hid (show ∀ wr : World, Below w.heap.size w wr → Calls Tryd.prog 44 #[v, .agg #[.int .i64 12, .slice A1 ws.length c1, .slice A2 nums.length c2, .slice A3 ks.length c3, .int .i64 ps], .int .i64 0, .int .i64 1, .int .i64 1] wr fun e w' => e = .returned (.bool (blocksR ns ⟨12, ws, nums, ks, ps⟩ 0 1 1)) ∧ Below wr.heap.size wr w' from fun wr hb => BL0.out wr hb 0 1 1 (by omega) (by omega))
      generalize hqB : blocksR ns ⟨12, ws, nums, ks, ps⟩ 0 1 1 = B at BF
      have QB := Lib.hid hqB
      clear hqB
      cases B
      · go_enter Tryd.func29, Tryd.ntmps29
        go_upto_region 1 with fail
        generalize (w.alloc (.cells #[.int .i64 12, .slice A1 ws.length c1, .slice A2 nums.length c2, .slice A3 ks.length c3, .int .i64 ps] 30)) = w1 at *
        go_wp2_with (first
          | (go_at_call 25; (with_reducible refine (WF.out w1 (bl_of K1.out)).mono ?_); rintro e2 w2 ⟨rfl, hb2⟩; have K2 := Lib.hid (STB.out _ _ hb2 K1.out); obtain ⟨⟨k20, k21, k22, k23, k24⟩, _⟩ := id K2.out; clear hb2)
          | (go_at_call 26; (with_reducible refine (NF.out w2 (bl_of K2.out)).mono ?_); rintro e3 w3 ⟨rfl, hb3⟩; have K3 := Lib.hid (STB.out _ _ hb3 K2.out); obtain ⟨⟨k30, k31, k32, k33, k34⟩, _⟩ := id K3.out; clear hb3)
          | (go_at_call 44; (with_reducible refine (BF.out w3 (bl_of K3.out)).mono ?_); rintro e4 w4 ⟨rfl, hb4⟩; have K4 := Lib.hid (STB.out _ _ hb4 K3.out); obtain ⟨⟨k40, k41, k42, k43, k44⟩, _⟩ := id K4.out; clear hb4))
        go_ret
        exact ⟨ok_no, bl_of K4.out⟩
      · go_enter Tryd.func29, Tryd.ntmps29
        go_upto_region 1 with fail
        generalize (w.alloc (.cells #[.int .i64 12, .slice A1 ws.length c1, .slice A2 nums.length c2, .slice A3 ks.length c3, .int .i64 ps] 30)) = w1 at *
        go_wp2_with (first
          | (go_at_call 25; (with_reducible refine (WF.out w1 (bl_of K1.out)).mono ?_); rintro e2 w2 ⟨rfl, hb2⟩; have K2 := Lib.hid (STB.out _ _ hb2 K1.out); obtain ⟨⟨k20, k21, k22, k23, k24⟩, _⟩ := id K2.out; clear hb2)
          | (go_at_call 26; (with_reducible refine (NF.out w2 (bl_of K2.out)).mono ?_); rintro e3 w3 ⟨rfl, hb3⟩; have K3 := Lib.hid (STB.out _ _ hb3 K2.out); obtain ⟨⟨k30, k31, k32, k33, k34⟩, _⟩ := id K3.out; clear hb3)
          | (go_at_call 44; (with_reducible refine (BF.out w3 (bl_of K3.out)).mono ?_); rintro e4 w4 ⟨rfl, hb4⟩; have K4 := Lib.hid (STB.out _ _ hb4 K3.out); obtain ⟨⟨k40, k41, k42, k43, k44⟩, _⟩ := id K4.out; clear hb4))
        go_ret
        exact ⟨ok_yes (val_case QW.out QN.out QB.out), bl_of K4.out⟩
end Go.Proofs.YtabnjiijgbigbaaDoor

namespace Go.Proofs.YtabnjiijgbigbaaDoor
open Go.RowKit

set_option maxRecDepth 10000 in
set_option maxHeartbeats 8000000 in
theorem rinner_if (w : World) (v : Value) (ns : List Nd) (va vb vc : Value) (ws : List (List UInt8)) (nums ks : List Int) (ps : Int) (hN : NodesAt w v ns) (hx : NdAt w ((va, vb, vc), ⟨16, ws, nums, ks, ps⟩)) (hk : KidsIn ks ns.length) :
    Calls Tryd.prog 29 #[v, ndV ((va, vb, vc), ⟨16, ws, nums, ks, ps⟩)] w fun e w' => OkB (validB ns ⟨16, ws, nums, ks, ps⟩ = true) e ∧ Below w.heap.size w w' := by
  obtain ⟨h1, h2, h3⟩ := id hx
  dsimp only at h1 h2 h3
  have WR := Lib.hid (fun (wr : World) (hb : Below w.heap.size w wr) (a b : Int) => rwords_any wr _ a b (hx.below hb))
  have NO0 := Lib.hid (fun (wr : World) (hb : Below w.heap.size w wr) => rnone_any wr _ (hx.below hb))
  have KD0 := Lib.hid (fun (wr : World) (hb : Below w.heap.size w wr) (i : Nat) (hi : i < ks.length) => rkid_any wr v ns _ i (hN.below hb) (hx.below hb) hk hi)
  have BL0 := Lib.hid (fun (wr : World) (hb : Below w.heap.size w wr) (f : Nat) (a b : Int) (hf : f ≤ ks.length) (hf1 : f ≤ 1) => rblocks_any wr v ns _ f a b (hN.below hb) (hx.below hb) hk hf hf1)
  have FR0 := Lib.hid (fun (hl : nums.length = 3) (wr : World) (hb : Below w.heap.size w wr) => rfrac_any wr _ (hx.below hb) hl)
  obtain ⟨A1, c1, rfl, _⟩ := h1
  obtain ⟨A2, c2, rfl, _, _, R2'⟩ := h2
  have KL := Lib.hid h3.len
  obtain ⟨A3, c3, rfl, _⟩ := h3
  have R2 := Lib.hid R2'
  unfold ndV at WR NO0 KD0 BL0 FR0 ⊢
  dsimp only at WR NO0 KD0 BL0 FR0 ⊢
  have STB := Lib.hid (show Stb (fun w' => (w'.cell? ⟨w.heap.size, 0, none⟩ = some (.int .i64 16) ∧ w'.cell? ⟨w.heap.size, 1, none⟩ = some (.slice A1 ws.length c1) ∧ w'.cell? ⟨w.heap.size, 2, none⟩ = some (.slice A2 nums.length c2) ∧ w'.cell? ⟨w.heap.size, 3, none⟩ = some (.slice A3 ks.length c3) ∧ w'.cell? ⟨w.heap.size, 4, none⟩ = some (.int .i64 ps)) ∧ Below w.heap.size w w') from stb_and (stb_and (stb_cell _ _) (stb_and (stb_cell _ _) (stb_and (stb_cell _ _) (stb_and (stb_cell _ _) (stb_cell _ _))))) (stb_below w))
  have HS1 : ((w.alloc (.cells #[.int .i64 16, .slice A1 ws.length c1, .slice A2 nums.length c2, .slice A3 ks.length c3, .int .i64 ps] 30)).cell? ⟨w.heap.size, 0, none⟩ = some (.int .i64 16) ∧ (w.alloc (.cells #[.int .i64 16, .slice A1 ws.length c1, .slice A2 nums.length c2, .slice A3 ks.length c3, .int .i64 ps] 30)).cell? ⟨w.heap.size, 1, none⟩ = some (.slice A1 ws.length c1) ∧ (w.alloc (.cells #[.int .i64 16, .slice A1 ws.length c1, .slice A2 nums.length c2, .slice A3 ks.length c3, .int .i64 ps] 30)).cell? ⟨w.heap.size, 2, none⟩ = some (.slice A2 nums.length c2) ∧ (w.alloc (.cells #[.int .i64 16, .slice A1 ws.length c1, .slice A2 nums.length c2, .slice A3 ks.length c3, .int .i64 ps] 30)).cell? ⟨w.heap.size, 3, none⟩ = some (.slice A3 ks.length c3) ∧ (w.alloc (.cells #[.int .i64 16, .slice A1 ws.length c1, .slice A2 nums.length c2, .slice A3 ks.length c3, .int .i64 ps] 30)).cell? ⟨w.heap.size, 4, none⟩ = some (.int .i64 ps)) ∧ Below w.heap.size w (w.alloc (.cells #[.int .i64 16, .slice A1 ws.length c1, .slice A2 nums.length c2, .slice A3 ks.length c3, .int .i64 ps] 30)) := ⟨⟨(Blk.start w _ _).cell 0, (Blk.start w _ _).cell 1, (Blk.start w _ _).cell 2, (Blk.start w _ _).cell 3, (Blk.start w _ _).cell 4⟩, below_alloc1 w _⟩
  have K1 := Lib.hid HS1
  obtain ⟨⟨g0, g1, g2, g3, g4⟩, _⟩ := HS1
  clear R2' hx hN hk
  have WF := Lib.hid (show ∀ wr : World, Below w.heap.size w wr → Calls Tryd.prog 25 #[.agg #[.int .i64 16, .slice A1 ws.length c1, .slice A2 nums.length c2, .slice A3 ks.length c3, .int .i64 ps], .int .i64 0, .int .i64 0] wr fun e w' => e = .returned (.bool (wordsR ⟨16, ws, nums, ks, ps⟩ 0 0)) ∧ Below wr.heap.size wr w' from fun wr hb => WR.out wr hb 0 0)
  generalize hqW : wordsR ⟨16, ws, nums, ks, ps⟩ 0 0 = W at WF
  have QW := Lib.hid hqW
  clear hqW
  cases W
  · go_enter Tryd.func29, Tryd.ntmps29
    go_upto_region 1 with fail
    generalize (w.alloc (.cells #[.int .i64 16, .slice A1 ws.length c1, .slice A2 nums.length c2, .slice A3 ks.length c3, .int .i64 ps] 30)) = w1 at *
    go_wp2_with (first
      | (go_at_call 25; (with_reducible refine (WF.out w1 (bl_of K1.out)).mono ?_); rintro e2 w2 ⟨rfl, hb2⟩; have K2 := Lib.hid (STB.out _ _ hb2 K1.out); obtain ⟨⟨k20, k21, k22, k23, k24⟩, _⟩ := id K2.out; clear hb2))
    go_ret
    exact ⟨ok_no, bl_of K2.out⟩
  · have NF := Lib.hid (show ∀ wr : World, Below w.heap.size w wr → Calls Tryd.prog 26 #[.agg #[.int .i64 16, .slice A1 ws.length c1, .slice A2 nums.length c2, .slice A3 ks.length c3, .int .i64 ps]] wr fun e w' => e = .returned (.bool (noneR ⟨16, ws, nums, ks, ps⟩)) ∧ Below wr.heap.size wr w' from fun wr hb => NO0.out wr hb)
    generalize hqN : noneR ⟨16, ws, nums, ks, ps⟩ = N at NF
    have QN := Lib.hid hqN
    clear hqN
    cases N
    · go_enter Tryd.func29, Tryd.ntmps29
      go_upto_region 1 with fail
      generalize (w.alloc (.cells #[.int .i64 16, .slice A1 ws.length c1, .slice A2 nums.length c2, .slice A3 ks.length c3, .int .i64 ps] 30)) = w1 at *
      go_wp2_with (first
        | (go_at_call 25; (with_reducible refine (WF.out w1 (bl_of K1.out)).mono ?_); rintro e2 w2 ⟨rfl, hb2⟩; have K2 := Lib.hid (STB.out _ _ hb2 K1.out); obtain ⟨⟨k20, k21, k22, k23, k24⟩, _⟩ := id K2.out; clear hb2)
        | (go_at_call 26; (with_reducible refine (NF.out w2 (bl_of K2.out)).mono ?_); rintro e3 w3 ⟨rfl, hb3⟩; have K3 := Lib.hid (STB.out _ _ hb3 K2.out); obtain ⟨⟨k30, k31, k32, k33, k34⟩, _⟩ := id K3.out; clear hb3))
      go_ret
      exact ⟨ok_no, bl_of K3.out⟩
    · by_cases qk : 0 < ks.length
      · have tk : (0 : Int) < (ks.length : Int) := by omega
        have QK := Lib.hid qk
        have EG := Lib.hid (show ∀ wr : World, Below w.heap.size w wr → Calls Tryd.prog 28 #[v, .agg #[.int .i64 16, .slice A1 ws.length c1, .slice A2 nums.length c2, .slice A3 ks.length c3, .int .i64 ps], .int .i64 0] wr fun e w' => e = .returned (.int .i64 (kdR ns ⟨16, ws, nums, ks, ps⟩ 0)) ∧ Below wr.heap.size wr w' from fun wr hb => KD0.out wr hb 0 (by have := QK.out; omega))
        have EF := Lib.hid (fun wr => rexpr_any wr (kdR ns ⟨16, ws, nums, ks, ps⟩ 0))
        generalize hqE : exprB (kdR ns ⟨16, ws, nums, ks, ps⟩ 0) = E at EF
        have QE := Lib.hid hqE
        clear hqE
        cases E
        · go_enter Tryd.func29, Tryd.ntmps29
          go_upto_region 1 with fail
          generalize (w.alloc (.cells #[.int .i64 16, .slice A1 ws.length c1, .slice A2 nums.length c2, .slice A3 ks.length c3, .int .i64 ps] 30)) = w1 at *
          go_wp2_with (first
            | (go_at_call 25; (with_reducible refine (WF.out w1 (bl_of K1.out)).mono ?_); rintro e2 w2 ⟨rfl, hb2⟩; have K2 := Lib.hid (STB.out _ _ hb2 K1.out); obtain ⟨⟨k20, k21, k22, k23, k24⟩, _⟩ := id K2.out; clear hb2)
            | (go_at_call 26; (with_reducible refine (NF.out w2 (bl_of K2.out)).mono ?_); rintro e3 w3 ⟨rfl, hb3⟩; have K3 := Lib.hid (STB.out _ _ hb3 K2.out); obtain ⟨⟨k30, k31, k32, k33, k34⟩, _⟩ := id K3.out; clear hb3)
            | (go_at_call 28; (with_reducible refine (EG.out w3 (bl_of K3.out)).mono ?_); rintro e4 w4 ⟨rfl, hb4⟩; have K4 := Lib.hid (STB.out _ _ hb4 K3.out); obtain ⟨⟨k40, k41, k42, k43, k44⟩, _⟩ := id K4.out; clear hb4)
            | (go_at_call 27; (with_reducible refine (EF.out w4).mono ?_); rintro _ _ ⟨rfl, rfl⟩))
          go_ret
          exact ⟨ok_no, bl_of K4.out⟩
        · have BF := Lib.hid (show ∀ wr : World, Below w.heap.size w wr → Calls Tryd.prog 44 #[v, .agg #[.int .i64 16, .slice A1 ws.length c1, .slice A2 nums.length c2, .slice A3 ks.length c3, .int .i64 ps], .int .i64 1, .int .i64 1, .int .i64 2] wr fun e w' => e = .returned (.bool (blocksR ns ⟨16, ws, nums, ks, ps⟩ 1 1 2)) ∧ Below wr.heap.size wr w' from fun wr hb => BL0.out wr hb 1 1 2 (by have := QK.out; omega) (by omega))
          generalize hqB : blocksR ns ⟨16, ws, nums, ks, ps⟩ 1 1 2 = B at BF
          have QB := Lib.hid hqB
          clear hqB
          cases B
          · go_enter Tryd.func29, Tryd.ntmps29
            go_upto_region 1 with fail
            generalize (w.alloc (.cells #[.int .i64 16, .slice A1 ws.length c1, .slice A2 nums.length c2, .slice A3 ks.length c3, .int .i64 ps] 30)) = w1 at *
            go_wp2_with (first
              | (go_at_call 25; (with_reducible refine (WF.out w1 (bl_of K1.out)).mono ?_); rintro e2 w2 ⟨rfl, hb2⟩; have K2 := Lib.hid (STB.out _ _ hb2 K1.out); obtain ⟨⟨k20, k21, k22, k23, k24⟩, _⟩ := id K2.out; clear hb2)
              | (go_at_call 26; (with_reducible refine (NF.out w2 (bl_of K2.out)).mono ?_); rintro e3 w3 ⟨rfl, hb3⟩; have K3 := Lib.hid (STB.out _ _ hb3 K2.out); obtain ⟨⟨k30, k31, k32, k33, k34⟩, _⟩ := id K3.out; clear hb3)
              | (go_at_call 28; (with_reducible refine (EG.out w3 (bl_of K3.out)).mono ?_); rintro e4 w4 ⟨rfl, hb4⟩; have K4 := Lib.hid (STB.out _ _ hb4 K3.out); obtain ⟨⟨k40, k41, k42, k43, k44⟩, _⟩ := id K4.out; clear hb4)
              | (go_at_call 27; (with_reducible refine (EF.out w4).mono ?_); rintro _ _ ⟨rfl, rfl⟩)
              | (go_at_call 44; (with_reducible refine (BF.out w4 (bl_of K4.out)).mono ?_); rintro e5 w5 ⟨rfl, hb5⟩; have K5 := Lib.hid (STB.out _ _ hb5 K4.out); obtain ⟨⟨k50, k51, k52, k53, k54⟩, _⟩ := id K5.out; clear hb5))
            go_ret
            exact ⟨ok_no, bl_of K5.out⟩
          · go_enter Tryd.func29, Tryd.ntmps29
            go_upto_region 1 with fail
            generalize (w.alloc (.cells #[.int .i64 16, .slice A1 ws.length c1, .slice A2 nums.length c2, .slice A3 ks.length c3, .int .i64 ps] 30)) = w1 at *
            go_wp2_with (first
              | (go_at_call 25; (with_reducible refine (WF.out w1 (bl_of K1.out)).mono ?_); rintro e2 w2 ⟨rfl, hb2⟩; have K2 := Lib.hid (STB.out _ _ hb2 K1.out); obtain ⟨⟨k20, k21, k22, k23, k24⟩, _⟩ := id K2.out; clear hb2)
              | (go_at_call 26; (with_reducible refine (NF.out w2 (bl_of K2.out)).mono ?_); rintro e3 w3 ⟨rfl, hb3⟩; have K3 := Lib.hid (STB.out _ _ hb3 K2.out); obtain ⟨⟨k30, k31, k32, k33, k34⟩, _⟩ := id K3.out; clear hb3)
              | (go_at_call 28; (with_reducible refine (EG.out w3 (bl_of K3.out)).mono ?_); rintro e4 w4 ⟨rfl, hb4⟩; have K4 := Lib.hid (STB.out _ _ hb4 K3.out); obtain ⟨⟨k40, k41, k42, k43, k44⟩, _⟩ := id K4.out; clear hb4)
              | (go_at_call 27; (with_reducible refine (EF.out w4).mono ?_); rintro _ _ ⟨rfl, rfl⟩)
              | (go_at_call 44; (with_reducible refine (BF.out w4 (bl_of K4.out)).mono ?_); rintro e5 w5 ⟨rfl, hb5⟩; have K5 := Lib.hid (STB.out _ _ hb5 K4.out); obtain ⟨⟨k50, k51, k52, k53, k54⟩, _⟩ := id K5.out; clear hb5))
            go_ret
            exact ⟨ok_yes (val_if QW.out QN.out QK.out QE.out QB.out), bl_of K5.out⟩
      · have tk : ¬ (0 : Int) < (ks.length : Int) := by omega
        have tk2 : (ks.length : Int) ≤ 0 := by omega
        go_enter Tryd.func29, Tryd.ntmps29
        go_upto_region 1 with fail
        generalize (w.alloc (.cells #[.int .i64 16, .slice A1 ws.length c1, .slice A2 nums.length c2, .slice A3 ks.length c3, .int .i64 ps] 30)) = w1 at *
        go_wp2_with (first
          | (go_at_call 25; (with_reducible refine (WF.out w1 (bl_of K1.out)).mono ?_); rintro e2 w2 ⟨rfl, hb2⟩; have K2 := Lib.hid (STB.out _ _ hb2 K1.out); obtain ⟨⟨k20, k21, k22, k23, k24⟩, _⟩ := id K2.out; clear hb2)
          | (go_at_call 26; (with_reducible refine (NF.out w2 (bl_of K2.out)).mono ?_); rintro e3 w3 ⟨rfl, hb3⟩; have K3 := Lib.hid (STB.out _ _ hb3 K2.out); obtain ⟨⟨k30, k31, k32, k33, k34⟩, _⟩ := id K3.out; clear hb3))
        go_ret
        exact ⟨ok_no, bl_of K3.out⟩

set_option maxRecDepth 10000 in
set_option maxHeartbeats 8000000 in
theorem rinner_while (w : World) (v : Value) (ns : List Nd) (va vb vc : Value) (ws : List (List UInt8)) (nums ks : List Int) (ps : Int) (hN : NodesAt w v ns) (hx : NdAt w ((va, vb, vc), ⟨17, ws, nums, ks, ps⟩)) (hk : KidsIn ks ns.length) :
    Calls Tryd.prog 29 #[v, ndV ((va, vb, vc), ⟨17, ws, nums, ks, ps⟩)] w fun e w' => OkB (validB ns ⟨17, ws, nums, ks, ps⟩ = true) e ∧ Below w.heap.size w w' := by
  obtain ⟨h1, h2, h3⟩ := id hx
  dsimp only at h1 h2 h3
  have WR := Lib.hid (fun (wr : World) (hb : Below w.heap.size w wr) (a b : Int) => rwords_any wr _ a b (hx.below hb))
  have NO0 := Lib.hid (fun (wr : World) (hb : Below w.heap.size w wr) => rnone_any wr _ (hx.below hb))
  have KD0 := Lib.hid (fun (wr : World) (hb : Below w.heap.size w wr) (i : Nat) (hi : i < ks.length) => rkid_any wr v ns _ i (hN.below hb) (hx.below hb) hk hi)
  have BL0 := Lib.hid (fun (wr : World) (hb : Below w.heap.size w wr) (f : Nat) (a b : Int) (hf : f ≤ ks.length) (hf1 : f ≤ 1) => rblocks_any wr v ns _ f a b (hN.below hb) (hx.below hb) hk hf hf1)
  have FR0 := Lib.hid (fun (hl : nums.length = 3) (wr : World) (hb : Below w.heap.size w wr) => rfrac_any wr _ (hx.below hb) hl)
  obtain ⟨A1, c1, rfl, _⟩ := h1
  obtain ⟨A2, c2, rfl, _, _, R2'⟩ := h2
  have KL := Lib.hid h3.len
  obtain ⟨A3, c3, rfl, _⟩ := h3
  have R2 := Lib.hid R2'
  unfold ndV at WR NO0 KD0 BL0 FR0 ⊢
  dsimp only at WR NO0 KD0 BL0 FR0 ⊢
  have STB := Lib.hid (show Stb (fun w' => (w'.cell? ⟨w.heap.size, 0, none⟩ = some (.int .i64 17) ∧ w'.cell? ⟨w.heap.size, 1, none⟩ = some (.slice A1 ws.length c1) ∧ w'.cell? ⟨w.heap.size, 2, none⟩ = some (.slice A2 nums.length c2) ∧ w'.cell? ⟨w.heap.size, 3, none⟩ = some (.slice A3 ks.length c3) ∧ w'.cell? ⟨w.heap.size, 4, none⟩ = some (.int .i64 ps)) ∧ Below w.heap.size w w') from stb_and (stb_and (stb_cell _ _) (stb_and (stb_cell _ _) (stb_and (stb_cell _ _) (stb_and (stb_cell _ _) (stb_cell _ _))))) (stb_below w))
  have HS1 : ((w.alloc (.cells #[.int .i64 17, .slice A1 ws.length c1, .slice A2 nums.length c2, .slice A3 ks.length c3, .int .i64 ps] 30)).cell? ⟨w.heap.size, 0, none⟩ = some (.int .i64 17) ∧ (w.alloc (.cells #[.int .i64 17, .slice A1 ws.length c1, .slice A2 nums.length c2, .slice A3 ks.length c3, .int .i64 ps] 30)).cell? ⟨w.heap.size, 1, none⟩ = some (.slice A1 ws.length c1) ∧ (w.alloc (.cells #[.int .i64 17, .slice A1 ws.length c1, .slice A2 nums.length c2, .slice A3 ks.length c3, .int .i64 ps] 30)).cell? ⟨w.heap.size, 2, none⟩ = some (.slice A2 nums.length c2) ∧ (w.alloc (.cells #[.int .i64 17, .slice A1 ws.length c1, .slice A2 nums.length c2, .slice A3 ks.length c3, .int .i64 ps] 30)).cell? ⟨w.heap.size, 3, none⟩ = some (.slice A3 ks.length c3) ∧ (w.alloc (.cells #[.int .i64 17, .slice A1 ws.length c1, .slice A2 nums.length c2, .slice A3 ks.length c3, .int .i64 ps] 30)).cell? ⟨w.heap.size, 4, none⟩ = some (.int .i64 ps)) ∧ Below w.heap.size w (w.alloc (.cells #[.int .i64 17, .slice A1 ws.length c1, .slice A2 nums.length c2, .slice A3 ks.length c3, .int .i64 ps] 30)) := ⟨⟨(Blk.start w _ _).cell 0, (Blk.start w _ _).cell 1, (Blk.start w _ _).cell 2, (Blk.start w _ _).cell 3, (Blk.start w _ _).cell 4⟩, below_alloc1 w _⟩
  have K1 := Lib.hid HS1
  obtain ⟨⟨g0, g1, g2, g3, g4⟩, _⟩ := HS1
  clear R2' hx hN hk
  have WF := Lib.hid (show ∀ wr : World, Below w.heap.size w wr → Calls Tryd.prog 25 #[.agg #[.int .i64 17, .slice A1 ws.length c1, .slice A2 nums.length c2, .slice A3 ks.length c3, .int .i64 ps], .int .i64 0, .int .i64 0] wr fun e w' => e = .returned (.bool (wordsR ⟨17, ws, nums, ks, ps⟩ 0 0)) ∧ Below wr.heap.size wr w' from fun wr hb => WR.out wr hb 0 0)
  generalize hqW : wordsR ⟨17, ws, nums, ks, ps⟩ 0 0 = W at WF
  have QW := Lib.hid hqW
  clear hqW
  cases W
  · go_enter Tryd.func29, Tryd.ntmps29
    go_upto_region 1 with fail
    generalize (w.alloc (.cells #[.int .i64 17, .slice A1 ws.length c1, .slice A2 nums.length c2, .slice A3 ks.length c3, .int .i64 ps] 30)) = w1 at *
    go_wp2_with (first
      | (go_at_call 25; (with_reducible refine (WF.out w1 (bl_of K1.out)).mono ?_); rintro e2 w2 ⟨rfl, hb2⟩; have K2 := Lib.hid (STB.out _ _ hb2 K1.out); obtain ⟨⟨k20, k21, k22, k23, k24⟩, _⟩ := id K2.out; clear hb2))
    go_ret
    exact ⟨ok_no, bl_of K2.out⟩
  · have NF := Lib.hid (show ∀ wr : World, Below w.heap.size w wr → Calls Tryd.prog 26 #[.agg #[.int .i64 17, .slice A1 ws.length c1, .slice A2 nums.length c2, .slice A3 ks.length c3, .int .i64 ps]] wr fun e w' => e = .returned (.bool (noneR ⟨17, ws, nums, ks, ps⟩)) ∧ Below wr.heap.size wr w' from fun wr hb => NO0.out wr hb)
    generalize hqN : noneR ⟨17, ws, nums, ks, ps⟩ = N at NF
    have QN := Lib.hid hqN
    clear hqN
    cases N
    · go_enter Tryd.func29, Tryd.ntmps29
      go_upto_region 1 with fail
      generalize (w.alloc (.cells #[.int .i64 17, .slice A1 ws.length c1, .slice A2 nums.length c2, .slice A3 ks.length c3, .int .i64 ps] 30)) = w1 at *
      go_wp2_with (first
        | (go_at_call 25; (with_reducible refine (WF.out w1 (bl_of K1.out)).mono ?_); rintro e2 w2 ⟨rfl, hb2⟩; have K2 := Lib.hid (STB.out _ _ hb2 K1.out); obtain ⟨⟨k20, k21, k22, k23, k24⟩, _⟩ := id K2.out; clear hb2)
        | (go_at_call 26; (with_reducible refine (NF.out w2 (bl_of K2.out)).mono ?_); rintro e3 w3 ⟨rfl, hb3⟩; have K3 := Lib.hid (STB.out _ _ hb3 K2.out); obtain ⟨⟨k30, k31, k32, k33, k34⟩, _⟩ := id K3.out; clear hb3))
      go_ret
      exact ⟨ok_no, bl_of K3.out⟩
    · by_cases qk : 0 < ks.length
      · have tk : (0 : Int) < (ks.length : Int) := by omega
        have QK := Lib.hid qk
        have EG := Lib.hid (show ∀ wr : World, Below w.heap.size w wr → Calls Tryd.prog 28 #[v, .agg #[.int .i64 17, .slice A1 ws.length c1, .slice A2 nums.length c2, .slice A3 ks.length c3, .int .i64 ps], .int .i64 0] wr fun e w' => e = .returned (.int .i64 (kdR ns ⟨17, ws, nums, ks, ps⟩ 0)) ∧ Below wr.heap.size wr w' from fun wr hb => KD0.out wr hb 0 (by have := QK.out; omega))
        have EF := Lib.hid (fun wr => rexpr_any wr (kdR ns ⟨17, ws, nums, ks, ps⟩ 0))
        generalize hqE : exprB (kdR ns ⟨17, ws, nums, ks, ps⟩ 0) = E at EF
        have QE := Lib.hid hqE
        clear hqE
        cases E
        · go_enter Tryd.func29, Tryd.ntmps29
          go_upto_region 1 with fail
          generalize (w.alloc (.cells #[.int .i64 17, .slice A1 ws.length c1, .slice A2 nums.length c2, .slice A3 ks.length c3, .int .i64 ps] 30)) = w1 at *
          go_wp2_with (first
            | (go_at_call 25; (with_reducible refine (WF.out w1 (bl_of K1.out)).mono ?_); rintro e2 w2 ⟨rfl, hb2⟩; have K2 := Lib.hid (STB.out _ _ hb2 K1.out); obtain ⟨⟨k20, k21, k22, k23, k24⟩, _⟩ := id K2.out; clear hb2)
            | (go_at_call 26; (with_reducible refine (NF.out w2 (bl_of K2.out)).mono ?_); rintro e3 w3 ⟨rfl, hb3⟩; have K3 := Lib.hid (STB.out _ _ hb3 K2.out); obtain ⟨⟨k30, k31, k32, k33, k34⟩, _⟩ := id K3.out; clear hb3)
            | (go_at_call 28; (with_reducible refine (EG.out w3 (bl_of K3.out)).mono ?_); rintro e4 w4 ⟨rfl, hb4⟩; have K4 := Lib.hid (STB.out _ _ hb4 K3.out); obtain ⟨⟨k40, k41, k42, k43, k44⟩, _⟩ := id K4.out; clear hb4)
            | (go_at_call 27; (with_reducible refine (EF.out w4).mono ?_); rintro _ _ ⟨rfl, rfl⟩))
          go_ret
          exact ⟨ok_no, bl_of K4.out⟩
        · have BF := Lib.hid (show ∀ wr : World, Below w.heap.size w wr → Calls Tryd.prog 44 #[v, .agg #[.int .i64 17, .slice A1 ws.length c1, .slice A2 nums.length c2, .slice A3 ks.length c3, .int .i64 ps], .int .i64 1, .int .i64 1, .int .i64 1] wr fun e w' => e = .returned (.bool (blocksR ns ⟨17, ws, nums, ks, ps⟩ 1 1 1)) ∧ Below wr.heap.size wr w' from fun wr hb => BL0.out wr hb 1 1 1 (by have := QK.out; omega) (by omega))
          generalize hqB : blocksR ns ⟨17, ws, nums, ks, ps⟩ 1 1 1 = B at BF
          have QB := Lib.hid hqB
          clear hqB
          cases B
          · go_enter Tryd.func29, Tryd.ntmps29
            go_upto_region 1 with fail
            generalize (w.alloc (.cells #[.int .i64 17, .slice A1 ws.length c1, .slice A2 nums.length c2, .slice A3 ks.length c3, .int .i64 ps] 30)) = w1 at *
            go_wp2_with (first
              | (go_at_call 25; (with_reducible refine (WF.out w1 (bl_of K1.out)).mono ?_); rintro e2 w2 ⟨rfl, hb2⟩; have K2 := Lib.hid (STB.out _ _ hb2 K1.out); obtain ⟨⟨k20, k21, k22, k23, k24⟩, _⟩ := id K2.out; clear hb2)
              | (go_at_call 26; (with_reducible refine (NF.out w2 (bl_of K2.out)).mono ?_); rintro e3 w3 ⟨rfl, hb3⟩; have K3 := Lib.hid (STB.out _ _ hb3 K2.out); obtain ⟨⟨k30, k31, k32, k33, k34⟩, _⟩ := id K3.out; clear hb3)
              | (go_at_call 28; (with_reducible refine (EG.out w3 (bl_of K3.out)).mono ?_); rintro e4 w4 ⟨rfl, hb4⟩; have K4 := Lib.hid (STB.out _ _ hb4 K3.out); obtain ⟨⟨k40, k41, k42, k43, k44⟩, _⟩ := id K4.out; clear hb4)
              | (go_at_call 27; (with_reducible refine (EF.out w4).mono ?_); rintro _ _ ⟨rfl, rfl⟩)
              | (go_at_call 44; (with_reducible refine (BF.out w4 (bl_of K4.out)).mono ?_); rintro e5 w5 ⟨rfl, hb5⟩; have K5 := Lib.hid (STB.out _ _ hb5 K4.out); obtain ⟨⟨k50, k51, k52, k53, k54⟩, _⟩ := id K5.out; clear hb5))
            go_ret
            exact ⟨ok_no, bl_of K5.out⟩
          · go_enter Tryd.func29, Tryd.ntmps29
            go_upto_region 1 with fail
            generalize (w.alloc (.cells #[.int .i64 17, .slice A1 ws.length c1, .slice A2 nums.length c2, .slice A3 ks.length c3, .int .i64 ps] 30)) = w1 at *
            go_wp2_with (first
              | (go_at_call 25; (with_reducible refine (WF.out w1 (bl_of K1.out)).mono ?_); rintro e2 w2 ⟨rfl, hb2⟩; have K2 := Lib.hid (STB.out _ _ hb2 K1.out); obtain ⟨⟨k20, k21, k22, k23, k24⟩, _⟩ := id K2.out; clear hb2)
              | (go_at_call 26; (with_reducible refine (NF.out w2 (bl_of K2.out)).mono ?_); rintro e3 w3 ⟨rfl, hb3⟩; have K3 := Lib.hid (STB.out _ _ hb3 K2.out); obtain ⟨⟨k30, k31, k32, k33, k34⟩, _⟩ := id K3.out; clear hb3)
              | (go_at_call 28; (with_reducible refine (EG.out w3 (bl_of K3.out)).mono ?_); rintro e4 w4 ⟨rfl, hb4⟩; have K4 := Lib.hid (STB.out _ _ hb4 K3.out); obtain ⟨⟨k40, k41, k42, k43, k44⟩, _⟩ := id K4.out; clear hb4)
              | (go_at_call 27; (with_reducible refine (EF.out w4).mono ?_); rintro _ _ ⟨rfl, rfl⟩)
              | (go_at_call 44; (with_reducible refine (BF.out w4 (bl_of K4.out)).mono ?_); rintro e5 w5 ⟨rfl, hb5⟩; have K5 := Lib.hid (STB.out _ _ hb5 K4.out); obtain ⟨⟨k50, k51, k52, k53, k54⟩, _⟩ := id K5.out; clear hb5))
            go_ret
            exact ⟨ok_yes (val_while QW.out QN.out QK.out QE.out QB.out), bl_of K5.out⟩
      · have tk : ¬ (0 : Int) < (ks.length : Int) := by omega
        have tk2 : (ks.length : Int) ≤ 0 := by omega
        go_enter Tryd.func29, Tryd.ntmps29
        go_upto_region 1 with fail
        generalize (w.alloc (.cells #[.int .i64 17, .slice A1 ws.length c1, .slice A2 nums.length c2, .slice A3 ks.length c3, .int .i64 ps] 30)) = w1 at *
        go_wp2_with (first
          | (go_at_call 25; (with_reducible refine (WF.out w1 (bl_of K1.out)).mono ?_); rintro e2 w2 ⟨rfl, hb2⟩; have K2 := Lib.hid (STB.out _ _ hb2 K1.out); obtain ⟨⟨k20, k21, k22, k23, k24⟩, _⟩ := id K2.out; clear hb2)
          | (go_at_call 26; (with_reducible refine (NF.out w2 (bl_of K2.out)).mono ?_); rintro e3 w3 ⟨rfl, hb3⟩; have K3 := Lib.hid (STB.out _ _ hb3 K2.out); obtain ⟨⟨k30, k31, k32, k33, k34⟩, _⟩ := id K3.out; clear hb3))
        go_ret
        exact ⟨ok_no, bl_of K3.out⟩

set_option maxRecDepth 10000 in
set_option maxHeartbeats 8000000 in
theorem rinner_return (w : World) (v : Value) (ns : List Nd) (va vb vc : Value) (ws : List (List UInt8)) (nums ks : List Int) (ps : Int) (hN : NodesAt w v ns) (hx : NdAt w ((va, vb, vc), ⟨18, ws, nums, ks, ps⟩)) (hk : KidsIn ks ns.length) :
    Calls Tryd.prog 29 #[v, ndV ((va, vb, vc), ⟨18, ws, nums, ks, ps⟩)] w fun e w' => OkB (validB ns ⟨18, ws, nums, ks, ps⟩ = true) e ∧ Below w.heap.size w w' := by
  obtain ⟨h1, h2, h3⟩ := id hx
  dsimp only at h1 h2 h3
  have WR := Lib.hid (fun (wr : World) (hb : Below w.heap.size w wr) (a b : Int) => rwords_any wr _ a b (hx.below hb))
  have NO0 := Lib.hid (fun (wr : World) (hb : Below w.heap.size w wr) => rnone_any wr _ (hx.below hb))
  have KD0 := Lib.hid (fun (wr : World) (hb : Below w.heap.size w wr) (i : Nat) (hi : i < ks.length) => rkid_any wr v ns _ i (hN.below hb) (hx.below hb) hk hi)
  have BL0 := Lib.hid (fun (wr : World) (hb : Below w.heap.size w wr) (f : Nat) (a b : Int) (hf : f ≤ ks.length) (hf1 : f ≤ 1) => rblocks_any wr v ns _ f a b (hN.below hb) (hx.below hb) hk hf hf1)
  have FR0 := Lib.hid (fun (hl : nums.length = 3) (wr : World) (hb : Below w.heap.size w wr) => rfrac_any wr _ (hx.below hb) hl)
  obtain ⟨A1, c1, rfl, _⟩ := h1
  obtain ⟨A2, c2, rfl, _, _, R2'⟩ := h2
  have KL := Lib.hid h3.len
  obtain ⟨A3, c3, rfl, _⟩ := h3
  have R2 := Lib.hid R2'
  unfold ndV at WR NO0 KD0 BL0 FR0 ⊢
  dsimp only at WR NO0 KD0 BL0 FR0 ⊢
  have STB := Lib.hid (show Stb (fun w' => (w'.cell? ⟨w.heap.size, 0, none⟩ = some (.int .i64 18) ∧ w'.cell? ⟨w.heap.size, 1, none⟩ = some (.slice A1 ws.length c1) ∧ w'.cell? ⟨w.heap.size, 2, none⟩ = some (.slice A2 nums.length c2) ∧ w'.cell? ⟨w.heap.size, 3, none⟩ = some (.slice A3 ks.length c3) ∧ w'.cell? ⟨w.heap.size, 4, none⟩ = some (.int .i64 ps)) ∧ Below w.heap.size w w') from stb_and (stb_and (stb_cell _ _) (stb_and (stb_cell _ _) (stb_and (stb_cell _ _) (stb_and (stb_cell _ _) (stb_cell _ _))))) (stb_below w))
  have HS1 : ((w.alloc (.cells #[.int .i64 18, .slice A1 ws.length c1, .slice A2 nums.length c2, .slice A3 ks.length c3, .int .i64 ps] 30)).cell? ⟨w.heap.size, 0, none⟩ = some (.int .i64 18) ∧ (w.alloc (.cells #[.int .i64 18, .slice A1 ws.length c1, .slice A2 nums.length c2, .slice A3 ks.length c3, .int .i64 ps] 30)).cell? ⟨w.heap.size, 1, none⟩ = some (.slice A1 ws.length c1) ∧ (w.alloc (.cells #[.int .i64 18, .slice A1 ws.length c1, .slice A2 nums.length c2, .slice A3 ks.length c3, .int .i64 ps] 30)).cell? ⟨w.heap.size, 2, none⟩ = some (.slice A2 nums.length c2) ∧ (w.alloc (.cells #[.int .i64 18, .slice A1 ws.length c1, .slice A2 nums.length c2, .slice A3 ks.length c3, .int .i64 ps] 30)).cell? ⟨w.heap.size, 3, none⟩ = some (.slice A3 ks.length c3) ∧ (w.alloc (.cells #[.int .i64 18, .slice A1 ws.length c1, .slice A2 nums.length c2, .slice A3 ks.length c3, .int .i64 ps] 30)).cell? ⟨w.heap.size, 4, none⟩ = some (.int .i64 ps)) ∧ Below w.heap.size w (w.alloc (.cells #[.int .i64 18, .slice A1 ws.length c1, .slice A2 nums.length c2, .slice A3 ks.length c3, .int .i64 ps] 30)) := ⟨⟨(Blk.start w _ _).cell 0, (Blk.start w _ _).cell 1, (Blk.start w _ _).cell 2, (Blk.start w _ _).cell 3, (Blk.start w _ _).cell 4⟩, below_alloc1 w _⟩
  have K1 := Lib.hid HS1
  obtain ⟨⟨g0, g1, g2, g3, g4⟩, _⟩ := HS1
  clear R2' hx hN hk
  have WF := Lib.hid (show ∀ wr : World, Below w.heap.size w wr → Calls Tryd.prog 25 #[.agg #[.int .i64 18, .slice A1 ws.length c1, .slice A2 nums.length c2, .slice A3 ks.length c3, .int .i64 ps], .int .i64 0, .int .i64 0] wr fun e w' => e = .returned (.bool (wordsR ⟨18, ws, nums, ks, ps⟩ 0 0)) ∧ Below wr.heap.size wr w' from fun wr hb => WR.out wr hb 0 0)
  generalize hqW : wordsR ⟨18, ws, nums, ks, ps⟩ 0 0 = W at WF
  have QW := Lib.hid hqW
  clear hqW
  cases W
  · go_enter Tryd.func29, Tryd.ntmps29
    go_upto_region 1 with fail
    generalize (w.alloc (.cells #[.int .i64 18, .slice A1 ws.length c1, .slice A2 nums.length c2, .slice A3 ks.length c3, .int .i64 ps] 30)) = w1 at *
    go_wp2_with (first
      | (go_at_call 25; (with_reducible refine (WF.out w1 (bl_of K1.out)).mono ?_); rintro e2 w2 ⟨rfl, hb2⟩; have K2 := Lib.hid (STB.out _ _ hb2 K1.out); obtain ⟨⟨k20, k21, k22, k23, k24⟩, _⟩ := id K2.out; clear hb2))
    go_ret
    exact ⟨ok_no, bl_of K2.out⟩
  · have NF := Lib.hid (show ∀ wr : World, Below w.heap.size w wr → Calls Tryd.prog 26 #[.agg #[.int .i64 18, .slice A1 ws.length c1, .slice A2 nums.length c2, .slice A3 ks.length c3, .int .i64 ps]] wr fun e w' => e = .returned (.bool (noneR ⟨18, ws, nums, ks, ps⟩)) ∧ Below wr.heap.size wr w' from fun wr hb => NO0.out wr hb)
    generalize hqN : noneR ⟨18, ws, nums, ks, ps⟩ = N at NF
    have QN := Lib.hid hqN
    clear hqN
    cases N
    · go_enter Tryd.func29, Tryd.ntmps29
      go_upto_region 1 with fail
      generalize (w.alloc (.cells #[.int .i64 18, .slice A1 ws.length c1, .slice A2 nums.length c2, .slice A3 ks.length c3, .int .i64 ps] 30)) = w1 at *
      go_wp2_with (first
        | (go_at_call 25; (with_reducible refine (WF.out w1 (bl_of K1.out)).mono ?_); rintro e2 w2 ⟨rfl, hb2⟩; have K2 := Lib.hid (STB.out _ _ hb2 K1.out); obtain ⟨⟨k20, k21, k22, k23, k24⟩, _⟩ := id K2.out; clear hb2)
        | (go_at_call 26; (with_reducible refine (NF.out w2 (bl_of K2.out)).mono ?_); rintro e3 w3 ⟨rfl, hb3⟩; have K3 := Lib.hid (STB.out _ _ hb3 K2.out); obtain ⟨⟨k30, k31, k32, k33, k34⟩, _⟩ := id K3.out; clear hb3))
      go_ret
      exact ⟨ok_no, bl_of K3.out⟩
    · by_cases qk : ks.length = 1
      · have tk : ((ks.length : Int) == 1) = true := by rw [beq_iff_eq]; omega
        have QK := Lib.hid qk
        clear qk
        have EG := Lib.hid (show ∀ wr : World, Below w.heap.size w wr → Calls Tryd.prog 28 #[v, .agg #[.int .i64 18, .slice A1 ws.length c1, .slice A2 nums.length c2, .slice A3 ks.length c3, .int .i64 ps], .int .i64 0] wr fun e w' => e = .returned (.int .i64 (kdR ns ⟨18, ws, nums, ks, ps⟩ 0)) ∧ Below wr.heap.size wr w' from fun wr hb => KD0.out wr hb 0 (by have := QK.out; omega))
        have EF := Lib.hid (fun wr => rexpr_any wr (kdR ns ⟨18, ws, nums, ks, ps⟩ 0))
        generalize hqE : exprB (kdR ns ⟨18, ws, nums, ks, ps⟩ 0) = E at EF
        have QE := Lib.hid hqE
        clear hqE
        cases E
        · go_enter Tryd.func29, Tryd.ntmps29
          go_upto_region 1 with fail
          generalize (w.alloc (.cells #[.int .i64 18, .slice A1 ws.length c1, .slice A2 nums.length c2, .slice A3 ks.length c3, .int .i64 ps] 30)) = w1 at *
          go_wp2_with (first
            | (go_at_call 25; (with_reducible refine (WF.out w1 (bl_of K1.out)).mono ?_); rintro e2 w2 ⟨rfl, hb2⟩; have K2 := Lib.hid (STB.out _ _ hb2 K1.out); obtain ⟨⟨k20, k21, k22, k23, k24⟩, _⟩ := id K2.out; clear hb2)
            | (go_at_call 26; (with_reducible refine (NF.out w2 (bl_of K2.out)).mono ?_); rintro e3 w3 ⟨rfl, hb3⟩; have K3 := Lib.hid (STB.out _ _ hb3 K2.out); obtain ⟨⟨k30, k31, k32, k33, k34⟩, _⟩ := id K3.out; clear hb3)
            | (go_at_call 28; (with_reducible refine (EG.out w3 (bl_of K3.out)).mono ?_); rintro e4 w4 ⟨rfl, hb4⟩; have K4 := Lib.hid (STB.out _ _ hb4 K3.out); obtain ⟨⟨k40, k41, k42, k43, k44⟩, _⟩ := id K4.out; clear hb4)
            | (go_at_call 27; (with_reducible refine (EF.out w4).mono ?_); rintro _ _ ⟨rfl, rfl⟩))
          go_ret
          exact ⟨ok_no, bl_of K4.out⟩
        · go_enter Tryd.func29, Tryd.ntmps29
          go_upto_region 1 with fail
          generalize (w.alloc (.cells #[.int .i64 18, .slice A1 ws.length c1, .slice A2 nums.length c2, .slice A3 ks.length c3, .int .i64 ps] 30)) = w1 at *
          go_wp2_with (first
            | (go_at_call 25; (with_reducible refine (WF.out w1 (bl_of K1.out)).mono ?_); rintro e2 w2 ⟨rfl, hb2⟩; have K2 := Lib.hid (STB.out _ _ hb2 K1.out); obtain ⟨⟨k20, k21, k22, k23, k24⟩, _⟩ := id K2.out; clear hb2)
            | (go_at_call 26; (with_reducible refine (NF.out w2 (bl_of K2.out)).mono ?_); rintro e3 w3 ⟨rfl, hb3⟩; have K3 := Lib.hid (STB.out _ _ hb3 K2.out); obtain ⟨⟨k30, k31, k32, k33, k34⟩, _⟩ := id K3.out; clear hb3)
            | (go_at_call 28; (with_reducible refine (EG.out w3 (bl_of K3.out)).mono ?_); rintro e4 w4 ⟨rfl, hb4⟩; have K4 := Lib.hid (STB.out _ _ hb4 K3.out); obtain ⟨⟨k40, k41, k42, k43, k44⟩, _⟩ := id K4.out; clear hb4)
            | (go_at_call 27; (with_reducible refine (EF.out w4).mono ?_); rintro _ _ ⟨rfl, rfl⟩))
          go_ret
          exact ⟨ok_yes (val_return QW.out QN.out QK.out QE.out), bl_of K4.out⟩
      · have tk : ((ks.length : Int) == 1) = false := by rw [beq_eq_false_iff_ne]; omega
        go_enter Tryd.func29, Tryd.ntmps29
        go_upto_region 1 with fail
        generalize (w.alloc (.cells #[.int .i64 18, .slice A1 ws.length c1, .slice A2 nums.length c2, .slice A3 ks.length c3, .int .i64 ps] 30)) = w1 at *
        go_wp2_with (first
          | (go_at_call 25; (with_reducible refine (WF.out w1 (bl_of K1.out)).mono ?_); rintro e2 w2 ⟨rfl, hb2⟩; have K2 := Lib.hid (STB.out _ _ hb2 K1.out); obtain ⟨⟨k20, k21, k22, k23, k24⟩, _⟩ := id K2.out; clear hb2)
          | (go_at_call 26; (with_reducible refine (NF.out w2 (bl_of K2.out)).mono ?_); rintro e3 w3 ⟨rfl, hb3⟩; have K3 := Lib.hid (STB.out _ _ hb3 K2.out); obtain ⟨⟨k30, k31, k32, k33, k34⟩, _⟩ := id K3.out; clear hb3))
        go_ret
        exact ⟨ok_no, bl_of K3.out⟩

set_option maxRecDepth 10000 in
set_option maxHeartbeats 8000000 in
theorem rinner_exit (w : World) (v : Value) (ns : List Nd) (va vb vc : Value) (ws : List (List UInt8)) (nums ks : List Int) (ps : Int) (hN : NodesAt w v ns) (hx : NdAt w ((va, vb, vc), ⟨19, ws, nums, ks, ps⟩)) (hk : KidsIn ks ns.length) :
    Calls Tryd.prog 29 #[v, ndV ((va, vb, vc), ⟨19, ws, nums, ks, ps⟩)] w fun e w' => OkB (validB ns ⟨19, ws, nums, ks, ps⟩ = true) e ∧ Below w.heap.size w w' := by
  obtain ⟨h1, h2, h3⟩ := id hx
  dsimp only at h1 h2 h3
  have WR := Lib.hid (fun (wr : World) (hb : Below w.heap.size w wr) (a b : Int) => rwords_any wr _ a b (hx.below hb))
  have NO0 := Lib.hid (fun (wr : World) (hb : Below w.heap.size w wr) => rnone_any wr _ (hx.below hb))
  have KD0 := Lib.hid (fun (wr : World) (hb : Below w.heap.size w wr) (i : Nat) (hi : i < ks.length) => rkid_any wr v ns _ i (hN.below hb) (hx.below hb) hk hi)
  have BL0 := Lib.hid (fun (wr : World) (hb : Below w.heap.size w wr) (f : Nat) (a b : Int) (hf : f ≤ ks.length) (hf1 : f ≤ 1) => rblocks_any wr v ns _ f a b (hN.below hb) (hx.below hb) hk hf hf1)
  have FR0 := Lib.hid (fun (hl : nums.length = 3) (wr : World) (hb : Below w.heap.size w wr) => rfrac_any wr _ (hx.below hb) hl)
  obtain ⟨A1, c1, rfl, _⟩ := h1
  obtain ⟨A2, c2, rfl, _, _, R2'⟩ := h2
  have KL := Lib.hid h3.len
  obtain ⟨A3, c3, rfl, _⟩ := h3
  have R2 := Lib.hid R2'
  unfold ndV at WR NO0 KD0 BL0 FR0 ⊢
  dsimp only at WR NO0 KD0 BL0 FR0 ⊢
  have STB := Lib.hid (show Stb (fun w' => (w'.cell? ⟨w.heap.size, 0, none⟩ = some (.int .i64 19) ∧ w'.cell? ⟨w.heap.size, 1, none⟩ = some (.slice A1 ws.length c1) ∧ w'.cell? ⟨w.heap.size, 2, none⟩ = some (.slice A2 nums.length c2) ∧ w'.cell? ⟨w.heap.size, 3, none⟩ = some (.slice A3 ks.length c3) ∧ w'.cell? ⟨w.heap.size, 4, none⟩ = some (.int .i64 ps)) ∧ Below w.heap.size w w') from stb_and (stb_and (stb_cell _ _) (stb_and (stb_cell _ _) (stb_and (stb_cell _ _) (stb_and (stb_cell _ _) (stb_cell _ _))))) (stb_below w))
  have HS1 : ((w.alloc (.cells #[.int .i64 19, .slice A1 ws.length c1, .slice A2 nums.length c2, .slice A3 ks.length c3, .int .i64 ps] 30)).cell? ⟨w.heap.size, 0, none⟩ = some (.int .i64 19) ∧ (w.alloc (.cells #[.int .i64 19, .slice A1 ws.length c1, .slice A2 nums.length c2, .slice A3 ks.length c3, .int .i64 ps] 30)).cell? ⟨w.heap.size, 1, none⟩ = some (.slice A1 ws.length c1) ∧ (w.alloc (.cells #[.int .i64 19, .slice A1 ws.length c1, .slice A2 nums.length c2, .slice A3 ks.length c3, .int .i64 ps] 30)).cell? ⟨w.heap.size, 2, none⟩ = some (.slice A2 nums.length c2) ∧ (w.alloc (.cells #[.int .i64 19, .slice A1 ws.length c1, .slice A2 nums.length c2, .slice A3 ks.length c3, .int .i64 ps] 30)).cell? ⟨w.heap.size, 3, none⟩ = some (.slice A3 ks.length c3) ∧ (w.alloc (.cells #[.int .i64 19, .slice A1 ws.length c1, .slice A2 nums.length c2, .slice A3 ks.length c3, .int .i64 ps] 30)).cell? ⟨w.heap.size, 4, none⟩ = some (.int .i64 ps)) ∧ Below w.heap.size w (w.alloc (.cells #[.int .i64 19, .slice A1 ws.length c1, .slice A2 nums.length c2, .slice A3 ks.length c3, .int .i64 ps] 30)) := ⟨⟨(Blk.start w _ _).cell 0, (Blk.start w _ _).cell 1, (Blk.start w _ _).cell 2, (Blk.start w _ _).cell 3, (Blk.start w _ _).cell 4⟩, below_alloc1 w _⟩
  have K1 := Lib.hid HS1
  obtain ⟨⟨g0, g1, g2, g3, g4⟩, _⟩ := HS1
  clear R2' hx hN hk
  have WF := Lib.hid (show ∀ wr : World, Below w.heap.size w wr → Calls Tryd.prog 25 #[.agg #[.int .i64 19, .slice A1 ws.length c1, .slice A2 nums.length c2, .slice A3 ks.length c3, .int .i64 ps], .int .i64 0, .int .i64 0] wr fun e w' => e = .returned (.bool (wordsR ⟨19, ws, nums, ks, ps⟩ 0 0)) ∧ Below wr.heap.size wr w' from fun wr hb => WR.out wr hb 0 0)
  generalize hqW : wordsR ⟨19, ws, nums, ks, ps⟩ 0 0 = W at WF
  have QW := Lib.hid hqW
  clear hqW
  cases W
  · go_enter Tryd.func29, Tryd.ntmps29
    go_upto_region 1 with fail
    generalize (w.alloc (.cells #[.int .i64 19, .slice A1 ws.length c1, .slice A2 nums.length c2, .slice A3 ks.length c3, .int .i64 ps] 30)) = w1 at *
    go_wp2_with (first
      | (go_at_call 25; (with_reducible refine (WF.out w1 (bl_of K1.out)).mono ?_); rintro e2 w2 ⟨rfl, hb2⟩; have K2 := Lib.hid (STB.out _ _ hb2 K1.out); obtain ⟨⟨k20, k21, k22, k23, k24⟩, _⟩ := id K2.out; clear hb2))
    go_ret
    exact ⟨ok_no, bl_of K2.out⟩
  · have NF := Lib.hid (show ∀ wr : World, Below w.heap.size w wr → Calls Tryd.prog 26 #[.agg #[.int .i64 19, .slice A1 ws.length c1, .slice A2 nums.length c2, .slice A3 ks.length c3, .int .i64 ps]] wr fun e w' => e = .returned (.bool (noneR ⟨19, ws, nums, ks, ps⟩)) ∧ Below wr.heap.size wr w' from fun wr hb => NO0.out wr hb)
    generalize hqN : noneR ⟨19, ws, nums, ks, ps⟩ = N at NF
    have QN := Lib.hid hqN
    clear hqN
    cases N
    · go_enter Tryd.func29, Tryd.ntmps29
      go_upto_region 1 with fail
      generalize (w.alloc (.cells #[.int .i64 19, .slice A1 ws.length c1, .slice A2 nums.length c2, .slice A3 ks.length c3, .int .i64 ps] 30)) = w1 at *
      go_wp2_with (first
        | (go_at_call 25; (with_reducible refine (WF.out w1 (bl_of K1.out)).mono ?_); rintro e2 w2 ⟨rfl, hb2⟩; have K2 := Lib.hid (STB.out _ _ hb2 K1.out); obtain ⟨⟨k20, k21, k22, k23, k24⟩, _⟩ := id K2.out; clear hb2)
        | (go_at_call 26; (with_reducible refine (NF.out w2 (bl_of K2.out)).mono ?_); rintro e3 w3 ⟨rfl, hb3⟩; have K3 := Lib.hid (STB.out _ _ hb3 K2.out); obtain ⟨⟨k30, k31, k32, k33, k34⟩, _⟩ := id K3.out; clear hb3))
      go_ret
      exact ⟨ok_no, bl_of K3.out⟩
    · by_cases qk : ks.length = 0
      · have tk : ((ks.length : Int) == 0) = true := by rw [beq_iff_eq]; omega
        have QK := Lib.hid qk
        clear qk
        go_enter Tryd.func29, Tryd.ntmps29
        go_upto_region 1 with fail
        generalize (w.alloc (.cells #[.int .i64 19, .slice A1 ws.length c1, .slice A2 nums.length c2, .slice A3 ks.length c3, .int .i64 ps] 30)) = w1 at *
        go_wp2_with (first
          | (go_at_call 25; (with_reducible refine (WF.out w1 (bl_of K1.out)).mono ?_); rintro e2 w2 ⟨rfl, hb2⟩; have K2 := Lib.hid (STB.out _ _ hb2 K1.out); obtain ⟨⟨k20, k21, k22, k23, k24⟩, _⟩ := id K2.out; clear hb2)
          | (go_at_call 26; (with_reducible refine (NF.out w2 (bl_of K2.out)).mono ?_); rintro e3 w3 ⟨rfl, hb3⟩; have K3 := Lib.hid (STB.out _ _ hb3 K2.out); obtain ⟨⟨k30, k31, k32, k33, k34⟩, _⟩ := id K3.out; clear hb3))
        go_ret
        exact ⟨ok_yes (val_exit QW.out QN.out QK.out), bl_of K3.out⟩
      · have tk : ((ks.length : Int) == 0) = false := by rw [beq_eq_false_iff_ne]; omega
        go_enter Tryd.func29, Tryd.ntmps29
        go_upto_region 1 with fail
        generalize (w.alloc (.cells #[.int .i64 19, .slice A1 ws.length c1, .slice A2 nums.length c2, .slice A3 ks.length c3, .int .i64 ps] 30)) = w1 at *
        go_wp2_with (first
          | (go_at_call 25; (with_reducible refine (WF.out w1 (bl_of K1.out)).mono ?_); rintro e2 w2 ⟨rfl, hb2⟩; have K2 := Lib.hid (STB.out _ _ hb2 K1.out); obtain ⟨⟨k20, k21, k22, k23, k24⟩, _⟩ := id K2.out; clear hb2)
          | (go_at_call 26; (with_reducible refine (NF.out w2 (bl_of K2.out)).mono ?_); rintro e3 w3 ⟨rfl, hb3⟩; have K3 := Lib.hid (STB.out _ _ hb3 K2.out); obtain ⟨⟨k30, k31, k32, k33, k34⟩, _⟩ := id K3.out; clear hb3))
        go_ret
        exact ⟨ok_no, bl_of K3.out⟩
end Go.Proofs.YtabnjiijgbigbaaDoor
