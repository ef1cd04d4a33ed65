/-
  The walks of the document's own outer and inner of layer 6: functions, calls. (Template: by-name.py fills it; gen/genTro.py writes it.)
-/
import Derived.Test.YtabnjiijgbigbaaDoorKA
namespace Go.Proofs.YtabnjiijgbigbaaDoor
open Go.RowKit

set_option maxRecDepth 10000 in
set_option maxHeartbeats 8000000 in
theorem rinner_block (w : World) (v : Value) (ns : List Nd) (va vb vc : Value) (ws : List (List UInt8)) (nums ks : List Int) (ps : Int) (hN : NodesAt w v ns) (hx : NdAt w ((va, vb, vc), ⟨7, ws, nums, ks, ps⟩)) (hk : KidsIn ks ns.length) :
    Calls Tryd.prog 29 #[v, ndV ((va, vb, vc), ⟨7, ws, nums, ks, ps⟩)] w fun e w' => OkB (validB ns ⟨7, ws, nums, ks, ps⟩ = true) e ∧ Below w.heap.size w w' := by
  obtain ⟨h1, h2, h3⟩ := id hx
  dsimp only at h1 h2 h3
  have WR := Lib.hid (fun (wr : World) (hb : Below w.heap.size w wr) (a b : Int) => rwords_any wr _ a b (hx.below hb))
  have NO0 := Lib.hid (fun (wr : World) (hb : Below w.heap.size w wr) => rnone_any wr _ (hx.below hb))
  have KD0 := Lib.hid (fun (wr : World) (hb : Below w.heap.size w wr) (i : Nat) (hi : i < ks.length) => rkid_any wr v ns _ i (hN.below hb) (hx.below hb) hk hi)
  have BL0 := Lib.hid (fun (wr : World) (hb : Below w.heap.size w wr) (f : Nat) (a b : Int) (hf : f ≤ ks.length) (hf1 : f ≤ 1) => rblocks_any wr v ns _ f a b (hN.below hb) (hx.below hb) hk hf hf1)
  have FR0 := Lib.hid (fun (hl : nums.length = 3) (wr : World) (hb : Below w.heap.size w wr) => rfrac_any wr _ (hx.below hb) hl)
  obtain ⟨A1, c1, rfl, _⟩ := h1
  obtain ⟨A2, c2, rfl, _, _, R2'⟩ := h2
  have KL := Lib.hid h3.len
  obtain ⟨A3, c3, rfl, _⟩ := h3
  have R2 := Lib.hid R2'
  unfold ndV at WR NO0 KD0 BL0 FR0 ⊢
  dsimp only at WR NO0 KD0 BL0 FR0 ⊢
  have STB := Lib.hid (show Stb (fun w' => (w'.cell? ⟨w.heap.size, 0, none⟩ = some (.int .i64 7) ∧ w'.cell? ⟨w.heap.size, 1, none⟩ = some (.slice A1 ws.length c1) ∧ w'.cell? ⟨w.heap.size, 2, none⟩ = some (.slice A2 nums.length c2) ∧ w'.cell? ⟨w.heap.size, 3, none⟩ = some (.slice A3 ks.length c3) ∧ w'.cell? ⟨w.heap.size, 4, none⟩ = some (.int .i64 ps)) ∧ Below w.heap.size w w') from stb_and (stb_and (stb_cell _ _) (stb_and (stb_cell _ _) (stb_and (stb_cell _ _) (stb_and (stb_cell _ _) (stb_cell _ _))))) (stb_below w))
  have HS1 : ((w.alloc (.cells #[.int .i64 7, .slice A1 ws.length c1, .slice A2 nums.length c2, .slice A3 ks.length c3, .int .i64 ps] 30)).cell? ⟨w.heap.size, 0, none⟩ = some (.int .i64 7) ∧ (w.alloc (.cells #[.int .i64 7, .slice A1 ws.length c1, .slice A2 nums.length c2, .slice A3 ks.length c3, .int .i64 ps] 30)).cell? ⟨w.heap.size, 1, none⟩ = some (.slice A1 ws.length c1) ∧ (w.alloc (.cells #[.int .i64 7, .slice A1 ws.length c1, .slice A2 nums.length c2, .slice A3 ks.length c3, .int .i64 ps] 30)).cell? ⟨w.heap.size, 2, none⟩ = some (.slice A2 nums.length c2) ∧ (w.alloc (.cells #[.int .i64 7, .slice A1 ws.length c1, .slice A2 nums.length c2, .slice A3 ks.length c3, .int .i64 ps] 30)).cell? ⟨w.heap.size, 3, none⟩ = some (.slice A3 ks.length c3) ∧ (w.alloc (.cells #[.int .i64 7, .slice A1 ws.length c1, .slice A2 nums.length c2, .slice A3 ks.length c3, .int .i64 ps] 30)).cell? ⟨w.heap.size, 4, none⟩ = some (.int .i64 ps)) ∧ Below w.heap.size w (w.alloc (.cells #[.int .i64 7, .slice A1 ws.length c1, .slice A2 nums.length c2, .slice A3 ks.length c3, .int .i64 ps] 30)) := ⟨⟨(Blk.start w _ _).cell 0, (Blk.start w _ _).cell 1, (Blk.start w _ _).cell 2, (Blk.start w _ _).cell 3, (Blk.start w _ _).cell 4⟩, below_alloc1 w _⟩
  have K1 := Lib.hid HS1
  obtain ⟨⟨g0, g1, g2, g3, g4⟩, _⟩ := HS1
  clear R2' hx hN hk
  go_enter Tryd.func29, Tryd.ntmps29
  go_upto_region 1 with fail
  generalize (w.alloc (.cells #[.int .i64 7, .slice A1 ws.length c1, .slice A2 nums.length c2, .slice A3 ks.length c3, .int .i64 ps] 30)) = w1 at *
  go_wp2_with fail
  go_loopg [6] (ks.length) (fun gk vi wr => ∃ i : Nat, vi = .int .i64 i ∧ i ≤ ks.length ∧ gk = ks.length - i ∧ allB ns (ks.take i) stmtB = true ∧ (wr.cell? ⟨w.heap.size, 0, none⟩ = some (.int .i64 7) ∧ wr.cell? ⟨w.heap.size, 1, none⟩ = some (.slice A1 ws.length c1) ∧ wr.cell? ⟨w.heap.size, 2, none⟩ = some (.slice A2 nums.length c2) ∧ wr.cell? ⟨w.heap.size, 3, none⟩ = some (.slice A3 ks.length c3) ∧ wr.cell? ⟨w.heap.size, 4, none⟩ = some (.int .i64 ps)) ∧ Below w.heap.size w wr)
  case atStart => exact ⟨0, rfl, Nat.zero_le _, rfl, rfl, K1.out⟩
  case round =>
    clear K1 g0 g1 g2 g3 g4
    obtain ⟨i, rfl, hi, hgk, hall, hS⟩ := hrel
    have K1 := Lib.hid hS
    obtain ⟨⟨g0, g1, g2, g3, g4⟩, _⟩ := hS
    by_cases hin : i = ks.length
    · have e : ks.take i = ks := by rw [hin]; exact List.take_length
      rw [e] at hall
      have HA := Lib.hid hall
      have ti : ¬ (i : Int) < (ks.length : Int) := by omega
      clear e hall hgk
      have NF := Lib.hid (show ∀ wr : World, Below w.heap.size w wr → Calls Tryd.prog 26 #[.agg #[.int .i64 7, .slice A1 ws.length c1, .slice A2 nums.length c2, .slice A3 ks.length c3, .int .i64 ps]] wr fun e w' => e = .returned (.bool (noneR ⟨7, ws, nums, ks, ps⟩)) ∧ Below wr.heap.size wr w' from fun wr hb => NO0.out wr hb)
      generalize hqN : noneR ⟨7, ws, nums, ks, ps⟩ = N at NF
      have QN := Lib.hid hqN
      clear hqN
      cases N
      · go_wp2_with (first
          | (go_at_call 26; (with_reducible refine (NF.out wr (bl_of K1.out)).mono ?_); rintro e2 w2 ⟨rfl, hb2⟩; have K2 := Lib.hid (STB.out _ _ hb2 K1.out); obtain ⟨⟨k20, k21, k22, k23, k24⟩, _⟩ := id K2.out; clear hb2))
        go_ret
        exact ⟨ok_no, bl_of K2.out⟩
      · have WF := Lib.hid (show ∀ wr : World, Below w.heap.size w wr → Calls Tryd.prog 25 #[.agg #[.int .i64 7, .slice A1 ws.length c1, .slice A2 nums.length c2, .slice A3 ks.length c3, .int .i64 ps], .int .i64 0, .int .i64 0] wr fun e w' => e = .returned (.bool (wordsR ⟨7, ws, nums, ks, ps⟩ 0 0)) ∧ Below wr.heap.size wr w' from fun wr hb => WR.out wr hb 0 0)
        generalize hqW : wordsR ⟨7, ws, nums, ks, ps⟩ 0 0 = W at WF
        have QW := Lib.hid hqW
        clear hqW
        cases W
        · go_wp2_with (first
            | (go_at_call 26; (with_reducible refine (NF.out wr (bl_of K1.out)).mono ?_); rintro e2 w2 ⟨rfl, hb2⟩; have K2 := Lib.hid (STB.out _ _ hb2 K1.out); obtain ⟨⟨k20, k21, k22, k23, k24⟩, _⟩ := id K2.out; clear hb2)
            | (go_at_call 25; (with_reducible refine (WF.out w2 (bl_of K2.out)).mono ?_); rintro e3 w3 ⟨rfl, hb3⟩; have K3 := Lib.hid (STB.out _ _ hb3 K2.out); obtain ⟨⟨k30, k31, k32, k33, k34⟩, _⟩ := id K3.out; clear hb3))
          go_ret
          exact ⟨ok_no, bl_of K3.out⟩
        · go_wp2_with (first
            | (go_at_call 26; (with_reducible refine (NF.out wr (bl_of K1.out)).mono ?_); rintro e2 w2 ⟨rfl, hb2⟩; have K2 := Lib.hid (STB.out _ _ hb2 K1.out); obtain ⟨⟨k20, k21, k22, k23, k24⟩, _⟩ := id K2.out; clear hb2)
            | (go_at_call 25; (with_reducible refine (WF.out w2 (bl_of K2.out)).mono ?_); rintro e3 w3 ⟨rfl, hb3⟩; have K3 := Lib.hid (STB.out _ _ hb3 K2.out); obtain ⟨⟨k30, k31, k32, k33, k34⟩, _⟩ := id K3.out; clear hb3))
          go_ret
          exact ⟨ok_yes (val_block HA.out QN.out QW.out), bl_of K3.out⟩
    · have hlt : i < ks.length := by omega
      obtain ⟨z, hz⟩ : ∃ z, ks[i]? = some z := ⟨_, List.getElem?_eq_getElem hlt⟩
      have nxt := all_snoc (f := fun k => stmtB (kindAt ns k)) hz hall
      have kk : kdR ns ⟨7, ws, nums, ks, ps⟩ i = kindAt ns z := by unfold kdR; dsimp only; rw [atI_of hz]
      have KF := Lib.hid (fun (wz : World) (hz : Below w.heap.size w wz) => KD0.out wz hz i hlt)
      rw [kk] at KF
      have ti : (i : Int) < (ks.length : Int) := by omega
      have ti2 : (0 : Int) ≤ (i : Int) := by omega
      have wk : IntKind.i64.wrap ((i : Int) + 1) = (i : Int) + 1 := IntWalk.i64_in _ (by have := KL.out; unfold maxLen at this; omega)
      have HI := Lib.hid (And.intro hlt (And.intro hgk nxt))
      clear hgk nxt hz hall kk hin hlt hi
      generalize kindAt ns z = Z at *
      have SF := Lib.hid (fun wr => rstat_any wr Z)
      generalize hq : stmtB Z = X at SF
      have TZ := Lib.hid hq
      clear hq
      cases X
      · go_wp2_with (first
          | (go_at_call 28; (with_reducible refine (KF.out wr (bl_of K1.out)).mono ?_); rintro e2 w2 ⟨rfl, hb2⟩; have K2 := Lib.hid (STB.out _ _ hb2 K1.out); obtain ⟨⟨k20, k21, k22, k23, k24⟩, _⟩ := id K2.out; clear hb2)
          | (go_at_call 43; (with_reducible refine (SF.out w2).mono ?_); rintro _ _ ⟨rfl, rfl⟩))
        go_ret
        exact ⟨ok_no, bl_of K2.out⟩
      · go_wp2_with (first
          | (go_at_call 28; (with_reducible refine (KF.out wr (bl_of K1.out)).mono ?_); rintro e2 w2 ⟨rfl, hb2⟩; have K2 := Lib.hid (STB.out _ _ hb2 K1.out); obtain ⟨⟨k20, k21, k22, k23, k24⟩, _⟩ := id K2.out; clear hb2)
          | (go_at_call 43; (with_reducible refine (SF.out w2).mono ?_); rintro _ _ ⟨rfl, rfl⟩))
        go_roundg (ks.length - (i + 1))
        case measure => have := HI.out; omega
        case rel => exact ⟨i + 1, by push_cast; rfl, by have := HI.out; omega, rfl, HI.out.2.2.trans (TZ.out), K2.out⟩

set_option maxRecDepth 10000 in
set_option maxHeartbeats 8000000 in
theorem rinner_do (w : World) (v : Value) (ns : List Nd) (va vb vc : Value) (ws : List (List UInt8)) (nums ks : List Int) (ps : Int) (hN : NodesAt w v ns) (hx : NdAt w ((va, vb, vc), ⟨11, ws, nums, ks, ps⟩)) (hk : KidsIn ks ns.length) :
    Calls Tryd.prog 29 #[v, ndV ((va, vb, vc), ⟨11, ws, nums, ks, ps⟩)] w fun e w' => OkB (validB ns ⟨11, ws, nums, ks, ps⟩ = true) e ∧ Below w.heap.size w w' := by
  obtain ⟨h1, h2, h3⟩ := id hx
  dsimp only at h1 h2 h3
  have WR := Lib.hid (fun (wr : World) (hb : Below w.heap.size w wr) (a b : Int) => rwords_any wr _ a b (hx.below hb))
  have NO0 := Lib.hid (fun (wr : World) (hb : Below w.heap.size w wr) => rnone_any wr _ (hx.below hb))
  have KD0 := Lib.hid (fun (wr : World) (hb : Below w.heap.size w wr) (i : Nat) (hi : i < ks.length) => rkid_any wr v ns _ i (hN.below hb) (hx.below hb) hk hi)
  have BL0 := Lib.hid (fun (wr : World) (hb : Below w.heap.size w wr) (f : Nat) (a b : Int) (hf : f ≤ ks.length) (hf1 : f ≤ 1) => rblocks_any wr v ns _ f a b (hN.below hb) (hx.below hb) hk hf hf1)
  have FR0 := Lib.hid (fun (hl : nums.length = 3) (wr : World) (hb : Below w.heap.size w wr) => rfrac_any wr _ (hx.below hb) hl)
  obtain ⟨A1, c1, rfl, _⟩ := h1
  obtain ⟨A2, c2, rfl, _, _, R2'⟩ := h2
  have KL := Lib.hid h3.len
  obtain ⟨A3, c3, rfl, _⟩ := h3
  have R2 := Lib.hid R2'
  unfold ndV at WR NO0 KD0 BL0 FR0 ⊢
  dsimp only at WR NO0 KD0 BL0 FR0 ⊢
  have STB := Lib.hid (show Stb (fun w' => (w'.cell? ⟨w.heap.size, 0, none⟩ = some (.int .i64 11) ∧ w'.cell? ⟨w.heap.size, 1, none⟩ = some (.slice A1 ws.length c1) ∧ w'.cell? ⟨w.heap.size, 2, none⟩ = some (.slice A2 nums.length c2) ∧ w'.cell? ⟨w.heap.size, 3, none⟩ = some (.slice A3 ks.length c3) ∧ w'.cell? ⟨w.heap.size, 4, none⟩ = some (.int .i64 ps)) ∧ Below w.heap.size w w') from stb_and (stb_and (stb_cell _ _) (stb_and (stb_cell _ _) (stb_and (stb_cell _ _) (stb_and (stb_cell _ _) (stb_cell _ _))))) (stb_below w))
  have HS1 : ((w.alloc (.cells #[.int .i64 11, .slice A1 ws.length c1, .slice A2 nums.length c2, .slice A3 ks.length c3, .int .i64 ps] 30)).cell? ⟨w.heap.size, 0, none⟩ = some (.int .i64 11) ∧ (w.alloc (.cells #[.int .i64 11, .slice A1 ws.length c1, .slice A2 nums.length c2, .slice A3 ks.length c3, .int .i64 ps] 30)).cell? ⟨w.heap.size, 1, none⟩ = some (.slice A1 ws.length c1) ∧ (w.alloc (.cells #[.int .i64 11, .slice A1 ws.length c1, .slice A2 nums.length c2, .slice A3 ks.length c3, .int .i64 ps] 30)).cell? ⟨w.heap.size, 2, none⟩ = some (.slice A2 nums.length c2) ∧ (w.alloc (.cells #[.int .i64 11, .slice A1 ws.length c1, .slice A2 nums.length c2, .slice A3 ks.length c3, .int .i64 ps] 30)).cell? ⟨w.heap.size, 3, none⟩ = some (.slice A3 ks.length c3) ∧ (w.alloc (.cells #[.int .i64 11, .slice A1 ws.length c1, .slice A2 nums.length c2, .slice A3 ks.length c3, .int .i64 ps] 30)).cell? ⟨w.heap.size, 4, none⟩ = some (.int .i64 ps)) ∧ Below w.heap.size w (w.alloc (.cells #[.int .i64 11, .slice A1 ws.length c1, .slice A2 nums.length c2, .slice A3 ks.length c3, .int .i64 ps] 30)) := ⟨⟨(Blk.start w _ _).cell 0, (Blk.start w _ _).cell 1, (Blk.start w _ _).cell 2, (Blk.start w _ _).cell 3, (Blk.start w _ _).cell 4⟩, below_alloc1 w _⟩
  have K1 := Lib.hid HS1
  obtain ⟨⟨g0, g1, g2, g3, g4⟩, _⟩ := HS1
  clear R2' hx hN hk
  go_enter Tryd.func29, Tryd.ntmps29
  go_upto_region 1 with fail
  generalize (w.alloc (.cells #[.int .i64 11, .slice A1 ws.length c1, .slice A2 nums.length c2, .slice A3 ks.length c3, .int .i64 ps] 30)) = w1 at *
  go_wp2_with fail
  go_loopg [6] (ks.length) (fun gk vi wr => ∃ i : Nat, vi = .int .i64 i ∧ i ≤ ks.length ∧ gk = ks.length - i ∧ allB ns (ks.take i) (isB [12]) = true ∧ (wr.cell? ⟨w.heap.size, 0, none⟩ = some (.int .i64 11) ∧ wr.cell? ⟨w.heap.size, 1, none⟩ = some (.slice A1 ws.length c1) ∧ wr.cell? ⟨w.heap.size, 2, none⟩ = some (.slice A2 nums.length c2) ∧ wr.cell? ⟨w.heap.size, 3, none⟩ = some (.slice A3 ks.length c3) ∧ wr.cell? ⟨w.heap.size, 4, none⟩ = some (.int .i64 ps)) ∧ Below w.heap.size w wr)
  case atStart => exact ⟨0, rfl, Nat.zero_le _, rfl, rfl, K1.out⟩
  case round =>
    clear K1 g0 g1 g2 g3 g4
    obtain ⟨i, rfl, hi, hgk, hall, hS⟩ := hrel
    have K1 := Lib.hid hS
    obtain ⟨⟨g0, g1, g2, g3, g4⟩, _⟩ := hS
    by_cases hin : i = ks.length
    · have e : ks.take i = ks := by rw [hin]; exact List.take_length
      rw [e] at hall
      have HA := Lib.hid hall
      have ti : ¬ (i : Int) < (ks.length : Int) := by omega
      clear e hall hgk
      have NF := Lib.hid (show ∀ wr : World, Below w.heap.size w wr → Calls Tryd.prog 26 #[.agg #[.int .i64 11, .slice A1 ws.length c1, .slice A2 nums.length c2, .slice A3 ks.length c3, .int .i64 ps]] wr fun e w' => e = .returned (.bool (noneR ⟨11, ws, nums, ks, ps⟩)) ∧ Below wr.heap.size wr w' from fun wr hb => NO0.out wr hb)
      generalize hqN : noneR ⟨11, ws, nums, ks, ps⟩ = N at NF
      have QN := Lib.hid hqN
      clear hqN
      cases N
      · go_wp2_with (first
          | (go_at_call 26; (with_reducible refine (NF.out wr (bl_of K1.out)).mono ?_); rintro e2 w2 ⟨rfl, hb2⟩; have K2 := Lib.hid (STB.out _ _ hb2 K1.out); obtain ⟨⟨k20, k21, k22, k23, k24⟩, _⟩ := id K2.out; clear hb2))
        go_ret
        exact ⟨ok_no, bl_of K2.out⟩
      · have WF := Lib.hid (show ∀ wr : World, Below w.heap.size w wr → Calls Tryd.prog 25 #[.agg #[.int .i64 11, .slice A1 ws.length c1, .slice A2 nums.length c2, .slice A3 ks.length c3, .int .i64 ps], .int .i64 2, .int .i64 2] wr fun e w' => e = .returned (.bool (wordsR ⟨11, ws, nums, ks, ps⟩ 2 2)) ∧ Below wr.heap.size wr w' from fun wr hb => WR.out wr hb 2 2)
        generalize hqW : wordsR ⟨11, ws, nums, ks, ps⟩ 2 2 = W at WF
        have QW := Lib.hid hqW
        clear hqW
        cases W
        · go_wp2_with (first
            | (go_at_call 26; (with_reducible refine (NF.out wr (bl_of K1.out)).mono ?_); rintro e2 w2 ⟨rfl, hb2⟩; have K2 := Lib.hid (STB.out _ _ hb2 K1.out); obtain ⟨⟨k20, k21, k22, k23, k24⟩, _⟩ := id K2.out; clear hb2)
            | (go_at_call 25; (with_reducible refine (WF.out w2 (bl_of K2.out)).mono ?_); rintro e3 w3 ⟨rfl, hb3⟩; have K3 := Lib.hid (STB.out _ _ hb3 K2.out); obtain ⟨⟨k30, k31, k32, k33, k34⟩, _⟩ := id K3.out; clear hb3))
          go_ret
          exact ⟨ok_no, bl_of K3.out⟩
        · go_wp2_with (first
            | (go_at_call 26; (with_reducible refine (NF.out wr (bl_of K1.out)).mono ?_); rintro e2 w2 ⟨rfl, hb2⟩; have K2 := Lib.hid (STB.out _ _ hb2 K1.out); obtain ⟨⟨k20, k21, k22, k23, k24⟩, _⟩ := id K2.out; clear hb2)
            | (go_at_call 25; (with_reducible refine (WF.out w2 (bl_of K2.out)).mono ?_); rintro e3 w3 ⟨rfl, hb3⟩; have K3 := Lib.hid (STB.out _ _ hb3 K2.out); obtain ⟨⟨k30, k31, k32, k33, k34⟩, _⟩ := id K3.out; clear hb3))
          go_ret
          exact ⟨ok_yes (val_do HA.out QN.out QW.out), bl_of K3.out⟩
    · have hlt : i < ks.length := by omega
      obtain ⟨z, hz⟩ : ∃ z, ks[i]? = some z := ⟨_, List.getElem?_eq_getElem hlt⟩
      have nxt := all_snoc (f := fun k => (isB [12]) (kindAt ns k)) hz hall
      have kk : kdR ns ⟨11, ws, nums, ks, ps⟩ i = kindAt ns z := by unfold kdR; dsimp only; rw [atI_of hz]
      have KF := Lib.hid (fun (wz : World) (hz : Below w.heap.size w wz) => KD0.out wz hz i hlt)
      rw [kk] at KF
      have ti : (i : Int) < (ks.length : Int) := by omega
      have ti2 : (0 : Int) ≤ (i : Int) := by omega
      have wk : IntKind.i64.wrap ((i : Int) + 1) = (i : Int) + 1 := IntWalk.i64_in _ (by have := KL.out; unfold maxLen at this; omega)
      have HI := Lib.hid (And.intro hlt (And.intro hgk nxt))
      clear hgk nxt hz hall kk hin hlt hi
      generalize kindAt ns z = Z at *
      cases z12 : (Z == 12)
      · have u12 : (Z != 12) = true := by rw [bne, z12]; rfl
        go_wp2_with (first
          | (go_at_call 28; (with_reducible refine (KF.out wr (bl_of K1.out)).mono ?_); rintro e2 w2 ⟨rfl, hb2⟩; have K2 := Lib.hid (STB.out _ _ hb2 K1.out); obtain ⟨⟨k20, k21, k22, k23, k24⟩, _⟩ := id K2.out; clear hb2))
        go_ret
        exact ⟨ok_no, bl_of K2.out⟩
      · have u12 : (Z != 12) = false := by rw [bne, z12]; rfl
        have TZ := Lib.hid (show isB [12] Z = true from by unfold isB; rw [List.contains_cons, z12]; rfl)
        go_wp2_with (first
          | (go_at_call 28; (with_reducible refine (KF.out wr (bl_of K1.out)).mono ?_); rintro e2 w2 ⟨rfl, hb2⟩; have K2 := Lib.hid (STB.out _ _ hb2 K1.out); obtain ⟨⟨k20, k21, k22, k23, k24⟩, _⟩ := id K2.out; clear hb2))
        go_roundg (ks.length - (i + 1))
        case measure => have := HI.out; omega
        case rel => exact ⟨i + 1, by push_cast; rfl, by have := HI.out; omega, rfl, HI.out.2.2.trans (TZ.out), K2.out⟩
end Go.Proofs.YtabnjiijgbigbaaDoor

namespace Go.Proofs.YtabnjiijgbigbaaDoor
open Go.RowKit

set_option maxRecDepth 10000 in
set_option maxHeartbeats 8000000 in
theorem rnode_handle (w : World) (v : Value) (ns : List Nd) (va vb vc : Value) (ws : List (List UInt8)) (nums ks : List Int) (ps : Int) (hN : NodesAt w v ns) (hx : NdAt w ((va, vb, vc), ⟨15, ws, nums, ks, ps⟩)) (hk : KidsIn ks ns.length) :
    Calls Tryd.prog 14 #[v, ndV ((va, vb, vc), ⟨15, ws, nums, ks, ps⟩)] w fun e w' => OkB (validB ns ⟨15, ws, nums, ks, ps⟩ = true) e ∧ Below w.heap.size w w' := by
  obtain ⟨h1, h2, h3⟩ := id hx
  dsimp only at h1 h2 h3
  have WR := Lib.hid (fun (wr : World) (hb : Below w.heap.size w wr) (a b : Int) => rwords_any wr _ a b (hx.below hb))
  have NO0 := Lib.hid (fun (wr : World) (hb : Below w.heap.size w wr) => rnone_any wr _ (hx.below hb))
  have KD0 := Lib.hid (fun (wr : World) (hb : Below w.heap.size w wr) (i : Nat) (hi : i < ks.length) => rkid_any wr v ns _ i (hN.below hb) (hx.below hb) hk hi)
  have BL0 := Lib.hid (fun (wr : World) (hb : Below w.heap.size w wr) (f : Nat) (a b : Int) (hf : f ≤ ks.length) (hf1 : f ≤ 1) => rblocks_any wr v ns _ f a b (hN.below hb) (hx.below hb) hk hf hf1)
  have FR0 := Lib.hid (fun (hl : nums.length = 3) (wr : World) (hb : Below w.heap.size w wr) => rfrac_any wr _ (hx.below hb) hl)
  obtain ⟨A1, c1, rfl, _⟩ := h1
  obtain ⟨A2, c2, rfl, _, _, R2'⟩ := h2
  have KL := Lib.hid h3.len
  obtain ⟨A3, c3, rfl, _⟩ := h3
  have R2 := Lib.hid R2'
  unfold ndV at WR NO0 KD0 BL0 FR0 ⊢
  dsimp only at WR NO0 KD0 BL0 FR0 ⊢
  have STB := Lib.hid (show Stb (fun w' => (w'.cell? ⟨w.heap.size, 0, none⟩ = some (.int .i64 15) ∧ w'.cell? ⟨w.heap.size, 1, none⟩ = some (.slice A1 ws.length c1) ∧ w'.cell? ⟨w.heap.size, 2, none⟩ = some (.slice A2 nums.length c2) ∧ w'.cell? ⟨w.heap.size, 3, none⟩ = some (.slice A3 ks.length c3) ∧ w'.cell? ⟨w.heap.size, 4, none⟩ = some (.int .i64 ps)) ∧ Below w.heap.size w w') from stb_and (stb_and (stb_cell _ _) (stb_and (stb_cell _ _) (stb_and (stb_cell _ _) (stb_and (stb_cell _ _) (stb_cell _ _))))) (stb_below w))
  have HS1 : ((w.alloc (.cells #[.int .i64 15, .slice A1 ws.length c1, .slice A2 nums.length c2, .slice A3 ks.length c3, .int .i64 ps] 30)).cell? ⟨w.heap.size, 0, none⟩ = some (.int .i64 15) ∧ (w.alloc (.cells #[.int .i64 15, .slice A1 ws.length c1, .slice A2 nums.length c2, .slice A3 ks.length c3, .int .i64 ps] 30)).cell? ⟨w.heap.size, 1, none⟩ = some (.slice A1 ws.length c1) ∧ (w.alloc (.cells #[.int .i64 15, .slice A1 ws.length c1, .slice A2 nums.length c2, .slice A3 ks.length c3, .int .i64 ps] 30)).cell? ⟨w.heap.size, 2, none⟩ = some (.slice A2 nums.length c2) ∧ (w.alloc (.cells #[.int .i64 15, .slice A1 ws.length c1, .slice A2 nums.length c2, .slice A3 ks.length c3, .int .i64 ps] 30)).cell? ⟨w.heap.size, 3, none⟩ = some (.slice A3 ks.length c3) ∧ (w.alloc (.cells #[.int .i64 15, .slice A1 ws.length c1, .slice A2 nums.length c2, .slice A3 ks.length c3, .int .i64 ps] 30)).cell? ⟨w.heap.size, 4, none⟩ = some (.int .i64 ps)) ∧ Below w.heap.size w (w.alloc (.cells #[.int .i64 15, .slice A1 ws.length c1, .slice A2 nums.length c2, .slice A3 ks.length c3, .int .i64 ps] 30)) := ⟨⟨(Blk.start w _ _).cell 0, (Blk.start w _ _).cell 1, (Blk.start w _ _).cell 2, (Blk.start w _ _).cell 3, (Blk.start w _ _).cell 4⟩, below_alloc1 w _⟩
  have K1 := Lib.hid HS1
  obtain ⟨⟨g0, g1, g2, g3, g4⟩, _⟩ := HS1
  clear R2' hx hN hk
  have WF := Lib.hid (show ∀ wr : World, Below w.heap.size w wr → Calls Tryd.prog 25 #[.agg #[.int .i64 15, .slice A1 ws.length c1, .slice A2 nums.length c2, .slice A3 ks.length c3, .int .i64 ps], .int .i64 1, .int .i64 1] wr fun e w' => e = .returned (.bool (wordsR ⟨15, ws, nums, ks, ps⟩ 1 1)) ∧ Below wr.heap.size wr w' from fun wr hb => WR.out wr hb 1 1)
  generalize hqW : wordsR ⟨15, ws, nums, ks, ps⟩ 1 1 = W at WF
  have QW := Lib.hid hqW
  clear hqW
  cases W
  · go_enter Tryd.func14, Tryd.ntmps14
    go_upto_region 1 with fail
    generalize (w.alloc (.cells #[.int .i64 15, .slice A1 ws.length c1, .slice A2 nums.length c2, .slice A3 ks.length c3, .int .i64 ps] 30)) = w1 at *
    go_wp2_with (first
      | (go_at_call 25; (with_reducible refine (WF.out w1 (bl_of K1.out)).mono ?_); rintro e2 w2 ⟨rfl, hb2⟩; have K2 := Lib.hid (STB.out _ _ hb2 K1.out); obtain ⟨⟨k20, k21, k22, k23, k24⟩, _⟩ := id K2.out; clear hb2))
    go_ret
    exact ⟨ok_no, bl_of K2.out⟩
  · have NF := Lib.hid (show ∀ wr : World, Below w.heap.size w wr → Calls Tryd.prog 26 #[.agg #[.int .i64 15, .slice A1 ws.length c1, .slice A2 nums.length c2, .slice A3 ks.length c3, .int .i64 ps]] wr fun e w' => e = .returned (.bool (noneR ⟨15, ws, nums, ks, ps⟩)) ∧ Below wr.heap.size wr w' from fun wr hb => NO0.out wr hb)
    generalize hqN : noneR ⟨15, ws, nums, ks, ps⟩ = N at NF
    have QN := Lib.hid hqN
    clear hqN
    cases N
    · go_enter Tryd.func14, Tryd.ntmps14
      go_upto_region 1 with fail
      generalize (w.alloc (.cells #[.int .i64 15, .slice A1 ws.length c1, .slice A2 nums.length c2, .slice A3 ks.length c3, .int .i64 ps] 30)) = w1 at *
      go_wp2_with (first
        | (go_at_call 25; (with_reducible refine (WF.out w1 (bl_of K1.out)).mono ?_); rintro e2 w2 ⟨rfl, hb2⟩; have K2 := Lib.hid (STB.out _ _ hb2 K1.out); obtain ⟨⟨k20, k21, k22, k23, k24⟩, _⟩ := id K2.out; clear hb2)
        | (go_at_call 26; (with_reducible refine (NF.out w2 (bl_of K2.out)).mono ?_); rintro e3 w3 ⟨rfl, hb3⟩; have K3 := Lib.hid (STB.out _ _ hb3 K2.out); obtain ⟨⟨k30, k31, k32, k33, k34⟩, _⟩ := id K3.out; clear hb3))
      go_ret
      exact ⟨ok_no, bl_of K3.out⟩
    · by_cases qk : ks.length = 0
      · have tk : ((ks.length : Int) == 0) = true := by rw [beq_iff_eq]; omega
        have QK := Lib.hid qk
        clear qk
        go_enter Tryd.func14, Tryd.ntmps14
        go_upto_region 1 with fail
        generalize (w.alloc (.cells #[.int .i64 15, .slice A1 ws.length c1, .slice A2 nums.length c2, .slice A3 ks.length c3, .int .i64 ps] 30)) = w1 at *
        go_wp2_with (first
          | (go_at_call 25; (with_reducible refine (WF.out w1 (bl_of K1.out)).mono ?_); rintro e2 w2 ⟨rfl, hb2⟩; have K2 := Lib.hid (STB.out _ _ hb2 K1.out); obtain ⟨⟨k20, k21, k22, k23, k24⟩, _⟩ := id K2.out; clear hb2)
          | (go_at_call 26; (with_reducible refine (NF.out w2 (bl_of K2.out)).mono ?_); rintro e3 w3 ⟨rfl, hb3⟩; have K3 := Lib.hid (STB.out _ _ hb3 K2.out); obtain ⟨⟨k30, k31, k32, k33, k34⟩, _⟩ := id K3.out; clear hb3))
        go_ret
        exact ⟨ok_yes (val_handle QW.out QN.out QK.out), bl_of K3.out⟩
      · have tk : ((ks.length : Int) == 0) = false := by rw [beq_eq_false_iff_ne]; omega
        go_enter Tryd.func14, Tryd.ntmps14
        go_upto_region 1 with fail
        generalize (w.alloc (.cells #[.int .i64 15, .slice A1 ws.length c1, .slice A2 nums.length c2, .slice A3 ks.length c3, .int .i64 ps] 30)) = w1 at *
        go_wp2_with (first
          | (go_at_call 25; (with_reducible refine (WF.out w1 (bl_of K1.out)).mono ?_); rintro e2 w2 ⟨rfl, hb2⟩; have K2 := Lib.hid (STB.out _ _ hb2 K1.out); obtain ⟨⟨k20, k21, k22, k23, k24⟩, _⟩ := id K2.out; clear hb2)
          | (go_at_call 26; (with_reducible refine (NF.out w2 (bl_of K2.out)).mono ?_); rintro e3 w3 ⟨rfl, hb3⟩; have K3 := Lib.hid (STB.out _ _ hb3 K2.out); obtain ⟨⟨k30, k31, k32, k33, k34⟩, _⟩ := id K3.out; clear hb3))
        go_ret
        exact ⟨ok_no, bl_of K3.out⟩

set_option maxRecDepth 10000 in
set_option maxHeartbeats 8000000 in
theorem rnode_var (w : World) (v : Value) (ns : List Nd) (va vb vc : Value) (ws : List (List UInt8)) (nums ks : List Int) (ps : Int) (hN : NodesAt w v ns) (hx : NdAt w ((va, vb, vc), ⟨21, ws, nums, ks, ps⟩)) (hk : KidsIn ks ns.length) :
    Calls Tryd.prog 14 #[v, ndV ((va, vb, vc), ⟨21, ws, nums, ks, ps⟩)] w fun e w' => OkB (validB ns ⟨21, ws, nums, ks, ps⟩ = true) e ∧ Below w.heap.size w w' := by
  obtain ⟨h1, h2, h3⟩ := id hx
  dsimp only at h1 h2 h3
  have WR := Lib.hid (fun (wr : World) (hb : Below w.heap.size w wr) (a b : Int) => rwords_any wr _ a b (hx.below hb))
  have NO0 := Lib.hid (fun (wr : World) (hb : Below w.heap.size w wr) => rnone_any wr _ (hx.below hb))
  have KD0 := Lib.hid (fun (wr : World) (hb : Below w.heap.size w wr) (i : Nat) (hi : i < ks.length) => rkid_any wr v ns _ i (hN.below hb) (hx.below hb) hk hi)
  have BL0 := Lib.hid (fun (wr : World) (hb : Below w.heap.size w wr) (f : Nat) (a b : Int) (hf : f ≤ ks.length) (hf1 : f ≤ 1) => rblocks_any wr v ns _ f a b (hN.below hb) (hx.below hb) hk hf hf1)
  have FR0 := Lib.hid (fun (hl : nums.length = 3) (wr : World) (hb : Below w.heap.size w wr) => rfrac_any wr _ (hx.below hb) hl)
  obtain ⟨A1, c1, rfl, _⟩ := h1
  obtain ⟨A2, c2, rfl, _, _, R2'⟩ := h2
  have KL := Lib.hid h3.len
  obtain ⟨A3, c3, rfl, _⟩ := h3
  have R2 := Lib.hid R2'
  unfold ndV at WR NO0 KD0 BL0 FR0 ⊢
  dsimp only at WR NO0 KD0 BL0 FR0 ⊢
  have STB := Lib.hid (show Stb (fun w' => (w'.cell? ⟨w.heap.size, 0, none⟩ = some (.int .i64 21) ∧ w'.cell? ⟨w.heap.size, 1, none⟩ = some (.slice A1 ws.length c1) ∧ w'.cell? ⟨w.heap.size, 2, none⟩ = some (.slice A2 nums.length c2) ∧ w'.cell? ⟨w.heap.size, 3, none⟩ = some (.slice A3 ks.length c3) ∧ w'.cell? ⟨w.heap.size, 4, none⟩ = some (.int .i64 ps)) ∧ Below w.heap.size w w') from stb_and (stb_and (stb_cell _ _) (stb_and (stb_cell _ _) (stb_and (stb_cell _ _) (stb_and (stb_cell _ _) (stb_cell _ _))))) (stb_below w))
  have HS1 : ((w.alloc (.cells #[.int .i64 21, .slice A1 ws.length c1, .slice A2 nums.length c2, .slice A3 ks.length c3, .int .i64 ps] 30)).cell? ⟨w.heap.size, 0, none⟩ = some (.int .i64 21) ∧ (w.alloc (.cells #[.int .i64 21, .slice A1 ws.length c1, .slice A2 nums.length c2, .slice A3 ks.length c3, .int .i64 ps] 30)).cell? ⟨w.heap.size, 1, none⟩ = some (.slice A1 ws.length c1) ∧ (w.alloc (.cells #[.int .i64 21, .slice A1 ws.length c1, .slice A2 nums.length c2, .slice A3 ks.length c3, .int .i64 ps] 30)).cell? ⟨w.heap.size, 2, none⟩ = some (.slice A2 nums.length c2) ∧ (w.alloc (.cells #[.int .i64 21, .slice A1 ws.length c1, .slice A2 nums.length c2, .slice A3 ks.length c3, .int .i64 ps] 30)).cell? ⟨w.heap.size, 3, none⟩ = some (.slice A3 ks.length c3) ∧ (w.alloc (.cells #[.int .i64 21, .slice A1 ws.length c1, .slice A2 nums.length c2, .slice A3 ks.length c3, .int .i64 ps] 30)).cell? ⟨w.heap.size, 4, none⟩ = some (.int .i64 ps)) ∧ Below w.heap.size w (w.alloc (.cells #[.int .i64 21, .slice A1 ws.length c1, .slice A2 nums.length c2, .slice A3 ks.length c3, .int .i64 ps] 30)) := ⟨⟨(Blk.start w _ _).cell 0, (Blk.start w _ _).cell 1, (Blk.start w _ _).cell 2, (Blk.start w _ _).cell 3, (Blk.start w _ _).cell 4⟩, below_alloc1 w _⟩
  have K1 := Lib.hid HS1
  obtain ⟨⟨g0, g1, g2, g3, g4⟩, _⟩ := HS1
  clear R2' hx hN hk
  have WF := Lib.hid (show ∀ wr : World, Below w.heap.size w wr → Calls Tryd.prog 25 #[.agg #[.int .i64 21, .slice A1 ws.length c1, .slice A2 nums.length c2, .slice A3 ks.length c3, .int .i64 ps], .int .i64 1, .int .i64 1] wr fun e w' => e = .returned (.bool (wordsR ⟨21, ws, nums, ks, ps⟩ 1 1)) ∧ Below wr.heap.size wr w' from fun wr hb => WR.out wr hb 1 1)
  generalize hqW : wordsR ⟨21, ws, nums, ks, ps⟩ 1 1 = W at WF
  have QW := Lib.hid hqW
  clear hqW
  cases W
  · go_enter Tryd.func14, Tryd.ntmps14
    go_upto_region 1 with fail
    generalize (w.alloc (.cells #[.int .i64 21, .slice A1 ws.length c1, .slice A2 nums.length c2, .slice A3 ks.length c3, .int .i64 ps] 30)) = w1 at *
    go_wp2_with (first
      | (go_at_call 25; (with_reducible refine (WF.out w1 (bl_of K1.out)).mono ?_); rintro e2 w2 ⟨rfl, hb2⟩; have K2 := Lib.hid (STB.out _ _ hb2 K1.out); obtain ⟨⟨k20, k21, k22, k23, k24⟩, _⟩ := id K2.out; clear hb2))
    go_ret
    exact ⟨ok_no, bl_of K2.out⟩
  · have NF := Lib.hid (show ∀ wr : World, Below w.heap.size w wr → Calls Tryd.prog 26 #[.agg #[.int .i64 21, .slice A1 ws.length c1, .slice A2 nums.length c2, .slice A3 ks.length c3, .int .i64 ps]] wr fun e w' => e = .returned (.bool (noneR ⟨21, ws, nums, ks, ps⟩)) ∧ Below wr.heap.size wr w' from fun wr hb => NO0.out wr hb)
    generalize hqN : noneR ⟨21, ws, nums, ks, ps⟩ = N at NF
    have QN := Lib.hid hqN
    clear hqN
    cases N
    · go_enter Tryd.func14, Tryd.ntmps14
      go_upto_region 1 with fail
      generalize (w.alloc (.cells #[.int .i64 21, .slice A1 ws.length c1, .slice A2 nums.length c2, .slice A3 ks.length c3, .int .i64 ps] 30)) = w1 at *
      go_wp2_with (first
        | (go_at_call 25; (with_reducible refine (WF.out w1 (bl_of K1.out)).mono ?_); rintro e2 w2 ⟨rfl, hb2⟩; have K2 := Lib.hid (STB.out _ _ hb2 K1.out); obtain ⟨⟨k20, k21, k22, k23, k24⟩, _⟩ := id K2.out; clear hb2)
        | (go_at_call 26; (with_reducible refine (NF.out w2 (bl_of K2.out)).mono ?_); rintro e3 w3 ⟨rfl, hb3⟩; have K3 := Lib.hid (STB.out _ _ hb3 K2.out); obtain ⟨⟨k30, k31, k32, k33, k34⟩, _⟩ := id K3.out; clear hb3))
      go_ret
      exact ⟨ok_no, bl_of K3.out⟩
    · by_cases qk : ks.length = 0
      · have tk : ((ks.length : Int) == 0) = true := by rw [beq_iff_eq]; omega
        have QK := Lib.hid qk
        clear qk
        go_enter Tryd.func14, Tryd.ntmps14
        go_upto_region 1 with fail
        generalize (w.alloc (.cells #[.int .i64 21, .slice A1 ws.length c1, .slice A2 nums.length c2, .slice A3 ks.length c3, .int .i64 ps] 30)) = w1 at *
        go_wp2_with (first
          | (go_at_call 25; (with_reducible refine (WF.out w1 (bl_of K1.out)).mono ?_); rintro e2 w2 ⟨rfl, hb2⟩; have K2 := Lib.hid (STB.out _ _ hb2 K1.out); obtain ⟨⟨k20, k21, k22, k23, k24⟩, _⟩ := id K2.out; clear hb2)
          | (go_at_call 26; (with_reducible refine (NF.out w2 (bl_of K2.out)).mono ?_); rintro e3 w3 ⟨rfl, hb3⟩; have K3 := Lib.hid (STB.out _ _ hb3 K2.out); obtain ⟨⟨k30, k31, k32, k33, k34⟩, _⟩ := id K3.out; clear hb3))
        go_ret
        exact ⟨ok_yes (val_var QW.out QN.out QK.out), bl_of K3.out⟩
      · have tk : ((ks.length : Int) == 0) = false := by rw [beq_eq_false_iff_ne]; omega
        go_enter Tryd.func14, Tryd.ntmps14
        go_upto_region 1 with fail
        generalize (w.alloc (.cells #[.int .i64 21, .slice A1 ws.length c1, .slice A2 nums.length c2, .slice A3 ks.length c3, .int .i64 ps] 30)) = w1 at *
        go_wp2_with (first
          | (go_at_call 25; (with_reducible refine (WF.out w1 (bl_of K1.out)).mono ?_); rintro e2 w2 ⟨rfl, hb2⟩; have K2 := Lib.hid (STB.out _ _ hb2 K1.out); obtain ⟨⟨k20, k21, k22, k23, k24⟩, _⟩ := id K2.out; clear hb2)
          | (go_at_call 26; (with_reducible refine (NF.out w2 (bl_of K2.out)).mono ?_); rintro e3 w3 ⟨rfl, hb3⟩; have K3 := Lib.hid (STB.out _ _ hb3 K2.out); obtain ⟨⟨k30, k31, k32, k33, k34⟩, _⟩ := id K3.out; clear hb3))
        go_ret
        exact ⟨ok_no, bl_of K3.out⟩

set_option maxRecDepth 10000 in
set_option maxHeartbeats 8000000 in
theorem rnode_num (w : World) (v : Value) (ns : List Nd) (va vb vc : Value) (ws : List (List UInt8)) (nums ks : List Int) (ps : Int) (hN : NodesAt w v ns) (hx : NdAt w ((va, vb, vc), ⟨20, ws, nums, ks, ps⟩)) (hk : KidsIn ks ns.length) :
    Calls Tryd.prog 14 #[v, ndV ((va, vb, vc), ⟨20, ws, nums, ks, ps⟩)] w fun e w' => OkB (validB ns ⟨20, ws, nums, ks, ps⟩ = true) e ∧ Below w.heap.size w w' := by
  obtain ⟨h1, h2, h3⟩ := id hx
  dsimp only at h1 h2 h3
  have WR := Lib.hid (fun (wr : World) (hb : Below w.heap.size w wr) (a b : Int) => rwords_any wr _ a b (hx.below hb))
  have NO0 := Lib.hid (fun (wr : World) (hb : Below w.heap.size w wr) => rnone_any wr _ (hx.below hb))
  have KD0 := Lib.hid (fun (wr : World) (hb : Below w.heap.size w wr) (i : Nat) (hi : i < ks.length) => rkid_any wr v ns _ i (hN.below hb) (hx.below hb) hk hi)
  have BL0 := Lib.hid (fun (wr : World) (hb : Below w.heap.size w wr) (f : Nat) (a b : Int) (hf : f ≤ ks.length) (hf1 : f ≤ 1) => rblocks_any wr v ns _ f a b (hN.below hb) (hx.below hb) hk hf hf1)
  have FR0 := Lib.hid (fun (hl : nums.length = 3) (wr : World) (hb : Below w.heap.size w wr) => rfrac_any wr _ (hx.below hb) hl)
  obtain ⟨A1, c1, rfl, _⟩ := h1
  obtain ⟨A2, c2, rfl, _, _, R2'⟩ := h2
  have KL := Lib.hid h3.len
  obtain ⟨A3, c3, rfl, _⟩ := h3
  have R2 := Lib.hid R2'
  unfold ndV at WR NO0 KD0 BL0 FR0 ⊢
  dsimp only at WR NO0 KD0 BL0 FR0 ⊢
  have STB := Lib.hid (show Stb (fun w' => (w'.cell? ⟨w.heap.size, 0, none⟩ = some (.int .i64 20) ∧ w'.cell? ⟨w.heap.size, 1, none⟩ = some (.slice A1 ws.length c1) ∧ w'.cell? ⟨w.heap.size, 2, none⟩ = some (.slice A2 nums.length c2) ∧ w'.cell? ⟨w.heap.size, 3, none⟩ = some (.slice A3 ks.length c3) ∧ w'.cell? ⟨w.heap.size, 4, none⟩ = some (.int .i64 ps)) ∧ Below w.heap.size w w') from stb_and (stb_and (stb_cell _ _) (stb_and (stb_cell _ _) (stb_and (stb_cell _ _) (stb_and (stb_cell _ _) (stb_cell _ _))))) (stb_below w))
  have HS1 : ((w.alloc (.cells #[.int .i64 20, .slice A1 ws.length c1, .slice A2 nums.length c2, .slice A3 ks.length c3, .int .i64 ps] 30)).cell? ⟨w.heap.size, 0, none⟩ = some (.int .i64 20) ∧ (w.alloc (.cells #[.int .i64 20, .slice A1 ws.length c1, .slice A2 nums.length c2, .slice A3 ks.length c3, .int .i64 ps] 30)).cell? ⟨w.heap.size, 1, none⟩ = some (.slice A1 ws.length c1) ∧ (w.alloc (.cells #[.int .i64 20, .slice A1 ws.length c1, .slice A2 nums.length c2, .slice A3 ks.length c3, .int .i64 ps] 30)).cell? ⟨w.heap.size, 2, none⟩ = some (.slice A2 nums.length c2) ∧ (w.alloc (.cells #[.int .i64 20, .slice A1 ws.length c1, .slice A2 nums.length c2, .slice A3 ks.length c3, .int .i64 ps] 30)).cell? ⟨w.heap.size, 3, none⟩ = some (.slice A3 ks.length c3) ∧ (w.alloc (.cells #[.int .i64 20, .slice A1 ws.length c1, .slice A2 nums.length c2, .slice A3 ks.length c3, .int .i64 ps] 30)).cell? ⟨w.heap.size, 4, none⟩ = some (.int .i64 ps)) ∧ Below w.heap.size w (w.alloc (.cells #[.int .i64 20, .slice A1 ws.length c1, .slice A2 nums.length c2, .slice A3 ks.length c3, .int .i64 ps] 30)) := ⟨⟨(Blk.start w _ _).cell 0, (Blk.start w _ _).cell 1, (Blk.start w _ _).cell 2, (Blk.start w _ _).cell 3, (Blk.start w _ _).cell 4⟩, below_alloc1 w _⟩
  have K1 := Lib.hid HS1
  obtain ⟨⟨g0, g1, g2, g3, g4⟩, _⟩ := HS1
  clear R2' hx hN hk
  have WF := Lib.hid (show ∀ wr : World, Below w.heap.size w wr → Calls Tryd.prog 25 #[.agg #[.int .i64 20, .slice A1 ws.length c1, .slice A2 nums.length c2, .slice A3 ks.length c3, .int .i64 ps], .int .i64 0, .int .i64 0] wr fun e w' => e = .returned (.bool (wordsR ⟨20, ws, nums, ks, ps⟩ 0 0)) ∧ Below wr.heap.size wr w' from fun wr hb => WR.out wr hb 0 0)
  generalize hqW : wordsR ⟨20, ws, nums, ks, ps⟩ 0 0 = W at WF
  have QW := Lib.hid hqW
  clear hqW
  cases W
  · go_enter Tryd.func14, Tryd.ntmps14
    go_upto_region 1 with fail
    generalize (w.alloc (.cells #[.int .i64 20, .slice A1 ws.length c1, .slice A2 nums.length c2, .slice A3 ks.length c3, .int .i64 ps] 30)) = w1 at *
    go_wp2_with (first
      | (go_at_call 25; (with_reducible refine (WF.out w1 (bl_of K1.out)).mono ?_); rintro e2 w2 ⟨rfl, hb2⟩; have K2 := Lib.hid (STB.out _ _ hb2 K1.out); obtain ⟨⟨k20, k21, k22, k23, k24⟩, _⟩ := id K2.out; clear hb2))
    go_ret
    exact ⟨ok_no, bl_of K2.out⟩
  · by_cases qn : nums.length = 1
    · have tn : ((nums.length : Int) == 1) = true := by rw [beq_iff_eq]; omega
      have tn2 : (0 : Int) < (nums.length : Int) := by omega
      obtain ⟨y, hy⟩ := List.length_eq_one_iff.mp qn
      obtain ⟨ad2, rfl, y1⟩ := ints_at (x := y) R2.out (bl_of K1.out) (k := 0) (by rw [hy]; rfl) (by omega)
      rw [show ad2.add 0 = ad2 by unfold Addr.add; simp] at y1
      have NC := Lib.hid (fun (wr : World) (hb : Below w.heap.size w wr) => show wr.cell? ad2 = some (.int .i64 y) from by obtain ⟨a2, e2, q2⟩ := ints_at (x := y) R2.out hb (k := 0) (by rw [hy]; rfl) (by omega); injection e2 with e2; subst e2; rwa [show ad2.add 0 = ad2 by unfold Addr.add; simp] at q2)
      have HY := Lib.hid hy
      clear hy qn
      by_cases qy : 0 ≤ y
      · by_cases qz : y < 1000000000000000000
        · by_cases qk : ks.length = 0
          · have tk : ((ks.length : Int) == 0) = true := by rw [beq_iff_eq]; omega
            have QK := Lib.hid qk
            clear qk
            go_enter Tryd.func14, Tryd.ntmps14
            go_upto_region 1 with fail
            generalize (w.alloc (.cells #[.int .i64 20, .slice A1 ws.length c1, .slice (some ad2) nums.length c2, .slice A3 ks.length c3, .int .i64 ps] 30)) = w1 at *
            go_wp2_with (first
              | (go_at_call 25; (with_reducible refine (WF.out w1 (bl_of K1.out)).mono ?_); rintro e2 w2 ⟨rfl, hb2⟩; have K2 := Lib.hid (STB.out _ _ hb2 K1.out); obtain ⟨⟨k20, k21, k22, k23, k24⟩, _⟩ := id K2.out; have y2 := NC.out w2 (bl_of K2.out); clear hb2))
            go_ret
            exact ⟨ok_yes (val_num QW.out HY.out qy qz QK.out), bl_of K2.out⟩
          · have tk : ((ks.length : Int) == 0) = false := by rw [beq_eq_false_iff_ne]; omega
            go_enter Tryd.func14, Tryd.ntmps14
            go_upto_region 1 with fail
            generalize (w.alloc (.cells #[.int .i64 20, .slice A1 ws.length c1, .slice (some ad2) nums.length c2, .slice A3 ks.length c3, .int .i64 ps] 30)) = w1 at *
            go_wp2_with (first
              | (go_at_call 25; (with_reducible refine (WF.out w1 (bl_of K1.out)).mono ?_); rintro e2 w2 ⟨rfl, hb2⟩; have K2 := Lib.hid (STB.out _ _ hb2 K1.out); obtain ⟨⟨k20, k21, k22, k23, k24⟩, _⟩ := id K2.out; have y2 := NC.out w2 (bl_of K2.out); clear hb2))
            go_ret
            exact ⟨ok_no, bl_of K2.out⟩
        · have tz : 1000000000000000000 ≤ y := by omega
          go_enter Tryd.func14, Tryd.ntmps14
          go_upto_region 1 with fail
          generalize (w.alloc (.cells #[.int .i64 20, .slice A1 ws.length c1, .slice (some ad2) nums.length c2, .slice A3 ks.length c3, .int .i64 ps] 30)) = w1 at *
          go_wp2_with (first
            | (go_at_call 25; (with_reducible refine (WF.out w1 (bl_of K1.out)).mono ?_); rintro e2 w2 ⟨rfl, hb2⟩; have K2 := Lib.hid (STB.out _ _ hb2 K1.out); obtain ⟨⟨k20, k21, k22, k23, k24⟩, _⟩ := id K2.out; have y2 := NC.out w2 (bl_of K2.out); clear hb2))
          go_ret
          exact ⟨ok_no, bl_of K2.out⟩
      · have ty : y < 0 := by omega
        go_enter Tryd.func14, Tryd.ntmps14
        go_upto_region 1 with fail
        generalize (w.alloc (.cells #[.int .i64 20, .slice A1 ws.length c1, .slice (some ad2) nums.length c2, .slice A3 ks.length c3, .int .i64 ps] 30)) = w1 at *
        go_wp2_with (first
          | (go_at_call 25; (with_reducible refine (WF.out w1 (bl_of K1.out)).mono ?_); rintro e2 w2 ⟨rfl, hb2⟩; have K2 := Lib.hid (STB.out _ _ hb2 K1.out); obtain ⟨⟨k20, k21, k22, k23, k24⟩, _⟩ := id K2.out; have y2 := NC.out w2 (bl_of K2.out); clear hb2))
        go_ret
        exact ⟨ok_no, bl_of K2.out⟩
    · have tn : ((nums.length : Int) == 1) = false := by rw [beq_eq_false_iff_ne]; omega
      go_enter Tryd.func14, Tryd.ntmps14
      go_upto_region 1 with fail
      generalize (w.alloc (.cells #[.int .i64 20, .slice A1 ws.length c1, .slice A2 nums.length c2, .slice A3 ks.length c3, .int .i64 ps] 30)) = w1 at *
      go_wp2_with (first
        | (go_at_call 25; (with_reducible refine (WF.out w1 (bl_of K1.out)).mono ?_); rintro e2 w2 ⟨rfl, hb2⟩; have K2 := Lib.hid (STB.out _ _ hb2 K1.out); obtain ⟨⟨k20, k21, k22, k23, k24⟩, _⟩ := id K2.out; clear hb2))
      go_ret
      exact ⟨ok_no, bl_of K2.out⟩

set_option maxRecDepth 10000 in
set_option maxHeartbeats 8000000 in
theorem rnode_bin (w : World) (v : Value) (ns : List Nd) (va vb vc : Value) (ws : List (List UInt8)) (nums ks : List Int) (ps : Int) (hN : NodesAt w v ns) (hx : NdAt w ((va, vb, vc), ⟨22, ws, nums, ks, ps⟩)) (hk : KidsIn ks ns.length) :
    Calls Tryd.prog 14 #[v, ndV ((va, vb, vc), ⟨22, ws, nums, ks, ps⟩)] w fun e w' => OkB (validB ns ⟨22, ws, nums, ks, ps⟩ = true) e ∧ Below w.heap.size w w' := by
  obtain ⟨h1, h2, h3⟩ := id hx
  dsimp only at h1 h2 h3
  have WR := Lib.hid (fun (wr : World) (hb : Below w.heap.size w wr) (a b : Int) => rwords_any wr _ a b (hx.below hb))
  have NO0 := Lib.hid (fun (wr : World) (hb : Below w.heap.size w wr) => rnone_any wr _ (hx.below hb))
  have KD0 := Lib.hid (fun (wr : World) (hb : Below w.heap.size w wr) (i : Nat) (hi : i < ks.length) => rkid_any wr v ns _ i (hN.below hb) (hx.below hb) hk hi)
  have BL0 := Lib.hid (fun (wr : World) (hb : Below w.heap.size w wr) (f : Nat) (a b : Int) (hf : f ≤ ks.length) (hf1 : f ≤ 1) => rblocks_any wr v ns _ f a b (hN.below hb) (hx.below hb) hk hf hf1)
  have FR0 := Lib.hid (fun (hl : nums.length = 3) (wr : World) (hb : Below w.heap.size w wr) => rfrac_any wr _ (hx.below hb) hl)
  obtain ⟨A1, c1, rfl, _⟩ := h1
  obtain ⟨A2, c2, rfl, _, _, R2'⟩ := h2
  have KL := Lib.hid h3.len
  obtain ⟨A3, c3, rfl, _⟩ := h3
  have R2 := Lib.hid R2'
  unfold ndV at WR NO0 KD0 BL0 FR0 ⊢
  dsimp only at WR NO0 KD0 BL0 FR0 ⊢
  have STB := Lib.hid (show Stb (fun w' => (w'.cell? ⟨w.heap.size, 0, none⟩ = some (.int .i64 22) ∧ w'.cell? ⟨w.heap.size, 1, none⟩ = some (.slice A1 ws.length c1) ∧ w'.cell? ⟨w.heap.size, 2, none⟩ = some (.slice A2 nums.length c2) ∧ w'.cell? ⟨w.heap.size, 3, none⟩ = some (.slice A3 ks.length c3) ∧ w'.cell? ⟨w.heap.size, 4, none⟩ = some (.int .i64 ps)) ∧ Below w.heap.size w w') from stb_and (stb_and (stb_cell _ _) (stb_and (stb_cell _ _) (stb_and (stb_cell _ _) (stb_and (stb_cell _ _) (stb_cell _ _))))) (stb_below w))
  have HS1 : ((w.alloc (.cells #[.int .i64 22, .slice A1 ws.length c1, .slice A2 nums.length c2, .slice A3 ks.length c3, .int .i64 ps] 30)).cell? ⟨w.heap.size, 0, none⟩ = some (.int .i64 22) ∧ (w.alloc (.cells #[.int .i64 22, .slice A1 ws.length c1, .slice A2 nums.length c2, .slice A3 ks.length c3, .int .i64 ps] 30)).cell? ⟨w.heap.size, 1, none⟩ = some (.slice A1 ws.length c1) ∧ (w.alloc (.cells #[.int .i64 22, .slice A1 ws.length c1, .slice A2 nums.length c2, .slice A3 ks.length c3, .int .i64 ps] 30)).cell? ⟨w.heap.size, 2, none⟩ = some (.slice A2 nums.length c2) ∧ (w.alloc (.cells #[.int .i64 22, .slice A1 ws.length c1, .slice A2 nums.length c2, .slice A3 ks.length c3, .int .i64 ps] 30)).cell? ⟨w.heap.size, 3, none⟩ = some (.slice A3 ks.length c3) ∧ (w.alloc (.cells #[.int .i64 22, .slice A1 ws.length c1, .slice A2 nums.length c2, .slice A3 ks.length c3, .int .i64 ps] 30)).cell? ⟨w.heap.size, 4, none⟩ = some (.int .i64 ps)) ∧ Below w.heap.size w (w.alloc (.cells #[.int .i64 22, .slice A1 ws.length c1, .slice A2 nums.length c2, .slice A3 ks.length c3, .int .i64 ps] 30)) := ⟨⟨(Blk.start w _ _).cell 0, (Blk.start w _ _).cell 1, (Blk.start w _ _).cell 2, (Blk.start w _ _).cell 3, (Blk.start w _ _).cell 4⟩, below_alloc1 w _⟩
  have K1 := Lib.hid HS1
  obtain ⟨⟨g0, g1, g2, g3, g4⟩, _⟩ := HS1
  clear R2' hx hN hk
  have WF := Lib.hid (show ∀ wr : World, Below w.heap.size w wr → Calls Tryd.prog 25 #[.agg #[.int .i64 22, .slice A1 ws.length c1, .slice A2 nums.length c2, .slice A3 ks.length c3, .int .i64 ps], .int .i64 0, .int .i64 0] wr fun e w' => e = .returned (.bool (wordsR ⟨22, ws, nums, ks, ps⟩ 0 0)) ∧ Below wr.heap.size wr w' from fun wr hb => WR.out wr hb 0 0)
  generalize hqW : wordsR ⟨22, ws, nums, ks, ps⟩ 0 0 = W at WF
  have QW := Lib.hid hqW
  clear hqW
  cases W
  · go_enter Tryd.func14, Tryd.ntmps14
    go_upto_region 1 with fail
    generalize (w.alloc (.cells #[.int .i64 22, .slice A1 ws.length c1, .slice A2 nums.length c2, .slice A3 ks.length c3, .int .i64 ps] 30)) = w1 at *
    go_wp2_with (first
      | (go_at_call 25; (with_reducible refine (WF.out w1 (bl_of K1.out)).mono ?_); rintro e2 w2 ⟨rfl, hb2⟩; have K2 := Lib.hid (STB.out _ _ hb2 K1.out); obtain ⟨⟨k20, k21, k22, k23, k24⟩, _⟩ := id K2.out; clear hb2))
    go_ret
    exact ⟨ok_no, bl_of K2.out⟩
  · by_cases qn : nums.length = 1
    · have tn : ((nums.length : Int) == 1) = true := by rw [beq_iff_eq]; omega
      have tn2 : (0 : Int) < (nums.length : Int) := by omega
      obtain ⟨y, hy⟩ := List.length_eq_one_iff.mp qn
      obtain ⟨ad2, rfl, y1⟩ := ints_at (x := y) R2.out (bl_of K1.out) (k := 0) (by rw [hy]; rfl) (by omega)
      rw [show ad2.add 0 = ad2 by unfold Addr.add; simp] at y1
      have NC := Lib.hid (fun (wr : World) (hb : Below w.heap.size w wr) => show wr.cell? ad2 = some (.int .i64 y) from by obtain ⟨a2, e2, q2⟩ := ints_at (x := y) R2.out hb (k := 0) (by rw [hy]; rfl) (by omega); injection e2 with e2; subst e2; rwa [show ad2.add 0 = ad2 by unfold Addr.add; simp] at q2)
      have HY := Lib.hid hy
      clear hy qn
      by_cases qy : 0 ≤ y
      · by_cases qz : y ≤ 5
        · by_cases qk : ks.length = 2
          · have tk : ((ks.length : Int) == 2) = true := by rw [beq_iff_eq]; omega
            have QK := Lib.hid qk
            clear qk
            have EG := Lib.hid (show ∀ wr : World, Below w.heap.size w wr → Calls Tryd.prog 28 #[v, .agg #[.int .i64 22, .slice A1 ws.length c1, .slice (some ad2) nums.length c2, .slice A3 ks.length c3, .int .i64 ps], .int .i64 0] wr fun e w' => e = .returned (.int .i64 (kdR ns ⟨22, ws, nums, ks, ps⟩ 0)) ∧ Below wr.heap.size wr w' from fun wr hb => KD0.out wr hb 0 (by have := QK.out; omega))
            have EF := Lib.hid (fun wr => rexpr_any wr (kdR ns ⟨22, ws, nums, ks, ps⟩ 0))
            generalize hqE : exprB (kdR ns ⟨22, ws, nums, ks, ps⟩ 0) = E at EF
            have QE := Lib.hid hqE
            clear hqE
            cases E
            · go_enter Tryd.func14, Tryd.ntmps14
              go_upto_region 1 with fail
              generalize (w.alloc (.cells #[.int .i64 22, .slice A1 ws.length c1, .slice (some ad2) nums.length c2, .slice A3 ks.length c3, .int .i64 ps] 30)) = w1 at *
              go_wp2_with (first
                | (go_at_call 25; (with_reducible refine (WF.out w1 (bl_of K1.out)).mono ?_); rintro e2 w2 ⟨rfl, hb2⟩; have K2 := Lib.hid (STB.out _ _ hb2 K1.out); obtain ⟨⟨k20, k21, k22, k23, k24⟩, _⟩ := id K2.out; have y2 := NC.out w2 (bl_of K2.out); clear hb2)
                | (go_at_call 28; (with_reducible refine (EG.out w2 (bl_of K2.out)).mono ?_); rintro e3 w3 ⟨rfl, hb3⟩; have K3 := Lib.hid (STB.out _ _ hb3 K2.out); obtain ⟨⟨k30, k31, k32, k33, k34⟩, _⟩ := id K3.out; have y3 := NC.out w3 (bl_of K3.out); clear hb3)
                | (go_at_call 27; (with_reducible refine (EF.out w3).mono ?_); rintro _ _ ⟨rfl, rfl⟩))
              go_ret
              exact ⟨ok_no, bl_of K3.out⟩
            · have GG := Lib.hid (show ∀ wr : World, Below w.heap.size w wr → Calls Tryd.prog 28 #[v, .agg #[.int .i64 22, .slice A1 ws.length c1, .slice (some ad2) nums.length c2, .slice A3 ks.length c3, .int .i64 ps], .int .i64 1] wr fun e w' => e = .returned (.int .i64 (kdR ns ⟨22, ws, nums, ks, ps⟩ 1)) ∧ Below wr.heap.size wr w' from fun wr hb => KD0.out wr hb 1 (by have := QK.out; omega))
              have GF := Lib.hid (fun wr => rexpr_any wr (kdR ns ⟨22, ws, nums, ks, ps⟩ 1))
              generalize hqG : exprB (kdR ns ⟨22, ws, nums, ks, ps⟩ 1) = G at GF
              have QG := Lib.hid hqG
              clear hqG
              cases G
              · go_enter Tryd.func14, Tryd.ntmps14
                go_upto_region 1 with fail
                generalize (w.alloc (.cells #[.int .i64 22, .slice A1 ws.length c1, .slice (some ad2) nums.length c2, .slice A3 ks.length c3, .int .i64 ps] 30)) = w1 at *
                go_wp2_with (first
                  | (go_at_call 25; (with_reducible refine (WF.out w1 (bl_of K1.out)).mono ?_); rintro e2 w2 ⟨rfl, hb2⟩; have K2 := Lib.hid (STB.out _ _ hb2 K1.out); obtain ⟨⟨k20, k21, k22, k23, k24⟩, _⟩ := id K2.out; have y2 := NC.out w2 (bl_of K2.out); clear hb2)
                  | (go_at_call 28; (with_reducible refine (EG.out w2 (bl_of K2.out)).mono ?_); rintro e3 w3 ⟨rfl, hb3⟩; have K3 := Lib.hid (STB.out _ _ hb3 K2.out); obtain ⟨⟨k30, k31, k32, k33, k34⟩, _⟩ := id K3.out; have y3 := NC.out w3 (bl_of K3.out); clear hb3)
                  | (go_at_call 27; (with_reducible refine (EF.out w3).mono ?_); rintro _ _ ⟨rfl, rfl⟩)
                  | (go_at_call 28; (with_reducible refine (GG.out w3 (bl_of K3.out)).mono ?_); rintro e4 w4 ⟨rfl, hb4⟩; have K4 := Lib.hid (STB.out _ _ hb4 K3.out); obtain ⟨⟨k40, k41, k42, k43, k44⟩, _⟩ := id K4.out; have y4 := NC.out w4 (bl_of K4.out); clear hb4)
                  | (go_at_call 27; (with_reducible refine (GF.out w4).mono ?_); rintro _ _ ⟨rfl, rfl⟩))
                go_ret
                exact ⟨ok_no, bl_of K4.out⟩
              · go_enter Tryd.func14, Tryd.ntmps14
                go_upto_region 1 with fail
                generalize (w.alloc (.cells #[.int .i64 22, .slice A1 ws.length c1, .slice (some ad2) nums.length c2, .slice A3 ks.length c3, .int .i64 ps] 30)) = w1 at *
                go_wp2_with (first
                  | (go_at_call 25; (with_reducible refine (WF.out w1 (bl_of K1.out)).mono ?_); rintro e2 w2 ⟨rfl, hb2⟩; have K2 := Lib.hid (STB.out _ _ hb2 K1.out); obtain ⟨⟨k20, k21, k22, k23, k24⟩, _⟩ := id K2.out; have y2 := NC.out w2 (bl_of K2.out); clear hb2)
                  | (go_at_call 28; (with_reducible refine (EG.out w2 (bl_of K2.out)).mono ?_); rintro e3 w3 ⟨rfl, hb3⟩; have K3 := Lib.hid (STB.out _ _ hb3 K2.out); obtain ⟨⟨k30, k31, k32, k33, k34⟩, _⟩ := id K3.out; have y3 := NC.out w3 (bl_of K3.out); clear hb3)
                  | (go_at_call 27; (with_reducible refine (EF.out w3).mono ?_); rintro _ _ ⟨rfl, rfl⟩)
                  | (go_at_call 28; (with_reducible refine (GG.out w3 (bl_of K3.out)).mono ?_); rintro e4 w4 ⟨rfl, hb4⟩; have K4 := Lib.hid (STB.out _ _ hb4 K3.out); obtain ⟨⟨k40, k41, k42, k43, k44⟩, _⟩ := id K4.out; have y4 := NC.out w4 (bl_of K4.out); clear hb4)
                  | (go_at_call 27; (with_reducible refine (GF.out w4).mono ?_); rintro _ _ ⟨rfl, rfl⟩))
                go_ret
                exact ⟨ok_yes (val_bin QW.out HY.out qy qz QK.out QE.out QG.out), bl_of K4.out⟩
          · have tk : ((ks.length : Int) == 2) = false := by rw [beq_eq_false_iff_ne]; omega
            go_enter Tryd.func14, Tryd.ntmps14
            go_upto_region 1 with fail
            generalize (w.alloc (.cells #[.int .i64 22, .slice A1 ws.length c1, .slice (some ad2) nums.length c2, .slice A3 ks.length c3, .int .i64 ps] 30)) = w1 at *
            go_wp2_with (first
              | (go_at_call 25; (with_reducible refine (WF.out w1 (bl_of K1.out)).mono ?_); rintro e2 w2 ⟨rfl, hb2⟩; have K2 := Lib.hid (STB.out _ _ hb2 K1.out); obtain ⟨⟨k20, k21, k22, k23, k24⟩, _⟩ := id K2.out; have y2 := NC.out w2 (bl_of K2.out); clear hb2))
            go_ret
            exact ⟨ok_no, bl_of K2.out⟩
        · have tz : 5 < y := by omega
          go_enter Tryd.func14, Tryd.ntmps14
          go_upto_region 1 with fail
          generalize (w.alloc (.cells #[.int .i64 22, .slice A1 ws.length c1, .slice (some ad2) nums.length c2, .slice A3 ks.length c3, .int .i64 ps] 30)) = w1 at *
          go_wp2_with (first
            | (go_at_call 25; (with_reducible refine (WF.out w1 (bl_of K1.out)).mono ?_); rintro e2 w2 ⟨rfl, hb2⟩; have K2 := Lib.hid (STB.out _ _ hb2 K1.out); obtain ⟨⟨k20, k21, k22, k23, k24⟩, _⟩ := id K2.out; have y2 := NC.out w2 (bl_of K2.out); clear hb2))
          go_ret
          exact ⟨ok_no, bl_of K2.out⟩
      · have ty : y < 0 := by omega
        go_enter Tryd.func14, Tryd.ntmps14
        go_upto_region 1 with fail
        generalize (w.alloc (.cells #[.int .i64 22, .slice A1 ws.length c1, .slice (some ad2) nums.length c2, .slice A3 ks.length c3, .int .i64 ps] 30)) = w1 at *
        go_wp2_with (first
          | (go_at_call 25; (with_reducible refine (WF.out w1 (bl_of K1.out)).mono ?_); rintro e2 w2 ⟨rfl, hb2⟩; have K2 := Lib.hid (STB.out _ _ hb2 K1.out); obtain ⟨⟨k20, k21, k22, k23, k24⟩, _⟩ := id K2.out; have y2 := NC.out w2 (bl_of K2.out); clear hb2))
        go_ret
        exact ⟨ok_no, bl_of K2.out⟩
    · have tn : ((nums.length : Int) == 1) = false := by rw [beq_eq_false_iff_ne]; omega
      go_enter Tryd.func14, Tryd.ntmps14
      go_upto_region 1 with fail
      generalize (w.alloc (.cells #[.int .i64 22, .slice A1 ws.length c1, .slice A2 nums.length c2, .slice A3 ks.length c3, .int .i64 ps] 30)) = w1 at *
      go_wp2_with (first
        | (go_at_call 25; (with_reducible refine (WF.out w1 (bl_of K1.out)).mono ?_); rintro e2 w2 ⟨rfl, hb2⟩; have K2 := Lib.hid (STB.out _ _ hb2 K1.out); obtain ⟨⟨k20, k21, k22, k23, k24⟩, _⟩ := id K2.out; clear hb2))
      go_ret
      exact ⟨ok_no, bl_of K2.out⟩

set_option maxRecDepth 10000 in
set_option maxHeartbeats 8000000 in
theorem rnode_neg (w : World) (v : Value) (ns : List Nd) (va vb vc : Value) (ws : List (List UInt8)) (nums ks : List Int) (ps : Int) (hN : NodesAt w v ns) (hx : NdAt w ((va, vb, vc), ⟨23, ws, nums, ks, ps⟩)) (hk : KidsIn ks ns.length) :
    Calls Tryd.prog 14 #[v, ndV ((va, vb, vc), ⟨23, ws, nums, ks, ps⟩)] w fun e w' => OkB (validB ns ⟨23, ws, nums, ks, ps⟩ = true) e ∧ Below w.heap.size w w' := by
  obtain ⟨h1, h2, h3⟩ := id hx
  dsimp only at h1 h2 h3
  have WR := Lib.hid (fun (wr : World) (hb : Below w.heap.size w wr) (a b : Int) => rwords_any wr _ a b (hx.below hb))
  have NO0 := Lib.hid (fun (wr : World) (hb : Below w.heap.size w wr) => rnone_any wr _ (hx.below hb))
  have KD0 := Lib.hid (fun (wr : World) (hb : Below w.heap.size w wr) (i : Nat) (hi : i < ks.length) => rkid_any wr v ns _ i (hN.below hb) (hx.below hb) hk hi)
  have BL0 := Lib.hid (fun (wr : World) (hb : Below w.heap.size w wr) (f : Nat) (a b : Int) (hf : f ≤ ks.length) (hf1 : f ≤ 1) => rblocks_any wr v ns _ f a b (hN.below hb) (hx.below hb) hk hf hf1)
  have FR0 := Lib.hid (fun (hl : nums.length = 3) (wr : World) (hb : Below w.heap.size w wr) => rfrac_any wr _ (hx.below hb) hl)
  obtain ⟨A1, c1, rfl, _⟩ := h1
  obtain ⟨A2, c2, rfl, _, _, R2'⟩ := h2
  have KL := Lib.hid h3.len
  obtain ⟨A3, c3, rfl, _⟩ := h3
  have R2 := Lib.hid R2'
  unfold ndV at WR NO0 KD0 BL0 FR0 ⊢
  dsimp only at WR NO0 KD0 BL0 FR0 ⊢
  have STB := Lib.hid (show Stb (fun w' => (w'.cell? ⟨w.heap.size, 0, none⟩ = some (.int .i64 23) ∧ w'.cell? ⟨w.heap.size, 1, none⟩ = some (.slice A1 ws.length c1) ∧ w'.cell? ⟨w.heap.size, 2, none⟩ = some (.slice A2 nums.length c2) ∧ w'.cell? ⟨w.heap.size, 3, none⟩ = some (.slice A3 ks.length c3) ∧ w'.cell? ⟨w.heap.size, 4, none⟩ = some (.int .i64 ps)) ∧ Below w.heap.size w w') from stb_and (stb_and (stb_cell _ _) (stb_and (stb_cell _ _) (stb_and (stb_cell _ _) (stb_and (stb_cell _ _) (stb_cell _ _))))) (stb_below w))
  have HS1 : ((w.alloc (.cells #[.int .i64 23, .slice A1 ws.length c1, .slice A2 nums.length c2, .slice A3 ks.length c3, .int .i64 ps] 30)).cell? ⟨w.heap.size, 0, none⟩ = some (.int .i64 23) ∧ (w.alloc (.cells #[.int .i64 23, .slice A1 ws.length c1, .slice A2 nums.length c2, .slice A3 ks.length c3, .int .i64 ps] 30)).cell? ⟨w.heap.size, 1, none⟩ = some (.slice A1 ws.length c1) ∧ (w.alloc (.cells #[.int .i64 23, .slice A1 ws.length c1, .slice A2 nums.length c2, .slice A3 ks.length c3, .int .i64 ps] 30)).cell? ⟨w.heap.size, 2, none⟩ = some (.slice A2 nums.length c2) ∧ (w.alloc (.cells #[.int .i64 23, .slice A1 ws.length c1, .slice A2 nums.length c2, .slice A3 ks.length c3, .int .i64 ps] 30)).cell? ⟨w.heap.size, 3, none⟩ = some (.slice A3 ks.length c3) ∧ (w.alloc (.cells #[.int .i64 23, .slice A1 ws.length c1, .slice A2 nums.length c2, .slice A3 ks.length c3, .int .i64 ps] 30)).cell? ⟨w.heap.size, 4, none⟩ = some (.int .i64 ps)) ∧ Below w.heap.size w (w.alloc (.cells #[.int .i64 23, .slice A1 ws.length c1, .slice A2 nums.length c2, .slice A3 ks.length c3, .int .i64 ps] 30)) := ⟨⟨(Blk.start w _ _).cell 0, (Blk.start w _ _).cell 1, (Blk.start w _ _).cell 2, (Blk.start w _ _).cell 3, (Blk.start w _ _).cell 4⟩, below_alloc1 w _⟩
  have K1 := Lib.hid HS1
  obtain ⟨⟨g0, g1, g2, g3, g4⟩, _⟩ := HS1
  clear R2' hx hN hk
  have WF := Lib.hid (show ∀ wr : World, Below w.heap.size w wr → Calls Tryd.prog 25 #[.agg #[.int .i64 23, .slice A1 ws.length c1, .slice A2 nums.length c2, .slice A3 ks.length c3, .int .i64 ps], .int .i64 0, .int .i64 0] wr fun e w' => e = .returned (.bool (wordsR ⟨23, ws, nums, ks, ps⟩ 0 0)) ∧ Below wr.heap.size wr w' from fun wr hb => WR.out wr hb 0 0)
  generalize hqW : wordsR ⟨23, ws, nums, ks, ps⟩ 0 0 = W at WF
  have QW := Lib.hid hqW
  clear hqW
  cases W
  · go_enter Tryd.func14, Tryd.ntmps14
    go_upto_region 1 with fail
    generalize (w.alloc (.cells #[.int .i64 23, .slice A1 ws.length c1, .slice A2 nums.length c2, .slice A3 ks.length c3, .int .i64 ps] 30)) = w1 at *
    go_wp2_with (first
      | (go_at_call 25; (with_reducible refine (WF.out w1 (bl_of K1.out)).mono ?_); rintro e2 w2 ⟨rfl, hb2⟩; have K2 := Lib.hid (STB.out _ _ hb2 K1.out); obtain ⟨⟨k20, k21, k22, k23, k24⟩, _⟩ := id K2.out; clear hb2))
    go_ret
    exact ⟨ok_no, bl_of K2.out⟩
  · have NF := Lib.hid (show ∀ wr : World, Below w.heap.size w wr → Calls Tryd.prog 26 #[.agg #[.int .i64 23, .slice A1 ws.length c1, .slice A2 nums.length c2, .slice A3 ks.length c3, .int .i64 ps]] wr fun e w' => e = .returned (.bool (noneR ⟨23, ws, nums, ks, ps⟩)) ∧ Below wr.heap.size wr w' from fun wr hb => NO0.out wr hb)
    generalize hqN : noneR ⟨23, ws, nums, ks, ps⟩ = N at NF
    have QN := Lib.hid hqN
    clear hqN
    cases N
    · go_enter Tryd.func14, Tryd.ntmps14
      go_upto_region 1 with fail
      generalize (w.alloc (.cells #[.int .i64 23, .slice A1 ws.length c1, .slice A2 nums.length c2, .slice A3 ks.length c3, .int .i64 ps] 30)) = w1 at *
      go_wp2_with (first
        | (go_at_call 25; (with_reducible refine (WF.out w1 (bl_of K1.out)).mono ?_); rintro e2 w2 ⟨rfl, hb2⟩; have K2 := Lib.hid (STB.out _ _ hb2 K1.out); obtain ⟨⟨k20, k21, k22, k23, k24⟩, _⟩ := id K2.out; clear hb2)
        | (go_at_call 26; (with_reducible refine (NF.out w2 (bl_of K2.out)).mono ?_); rintro e3 w3 ⟨rfl, hb3⟩; have K3 := Lib.hid (STB.out _ _ hb3 K2.out); obtain ⟨⟨k30, k31, k32, k33, k34⟩, _⟩ := id K3.out; clear hb3))
      go_ret
      exact ⟨ok_no, bl_of K3.out⟩
    · by_cases qk : ks.length = 1
      · have tk : ((ks.length : Int) == 1) = true := by rw [beq_iff_eq]; omega
        have QK := Lib.hid qk
        clear qk
        have EG := Lib.hid (show ∀ wr : World, Below w.heap.size w wr → Calls Tryd.prog 28 #[v, .agg #[.int .i64 23, .slice A1 ws.length c1, .slice A2 nums.length c2, .slice A3 ks.length c3, .int .i64 ps], .int .i64 0] wr fun e w' => e = .returned (.int .i64 (kdR ns ⟨23, ws, nums, ks, ps⟩ 0)) ∧ Below wr.heap.size wr w' from fun wr hb => KD0.out wr hb 0 (by have := QK.out; omega))
        have EF := Lib.hid (fun wr => rexpr_any wr (kdR ns ⟨23, ws, nums, ks, ps⟩ 0))
        generalize hqE : exprB (kdR ns ⟨23, ws, nums, ks, ps⟩ 0) = E at EF
        have QE := Lib.hid hqE
        clear hqE
        cases E
        · go_enter Tryd.func14, Tryd.ntmps14
          go_upto_region 1 with fail
          generalize (w.alloc (.cells #[.int .i64 23, .slice A1 ws.length c1, .slice A2 nums.length c2, .slice A3 ks.length c3, .int .i64 ps] 30)) = w1 at *
          go_wp2_with (first
            | (go_at_call 25; (with_reducible refine (WF.out w1 (bl_of K1.out)).mono ?_); rintro e2 w2 ⟨rfl, hb2⟩; have K2 := Lib.hid (STB.out _ _ hb2 K1.out); obtain ⟨⟨k20, k21, k22, k23, k24⟩, _⟩ := id K2.out; clear hb2)
            | (go_at_call 26; (with_reducible refine (NF.out w2 (bl_of K2.out)).mono ?_); rintro e3 w3 ⟨rfl, hb3⟩; have K3 := Lib.hid (STB.out _ _ hb3 K2.out); obtain ⟨⟨k30, k31, k32, k33, k34⟩, _⟩ := id K3.out; clear hb3)
            | (go_at_call 28; (with_reducible refine (EG.out w3 (bl_of K3.out)).mono ?_); rintro e4 w4 ⟨rfl, hb4⟩; have K4 := Lib.hid (STB.out _ _ hb4 K3.out); obtain ⟨⟨k40, k41, k42, k43, k44⟩, _⟩ := id K4.out; clear hb4)
            | (go_at_call 27; (with_reducible refine (EF.out w4).mono ?_); rintro _ _ ⟨rfl, rfl⟩))
          go_ret
          exact ⟨ok_no, bl_of K4.out⟩
        · go_enter Tryd.func14, Tryd.ntmps14
          go_upto_region 1 with fail
          generalize (w.alloc (.cells #[.int .i64 23, .slice A1 ws.length c1, .slice A2 nums.length c2, .slice A3 ks.length c3, .int .i64 ps] 30)) = w1 at *
          go_wp2_with (first
            | (go_at_call 25; (with_reducible refine (WF.out w1 (bl_of K1.out)).mono ?_); rintro e2 w2 ⟨rfl, hb2⟩; have K2 := Lib.hid (STB.out _ _ hb2 K1.out); obtain ⟨⟨k20, k21, k22, k23, k24⟩, _⟩ := id K2.out; clear hb2)
            | (go_at_call 26; (with_reducible refine (NF.out w2 (bl_of K2.out)).mono ?_); rintro e3 w3 ⟨rfl, hb3⟩; have K3 := Lib.hid (STB.out _ _ hb3 K2.out); obtain ⟨⟨k30, k31, k32, k33, k34⟩, _⟩ := id K3.out; clear hb3)
            | (go_at_call 28; (with_reducible refine (EG.out w3 (bl_of K3.out)).mono ?_); rintro e4 w4 ⟨rfl, hb4⟩; have K4 := Lib.hid (STB.out _ _ hb4 K3.out); obtain ⟨⟨k40, k41, k42, k43, k44⟩, _⟩ := id K4.out; clear hb4)
            | (go_at_call 27; (with_reducible refine (EF.out w4).mono ?_); rintro _ _ ⟨rfl, rfl⟩))
          go_ret
          exact ⟨ok_yes (val_neg QW.out QN.out QK.out QE.out), bl_of K4.out⟩
      · have tk : ((ks.length : Int) == 1) = false := by rw [beq_eq_false_iff_ne]; omega
        go_enter Tryd.func14, Tryd.ntmps14
        go_upto_region 1 with fail
        generalize (w.alloc (.cells #[.int .i64 23, .slice A1 ws.length c1, .slice A2 nums.length c2, .slice A3 ks.length c3, .int .i64 ps] 30)) = w1 at *
        go_wp2_with (first
          | (go_at_call 25; (with_reducible refine (WF.out w1 (bl_of K1.out)).mono ?_); rintro e2 w2 ⟨rfl, hb2⟩; have K2 := Lib.hid (STB.out _ _ hb2 K1.out); obtain ⟨⟨k20, k21, k22, k23, k24⟩, _⟩ := id K2.out; clear hb2)
          | (go_at_call 26; (with_reducible refine (NF.out w2 (bl_of K2.out)).mono ?_); rintro e3 w3 ⟨rfl, hb3⟩; have K3 := Lib.hid (STB.out _ _ hb3 K2.out); obtain ⟨⟨k30, k31, k32, k33, k34⟩, _⟩ := id K3.out; clear hb3))
        go_ret
        exact ⟨ok_no, bl_of K3.out⟩
end Go.Proofs.YtabnjiijgbigbaaDoor

namespace Go.Proofs.YtabnjiijgbigbaaDoor
open Go.RowKit

theorem val_fn2 {ns : List Nd} {ws : List (List UInt8)} {nums ks : List Int} {ps : Int} (h : allB ns (ks.take (ks.length - 1)) (isB [5]) = true) (hw : wordsR ⟨4, ws, nums, ks, ps⟩ 1 1 = true) (hn : noneR ⟨4, ws, nums, ks, ps⟩ = true) (hk : 0 < ks.length) (hl : kdR ns ⟨4, ws, nums, ks, ps⟩ (ks.length - 1) = 7) : validB ns ⟨4, ws, nums, ks, ps⟩ = true := by
  have hx : ks[ks.length - 1]? = some (ks[ks.length - 1]'(by omega)) := List.getElem?_eq_getElem (by omega)
  have e : ks = ks.take (ks.length - 1) ++ [ks[ks.length - 1]'(by omega)] := by
    have := List.take_add_one (l := ks) (i := ks.length - 1)
    rw [hx, show ks.length - 1 + 1 = ks.length by omega, List.take_length] at this
    exact this
  refine val_fn e h hw hn ?_
  unfold kdR at hl
  dsimp only at hl
  rwa [atI_of hx] at hl

set_option maxRecDepth 10000 in
set_option maxHeartbeats 8000000 in
theorem router_fn (w : World) (v : Value) (ns : List Nd) (va vb vc : Value) (ws : List (List UInt8)) (nums ks : List Int) (ps : Int) (hN : NodesAt w v ns) (hx : NdAt w ((va, vb, vc), ⟨4, ws, nums, ks, ps⟩)) (hk : KidsIn ks ns.length) :
    Calls Tryd.prog 24 #[v, ndV ((va, vb, vc), ⟨4, ws, nums, ks, ps⟩)] w fun e w' => OkB (validB ns ⟨4, ws, nums, ks, ps⟩ = true) e ∧ Below w.heap.size w w' := by
  obtain ⟨h1, h2, h3⟩ := id hx
  dsimp only at h1 h2 h3
  have WR := Lib.hid (fun (wr : World) (hb : Below w.heap.size w wr) (a b : Int) => rwords_any wr _ a b (hx.below hb))
  have NO0 := Lib.hid (fun (wr : World) (hb : Below w.heap.size w wr) => rnone_any wr _ (hx.below hb))
  have KD0 := Lib.hid (fun (wr : World) (hb : Below w.heap.size w wr) (i : Nat) (hi : i < ks.length) => rkid_any wr v ns _ i (hN.below hb) (hx.below hb) hk hi)
  have BL0 := Lib.hid (fun (wr : World) (hb : Below w.heap.size w wr) (f : Nat) (a b : Int) (hf : f ≤ ks.length) (hf1 : f ≤ 1) => rblocks_any wr v ns _ f a b (hN.below hb) (hx.below hb) hk hf hf1)
  have FR0 := Lib.hid (fun (hl : nums.length = 3) (wr : World) (hb : Below w.heap.size w wr) => rfrac_any wr _ (hx.below hb) hl)
  obtain ⟨A1, c1, rfl, _⟩ := h1
  obtain ⟨A2, c2, rfl, _, _, R2'⟩ := h2
  have KL := Lib.hid h3.len
  obtain ⟨A3, c3, rfl, _⟩ := h3
  have R2 := Lib.hid R2'
  unfold ndV at WR NO0 KD0 BL0 FR0 ⊢
  dsimp only at WR NO0 KD0 BL0 FR0 ⊢
  have STB := Lib.hid (show Stb (fun w' => (w'.cell? ⟨w.heap.size, 0, none⟩ = some (.int .i64 4) ∧ w'.cell? ⟨w.heap.size, 1, none⟩ = some (.slice A1 ws.length c1) ∧ w'.cell? ⟨w.heap.size, 2, none⟩ = some (.slice A2 nums.length c2) ∧ w'.cell? ⟨w.heap.size, 3, none⟩ = some (.slice A3 ks.length c3) ∧ w'.cell? ⟨w.heap.size, 4, none⟩ = some (.int .i64 ps)) ∧ Below w.heap.size w w') from stb_and (stb_and (stb_cell _ _) (stb_and (stb_cell _ _) (stb_and (stb_cell _ _) (stb_and (stb_cell _ _) (stb_cell _ _))))) (stb_below w))
  have HS1 : ((w.alloc (.cells #[.int .i64 4, .slice A1 ws.length c1, .slice A2 nums.length c2, .slice A3 ks.length c3, .int .i64 ps] 30)).cell? ⟨w.heap.size, 0, none⟩ = some (.int .i64 4) ∧ (w.alloc (.cells #[.int .i64 4, .slice A1 ws.length c1, .slice A2 nums.length c2, .slice A3 ks.length c3, .int .i64 ps] 30)).cell? ⟨w.heap.size, 1, none⟩ = some (.slice A1 ws.length c1) ∧ (w.alloc (.cells #[.int .i64 4, .slice A1 ws.length c1, .slice A2 nums.length c2, .slice A3 ks.length c3, .int .i64 ps] 30)).cell? ⟨w.heap.size, 2, none⟩ = some (.slice A2 nums.length c2) ∧ (w.alloc (.cells #[.int .i64 4, .slice A1 ws.length c1, .slice A2 nums.length c2, .slice A3 ks.length c3, .int .i64 ps] 30)).cell? ⟨w.heap.size, 3, none⟩ = some (.slice A3 ks.length c3) ∧ (w.alloc (.cells #[.int .i64 4, .slice A1 ws.length c1, .slice A2 nums.length c2, .slice A3 ks.length c3, .int .i64 ps] 30)).cell? ⟨w.heap.size, 4, none⟩ = some (.int .i64 ps)) ∧ Below w.heap.size w (w.alloc (.cells #[.int .i64 4, .slice A1 ws.length c1, .slice A2 nums.length c2, .slice A3 ks.length c3, .int .i64 ps] 30)) := ⟨⟨(Blk.start w _ _).cell 0, (Blk.start w _ _).cell 1, (Blk.start w _ _).cell 2, (Blk.start w _ _).cell 3, (Blk.start w _ _).cell 4⟩, below_alloc1 w _⟩
  have K1 := Lib.hid HS1
  obtain ⟨⟨g0, g1, g2, g3, g4⟩, _⟩ := HS1
  clear R2' hx hN hk
  have um : IntKind.i64.wrap ((ks.length : Int) - 1) = (ks.length : Int) - 1 := IntWalk.i64_in _ (by have := KL.out; unfold maxLen at this; omega)
  go_enter Tryd.func24, Tryd.ntmps24
  go_upto_region 1 with fail
  generalize (w.alloc (.cells #[.int .i64 4, .slice A1 ws.length c1, .slice A2 nums.length c2, .slice A3 ks.length c3, .int .i64 ps] 30)) = w1 at *
  go_wp2_with fail
  go_loopg [8] (ks.length - 1) (fun gk vi wr => ∃ i : Nat, vi = .int .i64 i ∧ i ≤ ks.length - 1 ∧ gk = ks.length - 1 - i ∧ allB ns (ks.take i) (isB [5]) = true ∧ (wr.cell? ⟨w.heap.size, 0, none⟩ = some (.int .i64 4) ∧ wr.cell? ⟨w.heap.size, 1, none⟩ = some (.slice A1 ws.length c1) ∧ wr.cell? ⟨w.heap.size, 2, none⟩ = some (.slice A2 nums.length c2) ∧ wr.cell? ⟨w.heap.size, 3, none⟩ = some (.slice A3 ks.length c3) ∧ wr.cell? ⟨w.heap.size, 4, none⟩ = some (.int .i64 ps)) ∧ Below w.heap.size w wr)
  case atStart => exact ⟨0, rfl, Nat.zero_le _, rfl, rfl, K1.out⟩
  case round =>
    clear K1 g0 g1 g2 g3 g4
    obtain ⟨i, rfl, hi, hgk, hall, hS⟩ := hrel
    have K1 := Lib.hid hS
    obtain ⟨⟨g0, g1, g2, g3, g4⟩, _⟩ := hS
    by_cases hin : i = ks.length - 1
    · rw [hin] at hall
      have HA := Lib.hid hall
      have ti : ¬ (i : Int) < (ks.length : Int) - 1 := by omega
      clear hall hgk
      have WF := Lib.hid (show ∀ wr : World, Below w.heap.size w wr → Calls Tryd.prog 25 #[.agg #[.int .i64 4, .slice A1 ws.length c1, .slice A2 nums.length c2, .slice A3 ks.length c3, .int .i64 ps], .int .i64 1, .int .i64 1] wr fun e w' => e = .returned (.bool (wordsR ⟨4, ws, nums, ks, ps⟩ 1 1)) ∧ Below wr.heap.size wr w' from fun wr hb => WR.out wr hb 1 1)
      generalize hqW : wordsR ⟨4, ws, nums, ks, ps⟩ 1 1 = W at WF
      have QW := Lib.hid hqW
      clear hqW
      cases W
      · go_wp2_with (first
          | (go_at_call 25; (with_reducible refine (WF.out wr (bl_of K1.out)).mono ?_); rintro e2 w2 ⟨rfl, hb2⟩; have K2 := Lib.hid (STB.out _ _ hb2 K1.out); obtain ⟨⟨k20, k21, k22, k23, k24⟩, _⟩ := id K2.out; clear hb2))
        go_ret
        exact ⟨ok_no, bl_of K2.out⟩
      · have NF := Lib.hid (show ∀ wr : World, Below w.heap.size w wr → Calls Tryd.prog 26 #[.agg #[.int .i64 4, .slice A1 ws.length c1, .slice A2 nums.length c2, .slice A3 ks.length c3, .int .i64 ps]] wr fun e w' => e = .returned (.bool (noneR ⟨4, ws, nums, ks, ps⟩)) ∧ Below wr.heap.size wr w' from fun wr hb => NO0.out wr hb)
        generalize hqN : noneR ⟨4, ws, nums, ks, ps⟩ = N at NF
        have QN := Lib.hid hqN
        clear hqN
        cases N
        · go_wp2_with (first
            | (go_at_call 25; (with_reducible refine (WF.out wr (bl_of K1.out)).mono ?_); rintro e2 w2 ⟨rfl, hb2⟩; have K2 := Lib.hid (STB.out _ _ hb2 K1.out); obtain ⟨⟨k20, k21, k22, k23, k24⟩, _⟩ := id K2.out; clear hb2)
            | (go_at_call 26; (with_reducible refine (NF.out w2 (bl_of K2.out)).mono ?_); rintro e3 w3 ⟨rfl, hb3⟩; have K3 := Lib.hid (STB.out _ _ hb3 K2.out); obtain ⟨⟨k30, k31, k32, k33, k34⟩, _⟩ := id K3.out; clear hb3))
          go_ret
          exact ⟨ok_no, bl_of K3.out⟩
        · by_cases qk : 0 < ks.length
          · have tk : (0 : Int) < (ks.length : Int) := by omega
            have QK := Lib.hid qk
            have e1 : (ks.length : Int) - 1 = ((ks.length - 1 : Nat) : Int) := by have := QK.out; omega
            have ZG := Lib.hid (show ∀ wr : World, Below w.heap.size w wr → Calls Tryd.prog 28 #[v, .agg #[.int .i64 4, .slice A1 ws.length c1, .slice A2 nums.length c2, .slice A3 ks.length c3, .int .i64 ps], .int .i64 ((ks.length : Int) - 1)] wr fun e w' => e = .returned (.int .i64 (kdR ns ⟨4, ws, nums, ks, ps⟩ (ks.length - 1))) ∧ Below wr.heap.size wr w' from fun wr hb => by rw [e1]; exact KD0.out wr hb (ks.length - 1) (by have := QK.out; omega))
            generalize hz : kdR ns ⟨4, ws, nums, ks, ps⟩ (ks.length - 1) = Z at ZG
            have QZ := Lib.hid hz
            clear hz e1
            cases z7 : (Z == 7)
            · go_wp2_with (first
                | (go_at_call 25; (with_reducible refine (WF.out wr (bl_of K1.out)).mono ?_); rintro e2 w2 ⟨rfl, hb2⟩; have K2 := Lib.hid (STB.out _ _ hb2 K1.out); obtain ⟨⟨k20, k21, k22, k23, k24⟩, _⟩ := id K2.out; clear hb2)
                | (go_at_call 26; (with_reducible refine (NF.out w2 (bl_of K2.out)).mono ?_); rintro e3 w3 ⟨rfl, hb3⟩; have K3 := Lib.hid (STB.out _ _ hb3 K2.out); obtain ⟨⟨k30, k31, k32, k33, k34⟩, _⟩ := id K3.out; clear hb3)
                | (go_at_call 28; (with_reducible refine (ZG.out w3 (bl_of K3.out)).mono ?_); rintro e4 w4 ⟨rfl, hb4⟩; have K4 := Lib.hid (STB.out _ _ hb4 K3.out); obtain ⟨⟨k40, k41, k42, k43, k44⟩, _⟩ := id K4.out; clear hb4))
              go_ret
              exact ⟨ok_no, bl_of K4.out⟩
            · have Z7 := Lib.hid (show Z = 7 by simpa using z7)
              go_wp2_with (first
                | (go_at_call 25; (with_reducible refine (WF.out wr (bl_of K1.out)).mono ?_); rintro e2 w2 ⟨rfl, hb2⟩; have K2 := Lib.hid (STB.out _ _ hb2 K1.out); obtain ⟨⟨k20, k21, k22, k23, k24⟩, _⟩ := id K2.out; clear hb2)
                | (go_at_call 26; (with_reducible refine (NF.out w2 (bl_of K2.out)).mono ?_); rintro e3 w3 ⟨rfl, hb3⟩; have K3 := Lib.hid (STB.out _ _ hb3 K2.out); obtain ⟨⟨k30, k31, k32, k33, k34⟩, _⟩ := id K3.out; clear hb3)
                | (go_at_call 28; (with_reducible refine (ZG.out w3 (bl_of K3.out)).mono ?_); rintro e4 w4 ⟨rfl, hb4⟩; have K4 := Lib.hid (STB.out _ _ hb4 K3.out); obtain ⟨⟨k40, k41, k42, k43, k44⟩, _⟩ := id K4.out; clear hb4))
              go_ret
              exact ⟨ok_yes (val_fn2 HA.out QW.out QN.out QK.out (QZ.out.trans Z7.out)), bl_of K4.out⟩
          · have tk : ¬ (0 : Int) < (ks.length : Int) := by omega
            have tk2 : (ks.length : Int) ≤ 0 := by omega
            go_wp2_with (first
              | (go_at_call 25; (with_reducible refine (WF.out wr (bl_of K1.out)).mono ?_); rintro e2 w2 ⟨rfl, hb2⟩; have K2 := Lib.hid (STB.out _ _ hb2 K1.out); obtain ⟨⟨k20, k21, k22, k23, k24⟩, _⟩ := id K2.out; clear hb2)
              | (go_at_call 26; (with_reducible refine (NF.out w2 (bl_of K2.out)).mono ?_); rintro e3 w3 ⟨rfl, hb3⟩; have K3 := Lib.hid (STB.out _ _ hb3 K2.out); obtain ⟨⟨k30, k31, k32, k33, k34⟩, _⟩ := id K3.out; clear hb3))
            go_ret
            exact ⟨ok_no, bl_of K3.out⟩
    · have hlt : i < ks.length := by omega
      obtain ⟨z, hz⟩ : ∃ z, ks[i]? = some z := ⟨_, List.getElem?_eq_getElem hlt⟩
      have nxt := all_snoc (f := fun k => (isB [5]) (kindAt ns k)) hz hall
      have kk : kdR ns ⟨4, ws, nums, ks, ps⟩ i = kindAt ns z := by unfold kdR; dsimp only; rw [atI_of hz]
      have KF := Lib.hid (fun (wz : World) (hz : Below w.heap.size w wz) => KD0.out wz hz i hlt)
      rw [kk] at KF
      have ti : (i : Int) < (ks.length : Int) - 1 := by omega
      have ti2 : (0 : Int) ≤ (i : Int) := by omega
      have wk : IntKind.i64.wrap ((i : Int) + 1) = (i : Int) + 1 := IntWalk.i64_in _ (by have := KL.out; unfold maxLen at this; omega)
      have HI := Lib.hid (And.intro hlt (And.intro hgk nxt))
      clear hgk nxt hz hall kk hin hlt hi
      generalize kindAt ns z = Z at *
      cases z5 : (Z == 5)
      · have u5 : (Z != 5) = true := by rw [bne, z5]; rfl
        go_wp2_with (first
          | (go_at_call 28; (with_reducible refine (KF.out wr (bl_of K1.out)).mono ?_); rintro e2 w2 ⟨rfl, hb2⟩; have K2 := Lib.hid (STB.out _ _ hb2 K1.out); obtain ⟨⟨k20, k21, k22, k23, k24⟩, _⟩ := id K2.out; clear hb2))
        go_ret
        exact ⟨ok_no, bl_of K2.out⟩
      · have u5 : (Z != 5) = false := by rw [bne, z5]; rfl
        have TZ := Lib.hid (show isB [5] Z = true from by unfold isB; rw [List.contains_cons, z5]; rfl)
        go_wp2_with (first
          | (go_at_call 28; (with_reducible refine (KF.out wr (bl_of K1.out)).mono ?_); rintro e2 w2 ⟨rfl, hb2⟩; have K2 := Lib.hid (STB.out _ _ hb2 K1.out); obtain ⟨⟨k20, k21, k22, k23, k24⟩, _⟩ := id K2.out; clear hb2))
        go_roundg (ks.length - 1 - (i + 1))
        case measure => have := HI.out; omega
        case rel => exact ⟨i + 1, by push_cast; rfl, by have := HI.out; omega, rfl, HI.out.2.2.trans (TZ.out), K2.out⟩

set_option maxRecDepth 10000 in
set_option maxHeartbeats 8000000 in
theorem rinner_call (w : World) (v : Value) (ns : List Nd) (va vb vc : Value) (ws : List (List UInt8)) (nums ks : List Int) (ps : Int) (hN : NodesAt w v ns) (hx : NdAt w ((va, vb, vc), ⟨14, ws, nums, ks, ps⟩)) (hk : KidsIn ks ns.length) :
    Calls Tryd.prog 29 #[v, ndV ((va, vb, vc), ⟨14, ws, nums, ks, ps⟩)] w fun e w' => OkB (validB ns ⟨14, ws, nums, ks, ps⟩ = true) e ∧ Below w.heap.size w w' := by
  obtain ⟨h1, h2, h3⟩ := id hx
  dsimp only at h1 h2 h3
  have WR := Lib.hid (fun (wr : World) (hb : Below w.heap.size w wr) (a b : Int) => rwords_any wr _ a b (hx.below hb))
  have NO0 := Lib.hid (fun (wr : World) (hb : Below w.heap.size w wr) => rnone_any wr _ (hx.below hb))
  have KD0 := Lib.hid (fun (wr : World) (hb : Below w.heap.size w wr) (i : Nat) (hi : i < ks.length) => rkid_any wr v ns _ i (hN.below hb) (hx.below hb) hk hi)
  have BL0 := Lib.hid (fun (wr : World) (hb : Below w.heap.size w wr) (f : Nat) (a b : Int) (hf : f ≤ ks.length) (hf1 : f ≤ 1) => rblocks_any wr v ns _ f a b (hN.below hb) (hx.below hb) hk hf hf1)
  have FR0 := Lib.hid (fun (hl : nums.length = 3) (wr : World) (hb : Below w.heap.size w wr) => rfrac_any wr _ (hx.below hb) hl)
  obtain ⟨A1, c1, rfl, _⟩ := h1
  obtain ⟨A2, c2, rfl, _, _, R2'⟩ := h2
  have KL := Lib.hid h3.len
  obtain ⟨A3, c3, rfl, _⟩ := h3
  have R2 := Lib.hid R2'
  unfold ndV at WR NO0 KD0 BL0 FR0 ⊢
  dsimp only at WR NO0 KD0 BL0 FR0 ⊢
  have STB := Lib.hid (show Stb (fun w' => (w'.cell? ⟨w.heap.size, 0, none⟩ = some (.int .i64 14) ∧ w'.cell? ⟨w.heap.size, 1, none⟩ = some (.slice A1 ws.length c1) ∧ w'.cell? ⟨w.heap.size, 2, none⟩ = some (.slice A2 nums.length c2) ∧ w'.cell? ⟨w.heap.size, 3, none⟩ = some (.slice A3 ks.length c3) ∧ w'.cell? ⟨w.heap.size, 4, none⟩ = some (.int .i64 ps)) ∧ Below w.heap.size w w') from stb_and (stb_and (stb_cell _ _) (stb_and (stb_cell _ _) (stb_and (stb_cell _ _) (stb_and (stb_cell _ _) (stb_cell _ _))))) (stb_below w))
  have HS1 : ((w.alloc (.cells #[.int .i64 14, .slice A1 ws.length c1, .slice A2 nums.length c2, .slice A3 ks.length c3, .int .i64 ps] 30)).cell? ⟨w.heap.size, 0, none⟩ = some (.int .i64 14) ∧ (w.alloc (.cells #[.int .i64 14, .slice A1 ws.length c1, .slice A2 nums.length c2, .slice A3 ks.length c3, .int .i64 ps] 30)).cell? ⟨w.heap.size, 1, none⟩ = some (.slice A1 ws.length c1) ∧ (w.alloc (.cells #[.int .i64 14, .slice A1 ws.length c1, .slice A2 nums.length c2, .slice A3 ks.length c3, .int .i64 ps] 30)).cell? ⟨w.heap.size, 2, none⟩ = some (.slice A2 nums.length c2) ∧ (w.alloc (.cells #[.int .i64 14, .slice A1 ws.length c1, .slice A2 nums.length c2, .slice A3 ks.length c3, .int .i64 ps] 30)).cell? ⟨w.heap.size, 3, none⟩ = some (.slice A3 ks.length c3) ∧ (w.alloc (.cells #[.int .i64 14, .slice A1 ws.length c1, .slice A2 nums.length c2, .slice A3 ks.length c3, .int .i64 ps] 30)).cell? ⟨w.heap.size, 4, none⟩ = some (.int .i64 ps)) ∧ Below w.heap.size w (w.alloc (.cells #[.int .i64 14, .slice A1 ws.length c1, .slice A2 nums.length c2, .slice A3 ks.length c3, .int .i64 ps] 30)) := ⟨⟨(Blk.start w _ _).cell 0, (Blk.start w _ _).cell 1, (Blk.start w _ _).cell 2, (Blk.start w _ _).cell 3, (Blk.start w _ _).cell 4⟩, below_alloc1 w _⟩
  have K1 := Lib.hid HS1
  obtain ⟨⟨g0, g1, g2, g3, g4⟩, _⟩ := HS1
  clear R2' hx hN hk
  go_enter Tryd.func29, Tryd.ntmps29
  go_upto_region 1 with fail
  generalize (w.alloc (.cells #[.int .i64 14, .slice A1 ws.length c1, .slice A2 nums.length c2, .slice A3 ks.length c3, .int .i64 ps] 30)) = w1 at *
  go_wp2_with fail
  go_loopg [8] (ks.length) (fun gk vi wr => ∃ i : Nat, vi = .int .i64 i ∧ i ≤ ks.length ∧ gk = ks.length - i ∧ allB ns (ks.take i) argB = true ∧ (wr.cell? ⟨w.heap.size, 0, none⟩ = some (.int .i64 14) ∧ wr.cell? ⟨w.heap.size, 1, none⟩ = some (.slice A1 ws.length c1) ∧ wr.cell? ⟨w.heap.size, 2, none⟩ = some (.slice A2 nums.length c2) ∧ wr.cell? ⟨w.heap.size, 3, none⟩ = some (.slice A3 ks.length c3) ∧ wr.cell? ⟨w.heap.size, 4, none⟩ = some (.int .i64 ps)) ∧ Below w.heap.size w wr)
  case atStart => exact ⟨0, rfl, Nat.zero_le _, rfl, rfl, K1.out⟩
  case round =>
    clear K1 g0 g1 g2 g3 g4
    obtain ⟨i, rfl, hi, hgk, hall, hS⟩ := hrel
    have K1 := Lib.hid hS
    obtain ⟨⟨g0, g1, g2, g3, g4⟩, _⟩ := hS
    by_cases hin : i = ks.length
    · have e : ks.take i = ks := by rw [hin]; exact List.take_length
      rw [e] at hall
      have HA := Lib.hid hall
      have ti : ¬ (i : Int) < (ks.length : Int) := by omega
      clear e hall hgk
      have WF := Lib.hid (show ∀ wr : World, Below w.heap.size w wr → Calls Tryd.prog 25 #[.agg #[.int .i64 14, .slice A1 ws.length c1, .slice A2 nums.length c2, .slice A3 ks.length c3, .int .i64 ps], .int .i64 1, .int .i64 2] wr fun e w' => e = .returned (.bool (wordsR ⟨14, ws, nums, ks, ps⟩ 1 2)) ∧ Below wr.heap.size wr w' from fun wr hb => WR.out wr hb 1 2)
      generalize hqW : wordsR ⟨14, ws, nums, ks, ps⟩ 1 2 = W at WF
      have QW := Lib.hid hqW
      clear hqW
      cases W
      · go_wp2_with (first
          | (go_at_call 25; (with_reducible refine (WF.out wr (bl_of K1.out)).mono ?_); rintro e2 w2 ⟨rfl, hb2⟩; have K2 := Lib.hid (STB.out _ _ hb2 K1.out); obtain ⟨⟨k20, k21, k22, k23, k24⟩, _⟩ := id K2.out; clear hb2))
        go_ret
        exact ⟨ok_no, bl_of K2.out⟩
      · have NF := Lib.hid (show ∀ wr : World, Below w.heap.size w wr → Calls Tryd.prog 26 #[.agg #[.int .i64 14, .slice A1 ws.length c1, .slice A2 nums.length c2, .slice A3 ks.length c3, .int .i64 ps]] wr fun e w' => e = .returned (.bool (noneR ⟨14, ws, nums, ks, ps⟩)) ∧ Below wr.heap.size wr w' from fun wr hb => NO0.out wr hb)
        generalize hqN : noneR ⟨14, ws, nums, ks, ps⟩ = N at NF
        have QN := Lib.hid hqN
        clear hqN
        cases N
        · go_wp2_with (first
            | (go_at_call 25; (with_reducible refine (WF.out wr (bl_of K1.out)).mono ?_); rintro e2 w2 ⟨rfl, hb2⟩; have K2 := Lib.hid (STB.out _ _ hb2 K1.out); obtain ⟨⟨k20, k21, k22, k23, k24⟩, _⟩ := id K2.out; clear hb2)
            | (go_at_call 26; (with_reducible refine (NF.out w2 (bl_of K2.out)).mono ?_); rintro e3 w3 ⟨rfl, hb3⟩; have K3 := Lib.hid (STB.out _ _ hb3 K2.out); obtain ⟨⟨k30, k31, k32, k33, k34⟩, _⟩ := id K3.out; clear hb3))
          go_ret
          exact ⟨ok_no, bl_of K3.out⟩
        · go_wp2_with (first
            | (go_at_call 25; (with_reducible refine (WF.out wr (bl_of K1.out)).mono ?_); rintro e2 w2 ⟨rfl, hb2⟩; have K2 := Lib.hid (STB.out _ _ hb2 K1.out); obtain ⟨⟨k20, k21, k22, k23, k24⟩, _⟩ := id K2.out; clear hb2)
            | (go_at_call 26; (with_reducible refine (NF.out w2 (bl_of K2.out)).mono ?_); rintro e3 w3 ⟨rfl, hb3⟩; have K3 := Lib.hid (STB.out _ _ hb3 K2.out); obtain ⟨⟨k30, k31, k32, k33, k34⟩, _⟩ := id K3.out; clear hb3))
          go_ret
          exact ⟨ok_yes (val_call HA.out QW.out QN.out), bl_of K3.out⟩
    · have hlt : i < ks.length := by omega
      obtain ⟨z, hz⟩ : ∃ z, ks[i]? = some z := ⟨_, List.getElem?_eq_getElem hlt⟩
      have nxt := all_snoc (f := fun k => argB (kindAt ns k)) hz hall
      have kk : kdR ns ⟨14, ws, nums, ks, ps⟩ i = kindAt ns z := by unfold kdR; dsimp only; rw [atI_of hz]
      have KF := Lib.hid (fun (wz : World) (hz : Below w.heap.size w wz) => KD0.out wz hz i hlt)
      rw [kk] at KF
      have ti : (i : Int) < (ks.length : Int) := by omega
      have ti2 : (0 : Int) ≤ (i : Int) := by omega
      have wk : IntKind.i64.wrap ((i : Int) + 1) = (i : Int) + 1 := IntWalk.i64_in _ (by have := KL.out; unfold maxLen at this; omega)
      have HI := Lib.hid (And.intro hlt (And.intro hgk nxt))
      clear hgk nxt hz hall kk hin hlt hi
      generalize kindAt ns z = Z at *
      have SF := Lib.hid (fun wr => rexpr_any wr Z)
      generalize hq : exprB Z = X at SF
      have TX := Lib.hid hq
      clear hq
      cases X
      · cases z15 : (Z == 15)
        · have u15 : (Z != 15) = true := by rw [bne, z15]; rfl
          go_wp2_with (first
            | (go_at_call 28; (with_reducible refine (KF.out wr (bl_of K1.out)).mono ?_); rintro e2 w2 ⟨rfl, hb2⟩; have K2 := Lib.hid (STB.out _ _ hb2 K1.out); obtain ⟨⟨k20, k21, k22, k23, k24⟩, _⟩ := id K2.out; clear hb2)
            | (go_at_call 27; (with_reducible refine (SF.out w2).mono ?_); rintro _ _ ⟨rfl, rfl⟩)
            | (go_at_call 28; (with_reducible refine (KF.out w2 (bl_of K2.out)).mono ?_); rintro e3 w3 ⟨rfl, hb3⟩; have K3 := Lib.hid (STB.out _ _ hb3 K2.out); obtain ⟨⟨k30, k31, k32, k33, k34⟩, _⟩ := id K3.out; clear hb3))
          go_ret
          exact ⟨ok_no, bl_of K3.out⟩
        · have u15 : (Z != 15) = false := by rw [bne, z15]; rfl
          have TZ := Lib.hid (show argB Z = true from by unfold argB; rw [z15]; rfl)
          go_wp2_with (first
            | (go_at_call 28; (with_reducible refine (KF.out wr (bl_of K1.out)).mono ?_); rintro e2 w2 ⟨rfl, hb2⟩; have K2 := Lib.hid (STB.out _ _ hb2 K1.out); obtain ⟨⟨k20, k21, k22, k23, k24⟩, _⟩ := id K2.out; clear hb2)
            | (go_at_call 27; (with_reducible refine (SF.out w2).mono ?_); rintro _ _ ⟨rfl, rfl⟩)
            | (go_at_call 28; (with_reducible refine (KF.out w2 (bl_of K2.out)).mono ?_); rintro e3 w3 ⟨rfl, hb3⟩; have K3 := Lib.hid (STB.out _ _ hb3 K2.out); obtain ⟨⟨k30, k31, k32, k33, k34⟩, _⟩ := id K3.out; clear hb3))
          go_roundg (ks.length - (i + 1))
          case measure => have := HI.out; omega
          case rel => exact ⟨i + 1, by push_cast; rfl, by have := HI.out; omega, rfl, HI.out.2.2.trans (TZ.out), K3.out⟩
      · have TZ := Lib.hid (show argB Z = true from by unfold argB; rw [TX.out, Bool.or_true])
        go_wp2_with (first
          | (go_at_call 28; (with_reducible refine (KF.out wr (bl_of K1.out)).mono ?_); rintro e2 w2 ⟨rfl, hb2⟩; have K2 := Lib.hid (STB.out _ _ hb2 K1.out); obtain ⟨⟨k20, k21, k22, k23, k24⟩, _⟩ := id K2.out; clear hb2)
          | (go_at_call 27; (with_reducible refine (SF.out w2).mono ?_); rintro _ _ ⟨rfl, rfl⟩))
        go_roundg (ks.length - (i + 1))
        case measure => have := HI.out; omega
        case rel => exact ⟨i + 1, by push_cast; rfl, by have := HI.out; omega, rfl, HI.out.2.2.trans (TZ.out), K2.out⟩
end Go.Proofs.YtabnjiijgbigbaaDoor
