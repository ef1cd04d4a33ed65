/-
  The walk of LexBig. (Template: by-name.py fills it.)
-/
import Derived.Test.YtmmlmbfnabgobaaDoorLexL
import Derived.Laws.IdiomStrings
import Derived.Laws.MakeOwn
namespace Go.Proofs.YtmmlmbfnabgobaaDoor
open Go.RowKit

theorem blanks_rep : ∀ k : Nat, blanksL (List.replicate k 32) = k
  | 0 => blanksL_nil
  | k + 1 => by rw [List.replicate_succ, blanksL_blk (by decide), blanks_rep k]
theorem res_rep (k : Nat) : resOf (List.replicate k 32) = if k ≤ 6000 then ([(3, [], k)], 0, 0) else ([], 13, 0) := by
  by_cases h : k ≤ 6000
  · rw [if_pos h, res_of_ok (by simpa using h) (lexR_end (by rw [blanks_rep, List.length_replicate]))]
    simp
  · rw [if_neg h, res_of_big (by simpa using h)]
theorem wf_u16 {n : Int} (h : (Lit.int .u16 n).wf = true) : 0 ≤ n ∧ n ≤ 65535 := by
  simp only [Lit.wf, Bool.and_eq_true, decide_eq_true_eq] at h
  have a : IntKind.u16.min = 0 := by decide
  have b : IntKind.u16.max = 65535 := by decide
  rw [a, b] at h
  exact h

theorem infoU8 : (Tryd.prog.info? 5).map (fun i => (i.zero, i.size, i.bytes)) = some (some (.int .u8 0), 1, 1) := by kernel_rfl
set_option maxRecDepth 10000 in
set_option maxHeartbeats 8000000 in
theorem lexbig_any (w : World) (ht : Tabs w) (n : Int) (hn : (Lit.int .u16 n).wf = true) : Calls Tryd.prog 6 #[.int .u16 n] w fun e w' => e = .returned (.bool true) ∧ Below w.heap.size w w' := by
  obtain ⟨n0, n1⟩ := wf_u16 hn
  obtain ⟨k, hk⟩ : ∃ k : Nat, n % 7000 = k := ⟨(n % 7000).toNat, by omega⟩
  have k1 : k < 7000 := by omega
  have aw := fun w' (h : Below w.heap.size w w') => awake_yes w' (ht.below h)
  have AW := Lib.hid aw
  clear aw hn
  obtain ⟨iU, hiU, z0, z1, z2⟩ := info_parts infoU8
  have hmk : ∀ w : World, (Instr.makeSlice 35 (.int .i64 k) (.int .i64 k)).run Tryd.prog w = .ok (.slice (some ⟨w.heap.size, 0, none⟩) k k) (w.alloc (.cells (madeCells (Value.int .u8 0).cells (k * 1)) 5)) := fun w => by
    have := run_makeSlice (P := Tryd.prog) (w := w) 35 5 iU (.int .u8 0) Tryd.underlying35 hiU z0 .i64 .i64 k k (by omega) (by omega) (by rw [z1]; simp; omega) (by rw [z2]; omega) (by omega)
    rw [z1] at this
    exact this
  have hms : (madeCells (Value.int .u8 0).cells (k * 1)).size = k := by rw [size_madeCells, Nat.mul_one]
  generalize madeCells (Value.int .u8 0).cells (k * 1) = MC at *
  have K1 := Lib.hid k1
  go_enter Tryd.func6, Tryd.ntmps6
  go_upto_region 3 with (go_at_call 10; (with_reducible refine (AW.out _ (Below.refl _ _)).mono ?_); rintro e w1 ⟨rfl, bb⟩)
  go_upto_region 4 with fail
  clear hk n0 n1 hmk hiU z0 z1 z2
  have B0 := Blk.start w1 MC 5
  have a1 := below_alloc1 w1 (.cells MC 5)
  have b1 := bb.trans (a1.mono bb.size)
  have hlo := bb.size
  have HB := Lib.hid (And.intro b1 (And.intro B0 (And.intro hms hlo)))
  clear b1 B0 a1 bb hms hlo
  generalize w1.heap.size = b at *
  generalize w1.alloc (.cells MC 5) = w2 at *
  go_wp2_with fail
  go_loopg [4] k (fun g v4 wr => ∃ (j : Nat) (cs : Array Value), v4 = .int .i64 j ∧ j ≤ k ∧ g = k - j ∧ Blk wr b cs ∧ cs.size = k ∧ (∀ i, i < j → cs[i]? = some (.int .u8 32)) ∧ Below w.heap.size w wr)
  case atStart => exact ⟨0, MC, rfl, Nat.zero_le _, rfl, HB.out.2.1, HB.out.2.2.1, fun i hi => absurd hi (Nat.not_lt_zero _), HB.out.1⟩
  case round =>
    obtain ⟨j, cs, rfl, hj, hg, hB, hz, hall, hb⟩ := hrel
    by_cases hlt : j < k
    · have c0 := hB.cell j
      rw [Array.getElem?_eq_getElem (by omega)] at c0
      have c1 := hB.free j
      have i1 : (j : Int) < (k : Int) := by omega
      have i2 : (0 : Int) ≤ (j : Int) := by omega
      have wj : IntKind.i64.wrap ((j : Int) + 1) = (j : Int) + 1 := IntWalk.i64_in _ (by omega)
      have HH := Lib.hid (And.intro hlt (And.intro hg (And.intro hB (And.intro hz (And.intro hall hb)))))
      generalize cs[j] = u at *
      clear hg hB hz hall hb hlt
      go_wp2_with fail
      go_roundg (k - (j + 1))
      case measure => have := HH.out; omega
      case rel => exact ⟨j + 1, cs.setIfInBounds j (.int .u8 32), by push_cast; rfl, by have := HH.out; omega, rfl, HH.out.2.2.1.set j _, by rw [Array.size_setIfInBounds]; exact HH.out.2.2.2.1, fun i hi => by
          rw [Array.getElem?_setIfInBounds]
          split
          · rename_i e
            rw [if_pos (by have := HH.out; omega)]
          · exact HH.out.2.2.2.2.1 i (by omega), HH.out.2.2.2.2.2.setCell (p := ⟨b, j, none⟩) HB.out.2.2.2 _⟩
    · obtain rfl : j = k := by omega
      have hcv : (convert 35 9 (.slice (some ⟨b, 0, none⟩) j j)).run Tryd.prog wr = .ok (.string ⟨(List.replicate j (32 : UInt8)).toArray⟩) wr := by
        have := run_convert_bytes_back (P := Tryd.prog) wr 35 9 5 ⟨b, 0, none⟩ j (List.replicate j (32 : UInt8)) Tryd.underlying35 Tryd.underlying5 Tryd.underlying9 (fun i hi => by
          have e : (⟨b, 0, none⟩ : Addr).add i = ⟨b, i, none⟩ := by unfold Addr.add; split <;> simp_all
          rw [e, hB.cell i, hall i (by simpa using hi), List.getElem_replicate]
          rfl)
        rwa [List.length_replicate] at this
      have ta := tokens_res ⟨(List.replicate j (32 : UInt8)).toArray⟩ wr (ht.below hb).1
      rw [show (⟨(List.replicate j (32 : UInt8)).toArray⟩ : ByteArray).data.toList = List.replicate j 32 from rfl, res_rep] at ta
      have HH := Lib.hid hb
      generalize (⟨(List.replicate j (32 : UInt8)).toArray⟩ : ByteArray) = S at *
      by_cases h6 : j ≤ 6000
      · rw [if_pos h6] at ta
        have d6 : ¬ (6000 : Int) < (j : Int) := by omega
        have TA := Lib.hid ta
        clear ta hg hB hz hall hb hlt h6 hj
        go_upto_region 9 with (go_at_call 11; (with_reducible refine TA.out.mono ?_); rintro e w2 ⟨A, c, rfl, hT, hb⟩)
        (try dsimp only at hT hb)
        have F1 := Blk.start w2 #[.int .i64 0, .int .i64 0] 26
        have a1 := below_alloc1 w2 (.cells #[.int .i64 0, .int .i64 0] 26)
        have b1 := hb.trans (a1.mono hb.size)
        have HC := Lib.hid (And.intro (HH.out.trans (b1.mono HH.out.size)) (And.intro F1 (hT.below a1)))
        clear hT hb F1 a1 b1
        generalize w2.heap.size = bf at *
        generalize w2.alloc (.cells #[.int .i64 0, .int .i64 0] 26) = w3 at *
        obtain ⟨Az, cz, eq, _, _, hr⟩ := HC.out.2.2
        obtain ⟨rfl, rfl⟩ : A = Az ∧ c = cz := by injection eq with a b c; exact ⟨a, c⟩
        obtain ⟨ad, rfl, _, hc⟩ := hr.2 (by simp)
        have c0 : w3.cell? ad = some (.int .i64 3) := hc 0 _ rfl
        have c1 : w3.cell? ⟨ad.block, ad.off + 1, none⟩ = some (txt []) := hc 1 _ rfl
        have c2 : w3.cell? ⟨ad.block, ad.off + 2, none⟩ = some (.int .i64 j) := hc 2 _ rfl
        have f0 := HC.out.2.1.cell 0
        have f1 := HC.out.2.1.cell 1
        clear hr hc eq
        go_wp2_with fail
        go_ret
        exact ⟨rfl, HC.out.1⟩
      · rw [if_neg h6] at ta
        have d6 : (6000 : Int) < (j : Int) := by omega
        have TA := Lib.hid ta
        clear ta hg hB hz hall hb hlt h6 hj
        go_upto_region 9 with (go_at_call 11; (with_reducible refine TA.out.mono ?_); rintro e w2 ⟨A, c, rfl, hT, hb⟩)
        (try dsimp only at hT hb)
        have F1 := Blk.start w2 #[.int .i64 13, .int .i64 0] 26
        have a1 := below_alloc1 w2 (.cells #[.int .i64 13, .int .i64 0] 26)
        have b1 := hb.trans (a1.mono hb.size)
        have HC := Lib.hid (And.intro (HH.out.trans (b1.mono HH.out.size)) F1)
        clear hT hb F1 a1 b1
        generalize w2.heap.size = bf at *
        generalize w2.alloc (.cells #[.int .i64 13, .int .i64 0] 26) = w3 at *
        have f0 := HC.out.2.cell 0
        have f1 := HC.out.2.cell 1
        go_wp2_with fail
        go_ret
        exact ⟨rfl, HC.out.1⟩
end Go.Proofs.YtmmlmbfnabgobaaDoor
