/-
  The walk of the statement TreeChains. (Template: by-name.py fills it.)
-/
import Derived.Test.YtmbgonhonckfhaaDoorTreZ
namespace Go.Proofs.YtmbgonhonckfhaaDoor
open Go.RowKit

theorem tc_u8 {n : Int} (h : (Lit.int .u8 n).wf = true) : 0 ≤ n ∧ n ≤ 255 := by
  simp only [Lit.wf, Bool.and_eq_true, decide_eq_true_eq] at h
  have a : IntKind.u8.min = 0 := by decide
  have b : IntKind.u8.max = 255 := by decide
  rw [a, b] at h
  exact h
theorem one_blk {w : World} {b : Nat} {u : Value} {own : Option Nat} (h : Blk w b #[u]) (hne : own ≠ some b) : OneAt w own (.slice (some ⟨b, 0, none⟩) 1 1) [u] := .inr ⟨b, u, rfl, rfl, h, hne⟩
/-- The first four nodes, in memory. -/
theorem chain_start (w w1 : World) (hb : Below w.heap.size w w1) (t1 t2 : TypeId) :
    ∃ we : World, we = ((((w1.alloc (.cells #[.int .i64 1] t1)).alloc (.cells #[txt [102]] t2)).alloc (.cells #[.int .i64 2] t1)).alloc (.cells #[.int .i64 3] t1)).alloc (.cells #[.int .i64 4] t1) ∧ we.heap.size = w1.heap.size + 1 + 1 + 1 + 1 + 1 ∧
      ∃ rs : List (NdV × Nd), rs.map (·.2) = chainL 0 ∧ nodeCells rs = [.int .i64 0, .slice none 0 0, .slice none 0 0, .slice (some ⟨w1.heap.size, 0, none⟩) 1 1, .int .i64 0, .int .i64 4, .slice (some ⟨w1.heap.size + 1, 0, none⟩) 1 1, .slice none 0 0, .slice (some ⟨w1.heap.size + 1 + 1, 0, none⟩) 1 1, .int .i64 0, .int .i64 7, .slice none 0 0, .slice none 0 0, .slice (some ⟨w1.heap.size + 1 + 1 + 1, 0, none⟩) 1 1, .int .i64 0, .int .i64 18, .slice none 0 0, .slice none 0 0, .slice (some ⟨w1.heap.size + 1 + 1 + 1 + 1, 0, none⟩) 1 1, .int .i64 0] ∧
        RowN w (we.alloc (.cells (nodeCells rs).toArray 30)) (.slice (some ⟨w1.heap.size + 1 + 1 + 1 + 1 + 1, 0, none⟩) 4 4) rs := by
  have SZ : (((((w1.alloc (.cells #[.int .i64 1] t1)).alloc (.cells #[txt [102]] t2)).alloc (.cells #[.int .i64 2] t1)).alloc (.cells #[.int .i64 3] t1)).alloc (.cells #[.int .i64 4] t1)).heap.size = w1.heap.size + 1 + 1 + 1 + 1 + 1 := by simp only [World.size_alloc]
  refine ⟨_, rfl, SZ, ?_⟩
  rw [← SZ]
  clear SZ
  have b1 := Blk.start w1 #[.int .i64 1] t1
  have a1 := below_alloc1 w1 (.cells #[.int .i64 1] t1)
  generalize hw2 : w1.alloc (.cells #[.int .i64 1] t1) = w2 at *
  have s2 : w2.heap.size = w1.heap.size + 1 := by rw [← hw2, World.size_alloc]
  have b2 := Blk.start w2 #[txt [102]] t2
  have a2 := below_alloc1 w2 (.cells #[txt [102]] t2)
  generalize hw3 : w2.alloc (.cells #[txt [102]] t2) = w3 at *
  have s3 : w3.heap.size = w2.heap.size + 1 := by rw [← hw3, World.size_alloc]
  have b3 := Blk.start w3 #[.int .i64 2] t1
  have a3 := below_alloc1 w3 (.cells #[.int .i64 2] t1)
  generalize hw4 : w3.alloc (.cells #[.int .i64 2] t1) = w4 at *
  have s4 : w4.heap.size = w3.heap.size + 1 := by rw [← hw4, World.size_alloc]
  have b4 := Blk.start w4 #[.int .i64 3] t1
  have a4 := below_alloc1 w4 (.cells #[.int .i64 3] t1)
  generalize hw5 : w4.alloc (.cells #[.int .i64 3] t1) = w5 at *
  have s5 : w5.heap.size = w4.heap.size + 1 := by rw [← hw5, World.size_alloc]
  have b5 := Blk.start w5 #[.int .i64 4] t1
  have a5 := below_alloc1 w5 (.cells #[.int .i64 4] t1)
  generalize hw6 : w5.alloc (.cells #[.int .i64 4] t1) = w6 at *
  have s6 : w6.heap.size = w5.heap.size + 1 := by rw [← hw6, World.size_alloc]
  have B1 := (((b1.keep a2).keep a3).keep a4).keep a5
  have B2 := ((b2.keep a3).keep a4).keep a5
  have B3 := (b3.keep a4).keep a5
  have B4 := b4.keep a5
  have H2 := hb.trans (a1.mono hb.size)
  have H3 := H2.trans (a2.mono H2.size)
  have H4 := H3.trans (a3.mono H3.size)
  have H5 := H4.trans (a4.mono H4.size)
  have H6 := H5.trans (a5.mono H5.size)
  obtain ⟨rs, hrs⟩ : ∃ rs : List (NdV × Nd), rs = [((.slice none 0 0, .slice none 0 0, .slice (some ⟨w1.heap.size, 0, none⟩) 1 1), ⟨0, [], [], [1], 0⟩), ((.slice (some ⟨w1.heap.size + 1, 0, none⟩) 1 1, .slice none 0 0, .slice (some ⟨w1.heap.size + 1 + 1, 0, none⟩) 1 1), ⟨4, [[102]], [], [2], 0⟩), ((.slice none 0 0, .slice none 0 0, .slice (some ⟨w1.heap.size + 1 + 1 + 1, 0, none⟩) 1 1), ⟨7, [], [], [3], 0⟩), ((.slice none 0 0, .slice none 0 0, .slice (some ⟨w1.heap.size + 1 + 1 + 1 + 1, 0, none⟩) 1 1), ⟨18, [], [], [4], 0⟩)] := ⟨_, rfl⟩
  refine ⟨rs, by rw [hrs]; rfl, by rw [hrs]; rfl, ?_⟩
  have aN := below_alloc1 w6 (.cells (nodeCells rs).toArray 30)
  have hl : rs.length = 4 := by rw [hrs]; rfl
  refine ⟨?_, ?_, H6.trans (aN.mono H6.size)⟩
  · have := World.ownsRow_lit (e := 30) (size := 5) w6 (nodeCells rs).toArray 4 H6.size (by decide) (by rw [List.size_toArray, nodeCells_length, hl])
    rw [hl]
    simpa using this
  · have e1 : ∀ (b : Nat), b < w6.heap.size → (Value.slice (some ⟨w6.heap.size, 0, none⟩) 4 4).ownBlock ≠ some b := fun b hlt e => by
      have : some w6.heap.size = some b := e
      have := Option.some.inj this
      omega
    have e : ∀ x ∈ rs, NdOne w6 (Value.slice (some ⟨w6.heap.size, 0, none⟩) 4 4).ownBlock x := by
      subst hrs
      intro x hx
      rw [s2] at B2
      rw [s3, s2] at B3
      rw [s4, s3, s2] at B4
      rw [s5, s4, s3, s2] at b5
      simp only [List.mem_cons, List.not_mem_nil, or_false] at hx
      rcases hx with rfl | rfl | rfl | rfl
      · exact ⟨one_none _ _, one_none _ _, one_blk B1 (e1 _ (by omega)), fun s hs => by cases hs⟩
      · exact ⟨one_blk B2 (e1 _ (by omega)), one_none _ _, one_blk B3 (e1 _ (by omega)), fun s hs => by rw [List.mem_singleton] at hs; subst hs; decide⟩
      · exact ⟨one_none _ _, one_none _ _, one_blk B4 (e1 _ (by omega)), fun s hs => by cases hs⟩
      · exact ⟨one_none _ _, one_none _ _, one_blk b5 (e1 _ (by omega)), fun s hs => by cases hs⟩
    exact fun x hx => (e x hx).keep aN

set_option maxHeartbeats 8000000 in
theorem treechains_any (w : World) (ht : StrRow w 0 keysL) (n : Int) (hn : (Lit.int .u8 n).wf = true) : Calls Tryd.prog 4 #[.int .u8 n] w fun e w' => e = .returned (.bool true) ∧ Below w.heap.size w w' := by
  obtain ⟨n0, n1⟩ := tc_u8 hn
  obtain ⟨k, hk⟩ : ∃ k : Nat, n % 40 = k := ⟨(n % 40).toNat, by omega⟩
  have k1 : k < 40 := by omega
  obtain ⟨iN, hiN, zN0, zN1, zN2⟩ := info_three infoNode
  have AW := Lib.hid (awake6_yes w ht)
  have RT := Lib.hid (fun (w' : World) (v : Value) (ns : List Nd) (hb : Below w.heap.size w w') (hN : NodesAt w' v ns) => right_of valid_any w' v ns hN (ht.below hb))
  have CS := Lib.hid (chain_says k1)
  have K1 := Lib.hid k1
  clear ht hn
  go_enter Tryd.func4, Tryd.ntmps4
  go_upto_region 4 with (go_at_call 6; (with_reducible refine AW.out.mono ?_); rintro e1 w1 ⟨rfl, bb⟩)
  go_upto_region 5 with fail
  rw [hk]
  obtain ⟨we, ewe, _, rs, hr1, hr2, hR⟩ := chain_start w w1 bb 3 9
  rw [hr2, ewe] at hR
  rw [show Value.string ⟨#[102]⟩ = txt [102] from rfl]
  generalize ((((((w1.alloc (.cells #[.int .i64 1] 3)).alloc (.cells #[txt [102]] 9)).alloc (.cells #[.int .i64 2] 3)).alloc (.cells #[.int .i64 3] 3)).alloc (.cells #[.int .i64 4] 3)).alloc (.cells #[.int .i64 0, .slice none 0 0, .slice none 0 0, .slice (some ⟨w1.heap.size, 0, none⟩) 1 1, .int .i64 0, .int .i64 4, .slice (some ⟨w1.heap.size + 1, 0, none⟩) 1 1, .slice none 0 0, .slice (some ⟨w1.heap.size + 1 + 1, 0, none⟩) 1 1, .int .i64 0, .int .i64 7, .slice none 0 0, .slice none 0 0, .slice (some ⟨w1.heap.size + 1 + 1 + 1, 0, none⟩) 1 1, .int .i64 0, .int .i64 18, .slice none 0 0, .slice none 0 0, .slice (some ⟨w1.heap.size + 1 + 1 + 1 + 1, 0, none⟩) 1 1, .int .i64 0] 30)) = w9 at *
  generalize w1.heap.size + 1 + 1 + 1 + 1 + 1 = g at *
  have HR := Lib.hid (And.intro hR hr1)
  clear hk n0 n1 k1 hR hr1 hr2 ewe bb
  go_wp2_with fail
  go_loopg [4, 5] k (fun gk v4 v5 wr => ∃ (va : Value) (i : Nat) (rs : List (NdV × Nd)), va = v4 ∧ v5 = .int .i64 i ∧ i ≤ k ∧ gk = k - i ∧ rs.map (·.2) = chainL i ∧ RowN w wr va rs)
  case atStart => exact ⟨_, 0, rs, rfl, rfl, Nat.zero_le _, rfl, HR.out.2, HR.out.1⟩
  case round =>
    clear HR
    obtain ⟨va, i, rs, rfl, rfl, hi, hgk, hm, hR⟩ := hrel
    have hl : rs.length = 4 + i := by have := congrArg List.length hm; rw [List.length_map, chainL_len] at this; exact this
    by_cases hik : i = k
    · subst hik
      have i1 : ¬ (i : Int) < (i : Int) := by omega
      have u2 : IntKind.i64.wrap (5 + (i : Int)) = 5 + (i : Int) := IntWalk.i64_in _ (by have := K1.out; omega)
      have a1 := below_alloc1 wr (.cells #[.int .i64 1] 2)
      have B1 := Blk.start wr #[.int .i64 1] 2
      have a2 := below_alloc1 (wr.alloc (.cells #[.int .i64 1] 2)) (.cells #[.int .i64 20, .slice none 0 0, .slice (some ⟨wr.heap.size, 0, none⟩) 1 1, .slice none 0 0, .int .i64 0] 30)
      have R2 := (hR.keep a1).keep a2
      have N2 : NdOne ((wr.alloc (.cells #[.int .i64 1] 2)).alloc (.cells #[.int .i64 20, .slice none 0 0, .slice (some ⟨wr.heap.size, 0, none⟩) 1 1, .slice none 0 0, .int .i64 0] 30)) va.ownBlock ((.slice none 0 0, .slice (some ⟨wr.heap.size, 0, none⟩) 1 1, .slice none 0 0), ⟨20, [], [1], [], 0⟩) :=
        ⟨one_none _ _, one_blk (B1.keep a2) (fun e => by have := (hR.own.lt _ e).2; omega), one_none _ _, fun s hs => by cases hs⟩
      have RD : Reads ((wr.alloc (.cells #[.int .i64 1] 2)).alloc (.cells #[.int .i64 20, .slice none 0 0, .slice (some ⟨wr.heap.size, 0, none⟩) 1 1, .slice none 0 0, .int .i64 0] 30)) (wr.heap.size + 1 + 1) 5 (some ⟨wr.heap.size + 1, 0, none⟩) 1 [.int .i64 20, .slice none 0 0, .slice (some ⟨wr.heap.size, 0, none⟩) 1 1, .slice none 0 0, .int .i64 0] := by
        have := (Blk.start (wr.alloc (.cells #[.int .i64 1] 2)) #[.int .i64 20, .slice none 0 0, .slice (some ⟨wr.heap.size, 0, none⟩) 1 1, .slice none 0 0, .int .i64 0] 30)
        rw [World.size_alloc] at this
        exact ⟨rfl, fun _ => ⟨_, rfl, by show wr.heap.size + 1 < _; omega, fun j u hj => by rw [Addr.add_lit, Nat.zero_add, this.cell j]; simpa using hj⟩⟩
      have ONE := Lib.hid (show ∀ u ∈ [Value.int .i64 20, .slice none 0 0, .slice (some ⟨wr.heap.size, 0, none⟩) 1 1, .slice none 0 0, .int .i64 0], u.oneCell' = true from fun u hu => by simp only [List.mem_cons, List.not_mem_nil, or_false] at hu; rcases hu with rfl | rfl | rfl | rfl | rfl <;> rfl)
      have HQ := Lib.hid (And.intro R2 (And.intro N2 RD))
      have HI := Lib.hid (And.intro hl hm)
      clear a1 B1 a2 R2 N2 RD hl hgk hm hi hR
      go_wp2_with (at_builtin; refine wpList_append_any _ rfl _ _ 22 rfl w.heap.size 30 iN (.agg #[.int .i64 0, .slice none 0 0, .slice none 0 0, .slice none 0 0, .int .i64 0]) 5 88 Tryd.underlying22 hiN zN0 zN1 zN2 rfl (by decide) va rs.length (nodeCells rs) rfl HQ.out.1.own (wr.heap.size + 1 + 1) (some ⟨wr.heap.size + 1, 0, none⟩) 1 1 [.int .i64 20, .slice none 0 0, .slice (some ⟨wr.heap.size, 0, none⟩) 1 1, .slice none 0 0, .int .i64 0] rfl HQ.out.2.2 ONE.out (by have := K1.out; have := HI.out; unfold maxLen; omega) (by have := K1.out; have := HI.out; omega) HQ.out.1.below.size ?_)
      intro v8 w8 hown hgrow hat
      have P8 := HQ.out.1.push HQ.out.2.1 hown hgrow (by first | exact hat | simpa using hat)
      have N8 := P8.nodes
      rw [List.map_append, HI.out.2, show chainL i ++ [((Value.slice none 0 0, Value.slice (some ⟨wr.heap.size, 0, none⟩) 1 1, Value.slice none 0 0), (⟨20, [], [1], [], 0⟩ : Nd))].map (·.2) = chainN i from rfl] at N8
      have DE := Lib.hid (deep_any _ _ _ N8)
      rw [CS.out.1] at DE
      have RT1 := Lib.hid (fun w' (hb : Below w8.heap.size w8 w') => RT.out w' v8 (chainN i) (P8.below.trans (hb.mono P8.below.size)) (N8.below hb))
      rw [CS.out.2] at RT1
      have HP := Lib.hid P8.below
      clear hown hgrow hat P8 N8 RT HQ
      by_cases q : 5 + i ≤ 24
      · have q1 : (5 : Int) + (i : Int) ≤ 24 := by omega
        rw [decide_eq_true q] at RT1
        clear q
        go_wp2_with (first
          | (go_at_call 10; (with_reducible refine DE.out.mono ?_); rintro e9 w9 ⟨rfl, hb9⟩; have B9 := Lib.hid hb9; clear hb9)
          | (go_at_call 11; (with_reducible refine (RT1.out _ B9.out).mono ?_); rintro ea wa ⟨rfl, hba⟩; have BA := Lib.hid (B9.out.trans (hba.mono B9.out.size)); clear hba))
        go_ret
        exact ⟨rfl, HP.out.trans (BA.out.mono HP.out.size)⟩
      · have q1 : (24 : Int) < (5 : Int) + (i : Int) := by omega
        rw [decide_eq_false q] at RT1
        clear q
        go_wp2_with (first
          | (go_at_call 10; (with_reducible refine DE.out.mono ?_); rintro e9 w9 ⟨rfl, hb9⟩; have B9 := Lib.hid hb9; clear hb9)
          | (go_at_call 11; (with_reducible refine (RT1.out _ B9.out).mono ?_); rintro ea wa ⟨rfl, hba⟩; have BA := Lib.hid (B9.out.trans (hba.mono B9.out.size)); clear hba))
        go_ret
        exact ⟨by first | rfl | (show Ending.returned (Value.bool (!decide ((5 : Int) + (i : Int) ≤ 24))) = _; rw [decide_eq_false (by omega)]; rfl), HP.out.trans (BA.out.mono HP.out.size)⟩
    · have hlt : i < k := by omega
      have i1 : (i : Int) < (k : Int) := by omega
      have u1 : IntKind.i64.wrap ((i : Int) + 1) = (i : Int) + 1 := IntWalk.i64_in _ (by have := K1.out; omega)
      have u2 : IntKind.i64.wrap (5 + (i : Int)) = 5 + (i : Int) := IntWalk.i64_in _ (by have := K1.out; omega)
      have a1 := below_alloc1 wr (.cells #[.int .i64 (5 + (i : Int))] 3)
      have B1 := Blk.start wr #[.int .i64 (5 + (i : Int))] 3
      have a2 := below_alloc1 (wr.alloc (.cells #[.int .i64 (5 + (i : Int))] 3)) (.cells #[.int .i64 23, .slice none 0 0, .slice none 0 0, .slice (some ⟨wr.heap.size, 0, none⟩) 1 1, .int .i64 0] 30)
      have R2 := (hR.keep a1).keep a2
      have N2 : NdOne ((wr.alloc (.cells #[.int .i64 (5 + (i : Int))] 3)).alloc (.cells #[.int .i64 23, .slice none 0 0, .slice none 0 0, .slice (some ⟨wr.heap.size, 0, none⟩) 1 1, .int .i64 0] 30)) va.ownBlock ((.slice none 0 0, .slice none 0 0, .slice (some ⟨wr.heap.size, 0, none⟩) 1 1), ⟨23, [], [], [5 + (i : Int)], 0⟩) :=
        ⟨one_none _ _, one_none _ _, one_blk (B1.keep a2) (fun e => by have := (hR.own.lt _ e).2; omega), fun s hs => by cases hs⟩
      have RD : Reads ((wr.alloc (.cells #[.int .i64 (5 + (i : Int))] 3)).alloc (.cells #[.int .i64 23, .slice none 0 0, .slice none 0 0, .slice (some ⟨wr.heap.size, 0, none⟩) 1 1, .int .i64 0] 30)) (wr.heap.size + 1 + 1) 5 (some ⟨wr.heap.size + 1, 0, none⟩) 1 [.int .i64 23, .slice none 0 0, .slice none 0 0, .slice (some ⟨wr.heap.size, 0, none⟩) 1 1, .int .i64 0] := by
        have := (Blk.start (wr.alloc (.cells #[.int .i64 (5 + (i : Int))] 3)) #[.int .i64 23, .slice none 0 0, .slice none 0 0, .slice (some ⟨wr.heap.size, 0, none⟩) 1 1, .int .i64 0] 30)
        rw [World.size_alloc] at this
        exact ⟨rfl, fun _ => ⟨_, rfl, by show wr.heap.size + 1 < _; omega, fun j u hj => by rw [Addr.add_lit, Nat.zero_add, this.cell j]; simpa using hj⟩⟩
      have ONE := Lib.hid (show ∀ u ∈ [Value.int .i64 23, .slice none 0 0, .slice none 0 0, .slice (some ⟨wr.heap.size, 0, none⟩) 1 1, .int .i64 0], u.oneCell' = true from fun u hu => by simp only [List.mem_cons, List.not_mem_nil, or_false] at hu; rcases hu with rfl | rfl | rfl | rfl | rfl <;> rfl)
      have HQ := Lib.hid (And.intro R2 (And.intro N2 RD))
      have HI := Lib.hid (And.intro hl (And.intro hlt (And.intro hgk hm)))
      clear a1 B1 a2 R2 N2 RD hl hlt hgk hm hik hi hR
      go_wp2_with (at_builtin; refine wpList_append_any _ rfl _ _ 22 rfl w.heap.size 30 iN (.agg #[.int .i64 0, .slice none 0 0, .slice none 0 0, .slice none 0 0, .int .i64 0]) 5 88 Tryd.underlying22 hiN zN0 zN1 zN2 rfl (by decide) va rs.length (nodeCells rs) rfl HQ.out.1.own (wr.heap.size + 1 + 1) (some ⟨wr.heap.size + 1, 0, none⟩) 1 1 [.int .i64 23, .slice none 0 0, .slice none 0 0, .slice (some ⟨wr.heap.size, 0, none⟩) 1 1, .int .i64 0] rfl HQ.out.2.2 ONE.out (by have := K1.out; have := HI.out; unfold maxLen; omega) (by have := K1.out; have := HI.out; omega) HQ.out.1.below.size ?_)
      intro v8 w8 hown hgrow hat
      have P8 := HQ.out.1.push HQ.out.2.1 hown hgrow (by first | exact hat | simpa using hat)
      have HP := Lib.hid P8
      clear hown hgrow hat P8
      go_wp2_with fail
      go_roundg (k - (i + 1))
      case measure => have := HI.out; omega
      case rel => exact ⟨_, i + 1, _, rfl, by push_cast; rfl, by have := HI.out; omega, rfl, by rw [List.map_append, HI.out.2.2.2, chainL_more]; rfl, HP.out⟩
end Go.Proofs.YtmbgonhonckfhaaDoor
