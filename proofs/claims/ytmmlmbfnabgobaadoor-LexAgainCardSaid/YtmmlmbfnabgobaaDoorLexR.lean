/-
  The walk of LexAgain. (Template: by-name.py fills it.)
-/
import Derived.Test.YtmmlmbfnabgobaaDoorLexS
import Derived.Test.YtmmlmbfnabgobaaDoorLexU
namespace Go.Proofs.YtmmlmbfnabgobaaDoor
open Go.RowKit

/-- The bytes that stand between. -/
def sepOf (b : Bool) : List UInt8 := if b then [35, 32, 120, 10] else [32]
theorem sep_passed (b : Bool) : Passed (sepOf b) := by
  cases b
  · exact passed_blank
  · exact passed_cmt
/-- What the walk asks of the tokens and of those of their texts. -/
structure AgainRel (sep : List UInt8) (ts : List Tok) : Prop where
  pos : 0 < ts.length
  few : ts.length ≤ 2001
  short : ∀ t ∈ ts, t.2.1.length ≤ 2000
  again : ¬ 6000 < (catL sep ts.dropLast).length → ∃ ms : List Tok, resOf (catL sep ts.dropLast) = (ms, 0, 0) ∧ ms.map (fun t => (t.1, t.2.1)) = ts.map (fun t => (t.1, t.2.1))
theorem chain_short {L : List UInt8} : ∀ (ts : List Tok) (e : Nat), TokChain L e ts → ∀ t ∈ ts, t.2.1.length ≤ L.length
  | [], _, _, t, h => by cases h
  | [u], e, hc, t, h => by
    obtain rfl := List.mem_singleton.1 h
    rw [(hc.1 rfl).1]
    simp
  | u :: v :: r, e, hc, t, h => by
    have h2 := hc.2 (by simp)
    rcases List.mem_cons.1 h with rfl | h
    · have := h2.1.2.1; omega
    · exact chain_short (v :: r) _ h2.2 t h
theorem again_rel (b : Bool) {A : List UInt8} {ts : List Tok} (h : A.length ≤ 2000) (q : lexR A 0 = .ok ts) : AgainRel (sepOf b) ts := by
  have hc := lex_chain A _ 0 ts (Nat.le_refl _) (Nat.zero_le _) q
  obtain ⟨h1, e, h2⟩ := lexR_toks _ A 0 ts (Nat.le_refl _) q
  refine ⟨List.length_pos_iff.2 (lexR_some _ _ _ _ (Nat.le_refl _) q), by have := chain_length ts 0 hc; omega, fun t ht => by have := chain_short ts 0 hc t ht; omega, fun hl => ?_⟩
  obtain ⟨ms, e2, k1, k2⟩ := lex_again (sep_passed b) ts.dropLast 0 h1
  refine ⟨ms ++ [(3, [], e2)], res_of_ok (by omega) k1, ?_⟩
  rw [h2, List.map_append, List.map_append, k2]
  rfl
theorem txt_two (O S P : List UInt8) : Value.string (⟨O.toArray⟩ ++ ⟨S.toArray⟩ ++ ⟨P.toArray⟩) = txt (O ++ S ++ P) := txt_of (by simp)
theorem take_tok {ts : List Tok} {i : Nat} {t : Tok} (h : ts[i]? = some t) : ts.take (i + 1) = ts.take i ++ [t] := by
  rw [List.take_add_one, h]
  rfl

-- WALK
set_option maxRecDepth 10000 in
set_option maxHeartbeats 16000000 in
theorem lexagain_false (w : World) (ht : Tabs w) (s : ByteArray) : Calls Tryd.prog 5 #[.string s, .bool false] w fun e w' => e = .returned (.bool true) ∧ Below w.heap.size w w' := by
  have aw := fun w' (h : Below w.heap.size w w') => awake_yes w' (ht.below h)
  have AW := Lib.hid aw
  clear aw
  by_cases h2 : (2000 : Int) < (s.size : Int)
  · go_enter Tryd.func5, Tryd.ntmps5
    go_upto_region 2 with (go_at_call 10; (with_reducible refine (AW.out _ (Below.refl _ _)).mono ?_); rintro e w1 ⟨rfl, bb⟩)
    go_wp2_with (go_at_call 10; (with_reducible refine (AW.out _ bb).mono ?_); rintro e w2 ⟨rfl, b2⟩)
    go_ret
    exact ⟨rfl, bb.trans (b2.mono bb.size)⟩
  · have ra := fun w' => rtokens_res s w'
    have hl : s.data.toList.length ≤ 2000 := by rw [len_of]; omega
    cases q : lexR s.data.toList 0 with
    | bad p0 =>
      rw [res_of_bad (by omega) q] at ra
      have RA := Lib.hid ra
      clear ra hl q ht
      go_enter Tryd.func5, Tryd.ntmps5
      go_upto_region 3 with (go_at_call 10; (with_reducible refine (AW.out _ (Below.refl _ _)).mono ?_); rintro e w1 ⟨rfl, bb⟩)
      go_upto_region 4 with (go_at_call 12; (with_reducible refine (RA.out _).mono ?_); rintro e w2 ⟨A1, c1, rfl, hT, hb⟩)
      (try dsimp only at hT hb)
      have F1 := Blk.start w2 #[.int .i64 10, .int .i64 p0] 26
      have a1 := below_alloc1 w2 (.cells #[.int .i64 10, .int .i64 p0] 26)
      have b1 := hb.trans (a1.mono hb.size)
      have H1 := Lib.hid (And.intro (bb.trans (b1.mono bb.size)) F1)
      clear hT hb F1 a1 b1 bb
      generalize w2.heap.size = g1 at *
      generalize w2.alloc (.cells #[.int .i64 10, .int .i64 p0] 26) = w3 at *
      have f10 := H1.out.2.cell 0
      go_wp2_with fail
      go_ret
      exact ⟨rfl, H1.out.1⟩
    | ok ts =>
      have rel := again_rel false hl q
      rw [show sepOf false = [32] from rfl] at rel
      rw [res_of_ok (by omega) q] at ra
      have rl := fun (T : List UInt8) (w' : World) (h : Below w.heap.size w w') => tokens_res ⟨T.toArray⟩ w' (ht.below h).1
      have RA := Lib.hid ra; have RL := Lib.hid rl; have REL := Lib.hid rel
      clear ra rl rel ht hl q
      go_enter Tryd.func5, Tryd.ntmps5
      go_upto_region 3 with (go_at_call 10; (with_reducible refine (AW.out _ (Below.refl _ _)).mono ?_); rintro e w1 ⟨rfl, bb⟩)
      go_upto_region 4 with (go_at_call 12; (with_reducible refine (RA.out _).mono ?_); rintro e w2 ⟨A1, c1, rfl, hT, hb⟩)
      (try dsimp only at hT hb)
      have F1 := Blk.start w2 #[.int .i64 0, .int .i64 0] 26
      have a1 := below_alloc1 w2 (.cells #[.int .i64 0, .int .i64 0] 26)
      have b1 := hb.trans (a1.mono hb.size)
      have H1 := Lib.hid (And.intro (bb.trans (b1.mono bb.size)) (And.intro F1 (hT.below a1)))
      clear hT hb F1 a1 b1 bb
      generalize w2.heap.size = g1 at *
      generalize w2.alloc (.cells #[.int .i64 0, .int .i64 0] 26) = w3 at *
      have f10 := H1.out.2.1.cell 0
      obtain ⟨X1, d1, eX, _, _, rX⟩ := H1.out.2.2
      obtain ⟨rfl, rfl⟩ : A1 = X1 ∧ c1 = d1 := by injection eX with a b c; exact ⟨a, c⟩
      obtain ⟨n, hn⟩ : ∃ n, n = ts.length := ⟨_, rfl⟩
      rw [← hn] at rX ⊢
      have HX := Lib.hid (And.intro rX hn)
      have nb : 0 < n ∧ n ≤ 2001 := by have := REL.out.pos; have := REL.out.few; omega
      have NB := Lib.hid nb
      have s1 : IntKind.i64.wrap ((n : Int) - 1) = (n : Int) - 1 := IntWalk.i64_in _ (by omega)
      clear eX rX hn nb
      go_upto_region 7 with fail
      clear f10
      go_wp2_with fail
      go_loopg [7, 8] n (fun g v7 v8 wr => ∃ i : Nat, v8 = .int .i64 i ∧ v7 = txt (catL [32] (ts.take i)) ∧ i ≤ n - 1 ∧ g = n - i ∧ wr = w3)
      case atStart => exact ⟨0, rfl, rfl, Nat.zero_le _, rfl, rfl⟩
      case round =>
        obtain ⟨i, rfl, rfl, hi, hg, rfl⟩ := hrel
        by_cases hlt : i < n - 1
        · obtain ⟨t, ht⟩ : ∃ t, ts[i]? = some t := ⟨_, List.getElem?_eq_getElem (by have := HX.out.2; omega)⟩
          obtain ⟨ad, rfl, c0, c1', c2⟩ := tok_cells' HX.out.1 (Below.refl _ _) ht NB.out.1
          have i1 : (i : Int) < (n : Int) - 1 := by omega
          have i2 : (0 : Int) ≤ (i : Int) := by omega
          have i3 : (i : Int) < (n : Int) := by omega
          have wi : IntKind.i64.wrap ((i : Int) + 1) = (i : Int) + 1 := IntWalk.i64_in _ (by have := NB.out; omega)
          have nx := catL_snoc [32] t (ts.take i)
          rw [← take_tok ht] at nx
          have tx := txt_two (catL [32] (ts.take i)) t.2.1 [32]
          rw [← nx] at tx
          have lo := catL_len [32] (by decide) (ts.take i) (fun u hu => REL.out.short u (List.mem_of_mem_take hu))
          have lt : (ts.take i).length ≤ 2001 := by rw [List.length_take]; have := NB.out; omega
          have lo2 : (catL [32] (ts.take i)).length ≤ 2001 * 2004 := Nat.le_trans lo (Nat.mul_le_mul_right _ lt)
          have ls := REL.out.short t (List.mem_of_getElem? ht)
          have HH := Lib.hid (And.intro hlt (And.intro hg tx))
          clear tx nx lo lt ht hg hlt hi c0 c2
          obtain ⟨t0, t1, t2⟩ := t
          (try dsimp only at *)
          generalize catL [32] (ts.take i) = O at *
          have l1 : ¬ 9223372036854775807 < O.length + t1.length := by omega
          have l2 : ¬ 9223372036854775807 < O.length + t1.length + 1 := by omega
          clear lo2 ls
          go_wp2_with fail
          go_roundg (n - (i + 1))
          case measure => have := HH.out; omega
          case rel => exact ⟨i + 1, by push_cast; rfl, HH.out.2.2, by have := HH.out; omega, rfl, rfl⟩
        · obtain rfl : i = n - 1 := by omega
          have hdl : ts.take (n - 1) = ts.dropLast := by rw [HX.out.2, List.dropLast_eq_take]
          rw [hdl]
          have i1 : ¬ ((n - 1 : Nat) : Int) < (n : Int) - 1 := by have := NB.out; omega
          have ag := REL.out.again
          have RT := Lib.hid (RL.out (catL [32] ts.dropLast) wr H1.out.1)
          have AG := Lib.hid ag
          clear hg hlt hi hdl ag
          generalize catL [32] ts.dropLast = O at *
          by_cases h6 : 6000 < O.length
          · have d6 : (6000 : Int) < (O.length : Int) := by omega
            clear h6
            go_wp2_with fail
            go_ret
            exact ⟨rfl, H1.out.1⟩
          · have d6 : ¬ (6000 : Int) < (O.length : Int) := by omega
            obtain ⟨ms, hms, hmap⟩ := AG.out h6
            have rt := RT.out
            rw [hms] at rt
            have RT := Lib.hid rt
            have hml : ms.length = n := by
              have := congrArg List.length hmap
              rw [List.length_map, List.length_map] at this
              have := HX.out.2
              omega
            have HM := Lib.hid (And.intro hmap hml)
            clear rt hms hmap hml h6 AG
            go_upto_region 17 with (go_at_call 11; (with_reducible refine RT.out.mono ?_); rintro e w6 ⟨A3, c3, rfl, hT, hb⟩)
            (try dsimp only at hT hb)
            have F1 := Blk.start w6 #[.int .i64 0, .int .i64 0] 26
            have a1 := below_alloc1 w6 (.cells #[.int .i64 0, .int .i64 0] 26)
            have b1 := hb.trans (a1.mono hb.size)
            have H3 := Lib.hid (And.intro (H1.out.1.trans (b1.mono H1.out.1.size)) (And.intro b1 (And.intro F1 (hT.below a1))))
            clear hT hb F1 a1 b1
            generalize w6.heap.size = g3 at *
            generalize w6.alloc (.cells #[.int .i64 0, .int .i64 0] 26) = w7 at *
            have f30 := H3.out.2.2.1.cell 0
            have f31 := H3.out.2.2.1.cell 1
            obtain ⟨L1, d3, eL, _, _, rL⟩ := H3.out.2.2.2
            obtain ⟨rfl, rfl⟩ : A3 = L1 ∧ c3 = d3 := by injection eL with a b c; exact ⟨a, c⟩
            rw [HM.out.2] at rL
            have hsl : Value.slice A3 ms.length c3 = .slice A3 n c3 := by rw [HM.out.2]
            rw [HM.out.2]
            have HL := Lib.hid rL
            clear eL rL hsl
            go_upto_region 19 with fail
            clear f30 f31
            go_wp2_with fail
            go_loopg [11] n (fun g v11 wr => ∃ i : Nat, v11 = .int .i64 i ∧ i ≤ n ∧ g = n - i ∧ Below w7.heap.size w7 wr)
            case atStart => exact ⟨0, rfl, Nat.zero_le _, rfl, Below.refl _ _⟩
            case round =>
              obtain ⟨i, rfl, hi, hg, hb⟩ := hrel
              by_cases hlt : i < n
              · obtain ⟨t, ht⟩ : ∃ t, ts[i]? = some t := ⟨_, List.getElem?_eq_getElem (by have := HX.out.2; omega)⟩
                obtain ⟨u, hu⟩ : ∃ u, ms[i]? = some u := ⟨_, List.getElem?_eq_getElem (by have := HM.out.2; omega)⟩
                have he : (u.1, u.2.1) = (t.1, t.2.1) := by
                  have := congrArg (·[i]?) HM.out.1
                  simpa [ht, hu] using this
                obtain ⟨ad, rfl, c0, c1', c2⟩ := tok_cells' HX.out.1 (H3.out.2.1.trans (hb.mono H3.out.2.1.size)) ht NB.out.1
                obtain ⟨bd, rfl, e0, e1', e2⟩ := tok_cells' HL.out hb hu NB.out.1
                obtain ⟨t0, t1, t2⟩ := t
                obtain ⟨u0, u1, u2⟩ := u
                obtain ⟨rfl, rfl⟩ : u0 = t0 ∧ u1 = t1 := by injection he with a b; exact ⟨a, b⟩
                (try dsimp only at c0 c1' c2 e0 e1' e2)
                have i1 : (i : Int) < (n : Int) := by omega
                have i2 : (0 : Int) ≤ (i : Int) := by omega
                have wi : IntKind.i64.wrap ((i : Int) + 1) = (i : Int) + 1 := IntWalk.i64_in _ (by have := NB.out; omega)
                have HH := Lib.hid (And.intro hlt (And.intro hg hb))
                clear hlt hg hb hi ht hu he c2 e2
                go_wp2_with fail
                go_quiet (fail)
                go_wp2_with fail
                go_roundg (n - (i + 1))
                case measure => have := HH.out; omega
                case rel => exact ⟨i + 1, by push_cast; rfl, by have := HH.out; omega, rfl, below_drewN HH.out.2.2 _⟩
              · obtain rfl : i = n := by omega
                have HE := Lib.hid (H3.out.1.trans (hb.mono H3.out.1.size))
                clear hg hb hlt hi
                go_wp2_with fail
                go_ret
                exact ⟨rfl, HE.out⟩

set_option maxRecDepth 10000 in
set_option maxHeartbeats 16000000 in
theorem lexagain_true (w : World) (ht : Tabs w) (s : ByteArray) : Calls Tryd.prog 5 #[.string s, .bool true] w fun e w' => e = .returned (.bool true) ∧ Below w.heap.size w w' := by
  have aw := fun w' (h : Below w.heap.size w w') => awake_yes w' (ht.below h)
  have AW := Lib.hid aw
  clear aw
  by_cases h2 : (2000 : Int) < (s.size : Int)
  · go_enter Tryd.func5, Tryd.ntmps5
    go_upto_region 2 with (go_at_call 10; (with_reducible refine (AW.out _ (Below.refl _ _)).mono ?_); rintro e w1 ⟨rfl, bb⟩)
    go_wp2_with (go_at_call 10; (with_reducible refine (AW.out _ bb).mono ?_); rintro e w2 ⟨rfl, b2⟩)
    go_ret
    exact ⟨rfl, bb.trans (b2.mono bb.size)⟩
  · have ra := fun w' => rtokens_res s w'
    have hl : s.data.toList.length ≤ 2000 := by rw [len_of]; omega
    cases q : lexR s.data.toList 0 with
    | bad p0 =>
      rw [res_of_bad (by omega) q] at ra
      have RA := Lib.hid ra
      clear ra hl q ht
      go_enter Tryd.func5, Tryd.ntmps5
      go_upto_region 3 with (go_at_call 10; (with_reducible refine (AW.out _ (Below.refl _ _)).mono ?_); rintro e w1 ⟨rfl, bb⟩)
      go_upto_region 4 with (go_at_call 12; (with_reducible refine (RA.out _).mono ?_); rintro e w2 ⟨A1, c1, rfl, hT, hb⟩)
      (try dsimp only at hT hb)
      have F1 := Blk.start w2 #[.int .i64 10, .int .i64 p0] 26
      have a1 := below_alloc1 w2 (.cells #[.int .i64 10, .int .i64 p0] 26)
      have b1 := hb.trans (a1.mono hb.size)
      have H1 := Lib.hid (And.intro (bb.trans (b1.mono bb.size)) F1)
      clear hT hb F1 a1 b1 bb
      generalize w2.heap.size = g1 at *
      generalize w2.alloc (.cells #[.int .i64 10, .int .i64 p0] 26) = w3 at *
      have f10 := H1.out.2.cell 0
      go_wp2_with fail
      go_ret
      exact ⟨rfl, H1.out.1⟩
    | ok ts =>
      have rel := again_rel true hl q
      rw [show sepOf true = [35, 32, 120, 10] from rfl] at rel
      rw [res_of_ok (by omega) q] at ra
      have rl := fun (T : List UInt8) (w' : World) (h : Below w.heap.size w w') => tokens_res ⟨T.toArray⟩ w' (ht.below h).1
      have RA := Lib.hid ra; have RL := Lib.hid rl; have REL := Lib.hid rel
      clear ra rl rel ht hl q
      go_enter Tryd.func5, Tryd.ntmps5
      go_upto_region 3 with (go_at_call 10; (with_reducible refine (AW.out _ (Below.refl _ _)).mono ?_); rintro e w1 ⟨rfl, bb⟩)
      go_upto_region 4 with (go_at_call 12; (with_reducible refine (RA.out _).mono ?_); rintro e w2 ⟨A1, c1, rfl, hT, hb⟩)
      (try dsimp only at hT hb)
      have F1 := Blk.start w2 #[.int .i64 0, .int .i64 0] 26
      have a1 := below_alloc1 w2 (.cells #[.int .i64 0, .int .i64 0] 26)
      have b1 := hb.trans (a1.mono hb.size)
      have H1 := Lib.hid (And.intro (bb.trans (b1.mono bb.size)) (And.intro F1 (hT.below a1)))
      clear hT hb F1 a1 b1 bb
      generalize w2.heap.size = g1 at *
      generalize w2.alloc (.cells #[.int .i64 0, .int .i64 0] 26) = w3 at *
      have f10 := H1.out.2.1.cell 0
      obtain ⟨X1, d1, eX, _, _, rX⟩ := H1.out.2.2
      obtain ⟨rfl, rfl⟩ : A1 = X1 ∧ c1 = d1 := by injection eX with a b c; exact ⟨a, c⟩
      obtain ⟨n, hn⟩ : ∃ n, n = ts.length := ⟨_, rfl⟩
      rw [← hn] at rX ⊢
      have HX := Lib.hid (And.intro rX hn)
      have nb : 0 < n ∧ n ≤ 2001 := by have := REL.out.pos; have := REL.out.few; omega
      have NB := Lib.hid nb
      have s1 : IntKind.i64.wrap ((n : Int) - 1) = (n : Int) - 1 := IntWalk.i64_in _ (by omega)
      clear eX rX hn nb
      go_upto_region 7 with fail
      clear f10
      go_wp2_with fail
      go_loopg [7, 8] n (fun g v7 v8 wr => ∃ i : Nat, v8 = .int .i64 i ∧ v7 = txt (catL [35, 32, 120, 10] (ts.take i)) ∧ i ≤ n - 1 ∧ g = n - i ∧ wr = w3)
      case atStart => exact ⟨0, rfl, rfl, Nat.zero_le _, rfl, rfl⟩
      case round =>
        obtain ⟨i, rfl, rfl, hi, hg, rfl⟩ := hrel
        by_cases hlt : i < n - 1
        · obtain ⟨t, ht⟩ : ∃ t, ts[i]? = some t := ⟨_, List.getElem?_eq_getElem (by have := HX.out.2; omega)⟩
          obtain ⟨ad, rfl, c0, c1', c2⟩ := tok_cells' HX.out.1 (Below.refl _ _) ht NB.out.1
          have i1 : (i : Int) < (n : Int) - 1 := by omega
          have i2 : (0 : Int) ≤ (i : Int) := by omega
          have i3 : (i : Int) < (n : Int) := by omega
          have wi : IntKind.i64.wrap ((i : Int) + 1) = (i : Int) + 1 := IntWalk.i64_in _ (by have := NB.out; omega)
          have nx := catL_snoc [35, 32, 120, 10] t (ts.take i)
          rw [← take_tok ht] at nx
          have tx := txt_two (catL [35, 32, 120, 10] (ts.take i)) t.2.1 [35, 32, 120, 10]
          rw [← nx] at tx
          have lo := catL_len [35, 32, 120, 10] (by decide) (ts.take i) (fun u hu => REL.out.short u (List.mem_of_mem_take hu))
          have lt : (ts.take i).length ≤ 2001 := by rw [List.length_take]; have := NB.out; omega
          have lo2 : (catL [35, 32, 120, 10] (ts.take i)).length ≤ 2001 * 2004 := Nat.le_trans lo (Nat.mul_le_mul_right _ lt)
          have ls := REL.out.short t (List.mem_of_getElem? ht)
          have HH := Lib.hid (And.intro hlt (And.intro hg tx))
          clear tx nx lo lt ht hg hlt hi c0 c2
          obtain ⟨t0, t1, t2⟩ := t
          (try dsimp only at *)
          generalize catL [35, 32, 120, 10] (ts.take i) = O at *
          have l1 : ¬ 9223372036854775807 < O.length + t1.length := by omega
          have l2 : ¬ 9223372036854775807 < O.length + t1.length + 4 := by omega
          clear lo2 ls
          go_wp2_with fail
          go_roundg (n - (i + 1))
          case measure => have := HH.out; omega
          case rel => exact ⟨i + 1, by push_cast; rfl, HH.out.2.2, by have := HH.out; omega, rfl, rfl⟩
        · obtain rfl : i = n - 1 := by omega
          have hdl : ts.take (n - 1) = ts.dropLast := by rw [HX.out.2, List.dropLast_eq_take]
          rw [hdl]
          have i1 : ¬ ((n - 1 : Nat) : Int) < (n : Int) - 1 := by have := NB.out; omega
          have ag := REL.out.again
          have RT := Lib.hid (RL.out (catL [35, 32, 120, 10] ts.dropLast) wr H1.out.1)
          have AG := Lib.hid ag
          clear hg hlt hi hdl ag
          generalize catL [35, 32, 120, 10] ts.dropLast = O at *
          by_cases h6 : 6000 < O.length
          · have d6 : (6000 : Int) < (O.length : Int) := by omega
            clear h6
            go_wp2_with fail
            go_ret
            exact ⟨rfl, H1.out.1⟩
          · have d6 : ¬ (6000 : Int) < (O.length : Int) := by omega
            obtain ⟨ms, hms, hmap⟩ := AG.out h6
            have rt := RT.out
            rw [hms] at rt
            have RT := Lib.hid rt
            have hml : ms.length = n := by
              have := congrArg List.length hmap
              rw [List.length_map, List.length_map] at this
              have := HX.out.2
              omega
            have HM := Lib.hid (And.intro hmap hml)
            clear rt hms hmap hml h6 AG
            go_upto_region 17 with (go_at_call 11; (with_reducible refine RT.out.mono ?_); rintro e w6 ⟨A3, c3, rfl, hT, hb⟩)
            (try dsimp only at hT hb)
            have F1 := Blk.start w6 #[.int .i64 0, .int .i64 0] 26
            have a1 := below_alloc1 w6 (.cells #[.int .i64 0, .int .i64 0] 26)
            have b1 := hb.trans (a1.mono hb.size)
            have H3 := Lib.hid (And.intro (H1.out.1.trans (b1.mono H1.out.1.size)) (And.intro b1 (And.intro F1 (hT.below a1))))
            clear hT hb F1 a1 b1
            generalize w6.heap.size = g3 at *
            generalize w6.alloc (.cells #[.int .i64 0, .int .i64 0] 26) = w7 at *
            have f30 := H3.out.2.2.1.cell 0
            have f31 := H3.out.2.2.1.cell 1
            obtain ⟨L1, d3, eL, _, _, rL⟩ := H3.out.2.2.2
            obtain ⟨rfl, rfl⟩ : A3 = L1 ∧ c3 = d3 := by injection eL with a b c; exact ⟨a, c⟩
            rw [HM.out.2] at rL
            have hsl : Value.slice A3 ms.length c3 = .slice A3 n c3 := by rw [HM.out.2]
            rw [HM.out.2]
            have HL := Lib.hid rL
            clear eL rL hsl
            go_upto_region 19 with fail
            clear f30 f31
            go_wp2_with fail
            go_loopg [11] n (fun g v11 wr => ∃ i : Nat, v11 = .int .i64 i ∧ i ≤ n ∧ g = n - i ∧ Below w7.heap.size w7 wr)
            case atStart => exact ⟨0, rfl, Nat.zero_le _, rfl, Below.refl _ _⟩
            case round =>
              obtain ⟨i, rfl, hi, hg, hb⟩ := hrel
              by_cases hlt : i < n
              · obtain ⟨t, ht⟩ : ∃ t, ts[i]? = some t := ⟨_, List.getElem?_eq_getElem (by have := HX.out.2; omega)⟩
                obtain ⟨u, hu⟩ : ∃ u, ms[i]? = some u := ⟨_, List.getElem?_eq_getElem (by have := HM.out.2; omega)⟩
                have he : (u.1, u.2.1) = (t.1, t.2.1) := by
                  have := congrArg (·[i]?) HM.out.1
                  simpa [ht, hu] using this
                obtain ⟨ad, rfl, c0, c1', c2⟩ := tok_cells' HX.out.1 (H3.out.2.1.trans (hb.mono H3.out.2.1.size)) ht NB.out.1
                obtain ⟨bd, rfl, e0, e1', e2⟩ := tok_cells' HL.out hb hu NB.out.1
                obtain ⟨t0, t1, t2⟩ := t
                obtain ⟨u0, u1, u2⟩ := u
                obtain ⟨rfl, rfl⟩ : u0 = t0 ∧ u1 = t1 := by injection he with a b; exact ⟨a, b⟩
                (try dsimp only at c0 c1' c2 e0 e1' e2)
                have i1 : (i : Int) < (n : Int) := by omega
                have i2 : (0 : Int) ≤ (i : Int) := by omega
                have wi : IntKind.i64.wrap ((i : Int) + 1) = (i : Int) + 1 := IntWalk.i64_in _ (by have := NB.out; omega)
                have HH := Lib.hid (And.intro hlt (And.intro hg hb))
                clear hlt hg hb hi ht hu he c2 e2
                go_wp2_with fail
                go_quiet (fail)
                go_wp2_with fail
                go_roundg (n - (i + 1))
                case measure => have := HH.out; omega
                case rel => exact ⟨i + 1, by push_cast; rfl, by have := HH.out; omega, rfl, below_drewN HH.out.2.2 _⟩
              · obtain rfl : i = n := by omega
                have HE := Lib.hid (H3.out.1.trans (hb.mono H3.out.1.size))
                clear hg hb hlt hi
                go_wp2_with fail
                go_ret
                exact ⟨rfl, HE.out⟩

theorem lexagain_any (w : World) (ht : Tabs w) (s : ByteArray) (_ : s.size ≤ maxLen) (b : Bool) : Calls Tryd.prog 5 #[.string s, .bool b] w fun e w' => e = .returned (.bool true) ∧ Below w.heap.size w w' := by
  cases b
  · exact lexagain_false w ht s
  · exact lexagain_true w ht s
end Go.Proofs.YtmmlmbfnabgobaaDoor
