/-
  The walk of the reference's Tokens of layer 5. (Template: by-name.py fills it; gen/genLexH.py writes it.)
-/
import Derived.Test.YtmmlmbfnabgobaaDoorLexG
namespace Go.Proofs.YtmmlmbfnabgobaaDoor
open Go.RowKit

/-- What stands in memory while the reference's Tokens runs. -/
structure RefS (W wr : World) (v : Value) (ts : List Tok) : Prop where
  F : Blk wr W.heap.size #[.int .i64 0, .int .i64 0]
  own : wr.ownsRow (W.heap.size + 1) 32 3 v ts.length (tokCells ts)
  below : Below W.heap.size W wr
section
variable {W wr w' : World} {v : Value} {ts : List Tok}
theorem RefS.keep (h : RefS W wr v ts) (hb : Below wr.heap.size wr w') : RefS W w' v ts :=
  ⟨h.F.keep hb, h.own.kept (grown_of_below hb none) (by cases hv : v.ownBlock <;> simp), h.below.trans (hb.mono h.below.size)⟩
theorem RefS.push {t : Tok} {x : Value} {v' : Value} (h : RefS W wr v ts) (hx : x = txt t.2.1) (hown : w'.ownsRow (W.heap.size + 1) 32 3 v' (ts.length + 1) (tokCells ts ++ [.int .i64 t.1, x, .int .i64 t.2.2])) (hg : wr.grownBy w' v.ownBlock) : RefS W w' v' (ts ++ [t]) := by
  subst hx
  have ne : v.ownBlock ≠ some W.heap.size := fun e => by have := (h.own.lt _ e).1; omega
  refine ⟨h.F.grown hg ne, ?_, h.below.grown hg h.below.size (fun k hk => by have := (h.own.lt _ hk).1; omega)⟩
  rw [List.length_append, tokCells_append]
  exact hown
end
theorem two_at {s : ByteArray} {i : Nat} (h1 : i + 1 < s.size) : (s.extract i (i + 2)).toList = [s[i], s[i + 1]] := by
  rw [Lib.extract_toList, drop_cons (byte_at (show i < s.size by omega)), drop_cons (byte_at h1), Nat.add_sub_cancel_left]
  rfl
theorem blk_in (c : UInt8) : inL c.toNat [32, 9, 10, 13] = isBlk c := by
  have e : ∀ d : UInt8, decide (d.toNat = c.toNat) = (c == d) := fun d => by rw [byte_eq d c, Bool.eq_iff_iff, beq_iff_eq, beq_iff_eq]; exact eq_comm
  simp only [inL, List.any_cons, List.any_nil, e, isBlk, Bool.or_false, Bool.or_assoc]
theorem single_in (c : UInt8) : inL c.toNat [123, 125, 40, 41, 59, 44, 46, 58, 61, 60, 43, 45, 42, 47, 124, 38] = decide (c ∈ singlesL) := by
  have e : ∀ d : UInt8, decide (d.toNat = c.toNat) = decide (c = d) := fun d => by rw [byte_eq d c, Bool.eq_iff_iff, beq_iff_eq, decide_eq_true_eq]; exact eq_comm
  simp only [inL, List.any_cons, List.any_nil, e, singlesL, List.mem_cons, List.not_mem_nil, or_false, Bool.or_false, Bool.decide_or]
theorem oneAny (k a : Int) (s : ByteArray) : ∀ u ∈ [Value.int .i64 k, .string s, .int .i64 a], u.oneCell' = true := fun u hu => by
  simp at hu
  rcases hu with rfl | rfl | rfl <;> rfl

set_option maxHeartbeats 1000000 in
theorem rtokens_big (s : ByteArray) (w : World) (h : 6000 < s.size) : Calls Tryd.prog 12 #[.string s] w fun e w' => e = .returned (.tuple #[.slice none 0 0, .agg #[.int .i64 13, .int .i64 0]]) ∧ Below w.heap.size w w' := by
  have hb := below_alloc1 w (.cells #[.int .i64 0, .int .i64 0] 26)
  have B0 := Blk.start w #[.int .i64 0, .int .i64 0] 26
  go_enter Tryd.func12, Tryd.ntmps12
  go_wp2_with fail
  exact bodyPost_ret (v := .tuple #[.slice none 0 0, .agg #[.int .i64 13, .int .i64 0]]) (by simp [results, Tryd.results12, go_sem]) rfl ⟨rfl, below_alloc1 _ _⟩

set_option maxRecDepth 10000 in
set_option maxHeartbeats 16000000 in
theorem rtokens_any (s : ByteArray) (W : World) (h : s.size ≤ 6000) : Calls Tryd.prog 12 #[.string s] W (TokPut W (lexR s.data.toList 0)) := by
  obtain ⟨iT, hiT, zT0, zT1, zT2⟩ := info_parts infoTok
  obtain ⟨ans, hans⟩ : ∃ ans, ans = lexR s.data.toList 0 := ⟨_, rfl⟩
  rw [← hans]
  have HA := Lib.hid hans
  clear hans
  have hnb : ¬ (6000 : Int) < (s.size : Int) := by omega
  have hb0 := below_alloc1 W (.cells #[.int .i64 0, .int .i64 0] 26)
  have F0 := Blk.start W #[.int .i64 0, .int .i64 0] 26
  have SS := Lib.hid (show RefS W (W.alloc (.cells #[.int .i64 0, .int .i64 0] 26)) (.slice none 0 0) [] from ⟨F0, World.ownsRow_nil _ _ _ _, hb0⟩)
  have H6 := Lib.hid h
  clear F0 hb0
  go_enter Tryd.func12, Tryd.ntmps12
  go_upto_region 4 with fail
  generalize W.alloc (.cells #[.int .i64 0, .int .i64 0] 26) = w1 at *
  go_wp2_with fail
  go_loopg [4, 5] s.size (fun g v4 v5 wr => ∃ (i : Nat) (ts : List Tok) (v : Value), v = v4 ∧ v5 = .int .i64 i ∧ i ≤ s.size ∧ g = s.size - i ∧ ans = (lexR (s.data.toList.drop i) i).pre ts ∧ ts.length ≤ i ∧ RefS W wr v ts)
  case atStart => exact ⟨0, [], _, rfl, rfl, Nat.zero_le _, rfl, by rw [HA.out, List.drop_zero, LexAns.pre_nil], Nat.le_refl _, SS.out⟩
  case round =>
    clear SS
    obtain ⟨i, ts, v, rfl, rfl, hi, hg, hans, hts, D⟩ := hrel
    obtain ⟨wq, rfl⟩ : ∃ wq : World, wq = wr := ⟨_, rfl⟩
    by_cases hlt : i < s.size
    · have hb := byte_at hlt
      have hdr := drop_cons hb
      rw [hdr] at hans
      have i1 : (i : Int) < (s.size : Int) := by omega
      have i2 : (0 : Int) ≤ (i : Int) := by omega
      have wi : IntKind.i64.wrap ((i : Int) + 1) = (i : Int) + 1 := IntWalk.i64_in _ (by omega)
      have ib := fun w => in_any s[i].toNat ⟨#[32, 9, 10, 13]⟩ w (by decide)
      have e1 : inL s[i].toNat (⟨#[32, 9, 10, 13]⟩ : ByteArray).data.toList = isBlk s[i] := blk_in _
      rw [e1] at ib
      have HH := Lib.hid (And.intro hans (And.intro hi (And.intro hg (And.intro hts (And.intro D h)))))
      clear hans hi hg hts D e1
      by_cases hbl : isBlk s[i] = true
      · rw [hbl] at ib
        have IB := Lib.hid ib
        have NX := Lib.hid (lexR_blk (r := s.data.toList.drop (i + 1)) (a := i) hbl)
        clear ib hbl hb hdr
        go_wp2_with (go_at_call 20; (with_reducible refine (IB.out _).mono ?_); rintro e w1 ⟨rfl, rfl⟩)
        go_roundg (s.size - (i + 1))
        case measure => have := HH.out; omega
        case rel => exact ⟨i + 1, ts, v, rfl, by push_cast; rfl, by have := HH.out; omega, rfl, by rw [HH.out.1, NX.out], by have := HH.out; omega, HH.out.2.2.2.2.1⟩
      · have hbl : isBlk s[i] = false := by simpa using hbl
        rw [hbl] at ib
        have IB := Lib.hid ib
        clear ib
        by_cases h35 : s[i] = 35
        · have m : ((s[i].toNat : Int) == 35) = true := by rw [h35]; rfl
          have hsp : spanL notNl (s.data.toList.drop i) = spanL notNl (s.data.toList.drop (i + 1)) + 1 := spanL_yes hb (by rw [h35]; rfl)
          have nx : lexR (s[i] :: s.data.toList.drop (i + 1)) i = lexR (s.data.toList.drop (i + spanL notNl (s.data.toList.drop i))) (i + spanL notNl (s.data.toList.drop i)) := by
            rw [h35, lexR_cmt, List.drop_drop, hsp]
            congr 2
            omega
          have sle := spanL_le notNl (s.data.toList.drop i)
          rw [List.length_drop, len_of] at sle
          obtain ⟨z, hz⟩ : ∃ z, z = spanL notNl (s.data.toList.drop i) := ⟨_, rfl⟩
          rw [← hz] at nx hsp sle
          have NX := Lib.hid (And.intro nx (And.intro hsp (And.intro sle hz)))
          clear nx hsp sle hz hbl h35 hb hdr
          go_wp2_with (go_at_call 20; (with_reducible refine (IB.out _).mono ?_); rintro e w1 ⟨rfl, rfl⟩)
          go_loopg [5] (s.size - i) (fun g v5 wr => ∃ j : Nat, v5 = .int .i64 j ∧ i ≤ j ∧ j ≤ s.size ∧ g = s.size - j ∧ z = (j - i) + spanL notNl (s.data.toList.drop j) ∧ wr = wq)
          case atStart => exact ⟨i, rfl, Nat.le_refl _, by omega, rfl, by rw [Nat.sub_self, Nat.zero_add]; exact NX.out.2.2.2, rfl⟩
          case round =>
            obtain ⟨j, rfl, hij, hj, hgj, hall, rfl⟩ := hrel
            have HJ := Lib.hid (And.intro hij (And.intro hj (And.intro hgj hall)))
            clear hall hgj m
            by_cases hjl : j < s.size
            · have hbj := byte_at hjl
              have j1 : (j : Int) < (s.size : Int) := by omega
              have j2 : (0 : Int) ≤ (j : Int) := by omega
              have wj : IntKind.i64.wrap ((j : Int) + 1) = (j : Int) + 1 := IntWalk.i64_in _ (by omega)
              by_cases hnl : s[j] = 10
              · have m := congrArg UInt8.toNat hnl
                have S0 := Lib.hid (spanL_no (p := notNl) hbj (by rw [hnl]; rfl))
                have HL := Lib.hid hjl
                clear hnl hbj hij hj
                go_wp2_with fail
                go_roundg (s.size - j)
                case measure => have := S0.out; have := HJ.out; have := NX.out; have := HH.out; omega
                case rel => exact ⟨j, ts, v, rfl, rfl, by have := HJ.out; omega, rfl, by rw [HH.out.1, NX.out.1, show i + z = j by have := S0.out; have := HJ.out; omega], by have := HJ.out; have := HH.out; omega, HH.out.2.2.2.2.1⟩
              · have hne : ((s[j].toNat : Int) != 10) = true := by
                  have : s[j].toNat ≠ (10 : UInt8).toNat := fun q => hnl (UInt8.toNat_inj.1 q)
                  simpa using fun q => this (by show s[j].toNat = 10; omega)
                have S1 := Lib.hid (spanL_yes (p := notNl) hbj (by unfold notNl; simp [hnl]))
                have HL := Lib.hid hjl
                clear hnl hbj hij hj
                go_wp2_with fail
                go_roundg (s.size - (j + 1))
                case measure => have := HL.out; have := HJ.out; omega
                case rel => exact ⟨j + 1, by push_cast; rfl, by have := HJ.out; omega, by have := HL.out; omega, rfl, by have := S1.out; have := HJ.out; omega, rfl⟩
            · obtain rfl : j = s.size := by omega
              have S0 := Lib.hid (spanL_off (p := notNl) (Nat.le_of_eq (len_of s)))
              clear hij hj hjl
              go_wp2_with fail
              go_roundg (s.size - s.size)
              case measure => have := S0.out; have := HJ.out; have := NX.out; have := HH.out; omega
              case rel => exact ⟨s.size, ts, v, rfl, rfl, Nat.le_refl _, rfl, by rw [HH.out.1, NX.out.1, show i + z = s.size by have := S0.out; have := HJ.out; omega], by have := HJ.out; have := HH.out; omega, HH.out.2.2.2.2.1⟩
        · have n35 : ((s[i].toNat : Int) == 35) = false := by
            have : s[i].toNat ≠ (35 : UInt8).toNat := fun q => h35 (UInt8.toNat_inj.1 q)
            simpa using fun q => this (by show s[i].toNat = 35; omega)
          have q35 : (s[i] == 35) = false := by simpa using h35
          have here := fun h2 => lexR_here (a := i) (r := s.data.toList.drop (i + 1)) hbl q35 h2
          have fault := fun h2 => lexR_fault (a := i) (r := s.data.toList.drop (i + 1)) hbl q35 h2
          have la := fun w => rletter_any s[i].toNat w
          have da := fun w => rdigit_any s[i].toNat w
          rw [isLet_eq] at la
          rw [isDig_eq] at da
          have kp : ∀ o : Obj, RefS W (wq.alloc o) v ts := fun o => HH.out.2.2.2.2.1.keep (below_alloc1 _ _)
          have KP := Lib.hid (And.intro kp (show W.heap.size + 1 ≤ wq.heap.size from HH.out.2.2.2.2.1.F.lt))
          have LT := Lib.hid (show ts.length ≤ 6000 by have := HH.out; omega)
          have HB := Lib.hid hb
          have HD := Lib.hid hdr
          clear hbl h35 kp hb q35
          cases hl : isLet s[i]
          rotate_left
          · rw [hl] at la
            have f := firstL_cons s[i] (s.data.toList.drop (i + 1))
            rw [if_pos hl] at f
            rw [f] at here
            have nx := here rfl
            dsimp only at nx
            rw [← hdr, List.drop_drop] at nx
            have sle := spanL_le isLD (s.data.toList.drop i)
            rw [List.length_drop, len_of] at sle
            have hsp : spanL isLD (s.data.toList.drop i) = spanL isLD (s.data.toList.drop (i + 1)) + 1 := spanL_yes HB.out (let_ld hl)
            obtain ⟨z, hz⟩ : ∃ z, z = spanL isLD (s.data.toList.drop i) := ⟨_, rfl⟩
            rw [← hz] at nx hsp sle
            have NX := Lib.hid (And.intro nx (And.intro hsp (And.intro sle hz)))
            have LA := Lib.hid la
            clear nx hsp sle hz hdr f here fault la da hl
            go_wp2_with (first | (go_at_call 20; (with_reducible refine (IB.out _).mono ?_); rintro e w1 ⟨rfl, rfl⟩) | (go_at_call 21; (with_reducible refine (LA.out _).mono ?_); rintro e w1 ⟨rfl, rfl⟩))
            go_loopg [7] (s.size - i) (fun g v7 wr => ∃ j : Nat, v7 = .int .i64 j ∧ i ≤ j ∧ j ≤ s.size ∧ g = s.size - j ∧ z = (j - i) + spanL isLD (s.data.toList.drop j) ∧ wr = wq)
            case atStart => exact ⟨i, rfl, Nat.le_refl _, by omega, rfl, by rw [Nat.sub_self, Nat.zero_add]; exact NX.out.2.2.2, rfl⟩
            case round =>
              obtain ⟨j, rfl, hij, hj, hgj, hall, rfl⟩ := hrel
              have HJ := Lib.hid (And.intro hij (And.intro hj (And.intro hgj hall)))
              have j3 : (i : Int) ≤ (j : Int) := by omega
              have j4 : (j : Int) ≤ (s.size : Int) := by omega
              clear hall hgj n35
              by_cases hjl : j < s.size
              · have hbj := byte_at hjl
                have j1 : (j : Int) < (s.size : Int) := by omega
                have j2 : (0 : Int) ≤ (j : Int) := by omega
                have wj : IntKind.i64.wrap ((j : Int) + 1) = (j : Int) + 1 := IntWalk.i64_in _ (by omega)
                have lj := fun w => rletter_any s[j].toNat w
                have dj := fun w => rdigit_any s[j].toNat w
                rw [isLet_eq] at lj
                rw [isDig_eq] at dj
                by_cases hld : isLD s[j] = true
                · have S1 := Lib.hid (spanL_yes (p := isLD) hbj hld)
                  rcases ld_cases hld with q | ⟨q, q2⟩
                  · have HL := Lib.hid hjl
                    rw [q] at lj
                    have LJ := Lib.hid lj
                    clear lj dj hld q hbj hij hj
                    go_wp2_with (go_at_call 21; (with_reducible refine (LJ.out _).mono ?_); rintro e w1 ⟨rfl, rfl⟩)
                    go_roundg (s.size - (j + 1))
                    case measure => have := HL.out; have := HJ.out; omega
                    case rel => exact ⟨j + 1, by push_cast; rfl, by have := HJ.out; omega, by have := HL.out; omega, rfl, by have := S1.out; have := HJ.out; omega, rfl⟩
                  · have HL := Lib.hid hjl
                    rw [q] at lj
                    rw [q2] at dj
                    have LJ := Lib.hid lj
                    have DJ := Lib.hid dj
                    clear lj dj hld q q2 hbj hij hj
                    go_wp2_with (first | (go_at_call 21; (with_reducible refine (LJ.out _).mono ?_); rintro e w1 ⟨rfl, rfl⟩) | (go_at_call 22; (with_reducible refine (DJ.out _).mono ?_); rintro e w1 ⟨rfl, rfl⟩))
                    go_roundg (s.size - (j + 1))
                    case measure => have := HL.out; have := HJ.out; omega
                    case rel => exact ⟨j + 1, by push_cast; rfl, by have := HJ.out; omega, by have := HL.out; omega, rfl, by have := S1.out; have := HJ.out; omega, rfl⟩
                · have hld : isLD s[j] = false := by simpa using hld
                  have S0 := spanL_no (p := isLD) hbj hld
                  have zj : i + z = j ∧ z = j - i := by have := HJ.out; omega
                  obtain ⟨q, q2⟩ := ld_not hld
                  rw [q] at lj
                  rw [q2] at dj
                  have LJ := Lib.hid lj
                  have DJ := Lib.hid dj
                  have nz := NX.out.1
                  rw [zj.1, zj.2] at nz
                  have NX := Lib.hid (And.intro nz (show i < j ∧ j ≤ s.size by have := NX.out; have := HJ.out; omega))
                  clear lj dj hld q q2 hbj hij hj S0 zj nz
                  go_upto_region 29 with (first | (first | (go_at_call 21; (with_reducible refine (LJ.out _).mono ?_); rintro e w1 ⟨rfl, rfl⟩) | (go_at_call 22; (with_reducible refine (DJ.out _).mono ?_); rintro e w1 ⟨rfl, rfl⟩)))
                  go_wp2_with ((at_builtin; refine wpList_append_any _ rfl _ _ 23 rfl (W.heap.size + 1) 32 iT (.agg #[.int .i64 0, .string ⟨#[]⟩, .int .i64 0]) 3 32 Tryd.underlying23 hiT zT0 zT1 zT2 rfl (by decide) _ ts.length (tokCells ts) rfl (KP.out.1 _).own (wr.heap.size + 1) (some ⟨wr.heap.size, 0, none⟩) 1 1 [.int .i64 0, .string (s.extract i j), .int .i64 i] rfl (reads_new _ _ _ _ _) (oneAny _ _ _) (by have := LT.out; unfold maxLen; omega) (by have := LT.out; omega) (by have := KP.out.2; simp; omega) ?_; intro v8 w8 hown hgrow _; have D8 := Lib.hid ((KP.out.1 _).push (t := (0, (s.data.toList.drop i).take (j - i), i)) (txt_of (Lib.extract_data s i j)) hown hgrow); clear hown hgrow))
                  go_roundg (s.size - j)
                  case measure => have := NX.out; have := HH.out; omega
                  case rel => exact ⟨j, ts ++ [(0, (s.data.toList.drop i).take (j - i), i)], v8, rfl, by first | rfl | (push_cast; rfl), by have := NX.out; omega, rfl, by rw [HH.out.1, ← HD.out, NX.out.1, LexAns.pre_push], by have := NX.out; have := HH.out; rw [List.length_append]; simp; omega, D8.out⟩
              · obtain rfl : j = s.size := by omega
                have S0 := spanL_off (p := isLD) (Nat.le_of_eq (len_of s))
                have zj : i + z = s.size ∧ z = s.size - i := by have := HJ.out; omega
                have nz := NX.out.1
                rw [zj.1, zj.2] at nz
                have NX := Lib.hid (And.intro nz (show i < s.size ∧ s.size ≤ s.size by have := NX.out; have := HJ.out; omega))
                clear hij hj hjl S0 zj nz
                go_wp2_with ((at_builtin; refine wpList_append_any _ rfl _ _ 23 rfl (W.heap.size + 1) 32 iT (.agg #[.int .i64 0, .string ⟨#[]⟩, .int .i64 0]) 3 32 Tryd.underlying23 hiT zT0 zT1 zT2 rfl (by decide) _ ts.length (tokCells ts) rfl (KP.out.1 _).own (wr.heap.size + 1) (some ⟨wr.heap.size, 0, none⟩) 1 1 [.int .i64 0, .string (s.extract i s.size), .int .i64 i] rfl (reads_new _ _ _ _ _) (oneAny _ _ _) (by have := LT.out; unfold maxLen; omega) (by have := LT.out; omega) (by have := KP.out.2; simp; omega) ?_; intro v8 w8 hown hgrow _; have D8 := Lib.hid ((KP.out.1 _).push (t := (0, (s.data.toList.drop i).take (s.size - i), i)) (txt_of (Lib.extract_data s i s.size)) hown hgrow); clear hown hgrow))
                go_roundg (s.size - s.size)
                case measure => have := NX.out; have := HH.out; omega
                case rel => exact ⟨s.size, ts ++ [(0, (s.data.toList.drop i).take (s.size - i), i)], v8, rfl, by first | rfl | (push_cast; rfl), by have := NX.out; omega, rfl, by rw [HH.out.1, ← HD.out, NX.out.1, LexAns.pre_push], by have := NX.out; have := HH.out; rw [List.length_append]; simp; omega, D8.out⟩
          cases hd : isDig s[i]
          rotate_left
          · rw [hl] at la
            rw [hd] at da
            have f := firstL_cons s[i] (s.data.toList.drop (i + 1))
            rw [if_neg (by rw [hl]; decide), if_pos hd, ← hdr] at f
            rw [← hdr] at here fault
            rw [f] at here fault
            dsimp only at here fault
            rw [List.drop_drop] at here
            have sle := spanL_le isDig (s.data.toList.drop i)
            rw [List.length_drop, len_of] at sle
            have hsp : spanL isDig (s.data.toList.drop i) = spanL isDig (s.data.toList.drop (i + 1)) + 1 := spanL_yes HB.out hd
            obtain ⟨z, hz⟩ : ∃ z, z = spanL isDig (s.data.toList.drop i) := ⟨_, rfl⟩
            rw [← hz] at here fault hsp sle
            have NX := Lib.hid (And.intro here (And.intro hsp (And.intro sle (And.intro hz fault))))
            have LA := Lib.hid la
            have DA := Lib.hid da
            clear hsp sle hz hdr f here fault la da hl hd
            go_wp2_with (first | (go_at_call 20; (with_reducible refine (IB.out _).mono ?_); rintro e w1 ⟨rfl, rfl⟩) | (go_at_call 21; (with_reducible refine (LA.out _).mono ?_); rintro e w1 ⟨rfl, rfl⟩) | (go_at_call 22; (with_reducible refine (DA.out _).mono ?_); rintro e w1 ⟨rfl, rfl⟩))
            go_loopg [7] (s.size - i) (fun g v7 wr => ∃ j : Nat, v7 = .int .i64 j ∧ i ≤ j ∧ j ≤ s.size ∧ g = s.size - j ∧ z = (j - i) + spanL isDig (s.data.toList.drop j) ∧ wr = wq)
            case atStart => exact ⟨i, rfl, Nat.le_refl _, by omega, rfl, by rw [Nat.sub_self, Nat.zero_add]; exact NX.out.2.2.2.1, rfl⟩
            case round =>
              obtain ⟨j, rfl, hij, hj, hgj, hall, rfl⟩ := hrel
              have HJ := Lib.hid (And.intro hij (And.intro hj (And.intro hgj hall)))
              have j3 : (i : Int) ≤ (j : Int) := by omega
              have j4 : (j : Int) ≤ (s.size : Int) := by omega
              have ws : IntKind.i64.wrap ((j : Int) - (i : Int)) = (j : Int) - (i : Int) := IntWalk.i64_in _ (by omega)
              clear hall hgj n35
              by_cases hgo : ∃ hjl : j < s.size, isDig s[j] = true
              · obtain ⟨hjl, q⟩ := hgo
                have hbj := byte_at hjl
                have j1 : (j : Int) < (s.size : Int) := by omega
                have j2 : (0 : Int) ≤ (j : Int) := by omega
                have wj : IntKind.i64.wrap ((j : Int) + 1) = (j : Int) + 1 := IntWalk.i64_in _ (by omega)
                have dj := fun w => rdigit_any s[j].toNat w
                rw [isDig_eq] at dj
                have S1 := Lib.hid (spanL_yes (p := isDig) hbj q)
                rw [q] at dj
                have DJ := Lib.hid dj
                have HL := Lib.hid hjl
                clear dj q hbj hij hj ws
                go_wp2_with (go_at_call 22; (with_reducible refine (DJ.out _).mono ?_); rintro e w1 ⟨rfl, rfl⟩)
                go_roundg (s.size - (j + 1))
                case measure => have := HL.out; have := HJ.out; omega
                case rel => exact ⟨j + 1, by push_cast; rfl, by have := HJ.out; omega, by have := HL.out; omega, rfl, by have := S1.out; have := HJ.out; omega, rfl⟩
              · have S0 : spanL isDig (s.data.toList.drop j) = 0 := by
                  by_cases hjl : j < s.size
                  · exact spanL_no (byte_at hjl) (by simpa using fun q => hgo ⟨hjl, q⟩)
                  · exact spanL_off (by rw [len_of]; omega)
                have zj : i + z = j ∧ z = j - i := by have := HJ.out; omega
                have nb := NX.out.2.2.2.2
                have nz := NX.out.1
                rw [zj.1, zj.2] at nz
                rw [zj.2] at nb
                have hz1 := NX.out.2.1
                have hz2 := NX.out.2.2.1
                by_cases h18 : j - i ≤ 18
                · have NX := Lib.hid (And.intro (nz (decide_eq_true h18)) (show i < j ∧ j ≤ s.size by have := HJ.out; omega))
                  have l18 : (j : Int) - (i : Int) ≤ 18 := by omega
                  clear S0 zj nz nb hz1 hz2 h18
                  by_cases hjl : j < s.size
                  · have q : isDig s[j] = false := by simpa using fun q => hgo ⟨hjl, q⟩
                    have dj := fun w => rdigit_any s[j].toNat w
                    rw [isDig_eq, q] at dj
                    have DJ := Lib.hid dj
                    have j1 : (j : Int) < (s.size : Int) := by omega
                    have j2 : (0 : Int) ≤ (j : Int) := by omega
                    clear dj q hgo hij hj
                    go_upto_region 29 with (first | (go_at_call 22; (with_reducible refine (DJ.out _).mono ?_); rintro e w1 ⟨rfl, rfl⟩))
                    go_wp2_with ((at_builtin; refine wpList_append_any _ rfl _ _ 23 rfl (W.heap.size + 1) 32 iT (.agg #[.int .i64 0, .string ⟨#[]⟩, .int .i64 0]) 3 32 Tryd.underlying23 hiT zT0 zT1 zT2 rfl (by decide) _ ts.length (tokCells ts) rfl (KP.out.1 _).own (wr.heap.size + 1) (some ⟨wr.heap.size, 0, none⟩) 1 1 [.int .i64 1, .string (s.extract i j), .int .i64 i] rfl (reads_new _ _ _ _ _) (oneAny _ _ _) (by have := LT.out; unfold maxLen; omega) (by have := LT.out; omega) (by have := KP.out.2; simp; omega) ?_; intro v8 w8 hown hgrow _; have D8 := Lib.hid ((KP.out.1 _).push (t := (1, (s.data.toList.drop i).take (j - i), i)) (txt_of (Lib.extract_data s i j)) hown hgrow); clear hown hgrow))
                    go_roundg (s.size - j)
                    case measure => have := NX.out; have := HH.out; omega
                    case rel => exact ⟨j, ts ++ [(1, (s.data.toList.drop i).take (j - i), i)], v8, rfl, by first | rfl | (push_cast; rfl), by have := NX.out; omega, rfl, by rw [HH.out.1, ← HD.out, NX.out.1, LexAns.pre_push], by have := NX.out; have := HH.out; rw [List.length_append]; simp; omega, D8.out⟩
                  · obtain rfl : j = s.size := by omega
                    clear hgo hij hj hjl
                    go_wp2_with ((at_builtin; refine wpList_append_any _ rfl _ _ 23 rfl (W.heap.size + 1) 32 iT (.agg #[.int .i64 0, .string ⟨#[]⟩, .int .i64 0]) 3 32 Tryd.underlying23 hiT zT0 zT1 zT2 rfl (by decide) _ ts.length (tokCells ts) rfl (KP.out.1 _).own (wr.heap.size + 1) (some ⟨wr.heap.size, 0, none⟩) 1 1 [.int .i64 1, .string (s.extract i s.size), .int .i64 i] rfl (reads_new _ _ _ _ _) (oneAny _ _ _) (by have := LT.out; unfold maxLen; omega) (by have := LT.out; omega) (by have := KP.out.2; simp; omega) ?_; intro v8 w8 hown hgrow _; have D8 := Lib.hid ((KP.out.1 _).push (t := (1, (s.data.toList.drop i).take (s.size - i), i)) (txt_of (Lib.extract_data s i s.size)) hown hgrow); clear hown hgrow))
                    go_roundg (s.size - s.size)
                    case measure => have := NX.out; have := HH.out; omega
                    case rel => exact ⟨s.size, ts ++ [(1, (s.data.toList.drop i).take (s.size - i), i)], v8, rfl, by first | rfl | (push_cast; rfl), by have := NX.out; omega, rfl, by rw [HH.out.1, ← HD.out, NX.out.1, LexAns.pre_push], by have := NX.out; have := HH.out; rw [List.length_append]; simp; omega, D8.out⟩
                · have EA := Lib.hid (show ans = .bad i by rw [HH.out.1, ← HD.out, nb (decide_eq_false h18)]; rfl)
                  have l18 : 18 < (j : Int) - (i : Int) := by omega
                  have HF := Lib.hid (And.intro HH.out.2.2.2.2.1.F HH.out.2.2.2.2.1.below)
                  have f0 := HF.out.1.cell 0
                  have f1 := HF.out.1.cell 1
                  have f2 := HF.out.1.free 0
                  have f3 := HF.out.1.free 1
                  clear S0 zj nz nb hz1 hz2 h18
                  by_cases hjl : j < s.size
                  · have q : isDig s[j] = false := by simpa using fun q => hgo ⟨hjl, q⟩
                    have dj := fun w => rdigit_any s[j].toNat w
                    rw [isDig_eq, q] at dj
                    have DJ := Lib.hid dj
                    have j1 : (j : Int) < (s.size : Int) := by omega
                    have j2 : (0 : Int) ≤ (j : Int) := by omega
                    clear dj q hgo hij hj
                    go_wp2_with (go_at_call 22; (with_reducible refine (DJ.out _).mono ?_); rintro e w1 ⟨rfl, rfl⟩)
                    have BF := (HF.out.1.set 0 (.int .i64 10)).set 1 (.int .i64 i)
                    have z0 := BF.cell 0
                    have z1 := BF.cell 1
                    rw [EA.out]
                    exact bodyPost_ret (v := .tuple #[.slice none 0 0, .agg #[.int .i64 10, .int .i64 i]]) (by simp [results, Tryd.results12, go_sem, z0, z1]) rfl ⟨rfl, (HF.out.2.setCell (p := ⟨W.heap.size, 0, none⟩) (Nat.le_refl _) _).setCell (p := ⟨W.heap.size, 1, none⟩) (Nat.le_refl _) _⟩
                  · obtain rfl : j = s.size := by omega
                    clear hgo hij hj hjl
                    go_wp2_with fail
                    have BF := (HF.out.1.set 0 (.int .i64 10)).set 1 (.int .i64 i)
                    have z0 := BF.cell 0
                    have z1 := BF.cell 1
                    rw [EA.out]
                    exact bodyPost_ret (v := .tuple #[.slice none 0 0, .agg #[.int .i64 10, .int .i64 i]]) (by simp [results, Tryd.results12, go_sem, z0, z1]) rfl ⟨rfl, (HF.out.2.setCell (p := ⟨W.heap.size, 0, none⟩) (Nat.le_refl _) _).setCell (p := ⟨W.heap.size, 1, none⟩) (Nat.le_refl _) _⟩
          · rw [hl] at la
            rw [hd] at da
            have f := firstL_cons s[i] (s.data.toList.drop (i + 1))
            rw [if_neg (by rw [hl]; decide), if_neg (by rw [hd]; decide), signL_eq] at f
            have LA := Lib.hid la
            have DA := Lib.hid da
            have si := fun w => in_any s[i].toNat ⟨#[123, 125, 40, 41, 59, 44, 46, 58, 61, 60, 43, 45, 42, 47, 124, 38]⟩ w (by decide)
            have e1 : inL s[i].toNat (⟨#[123, 125, 40, 41, 59, 44, 46, 58, 61, 60, 43, 45, 42, 47, 124, 38]⟩ : ByteArray).data.toList = decide (s[i] ∈ singlesL) := single_in _
            rw [e1] at si
            have w2i : IntKind.i64.wrap ((i : Int) + 2) = (i : Int) + 2 := IntWalk.i64_in _ (by omega)
            clear la da hl hd e1
            have HF := Lib.hid (And.intro HH.out.2.2.2.2.1.F HH.out.2.2.2.2.1.below)
            have f0 := HF.out.1.cell 0
            have f1 := HF.out.1.cell 1
            have f2 := HF.out.1.free 0
            have f3 := HF.out.1.free 1
            have ONE := Lib.hid (fun (q : ¬ ((s[i] = 61 ∧ (s.data.toList.drop (i + 1)).head? = some 61) ∨ (s[i] = 45 ∧ (s.data.toList.drop (i + 1)).head? = some 62))) (hm : s[i] ∈ singlesL) => show lexR (s.data.toList.drop i) i = (lexR (s.data.toList.drop (i + 1)) (i + 1)).push (2, (s.data.toList.drop i).take (i + 1 - i), i) from by
              rw [if_neg q, if_pos hm] at f
              rw [f] at here
              have := here rfl
              rw [← HD.out, List.drop_drop] at this
              rw [Nat.add_sub_cancel_left]
              exact this)
            have NONE := Lib.hid (fun (q : ¬ ((s[i] = 61 ∧ (s.data.toList.drop (i + 1)).head? = some 61) ∨ (s[i] = 45 ∧ (s.data.toList.drop (i + 1)).head? = some 62))) (hm : ¬ s[i] ∈ singlesL) => show ans = .bad i from by
              rw [if_neg q, if_neg hm] at f
              rw [f] at fault
              rw [HH.out.1, fault rfl]
              rfl)
            by_cases h1 : i + 1 < s.size
            · have m1 : (i : Int) + 1 < (s.size : Int) := by omega
              have m2 : (i : Int) + 2 ≤ (s.size : Int) := by omega
              have m3 : (i : Int) ≤ (i : Int) + 2 := by omega
              have m4 : (i : Int) ≤ (i : Int) + 1 := by omega
              have hb1 := byte_at h1
              have hh : (s.data.toList.drop (i + 1)).head? = some s[i + 1] := by rw [List.head?_drop, hb1]
              have tw := two_at h1
              by_cases hP : (s[i] = 61 ∧ (s.data.toList.drop (i + 1)).head? = some 61) ∨ (s[i] = 45 ∧ (s.data.toList.drop (i + 1)).head? = some 62)
              · rw [if_pos hP] at f
                rw [f] at here
                have nx := here rfl
                rw [← HD.out, List.drop_drop] at nx
                have NX := Lib.hid (show lexR (s.data.toList.drop i) i = (lexR (s.data.toList.drop (i + 2)) (i + 2)).push (2, (s.data.toList.drop i).take (i + 2 - i), i) ∧ i < i + 2 ∧ i + 2 ≤ s.size from ⟨by rw [Nat.add_sub_cancel_left]; exact nx, by omega, by omega⟩)
                rw [hh] at hP
                have hX : (s.extract i (i + 2)).toList = [61, 61] ∨ (s.extract i (i + 2)).toList = [45, 62] := by
                  rcases hP with ⟨a, b⟩ | ⟨a, b⟩
                  · left; rw [tw, a, Option.some.inj b]
                  · right; rw [tw, a, Option.some.inj b]
                clear f here fault nx hP hh hb1 tw hdr f0 f1 f2 f3
                rcases hX with hX | hX
                · clear si
                  go_upto_region 29 with (first | (go_at_call 20; (with_reducible refine (IB.out _).mono ?_); rintro e w1 ⟨rfl, rfl⟩) | (go_at_call 21; (with_reducible refine (LA.out _).mono ?_); rintro e w1 ⟨rfl, rfl⟩) | (go_at_call 22; (with_reducible refine (DA.out _).mono ?_); rintro e w1 ⟨rfl, rfl⟩))
                  go_wp2_with ((at_builtin; refine wpList_append_any _ rfl _ _ 23 rfl (W.heap.size + 1) 32 iT (.agg #[.int .i64 0, .string ⟨#[]⟩, .int .i64 0]) 3 32 Tryd.underlying23 hiT zT0 zT1 zT2 rfl (by decide) _ ts.length (tokCells ts) rfl (KP.out.1 _).own (wq.heap.size + 1) (some ⟨wq.heap.size, 0, none⟩) 1 1 [.int .i64 2, .string (s.extract i (i + 2)), .int .i64 i] rfl (reads_new _ _ _ _ _) (oneAny _ _ _) (by have := LT.out; unfold maxLen; omega) (by have := LT.out; omega) (by have := KP.out.2; simp; omega) ?_; intro v8 w8 hown hgrow _; have D8 := Lib.hid ((KP.out.1 _).push (t := (2, (s.data.toList.drop i).take ((i + 2) - i), i)) (txt_of (Lib.extract_data s i (i + 2))) hown hgrow); clear hown hgrow))
                  go_roundg (s.size - (i + 2))
                  case measure => have := NX.out; have := HH.out; omega
                  case rel => exact ⟨(i + 2), ts ++ [(2, (s.data.toList.drop i).take ((i + 2) - i), i)], v8, rfl, by first | rfl | (push_cast; rfl), by have := NX.out; omega, rfl, by rw [HH.out.1, ← HD.out, NX.out.1, LexAns.pre_push], by have := NX.out; have := HH.out; rw [List.length_append]; simp; omega, D8.out⟩
                · clear si
                  go_upto_region 29 with (first | (go_at_call 20; (with_reducible refine (IB.out _).mono ?_); rintro e w1 ⟨rfl, rfl⟩) | (go_at_call 21; (with_reducible refine (LA.out _).mono ?_); rintro e w1 ⟨rfl, rfl⟩) | (go_at_call 22; (with_reducible refine (DA.out _).mono ?_); rintro e w1 ⟨rfl, rfl⟩))
                  go_wp2_with ((at_builtin; refine wpList_append_any _ rfl _ _ 23 rfl (W.heap.size + 1) 32 iT (.agg #[.int .i64 0, .string ⟨#[]⟩, .int .i64 0]) 3 32 Tryd.underlying23 hiT zT0 zT1 zT2 rfl (by decide) _ ts.length (tokCells ts) rfl (KP.out.1 _).own (wq.heap.size + 1) (some ⟨wq.heap.size, 0, none⟩) 1 1 [.int .i64 2, .string (s.extract i (i + 2)), .int .i64 i] rfl (reads_new _ _ _ _ _) (oneAny _ _ _) (by have := LT.out; unfold maxLen; omega) (by have := LT.out; omega) (by have := KP.out.2; simp; omega) ?_; intro v8 w8 hown hgrow _; have D8 := Lib.hid ((KP.out.1 _).push (t := (2, (s.data.toList.drop i).take ((i + 2) - i), i)) (txt_of (Lib.extract_data s i (i + 2))) hown hgrow); clear hown hgrow))
                  go_roundg (s.size - (i + 2))
                  case measure => have := NX.out; have := HH.out; omega
                  case rel => exact ⟨(i + 2), ts ++ [(2, (s.data.toList.drop i).take ((i + 2) - i), i)], v8, rfl, by first | rfl | (push_cast; rfl), by have := NX.out; omega, rfl, by rw [HH.out.1, ← HD.out, NX.out.1, LexAns.pre_push], by have := NX.out; have := HH.out; rw [List.length_append]; simp; omega, D8.out⟩
              · have n1 : ¬ (s.extract i (i + 2)).toList = [61, 61] := fun e => by
                  rw [tw] at e
                  simp at e
                  exact hP (.inl ⟨e.1, by rw [hh, e.2]⟩)
                have n2 : ¬ (s.extract i (i + 2)).toList = [45, 62] := fun e => by
                  rw [tw] at e
                  simp at e
                  exact hP (.inr ⟨e.1, by rw [hh, e.2]⟩)
                have n3 : ((s.extract i (i + 2)).toList == [61, 61]) = false := by simpa using n1
                have n4 : ((s.extract i (i + 2)).toList == [45, 62]) = false := by simpa using n2
                by_cases hm : s[i] ∈ singlesL
                · rw [decide_eq_true hm] at si
                  have SI := Lib.hid si
                  have NX := Lib.hid (And.intro (ONE.out hP hm) (show i < i + 1 ∧ i + 1 ≤ s.size by omega))
                  clear f here fault hP hh hb1 tw hdr f0 f1 f2 f3 si hm
                  go_upto_region 29 with (first | (go_at_call 20; (with_reducible refine (IB.out _).mono ?_); rintro e w1 ⟨rfl, rfl⟩) | (go_at_call 21; (with_reducible refine (LA.out _).mono ?_); rintro e w1 ⟨rfl, rfl⟩) | (go_at_call 22; (with_reducible refine (DA.out _).mono ?_); rintro e w1 ⟨rfl, rfl⟩) | (go_at_call 20; (with_reducible refine (SI.out _).mono ?_); rintro e w1 ⟨rfl, rfl⟩))
                  go_wp2_with ((at_builtin; refine wpList_append_any _ rfl _ _ 23 rfl (W.heap.size + 1) 32 iT (.agg #[.int .i64 0, .string ⟨#[]⟩, .int .i64 0]) 3 32 Tryd.underlying23 hiT zT0 zT1 zT2 rfl (by decide) _ ts.length (tokCells ts) rfl (KP.out.1 _).own (wq.heap.size + 1) (some ⟨wq.heap.size, 0, none⟩) 1 1 [.int .i64 2, .string (s.extract i (i + 1)), .int .i64 i] rfl (reads_new _ _ _ _ _) (oneAny _ _ _) (by have := LT.out; unfold maxLen; omega) (by have := LT.out; omega) (by have := KP.out.2; simp; omega) ?_; intro v8 w8 hown hgrow _; have D8 := Lib.hid ((KP.out.1 _).push (t := (2, (s.data.toList.drop i).take ((i + 1) - i), i)) (txt_of (Lib.extract_data s i (i + 1))) hown hgrow); clear hown hgrow))
                  go_roundg (s.size - (i + 1))
                  case measure => have := NX.out; have := HH.out; omega
                  case rel => exact ⟨(i + 1), ts ++ [(2, (s.data.toList.drop i).take ((i + 1) - i), i)], v8, rfl, by first | rfl | (push_cast; rfl), by have := NX.out; omega, rfl, by rw [HH.out.1, ← HD.out, NX.out.1, LexAns.pre_push], by have := NX.out; have := HH.out; rw [List.length_append]; simp; omega, D8.out⟩
                · rw [decide_eq_false hm] at si
                  have SI := Lib.hid si
                  have EA := Lib.hid (NONE.out hP hm)
                  clear f here fault hP hh hb1 tw hdr si hm
                  go_wp2_with (first | (go_at_call 20; (with_reducible refine (IB.out _).mono ?_); rintro e w1 ⟨rfl, rfl⟩) | (go_at_call 21; (with_reducible refine (LA.out _).mono ?_); rintro e w1 ⟨rfl, rfl⟩) | (go_at_call 22; (with_reducible refine (DA.out _).mono ?_); rintro e w1 ⟨rfl, rfl⟩) | (go_at_call 20; (with_reducible refine (SI.out _).mono ?_); rintro e w1 ⟨rfl, rfl⟩))
                  have BF := (HF.out.1.set 0 (.int .i64 10)).set 1 (.int .i64 i)
                  have z0 := BF.cell 0
                  have z1 := BF.cell 1
                  rw [EA.out]
                  exact bodyPost_ret (v := .tuple #[.slice none 0 0, .agg #[.int .i64 10, .int .i64 i]]) (by simp [results, Tryd.results12, go_sem, z0, z1]) rfl ⟨rfl, (HF.out.2.setCell (p := ⟨W.heap.size, 0, none⟩) (Nat.le_refl _) _).setCell (p := ⟨W.heap.size, 1, none⟩) (Nat.le_refl _) _⟩
            · have m1 : ¬ (i : Int) + 1 < (s.size : Int) := by omega
              have m4 : (i : Int) ≤ (i : Int) + 1 := by omega
              have m5 : (i : Int) + 1 ≤ (s.size : Int) := by omega
              have hh : (s.data.toList.drop (i + 1)).head? = none := by rw [drop_all (by omega)]; rfl
              have hP : ¬ ((s[i] = 61 ∧ (s.data.toList.drop (i + 1)).head? = some 61) ∨ (s[i] = 45 ∧ (s.data.toList.drop (i + 1)).head? = some 62)) := by rw [hh]; simp
              by_cases hm : s[i] ∈ singlesL
              · rw [decide_eq_true hm] at si
                have SI := Lib.hid si
                have NX := Lib.hid (And.intro (ONE.out hP hm) (show i < i + 1 ∧ i + 1 ≤ s.size by omega))
                clear f here fault hP hh hdr f0 f1 f2 f3 si hm
                go_upto_region 29 with (first | (go_at_call 20; (with_reducible refine (IB.out _).mono ?_); rintro e w1 ⟨rfl, rfl⟩) | (go_at_call 21; (with_reducible refine (LA.out _).mono ?_); rintro e w1 ⟨rfl, rfl⟩) | (go_at_call 22; (with_reducible refine (DA.out _).mono ?_); rintro e w1 ⟨rfl, rfl⟩) | (go_at_call 20; (with_reducible refine (SI.out _).mono ?_); rintro e w1 ⟨rfl, rfl⟩))
                go_wp2_with ((at_builtin; refine wpList_append_any _ rfl _ _ 23 rfl (W.heap.size + 1) 32 iT (.agg #[.int .i64 0, .string ⟨#[]⟩, .int .i64 0]) 3 32 Tryd.underlying23 hiT zT0 zT1 zT2 rfl (by decide) _ ts.length (tokCells ts) rfl (KP.out.1 _).own (wq.heap.size + 1) (some ⟨wq.heap.size, 0, none⟩) 1 1 [.int .i64 2, .string (s.extract i (i + 1)), .int .i64 i] rfl (reads_new _ _ _ _ _) (oneAny _ _ _) (by have := LT.out; unfold maxLen; omega) (by have := LT.out; omega) (by have := KP.out.2; simp; omega) ?_; intro v8 w8 hown hgrow _; have D8 := Lib.hid ((KP.out.1 _).push (t := (2, (s.data.toList.drop i).take ((i + 1) - i), i)) (txt_of (Lib.extract_data s i (i + 1))) hown hgrow); clear hown hgrow))
                go_roundg (s.size - (i + 1))
                case measure => have := NX.out; have := HH.out; omega
                case rel => exact ⟨(i + 1), ts ++ [(2, (s.data.toList.drop i).take ((i + 1) - i), i)], v8, rfl, by first | rfl | (push_cast; rfl), by have := NX.out; omega, rfl, by rw [HH.out.1, ← HD.out, NX.out.1, LexAns.pre_push], by have := NX.out; have := HH.out; rw [List.length_append]; simp; omega, D8.out⟩
              · rw [decide_eq_false hm] at si
                have SI := Lib.hid si
                have EA := Lib.hid (NONE.out hP hm)
                clear f here fault hP hh hdr si hm
                go_wp2_with (first | (go_at_call 20; (with_reducible refine (IB.out _).mono ?_); rintro e w1 ⟨rfl, rfl⟩) | (go_at_call 21; (with_reducible refine (LA.out _).mono ?_); rintro e w1 ⟨rfl, rfl⟩) | (go_at_call 22; (with_reducible refine (DA.out _).mono ?_); rintro e w1 ⟨rfl, rfl⟩) | (go_at_call 20; (with_reducible refine (SI.out _).mono ?_); rintro e w1 ⟨rfl, rfl⟩))
                have BF := (HF.out.1.set 0 (.int .i64 10)).set 1 (.int .i64 i)
                have z0 := BF.cell 0
                have z1 := BF.cell 1
                rw [EA.out]
                exact bodyPost_ret (v := .tuple #[.slice none 0 0, .agg #[.int .i64 10, .int .i64 i]]) (by simp [results, Tryd.results12, go_sem, z0, z1]) rfl ⟨rfl, (HF.out.2.setCell (p := ⟨W.heap.size, 0, none⟩) (Nat.le_refl _) _).setCell (p := ⟨W.heap.size, 1, none⟩) (Nat.le_refl _) _⟩
    · obtain rfl : i = s.size := by omega
      rw [drop_all (Nat.le_refl _), lexR_nil] at hans
      have EA := Lib.hid (show ans = .ok (ts ++ [(3, [], s.size)]) from hans)
      have kp : ∀ o : Obj, RefS W (wq.alloc o) v ts := fun o => D.keep (below_alloc1 _ _)
      have KP := Lib.hid (And.intro kp (show W.heap.size + 1 ≤ wq.heap.size from D.F.lt))
      have LT := Lib.hid (show ts.length ≤ 6000 by omega)
      clear kp hans D hg hi hts hlt
      go_wp2_with (at_builtin; refine wpList_append_any _ rfl _ _ 23 rfl (W.heap.size + 1) 32 iT (.agg #[.int .i64 0, .string ⟨#[]⟩, .int .i64 0]) 3 32 Tryd.underlying23 hiT zT0 zT1 zT2 rfl (by decide) _ ts.length (tokCells ts) rfl (KP.out.1 _).own (wq.heap.size + 1) (some ⟨wq.heap.size, 0, none⟩) 1 1 [.int .i64 3, .string ⟨#[]⟩, .int .i64 s.size] rfl (reads_new _ _ _ _ _) (oneAny _ _ _) (by have := LT.out; unfold maxLen; omega) (by have := LT.out; omega) (by have := KP.out.2; simp; omega) ?_; intro v8 w8 hown hgrow _; have D8 := Lib.hid ((KP.out.1 _).push (t := (3, [], s.size)) rfl hown hgrow); clear hown hgrow; have f0 := D8.out.F.cell 0; have f1 := D8.out.F.cell 1; have f2 := D8.out.F.free 0; have f3 := D8.out.F.free 1)
      have TA := TokensAt.own D8.out.own
      obtain ⟨Az, cz, rfl⟩ : ∃ A c, v8 = .slice A (ts ++ [(3, [], s.size)]).length c := by obtain ⟨A, c, e, _⟩ := TA; exact ⟨A, c, e⟩
      have TZ := TokensAt.own (D8.out.own.kept (grown_trans (grown_set (g := W.heap.size) (j := 0) (u := .int .i64 0)) (grown_set (j := 1) (u := .int .i64 0))) (.inr fun e => by have := (D8.out.own.lt _ e).1; omega))
      have BF := (D8.out.F.set 0 (.int .i64 0)).set 1 (.int .i64 0)
      have z0 := BF.cell 0
      have z1 := BF.cell 1
      have bl := (D8.out.below.setCell (p := ⟨W.heap.size, 0, none⟩) (Nat.le_refl _) (.int .i64 0)).setCell (p := ⟨W.heap.size, 1, none⟩) (Nat.le_refl _) (.int .i64 0)
      rw [EA.out]
      exact bodyPost_ret (v := .tuple #[.slice Az (ts ++ [(3, [], s.size)]).length cz, .agg #[.int .i64 0, .int .i64 0]]) (by simp [results, Tryd.results12, go_sem, z0, z1]) rfl ⟨Az, cz, rfl, TZ, bl⟩
end Go.Proofs.YtmmlmbfnabgobaaDoor
