/-
  For every fraction, right or not, the law RatText answers true, and leaves its argument as it was. Condition: the library's tables hold what the program's text lays (the card ties them to it, over the pruned copy of the project).
-/
import Derived.Test.YtjgbiecfjjdogaaDoorRatShow
import Derived.Test.YtjgbiecfjjdogaaDoorRatK
import Derived.Deep.LoopGhost
import Derived.Test.YtjgbiecfjjdogaaDoorCards
import Derived.Test.YtjgbiecfjjdogaaDoorTie
import Derived.OpenShut
import Derived.LaidMore
import Derived.Stop.Joined
import Derived.Stop.LaidErr
import Derived.Deep.DeepHandedRow
namespace Go.Proofs.YtjgbiecfjjdogaaDoor
open Go.ChangeShapes Go.WideShapes Go.ChangeAt Go.RowKit

/-- What the law's loop makes of the rest of a text. -/
def runT : Bool → List UInt8 → Nat → Nat → Bool → Bool → Option (Nat × Nat × Bool × Bool)
  | _, [], n, d, m, b => some (n, d, m, b)
  | first, c :: r, n, d, m, b =>
    if c.toNat = 45 ∧ first = true then runT false r n d true b
    else if c.toNat = 47 ∧ b = false then runT false r n d m true
    else if c.toNat < 48 ∨ 57 < c.toNat then none
    else if b = true then (if 10 * d + (c.toNat - 48) ≤ 9223372036854775807 then runT false r n (10 * d + (c.toNat - 48)) m b else none)
    else (if 10 * n + (c.toNat - 48) ≤ 9223372036854775807 then runT false r (10 * n + (c.toNat - 48)) d m b else none)

theorem digit_nat (k : Nat) (h : k < 10) : (UInt8.ofNat (48 + k)).toNat = 48 + k := by
  rw [UInt8.toNat_ofNat']; omega

theorem run_front (u : Nat) (hu : u ≤ 9223372036854775807) (f : Bool) (r : List UInt8) (d : Nat) (m : Bool) : runT f (Lib.decDigits u ++ r) 0 d m false = runT false r u d m false := by
  induction u using Nat.strongRecOn generalizing f r with
  | ind u ih =>
    rw [Lib.decDigits]
    split
    · rename_i h
      rw [List.singleton_append, runT, digit_nat u h]
      rw [if_neg (by omega), if_neg (by omega), if_neg (by omega), if_neg (by decide), if_pos (by omega)]
      congr 1; omega
    · rename_i h
      rw [List.append_assoc, ih (u / 10) (by omega) (by omega), List.singleton_append, runT, digit_nat (u % 10) (by omega)]
      rw [if_neg (by omega), if_neg (by omega), if_neg (by omega), if_neg (by decide), if_pos (by omega)]
      congr 1; omega

theorem run_back (u : Nat) (hu : u ≤ 9223372036854775807) (f : Bool) (r : List UInt8) (n : Nat) (m : Bool) : runT f (Lib.decDigits u ++ r) n 0 m true = runT false r n u m true := by
  induction u using Nat.strongRecOn generalizing f r with
  | ind u ih =>
    rw [Lib.decDigits]
    split
    · rename_i h
      rw [List.singleton_append, runT, digit_nat u h]
      rw [if_neg (by omega), if_neg (by omega), if_neg (by omega), if_pos rfl, if_pos (by omega)]
      congr 1; omega
    · rename_i h
      rw [List.append_assoc, ih (u / 10) (by omega) (by omega), List.singleton_append, runT, digit_nat (u % 10) (by omega)]
      rw [if_neg (by omega), if_neg (by omega), if_neg (by omega), if_pos rfl, if_pos (by omega)]
      congr 1; omega

theorem run_show {n : Int} {d : Nat} (v : Valid n d) : runT true (showL n d) 0 0 false false = some (n.natAbs, if d = 1 then 0 else d, decide (n < 0), decide (d ≠ 1)) := by
  have vn := v.n_le; have vd := v.d_le; have vp := v.pos
  unfold showL
  have tail : ∀ m : Bool, runT false (if d = 1 then [] else 47 :: Lib.itoa d) n.natAbs 0 m false = some (n.natAbs, if d = 1 then 0 else d, m, decide (d ≠ 1)) := by
    intro m
    by_cases e : d = 1
    · simp [e, runT]
    · simp only [if_neg e]
      have hd : Lib.itoa (d : Int) = Lib.decDigits d := by unfold Lib.itoa; rw [if_neg (by omega)]; simp
      rw [runT, if_neg (by decide), if_pos (by decide), hd]
      have := run_back d vd false [] n.natAbs m
      rw [List.append_nil] at this
      rw [this, runT]
      simp [e]
  have hi : Lib.itoa n = if n < 0 then 45 :: Lib.decDigits n.natAbs else Lib.decDigits n.toNat := rfl
  rw [hi]
  by_cases s : n < 0
  · rw [if_pos s, List.cons_append, runT, if_pos (by decide), run_front n.natAbs vn, tail]
    simp [s]
  · rw [if_neg s, show n.toNat = n.natAbs by omega, run_front n.natAbs vn, tail]
    simp [s]

/-- What holds at the loop's head. -/
def TextRel (s : ByteArray) (A D : Nat) (M B : Bool) (w : World) (g : Nat) (v4 v5 v6 v7 v8 : Value) (wx : World) : Prop :=
  w = wx ∧ ∃ (k n d : Nat) (m b : Bool), k ≤ s.size ∧ g = s.size - k ∧ v4 = .int .i64 n ∧ v5 = .int .i64 d ∧ v6 = .bool m ∧ v7 = .bool b ∧ v8 = .int .i64 k ∧ runT (decide (k = 0)) (s.data.toList.drop k) n d m b = some (A, D, M, B)

set_option maxRecDepth 100000 in
set_option maxHeartbeats 4000000 in
theorem text_right {n : Int} {d : Nat} (v : Valid n d) (w : World) (h : Pow10 w) :
    Calls Tryd.prog 4 #[ratV n d] w fun e w' => e = .returned (.bool true) ∧ Below w.heap.size w w' := by
  have ra := fun w => right_yes v w
  obtain ⟨s, hs⟩ : ∃ s : ByteArray, s = ⟨(showL n d).toArray⟩ := ⟨_, rfl⟩
  have sh := fun w h => show_valid v w h
  rw [← hs] at sh
  have hr := run_show v
  have hl : s.data.toList = showL n d := by rw [hs]
  rw [← hl] at hr
  have hz : s.size ≤ 50 := by
    have vn := v.n_le; have vd := v.d_le
    have a := itoa_len (n := n) (by omega) (by omega)
    have b := itoa_len (n := d) (by omega) (by omega)
    have : s.size = (showL n d).length := by rw [← hl, Array.length_toList]; rfl
    rw [this]
    unfold showL
    rw [List.length_append]
    split
    · rw [List.length_nil]; omega
    · rw [List.length_cons]; omega
  have HR := Lib.hid hr
  have HT := Lib.hid h
  have HV := Lib.hid v
  have L := (Live.start w).box n d
  clear hs hl hr h v
  go_enter Tryd.func4, Tryd.ntmps4
  go_upto_region 3 with (first
    | (go_at_call 5; (with_reducible refine (awake_yes _).mono ?_); rintro e w1 ⟨rfl, hb⟩; have L := L.call hb; have a0 := L.n 0 rfl; have a1 := L.d 0 rfl)
    | (go_at_call 8; (with_reducible refine (ra _).mono ?_); rintro e w1 ⟨rfl, hb⟩; have L := L.call hb; have a0 := L.n 0 rfl; have a1 := L.d 0 rfl))
  go_upto_block 0 with (go_at_call 12; (with_reducible refine (sh _ (pow10_on HT.out L.below)).mono ?_); rintro e w2 ⟨rfl, hb⟩; have L := L.call hb; have a0 := L.n 0 rfl; have a1 := L.d 0 rfl)
  go_wp2_with fail
  go_loopg [4, 5, 6, 7, 8] s.size (fun g v4 v5 v6 v7 v8 wx => TextRel s n.natAbs (if d = 1 then 0 else d) (decide (n < 0)) (decide (d ≠ 1)) w2 g v4 v5 v6 v7 v8 wx)
  case atStart => exact ⟨rfl, 0, 0, 0, false, false, Nat.zero_le _, rfl, rfl, rfl, rfl, rfl, rfl, HR.out⟩
  case round =>
    obtain ⟨rfl, k, x, y, m, b, hk, hg, rfl, rfl, rfl, rfl, rfl, hrun⟩ := hrel
    have HRun := Lib.hid hrun
    have HG := Lib.hid hg
    clear hrun hg
    by_cases hlt : k < s.size
    · have hd : s.data.toList.drop k = s[k] :: s.data.toList.drop (k + 1) := by
        rw [List.drop_eq_getElem_cons (by rw [Array.length_toList]; exact hlt)]; rfl
      have HD := Lib.hid hd
      clear hd
      go_upto_region 10 with fail
      obtain ⟨cv, hcv⟩ : ∃ cv : Nat, cv = s[k].toNat := ⟨_, rfl⟩
      rw [← hcv]
      have hrun := HRun.out
      rw [HD.out, runT, ← hcv] at hrun
      have hc8 : cv < 256 := by rw [hcv]; exact UInt8.toNat_lt _
      have HC := Lib.hid hcv
      clear hcv
      have wk : IntKind.i64.wrap ((k : Int) + 1) = ((k + 1 : Nat) : Int) := by rw [IntWalk.i64_in _ (by omega)]; omega
      by_cases h45 : cv = 45
      · by_cases h0 : k = 0
        · rw [if_pos ⟨h45, by simp [h0]⟩] at hrun
          have e45 : ((cv : Int) == 45) = true := by simp [h45]
          have ek : ((k : Int) == 0) = true := by simp [h0]
          have HRun2 := Lib.hid hrun
          clear hrun h45 h0 hc8
          go_wp2_with fail
          go_roundg (s.size - (k + 1))
          case measure => have := HG.out; omega
          case rel => exact ⟨rfl, k + 1, x, y, true, b, by omega, rfl, rfl, rfl, rfl, rfl, rfl, by simpa using HRun2.out⟩
        · exfalso
          rw [if_neg (by simp [h0]), if_neg (by omega), if_pos (by omega)] at hrun
          cases hrun
      · rw [if_neg (by omega)] at hrun
        have e45 : ((cv : Int) == 45) = false := by simp; omega
        by_cases h47 : cv = 47
        · cases b
          · rw [if_pos ⟨h47, rfl⟩] at hrun
            have e47 : ((cv : Int) == 47) = true := by simp [h47]
            have HRun2 := Lib.hid hrun
            clear hrun h45 h47 hc8
            go_wp2_with fail
            go_roundg (s.size - (k + 1))
            case measure => have := HG.out; omega
            case rel => exact ⟨rfl, k + 1, x, y, m, true, by omega, rfl, rfl, rfl, rfl, rfl, rfl, by simpa using HRun2.out⟩
          · exfalso
            rw [if_neg (by simp), if_pos (by omega)] at hrun
            cases hrun
        · rw [if_neg (by omega)] at hrun
          have e47 : ((cv : Int) == 47) = false := by simp; omega
          by_cases hdg : cv < 48 ∨ 57 < cv
          · exfalso
            rw [if_pos hdg] at hrun
            cases hrun
          · rw [if_neg hdg] at hrun
            have e48 : decide ((cv : Int) < 48) = false := decide_eq_false (by omega)
            have e57 : decide ((57 : Int) < (cv : Int)) = false := decide_eq_false (by omega)
            have ws : IntKind.u8.wrap ((cv : Int) - 48) = ((cv - 48 : Nat) : Int) := by rw [IntWalk.u8_in _ (by omega)]; omega
            obtain ⟨q, hq⟩ : ∃ q, q = cv - 48 := ⟨_, rfl⟩
            rw [← hq] at ws hrun
            have hq9 : q ≤ 9 := by omega
            have HQ := Lib.hid hq
            clear hq hdg h45 h47 hc8
            cases b
            · rw [if_neg (by decide)] at hrun
              by_cases hb : 10 * x + q ≤ 9223372036854775807
              · rw [if_pos hb] at hrun
                have w1 : IntKind.i64.wrap (10 * (x : Int)) = ((10 * x : Nat) : Int) := by rw [IntWalk.i64_in _ (by omega)]; omega
                have w2 : IntKind.i64.wrap (((10 * x : Nat) : Int) + (q : Int)) = ((10 * x + q : Nat) : Int) := by rw [IntWalk.i64_in _ (by omega)]; omega
                obtain ⟨p, hp⟩ : ∃ p, p = 10 * x := ⟨_, rfl⟩
                obtain ⟨r, hr⟩ : ∃ r, r = 10 * x + q := ⟨_, rfl⟩
                rw [← hr] at w2 hrun
                rw [← hp] at w1 w2
                have HRun2 := Lib.hid hrun
                have HB := Lib.hid (And.intro hb (And.intro hp hr))
                clear hrun hb hp hr
                go_wp2_with fail
                go_roundg (s.size - (k + 1))
                case measure => have := HG.out; omega
                case rel => exact ⟨rfl, k + 1, r, y, m, false, by omega, rfl, rfl, rfl, rfl, rfl, rfl, by simpa using HRun2.out⟩
              · exfalso
                rw [if_neg hb] at hrun
                cases hrun
            · rw [if_pos rfl] at hrun
              by_cases hb : 10 * y + q ≤ 9223372036854775807
              · rw [if_pos hb] at hrun
                have w1 : IntKind.i64.wrap (10 * (y : Int)) = ((10 * y : Nat) : Int) := by rw [IntWalk.i64_in _ (by omega)]; omega
                have w2 : IntKind.i64.wrap (((10 * y : Nat) : Int) + (q : Int)) = ((10 * y + q : Nat) : Int) := by rw [IntWalk.i64_in _ (by omega)]; omega
                obtain ⟨p, hp⟩ : ∃ p, p = 10 * y := ⟨_, rfl⟩
                obtain ⟨r, hr⟩ : ∃ r, r = 10 * y + q := ⟨_, rfl⟩
                rw [← hr] at w2 hrun
                rw [← hp] at w1 w2
                have HRun2 := Lib.hid hrun
                have HB := Lib.hid (And.intro hb (And.intro hp hr))
                clear hrun hb hp hr
                go_wp2_with fail
                go_roundg (s.size - (k + 1))
                case measure => have := HG.out; omega
                case rel => exact ⟨rfl, k + 1, x, r, m, true, by omega, rfl, rfl, rfl, rfl, rfl, rfl, by simpa using HRun2.out⟩
              · exfalso
                rw [if_neg hb] at hrun
                cases hrun
    · have hk2 : k = s.size := by omega
      have hnil : s.data.toList.drop k = [] := List.drop_eq_nil_of_le (by rw [Array.length_toList]; exact Nat.le_of_eq hk2.symm)
      have hrun := HRun.out
      rw [hnil, runT] at hrun
      simp only [Option.some.injEq, Prod.mk.injEq] at hrun
      obtain ⟨hx, hy, hm, hb⟩ := hrun
      have v := HV.out
      have vn := v.n_le; have vd := v.d_le; have vp := v.pos
      have hlt2 : ¬ (k : Int) < (s.size : Int) := by omega
      have hlt3 : decide (k < s.size) = false := decide_eq_false hlt
      have K2 := Lib.hid hk2
      clear hnil hk2 v hk hlt
      by_cases sg : n < 0
      · obtain rfl : m = true := by rw [hm]; exact decide_eq_true sg
        have wn : IntKind.i64.wrap (-(x : Int)) = n := by rw [hx, IntWalk.i64_in _ (by omega)]; omega
        by_cases e : d = 1
        · obtain rfl : b = false := by rw [hb]; simp [e]
          have e1 : ((1 : Int) == (d : Int)) = true := by simp [e]
          clear hx hy hm hb sg e vn vd vp
          go_wp2_with fail
          go_ret
          exact ⟨rfl, L.below⟩
        · obtain rfl : b = true := by rw [hb]; simp [e]
          obtain rfl : y = d := by rw [hy, if_neg e]
          clear hx hy hm hb sg e vn vd vp
          go_wp2_with fail
          go_ret
          exact ⟨rfl, L.below⟩
      · obtain rfl : m = false := by rw [hm]; exact decide_eq_false sg
        have xn : ((x : Int) == n) = true := by rw [hx]; simp; omega
        by_cases e : d = 1
        · obtain rfl : b = false := by rw [hb]; simp [e]
          have e1 : ((1 : Int) == (d : Int)) = true := by simp [e]
          clear hx hy hm hb sg e vn vd vp
          go_wp2_with fail
          go_ret
          exact ⟨rfl, L.below⟩
        · obtain rfl : b = true := by rw [hb]; simp [e]
          obtain rfl : y = d := by rw [hy, if_neg e]
          clear hx hy hm hb sg e vn vd vp
          go_wp2_with fail
          go_ret
          exact ⟨rfl, L.below⟩

set_option maxHeartbeats 1000000 in
theorem text_wrong {n d : Int} (h : rightB n d = false) (h1 : -9223372036854775808 ≤ n) (h2 : n ≤ 9223372036854775807) (h3 : -9223372036854775808 ≤ d) (h4 : d ≤ 9223372036854775807) (w : World) :
    Calls Tryd.prog 4 #[ratV n d] w fun e w' => e = .returned (.bool true) ∧ Below w.heap.size w w' := by
  have ra := fun w => right_no h h1 h2 h3 h4 w
  have L := (Live.start w).box n d
  clear h h1 h2 h3 h4
  go_enter Tryd.func4, Tryd.ntmps4
  go_wp2_with (first
    | (go_at_call 5; (with_reducible refine (awake_yes _).mono ?_); rintro e w1 ⟨rfl, hb⟩; have L := L.call hb; have a0 := L.n 0 rfl; have a1 := L.d 0 rfl)
    | (go_at_call 8; (with_reducible refine (ra _).mono ?_); rintro e w1 ⟨rfl, hb⟩; have L := L.call hb))
  go_ret
  exact ⟨rfl, L.below⟩

theorem text_any (n d : Int) (h1 : -9223372036854775808 ≤ n) (h2 : n ≤ 9223372036854775807) (h3 : -9223372036854775808 ≤ d) (h4 : d ≤ 9223372036854775807) (w : World) (ht : Pow10 w) :
    Calls Tryd.prog 4 #[ratV n d] w fun e w' => e = .returned (.bool true) ∧ Below w.heap.size w w' := by
  cases h : rightB n d
  · exact text_wrong h h1 h2 h3 h4 w
  · obtain ⟨k, rfl, v⟩ := valid_of h h1 h2 h4
    exact text_right v w ht

theorem gPow : Tryd.prog.globalNamed "internal/strconv.uint64pow10" = some 0 := by kernel_rfl
theorem gPowType : (Tryd.prog.globals[0]?).map (·.type) = some 82 := by kernel_rfl
theorem cellsPow : Tryd.prog.cellsOf 82 = 20 := by kernel_rfl
theorem cellsU64 : Tryd.prog.cellsOf 35 = 1 := by kernel_rfl

/-- What the row's list gives: the table of powers. -/
theorem text_table {W : World} (h : laidMetH Tryd.prog Rows.ratTextRow.laid W) : Pow10 W := by
  rw [MakeChecks.laidMetH_plain _ _ _ (by kernel_rfl)] at h
  exact Lib.tabIs_of_head (rest := []) gPow gPowType Tryd.underlying82 Tryd.underlying35 cellsU64 cellsPow (laidMet.tail (laidMet.tail h))

theorem text_contract (H : Type) (enc : TypeId × Value → H) (W : World) (base : Nat) (args : Array Value) (ds gs : List (DataW H)) (before : List MemPlace)
    (hval : ∀ (j : Nat) t v, Tryd.f4.params[j]? = some t → args[j]? = some v → Value.okWide Tryd.prog W .any base t v)
    (hW : DataW.Whole enc Tryd.prog Tryd.f4.params.toList Rows.ratTextSpec.vars false W args.toList ds gs before) (hL : laidMetH Tryd.prog Rows.ratTextRow.laid W) :
    Calls Tryd.prog 4 args W fun e W' => ∃ v, e = .returned v ∧ Rows.ratTextSpec.post enc Tryd.prog Tryd.f4 false true false false W args v W' := by
  have hW' := hW
  obtain ⟨p, q, hA0, hV, rfl, _, _⟩ := hW
  have hA : DataW.TrodAll enc Tryd.prog W 0 (fun _ => true) true Tryd.f4.params.toList args.toList ds p := hA0
  rw [Tryd.params4] at hA hval
  obtain ⟨v0, d0, rfl, rfl, h0⟩ := trodAll_one hA
  obtain ⟨rfl, rfl⟩ := trodVars_none hV
  obtain ⟨n, e, rfl, rfl, rfl, ⟨n1, n2⟩, ⟨e1, e2⟩, sh⟩ := open_rat (hval 0 23 v0 rfl rfl) h0
  clear hA0
  simp only [List.append_nil] at hW'
  refine (text_any n e n1 n2 e1 e2 W (text_table hL)).mono fun r W' ⟨he, hb⟩ => ?_
  subst he
  exact ⟨_, rfl, post_of_below (pa := []) (pv := []) hW' (fun _ _ _ => trodAll_mk1 (shut_bool Tryd.underlying4 _)) (fun sp _ => trodAll_mk1 (sh _ _ sp _)) (fun _ _ => rfl) rfl hb (ok_one (by kernel_rfl) rfl (okWide_bool_mk Tryd.underlying4 _))⟩

theorem text_laid_met (os : Os) : laidMet Tryd.prog Rows.ratTextRow.laid ((World.doorLaid Tryd.prog 400 os).forCall (fun _ _ => 0) ⟨#[], #[.agg #[.int .i64 0, .int .i64 0]], []⟩).memory :=
  laidMet_of_run' 8 (by kernel_rfl) (by kernel_rfl)
theorem text_reads (os : Os) {H : Type} (enc : TypeId × Value → H) : ∃ places, DataW.whole enc Tryd.prog ((World.doorLaid Tryd.prog 400 os).forCall (fun _ _ => 0) ⟨#[], #[.agg #[.int .i64 0, .int .i64 0]], []⟩).memory Tryd.f4.params.toList Rows.ratTextSpec.vars false #[Value.agg #[.int .i64 0, .int .i64 0]].toList 8 = some ([.agg [.lit (.int .i64 0), .lit (.int .i64 0)]], [], places) :=
  ⟨[], by kernel_rfl⟩

set_option maxRecDepth 100000 in
theorem text_lifted (os : Os) (started : os.Started) (H : Type) (enc : TypeId × Value → H) (F : Stop.Interp) :
    ReturnsInHanded {} Tryd.checked os 4 .any ((OpenSpec.ofChange Rows.ratTextSpec).preRow enc Tryd.prog Tryd.f4 Rows.ratTextRow.domain false Rows.ratTextRow.laid) (((OpenSpec.ofChange Rows.ratTextSpec).at F).post enc Tryd.prog Tryd.f4 false true false false) := by
  obtain ⟨places, hx⟩ := text_reads os enc
  refine returnsInHanded_of_row (C := Tryd.checked) (s := OpenSpec.ofChange Rows.ratTextSpec) Tryd.own started (by kernel_rfl) Tryd.func4
    (witness_row_at (enc := enc) (C := Tryd.checked) false (World.doorLaid Tryd.prog 400 os) #[.agg #[.int .i64 0, .int .i64 0]] rfl (by kernel_rfl) (by kernel_rfl) (by kernel_rfl)
      (OpenSpec.preRow_of_cond 8 hx (by kernel_rfl) (fun k hk => by cases hk) (by kernel_rfl) (text_laid_met os))) ?_
  intro W base args ds gs before hval hW _ _ _ hL _ _
  exact text_contract H enc W base args ds gs before hval hW hL

theorem text_said : Rows.RatTextSaid :=
  OpenClaim.holds_of_cond 4 Tryd.f4 rfl rfl rfl rfl rfl rfl rfl ⟨rfl, rfl, rfl, rfl, rfl⟩ rfl rfl rfl rfl rfl (by kernel_rfl) Tryd.func4 (by kernel_rfl)
    (of_decide_eq_true (by kernel_rfl)) (by unfold Func.isWrapper; first | (rw [if_pos (by decide +kernel)]; kernel_rfl) | (rw [if_neg (by decide +kernel)]; exact ⟨rfl, rfl⟩))
    (fun os started H enc _ F => by rw [OpenClaim.pre_eq_preRow]; exact text_lifted os started H enc F)

theorem text_plain (f : FuncId) (fn : Func) (hf : Tryd.pinned.checked.prog.funcNamed "ballcock/ballcocklaw01.RatText" = some f) (hfn : Tryd.pinned.checked.prog.funcs[f]? = some fn) :
    false = Tryd.pinned.checked.prog.looks [] ∧ ∀ (j : Nat) t, fn.params[j]? = some t → Tryd.pinned.checked.prog.wantsStandIn t = false := by
  obtain rfl : f = 4 := Option.some.inj ((show Tryd.prog.funcNamed "ballcock/ballcocklaw01.RatText" = some 4 by kernel_rfl).symm.trans hf) |>.symm
  obtain rfl : fn = Tryd.f4 := (Option.some.inj (Tryd.func4.symm.trans hfn)).symm
  refine ⟨by kernel_rfl, fun j t ht => ?_⟩
  rw [Tryd.params4] at ht
  obtain rfl : t = 23 := by simpa using Array.mem_of_getElem? ht
  exact (show Tryd.prog.wantsStandIn 23 = false by kernel_rfl)

theorem text_holds : Rows.RatTextCardSaid :=
  Claim7.holds_tied_plain_at .later [] _ _ _ _ text_said (fun _ h => by cases h) (by kernel_rfl) (fun _ h => by cases h) ratText_row_tie rfl ⟨rfl, rfl⟩ (by kernel_rfl) rfl text_plain (by kernel_rfl)
#print axioms text_holds
end Go.Proofs.YtjgbiecfjjdogaaDoor
