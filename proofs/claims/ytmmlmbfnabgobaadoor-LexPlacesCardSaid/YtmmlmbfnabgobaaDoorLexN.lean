/-
  The walk of LexPlaces. (Template: by-name.py fills it.)
-/
import Derived.Test.YtmmlmbfnabgobaaDoorLexL
namespace Go.Proofs.YtmmlmbfnabgobaaDoor
open Go.RowKit

/-- Tokens that stand one behind the other, from a place on. -/
def TokChain (L : List UInt8) : Nat → List Tok → Prop
  | _, [] => False
  | e, t :: r => (r = [] → t = (3, [], L.length) ∧ e ≤ L.length) ∧ (r ≠ [] → (e ≤ t.2.2 ∧ t.2.2 + t.2.1.length ≤ L.length ∧ (L.drop t.2.2).take t.2.1.length = t.2.1 ∧ t.1 ≠ 3 ∧ t.2.1 ≠ []) ∧ TokChain L (t.2.2 + t.2.1.length) r)

theorem kind_not3 {c : UInt8} {r : List UInt8} : (firstL (c :: r)).2.2 = true → (firstL (c :: r)).1 ≠ 3 := by
  rw [firstL_cons]
  split
  · exact fun _ => (by simp)
  · split
    · exact fun _ => (by simp)
    · split
      · exact fun _ => (by simp)
      · exact fun _ => (by simp)
theorem read_bad (L : List UInt8) (a : Nat) (h : (readL L a).ok = false) : (readL L a).lo < L.length := by
  unfold readL at *
  dsimp only at *
  rcases Nat.lt_or_ge (a + blanksL (L.drop a)) L.length with q | q
  · exact q
  · rw [List.drop_eq_nil_of_le q] at h
    cases h
theorem read_three (L : List UInt8) (a : Nat) (ha : a ≤ L.length) (h : (readL L a).ok = true) (h3 : (readL L a).kind = 3) : (readL L a).lo = L.length ∧ (readL L a).size = 0 := by
  have le := readL_le L a ha
  unfold readL at *
  dsimp only at *
  cases q : L.drop (a + blanksL (L.drop a)) with
  | nil =>
    have := List.length_drop (i := a + blanksL (L.drop a)) (l := L)
    rw [q] at this
    simp only [List.length_nil] at this
    exact ⟨by omega, rfl⟩
  | cons c r =>
    rw [q] at h h3
    exact absurd h3 (kind_not3 h)

theorem lex_chain (L : List UInt8) : ∀ (m a : Nat) (ts : List Tok), L.length - a ≤ m → a ≤ L.length → lexR (L.drop a) a = .ok ts → TokChain L a ts := by
  intro m
  induction m with
  | zero =>
    intro a ts hm ha h
    rw [List.drop_eq_nil_of_le (by omega), lexR_nil] at h
    injection h with h
    subst h
    exact ⟨fun _ => ⟨by rw [show a = L.length by omega], ha⟩, fun q => absurd rfl q⟩
  | succ m ih =>
    intro a ts hm ha h
    obtain ⟨s1, s2, s3⟩ := lex_step L a
    obtain ⟨l1, l2, l3⟩ := readL_le L a ha
    have r3 := read_three L a ha
    generalize readL L a = r at *
    obtain ⟨rk, rl, rz, ro⟩ := r
    dsimp only at *
    cases ro with
    | false => rw [s1 rfl] at h; cases h
    | true =>
      by_cases hk : rk = 3
      · rw [s2 rfl hk] at h
        injection h with h
        subst h
        obtain ⟨rfl, rfl⟩ := r3 rfl hk
        exact ⟨fun _ => ⟨by simp, ha⟩, fun q => absurd rfl q⟩
      · obtain ⟨e, hz⟩ := s3 rfl hk
        rw [e] at h
        cases q : lexR (L.drop (rl + rz)) (rl + rz) with
        | bad p => rw [q] at h; cases h
        | ok us =>
          rw [q] at h
          injection h with h
          subst h
          have hc := ih (rl + rz) us (by omega) l2 q
          have hl : ((L.drop rl).take rz).length = rz := by rw [List.length_take, List.length_drop]; omega
          have hu : us ≠ [] := fun e => by subst e; exact hc
          refine ⟨fun e => absurd e hu, fun _ => ⟨⟨l3, by rw [hl]; exact l2, by rw [hl], hk, fun e => ?_⟩, by rw [hl]; exact hc⟩⟩
          have : ((L.drop rl).take rz).length = 0 := by
            have e : (L.drop rl).take rz = [] := e
            rw [e]; rfl
          omega
theorem chain_last {L : List UInt8} : ∀ (ts : List Tok) (e : Nat), TokChain L e ts → 0 < ts.length ∧ ts[ts.length - 1]? = some (3, [], L.length)
  | [], _, h => by cases h
  | [t], e, h => ⟨Nat.one_pos, by rw [(h.1 rfl).1]; rfl⟩
  | t :: u :: r, e, h => by
    obtain ⟨_, hl⟩ := chain_last (u :: r) _ (h.2 (by simp)).2
    refine ⟨by simp, ?_⟩
    rw [← hl]
    rfl
theorem lex_bad (L : List UInt8) : ∀ (m a p : Nat), L.length - a ≤ m → a ≤ L.length → lexR (L.drop a) a = .bad p → p < L.length := by
  intro m
  induction m with
  | zero =>
    intro a p hm ha h
    rw [List.drop_eq_nil_of_le (by omega), lexR_nil] at h
    cases h
  | succ m ih =>
    intro a p hm ha h
    obtain ⟨s1, s2, s3⟩ := lex_step L a
    obtain ⟨l1, l2, l3⟩ := readL_le L a ha
    have hlt : (readL L a).ok = false → (readL L a).lo < L.length := read_bad L a
    generalize readL L a = r at *
    obtain ⟨rk, rl, rz, ro⟩ := r
    dsimp only at *
    cases ro with
    | false => rw [s1 rfl] at h; injection h with h; subst h; exact hlt rfl
    | true =>
      by_cases hk : rk = 3
      · rw [s2 rfl hk] at h; cases h
      · obtain ⟨e, hz⟩ := s3 rfl hk
        rw [e] at h
        cases q : lexR (L.drop (rl + rz)) (rl + rz) with
        | ok us => rw [q] at h; cases h
        | bad p2 =>
          rw [q] at h
          injection h with h
          subst h
          exact ih (rl + rz) p2 (by omega) l2 q

theorem chain_at {L : List UInt8} {e : Nat} {ts : List Tok} {i : Nat} {t : Tok} (h : TokChain L e (ts.drop i)) (ht : ts[i]? = some t) : (i + 1 = ts.length → t = (3, [], L.length) ∧ e ≤ L.length) ∧ (i + 1 < ts.length → (e ≤ t.2.2 ∧ t.2.2 + t.2.1.length ≤ L.length ∧ (L.drop t.2.2).take t.2.1.length = t.2.1 ∧ t.1 ≠ 3 ∧ t.2.1 ≠ []) ∧ TokChain L (t.2.2 + t.2.1.length) (ts.drop (i + 1))) := by
  obtain ⟨hi, rfl⟩ := List.getElem?_eq_some_iff.1 ht
  rw [List.drop_eq_getElem_cons hi] at h
  refine ⟨fun q => h.1 (List.drop_eq_nil_of_le (by omega)), fun q => h.2 fun e => ?_⟩
  have := congrArg List.length e
  rw [List.length_drop] at this
  simp at this
  omega

set_option maxRecDepth 10000 in
set_option maxHeartbeats 16000000 in
theorem lexplaces_any (w : World) (ht : Tabs w) (s : ByteArray) (_ : s.size ≤ maxLen) : Calls Tryd.prog 7 #[.string s] w fun e w' => e = .returned (.bool true) ∧ Below w.heap.size w w' := by
  have aw := fun w' (h : Below w.heap.size w w') => awake_yes w' (ht.below h)
  have ta := fun w' (h : Below w.heap.size w w') => tokens_res s w' (ht.below h).1
  have AW := Lib.hid aw
  clear aw ht
  by_cases h2 : (2000 : Int) < (s.size : Int)
  · clear ta
    go_enter Tryd.func7, Tryd.ntmps7
    go_upto_region 2 with (go_at_call 10; (with_reducible refine (AW.out _ (Below.refl _ _)).mono ?_); rintro e w1 ⟨rfl, bb⟩)
    go_wp2_with (go_at_call 10; (with_reducible refine (AW.out _ bb).mono ?_); rintro e w2 ⟨rfl, b2⟩)
    go_ret
    exact ⟨rfl, bb.trans (b2.mono bb.size)⟩
  · have hl : s.data.toList.length ≤ 6000 := by rw [len_of]; omega
    cases q : lexR s.data.toList 0 with
    | bad p =>
      have hp := lex_bad s.data.toList _ 0 p (Nat.le_refl _) (Nat.zero_le _) q
      rw [len_of] at hp
      rw [res_of_bad hl q] at ta
      have p1 : (0 : Int) ≤ (p : Int) := by omega
      have p2 : (p : Int) < (s.size : Int) := by omega
      have TA := Lib.hid ta
      clear q hp ta hl
      go_enter Tryd.func7, Tryd.ntmps7
      go_upto_region 3 with (go_at_call 10; (with_reducible refine (AW.out _ (Below.refl _ _)).mono ?_); rintro e w1 ⟨rfl, bb⟩)
      go_upto_region 4 with (go_at_call 11; (with_reducible refine (TA.out _ bb).mono ?_); rintro e w2 ⟨A, c, rfl, hT, hb⟩)
      (try dsimp only at hT hb)
      have F1 := Blk.start w2 #[.int .i64 10, .int .i64 p] 26
      have a1 := below_alloc1 w2 (.cells #[.int .i64 10, .int .i64 p] 26)
      have b1 := hb.trans (a1.mono hb.size)
      have HB := Lib.hid (And.intro (bb.trans (b1.mono bb.size)) F1)
      clear hT hb F1 a1 b1 bb
      generalize w2.heap.size = bf at *
      generalize w2.alloc (.cells #[.int .i64 10, .int .i64 p] 26) = w3 at *
      have f0 := HB.out.2.cell 0
      have f1 := HB.out.2.cell 1
      go_wp2_with fail
      go_ret
      exact ⟨rfl, HB.out.1⟩
    | ok ts =>
      have hch := lex_chain s.data.toList _ 0 ts (Nat.le_refl _) (Nat.zero_le _) q
      obtain ⟨hn0, hlast⟩ := chain_last ts 0 hch
      rw [res_of_ok hl q] at ta
      have TA := Lib.hid ta
      have CH := Lib.hid (And.intro hch (And.intro hn0 hlast))
      clear q ta hl hch hlast
      go_enter Tryd.func7, Tryd.ntmps7
      go_upto_region 3 with (go_at_call 10; (with_reducible refine (AW.out _ (Below.refl _ _)).mono ?_); rintro e w1 ⟨rfl, bb⟩)
      go_upto_region 4 with (go_at_call 11; (with_reducible refine (TA.out _ bb).mono ?_); rintro e w2 ⟨A, c, rfl, hT, hb⟩)
      (try dsimp only at hT hb)
      have F1 := Blk.start w2 #[.int .i64 0, .int .i64 0] 26
      have a1 := below_alloc1 w2 (.cells #[.int .i64 0, .int .i64 0] 26)
      have b1 := hb.trans (a1.mono hb.size)
      have HB := Lib.hid (And.intro (bb.trans (b1.mono bb.size)) (And.intro F1 (hT.below a1)))
      clear hT hb F1 a1 b1 bb
      generalize w2.heap.size = bf at *
      generalize w2.alloc (.cells #[.int .i64 0, .int .i64 0] 26) = w3 at *
      have f0 := HB.out.2.1.cell 0
      have f1 := HB.out.2.1.cell 1
      obtain ⟨Az, cz, eq, _, hcm, hr⟩ := HB.out.2.2
      obtain ⟨rfl, rfl⟩ : A = Az ∧ c = cz := by injection eq with a b c; exact ⟨a, c⟩
      have hmx : ts.length ≤ 9223372036854775807 := by unfold maxLen at hcm; omega
      obtain ⟨n, hn⟩ : ∃ n, n = ts.length := ⟨_, rfl⟩
      rw [← hn] at hr hmx hn0 ⊢
      have HR := Lib.hid (And.intro hr (And.intro hmx hn))
      clear eq hr hcm hn
      go_upto_region 8 with fail
      go_loopg [5, 6] n (fun g v5 v6 wr => ∃ i e : Nat, v5 = .int .i64 e ∧ v6 = .int .i64 i ∧ i ≤ n ∧ g = n - i ∧ e ≤ s.size ∧ (i < n → TokChain s.data.toList e (ts.drop i)) ∧ Below w3.heap.size w3 wr)
      case atStart => exact ⟨0, 0, rfl, rfl, Nat.zero_le _, rfl, Nat.zero_le _, fun _ => CH.out.1, Below.refl _ _⟩
      case round =>
        obtain ⟨i, e, rfl, rfl, hi, hg, he, hc, hb⟩ := hrel
        by_cases hlt : i < n
        · obtain ⟨t, ht⟩ : ∃ t, ts[i]? = some t := ⟨_, List.getElem?_eq_getElem (by have := HR.out.2.2; omega)⟩
          obtain ⟨ad, rfl, c0, c1, c2⟩ := tok_cells' HR.out.1 hb ht hn0
          obtain ⟨cl, cm⟩ := chain_at (hc hlt) ht
          rw [← HR.out.2.2] at cl cm
          rw [len_of] at cl cm
          have i1 : (i : Int) < (n : Int) := by omega
          have i2 : (0 : Int) ≤ (i : Int) := by omega
          have wi : IntKind.i64.wrap ((i : Int) + 1) = (i : Int) + 1 := IntWalk.i64_in _ (by have := HR.out.2.1; omega)
          have wn : IntKind.i64.wrap ((n : Int) - 1) = (n : Int) - 1 := IntWalk.i64_in _ (by have := HR.out.2.1; omega)
          obtain ⟨tk, tt, tp⟩ := t
          dsimp only at *
          have HH := Lib.hid (And.intro hlt (And.intro hg (And.intro he (And.intro hc hb))))
          clear hg he hc hb ht
          go_upto_region 11 with fail
          have B5 := Blk.start wr #[.int .i64 tk, txt tt, .int .i64 tp] 32
          have b5 := HH.out.2.2.2.2.trans ((below_alloc1 wr (.cells #[.int .i64 tk, txt tt, .int .i64 tp] 32)).mono HH.out.2.2.2.2.size)
          have HW := Lib.hid (And.intro b5 B5)
          clear b5 B5 c0 c1 c2
          generalize wr.heap.size = bt at *
          generalize wr.alloc (.cells #[.int .i64 tk, txt tt, .int .i64 tp] 32) = w5 at *
          have d0 := HW.out.2.cell 0
          have d1 := HW.out.2.cell 1
          have d2 := HW.out.2.cell 2
          by_cases hz : i + 1 = n
          · obtain ⟨ez, he⟩ := cl hz
            obtain ⟨rfl, rfl, rfl⟩ : tk = 3 ∧ tt = [] ∧ tp = s.size := by injection ez with a b; injection b with b c; exact ⟨a, b, c⟩
            have HE := Lib.hid (And.intro he hz)
            have n1 : ((i : Int) == (n : Int) - 1) = true := by rw [beq_iff_eq]; omega
            have e1 : ¬ (s.size : Int) < (e : Int) := by omega
            have e2 : decide (s.size < e) = false := decide_eq_false (by omega)
            have e3 : IntKind.i64.wrap ((s.size : Int) + 0) = (s.size : Int) := IntWalk.i64_in _ (by omega)
            have hx : s.extract s.size s.size = ⟨#[]⟩ := by
              have := txt_of (s := s.extract s.size s.size) (l := []) (by rw [Lib.extract_to_end, drop_all (Nat.le_refl _)])
              injection this
            clear cl cm ez he hz hlt hi
            go_quiet (fail)
            go_wp2_with fail
            go_roundg (n - (i + 1))
            case measure => have := HH.out.1; have := HH.out.2.1; omega
            case rel => exact ⟨i + 1, s.size, by first | rfl | (push_cast; rfl) | simp, by push_cast; rfl, by have := HE.out.2; omega, rfl, Nat.le_refl _, fun q => absurd HE.out.2 (by omega), below_drewN HW.out.1 _⟩
          · obtain ⟨⟨g1, g2, g3, g4, g5⟩, gc⟩ := cm (by omega)
            have n1 : ((i : Int) == (n : Int) - 1) = false := by rw [beq_eq_false_iff_ne]; omega
            have k3 : ((tk : Int) == 3) = false := by rw [beq_eq_false_iff_ne]; omega
            have e1 : ¬ (tp : Int) < (e : Int) := by omega
            have e2 : decide (tp < e) = false := decide_eq_false (by omega)
            have e3 : IntKind.i64.wrap ((tp : Int) + (tt.length : Int)) = (tp : Int) + (tt.length : Int) := IntWalk.i64_in _ (by omega)
            have e4 : ¬ (s.size : Int) < (tp : Int) + (tt.length : Int) := by omega
            have e5 : (tp : Int) ≤ (tp : Int) + (tt.length : Int) := by omega
            have e6 : (tp : Int) + (tt.length : Int) ≤ (s.size : Int) := by omega
            have e7 : ((tp : Int) + (tt.length : Int)).toNat = tp + tt.length := by omega
            have e8 : (0 : Int) ≤ (tp : Int) := by omega
            have et : tt.isEmpty = false := List.isEmpty_eq_false_iff.2 g5
            have hx : s.extract tp (tp + tt.length) = ⟨tt.toArray⟩ := by
              have := txt_of (s := s.extract tp (tp + tt.length)) (l := tt) (by rw [Lib.extract_data, Nat.add_sub_cancel_left, g3])
              injection this
            have HE := Lib.hid (And.intro gc (And.intro g2 (show i + 1 < n by omega)))
            clear cl cm g1 g2 g3 g4 g5 gc hz hlt hi
            go_quiet (fail)
            clear hx
            go_wp2_with fail
            go_roundg (n - (i + 1))
            case measure => have := HH.out.1; have := HH.out.2.1; omega
            case rel => exact ⟨i + 1, tp + tt.length, by push_cast; rfl, by push_cast; rfl, by have := HE.out.2.2; omega, rfl, HE.out.2.1, fun _ => HE.out.1, below_drewN HW.out.1 _⟩
        · obtain rfl : i = n := by omega
          have hl := CH.out.2.2
          rw [← HR.out.2.2, len_of] at hl
          obtain ⟨ad, rfl, _, _, c2⟩ := tok_cells' HR.out.1 hb hl hn0
          dsimp only at c2
          have i1 : (0 : Int) < (i : Int) := by omega
          have i3 : (0 : Int) ≤ (i : Int) - 1 := by omega
          have i4 : (i : Int) - 1 < (i : Int) := by omega
          have wn : IntKind.i64.wrap ((i : Int) - 1) = (i : Int) - 1 := IntWalk.i64_in _ (by have := HR.out.2.1; omega)
          have en : ((i : Int) - 1).toNat = i - 1 := by omega
          have HE := Lib.hid (HB.out.1.trans (hb.mono HB.out.1.size))
          clear hg he hc hb hlt hi hl
          go_wp2_with fail
          go_ret
          exact ⟨rfl, HE.out⟩
end Go.Proofs.YtmmlmbfnabgobaaDoor
