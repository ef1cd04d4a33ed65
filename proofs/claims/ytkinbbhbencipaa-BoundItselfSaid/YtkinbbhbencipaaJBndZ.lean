/-
  Each row of a system follows from it; the walk of BoundItself. (Template: by-name.py fills it; gen/genBndZ.py writes it.)
-/
import Derived.Test.YtkinbbhbencipaaJBndW
import Derived.Test.YtkinbbhbencipaaJBndY
namespace Go.Proofs.Ytkinbbhbencipaa
open Go.RowKit

theorem satF_0 {r : Rw} {x : Nat → Rat} (h : r.1 = 0) : satF r x ↔ ev r.2 x = 0 := by unfold satF; rw [if_pos h]
theorem satF_1 {r : Rw} {x : Nat → Rat} (h : r.1 = 1) : satF r x ↔ 0 ≤ ev r.2 x := by
  unfold satF
  rw [if_neg (by omega)]
  unfold satR satL rowL
  rw [h]
  dsimp only
  rw [lval_ev]
  simp [below_]
theorem satF_2 {r : Rw} {x : Nat → Rat} (h : r.1 = 2) : satF r x ↔ 0 < ev r.2 x := by
  unfold satF
  rw [if_neg (by omega)]
  unfold satR satL rowL
  rw [h]
  dsimp only
  rw [lval_ev]
  simp [below_]
theorem times_bad {l : List (Int × Int)} {k b : Int × Int} (h : (timesT l k b).2.2 ≠ 0) : (timesT l k b).2.1 = (0, 0) := by
  unfold timesT at h ⊢
  split
  · rename_i g
    rw [if_pos g] at h
    unfold putT at h ⊢
    split
    · rename_i g2
      rw [if_pos g2] at h
      exact absurd rfl h
    · rfl
  · rfl
theorem okR_not0 : ¬ OkR (0, 0) := fun ⟨d, e, v⟩ => by
  have := v.pos
  have e : (0 : Int) = d := e
  omega
theorem minus_ev {r : Rw} {o : Int} (hr : TrmOk r.2) (hm : TrmOk (minR o r).2) (x : Nat → Rat) : ev (minR o r).2 x = - ev r.2 x := by
  have he : (timesT r.2.1 r.2.2 (-1, 1)).2.2 = 0 := by
    by_cases q : (timesT r.2.1 r.2.2 (-1, 1)).2.2 = 0
    · exact q
    · have := hm.k
      unfold minR at this
      dsimp only at this
      rw [times_bad q] at this
      exact absurd this okR_not0
  have hs : scaleO r.2 (-1, 1) = some (minR o r).2 := by
    unfold scaleO minR
    rw [if_pos he]
  have qm : q (-1, 1) = -1 := by
    have := neg_q (1, 1)
    rw [q_one] at this
    exact this
  obtain ⟨a, b⟩ := scaleO_q hr (okR_neg okR_one) hs
  rw [show negH (1, 1) = (-1, 1) from rfl, qm] at a b
  have := sumQ_add (fun k => co (minR o r).2 k * x k) (fun k => co r.2 k * x k) (fun k => co r.2 k * x k) (-2) (fun k => by rw [a k]; grind) 8
  unfold ev
  rw [b, this]
  grind
theorem solB_right {l : List Rw} (h : (solB l).2 = 0) : ∀ r ∈ l, wrongR r = false := fun r hr => by
  cases e : wrongR r with
  | false => rfl
  | true =>
    have : frontT l = .inl 2 := by
      unfold frontT
      rw [if_pos (.inr (List.any_eq_true.2 ⟨r, hr, e⟩))]
    unfold solB at h
    rw [this] at h
    cases h
theorem excl_1 {z : Int} (h : exclB z = 1) : z = 0 := by
  unfold exclB at h
  split at h
  · assumption
  · split at h <;> cases h
/-- What a row that is so excludes. -/
theorem entG_not {l : List Rw} {r s : Rw} (hw : ∀ r ∈ l, RWide r) (hs : s ∈ l) (hr : RWide r) (hsat : ∀ x, TrmOk r.2 → TrmOk s.2 → satF s x → satF r x) (hop : r.1 = 1 ∨ r.1 = 2) : entG l r ≠ 1 := fun h => by
  unfold entG at h
  split at h
  · cases h
  · rename_i g
    have hwr : wrongR r = false := by simpa using g
    have hm : RWide (minR (if r.1 = 1 then 2 else 1) r) := rwide_min hr (by split <;> decide)
    have hw2 : ∀ x ∈ l ++ [minR (if r.1 = 1 then 2 else 1) r], RWide x := fun x hx' => by
      rcases List.mem_append.1 hx' with q | q
      · exact hw x q
      · rw [List.mem_singleton] at q; subst q; exact hm
    have hz := excl_1 h
    have hall := solB_right hz
    obtain ⟨x, hx⟩ := solB_sat hw2 hz
    have t1 := (right_trm ⟨hr.1, hr.2.1⟩ hwr).1
    have ts := (right_trm ⟨(hw s hs).1, (hw s hs).2.1⟩ (hall s (List.mem_append_left _ hs))).1
    have t2 := (right_trm ⟨hm.1, hm.2.1⟩ (hall _ (List.mem_append_right _ (List.mem_singleton.2 rfl)))).1
    have h1 := hsat x t1 ts (hx s (List.mem_append_left _ hs))
    have h2 := hx _ (List.mem_append_right _ (List.mem_singleton.2 rfl))
    have ee := minus_ev t1 t2 x
    rcases hop with q | q
    · rw [if_pos q] at h2 ee
      have b := (satF_2 (r := minR 2 r) rfl).1 h2
      have a := (satF_1 q).1 h1
      rw [ee] at b
      grind
    · rw [if_neg (by omega)] at h2 ee
      have b := (satF_1 (r := minR 1 r) rfl).1 h2
      have a := (satF_2 q).1 h1
      rw [ee] at b
      grind
theorem itself_true {l : List Rw} {r : Rw} (hw : ∀ r ∈ l, RWide r) (hr : r ∈ l) : (entB l r != 1) = true := by
  have hx := hw r hr
  have key : entB l r ≠ 1 := by
    unfold entB
    split
    · decide
    · rename_i g
      have hwr : wrongR r = false := by simpa using g
      obtain ⟨t1, hop⟩ := right_trm ⟨hx.1, hx.2.1⟩ hwr
      split
      · rename_i h0
        split
        · refine entG_not hw hr (rwide_min hx (by decide)) (fun x a b h => ?_) (.inl rfl)
          have := minus_ev t1 a x
          refine (satF_1 (r := minR 1 r) rfl).2 ?_
          have e0 := (satF_0 h0).1 h
          rw [this, e0]
          grind
        · refine entG_not hw hr ⟨hx.1, hx.2.1, (show -9223372036854775808 ≤ (1 : Int) ∧ (1 : Int) ≤ 9223372036854775807 by decide)⟩ (fun x _ _ h => ?_) (.inl rfl)
          refine (satF_1 (r := (1, r.2)) rfl).2 ?_
          have e0 := (satF_0 h0).1 h
          show 0 ≤ ev r.2 x
          rw [e0]
          grind
      · rename_i h0
        exact entG_not hw hr hx (fun x _ _ h => h) (by rcases hop with a | a | a; (· exact absurd a h0); (· exact .inl a); (· exact .inr a))
  simpa using key

theorem u8i_bd {n : Int} (h : (Lit.int .u8 n).wf = true) : 0 ≤ n ∧ n ≤ 255 := by
  simp only [Lit.wf, Bool.and_eq_true, decide_eq_true_eq] at h
  exact h
set_option maxRecDepth 10000 in
set_option maxHeartbeats 2000000 in
theorem bitself_out (w : World) (v : Value) (ts : List Rw) (at_ : Int) (h : RowsAt w v ts) (hs : smallR ts = false) :
    Calls Try.prog 4 #[v, .int .u8 at_] w fun e w' => e = .returned (.bool true) ∧ Below w.heap.size w w' := by
  have sm := fun (w' : World) (hb : Below w.heap.size w w') => smallr_any w' v ts (h.below hb)
  rw [hs] at sm
  have SM := Lib.hid sm
  have B0 := Lib.hid (Below.refl w.heap.size w)
  clear sm h hs
  go_enter Try.func4, Try.ntmps4
  go_wp2_with (first
    | (go_at_call 7; (with_reducible refine (awake4_yes _).mono ?_); rintro e w1 ⟨rfl, hb⟩; have B0 := Lib.hid (B0.out.trans (hb.mono B0.out.size)); clear hb)
    | (go_at_call 8; (with_reducible refine (SM.out _ B0.out).mono ?_); rintro e w2 ⟨rfl, hb⟩; have B0 := Lib.hid (B0.out.trans (hb.mono B0.out.size)); clear hb))
  go_ret
  exact ⟨rfl, B0.out⟩
set_option maxRecDepth 10000 in
set_option maxHeartbeats 2000000 in
theorem bitself_none (w : World) (v : Value) (at_ : Int) (h : RowsAt w v []) :
    Calls Try.prog 4 #[v, .int .u8 at_] w fun e w' => e = .returned (.bool true) ∧ Below w.heap.size w w' := by
  have sm := fun (w' : World) (hb : Below w.heap.size w w') => smallr_any w' v [] (h.below hb)
  rw [show smallR [] = true from rfl] at sm
  have SM := Lib.hid sm
  have B0 := Lib.hid (Below.refl w.heap.size w)
  obtain ⟨A, c, rs, e, _⟩ := h
  obtain rfl : v = .slice A 0 c := e
  clear sm
  go_enter Try.func4, Try.ntmps4
  go_wp2_with (first
    | (go_at_call 7; (with_reducible refine (awake4_yes _).mono ?_); rintro e w1 ⟨rfl, hb⟩; have B0 := Lib.hid (B0.out.trans (hb.mono B0.out.size)); clear hb)
    | (go_at_call 8; (with_reducible refine (SM.out _ B0.out).mono ?_); rintro e w2 ⟨rfl, hb⟩; have B0 := Lib.hid (B0.out.trans (hb.mono B0.out.size)); clear hb))
  go_ret
  exact ⟨rfl, B0.out⟩

set_option maxRecDepth 100000 in
set_option maxHeartbeats 8000000 in
theorem bitself_big (w : World) (v : Value) (ts : List Rw) (h : RowsAt w v ts) (hw : ∀ t ∈ ts, RWide t) (at_ : Int) (wa : (Lit.int .u8 at_).wf = true) (hs : smallR ts = true) (hne : 0 < ts.length) :
    Calls Try.prog 4 #[v, .int .u8 at_] w fun e w' => e = .returned (.bool true) ∧ Below w.heap.size w w' := by
  obtain ⟨ba1, ba2⟩ := u8i_bd wa
  obtain ⟨k, hk⟩ : ∃ k : Nat, (k : Int) = at_.tmod (ts.length : Int) := ⟨(at_.tmod (ts.length : Int)).toNat, by have := Int.tmod_nonneg (ts.length : Int) ba1; omega⟩
  have hkn : k < ts.length := by
    have := Int.tmod_lt_of_pos at_ (show (0 : Int) < (ts.length : Int) by omega)
    omega
  have sml : ts.length ≤ 8 := by
    unfold smallR at hs
    rw [Bool.and_eq_true] at hs
    exact of_decide_eq_true hs.2
  have sm := fun (w' : World) (hb : Below w.heap.size w w') => smallr_any w' v ts (h.below hb)
  rw [hs] at sm
  have B0 := Lib.hid (Below.refl w.heap.size w)
  have HA := Lib.hid h
  obtain ⟨A, c, rs, rfl, h2, h3, h4, h5, h6⟩ := h
  have hrn : rs.length = ts.length := by rw [← h4, List.length_map]
  obtain ⟨y, hy⟩ : ∃ y, rs[k]? = some y := ⟨_, List.getElem?_eq_getElem (by omega)⟩
  have hyt : ts[k]? = some y.2 := by rw [← h4, List.getElem?_map, hy]; rfl
  have hmem := List.mem_of_getElem? hyt
  have en := fun (w' : World) (hb : Below w.heap.size w w') => entails_any w' (.slice A ts.length c) y.1 ts y.2 (HA.out.below hb) hw (by omega) ((h6 y (List.mem_of_getElem? hy)).below hb) (hw y.2 hmem)
  have tr := itself_true hw hmem
  have rc := fun (w' : World) (hb : Below w.heap.size w w') => rows_cells h5 hb hy hne
  obtain ⟨n, hn⟩ : ∃ n, n = ts.length := ⟨_, rfl⟩
  obtain ⟨Ay, cy, ey⟩ := rats_shape (h6 y (List.mem_of_getElem? hy))
  obtain ⟨yv, xo, xl, x1, x2⟩ := y
  dsimp only at *
  subst ey
  generalize entB ts (xo, xl, x1, x2) = Z at *
  rw [← hn] at hkn sml hk hne sm en ⊢
  have SM := Lib.hid sm
  have ENC := Lib.hid en
  have RC := Lib.hid rc
  have TR := Lib.hid tr
  have j1 : ((n : Int) == 0) = false := by rw [beq_eq_false_iff_ne]; omega
  have j2 : ¬ (n : Int) = 0 := by omega
  have j3 : at_.tmod (n : Int) = (k : Int) := hk.symm
  have j4 : IntKind.i64.wrap at_ = at_ := IntWalk.i64_in _ (by omega)
  have j5 : (k : Int) < (n : Int) := by omega
  have j6 : (0 : Int) ≤ (k : Int) := by omega
  clear sm en rc tr hs h2 h3 h4 h5 h6 hn hk wa ba1 ba2 hw sml hy hyt hmem hrn HA hkn hne
  go_enter Try.func4, Try.ntmps4
  go_upto_region 3 with (first
    | (go_at_call 7; (with_reducible refine (awake4_yes _).mono ?_); rintro e w1 ⟨rfl, hb⟩; have B0 := Lib.hid (B0.out.trans (hb.mono B0.out.size)); clear hb)
    | (go_at_call 8; (with_reducible refine (SM.out _ B0.out).mono ?_); rintro e w2 ⟨rfl, hb⟩; have B0 := Lib.hid (B0.out.trans (hb.mono B0.out.size)); clear hb))
  obtain ⟨ad, rfl, d0, d1, d2, d3⟩ := RC.out _ B0.out
  have EN2 := Lib.hid (ENC.out _ B0.out)
  clear ENC RC SM
  go_wp2_with (go_at_call 11; (with_reducible refine EN2.out.mono ?_); rintro e7 w7 ⟨rfl, hb7⟩)
  go_ret
  exact ⟨by rw [← TR.out]; rfl, B0.out.trans (hb7.mono B0.out.size)⟩

theorem bitself_any (w : World) (v : Value) (ts : List Rw) (h : RowsAt w v ts) (hw : ∀ t ∈ ts, RWide t) (at_ : Int) (wa : (Lit.int .u8 at_).wf = true) :
    Calls Try.prog 4 #[v, .int .u8 at_] w fun e w' => e = .returned (.bool true) ∧ Below w.heap.size w w' := by
  cases hs : smallR ts
  · exact bitself_out w v ts at_ h hs
  · rcases Nat.eq_zero_or_pos ts.length with g | g
    · obtain rfl := List.eq_nil_of_length_eq_zero g
      exact bitself_none w v at_ h
    · exact bitself_big w v ts h hw at_ wa hs g
end Go.Proofs.Ytkinbbhbencipaa
