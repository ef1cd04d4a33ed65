/-
  The walk of LexJoined. (Template: by-name.py fills it.)
-/
import Derived.Test.YtmmlmbfnabgobaaDoorLexN
import Derived.Test.YtmmlmbfnabgobaaDoorLexQ
namespace Go.Proofs.YtmmlmbfnabgobaaDoor
open Go.RowKit

theorem chain_bound {L : List UInt8} : ∀ (ts : List Tok) (e : Nat), TokChain L e ts → ∀ t ∈ ts, t.2.2 ≤ L.length
  | [], _, _, t, h => by cases h
  | [u], e, hc, t, h => by
    obtain rfl := List.mem_singleton.1 h
    rw [(hc.1 rfl).1]
    exact Nat.le_refl _
  | u :: v :: r, e, hc, t, h => by
    have h2 := hc.2 (by simp)
    rcases List.mem_cons.1 h with rfl | h
    · have := h2.1.2.1; omega
    · exact chain_bound (v :: r) _ h2.2 t h

theorem chain_length {L : List UInt8} : ∀ (ts : List Tok) (e : Nat), TokChain L e ts → ts.length + e ≤ L.length + 1
  | [], _, h => by cases h
  | [u], e, hc => by have := (hc.1 rfl).2; simp; omega
  | u :: v :: r, e, hc => by
    have h2 := hc.2 (by simp)
    have := chain_length (v :: r) _ h2.2
    have h3 : 0 < u.2.1.length := List.length_pos_iff.2 h2.1.2.2.2.2
    have := h2.1.1
    simp only [List.length_cons] at *
    omega
/-- How the three answers hang together. -/
def JoinRel (k : Nat) (r1 r2 r3 : List Tok × Int × Nat) : Prop :=
  (r1.2.1 = 10 ∧ r3.2.1 = 10 ∧ r3.2.2 = r1.2.2) ∨ (r1.2.1 = 0 ∧ r2.2.1 = 10 ∧ r3.2.1 = 10 ∧ r3.2.2 = r2.2.2 + k + 1 ∧ r2.2.2 ≤ 2000) ∨
  (r1.2.1 = 0 ∧ r2.2.1 = 0 ∧ r3.2.1 = 0 ∧ r3.2.2 = 0 ∧ r1.1 ≠ [] ∧ r2.1 ≠ [] ∧ r3.1 = r1.1.dropLast ++ r2.1.map (fun t => (t.1, t.2.1, t.2.2 + (k + 1))) ∧ (∀ t ∈ r2.1, t.2.2 ≤ 2000) ∧ r1.1.length ≤ 2001 ∧ r2.1.length ≤ 2001)
theorem join_rel (A B : List UInt8) (h : A.length + B.length ≤ 2000) : JoinRel A.length (resOf A) (resOf B) (resOf (A ++ 10 :: B)) := by
  have e := lexR_app B _ A 0 (Nat.le_refl _)
  rw [show 0 + A.length + 1 = 0 + (A.length + 1) by omega, lexR_shift _ _ B 0 (Nat.le_refl _)] at e
  have hl : (A ++ 10 :: B).length ≤ 6000 := by simp; omega
  cases qa : lexR A 0 with
  | bad p =>
    rw [qa] at e
    rw [res_of_bad (by omega) qa, res_of_bad hl e]
    exact .inl ⟨rfl, rfl, rfl⟩
  | ok x =>
    rw [qa] at e
    cases qb : lexR B 0 with
    | bad p =>
      rw [qb] at e
      have hp := lex_bad B _ 0 p (Nat.le_refl _) (Nat.zero_le _) qb
      rw [res_of_ok (by omega) qa, res_of_bad (by omega) qb, res_of_bad hl e]
      exact .inr (.inl ⟨rfl, rfl, rfl, by dsimp only; omega, by dsimp only; omega⟩)
    | ok y =>
      rw [qb] at e
      have hc := lex_chain B _ 0 y (Nat.le_refl _) (Nat.zero_le _) qb
      have hd := lex_chain A _ 0 x (Nat.le_refl _) (Nat.zero_le _) qa
      have kc := chain_length y 0 hc
      have kd := chain_length x 0 hd
      rw [res_of_ok (by omega) qa, res_of_ok (by omega) qb, res_of_ok hl e]
      exact .inr (.inr ⟨rfl, rfl, rfl, rfl, lexR_some _ _ _ _ (Nat.le_refl _) qa, lexR_some _ _ _ _ (Nat.le_refl _) qb, rfl, fun t ht => by have := chain_bound y 0 hc t ht; omega, by dsimp only; omega, by dsimp only; omega⟩)

set_option maxRecDepth 10000 in
set_option maxHeartbeats 16000000 in
theorem lexjoined_any (w : World) (ht : Tabs w) (a : ByteArray) (_ : a.size ≤ maxLen) (za : a.size ≤ 140737488351232) (b : ByteArray) (_ : b.size ≤ maxLen) (zb : b.size ≤ 140737488351232) : Calls Tryd.prog 8 #[.string a, .string b] w fun e w' => e = .returned (.bool true) ∧ Below w.heap.size w w' := by
  have aw := fun w' (h : Below w.heap.size w w') => awake_yes w' (ht.below h)
  have AW := Lib.hid aw
  clear aw
  have wab : IntKind.i64.wrap ((a.size : Int) + (b.size : Int)) = (a.size : Int) + (b.size : Int) := IntWalk.i64_in _ (by omega)
  by_cases h2 : (2000 : Int) < (a.size : Int) + (b.size : Int)
  · go_enter Tryd.func8, Tryd.ntmps8
    go_upto_region 2 with (go_at_call 10; (with_reducible refine (AW.out _ (Below.refl _ _)).mono ?_); rintro e w1 ⟨rfl, bb⟩)
    go_wp2_with (go_at_call 10; (with_reducible refine (AW.out _ bb).mono ?_); rintro e w2 ⟨rfl, b2⟩)
    go_ret
    exact ⟨rfl, bb.trans (b2.mono bb.size)⟩
  · have rel := join_rel a.data.toList b.data.toList (by rw [len_of, len_of]; omega)
    have ra := fun w' => rtokens_res a w'
    have rb := fun w' => rtokens_res b w'
    have rl := fun w' (h : Below w.heap.size w w') => tokens_res (a ++ ⟨#[10]⟩ ++ b) w' (ht.below h).1
    rw [show (a ++ ⟨#[10]⟩ ++ b).data.toList = a.data.toList ++ 10 :: b.data.toList by simp] at rl
    rw [len_of] at rel
    generalize resOf a.data.toList = r1 at *
    generalize resOf b.data.toList = r2 at *
    generalize resOf (a.data.toList ++ 10 :: b.data.toList) = r3 at *
    obtain ⟨X, e1, p1⟩ := r1
    obtain ⟨Y, e2, p2⟩ := r2
    obtain ⟨L, e3, p3⟩ := r3
    have RA := Lib.hid ra; have RB := Lib.hid rb; have RL := Lib.hid rl; have REL := Lib.hid rel
    have l1 : ¬ 9223372036854775807 < a.size + 1 := by omega
    have l2 : ¬ 9223372036854775807 < a.size + 1 + b.size := by omega
    have HSZ := Lib.hid (show a.size + b.size ≤ 2000 by omega)
    clear ra rb rl rel ht za zb
    go_enter Tryd.func8, Tryd.ntmps8
    go_upto_region 3 with (go_at_call 10; (with_reducible refine (AW.out _ (Below.refl _ _)).mono ?_); rintro e w1 ⟨rfl, bb⟩)
    go_upto_region 4 with (go_at_call 12; (with_reducible refine (RA.out _).mono ?_); rintro e w2 ⟨A1, c1, rfl, hT, hb⟩)
    (try dsimp only at hT hb)
    have F1 := Blk.start w2 #[.int .i64 e1, .int .i64 p1] 26
    have a1 := below_alloc1 w2 (.cells #[.int .i64 e1, .int .i64 p1] 26)
    have b1 := hb.trans (a1.mono hb.size)
    have H1 := Lib.hid (And.intro (bb.trans (b1.mono bb.size)) (And.intro F1 (hT.below a1)))
    clear hT hb F1 a1 b1 bb
    generalize w2.heap.size = g1 at *
    generalize w2.alloc (.cells #[.int .i64 e1, .int .i64 p1] 26) = w3 at *
    go_upto_region 5 with (go_at_call 12; (with_reducible refine (RB.out _).mono ?_); rintro e w4 ⟨A2, c2, rfl, hT, hb⟩)
    (try dsimp only at hT hb)
    have F1 := Blk.start w4 #[.int .i64 e2, .int .i64 p2] 26
    have a1 := below_alloc1 w4 (.cells #[.int .i64 e2, .int .i64 p2] 26)
    have b1 := hb.trans (a1.mono hb.size)
    have H2 := Lib.hid (And.intro (H1.out.1.trans (b1.mono H1.out.1.size)) (And.intro (H1.out.2.1.keep b1) (And.intro (H1.out.2.2.below b1) (And.intro F1 (hT.below a1)))))
    clear hT hb F1 a1 b1 H1
    generalize w4.heap.size = g2 at *
    generalize w4.alloc (.cells #[.int .i64 e2, .int .i64 p2] 26) = w5 at *
    go_upto_region 6 with (go_at_call 11; (with_reducible refine (RL.out _ H2.out.1).mono ?_); rintro e w6 ⟨A3, c3, rfl, hT, hb⟩)
    (try dsimp only at hT hb)
    have F1 := Blk.start w6 #[.int .i64 e3, .int .i64 p3] 26
    have a1 := below_alloc1 w6 (.cells #[.int .i64 e3, .int .i64 p3] 26)
    have b1 := hb.trans (a1.mono hb.size)
    have H3 := Lib.hid (And.intro (H2.out.1.trans (b1.mono H2.out.1.size)) (And.intro (H2.out.2.1.keep b1) (And.intro (H2.out.2.2.1.below b1) (And.intro (H2.out.2.2.2.1.keep b1) (And.intro (H2.out.2.2.2.2.below b1) (And.intro F1 (hT.below a1)))))))
    clear hT hb F1 a1 b1 H2
    generalize w6.heap.size = g3 at *
    generalize w6.alloc (.cells #[.int .i64 e3, .int .i64 p3] 26) = w7 at *
    have f10 := H3.out.2.1.cell 0
    have f11 := H3.out.2.1.cell 1
    have f20 := H3.out.2.2.2.1.cell 0
    have f21 := H3.out.2.2.2.1.cell 1
    have f30 := H3.out.2.2.2.2.2.1.cell 0
    have f31 := H3.out.2.2.2.2.2.1.cell 1
    rcases REL.out with ⟨q1, q3, qp⟩ | ⟨q1, q2, q3, qp, q4⟩ | ⟨q1, q2, q3, qp, nx, ny, q4, q5, b1, b2⟩
    · dsimp only at q1 q3 qp
      subst q1 q3 qp
      clear f20 f21 REL
      go_wp2_with fail
      go_ret
      exact ⟨rfl, H3.out.1⟩
    · dsimp only at q1 q2 q3 qp q4
      subst q1 q2 q3 qp
      have wp1 : IntKind.i64.wrap ((p2 : Int) + (a.size : Int)) = (p2 : Int) + (a.size : Int) := IntWalk.i64_in _ (by omega)
      have wp2 : IntKind.i64.wrap ((p2 : Int) + (a.size : Int) + 1) = (p2 : Int) + (a.size : Int) + 1 := IntWalk.i64_in _ (by omega)
      clear f11 REL q4
      go_wp2_with fail
      go_ret
      exact ⟨rfl, H3.out.1⟩
    · dsimp only at q1 q2 q3 qp nx ny q4 q5 b1 b2
      subst q1 q2 q3 qp
      obtain ⟨X1, d1, eX, _, hX, rX⟩ := H3.out.2.2.1
      obtain ⟨rfl, rfl⟩ : A1 = X1 ∧ c1 = d1 := by injection eX with a b c; exact ⟨a, c⟩
      obtain ⟨Y1, d2, eY, _, hY, rY⟩ := H3.out.2.2.2.2.1
      obtain ⟨rfl, rfl⟩ : A2 = Y1 ∧ c2 = d2 := by injection eY with a b c; exact ⟨a, c⟩
      obtain ⟨L1, d3, eL, _, hL, rL⟩ := H3.out.2.2.2.2.2.2
      obtain ⟨rfl, rfl⟩ : A3 = L1 ∧ c3 = d3 := by injection eL with a b c; exact ⟨a, c⟩
      have x0 : 0 < X.length := List.length_pos_iff.2 nx
      have y0 : 0 < Y.length := List.length_pos_iff.2 ny
      have ln : L.length = X.length - 1 + Y.length := by rw [q4]; simp
      have mx : X.length ≤ 9223372036854775807 ∧ Y.length ≤ 9223372036854775807 ∧ L.length ≤ 9223372036854775807 := by unfold maxLen at hX hY hL; omega
      have lat : ∀ (i : Nat) (t : Tok), i < X.length - 1 → X[i]? = some t → L[i]? = some t := fun i t hi hx => by
        rw [q4, List.getElem?_append_left (by simp; omega), List.getElem?_dropLast, if_pos (by omega), hx]
      have rat : ∀ (i : Nat) (t : Tok), X.length - 1 ≤ i → Y[i - (X.length - 1)]? = some t → L[i]? = some (t.1, t.2.1, t.2.2 + (a.size + 1)) := fun i t hi hy => by
        rw [q4, List.getElem?_append_right (by simp; omega)]
        simp [hy]
      have big : X.length ≤ 1000000 ∧ Y.length ≤ 1000000 := ⟨by omega, by omega⟩
      obtain ⟨n1, h1⟩ : ∃ n, n = X.length := ⟨_, rfl⟩
      obtain ⟨n2, h2⟩ : ∃ n, n = Y.length := ⟨_, rfl⟩
      obtain ⟨n3, h3⟩ : ∃ n, n = L.length := ⟨_, rfl⟩
      rw [← h1] at rX x0 ln mx lat rat big ⊢
      rw [← h2] at rY y0 ln mx big ⊢
      rw [← h3] at rL ln mx ⊢
      have HR := Lib.hid (And.intro rX (And.intro rY (And.intro rL (And.intro mx (And.intro lat (And.intro rat (And.intro q5 big)))))))
      have HN := Lib.hid (And.intro x0 (And.intro y0 (And.intro ln (And.intro h1 (And.intro h2 h3)))))
      have s1 : IntKind.i64.wrap ((n1 : Int) + (n2 : Int)) = (n1 : Int) + (n2 : Int) := IntWalk.i64_in _ (by omega)
      have s2 : IntKind.i64.wrap ((n1 : Int) + (n2 : Int) - 1) = (n1 : Int) + (n2 : Int) - 1 := IntWalk.i64_in _ (by omega)
      have s3 : ((n3 : Int) != (n1 : Int) + (n2 : Int) - 1) = false := by rw [bne_eq_false_iff_eq]; omega
      have s4 : IntKind.i64.wrap ((n1 : Int) - 1) = (n1 : Int) - 1 := IntWalk.i64_in _ (by omega)
      clear eX eY eL hX hY hL rX rY rL mx lat rat q5 nx ny q4 b1 b2 x0 y0 ln h1 h2 h3 REL f11 f21 big
      go_upto_region 12 with fail
      clear s1 s2 s3 f10 f20 f30 f31
      go_wp2_with fail
      go_loopg [11] n3 (fun g v11 wr => ∃ i : Nat, v11 = .int .i64 i ∧ i ≤ n3 ∧ g = n3 - i ∧ Below w7.heap.size w7 wr)
      case atStart => exact ⟨0, rfl, Nat.zero_le _, rfl, Below.refl _ _⟩
      case round =>
        obtain ⟨i, rfl, hi, hg, hb⟩ := hrel
        by_cases hlt : i < n3
        · have i1 : (i : Int) < (n3 : Int) := by omega
          have i2 : (0 : Int) ≤ (i : Int) := by omega
          have wi : IntKind.i64.wrap ((i : Int) + 1) = (i : Int) + 1 := IntWalk.i64_in _ (by have := HR.out.2.2.2.1; omega)
          have BW := Blk.start wr #[.int .i64 0, .string ⟨#[]⟩, .int .i64 0] 32
          have b5 := hb.trans ((below_alloc1 wr (.cells #[.int .i64 0, .string ⟨#[]⟩, .int .i64 0] 32)).mono hb.size)
          have zb := hb.size
          by_cases hx : i < n1 - 1
          · obtain ⟨t, htx⟩ : ∃ t, X[i]? = some t := ⟨_, List.getElem?_eq_getElem (by have := HN.out; omega)⟩
            have htl := HR.out.2.2.2.2.1 i t hx htx
            have HX := Lib.hid (fun (wz : World) (h : Below w7.heap.size w7 wz) => tok_cells' HR.out.1 h htx (by omega))
            have HL := Lib.hid (fun (wz : World) (h : Below w7.heap.size w7 wz) => tok_cells' HR.out.2.2.1 h htl (by omega))
            have HH := Lib.hid (And.intro hlt (And.intro hg (And.intro hb (And.intro b5 (And.intro BW zb)))))
            have j1 : (i : Int) < (n1 : Int) - 1 := by omega
            have j2 : (i : Int) < (n1 : Int) := by omega
            obtain ⟨t0, t1, t2⟩ := t
            clear htx htl hg hb b5 BW zb hlt hi hx
            go_upto_region 16 with fail
            generalize wr.heap.size = bt at *
            generalize wr.alloc (.cells #[.int .i64 0, .string ⟨#[]⟩, .int .i64 0] 32) = w8 at *
            obtain ⟨ad, rfl, c0, c1, c2⟩ := HX.out _ HH.out.2.2.2.1
            (try dsimp only at c0 c1 c2)
            have k0 := HH.out.2.2.2.2.1.cell 0
            have k1 := HH.out.2.2.2.2.1.cell 1
            have k2 := HH.out.2.2.2.2.1.cell 2
            have m0 := HH.out.2.2.2.2.1.free 0
            have m1 := HH.out.2.2.2.2.1.free 1
            have m2 := HH.out.2.2.2.2.1.free 2
            go_upto_region 20 with fail
            have B9 := ((HH.out.2.2.2.2.1.set 0 (.int .i64 t0)).set 1 (txt t1)).set 2 (.int .i64 t2)
            have z9 := ((HH.out.2.2.2.1.setCell (p := ⟨bt, 0, none⟩) HH.out.2.2.2.2.2 (.int .i64 t0)).setCell (p := ⟨bt, 1, none⟩) HH.out.2.2.2.2.2 (txt t1)).setCell (p := ⟨bt, 2, none⟩) HH.out.2.2.2.2.2 (.int .i64 t2)
            have H9 := Lib.hid (And.intro z9 B9)
            clear B9 z9 k0 k1 k2 m0 m1 m2 c0 c1 c2
            generalize ((w8.setCell ⟨bt, 0, none⟩ (.int .i64 t0)).setCell ⟨bt, 1, none⟩ (txt t1)).setCell ⟨bt, 2, none⟩ (.int .i64 t2) = w9 at *
            obtain ⟨ld, rfl, l0, l1, l2⟩ := HL.out _ H9.out.1
            (try dsimp only at l0 l1 l2)
            (try push_cast at l2)
            have n0 := H9.out.2.cell 0
            have n1' := H9.out.2.cell 1
            have n2' := H9.out.2.cell 2
            go_wp2_with fail
            go_quiet (fail)
            go_wp2_with fail
            go_roundg (n3 - (i + 1))
            case measure => have := HH.out; omega
            case rel => exact ⟨i + 1, by push_cast; rfl, by have := HH.out; omega, rfl, below_drewN H9.out.1 _⟩
          · obtain ⟨j, hj⟩ : ∃ j, j = i - (n1 - 1) := ⟨_, rfl⟩
            have jl : j < n2 := by have := HN.out; omega
            obtain ⟨t, htx⟩ : ∃ t, Y[j]? = some t := ⟨_, List.getElem?_eq_getElem (by have := HN.out; omega)⟩
            have htl := HR.out.2.2.2.2.2.1 i t (by omega) (by rw [← hj]; exact htx)
            have htb := HR.out.2.2.2.2.2.2.1 t (List.mem_of_getElem? htx)
            have HX := Lib.hid (fun (wz : World) (h : Below w7.heap.size w7 wz) => tok_cells' HR.out.2.1 h htx (by omega))
            have HL := Lib.hid (fun (wz : World) (h : Below w7.heap.size w7 wz) => tok_cells' HR.out.2.2.1 h htl (by omega))
            have HH := Lib.hid (And.intro hlt (And.intro hg (And.intro hb (And.intro b5 (And.intro BW zb)))))
            have j1 : ¬ (i : Int) < (n1 : Int) - 1 := by have := HN.out; omega
            have j2 : (j : Int) < (n2 : Int) := by omega
            have j3 : (0 : Int) ≤ (j : Int) := by omega
            have wj1 : IntKind.i64.wrap ((i : Int) - (n1 : Int)) = (i : Int) - (n1 : Int) := IntWalk.i64_in _ (by have := HR.out.2.2.2.2.2.2.2; have := HR.out.2.2.2.1; omega)
            have wj2 : IntKind.i64.wrap (j : Int) = (j : Int) := IntWalk.i64_in _ (by have := HR.out.2.2.2.1; omega)
            have hji : (i : Int) - (n1 : Int) + 1 = (j : Int) := by have := HN.out; omega
            have wa1 : IntKind.i64.wrap ((a.size : Int) + 1) = (a.size : Int) + 1 := IntWalk.i64_in _ (by have := HSZ.out; omega)
            obtain ⟨t0, t1, t2⟩ := t
            (try dsimp only at htb)
            have wa2 : IntKind.i64.wrap ((t2 : Int) + ((a.size : Int) + 1)) = (t2 : Int) + ((a.size : Int) + 1) := IntWalk.i64_in _ (by have := HSZ.out; omega)
            clear htx htl hg hb b5 BW zb hlt hi hx hj jl htb
            go_upto_region 16 with fail
            generalize wr.heap.size = bt at *
            generalize wr.alloc (.cells #[.int .i64 0, .string ⟨#[]⟩, .int .i64 0] 32) = w8 at *
            obtain ⟨ad, rfl, c0, c1, c2⟩ := HX.out _ HH.out.2.2.2.1
            (try dsimp only at c0 c1 c2)
            have k0 := HH.out.2.2.2.2.1.cell 0
            have k1 := HH.out.2.2.2.2.1.cell 1
            have k2 := HH.out.2.2.2.2.1.cell 2
            have m0 := HH.out.2.2.2.2.1.free 0
            have m1 := HH.out.2.2.2.2.1.free 1
            have m2 := HH.out.2.2.2.2.1.free 2
            go_upto_region 19 with fail
            have B9 := ((HH.out.2.2.2.2.1.set 0 (.int .i64 t0)).set 1 (txt t1)).set 2 (.int .i64 t2)
            have z9 := ((HH.out.2.2.2.1.setCell (p := ⟨bt, 0, none⟩) HH.out.2.2.2.2.2 (.int .i64 t0)).setCell (p := ⟨bt, 1, none⟩) HH.out.2.2.2.2.2 (txt t1)).setCell (p := ⟨bt, 2, none⟩) HH.out.2.2.2.2.2 (.int .i64 t2)
            have H8 := Lib.hid (And.intro z9 B9)
            clear B9 z9 k0 k1 k2 m0 m1 m2 c0 c1 c2 wj1 wj2 hji
            generalize ((w8.setCell ⟨bt, 0, none⟩ (.int .i64 t0)).setCell ⟨bt, 1, none⟩ (txt t1)).setCell ⟨bt, 2, none⟩ (.int .i64 t2) = w9 at *
            have q0 := H8.out.2.cell 2
            have q1 := H8.out.2.free 2
            go_upto_region 20 with fail
            have B9 := H8.out.2.set 2 (.int .i64 ((t2 : Int) + ((a.size : Int) + 1)))
            have z9 := H8.out.1.setCell (p := ⟨bt, 2, none⟩) HH.out.2.2.2.2.2 (.int .i64 ((t2 : Int) + ((a.size : Int) + 1)))
            have H9 := Lib.hid (And.intro z9 B9)
            clear B9 z9 q0 q1 wa1 wa2
            generalize w9.setCell ⟨bt, 2, none⟩ (.int .i64 ((t2 : Int) + ((a.size : Int) + 1))) = w10 at *
            obtain ⟨ld, rfl, l0, l1, l2⟩ := HL.out _ H9.out.1
            (try dsimp only at l0 l1 l2)
            (try push_cast at l2)
            have n0 := H9.out.2.cell 0
            have n1' := H9.out.2.cell 1
            have n2' := H9.out.2.cell 2
            go_wp2_with fail
            go_quiet (fail)
            go_wp2_with fail
            go_roundg (n3 - (i + 1))
            case measure => have := HH.out; omega
            case rel => exact ⟨i + 1, by push_cast; rfl, by have := HH.out; omega, rfl, below_drewN H9.out.1 _⟩
        · obtain rfl : i = n3 := by omega
          have HE := Lib.hid (H3.out.1.trans (hb.mono H3.out.1.size))
          clear hg hb hlt hi
          go_wp2_with fail
          go_ret
          exact ⟨rfl, HE.out⟩
end Go.Proofs.YtmmlmbfnabgobaaDoor
