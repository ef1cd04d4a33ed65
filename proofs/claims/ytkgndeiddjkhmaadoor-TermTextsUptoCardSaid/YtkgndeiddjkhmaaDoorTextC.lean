/-
  The text of a term that isn't right; the reference's text of a right one. (Template: by-name.py fills it.)
-/
import Derived.Test.YtkgndeiddjkhmaaDoorTextB
namespace Go.Proofs.YtkgndeiddjkhmaaDoor
open Go.RowKit

set_option maxRecDepth 4000 in
set_option maxHeartbeats 2000000 in
theorem tshow_wrong (w : World) (v nv : Value) (l : List (Int × Int)) (kn kd : Int) (h : RatsAt w v l) (hw : Wide l) (h1 : -9223372036854775808 ≤ kn) (h2 : kn ≤ 9223372036854775807) (h3 : -9223372036854775808 ≤ kd) (h4 : kd ≤ 9223372036854775807) (hr : rightT l kn kd = false) :
    Calls Tryd.prog 24 #[.agg #[v, .int .i64 kn, .int .i64 kd], nv] w fun r w' => r = .returned (txt [63]) ∧ Below w.heap.size w w' := by
  have rt := fun (w' : World) (hb : Below w.heap.size w w') => tright_any w' v l kn kd (h.below hb) hw h1 h2 h3 h4
  rw [hr] at rt
  obtain ⟨A, c, rfl, _, _, _⟩ := id h
  generalize l.length = n at *
  have RT := Lib.hid rt
  clear h hw h1 h2 h3 h4 hr rt
  have F := FracBox.start w (.slice A n c) (.int .i64 kn) (.int .i64 kd) 26
  have hb0 := below_alloc1 w (.cells #[.slice A n c, .int .i64 kn, .int .i64 kd] 26)
  go_enter Tryd.func24, Tryd.ntmps24
  go_wp2_with (go_at_call 15; (with_reducible refine (RT.out _ hb0).mono ?_); rintro e w1 ⟨rfl, hb⟩)
  go_ret
  exact ⟨rfl, hb0.trans (hb.mono hb0.size)⟩

set_option maxRecDepth 4000 in
set_option maxHeartbeats 2000000 in
theorem rtshow_wrong (w : World) (v nv : Value) (l : List (Int × Int)) (kn kd : Int) (h : RatsAt w v l) (hw : Wide l) (h1 : -9223372036854775808 ≤ kn) (h2 : kn ≤ 9223372036854775807) (h3 : -9223372036854775808 ≤ kd) (h4 : kd ≤ 9223372036854775807) (hr : rightT l kn kd = false) :
    Calls Tryd.prog 25 #[.agg #[v, .int .i64 kn, .int .i64 kd], nv] w fun r w' => r = .returned (txt [63]) ∧ Below w.heap.size w w' := by
  have rt := fun (w' : World) (hb : Below w.heap.size w w') => r2right_any w' v l kn kd (h.below hb) hw h1 h2 h3 h4
  rw [hr] at rt
  obtain ⟨A, c, rfl, _, _, _⟩ := id h
  generalize l.length = n at *
  have RT := Lib.hid rt
  clear h hw h1 h2 h3 h4 hr rt
  have F := FracBox.start w (.slice A n c) (.int .i64 kn) (.int .i64 kd) 26
  have hb0 := below_alloc1 w (.cells #[.slice A n c, .int .i64 kn, .int .i64 kd] 26)
  go_enter Tryd.func25, Tryd.ntmps25
  go_wp2_with (go_at_call 16; (with_reducible refine (RT.out _ hb0).mono ?_); rintro e w1 ⟨rfl, hb⟩)
  go_ret
  exact ⟨rfl, hb0.trans (hb.mono hb0.size)⟩

theorem txt_eq {b : List UInt8} {s : ByteArray} (h : s.data.toList = b) : Value.string s = txt b := by
  have := ret_string h
  injection this

theorem NamesAt.cell {w wr : World} {A : Option Addr} {n k : Nat} {ns : List (List UInt8)} {s : List UInt8} (h4 : Reads w w.heap.size 1 A n (ns.map txt)) (hb : Below w.heap.size w wr) (hx : ns[k]? = some s) (hn : 0 < n) :
    ∃ ad, A = some ad ∧ wr.cell? (ad.add k) = some (txt s) := by
  obtain ⟨ad, e, hc⟩ := names_cell h4 hx hn
  obtain ⟨_, e', hbk, _⟩ := h4.2 hn
  rw [e] at e'
  injection e' with e'
  subst e'
  exact ⟨ad, e, (hb.cell (p := ad.add k) (by rw [block_of_add]; exact hbk)).trans hc⟩

set_option maxRecDepth 4000 in
set_option maxHeartbeats 8000000 in
theorem rtshow_right (w : World) (v nv : Value) (l : List (Int × Int)) (kn kd : Int) (ns : List (List UInt8)) (h : RatsAt w v l) (hw : Wide l) (h1 : -9223372036854775808 ≤ kn) (h2 : kn ≤ 9223372036854775807) (h3 : -9223372036854775808 ≤ kd) (h4 : kd ≤ 9223372036854775807) (hr : rightT l kn kd = true)
    (hN : NamesAt w nv ns) (hsz : ∀ k, (nameL ns k).length ≤ 1099511627776) :
    Calls Tryd.prog 25 #[.agg #[v, .int .i64 kn, .int .i64 kd], nv] w fun r w' => r = .returned (txt (Lib.join (allSums (nameL ns) l kn kd) [32, 43, 32])) ∧ Below w.heap.size w w' := by
  have rt := fun (w' : World) (hb : Below w.heap.size w w') => r2right_any w' v l kn kd (h.below hb) hw h1 h2 h3 h4
  rw [hr] at rt
  unfold rightT at hr
  simp only [Bool.and_eq_true, decide_eq_true_eq] at hr
  obtain ⟨⟨hl, hk⟩, hall⟩ := hr
  obtain ⟨kk, rfl, vk⟩ := valid_of hk h1 h2 h4
  obtain ⟨A, c, rfl, h5, h6, h7⟩ := id h
  obtain ⟨nA, nc, rfl, n5, n6, n7⟩ := id hN
  obtain ⟨n, hn⟩ : ∃ n, n = l.length := ⟨_, rfl⟩
  obtain ⟨q, hq⟩ : ∃ q, q = ns.length := ⟨_, rfl⟩
  rw [← hn] at h7 hl rt ⊢
  rw [← hq] at n7 ⊢
  have HN := Lib.hid (And.intro hn (And.intro hw (And.intro hl (And.intro hall (And.intro hsz vk)))))
  have H7 := Lib.hid h7
  have RT := Lib.hid rt
  have NM := Lib.hid (And.intro hq (And.intro n7 (show q ≤ 9223372036854775807 by unfold maxLen at n6; omega)))
  clear h hn hw h1 h2 h3 h4 h5 h6 h7 rt hk hall hl hsz vk hq n5 n6 n7 hN
  have F := FracBox.start w (.slice A n c) (.int .i64 kn) (.int .i64 kk) 26
  have hb0 := below_alloc1 w (.cells #[.slice A n c, .int .i64 kn, .int .i64 kk] 26)
  generalize hRES : txt (Lib.join (allSums (nameL ns) l kn kk) [32, 43, 32]) = RES at *
  have HRES := Lib.hid hRES
  clear hRES
  go_enter Tryd.func25, Tryd.ntmps25
  go_wp2_with (go_at_call 16; (with_reducible refine (RT.out _ hb0).mono ?_); rintro e w1 ⟨rfl, hb⟩; have F := F.keep hb; have hb0 := hb0.trans (hb.mono hb0.size); have k0 := F.k0; have k1 := F.k1; have k2 := F.k2)
  go_loopg [5, 6] n (fun g v5 v6 wr => ∃ (k : Nat) (ss : List (List UInt8)), v6 = .int .i64 k ∧ k ≤ n ∧ g = n - k ∧ ss = sums (nameL ns) 0 (l.take k) ∧ v5 = txt (Lib.join ss [32, 43, 32]) ∧ FracBox wr w.heap.size (.slice A n c) (.int .i64 kn) (.int .i64 kk) ∧ Below w.heap.size w wr)
  case atStart => exact ⟨0, [], rfl, Nat.zero_le _, rfl, rfl, rfl, F, hb0⟩
  case round =>
    clear F hb0 hb k0 k1 k2
    obtain ⟨k, ss, rfl, hk, hg, hss, rfl, F, hb⟩ := hrel
    have hfull : ∀ s ∈ ss, s ≠ [] := by rw [hss]; exact sums_full _ _ _
    have hbd : ∀ s ∈ ss, s.length ≤ 2199023255552 := by
      rw [hss]
      refine sums_bound HN.out.2.2.2.2.1 _ 0 (fun x hx => ?_)
      have hx := List.mem_of_mem_take hx
      obtain ⟨hx1, hx2⟩ := HN.out.2.1 x hx
      have ha := HN.out.2.2.2.1
      unfold allR at ha
      obtain ⟨xd, hxd, vx⟩ := valid_of (List.all_eq_true.1 ha x hx) hx1.1 hx1.2 hx2.2
      rw [hxd, Int.toNat_natCast]
      exact showL_len vx
    have hsl : ss.length ≤ k := by
      rw [hss]
      refine Nat.le_trans (sums_len _ _ _) ?_
      rw [List.length_take]
      exact Nat.min_le_left _ _
    have hjl : (Lib.join ss [32, 43, 32]).length ≤ 2199023255552 * 16 := by
      refine Nat.le_trans (join_len ss _ hbd) ?_
      have := HN.out.2.2.1
      have : ss.length ≤ 8 := by omega
      simp
      omega
    by_cases hkn : k = n
    · have hkl : l.take k = l := by rw [hkn, HN.out.1]; exact List.take_length
      rw [hkl] at hss
      have hres : RES = txt (Lib.join (ss ++ if kn = 0 ∧ ss.length ≠ 0 then [] else [showL kn kk]) [32, 43, 32]) := by
        rw [← HRES.out]
        unfold allSums
        rw [← hss, Int.toNat_natCast]
      have k0 := F.k0; have k1 := F.k1; have k2 := F.k2
      have HB := Lib.hid hb
      have HR := Lib.hid hres
      have SK := Lib.hid (fun w' => rshow_valid HN.out.2.2.2.2.2 w')
      have sl := showL_len HN.out.2.2.2.2.2
      have i1 : ¬ (k : Int) < (k : Int) := by omega
      subst hkn
      clear hk hg hss hb F hbd hkl hres
      by_cases hs : ss = []
      · subst hs
        have he : RES = txt (showL kn kk) := by
          rw [HR.out, if_neg (by simp), List.nil_append, Lib.join_one]
        have hj : (Lib.join [] [32, 43, 32]).isEmpty = true := rfl
        clear hfull hsl hjl
        go_wp2_with (go_at_call 46; (with_reducible refine (SK.out _).mono ?_); rintro e w3 ⟨rfl, hb3⟩)
        go_ret
        exact ⟨by rw [he]; rfl, HB.out.trans (hb3.mono HB.out.size)⟩
      · have hj : (Lib.join ss [32, 43, 32]).isEmpty = false := by
          have := mt (join_empty (sep := [32, 43, 32]) hfull).1 hs
          simpa using this
        have hsl0 : ss.length ≠ 0 := by simpa using hs
        have HZ := Lib.hid (fun hc : kn = 0 => show RES = txt (Lib.join ss [32, 43, 32]) by rw [HR.out, if_pos ⟨hc, hsl0⟩, List.append_nil])
        have HJ := Lib.hid (intercalate_snoc [32, 43, 32] (showL kn kk) ss hs)
        generalize Lib.join ss [32, 43, 32] = O at *
        clear hfull hsl hs hsl0
        by_cases hc : kn = 0
        · have he := HZ.out hc
          clear HZ
          subst hc
          clear sl hjl
          go_wp2_with fail
          go_ret
          exact ⟨by first | rfl | (rw [he]; rfl), HB.out⟩
        · have q1 : (kn != 0) = true := by simpa using hc
          have he : RES = txt (O ++ [32, 43, 32] ++ showL kn kk) := by
            rw [HR.out, if_neg (fun h => hc h.1), HJ.out]
          have l1 : ¬ 9223372036854775807 < O.length + 3 := by omega
          have l2 : ¬ 9223372036854775807 < O.length + 3 + (showL kn kk).length := by omega
          clear sl hjl hc
          go_wp2_with (go_at_call 46; (with_reducible refine (SK.out _).mono ?_); rintro e w3 ⟨rfl, hb3⟩)
          go_ret
          exact ⟨by rw [he]; exact ret_string (by simp), HB.out.trans (hb3.mono HB.out.size)⟩
    · have hlt : k < n := by omega
      obtain ⟨x, hx⟩ : ∃ x, l[k]? = some x := ⟨_, List.getElem?_eq_getElem (by have := HN.out.1; omega)⟩
      obtain ⟨ad, rfl, d1, d3⟩ := rats_cells H7.out hb hx (by omega)
      obtain ⟨hx1, hx2⟩ := HN.out.2.1 x (List.mem_of_getElem? hx)
      have hxr : rightB x.1 x.2 = true := by
        have := HN.out.2.2.2.1
        unfold allR at this
        exact List.all_eq_true.1 this x (List.mem_of_getElem? hx)
      obtain ⟨xd, hxd, vx⟩ := valid_of hxr hx1.1 hx1.2 hx2.2
      have XD0 : ∀ w' : World, Below wr.heap.size wr w' → w'.cell? (ad.add (k * 2)) = some (.int .i64 x.1) ∧ w'.cell? ⟨(ad.add (k * 2)).block, (ad.add (k * 2)).off + 1, none⟩ = some (.int .i64 x.2) := fun w' h' => by
        obtain ⟨ad', e, c⟩ := rats_cells H7.out (hb.trans (h'.mono hb.size)) hx (by omega)
        injection e with e
        subst e
        exact c
      rw [hxd] at XD0
      have nxt := sums_next (nm := nameL ns) hx
      rw [← hss, hxd, Int.toNat_natCast] at nxt
      rw [hxd] at d3
      have k0 := F.k0; have k1 := F.k1; have k2 := F.k2
      have i1 : (k : Int) < (n : Int) := by omega
      have i2 : (0 : Int) ≤ (k : Int) := by omega
      have wk : IntKind.i64.wrap ((k : Int) + 1) = (k : Int) + 1 := IntWalk.i64_in _ (by have := HN.out.2.2.1; omega)
      generalize x.1 = xn at *
      have HK := Lib.hid (And.intro hlt hg)
      have HB := Lib.hid (And.intro hb F)
      have NX := Lib.hid nxt
      have VX := Lib.hid vx
      have XD := Lib.hid XD0
      have JF := Lib.hid (And.intro hfull hjl)
      have NC0 : k < q → ∃ adn s, nA = some adn ∧ nameL ns k = s ∧ ∀ w' : World, Below wr.heap.size wr w' → w'.cell? (adn.add k) = some (txt s) := fun hkq => by
        obtain ⟨s, hs⟩ : ∃ s, ns[k]? = some s := ⟨_, List.getElem?_eq_getElem (by have := NM.out.1; omega)⟩
        obtain ⟨adn, e, _⟩ := names_cell NM.out.2.1 hs (by omega)
        refine ⟨adn, s, e, by unfold nameL; rw [hs]; rfl, fun w' h' => ?_⟩
        obtain ⟨adn', e', c⟩ := NamesAt.cell NM.out.2.1 (hb.trans (h'.mono hb.size)) hs (by omega)
        rw [e] at e'
        injection e' with e'
        subst e'
        exact c
      have ND0 : ¬ k < q → nameL ns k = [120, UInt8.ofNat (48 + k)] := fun hkq => by
        unfold nameL
        rw [List.getElem?_eq_none (by have := NM.out.1; omega)]
        rfl
      have k8 : k < 10 := by have := HN.out.2.2.1; omega
      clear hk hg hb hkn hlt hx1 hx2 hxr hss nxt vx F hbd hsl XD0 hx hxd hfull
      by_cases hz : xn = 0
      · subst hz
        clear NC0 ND0 hjl
        go_wp2_with fail
        go_roundg (n - (k + 1))
        case measure => have := HK.out; omega
        case rel =>
          exact ⟨k + 1, ss, by push_cast; rfl, by have := HK.out; omega, rfl, by rw [NX.out]; simp, rfl, HB.out.2, HB.out.1⟩
      · have hz' : (xn == 0) = false := by simpa using hz
        have SH := Lib.hid (fun (w' : World) => rshow_valid VX.out w')
        have sl := showL_len VX.out
        have nl := HN.out.2.2.2.2.1 k
        have HZ0 := Lib.hid hz
        have DG := Lib.hid (fun w' => digit_any k k8 w')
        have snoc := intercalate_snoc [32, 43, 32] (showL xn xd ++ 42 :: nameL ns k) ss
        have one := Lib.join_one (showL xn xd ++ 42 :: nameL ns k) [32, 43, 32]
        have fin : ∀ (wz : World), Below wr.heap.size wr wz → FracBox wz w.heap.size (.slice (some ad) n c) (.int .i64 kn) (.int .i64 kk) ∧ Below w.heap.size w wz := fun wz h => ⟨HB.out.2.keep h, HB.out.1.trans (h.mono HB.out.1.size)⟩
        have FIN := Lib.hid fin
        clear fin
        by_cases hs : ss = []
        · subst hs
          have e0 : (Lib.join [] [32, 43, 32]).isEmpty = true := rfl
          have JN := Lib.hid one
          have OE := Lib.hid (show Lib.join [] [32, 43, 32] = [] from rfl)
          clear one snoc
          by_cases hkq : k < q
          · obtain ⟨adn, s, rfl, es, nc0⟩ := NC0 hkq
            rw [es] at nl JN NX
            generalize Lib.join [] [32, 43, 32] = O at *
            have l2 : ¬ 9223372036854775807 < O.length + (showL xn xd).length := by omega
            have l3 : ¬ 9223372036854775807 < O.length + (showL xn xd).length + 1 := by omega
            have l4 : ¬ 9223372036854775807 < O.length + (showL xn xd).length + 1 + s.length := by omega
            have q1 : decide (k < q) = true := decide_eq_true hkq
            have q2 : (k : Int) < (q : Int) := by omega
            have NC := Lib.hid nc0
            clear nc0
            clear NC0 ND0 hkq es nl sl hz k8 hjl
            go_wp2_with (first
              | (go_at_call 45; (with_reducible refine (DG.out _).mono ?_); rintro e w2 ⟨rfl, hb2⟩; have F2 := HB.out.2.keep hb2; have k0 := F2.k0; have k1 := F2.k1; have k2 := F2.k2; have d1 := (XD.out _ hb2).1; have d3 := (XD.out _ hb2).2; have nd := NC.out _ hb2)
              | (go_at_call 46; (with_reducible refine (SH.out _).mono ?_); rintro e w3 ⟨rfl, hb3⟩; have b3 := hb2.trans (hb3.mono hb2.size)))
            go_roundg (n - (k + 1))
            case measure => have := HK.out; omega
            case rel => exact ⟨k + 1, _, by push_cast; rfl, by have := HK.out; omega, rfl, by rw [NX.out, if_neg HZ0.out], by rw [List.nil_append, JN.out]; exact txt_eq (by simp [OE.out]), (FIN.out _ b3).1, (FIN.out _ b3).2⟩
          · have es := ND0 hkq
            rw [es] at nl JN NX
            generalize Lib.join [] [32, 43, 32] = O at *
            have l2 : ¬ 9223372036854775807 < O.length + (showL xn xd).length := by omega
            have l3 : ¬ 9223372036854775807 < O.length + (showL xn xd).length + 1 := by omega
            have l4 : ¬ 9223372036854775807 < O.length + (showL xn xd).length + 1 + 2 := by omega
            have q1 : decide (k < q) = false := decide_eq_false hkq
            generalize UInt8.ofNat (48 + k) = bt at *
            clear NC0 ND0 hkq es nl sl hz k8 hjl
            go_wp2_with (first
              | (go_at_call 45; (with_reducible refine (DG.out _).mono ?_); rintro e w2 ⟨rfl, hb2⟩; have F2 := HB.out.2.keep hb2; have k0 := F2.k0; have k1 := F2.k1; have k2 := F2.k2; have d1 := (XD.out _ hb2).1; have d3 := (XD.out _ hb2).2)
              | (go_at_call 46; (with_reducible refine (SH.out _).mono ?_); rintro e w3 ⟨rfl, hb3⟩; have b3 := hb2.trans (hb3.mono hb2.size)))
            go_roundg (n - (k + 1))
            case measure => have := HK.out; omega
            case rel => exact ⟨k + 1, _, by push_cast; rfl, by have := HK.out; omega, rfl, by rw [NX.out, if_neg HZ0.out], by rw [List.nil_append, JN.out]; exact txt_eq (by simp [OE.out]), (FIN.out _ b3).1, (FIN.out _ b3).2⟩
        · have e0 : (Lib.join ss [32, 43, 32]).isEmpty = false := by
            have := mt (join_empty (sep := [32, 43, 32]) JF.out.1).1 hs
            simpa using this
          have JN := Lib.hid (snoc hs)
          clear one snoc hs
          by_cases hkq : k < q
          · obtain ⟨adn, s, rfl, es, nc0⟩ := NC0 hkq
            rw [es] at nl JN NX
            generalize Lib.join ss [32, 43, 32] = O at *
            have l1 : ¬ 9223372036854775807 < O.length + 3 := by omega
            have l2 : ¬ 9223372036854775807 < O.length + 3 + (showL xn xd).length := by omega
            have l3 : ¬ 9223372036854775807 < O.length + 3 + (showL xn xd).length + 1 := by omega
            have l4 : ¬ 9223372036854775807 < O.length + 3 + (showL xn xd).length + 1 + s.length := by omega
            have q1 : decide (k < q) = true := decide_eq_true hkq
            have q2 : (k : Int) < (q : Int) := by omega
            have NC := Lib.hid nc0
            clear nc0
            clear NC0 ND0 hkq es nl sl hz k8 hjl
            go_wp2_with (first
              | (go_at_call 45; (with_reducible refine (DG.out _).mono ?_); rintro e w2 ⟨rfl, hb2⟩; have F2 := HB.out.2.keep hb2; have k0 := F2.k0; have k1 := F2.k1; have k2 := F2.k2; have d1 := (XD.out _ hb2).1; have d3 := (XD.out _ hb2).2; have nd := NC.out _ hb2)
              | (go_at_call 46; (with_reducible refine (SH.out _).mono ?_); rintro e w3 ⟨rfl, hb3⟩; have b3 := hb2.trans (hb3.mono hb2.size)))
            go_roundg (n - (k + 1))
            case measure => have := HK.out; omega
            case rel => exact ⟨k + 1, _, by push_cast; rfl, by have := HK.out; omega, rfl, by rw [NX.out, if_neg HZ0.out], by rw [JN.out]; exact txt_eq (by simp), (FIN.out _ b3).1, (FIN.out _ b3).2⟩
          · have es := ND0 hkq
            rw [es] at nl JN NX
            generalize Lib.join ss [32, 43, 32] = O at *
            have l1 : ¬ 9223372036854775807 < O.length + 3 := by omega
            have l2 : ¬ 9223372036854775807 < O.length + 3 + (showL xn xd).length := by omega
            have l3 : ¬ 9223372036854775807 < O.length + 3 + (showL xn xd).length + 1 := by omega
            have l4 : ¬ 9223372036854775807 < O.length + 3 + (showL xn xd).length + 1 + 2 := by omega
            have q1 : decide (k < q) = false := decide_eq_false hkq
            generalize UInt8.ofNat (48 + k) = bt at *
            clear NC0 ND0 hkq es nl sl hz k8 hjl
            go_wp2_with (first
              | (go_at_call 45; (with_reducible refine (DG.out _).mono ?_); rintro e w2 ⟨rfl, hb2⟩; have F2 := HB.out.2.keep hb2; have k0 := F2.k0; have k1 := F2.k1; have k2 := F2.k2; have d1 := (XD.out _ hb2).1; have d3 := (XD.out _ hb2).2)
              | (go_at_call 46; (with_reducible refine (SH.out _).mono ?_); rintro e w3 ⟨rfl, hb3⟩; have b3 := hb2.trans (hb3.mono hb2.size)))
            go_roundg (n - (k + 1))
            case measure => have := HK.out; omega
            case rel => exact ⟨k + 1, _, by push_cast; rfl, by have := HK.out; omega, rfl, by rw [NX.out, if_neg HZ0.out], by rw [JN.out]; exact txt_eq (by simp), (FIN.out _ b3).1, (FIN.out _ b3).2⟩
end Go.Proofs.YtkgndeiddjkhmaaDoor
