/-
  The walk of package term's Show. (Template: by-name.py fills it.)
-/
import Derived.Test.YtkgndeiddjkhmaaDoorTermF
import Derived.Test.YtkgndeiddjkhmaaDoorRatShow
namespace Go.Proofs.YtkgndeiddjkhmaaDoor
open Go.RowKit

theorem infoS : (Tryd.prog.info? 9).map (fun i => (i.zero, i.size, i.bytes)) = some (some (.string ⟨#[]⟩), 1, 16) := by kernel_rfl

/-- The summands' texts. -/
def sums (nm : Nat → List UInt8) : Nat → List (Int × Int) → List (List UInt8)
  | _, [] => []
  | k, x :: r => (if x.1 = 0 then [] else [showL x.1 x.2.toNat ++ 42 :: nm k]) ++ sums nm (k + 1) r

theorem sums_append (nm : Nat → List UInt8) : ∀ (a b : List (Int × Int)) (k : Nat), sums nm k (a ++ b) = sums nm k a ++ sums nm (k + a.length) b
  | [], b, k => by simp [sums]
  | x :: r, b, k => by
    rw [List.cons_append, sums, sums, sums_append nm r b (k + 1), List.length_cons, List.append_assoc]
    congr 3
    omega

theorem sums_next {nm : Nat → List UInt8} {l : List (Int × Int)} {k : Nat} {x : Int × Int} (hx : l[k]? = some x) :
    sums nm 0 (l.take (k + 1)) = sums nm 0 (l.take k) ++ (if x.1 = 0 then [] else [showL x.1 x.2.toNat ++ 42 :: nm k]) := by
  have hl : k < l.length := by
    rcases Nat.lt_or_ge k l.length with g | g
    · exact g
    · rw [List.getElem?_eq_none g] at hx; cases hx
  have e : l[k] = x := by rw [List.getElem?_eq_getElem hl] at hx; exact Option.some.inj hx
  rw [List.take_succ_eq_append_getElem hl, sums_append, e, List.length_take, Nat.min_eq_left (Nat.le_of_lt hl), Nat.zero_add]
  simp [sums]

/-- A text as a value. -/
abbrev txt (s : List UInt8) : Value := .string ⟨s.toArray⟩

theorem one_txt {w : World} {s : Value} : ∀ (j : Nat) (u : Value), [s][j]? = some u → (w.alloc (.cells #[s] 9)).cell? ((⟨w.heap.size, 0, none⟩ : Addr).add j) = some u := by
  intro j u h
  rcases j with _ | j
  · have : s = u := by simpa using h
    subst this
    show (w.alloc (.cells #[s] 9)).cell? ⟨w.heap.size, 0, none⟩ = _
    go_simp
  · simp at h

theorem own_ge' {w : World} {base k n : Nat} {v : Value} {xs : List Value} (h : w.ownsRow base 9 1 v n xs) (hk : v.ownBlock = some k) : base ≤ k := by
  rcases h.2 with ⟨rfl, _⟩ | ⟨g, cap, cur, rfl, hg, _⟩
  · cases hk
  · have : g = k := by simpa [Value.ownBlock] using hk
    omega

theorem below_push' {w0 w w1 : World} {n : Nat} {v : Value} {xs : List Value} {o : Obj} (hb : Below w0.heap.size w0 w) (hown : w.ownsRow w0.heap.size 9 1 v n xs) (hg : (w.alloc o).grownBy w1 v.ownBlock) : Below w0.heap.size w0 w1 :=
  (hb.alloc hb.size o).grown hg (by have := hb.size; simp; omega) (fun _ hk => own_ge' hown hk)

theorem own_below {w w1 : World} {base n : Nat} {v : Value} {xs : List Value} (h : w.ownsRow base 9 1 v n xs) (hb : Below w.heap.size w w1) : w1.ownsRow base 9 1 v n xs := by
  refine ⟨h.1, ?_⟩
  rcases h.2 with h0 | ⟨g, cap, cur, a, b, c, d⟩
  · exact .inl h0
  · refine .inr ⟨g, cap, cur, a, b, ?_, d⟩
    have hg : g < w.heap.size := by
      rcases Nat.lt_or_ge g w.heap.size with q | q
      · exact q
      · rw [Array.getElem?_eq_none q] at c; cases c
    rw [hb.block g hg]
    exact c

theorem grown_below {w4 w5 : World} {B n : Nat} {v : Value} {xs : List Value} {o : Obj} (hB : B ≤ w4.heap.size) (hown : w4.ownsRow B 9 1 v n xs) (hg : (w4.alloc o).grownBy w5 v.ownBlock) : Below B w4 w5 :=
  ((Below.refl B w4).alloc hB o).grown hg (by simp; omega) (fun _ hk => own_ge' hown hk)

theorem FracBox.keep_ {w1 w2 : World} {b B : Nat} {x y z : Value} (h : FracBox w1 b x y z) (hb : Below B w1 w2) (hlt : b < B) : FracBox w2 b x y z :=
  have t := hb.size
  have l := h.lt
  { k0 := (hb.cell (p := ⟨b, 0, none⟩) hlt).trans h.k0, k1 := (hb.cell (p := ⟨b, 1, none⟩) hlt).trans h.k1, k2 := (hb.cell (p := ⟨b, 2, none⟩) hlt).trans h.k2
    l0 := (hb.frozen (p := ⟨b, 0, none⟩) hlt).trans h.l0, l1 := (hb.frozen (p := ⟨b, 1, none⟩) hlt).trans h.l1, l2 := (hb.frozen (p := ⟨b, 2, none⟩) hlt).trans h.l2, lt := by omega }

theorem bytes_one (a c : List UInt8) : (⟨a.toArray⟩ ++ ⟨#[42]⟩ ++ ⟨c.toArray⟩ : ByteArray) = ⟨(a ++ 42 :: c).toArray⟩ := by
  apply ByteArray.ext
  simp

theorem sums_len (nm : Nat → List UInt8) : ∀ (l : List (Int × Int)) (k : Nat), (sums nm k l).length ≤ l.length
  | [], k => by simp [sums]
  | x :: r, k => by
    have := sums_len nm r (k + 1)
    rw [sums, List.length_append, List.length_cons]
    split <;> simp <;> omega

theorem showL_len {n : Int} {d : Nat} (v : Valid n d) : (showL n d).length ≤ 41 := by
  have vn := v.n_le; have vd := v.d_le
  have a := itoa_len (n := n) (by omega) (by omega)
  have b := itoa_len (n := (d : Int)) (by omega) (by omega)
  unfold showL
  rw [List.length_append]
  split
  · simp; omega
  · simp; omega

theorem lens_le {B : Nat} : ∀ (ss : List (List UInt8)), (∀ s ∈ ss, s.length ≤ B) → Lib.lens ss ≤ ss.length * B
  | [], _ => by simp [Lib.lens]
  | x :: r, h => by
    have a := lens_le r (fun s hs => h s (List.mem_cons_of_mem _ hs))
    have b := h x (List.mem_cons_self ..)
    rw [List.length_cons, Nat.succ_mul]
    simp only [Lib.lens, List.map_cons, List.sum_cons] at a ⊢
    omega

theorem join_len {B : Nat} (ss : List (List UInt8)) (sep : List UInt8) (h : ∀ s ∈ ss, s.length ≤ B) : (Lib.join ss sep).length ≤ ss.length * (B + sep.length) := by
  cases ss with
  | nil => simp [Lib.join_nil]
  | cons x r =>
    have a := lens_le r (fun s hs => h s (List.mem_cons_of_mem _ hs))
    have b := h x (List.mem_cons_self ..)
    rw [Lib.join_cons, List.length_append, Lib.joinTail_length, List.length_cons, Nat.succ_mul, Nat.mul_add, Nat.mul_comm sep.length]
    omega

theorem sums_bound {nm : Nat → List UInt8} (hsz : ∀ k, (nm k).length ≤ 1099511627776) : ∀ (l : List (Int × Int)) (k : Nat), (∀ x ∈ l, (showL x.1 x.2.toNat).length ≤ 41) → ∀ s ∈ sums nm k l, s.length ≤ 2199023255552
  | [], k, _, s, hs => by simp [sums] at hs
  | x :: r, k, h, s, hs => by
    rw [sums, List.mem_append] at hs
    rcases hs with hs | hs
    · split at hs
      · cases hs
      · have e : s = showL x.1 x.2.toNat ++ 42 :: nm k := by simpa using hs
        have a := h x (List.mem_cons_self ..)
        have b := hsz k
        rw [e, List.length_append, List.length_cons]
        omega
    · exact sums_bound hsz r (k + 1) (fun y hy => h y (List.mem_cons_of_mem _ hy)) s hs

theorem join_any (w : World) (v : Value) (base : Nat) (ss : List (List UInt8)) (hown : w.ownsRow base 9 1 v ss.length (ss.map txt)) (hn : ss.length ≤ 16) (hB : ∀ s ∈ ss, s.length ≤ 2199023255552) :
    Calls Tryd.prog 44 #[v, .string ⟨#[32, 43, 32]⟩] w fun e w' => e = .returned (txt (Lib.join ss [32, 43, 32])) ∧ Below w.heap.size w w' := by
  rcases hown.2 with ⟨rfl, h0⟩ | ⟨g, cap, cur, rfl, hg, hh, hc, _⟩
  · obtain rfl : ss = [] := List.eq_nil_of_length_eq_zero h0
    exact (Tryd.strings_Join_none none 0 ⟨#[32, 43, 32]⟩ w).mono fun e w' ⟨a, b⟩ => ⟨a, by rw [b]; exact Below.refl _ _⟩
  · have hl := join_len ss [32, 43, 32] hB
    have hgw : g < w.heap.size := by
      rcases Nat.lt_or_ge g w.heap.size with q | q
      · exact q
      · rw [Array.getElem?_eq_none q] at hh; cases hh
    have em : (ss.map fun s => (⟨s.toArray⟩ : ByteArray)).map (·.data.toList) = ss := by
      rw [List.map_map]
      exact List.map_id ss
    have hj := Tryd.strings_Join g 0 cap (ss.map fun s => (⟨s.toArray⟩ : ByteArray)) ⟨#[32, 43, 32]⟩ w (fun j x hx => by
        rw [Nat.zero_add]
        have hjl : j < ss.length := by
          rcases Nat.lt_or_ge j ss.length with q | q
          · exact q
          · rw [List.getElem?_eq_none (by simpa using q)] at hx; cases hx
        rw [hown.cellAt j (by omega), List.getElem?_map]
        rw [List.getElem?_map] at hx
        cases hs : ss[j]? with
        | none => rw [hs] at hx; cases hx
        | some s => rw [hs] at hx; simpa using hx) hgw (by simp; omega) (by simpa using hc) (by rw [em]; exact Nat.le_trans hl (by simp; omega))
    rw [em, List.length_map] at hj
    exact hj

/-- The texts of the summands, the constant with them. -/
def allSums (nm : Nat → List UInt8) (l : List (Int × Int)) (kn kd : Int) : List (List UInt8) :=
  sums nm 0 l ++ if kn = 0 ∧ (sums nm 0 l).length ≠ 0 then [] else [showL kn kd.toNat]

set_option maxRecDepth 4000 in
set_option maxHeartbeats 8000000 in
theorem tshow_right (w : World) (ht : Pow10 w) (v nv : Value) (l : List (Int × Int)) (kn kd : Int) (h : RatsAt w v l) (hw : Wide l) (h1 : -9223372036854775808 ≤ kn) (h2 : kn ≤ 9223372036854775807) (h3 : -9223372036854775808 ≤ kd) (h4 : kd ≤ 9223372036854775807) (hr : rightT l kn kd = true)
    (nm : Nat → List UInt8) (hnm : ∀ k, k < l.length → ∀ w', Below w.heap.size w w' → Calls Tryd.prog 43 #[.int .i64 k, nv] w' fun r w'' => r = .returned (txt (nm k)) ∧ Below w'.heap.size w' w'') (hsz : ∀ k, (nm k).length ≤ 1099511627776) :
    Calls Tryd.prog 24 #[.agg #[v, .int .i64 kn, .int .i64 kd], nv] w fun r w' => r = .returned (txt (Lib.join (allSums nm l kn kd) [32, 43, 32])) ∧ Below w.heap.size w w' := by
  obtain ⟨i0, hi, hz0, hz1, hz2⟩ := info_parts infoS
  have rt := fun (w' : World) (hb : Below w.heap.size w w') => tright_any w' v l kn kd (h.below hb) hw h1 h2 h3 h4
  rw [hr] at rt
  unfold rightT at hr
  simp only [Bool.and_eq_true, decide_eq_true_eq] at hr
  obtain ⟨⟨hl, hk⟩, hall⟩ := hr
  obtain ⟨kk, rfl, vk⟩ := valid_of hk h1 h2 h4
  obtain ⟨A, c, rfl, h5, h6, h7⟩ := id h
  obtain ⟨n, hn⟩ : ∃ n, n = l.length := ⟨_, rfl⟩
  rw [← hn] at h7 hnm hl rt ⊢
  have HN := Lib.hid (And.intro hn (And.intro hw (And.intro hl (And.intro hall (And.intro hsz vk)))))
  have H7 := Lib.hid h7
  have RT := Lib.hid rt
  have NM := Lib.hid hnm
  have HT := Lib.hid ht
  clear h hn hw h1 h2 h3 h4 h5 h6 h7 rt hk hall hnm ht hl hsz vk
  have F := FracBox.start w (.slice A n c) (.int .i64 kn) (.int .i64 kk) 26
  have hb0 := below_alloc1 w (.cells #[.slice A n c, .int .i64 kn, .int .i64 kk] 26)
  generalize hRES : txt (Lib.join (allSums nm l kn kk) [32, 43, 32]) = RES at *
  have HRES := Lib.hid hRES
  clear hRES
  go_enter Tryd.func24, Tryd.ntmps24
  go_wp2_with (go_at_call 15; (with_reducible refine (RT.out _ hb0).mono ?_); rintro e w1 ⟨rfl, hb⟩; have F := F.keep hb; have hb0 := hb0.trans (hb.mono hb0.size); have k0 := F.k0; have k1 := F.k1; have k2 := F.k2)
  go_loopg [5, 14] n (fun g v5 v14 wr => ∃ (k : Nat) (ss : List (List UInt8)), v14 = .int .i64 k ∧ k ≤ n ∧ g = n - k ∧ ss = sums nm 0 (l.take k) ∧ wr.ownsRow (w.heap.size + 1) 9 1 v5 ss.length (ss.map txt) ∧ FracBox wr w.heap.size (.slice A n c) (.int .i64 kn) (.int .i64 kk) ∧ Below w.heap.size w wr)
  case atStart => exact ⟨0, [], rfl, Nat.zero_le _, rfl, rfl, ⟨rfl, .inl ⟨rfl, rfl⟩⟩, F, hb0⟩
  case round =>
    clear F hb0 hb k0 k1 k2
    obtain ⟨k, ss, rfl, hk, hg, hss, hown, F, hb⟩ := hrel
    by_cases hkn : k = n
    · have hkl : l.take k = l := by rw [hkn, HN.out.1]; exact List.take_length
      rw [hkl] at hss
      have hB : ∀ s ∈ ss, s.length ≤ 2199023255552 := by
        rw [hss]
        refine sums_bound HN.out.2.2.2.2.1 l 0 (fun x hx => ?_)
        obtain ⟨hx1, hx2⟩ := HN.out.2.1 x hx
        have ha := HN.out.2.2.2.1
        unfold allR at ha
        obtain ⟨xd, hxd, vx⟩ := valid_of (List.all_eq_true.1 ha x hx) hx1.1 hx1.2 hx2.2
        rw [hxd, Int.toNat_natCast]
        exact showL_len vx
      have hsl : ss.length ≤ 8 := by
        rw [hss]
        have := sums_len nm l 0
        have := HN.out
        omega
      have hlk : (showL kn kk).length ≤ 2199023255552 := Nat.le_trans (showL_len HN.out.2.2.2.2.2) (by decide)
      have hres : RES = txt (Lib.join (ss ++ if kn = 0 ∧ ss.length ≠ 0 then [] else [showL kn kk]) [32, 43, 32]) := by
        rw [← HRES.out]
        unfold allSums
        rw [← hss, Int.toNat_natCast]
      have k0 := F.k0; have k1 := F.k1; have k2 := F.k2
      have HB := Lib.hid hb
      have HF := Lib.hid F
      have SB := Lib.hid (And.intro hB (And.intro hsl hlk))
      have OW := Lib.hid hown
      have HR := Lib.hid hres
      have SK := Lib.hid (fun (w' : World) (hb : Below w.heap.size w w') => show_valid HN.out.2.2.2.2.2 w' (pow10_on HT.out hb))
      subst hkn
      clear hk hg hss hb F hB hsl hlk hkl hres
      by_cases hc : kn = 0 ∧ ss.length ≠ 0
      · obtain ⟨rfl, hs0⟩ := hc
        have he : RES = txt (Lib.join ss [32, 43, 32]) := by
          rw [HR.out, if_pos ⟨rfl, hs0⟩, List.append_nil]
        have hl0 : ((ss.length : Int) == 0) = false := by simpa using hs0
        have JO := Lib.hid (join_any wr u5 _ ss OW.out (by have := SB.out; omega) SB.out.1)
        rcases hown.2 with ⟨_, h0⟩ | ⟨g, cap, cur, hv, _⟩
        · exact absurd h0 hs0
        · subst hv
          clear hown hs0
          go_wp2_with (go_at_call 44; (with_reducible refine JO.out.mono ?_); rintro e w2 ⟨rfl, hb2⟩)
          go_ret
          exact ⟨by rw [he]; rfl, HB.out.trans (hb2.mono HB.out.size)⟩
      · have HE := Lib.hid (show RES = txt (Lib.join (ss ++ [showL kn kk]) [32, 43, 32]) by rw [HR.out, if_neg hc])
        have hcs : (kn != 0) = true ∨ ((kn != 0) = false ∧ ss.length = 0) := by
          by_cases a : kn = 0
          · refine .inr ⟨by simpa using a, ?_⟩
            rcases Nat.eq_zero_or_pos ss.length with q | q
            · exact q
            · exact absurd ⟨a, by omega⟩ hc
          · exact .inl (by simpa using a)
        clear hc
        rcases hcs with q1 | ⟨q1, q2⟩
        · clear hown
          go_upto_region 11 with fail
          have b2 := HB.out
          go_wp2_with (first
            | (go_at_call 42; (with_reducible refine (SK.out _ b2).mono ?_); rintro e w3 ⟨rfl, hb3⟩; have b3 := b2.trans (hb3.mono b2.size); have O3 := own_below OW.out hb3; have F3 := HF.out.keep hb3)
            | (at_builtin; refine wpList_append_own _ rfl _ _ 45 rfl (w.heap.size + 1) 9 i0 (.string ⟨#[]⟩) 1 16 Tryd.underlying45 hi hz0 hz1 hz2 rfl (by decide) _ _ _ rfl (O3.alloc _) ⟨w3.heap.size, 0, none⟩ 1 1 [txt (showL kn kk)] rfl rfl ?c1 ?c2 ?c3 ?c4 ?c5 ?_))
          case c1 => exact one_txt
          case c2 => intro u hu; simp at hu; subst hu; rfl
          case c3 => have := SB.out.2.1; unfold maxLen; omega
          case c4 => have := SB.out.2.1; omega
          case c5 => have := F3.lt; simp; omega
          intro v' w5 hown' hgrow _
          have g5 := grown_below (by have := F3.lt; omega) O3 hgrow
          have b5 := b3.trans (g5.mono (Nat.le_succ _))
          have o5 : w5.ownsRow (w.heap.size + 1) 9 1 v' (ss ++ [showL kn kk]).length ((ss ++ [showL kn kk]).map txt) := by
            rw [List.length_append, List.map_append]
            exact hown'
          have JO := Lib.hid (join_any w5 v' _ (ss ++ [showL kn kk]) o5 (by have := SB.out.2.1; rw [List.length_append]; simp; omega) (fun s hs => by
            rcases List.mem_append.1 hs with hs | hs
            · exact SB.out.1 s hs
            · obtain rfl : s = showL kn kk := by simpa using hs
              exact SB.out.2.2))
          have B5 := Lib.hid b5
          clear hown' hgrow g5 b5 o5 O3 F3 b3 b2
          go_wp2_with (go_at_call 44; (with_reducible refine JO.out.mono ?_); rintro e w6 ⟨rfl, hb6⟩)
          go_ret
          exact ⟨by rw [HE.out]; rfl, B5.out.trans (hb6.mono B5.out.size)⟩
        · rcases hown.2 with ⟨hv, hq⟩ | ⟨g, cap, cur, hv, _⟩
          · subst hv
            (try clear hq)
            clear hown q2
            go_upto_region 11 with fail
            have b2 := HB.out
            go_wp2_with (first
              | (go_at_call 42; (with_reducible refine (SK.out _ b2).mono ?_); rintro e w3 ⟨rfl, hb3⟩; have b3 := b2.trans (hb3.mono b2.size); have O3 := own_below OW.out hb3; have F3 := HF.out.keep hb3)
              | (at_builtin; refine wpList_append_own _ rfl _ _ 45 rfl (w.heap.size + 1) 9 i0 (.string ⟨#[]⟩) 1 16 Tryd.underlying45 hi hz0 hz1 hz2 rfl (by decide) _ _ _ rfl (O3.alloc _) ⟨w3.heap.size, 0, none⟩ 1 1 [txt (showL kn kk)] rfl rfl ?c1 ?c2 ?c3 ?c4 ?c5 ?_))
            case c1 => exact one_txt
            case c2 => intro u hu; simp at hu; subst hu; rfl
            case c3 => have := SB.out.2.1; unfold maxLen; omega
            case c4 => have := SB.out.2.1; omega
            case c5 => have := F3.lt; simp; omega
            intro v' w5 hown' hgrow _
            have g5 := grown_below (by have := F3.lt; omega) O3 hgrow
            have b5 := b3.trans (g5.mono (Nat.le_succ _))
            have o5 : w5.ownsRow (w.heap.size + 1) 9 1 v' (ss ++ [showL kn kk]).length ((ss ++ [showL kn kk]).map txt) := by
              rw [List.length_append, List.map_append]
              exact hown'
            have JO := Lib.hid (join_any w5 v' _ (ss ++ [showL kn kk]) o5 (by have := SB.out.2.1; rw [List.length_append]; simp; omega) (fun s hs => by
              rcases List.mem_append.1 hs with hs | hs
              · exact SB.out.1 s hs
              · obtain rfl : s = showL kn kk := by simpa using hs
                exact SB.out.2.2))
            have B5 := Lib.hid b5
            clear hown' hgrow g5 b5 o5 O3 F3 b3 b2
            go_wp2_with (go_at_call 44; (with_reducible refine JO.out.mono ?_); rintro e w6 ⟨rfl, hb6⟩)
            go_ret
            exact ⟨by rw [HE.out]; rfl, B5.out.trans (hb6.mono B5.out.size)⟩
          · have q3 : ((ss.length : Int) == 0) = true := by rw [q2]; rfl
            subst hv
            (try clear hq)
            clear hown q2
            go_upto_region 11 with fail
            have b2 := HB.out
            go_wp2_with (first
              | (go_at_call 42; (with_reducible refine (SK.out _ b2).mono ?_); rintro e w3 ⟨rfl, hb3⟩; have b3 := b2.trans (hb3.mono b2.size); have O3 := own_below OW.out hb3; have F3 := HF.out.keep hb3)
              | (at_builtin; refine wpList_append_own _ rfl _ _ 45 rfl (w.heap.size + 1) 9 i0 (.string ⟨#[]⟩) 1 16 Tryd.underlying45 hi hz0 hz1 hz2 rfl (by decide) _ _ _ rfl (O3.alloc _) ⟨w3.heap.size, 0, none⟩ 1 1 [txt (showL kn kk)] rfl rfl ?c1 ?c2 ?c3 ?c4 ?c5 ?_))
            case c1 => exact one_txt
            case c2 => intro u hu; simp at hu; subst hu; rfl
            case c3 => have := SB.out.2.1; unfold maxLen; omega
            case c4 => have := SB.out.2.1; omega
            case c5 => have := F3.lt; simp; omega
            intro v' w5 hown' hgrow _
            have g5 := grown_below (by have := F3.lt; omega) O3 hgrow
            have b5 := b3.trans (g5.mono (Nat.le_succ _))
            have o5 : w5.ownsRow (w.heap.size + 1) 9 1 v' (ss ++ [showL kn kk]).length ((ss ++ [showL kn kk]).map txt) := by
              rw [List.length_append, List.map_append]
              exact hown'
            have JO := Lib.hid (join_any w5 v' _ (ss ++ [showL kn kk]) o5 (by have := SB.out.2.1; rw [List.length_append]; simp; omega) (fun s hs => by
              rcases List.mem_append.1 hs with hs | hs
              · exact SB.out.1 s hs
              · obtain rfl : s = showL kn kk := by simpa using hs
                exact SB.out.2.2))
            have B5 := Lib.hid b5
            clear hown' hgrow g5 b5 o5 O3 F3 b3 b2
            go_wp2_with (go_at_call 44; (with_reducible refine JO.out.mono ?_); rintro e w6 ⟨rfl, hb6⟩)
            go_ret
            exact ⟨by rw [HE.out]; rfl, B5.out.trans (hb6.mono B5.out.size)⟩
    · have hlt : k < n := by omega
      obtain ⟨x, hx⟩ : ∃ x, l[k]? = some x := ⟨_, List.getElem?_eq_getElem (by have := HN.out.1; omega)⟩
      obtain ⟨ad, rfl, d1, d3⟩ := rats_cells H7.out hb hx (by omega)
      obtain ⟨hx1, hx2⟩ := HN.out.2.1 x (List.mem_of_getElem? hx)
      have hxr : rightB x.1 x.2 = true := by
        have := HN.out.2.2.2.1
        unfold allR at this
        exact List.all_eq_true.1 this x (List.mem_of_getElem? hx)
      obtain ⟨xd, hxd, vx⟩ := valid_of hxr hx1.1 hx1.2 hx2.2
      have nxt := sums_next (nm := nm) hx
      rw [← hss, hxd, Int.toNat_natCast] at nxt
      rw [hxd] at d3
      have hsl : ss.length ≤ k := by
        rw [hss]
        refine Nat.le_trans (sums_len _ _ _) ?_
        rw [List.length_take]
        exact Nat.min_le_left _ _
      have i1 : (k : Int) < (n : Int) := by omega
      have i2 : (0 : Int) ≤ (k : Int) := by omega
      have wk : IntKind.i64.wrap ((k : Int) + 1) = (k : Int) + 1 := IntWalk.i64_in _ (by have := HN.out.2.2.1; omega)
      generalize x.1 = xn at *
      have HK := Lib.hid (And.intro hlt (And.intro hg (And.intro hsl hss)))
      have HB := Lib.hid (And.intro hb F)
      have OW := Lib.hid hown
      have NX := Lib.hid nxt
      have VX := Lib.hid vx
      clear hk hg hb hkn hlt hx hx1 hx2 hxr hss hsl hown nxt vx hxd F
      by_cases hz : xn = 0
      · subst hz
        go_wp2_with fail
        go_roundg (n - (k + 1))
        case measure => have := HK.out; omega
        case rel =>
          have a1 := below_alloc1 wr (.cells #[.int .i64 0, .int .i64 xd] 24)
          exact ⟨k + 1, ss, by push_cast; rfl, by have := HK.out; omega, rfl, by rw [NX.out]; simp, own_below OW.out a1, HB.out.2.keep a1, HB.out.1.trans (a1.mono HB.out.1.size)⟩
      · have hz' : (xn != 0) = true := by simpa using hz
        have SH := Lib.hid (fun (w' : World) (hb : Below w.heap.size w w') => show_valid VX.out w' (pow10_on HT.out hb))
        have sl := showL_len VX.out
        have nl := HN.out.2.2.2.2.1 k
        have l1 : ¬ 9223372036854775807 < (showL xn xd).length + 1 := by omega
        have l2 : ¬ 9223372036854775807 < (showL xn xd).length + 1 + (nm k).length := by omega
        have NK := Lib.hid (NM.out k HK.out.1)
        have a1 := below_alloc1 wr (.cells #[.int .i64 xn, .int .i64 xd] 24)
        have RA := RatAt.start wr xn xd 24
        have HB2 := Lib.hid (And.intro (HB.out.1.trans (a1.mono HB.out.1.size)) (And.intro (HB.out.2.keep a1) (own_below OW.out a1)))
        have HRA := Lib.hid RA
        clear sl nl a1 RA
        go_upto_region 8 with fail
        clear d1 d3
        have RA := HRA.out
        have b2 := HB2.out.1
        go_wp2_with (first
          | (go_at_call 42; (with_reducible refine (SH.out _ b2).mono ?_); rintro e w3 ⟨rfl, hb3⟩; have RA := RA.keep hb3; have b3 := b2.trans (hb3.mono b2.size))
          | (go_at_call 43; (with_reducible refine (NK.out _ b3).mono ?_); rintro e w4 ⟨rfl, hb4⟩; have b4 := b3.trans (hb4.mono b3.size); have OW4 := own_below (own_below HB2.out.2.2 hb3) hb4; have F4 := (HB2.out.2.1.keep hb3).keep hb4)
          | (at_builtin; refine wpList_append_own _ rfl _ _ 45 rfl (w.heap.size + 1) 9 i0 (.string ⟨#[]⟩) 1 16 Tryd.underlying45 hi hz0 hz1 hz2 rfl (by decide) _ _ _ rfl (OW4.alloc _) ⟨w4.heap.size, 0, none⟩ 1 1 [.string (⟨(showL xn xd).toArray⟩ ++ ⟨#[42]⟩ ++ ⟨(nm k).toArray⟩)] rfl rfl ?c1 ?c2 ?c3 ?c4 ?c5 ?_))
        case c1 => exact one_txt
        case c2 => intro u hu; simp at hu; subst hu; rfl
        case c3 => have := HK.out; have := HN.out.2.2.1; unfold maxLen; omega
        case c4 => have := HK.out; have := HN.out.2.2.1; omega
        case c5 => have := F4.lt; simp; omega
        intro v' w5 hown' hgrow _
        have g5 := grown_below (by have := F4.lt; omega) OW4 hgrow
        have F5 := F4.keep_ g5 (Nat.lt_succ_self _)
        have b5 := b4.trans (g5.mono (Nat.le_succ _))
        have o5 : w5.ownsRow (w.heap.size + 1) 9 1 v' (ss ++ [showL xn xd ++ 42 :: nm k]).length ((ss ++ [showL xn xd ++ 42 :: nm k]).map txt) := by
          rw [bytes_one] at hown'
          rw [List.length_append, List.map_append]
          exact hown'
        have FIN := Lib.hid (And.intro o5 (And.intro F5 b5))
        clear hown' hgrow g5 F5 b5 o5 OW4 F4 b4 b3 b2 RA
        go_wp2_with fail
        go_roundg (n - (k + 1))
        case measure => have := HK.out; omega
        case rel => exact ⟨k + 1, _, by push_cast; rfl, by have := HK.out; omega, rfl, by rw [NX.out, if_neg hz], FIN.out.1, FIN.out.2.1, FIN.out.2.2⟩
end Go.Proofs.YtkgndeiddjkhmaaDoor
