/-
  The walks of package tree's depths and of slices.Max. (Template: by-name.py fills it.)
-/
import Derived.Test.YtabnjiijgbigbaaDoorTreI
namespace Go.Proofs.YtabnjiijgbigbaaDoor
open Go.RowKit

/-! ### Plain -/
/-- Each parent stands ahead. -/
def Ahead (p : List Int) : Prop := ∀ (k : Nat) (x : Int), p[k]? = some x → x < k
theorem Ahead.set {p : List Int} (h : Ahead p) {k : Nat} {x : Int} (hx : x < k) : Ahead (p.set k x) := fun i y hi => by
  rw [List.getElem?_set] at hi
  split at hi
  · rename_i e
    split at hi
    · injection hi with hi
      omega
    · cases hi
  · exact h i y hi
theorem kidsO_ahead (n a : Nat) : ∀ (x : List Int) (p q : List Int), kidsO n a x p = some q → Ahead p → Ahead q
  | [], p, q, h, hp => by
    injection h with h
    rwa [← h]
  | k :: r, p, q, h, hp => by
    rw [kidsO] at h
    split at h
    · cases h
    · rename_i hb
      exact kidsO_ahead n a r _ q h (hp.set (by omega))
theorem parK_ahead (ns : List Nd) : ∀ (j : Nat) (p : List Int), parK ns j = some p → Ahead p
  | 0, p, h => by
    injection h with h
    rw [← h]
    intro k x hx
    rw [List.getElem?_replicate] at hx
    split at hx
    · injection hx with hx
      omega
    · cases hx
  | j + 1, p, h => by
    rw [parK] at h
    cases hq : parK ns j with
    | none => rw [hq] at h; cases h
    | some q =>
      rw [hq, Option.bind_some] at h
      split at h
      · cases h
      · exact kidsO_ahead _ _ _ _ _ h (parK_ahead ns j q hq)
theorem depK_len (p : List Int) : ∀ j, (depK p j).length = j
  | 0 => rfl
  | j + 1 => by rw [depK, List.length_append, depK_len p j]; rfl
theorem depK_low {p : List Int} (ha : Ahead p) : ∀ (j : Nat), j ≤ p.length → ∀ (k : Nat) (x : Int), (depK p j)[k]? = some x → 1 ≤ x ∧ x ≤ (k : Int) + 1
  | 0, _, k, x, h => by simp [depK] at h
  | j + 1, hj, k, x, h => by
    rw [depK, List.getElem?_append, depK_len] at h
    split at h
    · exact depK_low ha j (by omega) k x h
    · rename_i hk
      have e : k = j := by
        have := (List.getElem?_eq_some_iff.mp h).1
        simp at this
        omega
      subst e
      rw [Nat.sub_self] at h
      injection h with h
      obtain ⟨y, hy⟩ : ∃ y, p[k]? = some y := ⟨_, List.getElem?_eq_getElem (by omega)⟩
      rw [atI_of hy] at h
      have := ha k y hy
      split at h
      · rename_i h0
        obtain ⟨m, rfl⟩ : ∃ m : Nat, y = m := ⟨y.toNat, by omega⟩
        obtain ⟨z, hz⟩ : ∃ z, (depK p k)[m]? = some z := ⟨_, List.getElem?_eq_getElem (by rw [depK_len]; omega)⟩
        rw [atI_of hz] at h
        have := depK_low ha k (by omega) m z hz
        omega
      · omega
/-- The row of the depths while it is filled. -/
def depR (p : List Int) (n j : Nat) : List Int := depK p j ++ List.replicate (n - j) 0
theorem depR_len {p : List Int} {n j : Nat} (h : j ≤ n) : (depR p n j).length = n := by
  unfold depR
  rw [List.length_append, depK_len, List.length_replicate]
  omega
theorem depR_at {p : List Int} {n j k : Nat} (h : k < j) : (depR p n j)[k]? = (depK p j)[k]? := by
  unfold depR
  rw [List.getElem?_append_left (by rw [depK_len]; exact h)]
theorem depR_set {p : List Int} {n j : Nat} {x : Int} (h : j < n) (hx : x = if 0 ≤ atI p j then 1 + atI (depK p j) (atI p j) else 1) : (depR p n j).set j x = depR p n (j + 1) := by
  unfold depR
  rw [List.set_append_right _ _ (by rw [depK_len]; exact Nat.le_refl _), depK_len, Nat.sub_self, depK, ← hx, List.append_assoc]
  congr 1
  rw [show n - j = (n - (j + 1)) + 1 by omega, List.replicate_succ, List.set_cons_zero]
  rfl
theorem depR_end (p : List Int) : depR p p.length p.length = depT p := by
  unfold depR depT
  rw [Nat.sub_self, List.replicate_zero, List.append_nil]

theorem pin_of_made {w : World} {B n : Nat} {v : Value} (h : w.ownsRow B 3 1 v n (madeCells #[Value.int .i64 0] n).toList) (hn : 0 < n) : ∃ g c, v = .slice (some ⟨g, 0, none⟩) n c ∧ n ≤ c ∧ c ≤ maxLen ∧ B ≤ g ∧ PIn w g (List.replicate n 0) := by
  rcases h.2 with ⟨e, he⟩ | ⟨g, cap, cur, e, hge, hh, hc, hm, hsz, htk⟩
  · exfalso
    omega
  · refine ⟨g, cap, e, hc, hm, hge, cur, ⟨_, hh⟩, fun k x hx => ?_⟩
    rw [List.getElem?_replicate] at hx
    split at hx
    · rename_i q
      injection hx with hx
      have : (cur.toList.take (n * 1))[k]? = some (.int .i64 x) := by
        rw [htk, ← hx]
        simp [madeCells, q, Nat.mod_one]
      rw [List.getElem?_take_of_lt (by omega)] at this
      simpa using this
    · cases hx

theorem PIn.other {w : World} {g : Nat} {p : List Int} (h : PIn w g p) {q : Addr} (hq : q.block ≠ g) (v : Value) : PIn (w.setCell q v) g p := by
  obtain ⟨cs, h1, hc⟩ := h
  exact ⟨cs, h1.other hq v, hc⟩
theorem PIn.drew {w : World} {g : Nat} {p : List Int} (h : PIn w g p) : PIn w.drew g p := by
  obtain ⟨cs, h1, hc⟩ := h
  exact ⟨cs, h1.drew, hc⟩

set_option maxHeartbeats 8000000 in
theorem depths_any (w : World) (g c n : Nat) (p : List Int) (hp : PIn w g p) (hn : p.length = n) (h1 : 1 ≤ n) (h2 : n ≤ 1500) (ha : Ahead p) :
    Calls Tryd.prog 21 #[.slice (some ⟨g, 0, none⟩) n c] w fun e w' => Below w.heap.size w w' ∧ ∃ g2 c2, e = .returned (.slice (some ⟨g2, 0, none⟩) n c2) ∧ n ≤ c2 ∧ c2 ≤ maxLen ∧ PIn w' g2 (depT p) := by
  obtain ⟨i0, hi, hz0, hz1, hz2⟩ := info_three infoInt
  have HN := Lib.hid (And.intro hn (And.intro h1 (And.intro h2 (And.intro hp ha))))
  clear hn h1 h2 ha hp
  go_enter Tryd.func21, Tryd.ntmps21
  go_upto_region 2 with (at_make; refine wpList_make_full _ rfl _ _ 28 rfl w.heap.size 3 i0 (.int .i64 0) 1 Tryd.underlying28 hi hz0 hz1 .i64 .i64 _ _ n rfl rfl ?c1 ?c2 ?c3 ?c4 ?c5 ?_)
  case c1 => rfl
  case c2 => have := HN.out; omega
  case c3 => rw [hz2]; have := HN.out; omega
  case c4 => have := HN.out; unfold maxLen; omega
  case c5 => simp
  intro w2 hown hgrow
  have b2 : Below w.heap.size w w2 := (Below.refl _ _).grown hgrow (Nat.le_refl _) (fun k hk => by cases hk)
  obtain ⟨gd, cd, ed, hcd, hmd, hgd, hD⟩ := pin_of_made hown (by have := HN.out; omega)
  rw [ed]
  have p2 := HN.out.2.2.2.1.keep b2
  have H2 := Lib.hid (And.intro hcd (And.intro hmd (And.intro hgd (And.intro HN.out.2.2.2.1.lt b2))))
  have D2 := Lib.hid (And.intro hD p2)
  clear hcd hmd hgd hD p2 b2 hown hgrow ed hi hz0 hz1 hz2 i0
  go_wp2_with fail
  go_loopg [11] n (fun gk v11 wr => ∃ j : Nat, v11 = .int .i64 j ∧ j ≤ n ∧ gk = n - j ∧ PIn wr gd (depR p n j) ∧ PIn wr g p ∧ Below w.heap.size w wr)
  case atStart => exact ⟨0, rfl, Nat.zero_le _, rfl, D2.out.1, D2.out.2, H2.out.2.2.2.2⟩
  case round =>
    obtain ⟨j, rfl, hj, hgk, hD, hP, hb⟩ := hrel
    by_cases hjn : j = n
    · subst hjn
      have e : depR p j j = depT p := by
        have := depR_end p
        rwa [HN.out.1] at this
      rw [e] at hD
      have FIN := Lib.hid (And.intro hb hD)
      clear e hj hgk hD hP hb
      go_wp2_with fail
      go_ret
      exact ⟨FIN.out.1, gd, cd, rfl, H2.out.1, H2.out.2.1, FIN.out.2⟩
    have hlt : j < n := by omega
    obtain ⟨y, hy⟩ : ∃ y, p[j]? = some y := ⟨_, List.getElem?_eq_getElem (by have := HN.out.1; omega)⟩
    have cy := hP.cell hy
    have ay := HN.out.2.2.2.2 j y hy
    obtain ⟨z0, hz0⟩ : ∃ z0, (depR p n j)[j]? = some z0 := ⟨_, List.getElem?_eq_getElem (by rw [depR_len hj]; exact hlt)⟩
    have cz := hD.cell hz0
    have fz := hD.free j
    have i2 : (j : Int) < (n : Int) := by omega
    have i3 : (0 : Int) ≤ (j : Int) := by omega
    have u1 : IntKind.i64.wrap ((j : Int) + 1) = (j : Int) + 1 := IntWalk.i64_in _ (by have := HN.out; omega)
    have len := depR_len (p := p) hj
    have D5 := hD.set (k := j) (by omega) 1
    have P5 : PIn (wr.setCell ⟨gd, j, none⟩ (.int .i64 1)) g p := hP.other (q := ⟨gd, j, none⟩) (by show gd ≠ g; have := H2.out; omega) _
    have b5 : Below w.heap.size w (wr.setCell ⟨gd, j, none⟩ (.int .i64 1)) := hb.setCell (p := ⟨gd, j, none⟩) H2.out.2.2.1 _
    have H5 := Lib.hid (And.intro D5 (And.intro P5 b5))
    have HJ := Lib.hid (And.intro hlt (And.intro hgk (And.intro hy (And.intro ay len))))
    clear hj hgk hP hD hy ay hz0 hlt D5 P5 b5 len hb hjn
    go_upto_region 6 with fail
    clear cy cz fz
    generalize wr.setCell ⟨gd, j, none⟩ (.int .i64 1) = w5 at *
    by_cases h0 : 0 ≤ y
    · obtain ⟨m, rfl⟩ : ∃ m : Nat, y = m := ⟨y.toNat, by omega⟩
      have hm : m < j := by have := HJ.out.2.2.2.1; omega
      obtain ⟨z, hz⟩ : ∃ z, (depK p j)[m]? = some z := ⟨_, List.getElem?_eq_getElem (by rw [depK_len]; exact hm)⟩
      have bz := depK_low HN.out.2.2.2.2 j (by have := HJ.out; have := HN.out; omega) m z hz
      have cm := H5.out.1.cell (k := m) (x := z) (by rw [List.getElem?_set_ne (by omega), depR_at hm]; exact hz)
      have cj := H5.out.1.cell (k := j) (x := 1) (by rw [List.getElem?_set_self (by rw [HJ.out.2.2.2.2]; exact HJ.out.1)])
      have fj := H5.out.1.free j
      have u2 : IntKind.i64.wrap (1 + z) = 1 + z := IntWalk.i64_in _ (by have := HJ.out; have := HN.out; omega)
      have i5 : (m : Int) < (n : Int) := by have := HJ.out; omega
      have D8 := H5.out.1.set (k := j) (by rw [List.length_set, HJ.out.2.2.2.2]; exact HJ.out.1) (1 + z)
      rw [List.set_set, depR_set HJ.out.1 (by rw [atI_of HJ.out.2.2.1, if_pos h0, atI_of hz])] at D8
      have P8 := H5.out.2.1.other (q := ⟨gd, j, none⟩) (by show gd ≠ g; have := H2.out; omega) (.int .i64 (1 + z))
      have b8 := H5.out.2.2.setCell (p := ⟨gd, j, none⟩) H2.out.2.2.1 (.int .i64 (1 + z))
      have H8 := Lib.hid (And.intro D8 (And.intro P8 b8))
      clear D8 P8 b8 hz bz hm
      go_wp2_with fail
      go_region
      all_goals
        go_wp2_with fail
        go_roundg (n - (j + 1))
        case measure => have := HJ.out; omega
        case rel => exact ⟨j + 1, by push_cast; rfl, by have := HJ.out; omega, rfl, H8.out.1.drew, H8.out.2.1.drew, H8.out.2.2.drew⟩
    · have i4 : y < 0 := by omega
      have D8 := H5.out.1
      rw [depR_set HJ.out.1 (by rw [atI_of HJ.out.2.2.1, if_neg h0])] at D8
      have H8 := Lib.hid D8
      clear D8 h0
      go_wp2_with fail
      go_roundg (n - (j + 1))
      case measure => have := HJ.out; omega
      case rel => exact ⟨j + 1, by push_cast; rfl, by have := HJ.out; omega, rfl, H8.out, H5.out.2.1, H5.out.2.2⟩
end Go.Proofs.YtabnjiijgbigbaaDoor
