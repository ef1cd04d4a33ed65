/-
  Plain: what the document's own words on nodes say makes a node valid. (Template: by-name.py fills it.)
-/
import Derived.Test.YtabnjiijgbigbaaDoorTreW
import Derived.Test.YtabnjiijgbigbaaDoorTreM
import Derived.Test.YtabnjiijgbigbaaDoorLexK
namespace Go.Proofs.YtabnjiijgbigbaaDoor
open Go.RowKit

theorem sum_one : ∀ {l : List Nat} {i a : Nat}, l[i]? = some a → a ≤ l.sum
  | x :: r, 0, a, h => by
    obtain rfl : x = a := by simpa using h
    rw [List.sum_cons]; omega
  | x :: r, i + 1, a, h => by
    have := sum_one (l := r) (by simpa using h)
    rw [List.sum_cons]; omega
theorem sum_two : ∀ {l : List Nat} {i j a b : Nat}, i < j → l[i]? = some a → l[j]? = some b → a + b ≤ l.sum
  | x :: r, 0, j + 1, a, b, _, h, k => by
    obtain rfl : x = a := by simpa using h
    have := sum_one (l := r) (by simpa using k)
    rw [List.sum_cons]; omega
  | x :: r, i + 1, j + 1, a, b, hlt, h, k => by
    have := sum_two (l := r) (i := i) (j := j) (by omega) (by simpa using h) (by simpa using k)
    rw [List.sum_cons]; omega
theorem sum_has : ∀ {l : List Nat}, 0 < l.sum → ∃ i a : Nat, l[i]? = some a ∧ 0 < a
  | [], h => by simp at h
  | x :: r, h => by
    rw [List.sum_cons] at h
    by_cases q : 0 < x
    · exact ⟨0, x, rfl, q⟩
    · obtain ⟨i, a, h1, h2⟩ := sum_has (l := r) (by omega)
      exact ⟨i + 1, a, by simpa using h1, h2⟩
/-- How often a number is a kid. -/
def cntN (ns : List Nd) (k : Int) : Nat := (ns.map fun d => d.kids.count k).sum
def LinkedP (ns : List Nd) : Prop := 0 < ns.length ∧ ∀ (i : Nat) (d : Nd), ns[i]? = some d → cntN ns i = (if i = 0 then 0 else 1) ∧ ∀ k ∈ d.kids, (i : Int) < k ∧ k < (ns.length : Int)
theorem cnt_two {ns : List Nd} {k : Int} {i j : Nat} {d e : Nd} (hlt : i < j) (hd : ns[i]? = some d) (he : ns[j]? = some e) : d.kids.count k + e.kids.count k ≤ cntN ns k :=
  sum_two hlt (by rw [List.getElem?_map, hd]; rfl) (by rw [List.getElem?_map, he]; rfl)
theorem cnt_one {ns : List Nd} {k : Int} {i : Nat} {d : Nd} (hd : ns[i]? = some d) : d.kids.count k ≤ cntN ns k := sum_one (i := i) (by rw [List.getElem?_map, hd]; rfl)
theorem cnt_has {ns : List Nd} {k : Int} (h : 0 < cntN ns k) : ∃ (i : Nat) (d : Nd), ns[i]? = some d ∧ k ∈ d.kids := by
  obtain ⟨i, a, h1, h2⟩ := sum_has h
  rw [List.getElem?_map] at h1
  cases hd : ns[i]? with
  | none => rw [hd] at h1; simp at h1
  | some d =>
    rw [hd] at h1
    obtain rfl : d.kids.count k = a := by simpa using h1
    exact ⟨i, d, hd, List.count_pos_iff.mp h2⟩
theorem kidsO_ok (n a : Nat) : ∀ (x : List Int) (p : List Int), p.length = n → x.Nodup → (∀ k ∈ x, (a : Int) < k ∧ k < (n : Int) ∧ atI p k < 0) → ∃ q, kidsO n a x p = some q
  | [], p, _, _, _ => ⟨p, by rw [kidsO]⟩
  | k :: r, p, hn, hd, h => by
    obtain ⟨h1, h2, h3⟩ := h k List.mem_cons_self
    obtain ⟨m, rfl⟩ : ∃ m : Nat, k = m := ⟨k.toNat, by omega⟩
    obtain ⟨hd1, hd2⟩ := List.nodup_cons.mp hd
    rw [kidsO, if_neg (by omega), Int.toNat_natCast]
    refine kidsO_ok n a r _ (by rw [List.length_set]; exact hn) hd2 (fun y hy => ?_)
    obtain ⟨b1, b2, b3⟩ := h y (List.mem_cons_of_mem _ hy)
    obtain ⟨y', rfl⟩ : ∃ y' : Nat, y = y' := ⟨y.toNat, by omega⟩
    exact ⟨b1, b2, by rw [atI_putNe _ (fun e => hd1 (by rw [e]; exact hy))]; exact b3⟩
theorem parK_ok {ns : List Nd} (h : LinkedP ns) : ∀ j, j ≤ ns.length → ∃ p, parK ns j = some p
  | 0, _ => ⟨_, rfl⟩
  | j + 1, hj => by
    obtain ⟨p, hp⟩ := parK_ok h j (by omega)
    have L := parK_links ns j p (by omega) hp
    have hd : ns[j]? = some ns[j] := List.getElem?_eq_getElem (by omega)
    obtain ⟨c, r⟩ := h.2 j _ hd
    rw [parK, hp, Option.bind_some, ndAt_of hd]
    have ne : ¬ (0 < j ∧ atI p (j : Int) < 0) := fun ⟨a, b⟩ => by
      rw [if_neg (by omega)] at c
      obtain ⟨i, d, hi, hm⟩ := cnt_has (ns := ns) (k := (j : Int)) (by omega)
      have := (h.2 i d hi).2 _ hm
      have := ((L.of i d (by omega) hi).2 _ hm).2.2
      omega
    rw [if_neg ne]
    have one : ∀ k ∈ ns[j].kids, cntN ns k ≤ 1 := fun k hk => by
      obtain ⟨a, b⟩ := r k hk
      obtain ⟨m, rfl⟩ : ∃ m : Nat, k = m := ⟨k.toNat, by omega⟩
      obtain ⟨c, _⟩ := h.2 m _ (List.getElem?_eq_getElem (by omega))
      rw [c]; split <;> omega
    refine kidsO_ok _ _ _ _ L.len (List.nodup_iff_count.mpr fun k => ?_) (fun k hk => ⟨(r k hk).1, (r k hk).2, ?_⟩)
    · by_cases hk : k ∈ ns[j].kids
      · exact Nat.le_trans (cnt_one hd) (one k hk)
      · rw [List.count_eq_zero_of_not_mem hk]; omega
    · refine Int.not_le.mp fun q => ?_
      obtain ⟨a, b⟩ := r k hk
      obtain ⟨m, rfl⟩ : ∃ m : Nat, k = m := ⟨k.toNat, by omega⟩
      obtain ⟨i, d, hi, hdi, _, hm⟩ := L.at_ m q
      have := cnt_two (k := (m : Int)) hi hdi hd
      have := one _ hk
      have := List.count_pos_iff.mpr hm
      have := List.count_pos_iff.mpr hk
      omega
theorem parT_ok {ns : List Nd} (h : LinkedP ns) (hl : ns.length ≤ 1500) : ∃ p, parT ns = some p := by
  have := h.1
  unfold parT
  rw [if_neg (by omega)]
  exact parK_ok h _ (Nat.le_refl _)

/-! ### How deep -/
def maxZ (l : List Int) : Int := l.foldl max 0
theorem foldl_ge : ∀ (l : List Int) (a x : Int), x ≤ a → x ≤ l.foldl max a
  | [], a, x, h => h
  | y :: r, a, x, h => foldl_ge r (max a y) x (by omega)
theorem foldl_mem : ∀ (l : List Int) (a x : Int), x ∈ l → x ≤ l.foldl max a
  | y :: r, a, x, h => by
    rcases List.mem_cons.mp h with rfl | h
    · exact foldl_ge r _ _ (by omega)
    · exact foldl_mem r _ _ h
theorem foldl_le : ∀ (l : List Int) (a b : Int), a ≤ b → (∀ x ∈ l, x ≤ b) → l.foldl max a ≤ b
  | [], a, b, h, _ => h
  | y :: r, a, b, h, k => foldl_le r (max a y) b (by have := k y List.mem_cons_self; omega) (fun x hx => k x (List.mem_cons_of_mem _ hx))
/-- The longest way down. -/
def htF (ns : List Nd) : Nat → Int → Int
  | 0, _ => 1
  | d + 1, k => maxZ ((ndAt ns k).kids.map (htF ns d)) + 1
theorem htF_pos (ns : List Nd) : ∀ d k, 1 ≤ htF ns d k
  | 0, _ => Int.le_refl _
  | d + 1, k => by
    rw [htF]
    have := foldl_ge ((ndAt ns k).kids.map (htF ns d)) 0 0 (Int.le_refl _)
    unfold maxZ
    omega
theorem htF_kid {ns : List Nd} {i : Nat} {d : Nd} (hd : ns[i]? = some d) {k : Int} (hk : k ∈ d.kids) (f : Nat) : htF ns f k + 1 ≤ htF ns (f + 1) i := by
  rw [htF, ndAt_of hd]
  have := foldl_mem (d.kids.map (htF ns f)) 0 _ (List.mem_map.mpr ⟨k, hk, rfl⟩)
  unfold maxZ
  omega
section
variable {ns : List Nd} {p : List Int}
theorem depK_stable (p : List Int) : ∀ (j : Nat) (k : Nat), k < j → (depK p j)[k]? = (depK p (k + 1))[k]?
  | j + 1, k, h => by
    by_cases e : k = j
    · subst e; rfl
    · rw [depK, List.getElem?_append_left (by rw [depK_len]; omega)]
      exact depK_stable p j k (by omega)
theorem depT_at {k : Nat} (hk : k < p.length) : atI (depT p) k = if 0 ≤ atI p k then 1 + atI (depK p k) (atI p k) else 1 := by
  rw [atI_get]
  unfold depT
  rw [depK_stable p _ k hk, depK, List.getElem?_append_right (by rw [depK_len]; omega), depK_len, Nat.sub_self]
  rfl
theorem depK_atT {j k : Nat} (hj : j ≤ p.length) (hk : k < j) : atI (depK p j) (k : Int) = atI (depT p) k := by
  rw [atI_get, atI_get]
  unfold depT
  rw [depK_stable p _ k hk, depK_stable p p.length k (by omega)]
theorem dep_ht (L : Links ns ns.length p) : ∀ (x : Nat), x < ns.length → 1 ≤ atI (depT p) x ∧ atI (depT p) x ≤ (x : Int) + 1 ∧ ∃ f : Nat, (f : Int) + atI (depT p) x = (ns.length : Int) + 1 ∧ atI (depT p) x + htF ns f x ≤ 1 + htF ns ns.length 0 := by
  intro x
  induction x using Nat.strongRecOn with
  | ind x ih =>
    intro hx
    rw [depT_at (by rw [L.len]; exact hx)]
    by_cases hp : 0 ≤ atI p x
    · rw [if_pos hp]
      obtain ⟨i, d, hi, hd, e, hm⟩ := L.at_ x hp
      have lt := par_lt L hp
      rw [e] at lt ⊢
      obtain ⟨a1, a2, f, a3, a4⟩ := ih i (by omega) hi
      rw [depK_atT (by rw [L.len]; omega) (by omega)]
      obtain ⟨g, rfl⟩ : ∃ g, f = g + 1 := ⟨f - 1, by omega⟩
      have := htF_kid hd hm g
      exact ⟨by omega, by omega, g, by omega, by omega⟩
    · rw [if_neg hp]
      have : x = 0 := Classical.byContradiction fun q => hp (L.each x (by omega) hx)
      subst this
      exact ⟨Int.le_refl _, by omega, ns.length, by omega, Int.le_refl _⟩
theorem dep_le (L : Links ns ns.length p) : maxL (depT p) ≤ htF ns ns.length 0 := by
  have all : ∀ y ∈ depT p, y ≤ htF ns ns.length 0 := fun y hy => by
    obtain ⟨k, hk⟩ := List.mem_iff_getElem?.mp hy
    have hlt : k < ns.length := by
      have := (List.getElem?_eq_some_iff.mp hk).1
      unfold depT at this
      rw [depK_len, L.len] at this
      exact this
    have e : atI (depT p) k = y := atI_of hk
    obtain ⟨_, _, f, _, h⟩ := dep_ht L k hlt
    have := htF_pos ns f k
    omega
  cases h : depT p with
  | nil => exact Int.le_trans (by decide) (htF_pos ns ns.length 0)
  | cons a r =>
    rw [h] at all
    exact foldl_le r a _ (all a List.mem_cons_self) (fun x hx => all x (List.mem_cons_of_mem _ hx))
end
/-- What the document's own words ask makes a list right. -/
theorem right_ok {ns : List Nd} (h : LinkedP ns) (hl : ns.length ≤ 1500) (h0 : kindAt ns 0 = 0) (hd : htF ns ns.length 0 ≤ 24) (hv : ∀ d ∈ ns, validB ns d = true) : rightN ns = true := by
  obtain ⟨p, hp⟩ := parT_ok h hl
  unfold rightN
  rw [hp]
  dsimp only
  have := dep_le (parT_links hp)
  rw [h0, decide_eq_true (by omega), List.all_eq_true.mpr hv]
  rfl
end Go.Proofs.YtabnjiijgbigbaaDoor

namespace Go.Proofs.YtabnjiijgbigbaaDoor
open Go.RowKit

def wordsR (n : Nd) (a b : Int) : Bool := namesB n.words && decide (a ≤ (n.words.length : Int)) && decide ((n.words.length : Int) ≤ b)
def noneR (n : Nd) : Bool := decide (n.nums.length = 0)
def fracR (n : Nd) : Bool := decide (1 ≤ num n 1) && decide (num n 1 < 1000000000000000000) && decide (1 ≤ num n 2) && decide (num n 2 < 1000000000000000000)
def kdR (ns : List Nd) (n : Nd) (i : Nat) : Int := kindAt ns (atI n.kids i)

set_option maxHeartbeats 1000000 in
theorem rexpr_any (w : World) (k : Int) : Calls Tryd.prog 27 #[.int .i64 k] w fun e w' => e = .returned (.bool (exprB k)) ∧ w = w' := by
  unfold exprB
  by_cases q : 20 ≤ k
  · by_cases q2 : k ≤ 23
    · have Q := Lib.hid (And.intro q q2)
      go_enter Tryd.func27, Tryd.ntmps27
      go_wp2_with fail
      go_ret
      exact ⟨by first | rfl | (have := Q.out; simp; omega) | (have := Q.out; simp; intros; omega) | (have := Q.out; simp_all), rfl⟩
    · have q2' : 23 < k := by omega
      have Q := Lib.hid (And.intro q q2)
      go_enter Tryd.func27, Tryd.ntmps27
      go_wp2_with fail
      go_ret
      exact ⟨by first | rfl | (have := Q.out; simp; omega) | (have := Q.out; simp; intros; omega) | (have := Q.out; simp_all), rfl⟩
  · have q' : k < 20 := by omega
    have Q := Lib.hid q
    go_enter Tryd.func27, Tryd.ntmps27
    go_wp2_with fail
    go_ret
    exact ⟨by first | rfl | (have := Q.out; simp; omega) | (have := Q.out; simp; intros; omega) | (have := Q.out; simp_all), rfl⟩
set_option maxHeartbeats 2000000 in
theorem rstat_any (w : World) (k : Int) : Calls Tryd.prog 43 #[.int .i64 k] w fun e w' => e = .returned (.bool (stmtB k)) ∧ w = w' := by
  unfold stmtB
  by_cases q : 8 ≤ k
  · by_cases q2 : k ≤ 19
    · cases q3 : (k == 12)
      · have q3' : (k != 12) = true := by rw [bne, q3]; rfl
        cases q4 : (k == 15)
        · have q4' : (k != 15) = true := by rw [bne, q4]; rfl
          have Q := Lib.hid (And.intro q q2)
          go_enter Tryd.func43, Tryd.ntmps43
          go_wp2_with fail
          go_ret
          exact ⟨by first | rfl | (rw [decide_eq_true Q.out.1, decide_eq_true Q.out.2]; rfl) | (have := Q.out; simp; intros; omega) | (have := Q.out; simp_all), rfl⟩
        · have q4' : (k != 15) = false := by rw [bne, q4]; rfl
          have Q := Lib.hid (And.intro q q2)
          go_enter Tryd.func43, Tryd.ntmps43
          go_wp2_with fail
          go_ret
          exact ⟨by first | rfl | (rw [decide_eq_true Q.out.1, decide_eq_true Q.out.2]; rfl) | (have := Q.out; simp; intros; omega) | (have := Q.out; simp_all), rfl⟩
      · have q3' : (k != 12) = false := by rw [bne, q3]; rfl
        have Q := Lib.hid (And.intro q q2)
        go_enter Tryd.func43, Tryd.ntmps43
        go_wp2_with fail
        go_ret
        exact ⟨by first | rfl | (rw [decide_eq_true Q.out.1, decide_eq_true Q.out.2]; rfl) | (have := Q.out; simp; intros; omega) | (have := Q.out; simp_all), rfl⟩
    · have q2' : 19 < k := by omega
      have Q := Lib.hid (And.intro q q2)
      go_enter Tryd.func43, Tryd.ntmps43
      go_wp2_with fail
      go_ret
      exact ⟨by first | rfl | (rw [decide_eq_true Q.out.1, decide_eq_false Q.out.2]; rfl) | (have := Q.out; simp; intros; omega) | (have := Q.out; simp_all), rfl⟩
  · have q' : k < 8 := by omega
    have Q := Lib.hid q
    go_enter Tryd.func43, Tryd.ntmps43
    go_wp2_with fail
    go_ret
    exact ⟨by first | rfl | (rw [decide_eq_false Q.out]; rfl) | (have := Q.out; simp; intros; omega) | (have := Q.out; simp_all), rfl⟩

set_option maxHeartbeats 2000000 in
theorem rkid_any (w : World) (v : Value) (ns : List Nd) (x : NdV × Nd) (i : Nat) (hN : NodesAt w v ns) (h : NdAt w x) (hk : KidsIn x.2.kids ns.length) (hi : i < x.2.kids.length) :
    Calls Tryd.prog 28 #[v, ndV x, .int .i64 i] w fun e w' => e = .returned (.int .i64 (kdR ns x.2 i)) ∧ Below w.heap.size w w' := by
  obtain ⟨⟨A1, c1, e1, _⟩, ⟨A2, c2, e2, _⟩, A3, c3, e3, k2, k3, k4⟩ := h
  obtain ⟨A, c, rs, rfl, g2, g3, g4, g5, g6⟩ := hN
  obtain ⟨⟨v1, v2, v3⟩, kd, ws, nums, ks, ps⟩ := x
  dsimp only at e1 e2 e3 k2 k4 hi hk
  subst e1 e2 e3
  obtain ⟨z, hz⟩ : ∃ z, ks[i]? = some z := ⟨_, List.getElem?_eq_getElem hi⟩
  have hin := hk z (List.mem_of_getElem? hz)
  obtain ⟨q, rfl⟩ : ∃ q : Nat, z = q := ⟨z.toNat, by omega⟩
  have hb := below_alloc1 w (.cells #[.int .i64 kd, .slice A1 ws.length c1, .slice A2 nums.length c2, .slice A3 ks.length c3, .int .i64 ps] 30)
  obtain ⟨y, hy⟩ : ∃ y, rs[q]? = some y := ⟨_, List.getElem?_eq_getElem (by have := congrArg List.length g4; rw [List.length_map] at this; omega)⟩
  have hd : ns[q]? = some y.2 := by rw [← g4, List.getElem?_map, hy]; rfl
  obtain ⟨n, hn⟩ : ∃ n, n = ns.length := ⟨_, rfl⟩
  rw [← hn] at g5 hin
  obtain ⟨ad, rfl, d0, _⟩ := nodes_cells g5 hb hy (by omega)
  obtain ⟨ak, rfl, dk⟩ := ints_at k4 hb hz (by omega)
  have FIN := Lib.hid (show y.2.kind = kdR ns ⟨kd, ws, nums, ks, ps⟩ i from by
    unfold kdR
    dsimp only
    rw [atI_of hz, kindAt_of hd])
  rw [← FIN.out]
  have HB := Lib.hid hb
  unfold ndV
  dsimp only
  rw [← hn]
  have i1 : (i : Int) < (ks.length : Int) := by omega
  have i2 : (0 : Int) ≤ (i : Int) := by omega
  have i3 : (q : Int) < (n : Int) := by omega
  have i4 : (0 : Int) ≤ (q : Int) := by omega
  clear g2 g3 g4 g5 g6 k2 k3 k4 hy hz hd hin hk hi hn hb FIN
  go_enter Tryd.func28, Tryd.ntmps28
  go_wp2_with fail
  go_ret
  exact ⟨rfl, HB.out⟩

set_option maxHeartbeats 2000000 in
theorem rnone_any (w : World) (x : NdV × Nd) (h : NdAt w x) :
    Calls Tryd.prog 26 #[ndV x] w fun e w' => e = .returned (.bool (noneR x.2)) ∧ Below w.heap.size w w' := by
  obtain ⟨⟨A1, c1, e1, _⟩, ⟨A2, c2, e2, _⟩, A3, c3, e3, _⟩ := h
  obtain ⟨⟨v1, v2, v3⟩, kd, ws, nums, ks, ps⟩ := x
  dsimp only at e1 e2 e3
  subst e1 e2 e3
  have HB := Lib.hid (below_alloc1 w (.cells #[.int .i64 kd, .slice A1 ws.length c1, .slice A2 nums.length c2, .slice A3 ks.length c3, .int .i64 ps] 30))
  unfold ndV noneR
  dsimp only
  by_cases q : nums.length = 0
  · have t : ((nums.length : Int) == 0) = true := by rw [q]; rfl
    have Q := Lib.hid (decide_eq_true q)
    clear q
    go_enter Tryd.func26, Tryd.ntmps26
    go_wp2_with fail
    go_ret
    exact ⟨by first | (rw [Q.out]; rfl) | (have := Q.out; simp_all), HB.out⟩
  · have t : ((nums.length : Int) == 0) = false := by simpa using fun e => q (by simpa using e)
    have Q := Lib.hid (decide_eq_false q)
    clear q
    go_enter Tryd.func26, Tryd.ntmps26
    go_wp2_with fail
    go_ret
    exact ⟨by first | (rw [Q.out]; rfl) | (have := Q.out; simp_all), HB.out⟩

set_option maxHeartbeats 4000000 in
theorem rfrac_any (w : World) (x : NdV × Nd) (h : NdAt w x) (h3 : x.2.nums.length = 3) :
    Calls Tryd.prog 45 #[ndV x] w fun e w' => e = .returned (.bool (fracR x.2)) ∧ Below w.heap.size w w' := by
  obtain ⟨⟨A, c, e1, _⟩, ⟨A2, c2, e2, g1, g2, g3⟩, A3, c3, e3, _⟩ := h
  obtain ⟨⟨v1, v2, v3⟩, kd, ws, ns, ks, ps⟩ := x
  dsimp only at e1 e2 e3 h3 g1 g2 g3
  subst e1 e2 e3
  obtain ⟨y1, hy1⟩ : ∃ y, ns[1]? = some y := ⟨_, List.getElem?_eq_getElem (by omega)⟩
  obtain ⟨y2, hy2⟩ : ∃ y, ns[2]? = some y := ⟨_, List.getElem?_eq_getElem (by omega)⟩
  unfold fracR
  rw [num_of (n := (⟨kd, ws, ns, ks, ps⟩ : Nd)) hy1, num_of (n := (⟨kd, ws, ns, ks, ps⟩ : Nd)) hy2]
  have hb := below_alloc1 w (.cells #[.int .i64 kd, .slice A ws.length c, .slice A2 ns.length c2, .slice A3 ks.length c3, .int .i64 ps] 30)
  obtain ⟨ad, rfl, a1⟩ := ints_at (k := 1) g3 hb hy1 (by omega)
  obtain ⟨ad', ea, a2⟩ := ints_at (k := 2) g3 hb hy2 (by omega)
  injection ea with ea
  subst ea
  rw [show ad.add 1 = ⟨ad.block, ad.off + 1, none⟩ by unfold Addr.add; simp] at a1
  rw [show ad.add 2 = ⟨ad.block, ad.off + 2, none⟩ by unfold Addr.add; simp] at a2
  have HB := Lib.hid hb
  unfold ndV
  dsimp only
  rw [h3] at *
  clear g1 g2 g3 hy1 hy2 hb
  by_cases q1 : 1 ≤ y1
  · by_cases q2 : y1 < 1000000000000000000
    · by_cases q3 : 1 ≤ y2
      · by_cases q4 : y2 < 1000000000000000000
        · rw [decide_eq_true q1, decide_eq_true q2, decide_eq_true q3, decide_eq_true q4]
          go_enter Tryd.func45, Tryd.ntmps45
          go_wp2_with fail
          go_ret
          exact ⟨rfl, HB.out⟩
        · have q4' : 1000000000000000000 ≤ y2 := by omega
          rw [decide_eq_true q1, decide_eq_true q2, decide_eq_true q3, decide_eq_false q4]
          go_enter Tryd.func45, Tryd.ntmps45
          go_wp2_with fail
          go_ret
          exact ⟨rfl, HB.out⟩
      · have q3' : y2 < 1 := by omega
        rw [decide_eq_true q1, decide_eq_true q2, decide_eq_false q3]
        go_enter Tryd.func45, Tryd.ntmps45
        go_wp2_with fail
        go_ret
        exact ⟨rfl, HB.out⟩
    · have q2' : 1000000000000000000 ≤ y1 := by omega
      rw [decide_eq_true q1, decide_eq_false q2]
      go_enter Tryd.func45, Tryd.ntmps45
      go_wp2_with fail
      go_ret
      exact ⟨rfl, HB.out⟩
  · have q1' : y1 < 1 := by omega
    rw [decide_eq_false q1]
    go_enter Tryd.func45, Tryd.ntmps45
    go_wp2_with fail
    go_ret
    exact ⟨rfl, HB.out⟩
end Go.Proofs.YtabnjiijgbigbaaDoor

namespace Go.Proofs.YtabnjiijgbigbaaDoor
open Go.RowKit

set_option maxHeartbeats 4000000 in
theorem rwords_any (w : World) (x : NdV × Nd) (a b : Int) (h : NdAt w x) :
    Calls Tryd.prog 25 #[ndV x, .int .i64 a, .int .i64 b] w fun e w' => e = .returned (.bool (wordsR x.2 a b)) ∧ Below w.heap.size w w' := by
  obtain ⟨⟨A1, c1, e1, g1, g2, g3, g4⟩, ⟨A2, c2, e2, _⟩, A3, c3, e3, _⟩ := h
  obtain ⟨⟨v1, v2, v3⟩, kd, ws, nums, ks, ps⟩ := x
  dsimp only at e1 e2 e3 g1 g3 g4
  subst e1 e2 e3
  have hB := Blk.start w #[.int .i64 kd, .slice A1 ws.length c1, .slice A2 nums.length c2, .slice A3 ks.length c3, .int .i64 ps] 30
  have hb := below_alloc1 w (.cells #[.int .i64 kd, .slice A1 ws.length c1, .slice A2 nums.length c2, .slice A3 ks.length c3, .int .i64 ps] 30)
  unfold ndV wordsR
  dsimp only
  obtain ⟨n, hn⟩ : ∃ n, n = ws.length := ⟨_, rfl⟩
  have hmx : n ≤ 9223372036854775807 := by unfold maxLen at g2; omega
  rw [← hn] at g3 hB hb ⊢
  have HN := Lib.hid (And.intro hn (And.intro hmx g4))
  have H4 := Lib.hid g3
  have HH := Lib.hid (And.intro hB hb)
  clear hn hmx g1 g2 g3 g4 hB hb
  go_enter Tryd.func25, Tryd.ntmps25
  go_wp2_with fail
  generalize w.alloc (.cells #[.int .i64 kd, .slice A1 n c1, .slice A2 nums.length c2, .slice A3 ks.length c3, .int .i64 ps] 30) = w1 at *
  go_loopg [7] n (fun g v7 wr => ∃ k : Nat, v7 = .int .i64 k ∧ k ≤ n ∧ g = n - k ∧ namesB (ws.take k) = true ∧ Blk wr w.heap.size #[.int .i64 kd, .slice A1 n c1, .slice A2 nums.length c2, .slice A3 ks.length c3, .int .i64 ps] ∧ Below w.heap.size w wr)
  case atStart => exact ⟨0, rfl, Nat.zero_le _, rfl, rfl, HH.out.1, HH.out.2⟩
  case round =>
    clear HH
    obtain ⟨k, rfl, hk, hg, hall, hB, hb⟩ := hrel
    have c1' := hB.cell 1
    simp only [List.getElem?_toArray, List.getElem?_cons_zero, List.getElem?_cons_succ] at c1'
    by_cases hkn : k = n
    · have e : ws.take k = ws := by rw [hkn, HN.out.1]; exact List.take_length
      rw [e] at hall
      have FIN := Lib.hid (And.intro hall hb)
      subst hkn
      clear hk hg hall e hB hb
      by_cases qa : a ≤ (k : Int)
      · by_cases qb : (k : Int) ≤ b
        · have Q := Lib.hid (And.intro (decide_eq_true qa) (decide_eq_true qb))
          go_wp2_with fail
          go_ret
          exact ⟨by first | (rw [FIN.out.1, Q.out.1, Q.out.2]; rfl) | (rw [FIN.out.1, Q.out.2]; rfl) | (rw [FIN.out.1, Q.out.1]; rfl) | (rw [FIN.out.1]; rfl), FIN.out.2⟩
        · have qb' : b < (k : Int) := by omega
          have Q := Lib.hid (And.intro (decide_eq_true qa) (decide_eq_false qb))
          go_wp2_with fail
          go_ret
          exact ⟨by first | (rw [FIN.out.1, Q.out.1, Q.out.2]; rfl) | (rw [FIN.out.1, Q.out.2]; rfl) | (rw [FIN.out.1, Q.out.1]; rfl) | (rw [FIN.out.1]; rfl), FIN.out.2⟩
      · have qa' : (k : Int) < a := by omega
        have Q := Lib.hid (decide_eq_false qa)
        go_wp2_with fail
        go_ret
        exact ⟨by first | (rw [FIN.out.1, Q.out]; rfl) | (rw [FIN.out.1]; rfl), FIN.out.2⟩
    · have hlt : k < n := by omega
      obtain ⟨x, hx⟩ : ∃ x, ws[k]? = some x := ⟨_, List.getElem?_eq_getElem (by have := HN.out.1; omega)⟩
      obtain ⟨ad, rfl, d0⟩ := strs_at H4.out hb hx (by omega)
      have nxt : namesB (ws.take (k + 1)) = isName x := all_snoc hx hall
      have bad : isName x = false → namesB ws = false := all_not hx
      have na := rname_any ⟨x.toArray⟩ wr (by show x.toArray.size ≤ maxLen; simpa using HN.out.2.2 x (List.mem_of_getElem? hx))
      have na : Calls Tryd.prog 42 #[txt x] wr (fun e w' => e = .returned (.bool (isName x)) ∧ Below wr.heap.size wr w') := by simpa using na
      have i1 : (k : Int) < (n : Int) := by omega
      have i2 : (0 : Int) ≤ (k : Int) := by omega
      have wk : IntKind.i64.wrap ((k : Int) + 1) = (k : Int) + 1 := IntWalk.i64_in _ (by have := HN.out.2.1; omega)
      have HK := Lib.hid (And.intro hlt (And.intro hg (And.intro hB hb)))
      have NX := Lib.hid (And.intro nxt bad)
      have NA := Lib.hid na
      clear nxt bad hx hkn hlt hk hg hall na hB hb
      generalize isName x = B at *
      cases B
      · have FIN := Lib.hid (NX.out.2 rfl)
        go_wp2_with (go_at_call 42; (with_reducible refine NA.out.mono ?_); rintro e1 w1 ⟨rfl, hb1⟩; have B1 := Lib.hid (HK.out.2.2.2.trans (hb1.mono HK.out.2.2.2.size)); clear hb1)
        go_ret
        exact ⟨by rw [FIN.out]; rfl, B1.out⟩
      · go_wp2_with (go_at_call 42; (with_reducible refine NA.out.mono ?_); rintro e1 w1 ⟨rfl, hb1⟩; have B1 := Lib.hid (And.intro (HK.out.2.2.1.keep hb1) (HK.out.2.2.2.trans (hb1.mono HK.out.2.2.2.size))); clear hb1)
        go_roundg (n - (k + 1))
        case measure => have := HK.out; omega
        case rel => exact ⟨k + 1, by push_cast; rfl, by have := HK.out; omega, rfl, NX.out.1, B1.out.1, B1.out.2⟩

/-- From a kid on they are blocks, so many. -/
def blocksR (ns : List Nd) (n : Nd) (f : Nat) (a b : Int) : Bool := allB ns (n.kids.drop f) (isB [7]) && decide (a ≤ (n.kids.length : Int) - f) && decide ((n.kids.length : Int) - f ≤ b)
theorem drop_snoc {l : List Int} {f i : Nat} {x : Int} {t : Int → Bool} (ns : List Nd) (hf : f ≤ i) (hx : l[i]? = some x) (h : allB ns ((l.take i).drop f) t = true) : allB ns ((l.take (i + 1)).drop f) t = t (kindAt ns x) := by
  have hl := (List.getElem?_eq_some_iff.mp hx).1
  rw [List.take_add_one, hx, List.drop_append, show f - (List.take i l).length = 0 by rw [List.length_take]; omega]
  unfold allB at h ⊢
  rw [List.all_append, h, Bool.true_and]
  simp
theorem drop_bad {l : List Int} {f i : Nat} {x : Int} {t : Int → Bool} (ns : List Nd) (hf : f ≤ i) (hx : l[i]? = some x) (h : t (kindAt ns x) = false) : allB ns (l.drop f) t = false := by
  unfold allB
  rw [List.all_eq_false]
  refine ⟨x, List.mem_iff_getElem?.mpr ⟨i - f, ?_⟩, by rw [h]; decide⟩
  rw [List.getElem?_drop, show f + (i - f) = i by omega]
  exact hx
set_option maxHeartbeats 4000000 in
theorem rblocks_any (w : World) (v : Value) (ns : List Nd) (x : NdV × Nd) (f : Nat) (a b : Int) (hN : NodesAt w v ns) (h : NdAt w x) (hk : KidsIn x.2.kids ns.length) (hf : f ≤ x.2.kids.length) (hf1 : f ≤ 1) :
    Calls Tryd.prog 44 #[v, ndV x, .int .i64 f, .int .i64 a, .int .i64 b] w fun e w' => e = .returned (.bool (blocksR ns x.2 f a b)) ∧ Below w.heap.size w w' := by
  have KD := Lib.hid (fun (wr : World) (hb : Below w.heap.size w wr) (i : Nat) (hi : i < x.2.kids.length) => rkid_any wr v ns x i (hN.below hb) (h.below hb) hk hi)
  obtain ⟨⟨A1, c1, e1, _⟩, ⟨A2, c2, e2, _⟩, A3, c3, e3, g1, g2, g3⟩ := h
  obtain ⟨⟨v1, v2, v3⟩, kd, ws, nums, ks, ps⟩ := x
  dsimp only at e1 e2 e3 g1 g3 hf hk KD
  subst e1 e2 e3
  have hB := Blk.start w #[.int .i64 kd, .slice A1 ws.length c1, .slice A2 nums.length c2, .slice A3 ks.length c3, .int .i64 ps] 30
  have hb := below_alloc1 w (.cells #[.int .i64 kd, .slice A1 ws.length c1, .slice A2 nums.length c2, .slice A3 ks.length c3, .int .i64 ps] 30)
  unfold ndV at KD ⊢
  unfold blocksR
  dsimp only at KD ⊢
  have hmx : ks.length ≤ 9223372036854775807 := by unfold maxLen at g2; omega
  have HN := Lib.hid (And.intro hf (And.intro hmx hf1))
  have HH := Lib.hid (And.intro hB hb)
  have u0 : IntKind.i64.wrap ((ks.length : Int) - (f : Int)) = (ks.length : Int) - (f : Int) := IntWalk.i64_in _ (by omega)
  clear hmx g1 g2 g3 hB hb hf hf1 hk hN
  go_enter Tryd.func44, Tryd.ntmps44
  go_wp2_with fail
  generalize w.alloc (.cells #[.int .i64 kd, .slice A1 ws.length c1, .slice A2 nums.length c2, .slice A3 ks.length c3, .int .i64 ps] 30) = w1 at *
  go_loopg [12] (ks.length - f) (fun g v12 wr => ∃ k : Nat, v12 = .int .i64 k ∧ f ≤ k ∧ k ≤ ks.length ∧ g = ks.length - k ∧ allB ns ((ks.take k).drop f) (isB [7]) = true ∧ Blk wr w.heap.size #[.int .i64 kd, .slice A1 ws.length c1, .slice A2 nums.length c2, .slice A3 ks.length c3, .int .i64 ps] ∧ Below w.heap.size w wr)
  case atStart => exact ⟨f, rfl, Nat.le_refl _, HN.out.1, rfl, by rw [List.drop_of_length_le (by rw [List.length_take]; omega)]; rfl, HH.out.1, HH.out.2⟩
  case round =>
    clear HH
    obtain ⟨k, rfl, hfk, hk, hg, hall, hB, hb⟩ := hrel
    have g0 := hB.cell 0
    have g1 := hB.cell 1
    have g2 := hB.cell 2
    have g3 := hB.cell 3
    have g4 := hB.cell 4
    simp only [List.getElem?_toArray, List.getElem?_cons_zero, List.getElem?_cons_succ] at g0 g1 g2 g3 g4
    by_cases hkn : k = ks.length
    · have e : ks.take k = ks := by rw [hkn]; exact List.take_length
      rw [e] at hall
      have FIN := Lib.hid (And.intro hall hb)
      subst hkn
      clear hk hg hall e hB hb hfk
      by_cases qa : a ≤ (ks.length : Int) - (f : Int)
      · by_cases qb : (ks.length : Int) - (f : Int) ≤ b
        · have Q := Lib.hid (And.intro (decide_eq_true qa) (decide_eq_true qb))
          go_wp2_with fail
          go_ret
          exact ⟨by first | (rw [FIN.out.1, Q.out.1, Q.out.2]; rfl) | (rw [FIN.out.1, Q.out.2]; rfl) | (rw [FIN.out.1, Q.out.1]; rfl) | (rw [FIN.out.1]; rfl), FIN.out.2⟩
        · have qb' : b < (ks.length : Int) - (f : Int) := by omega
          have Q := Lib.hid (And.intro (decide_eq_true qa) (decide_eq_false qb))
          go_wp2_with fail
          go_ret
          exact ⟨by first | (rw [FIN.out.1, Q.out.1, Q.out.2]; rfl) | (rw [FIN.out.1, Q.out.2]; rfl) | (rw [FIN.out.1, Q.out.1]; rfl) | (rw [FIN.out.1]; rfl), FIN.out.2⟩
      · have qa' : (ks.length : Int) - (f : Int) < a := by omega
        have Q := Lib.hid (decide_eq_false qa)
        go_wp2_with fail
        go_ret
        exact ⟨by first | (rw [FIN.out.1, Q.out]; rfl) | (rw [FIN.out.1]; rfl), FIN.out.2⟩
    · have hlt : k < ks.length := by omega
      obtain ⟨y, hy⟩ : ∃ y, ks[k]? = some y := ⟨_, List.getElem?_eq_getElem hlt⟩
      have nxt := drop_snoc (t := isB [7]) ns hfk hy hall
      have bad := drop_bad (t := isB [7]) ns hfk hy
      have kk : kdR ns ⟨kd, ws, nums, ks, ps⟩ k = kindAt ns y := by unfold kdR; dsimp only; rw [atI_of hy]
      have K1 := Lib.hid (KD.out wr hb k hlt)
      rw [kk] at K1
      have i1 : (k : Int) < (ks.length : Int) := by omega
      have i2 : (0 : Int) ≤ (k : Int) := by omega
      have wk : IntKind.i64.wrap ((k : Int) + 1) = (k : Int) + 1 := IntWalk.i64_in _ (by have := HN.out.2.1; omega)
      have HK := Lib.hid (And.intro hlt (And.intro hg (And.intro hB (And.intro hb hfk))))
      have NX := Lib.hid (And.intro nxt bad)
      clear nxt bad hy hkn hlt hk hg hall hB hb hfk kk
      generalize kindAt ns y = Z at *
      cases q : (Z == 7)
      · have q' : (Z != 7) = true := by rw [bne, q]; rfl
        have FIN := Lib.hid (NX.out.2 (by unfold isB; rw [List.contains_cons, q]; rfl))
        go_wp2_with (go_at_call 28; (with_reducible refine K1.out.mono ?_); rintro e1 w1 ⟨rfl, hb1⟩; have B1 := Lib.hid (HK.out.2.2.2.1.trans (hb1.mono HK.out.2.2.2.1.size)); clear hb1)
        go_ret
        exact ⟨by rw [FIN.out]; rfl, B1.out⟩
      · have q' : (Z != 7) = false := by rw [bne, q]; rfl
        have NY := Lib.hid (NX.out.1.trans (by unfold isB; rw [List.contains_cons, q]; rfl : _ = true))
        go_wp2_with (go_at_call 28; (with_reducible refine K1.out.mono ?_); rintro e1 w1 ⟨rfl, hb1⟩; have B1 := Lib.hid (And.intro (HK.out.2.2.1.keep hb1) (HK.out.2.2.2.1.trans (hb1.mono HK.out.2.2.2.1.size))); clear hb1)
        go_roundg (ks.length - (k + 1))
        case measure => have := HK.out; omega
        case rel => exact ⟨k + 1, by push_cast; rfl, by have := HK.out; omega, by have := HK.out; omega, rfl, NY.out, B1.out.1, B1.out.2⟩
end Go.Proofs.YtabnjiijgbigbaaDoor

namespace Go.Proofs.YtabnjiijgbigbaaDoor
open Go.RowKit

/-- A Bool is answered, true only if. -/
def OkB (P : Prop) (e : Ending) : Prop := ∃ b : Bool, e = .returned (.bool b) ∧ (b = true → P)
theorem ok_no {P : Prop} : OkB P (.returned (.bool false)) := ⟨false, rfl, fun h => Bool.noConfusion h⟩
theorem ok_yes {P : Prop} {b : Bool} (h : P) : OkB P (.returned (.bool b)) := ⟨b, rfl, fun _ => h⟩
theorem val_of {ns : List Nd} {n : Nd} (h1 : namesB n.words = true) (h2 : numbersB n.nums = true) (h3 : listedB ns n = true) : validB ns n = true := by
  unfold validB
  rw [h1, h2, h3]
  rfl
theorem wr_says {kd ps : Int} {ws : List (List UInt8)} {nums ks : List Int} {a b : Int} (h : wordsR ⟨kd, ws, nums, ks, ps⟩ a b = true) : namesB ws = true ∧ a ≤ (ws.length : Int) ∧ (ws.length : Int) ≤ b := by
  unfold wordsR at h
  rw [Bool.and_eq_true, Bool.and_eq_true, decide_eq_true_eq, decide_eq_true_eq] at h
  exact ⟨h.1.1, h.1.2, h.2⟩
theorem none_says {kd ps : Int} {ws : List (List UInt8)} {nums ks : List Int} (h : noneR ⟨kd, ws, nums, ks, ps⟩ = true) : nums = [] := List.length_eq_zero_iff.mp (of_decide_eq_true h)
theorem has_of {n : Nd} {a b : Nat} (h1 : n.words.length = a) (h2 : n.nums.length = b) : hasB n a b = true := by
  unfold hasB
  rw [decide_eq_true h1, decide_eq_true h2]
  rfl
theorem kd_zero {ns : List Nd} {kd ps k : Int} {ws : List (List UInt8)} {nums ks : List Int} : kdR ns ⟨kd, ws, nums, k :: ks, ps⟩ 0 = kindAt ns k := rfl
theorem kd_one {ns : List Nd} {kd ps k k2 : Int} {ws : List (List UInt8)} {nums ks : List Int} : kdR ns ⟨kd, ws, nums, k :: k2 :: ks, ps⟩ 1 = kindAt ns k2 := rfl
theorem blocks_says {ns : List Nd} {kd ps : Int} {ws : List (List UInt8)} {nums ks : List Int} {f : Nat} {a b : Int} (h : blocksR ns ⟨kd, ws, nums, ks, ps⟩ f a b = true) : allB ns (ks.drop f) (isB [7]) = true ∧ a ≤ (ks.length : Int) - f ∧ (ks.length : Int) - f ≤ b := by
  unfold blocksR at h
  rw [Bool.and_eq_true, Bool.and_eq_true, decide_eq_true_eq, decide_eq_true_eq] at h
  exact ⟨h.1.1, h.1.2, h.2⟩
section
variable {ns : List Nd} {ws : List (List UInt8)} {nums ks : List Int} {ps : Int}
theorem are_nil : arePB ns [] [] = true := rfl
theorem are_one {k : Int} {f : Int → Bool} (h : f (kindAt ns k) = true) : arePB ns [k] [f] = true := by simp [arePB, h]
theorem are_two {k l : Int} {f g : Int → Bool} (h : f (kindAt ns k) = true) (h2 : g (kindAt ns l) = true) : arePB ns [k, l] [f, g] = true := by simp [arePB, h, h2]
theorem are_three {k l m : Int} {f g e : Int → Bool} (h : f (kindAt ns k) = true) (h2 : g (kindAt ns l) = true) (h3 : e (kindAt ns m) = true) : arePB ns [k, l, m] [f, g, e] = true := by simp [arePB, h, h2, h3]
theorem all_cons {k : Int} {r : List Int} {f : Int → Bool} (h : allB ns (k :: r) f = true) : f (kindAt ns k) = true ∧ allB ns r f = true := by
  unfold allB at h ⊢
  rwa [List.all_cons, Bool.and_eq_true] at h
theorem len_two {l : List Int} (h : l.length = 2) : ∃ a b, l = [a, b] := by
  match l, h with
  | [a, b], _ => exact ⟨a, b, rfl⟩
theorem len_three {l : List Int} (h : l.length = 3) : ∃ a b c, l = [a, b, c] := by
  match l, h with
  | [a, b, c], _ => exact ⟨a, b, c, rfl⟩
/-! ### Kind by kind -/
theorem val_program (h : allB ns ks (isB [1, 4]) = true) (hw : wordsR ⟨0, ws, nums, ks, ps⟩ 0 0 = true) (hn : noneR ⟨0, ws, nums, ks, ps⟩ = true) : validB ns ⟨0, ws, nums, ks, ps⟩ = true := by
  obtain ⟨a, b, c⟩ := wr_says hw
  obtain rfl : nums = [] := none_says hn
  refine val_of a rfl ?_
  show (hasB _ 0 0 && allB ns ks (isB [1, 4])) = true
  rw [h, has_of (a := 0) (b := 0) (by show ws.length = 0; omega) rfl]
  rfl
theorem val_proto (h : allB ns ks (isB [2, 3]) = true) (hw : wordsR ⟨1, ws, nums, ks, ps⟩ 1 1 = true) (hn : noneR ⟨1, ws, nums, ks, ps⟩ = true) : validB ns ⟨1, ws, nums, ks, ps⟩ = true := by
  obtain ⟨a, b, c⟩ := wr_says hw
  obtain rfl : nums = [] := none_says hn
  refine val_of a rfl ?_
  show (hasB _ 1 0 && allB ns ks (isB [2, 3])) = true
  rw [h, has_of (a := 1) (b := 0) (by show ws.length = 1; omega) rfl]
  rfl
theorem one_num {y : Int} (h0 : 0 ≤ y) (h1 : y < 1000000000000000000) : numbersB [y] = true := by
  simp [numbersB, h0, h1]
theorem val_state {y : Int} (hw : wordsR ⟨2, ws, nums, ks, ps⟩ 1 1 = true) (hy : nums = [y]) (h : y = 0 ∨ y = 1) (hk : ks.length = 0) : validB ns ⟨2, ws, nums, ks, ps⟩ = true := by
  obtain ⟨a, b, c⟩ := wr_says hw
  obtain rfl := List.length_eq_zero_iff.mp hk
  subst hy
  refine val_of a (one_num (by omega) (by omega)) ?_
  show (hasB _ 1 1 && decide (y ≤ 1) && arePB ns [] []) = true
  rw [has_of (a := 1) (b := 1) (by show ws.length = 1; omega) rfl, decide_eq_true (by omega)]
  rfl
theorem val_op (hw : wordsR ⟨3, ws, nums, ks, ps⟩ 4 1500 = true) (h2 : ws.length % 2 = 0) (hn : noneR ⟨3, ws, nums, ks, ps⟩ = true) (hk : ks.length = 0) : validB ns ⟨3, ws, nums, ks, ps⟩ = true := by
  obtain ⟨a, b, c⟩ := wr_says hw
  obtain rfl := List.length_eq_zero_iff.mp hk
  obtain rfl : nums = [] := none_says hn
  refine val_of a rfl ?_
  show (decide (4 ≤ ws.length) && decide (ws.length % 2 = 0) && hasB _ ws.length 0 && arePB ns [] []) = true
  rw [has_of (a := ws.length) (b := 0) rfl rfl, decide_eq_true h2, decide_eq_true (by omega)]
  rfl
theorem val_fn {k : Int} {r : List Int} (hr : ks = r ++ [k]) (h : allB ns r (isB [5]) = true) (hw : wordsR ⟨4, ws, nums, ks, ps⟩ 1 1 = true) (hn : noneR ⟨4, ws, nums, ks, ps⟩ = true) (hl : kindAt ns k = 7) : validB ns ⟨4, ws, nums, ks, ps⟩ = true := by
  obtain ⟨a, b, c⟩ := wr_says hw
  obtain rfl : nums = [] := none_says hn
  refine val_of a rfl ?_
  show (hasB _ 1 0 && allB ns (ks.take (ks.length - 1)) (isB [5]) && arePB ns (ks.drop (ks.length - 1)) [isB [7]]) = true
  have e : ks.length - 1 = r.length := by rw [hr]; simp
  rw [e, hr, List.take_left', List.drop_left', h, are_one (by rw [hl]; rfl), has_of (a := 1) (b := 0) (by show ws.length = 1; omega) rfl] <;> rfl
theorem val_names {y : Int} (hw : wordsR ⟨6, ws, nums, ks, ps⟩ 1 1500 = true) (hy : nums = [y]) (h0 : 0 ≤ y) (h2 : y ≤ 2) (hk : ks.length = 0) : validB ns ⟨6, ws, nums, ks, ps⟩ = true := by
  obtain ⟨a, b, c⟩ := wr_says hw
  obtain rfl := List.length_eq_zero_iff.mp hk
  subst hy
  refine val_of a (one_num h0 (by omega)) ?_
  show (decide (1 ≤ ws.length) && hasB _ ws.length 1 && decide (y ≤ 2) && arePB ns [] []) = true
  rw [has_of (a := ws.length) (b := 1) rfl rfl, decide_eq_true h2, decide_eq_true (by omega)]
  rfl
theorem val_block (h : allB ns ks stmtB = true) (hn : noneR ⟨7, ws, nums, ks, ps⟩ = true) (hw : wordsR ⟨7, ws, nums, ks, ps⟩ 0 0 = true) : validB ns ⟨7, ws, nums, ks, ps⟩ = true := by
  obtain ⟨a, b, c⟩ := wr_says hw
  obtain rfl : nums = [] := none_says hn
  refine val_of a rfl ?_
  show (hasB _ 0 0 && allB ns ks stmtB) = true
  rw [h, has_of (a := 0) (b := 0) (by show ws.length = 0; omega) rfl]
  rfl
theorem val_do (h : allB ns ks (isB [12]) = true) (hn : noneR ⟨11, ws, nums, ks, ps⟩ = true) (hw : wordsR ⟨11, ws, nums, ks, ps⟩ 2 2 = true) : validB ns ⟨11, ws, nums, ks, ps⟩ = true := by
  obtain ⟨a, b, c⟩ := wr_says hw
  obtain rfl : nums = [] := none_says hn
  refine val_of a rfl ?_
  show (hasB _ 2 0 && allB ns ks (isB [12])) = true
  rw [h, has_of (a := 2) (b := 0) (by show ws.length = 2; omega) rfl]
  rfl
theorem val_let (hw : wordsR ⟨8, ws, nums, ks, ps⟩ 1 1 = true) (hn : noneR ⟨8, ws, nums, ks, ps⟩ = true) (hk : ks.length = 1) (he : exprB (kdR ns ⟨8, ws, nums, ks, ps⟩ 0) = true) : validB ns ⟨8, ws, nums, ks, ps⟩ = true := by
  obtain ⟨a, b, c⟩ := wr_says hw
  obtain rfl : nums = [] := none_says hn
  obtain ⟨k, rfl⟩ := List.length_eq_one_iff.mp hk
  refine val_of a rfl ?_
  show (hasB _ 1 0 && arePB ns [k] [exprB]) = true
  rw [has_of (a := 1) (b := 0) (by show ws.length = 1; omega) rfl, are_one (k := k) he]
  rfl
theorem val_set (hw : wordsR ⟨9, ws, nums, ks, ps⟩ 1 1 = true) (hn : noneR ⟨9, ws, nums, ks, ps⟩ = true) (hk : ks.length = 1) (he : exprB (kdR ns ⟨9, ws, nums, ks, ps⟩ 0) = true) : validB ns ⟨9, ws, nums, ks, ps⟩ = true := by
  obtain ⟨a, b, c⟩ := wr_says hw
  obtain rfl : nums = [] := none_says hn
  obtain ⟨k, rfl⟩ := List.length_eq_one_iff.mp hk
  refine val_of a rfl ?_
  show (hasB _ 1 0 && arePB ns [k] [exprB]) = true
  rw [has_of (a := 1) (b := 0) (by show ws.length = 1; omega) rfl, are_one (k := k) he]
  rfl
theorem val_open (hw : wordsR ⟨10, ws, nums, ks, ps⟩ 2 2 = true) (hn : noneR ⟨10, ws, nums, ks, ps⟩ = true) (hb : blocksR ns ⟨10, ws, nums, ks, ps⟩ 0 2 2 = true) : validB ns ⟨10, ws, nums, ks, ps⟩ = true := by
  obtain ⟨a, b, c⟩ := wr_says hw
  obtain rfl : nums = [] := none_says hn
  obtain ⟨d, e, f⟩ := blocks_says hb
  obtain ⟨x, y, rfl⟩ := len_two (l := ks) (by omega)
  obtain ⟨d1, d2⟩ := all_cons d
  refine val_of a rfl ?_
  show (hasB _ 2 0 && arePB ns [x, y] [isB [7], isB [7]]) = true
  rw [has_of (a := 2) (b := 0) (by show ws.length = 2; omega) rfl, are_two d1 (all_cons d2).1]
  rfl
theorem val_case (hw : wordsR ⟨12, ws, nums, ks, ps⟩ 1 1 = true) (hn : noneR ⟨12, ws, nums, ks, ps⟩ = true) (hb : blocksR ns ⟨12, ws, nums, ks, ps⟩ 0 1 1 = true) : validB ns ⟨12, ws, nums, ks, ps⟩ = true := by
  obtain ⟨a, b, c⟩ := wr_says hw
  obtain rfl : nums = [] := none_says hn
  obtain ⟨d, e, f⟩ := blocks_says hb
  obtain ⟨x, rfl⟩ := List.length_eq_one_iff.mp (show ks.length = 1 by omega)
  refine val_of a rfl ?_
  show (hasB _ 1 0 && arePB ns [x] [isB [7]]) = true
  rw [has_of (a := 1) (b := 0) (by show ws.length = 1; omega) rfl, are_one (all_cons d).1]
  rfl
theorem val_call (h : allB ns ks argB = true) (hw : wordsR ⟨14, ws, nums, ks, ps⟩ 1 2 = true) (hn : noneR ⟨14, ws, nums, ks, ps⟩ = true) : validB ns ⟨14, ws, nums, ks, ps⟩ = true := by
  obtain ⟨a, b, c⟩ := wr_says hw
  obtain rfl : nums = [] := none_says hn
  refine val_of a rfl ?_
  show ((hasB _ 1 0 || hasB _ 2 0) && allB ns ks argB) = true
  rw [h]
  by_cases q : ws.length = 1
  · rw [has_of (a := 1) (b := 0) q rfl]
    rfl
  · rw [has_of (a := 2) (b := 0) (show ws.length = 2 by omega) rfl, Bool.or_true]
    rfl
theorem val_if (hw : wordsR ⟨16, ws, nums, ks, ps⟩ 0 0 = true) (hn : noneR ⟨16, ws, nums, ks, ps⟩ = true) (hk : 0 < ks.length) (he : exprB (kdR ns ⟨16, ws, nums, ks, ps⟩ 0) = true) (hb : blocksR ns ⟨16, ws, nums, ks, ps⟩ 1 1 2 = true) : validB ns ⟨16, ws, nums, ks, ps⟩ = true := by
  obtain ⟨a, b, c⟩ := wr_says hw
  obtain rfl : nums = [] := none_says hn
  obtain ⟨d, e, f⟩ := blocks_says hb
  refine val_of a rfl ?_
  show (hasB _ 0 0 && (arePB ns ks [exprB, isB [7]] || arePB ns ks [exprB, isB [7], isB [7]])) = true
  rw [has_of (a := 0) (b := 0) (by show ws.length = 0; omega) rfl]
  by_cases q : ks.length = 2
  · obtain ⟨x, y, rfl⟩ := len_two q
    rw [are_two (k := x) (l := y) he (all_cons d).1]
    rfl
  · obtain ⟨x, y, z, rfl⟩ := len_three (l := ks) (by omega)
    rw [are_three (k := x) (l := y) (m := z) he (all_cons d).1 (all_cons (all_cons d).2).1, Bool.or_true]
    rfl
theorem val_while (hw : wordsR ⟨17, ws, nums, ks, ps⟩ 0 0 = true) (hn : noneR ⟨17, ws, nums, ks, ps⟩ = true) (hk : 0 < ks.length) (he : exprB (kdR ns ⟨17, ws, nums, ks, ps⟩ 0) = true) (hb : blocksR ns ⟨17, ws, nums, ks, ps⟩ 1 1 1 = true) : validB ns ⟨17, ws, nums, ks, ps⟩ = true := by
  obtain ⟨a, b, c⟩ := wr_says hw
  obtain rfl : nums = [] := none_says hn
  obtain ⟨d, e, f⟩ := blocks_says hb
  refine val_of a rfl ?_
  show (hasB _ 0 0 && arePB ns ks [exprB, isB [7]]) = true
  rw [has_of (a := 0) (b := 0) (by show ws.length = 0; omega) rfl]
  obtain ⟨x, y, rfl⟩ := len_two (l := ks) (by omega)
  rw [are_two (k := x) (l := y) he (all_cons d).1]
  rfl
theorem val_return (hw : wordsR ⟨18, ws, nums, ks, ps⟩ 0 0 = true) (hn : noneR ⟨18, ws, nums, ks, ps⟩ = true) (hk : ks.length = 1) (he : exprB (kdR ns ⟨18, ws, nums, ks, ps⟩ 0) = true) : validB ns ⟨18, ws, nums, ks, ps⟩ = true := by
  obtain ⟨a, b, c⟩ := wr_says hw
  obtain rfl : nums = [] := none_says hn
  obtain ⟨k, rfl⟩ := List.length_eq_one_iff.mp hk
  refine val_of a rfl ?_
  show (hasB _ 0 0 && arePB ns [k] [exprB]) = true
  rw [has_of (a := 0) (b := 0) (by show ws.length = 0; omega) rfl, are_one (k := k) he]
  rfl
theorem val_neg (hw : wordsR ⟨23, ws, nums, ks, ps⟩ 0 0 = true) (hn : noneR ⟨23, ws, nums, ks, ps⟩ = true) (hk : ks.length = 1) (he : exprB (kdR ns ⟨23, ws, nums, ks, ps⟩ 0) = true) : validB ns ⟨23, ws, nums, ks, ps⟩ = true := by
  obtain ⟨a, b, c⟩ := wr_says hw
  obtain rfl : nums = [] := none_says hn
  obtain ⟨k, rfl⟩ := List.length_eq_one_iff.mp hk
  refine val_of a rfl ?_
  show (hasB _ 0 0 && arePB ns [k] [exprB]) = true
  rw [has_of (a := 0) (b := 0) (by show ws.length = 0; omega) rfl, are_one (k := k) he]
  rfl
theorem val_exit (hw : wordsR ⟨19, ws, nums, ks, ps⟩ 0 0 = true) (hn : noneR ⟨19, ws, nums, ks, ps⟩ = true) (hk : ks.length = 0) : validB ns ⟨19, ws, nums, ks, ps⟩ = true := by
  obtain ⟨a, b, c⟩ := wr_says hw
  obtain rfl : nums = [] := none_says hn
  obtain rfl := List.length_eq_zero_iff.mp hk
  refine val_of a rfl ?_
  show (hasB _ 0 0 && arePB ns [] []) = true
  rw [has_of (a := 0) (b := 0) (by show ws.length = 0; omega) rfl]
  rfl
theorem val_handle (hw : wordsR ⟨15, ws, nums, ks, ps⟩ 1 1 = true) (hn : noneR ⟨15, ws, nums, ks, ps⟩ = true) (hk : ks.length = 0) : validB ns ⟨15, ws, nums, ks, ps⟩ = true := by
  obtain ⟨a, b, c⟩ := wr_says hw
  obtain rfl : nums = [] := none_says hn
  obtain rfl := List.length_eq_zero_iff.mp hk
  refine val_of a rfl ?_
  show (hasB _ 1 0 && arePB ns [] []) = true
  rw [has_of (a := 1) (b := 0) (by show ws.length = 1; omega) rfl]
  rfl
theorem val_var (hw : wordsR ⟨21, ws, nums, ks, ps⟩ 1 1 = true) (hn : noneR ⟨21, ws, nums, ks, ps⟩ = true) (hk : ks.length = 0) : validB ns ⟨21, ws, nums, ks, ps⟩ = true := by
  obtain ⟨a, b, c⟩ := wr_says hw
  obtain rfl : nums = [] := none_says hn
  obtain rfl := List.length_eq_zero_iff.mp hk
  refine val_of a rfl ?_
  show (hasB _ 1 0 && arePB ns [] []) = true
  rw [has_of (a := 1) (b := 0) (by show ws.length = 1; omega) rfl]
  rfl
theorem val_num {y : Int} (hw : wordsR ⟨20, ws, nums, ks, ps⟩ 0 0 = true) (hy : nums = [y]) (h0 : 0 ≤ y) (h2 : y < 1000000000000000000) (hk : ks.length = 0) : validB ns ⟨20, ws, nums, ks, ps⟩ = true := by
  obtain ⟨a, b, c⟩ := wr_says hw
  obtain rfl := List.length_eq_zero_iff.mp hk
  subst hy
  refine val_of a (one_num h0 h2) ?_
  show (hasB _ 0 1 && arePB ns [] []) = true
  rw [has_of (a := 0) (b := 1) (by show ws.length = 0; omega) rfl]
  rfl
theorem val_bin {y : Int} (hw : wordsR ⟨22, ws, nums, ks, ps⟩ 0 0 = true) (hy : nums = [y]) (h0 : 0 ≤ y) (h2 : y ≤ 5) (hk : ks.length = 2) (he : exprB (kdR ns ⟨22, ws, nums, ks, ps⟩ 0) = true) (hf : exprB (kdR ns ⟨22, ws, nums, ks, ps⟩ 1) = true) : validB ns ⟨22, ws, nums, ks, ps⟩ = true := by
  obtain ⟨a, b, c⟩ := wr_says hw
  obtain ⟨x, z, rfl⟩ := len_two hk
  subst hy
  refine val_of a (one_num h0 (by omega)) ?_
  show (hasB _ 0 1 && decide (y ≤ 5) && arePB ns [x, z] [exprB, exprB]) = true
  rw [has_of (a := 0) (b := 1) (by show ws.length = 0; omega) rfl, decide_eq_true h2, are_two (k := x) (l := z) he hf]
  rfl
end
end Go.Proofs.YtabnjiijgbigbaaDoor
