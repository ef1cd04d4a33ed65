/-
  The walk of the statement TreeOrder. (Template: by-name.py fills it.)
-/
import Derived.Test.YthihdddlneclmaaDoorKB
import Derived.Test.YthihdddlneclmaaDoorKA
import Derived.Test.YthihdddlneclmaaDoorKH
namespace Go.Proofs.YthihdddlneclmaaDoor
open Go.RowKit

theorem sum_one : ∀ {l : List Nat} {i a : Nat}, l[i]? = some a → a ≤ l.sum
  | x :: r, 0, a, h => by
    obtain rfl : x = a := by simpa using h
    rw [List.sum_cons]; omega
  | x :: r, i + 1, a, h => by
    have := sum_one (l := r) (by simpa using h)
    rw [List.sum_cons]; omega
theorem sum_two : ∀ {l : List Nat} {i j a b : Nat}, i < j → l[i]? = some a → l[j]? = some b → a + b ≤ l.sum
  | x :: r, 0, j + 1, a, b, _, h, k => by
    obtain rfl : x = a := by simpa using h
    have := sum_one (l := r) (by simpa using k)
    rw [List.sum_cons]; omega
  | x :: r, i + 1, j + 1, a, b, hlt, h, k => by
    have := sum_two (l := r) (i := i) (j := j) (by omega) (by simpa using h) (by simpa using k)
    rw [List.sum_cons]; omega
theorem sum_has : ∀ {l : List Nat}, 0 < l.sum → ∃ i a : Nat, l[i]? = some a ∧ 0 < a
  | [], h => by simp at h
  | x :: r, h => by
    rw [List.sum_cons] at h
    by_cases q : 0 < x
    · exact ⟨0, x, rfl, q⟩
    · obtain ⟨i, a, h1, h2⟩ := sum_has (l := r) (by omega)
      exact ⟨i + 1, a, by simpa using h1, h2⟩
/-- How often a number is a kid. -/
def cntN (ns : List Nd) (k : Int) : Nat := (ns.map fun d => d.kids.count k).sum
def LinkedP (ns : List Nd) : Prop := 0 < ns.length ∧ ∀ (i : Nat) (d : Nd), ns[i]? = some d → cntN ns i = (if i = 0 then 0 else 1) ∧ ∀ k ∈ d.kids, (i : Int) < k ∧ k < (ns.length : Int)
theorem cnt_two {ns : List Nd} {k : Int} {i j : Nat} {d e : Nd} (hlt : i < j) (hd : ns[i]? = some d) (he : ns[j]? = some e) : d.kids.count k + e.kids.count k ≤ cntN ns k :=
  sum_two hlt (by rw [List.getElem?_map, hd]; rfl) (by rw [List.getElem?_map, he]; rfl)
theorem cnt_one {ns : List Nd} {k : Int} {i : Nat} {d : Nd} (hd : ns[i]? = some d) : d.kids.count k ≤ cntN ns k := sum_one (i := i) (by rw [List.getElem?_map, hd]; rfl)
theorem cnt_has {ns : List Nd} {k : Int} (h : 0 < cntN ns k) : ∃ (i : Nat) (d : Nd), ns[i]? = some d ∧ k ∈ d.kids := by
  obtain ⟨i, a, h1, h2⟩ := sum_has h
  rw [List.getElem?_map] at h1
  cases hd : ns[i]? with
  | none => rw [hd] at h1; simp at h1
  | some d =>
    rw [hd] at h1
    obtain rfl : d.kids.count k = a := by simpa using h1
    exact ⟨i, d, hd, List.count_pos_iff.mp h2⟩
theorem kidsO_ok (n a : Nat) : ∀ (x : List Int) (p : List Int), p.length = n → x.Nodup → (∀ k ∈ x, (a : Int) < k ∧ k < (n : Int) ∧ atI p k < 0) → ∃ q, kidsO n a x p = some q
  | [], p, _, _, _ => ⟨p, by rw [kidsO]⟩
  | k :: r, p, hn, hd, h => by
    obtain ⟨h1, h2, h3⟩ := h k List.mem_cons_self
    obtain ⟨m, rfl⟩ : ∃ m : Nat, k = m := ⟨k.toNat, by omega⟩
    obtain ⟨hd1, hd2⟩ := List.nodup_cons.mp hd
    rw [kidsO, if_neg (by omega), Int.toNat_natCast]
    refine kidsO_ok n a r _ (by rw [List.length_set]; exact hn) hd2 (fun y hy => ?_)
    obtain ⟨b1, b2, b3⟩ := h y (List.mem_cons_of_mem _ hy)
    obtain ⟨y', rfl⟩ : ∃ y' : Nat, y = y' := ⟨y.toNat, by omega⟩
    exact ⟨b1, b2, by rw [atI_putNe _ (fun e => hd1 (by rw [e]; exact hy))]; exact b3⟩
theorem parK_ok {ns : List Nd} (h : LinkedP ns) : ∀ j, j ≤ ns.length → ∃ p, parK ns j = some p
  | 0, _ => ⟨_, rfl⟩
  | j + 1, hj => by
    obtain ⟨p, hp⟩ := parK_ok h j (by omega)
    have L := parK_links ns j p (by omega) hp
    have hd : ns[j]? = some ns[j] := List.getElem?_eq_getElem (by omega)
    obtain ⟨c, r⟩ := h.2 j _ hd
    rw [parK, hp, Option.bind_some, ndAt_of hd]
    have ne : ¬ (0 < j ∧ atI p (j : Int) < 0) := fun ⟨a, b⟩ => by
      rw [if_neg (by omega)] at c
      obtain ⟨i, d, hi, hm⟩ := cnt_has (ns := ns) (k := (j : Int)) (by omega)
      have := (h.2 i d hi).2 _ hm
      have := ((L.of i d (by omega) hi).2 _ hm).2.2
      omega
    rw [if_neg ne]
    have one : ∀ k ∈ ns[j].kids, cntN ns k ≤ 1 := fun k hk => by
      obtain ⟨a, b⟩ := r k hk
      obtain ⟨m, rfl⟩ : ∃ m : Nat, k = m := ⟨k.toNat, by omega⟩
      obtain ⟨c, _⟩ := h.2 m _ (List.getElem?_eq_getElem (by omega))
      rw [c]; split <;> omega
    refine kidsO_ok _ _ _ _ L.len (List.nodup_iff_count.mpr fun k => ?_) (fun k hk => ⟨(r k hk).1, (r k hk).2, ?_⟩)
    · by_cases hk : k ∈ ns[j].kids
      · exact Nat.le_trans (cnt_one hd) (one k hk)
      · rw [List.count_eq_zero_of_not_mem hk]; omega
    · refine Int.not_le.mp fun q => ?_
      obtain ⟨a, b⟩ := r k hk
      obtain ⟨m, rfl⟩ : ∃ m : Nat, k = m := ⟨k.toNat, by omega⟩
      obtain ⟨i, d, hi, hdi, _, hm⟩ := L.at_ m q
      have := cnt_two (k := (m : Int)) hi hdi hd
      have := one _ hk
      have := List.count_pos_iff.mpr hm
      have := List.count_pos_iff.mpr hk
      omega
theorem parT_ok {ns : List Nd} (h : LinkedP ns) (hl : ns.length ≤ 1500) : ∃ p, parT ns = some p := by
  have := h.1
  unfold parT
  rw [if_neg (by omega)]
  exact parK_ok h _ (Nat.le_refl _)

/-! ### How deep -/
def maxZ (l : List Int) : Int := l.foldl max 0
theorem foldl_ge : ∀ (l : List Int) (a x : Int), x ≤ a → x ≤ l.foldl max a
  | [], a, x, h => h
  | y :: r, a, x, h => foldl_ge r (max a y) x (by omega)
theorem foldl_mem : ∀ (l : List Int) (a x : Int), x ∈ l → x ≤ l.foldl max a
  | y :: r, a, x, h => by
    rcases List.mem_cons.mp h with rfl | h
    · exact foldl_ge r _ _ (by omega)
    · exact foldl_mem r _ _ h
theorem foldl_le : ∀ (l : List Int) (a b : Int), a ≤ b → (∀ x ∈ l, x ≤ b) → l.foldl max a ≤ b
  | [], a, b, h, _ => h
  | y :: r, a, b, h, k => foldl_le r (max a y) b (by have := k y List.mem_cons_self; omega) (fun x hx => k x (List.mem_cons_of_mem _ hx))
/-- The longest way down. -/
def htF (ns : List Nd) : Nat → Int → Int
  | 0, _ => 1
  | d + 1, k => maxZ ((ndAt ns k).kids.map (htF ns d)) + 1
theorem htF_pos (ns : List Nd) : ∀ d k, 1 ≤ htF ns d k
  | 0, _ => Int.le_refl _
  | d + 1, k => by
    rw [htF]
    have := foldl_ge ((ndAt ns k).kids.map (htF ns d)) 0 0 (Int.le_refl _)
    unfold maxZ
    omega
theorem htF_kid {ns : List Nd} {i : Nat} {d : Nd} (hd : ns[i]? = some d) {k : Int} (hk : k ∈ d.kids) (f : Nat) : htF ns f k + 1 ≤ htF ns (f + 1) i := by
  rw [htF, ndAt_of hd]
  have := foldl_mem (d.kids.map (htF ns f)) 0 _ (List.mem_map.mpr ⟨k, hk, rfl⟩)
  unfold maxZ
  omega
section
variable {ns : List Nd} {p : List Int}
theorem depK_stable (p : List Int) : ∀ (j : Nat) (k : Nat), k < j → (depK p j)[k]? = (depK p (k + 1))[k]?
  | j + 1, k, h => by
    by_cases e : k = j
    · subst e; rfl
    · rw [depK, List.getElem?_append_left (by rw [depK_len]; omega)]
      exact depK_stable p j k (by omega)
theorem depT_at {k : Nat} (hk : k < p.length) : atI (depT p) k = if 0 ≤ atI p k then 1 + atI (depK p k) (atI p k) else 1 := by
  rw [atI_get]
  unfold depT
  rw [depK_stable p _ k hk, depK, List.getElem?_append_right (by rw [depK_len]; omega), depK_len, Nat.sub_self]
  rfl
theorem depK_atT {j k : Nat} (hj : j ≤ p.length) (hk : k < j) : atI (depK p j) (k : Int) = atI (depT p) k := by
  rw [atI_get, atI_get]
  unfold depT
  rw [depK_stable p _ k hk, depK_stable p p.length k (by omega)]
theorem dep_ht (L : Links ns ns.length p) : ∀ (x : Nat), x < ns.length → 1 ≤ atI (depT p) x ∧ atI (depT p) x ≤ (x : Int) + 1 ∧ ∃ f : Nat, (f : Int) + atI (depT p) x = (ns.length : Int) + 1 ∧ atI (depT p) x + htF ns f x ≤ 1 + htF ns ns.length 0 := by
  intro x
  induction x using Nat.strongRecOn with
  | ind x ih =>
    intro hx
    rw [depT_at (by rw [L.len]; exact hx)]
    by_cases hp : 0 ≤ atI p x
    · rw [if_pos hp]
      obtain ⟨i, d, hi, hd, e, hm⟩ := L.at_ x hp
      have lt := par_lt L hp
      rw [e] at lt ⊢
      obtain ⟨a1, a2, f, a3, a4⟩ := ih i (by omega) hi
      rw [depK_atT (by rw [L.len]; omega) (by omega)]
      obtain ⟨g, rfl⟩ : ∃ g, f = g + 1 := ⟨f - 1, by omega⟩
      have := htF_kid hd hm g
      exact ⟨by omega, by omega, g, by omega, by omega⟩
    · rw [if_neg hp]
      have : x = 0 := Classical.byContradiction fun q => hp (L.each x (by omega) hx)
      subst this
      exact ⟨Int.le_refl _, by omega, ns.length, by omega, Int.le_refl _⟩
theorem dep_le (L : Links ns ns.length p) : maxL (depT p) ≤ htF ns ns.length 0 := by
  have all : ∀ y ∈ depT p, y ≤ htF ns ns.length 0 := fun y hy => by
    obtain ⟨k, hk⟩ := List.mem_iff_getElem?.mp hy
    have hlt : k < ns.length := by
      have := (List.getElem?_eq_some_iff.mp hk).1
      unfold depT at this
      rw [depK_len, L.len] at this
      exact this
    have e : atI (depT p) k = y := atI_of hk
    obtain ⟨_, _, f, _, h⟩ := dep_ht L k hlt
    have := htF_pos ns f k
    omega
  cases h : depT p with
  | nil => exact Int.le_trans (by decide) (htF_pos ns ns.length 0)
  | cons a r =>
    rw [h] at all
    exact foldl_le r a _ (all a List.mem_cons_self) (fun x hx => all x (List.mem_cons_of_mem _ hx))
end
/-- What the document's own words ask makes a list right. -/
theorem right_ok {ns : List Nd} (h : LinkedP ns) (hl : ns.length ≤ 1500) (h0 : kindAt ns 0 = 0) (hd : htF ns ns.length 0 ≤ 24) (hv : ∀ d ∈ ns, validB ns d = true) : rightN ns = true := by
  obtain ⟨p, hp⟩ := parT_ok h hl
  unfold rightN
  rw [hp]
  dsimp only
  have := dep_le (parT_links hp)
  rw [h0, decide_eq_true (by omega), List.all_eq_true.mpr hv]
  rfl
end Go.Proofs.YthihdddlneclmaaDoor

namespace Go.Proofs.YthihdddlneclmaaDoor
open Go.RowKit

def wordsR (n : Nd) (a b : Int) : Bool := namesB n.words && decide (a ≤ (n.words.length : Int)) && decide ((n.words.length : Int) ≤ b)
def noneR (n : Nd) : Bool := decide (n.nums.length = 0)
def fracR (n : Nd) : Bool := decide (1 ≤ num n 1) && decide (num n 1 < 1000000000000000000) && decide (1 ≤ num n 2) && decide (num n 2 < 1000000000000000000)
def kdR (ns : List Nd) (n : Nd) (i : Nat) : Int := kindAt ns (atI n.kids i)




end Go.Proofs.YthihdddlneclmaaDoor

namespace Go.Proofs.YthihdddlneclmaaDoor
open Go.RowKit


/-- From a kid on they are blocks, so many. -/
def blocksR (ns : List Nd) (n : Nd) (f : Nat) (a b : Int) : Bool := allB ns (n.kids.drop f) (isB [7]) && decide (a ≤ (n.kids.length : Int) - f) && decide ((n.kids.length : Int) - f ≤ b)
theorem drop_snoc {l : List Int} {f i : Nat} {x : Int} {t : Int → Bool} (ns : List Nd) (hf : f ≤ i) (hx : l[i]? = some x) (h : allB ns ((l.take i).drop f) t = true) : allB ns ((l.take (i + 1)).drop f) t = t (kindAt ns x) := by
  have hl := (List.getElem?_eq_some_iff.mp hx).1
  rw [List.take_add_one, hx, List.drop_append, show f - (List.take i l).length = 0 by rw [List.length_take]; omega]
  unfold allB at h ⊢
  rw [List.all_append, h, Bool.true_and]
  simp
theorem drop_bad {l : List Int} {f i : Nat} {x : Int} {t : Int → Bool} (ns : List Nd) (hf : f ≤ i) (hx : l[i]? = some x) (h : t (kindAt ns x) = false) : allB ns (l.drop f) t = false := by
  unfold allB
  rw [List.all_eq_false]
  refine ⟨x, List.mem_iff_getElem?.mpr ⟨i - f, ?_⟩, by rw [h]; decide⟩
  rw [List.getElem?_drop, show f + (i - f) = i by omega]
  exact hx
end Go.Proofs.YthihdddlneclmaaDoor

namespace Go.Proofs.YthihdddlneclmaaDoor
open Go.RowKit

/-- A Bool is answered, true only if. -/
def OkB (P : Prop) (e : Ending) : Prop := ∃ b : Bool, e = .returned (.bool b) ∧ (b = true → P)
theorem ok_no {P : Prop} : OkB P (.returned (.bool false)) := ⟨false, rfl, fun h => Bool.noConfusion h⟩
theorem ok_yes {P : Prop} {b : Bool} (h : P) : OkB P (.returned (.bool b)) := ⟨b, rfl, fun _ => h⟩
theorem val_of {ns : List Nd} {n : Nd} (h1 : namesB n.words = true) (h2 : numbersB n.nums = true) (h3 : listedB ns n = true) : validB ns n = true := by
  unfold validB
  rw [h1, h2, h3]
  rfl
theorem wr_says {kd ps : Int} {ws : List (List UInt8)} {nums ks : List Int} {a b : Int} (h : wordsR ⟨kd, ws, nums, ks, ps⟩ a b = true) : namesB ws = true ∧ a ≤ (ws.length : Int) ∧ (ws.length : Int) ≤ b := by
  unfold wordsR at h
  rw [Bool.and_eq_true, Bool.and_eq_true, decide_eq_true_eq, decide_eq_true_eq] at h
  exact ⟨h.1.1, h.1.2, h.2⟩
theorem none_says {kd ps : Int} {ws : List (List UInt8)} {nums ks : List Int} (h : noneR ⟨kd, ws, nums, ks, ps⟩ = true) : nums = [] := List.length_eq_zero_iff.mp (of_decide_eq_true h)
theorem has_of {n : Nd} {a b : Nat} (h1 : n.words.length = a) (h2 : n.nums.length = b) : hasB n a b = true := by
  unfold hasB
  rw [decide_eq_true h1, decide_eq_true h2]
  rfl
theorem kd_zero {ns : List Nd} {kd ps k : Int} {ws : List (List UInt8)} {nums ks : List Int} : kdR ns ⟨kd, ws, nums, k :: ks, ps⟩ 0 = kindAt ns k := rfl
theorem kd_one {ns : List Nd} {kd ps k k2 : Int} {ws : List (List UInt8)} {nums ks : List Int} : kdR ns ⟨kd, ws, nums, k :: k2 :: ks, ps⟩ 1 = kindAt ns k2 := rfl
theorem blocks_says {ns : List Nd} {kd ps : Int} {ws : List (List UInt8)} {nums ks : List Int} {f : Nat} {a b : Int} (h : blocksR ns ⟨kd, ws, nums, ks, ps⟩ f a b = true) : allB ns (ks.drop f) (isB [7]) = true ∧ a ≤ (ks.length : Int) - f ∧ (ks.length : Int) - f ≤ b := by
  unfold blocksR at h
  rw [Bool.and_eq_true, Bool.and_eq_true, decide_eq_true_eq, decide_eq_true_eq] at h
  exact ⟨h.1.1, h.1.2, h.2⟩
section
variable {ns : List Nd} {ws : List (List UInt8)} {nums ks : List Int} {ps : Int}
theorem are_nil : arePB ns [] [] = true := rfl
theorem are_one {k : Int} {f : Int → Bool} (h : f (kindAt ns k) = true) : arePB ns [k] [f] = true := by simp [arePB, h]
theorem are_two {k l : Int} {f g : Int → Bool} (h : f (kindAt ns k) = true) (h2 : g (kindAt ns l) = true) : arePB ns [k, l] [f, g] = true := by simp [arePB, h, h2]
theorem are_three {k l m : Int} {f g e : Int → Bool} (h : f (kindAt ns k) = true) (h2 : g (kindAt ns l) = true) (h3 : e (kindAt ns m) = true) : arePB ns [k, l, m] [f, g, e] = true := by simp [arePB, h, h2, h3]
theorem all_cons {k : Int} {r : List Int} {f : Int → Bool} (h : allB ns (k :: r) f = true) : f (kindAt ns k) = true ∧ allB ns r f = true := by
  unfold allB at h ⊢
  rwa [List.all_cons, Bool.and_eq_true] at h
theorem len_two {l : List Int} (h : l.length = 2) : ∃ a b, l = [a, b] := by
  match l, h with
  | [a, b], _ => exact ⟨a, b, rfl⟩
theorem len_three {l : List Int} (h : l.length = 3) : ∃ a b c, l = [a, b, c] := by
  match l, h with
  | [a, b, c], _ => exact ⟨a, b, c, rfl⟩
/-! ### Kind by kind -/
theorem val_program (h : allB ns ks (isB [1, 4]) = true) (hw : wordsR ⟨0, ws, nums, ks, ps⟩ 0 0 = true) (hn : noneR ⟨0, ws, nums, ks, ps⟩ = true) : validB ns ⟨0, ws, nums, ks, ps⟩ = true := by
  obtain ⟨a, b, c⟩ := wr_says hw
  obtain rfl : nums = [] := none_says hn
  refine val_of a rfl ?_
  show (hasB _ 0 0 && allB ns ks (isB [1, 4])) = true
  rw [h, has_of (a := 0) (b := 0) (by show ws.length = 0; omega) rfl]
  rfl
theorem val_proto (h : allB ns ks (isB [2, 3]) = true) (hw : wordsR ⟨1, ws, nums, ks, ps⟩ 1 1 = true) (hn : noneR ⟨1, ws, nums, ks, ps⟩ = true) : validB ns ⟨1, ws, nums, ks, ps⟩ = true := by
  obtain ⟨a, b, c⟩ := wr_says hw
  obtain rfl : nums = [] := none_says hn
  refine val_of a rfl ?_
  show (hasB _ 1 0 && allB ns ks (isB [2, 3])) = true
  rw [h, has_of (a := 1) (b := 0) (by show ws.length = 1; omega) rfl]
  rfl
theorem one_num {y : Int} (h0 : 0 ≤ y) (h1 : y < 1000000000000000000) : numbersB [y] = true := by
  simp [numbersB, h0, h1]
theorem val_state {y : Int} (hw : wordsR ⟨2, ws, nums, ks, ps⟩ 1 1 = true) (hy : nums = [y]) (h : y = 0 ∨ y = 1) (hk : ks.length = 0) : validB ns ⟨2, ws, nums, ks, ps⟩ = true := by
  obtain ⟨a, b, c⟩ := wr_says hw
  obtain rfl := List.length_eq_zero_iff.mp hk
  subst hy
  refine val_of a (one_num (by omega) (by omega)) ?_
  show (hasB _ 1 1 && decide (y ≤ 1) && arePB ns [] []) = true
  rw [has_of (a := 1) (b := 1) (by show ws.length = 1; omega) rfl, decide_eq_true (by omega)]
  rfl
theorem val_op (hw : wordsR ⟨3, ws, nums, ks, ps⟩ 4 1500 = true) (h2 : ws.length % 2 = 0) (hn : noneR ⟨3, ws, nums, ks, ps⟩ = true) (hk : ks.length = 0) : validB ns ⟨3, ws, nums, ks, ps⟩ = true := by
  obtain ⟨a, b, c⟩ := wr_says hw
  obtain rfl := List.length_eq_zero_iff.mp hk
  obtain rfl : nums = [] := none_says hn
  refine val_of a rfl ?_
  show (decide (4 ≤ ws.length) && decide (ws.length % 2 = 0) && hasB _ ws.length 0 && arePB ns [] []) = true
  rw [has_of (a := ws.length) (b := 0) rfl rfl, decide_eq_true h2, decide_eq_true (by omega)]
  rfl
theorem val_fn {k : Int} {r : List Int} (hr : ks = r ++ [k]) (h : allB ns r (isB [5]) = true) (hw : wordsR ⟨4, ws, nums, ks, ps⟩ 1 1 = true) (hn : noneR ⟨4, ws, nums, ks, ps⟩ = true) (hl : kindAt ns k = 7) : validB ns ⟨4, ws, nums, ks, ps⟩ = true := by
  obtain ⟨a, b, c⟩ := wr_says hw
  obtain rfl : nums = [] := none_says hn
  refine val_of a rfl ?_
  show (hasB _ 1 0 && allB ns (ks.take (ks.length - 1)) (isB [5]) && arePB ns (ks.drop (ks.length - 1)) [isB [7]]) = true
  have e : ks.length - 1 = r.length := by rw [hr]; simp
  rw [e, hr, List.take_left', List.drop_left', h, are_one (by rw [hl]; rfl), has_of (a := 1) (b := 0) (by show ws.length = 1; omega) rfl] <;> rfl
theorem val_names {y : Int} (hw : wordsR ⟨6, ws, nums, ks, ps⟩ 1 1500 = true) (hy : nums = [y]) (h0 : 0 ≤ y) (h2 : y ≤ 2) (hk : ks.length = 0) : validB ns ⟨6, ws, nums, ks, ps⟩ = true := by
  obtain ⟨a, b, c⟩ := wr_says hw
  obtain rfl := List.length_eq_zero_iff.mp hk
  subst hy
  refine val_of a (one_num h0 (by omega)) ?_
  show (decide (1 ≤ ws.length) && hasB _ ws.length 1 && decide (y ≤ 2) && arePB ns [] []) = true
  rw [has_of (a := ws.length) (b := 1) rfl rfl, decide_eq_true h2, decide_eq_true (by omega)]
  rfl
theorem val_block (h : allB ns ks stmtB = true) (hn : noneR ⟨7, ws, nums, ks, ps⟩ = true) (hw : wordsR ⟨7, ws, nums, ks, ps⟩ 0 0 = true) : validB ns ⟨7, ws, nums, ks, ps⟩ = true := by
  obtain ⟨a, b, c⟩ := wr_says hw
  obtain rfl : nums = [] := none_says hn
  refine val_of a rfl ?_
  show (hasB _ 0 0 && allB ns ks stmtB) = true
  rw [h, has_of (a := 0) (b := 0) (by show ws.length = 0; omega) rfl]
  rfl
theorem val_do (h : allB ns ks (isB [12]) = true) (hn : noneR ⟨11, ws, nums, ks, ps⟩ = true) (hw : wordsR ⟨11, ws, nums, ks, ps⟩ 2 2 = true) : validB ns ⟨11, ws, nums, ks, ps⟩ = true := by
  obtain ⟨a, b, c⟩ := wr_says hw
  obtain rfl : nums = [] := none_says hn
  refine val_of a rfl ?_
  show (hasB _ 2 0 && allB ns ks (isB [12])) = true
  rw [h, has_of (a := 2) (b := 0) (by show ws.length = 2; omega) rfl]
  rfl
theorem val_let (hw : wordsR ⟨8, ws, nums, ks, ps⟩ 1 1 = true) (hn : noneR ⟨8, ws, nums, ks, ps⟩ = true) (hk : ks.length = 1) (he : exprB (kdR ns ⟨8, ws, nums, ks, ps⟩ 0) = true) : validB ns ⟨8, ws, nums, ks, ps⟩ = true := by
  obtain ⟨a, b, c⟩ := wr_says hw
  obtain rfl : nums = [] := none_says hn
  obtain ⟨k, rfl⟩ := List.length_eq_one_iff.mp hk
  refine val_of a rfl ?_
  show (hasB _ 1 0 && arePB ns [k] [exprB]) = true
  rw [has_of (a := 1) (b := 0) (by show ws.length = 1; omega) rfl, are_one (k := k) he]
  rfl
theorem val_set (hw : wordsR ⟨9, ws, nums, ks, ps⟩ 1 1 = true) (hn : noneR ⟨9, ws, nums, ks, ps⟩ = true) (hk : ks.length = 1) (he : exprB (kdR ns ⟨9, ws, nums, ks, ps⟩ 0) = true) : validB ns ⟨9, ws, nums, ks, ps⟩ = true := by
  obtain ⟨a, b, c⟩ := wr_says hw
  obtain rfl : nums = [] := none_says hn
  obtain ⟨k, rfl⟩ := List.length_eq_one_iff.mp hk
  refine val_of a rfl ?_
  show (hasB _ 1 0 && arePB ns [k] [exprB]) = true
  rw [has_of (a := 1) (b := 0) (by show ws.length = 1; omega) rfl, are_one (k := k) he]
  rfl
theorem val_open (hw : wordsR ⟨10, ws, nums, ks, ps⟩ 2 2 = true) (hn : noneR ⟨10, ws, nums, ks, ps⟩ = true) (hb : blocksR ns ⟨10, ws, nums, ks, ps⟩ 0 2 2 = true) : validB ns ⟨10, ws, nums, ks, ps⟩ = true := by
  obtain ⟨a, b, c⟩ := wr_says hw
  obtain rfl : nums = [] := none_says hn
  obtain ⟨d, e, f⟩ := blocks_says hb
  obtain ⟨x, y, rfl⟩ := len_two (l := ks) (by omega)
  obtain ⟨d1, d2⟩ := all_cons d
  refine val_of a rfl ?_
  show (hasB _ 2 0 && arePB ns [x, y] [isB [7], isB [7]]) = true
  rw [has_of (a := 2) (b := 0) (by show ws.length = 2; omega) rfl, are_two d1 (all_cons d2).1]
  rfl
theorem val_case (hw : wordsR ⟨12, ws, nums, ks, ps⟩ 1 1 = true) (hn : noneR ⟨12, ws, nums, ks, ps⟩ = true) (hb : blocksR ns ⟨12, ws, nums, ks, ps⟩ 0 1 1 = true) : validB ns ⟨12, ws, nums, ks, ps⟩ = true := by
  obtain ⟨a, b, c⟩ := wr_says hw
  obtain rfl : nums = [] := none_says hn
  obtain ⟨d, e, f⟩ := blocks_says hb
  obtain ⟨x, rfl⟩ := List.length_eq_one_iff.mp (show ks.length = 1 by omega)
  refine val_of a rfl ?_
  show (hasB _ 1 0 && arePB ns [x] [isB [7]]) = true
  rw [has_of (a := 1) (b := 0) (by show ws.length = 1; omega) rfl, are_one (all_cons d).1]
  rfl
theorem val_call (h : allB ns ks argB = true) (hw : wordsR ⟨14, ws, nums, ks, ps⟩ 1 2 = true) (hn : noneR ⟨14, ws, nums, ks, ps⟩ = true) : validB ns ⟨14, ws, nums, ks, ps⟩ = true := by
  obtain ⟨a, b, c⟩ := wr_says hw
  obtain rfl : nums = [] := none_says hn
  refine val_of a rfl ?_
  show ((hasB _ 1 0 || hasB _ 2 0) && allB ns ks argB) = true
  rw [h]
  by_cases q : ws.length = 1
  · rw [has_of (a := 1) (b := 0) q rfl]
    rfl
  · rw [has_of (a := 2) (b := 0) (show ws.length = 2 by omega) rfl, Bool.or_true]
    rfl
theorem val_if (hw : wordsR ⟨16, ws, nums, ks, ps⟩ 0 0 = true) (hn : noneR ⟨16, ws, nums, ks, ps⟩ = true) (hk : 0 < ks.length) (he : exprB (kdR ns ⟨16, ws, nums, ks, ps⟩ 0) = true) (hb : blocksR ns ⟨16, ws, nums, ks, ps⟩ 1 1 2 = true) : validB ns ⟨16, ws, nums, ks, ps⟩ = true := by
  obtain ⟨a, b, c⟩ := wr_says hw
  obtain rfl : nums = [] := none_says hn
  obtain ⟨d, e, f⟩ := blocks_says hb
  refine val_of a rfl ?_
  show (hasB _ 0 0 && (arePB ns ks [exprB, isB [7]] || arePB ns ks [exprB, isB [7], isB [7]])) = true
  rw [has_of (a := 0) (b := 0) (by show ws.length = 0; omega) rfl]
  by_cases q : ks.length = 2
  · obtain ⟨x, y, rfl⟩ := len_two q
    rw [are_two (k := x) (l := y) he (all_cons d).1]
    rfl
  · obtain ⟨x, y, z, rfl⟩ := len_three (l := ks) (by omega)
    rw [are_three (k := x) (l := y) (m := z) he (all_cons d).1 (all_cons (all_cons d).2).1, Bool.or_true]
    rfl
theorem val_while (hw : wordsR ⟨17, ws, nums, ks, ps⟩ 0 0 = true) (hn : noneR ⟨17, ws, nums, ks, ps⟩ = true) (hk : 0 < ks.length) (he : exprB (kdR ns ⟨17, ws, nums, ks, ps⟩ 0) = true) (hb : blocksR ns ⟨17, ws, nums, ks, ps⟩ 1 1 1 = true) : validB ns ⟨17, ws, nums, ks, ps⟩ = true := by
  obtain ⟨a, b, c⟩ := wr_says hw
  obtain rfl : nums = [] := none_says hn
  obtain ⟨d, e, f⟩ := blocks_says hb
  refine val_of a rfl ?_
  show (hasB _ 0 0 && arePB ns ks [exprB, isB [7]]) = true
  rw [has_of (a := 0) (b := 0) (by show ws.length = 0; omega) rfl]
  obtain ⟨x, y, rfl⟩ := len_two (l := ks) (by omega)
  rw [are_two (k := x) (l := y) he (all_cons d).1]
  rfl
theorem val_return (hw : wordsR ⟨18, ws, nums, ks, ps⟩ 0 0 = true) (hn : noneR ⟨18, ws, nums, ks, ps⟩ = true) (hk : ks.length = 1) (he : exprB (kdR ns ⟨18, ws, nums, ks, ps⟩ 0) = true) : validB ns ⟨18, ws, nums, ks, ps⟩ = true := by
  obtain ⟨a, b, c⟩ := wr_says hw
  obtain rfl : nums = [] := none_says hn
  obtain ⟨k, rfl⟩ := List.length_eq_one_iff.mp hk
  refine val_of a rfl ?_
  show (hasB _ 0 0 && arePB ns [k] [exprB]) = true
  rw [has_of (a := 0) (b := 0) (by show ws.length = 0; omega) rfl, are_one (k := k) he]
  rfl
theorem val_neg (hw : wordsR ⟨23, ws, nums, ks, ps⟩ 0 0 = true) (hn : noneR ⟨23, ws, nums, ks, ps⟩ = true) (hk : ks.length = 1) (he : exprB (kdR ns ⟨23, ws, nums, ks, ps⟩ 0) = true) : validB ns ⟨23, ws, nums, ks, ps⟩ = true := by
  obtain ⟨a, b, c⟩ := wr_says hw
  obtain rfl : nums = [] := none_says hn
  obtain ⟨k, rfl⟩ := List.length_eq_one_iff.mp hk
  refine val_of a rfl ?_
  show (hasB _ 0 0 && arePB ns [k] [exprB]) = true
  rw [has_of (a := 0) (b := 0) (by show ws.length = 0; omega) rfl, are_one (k := k) he]
  rfl
theorem val_exit (hw : wordsR ⟨19, ws, nums, ks, ps⟩ 0 0 = true) (hn : noneR ⟨19, ws, nums, ks, ps⟩ = true) (hk : ks.length = 0) : validB ns ⟨19, ws, nums, ks, ps⟩ = true := by
  obtain ⟨a, b, c⟩ := wr_says hw
  obtain rfl : nums = [] := none_says hn
  obtain rfl := List.length_eq_zero_iff.mp hk
  refine val_of a rfl ?_
  show (hasB _ 0 0 && arePB ns [] []) = true
  rw [has_of (a := 0) (b := 0) (by show ws.length = 0; omega) rfl]
  rfl
theorem val_handle (hw : wordsR ⟨15, ws, nums, ks, ps⟩ 1 1 = true) (hn : noneR ⟨15, ws, nums, ks, ps⟩ = true) (hk : ks.length = 0) : validB ns ⟨15, ws, nums, ks, ps⟩ = true := by
  obtain ⟨a, b, c⟩ := wr_says hw
  obtain rfl : nums = [] := none_says hn
  obtain rfl := List.length_eq_zero_iff.mp hk
  refine val_of a rfl ?_
  show (hasB _ 1 0 && arePB ns [] []) = true
  rw [has_of (a := 1) (b := 0) (by show ws.length = 1; omega) rfl]
  rfl
theorem val_var (hw : wordsR ⟨21, ws, nums, ks, ps⟩ 1 1 = true) (hn : noneR ⟨21, ws, nums, ks, ps⟩ = true) (hk : ks.length = 0) : validB ns ⟨21, ws, nums, ks, ps⟩ = true := by
  obtain ⟨a, b, c⟩ := wr_says hw
  obtain rfl : nums = [] := none_says hn
  obtain rfl := List.length_eq_zero_iff.mp hk
  refine val_of a rfl ?_
  show (hasB _ 1 0 && arePB ns [] []) = true
  rw [has_of (a := 1) (b := 0) (by show ws.length = 1; omega) rfl]
  rfl
theorem val_num {y : Int} (hw : wordsR ⟨20, ws, nums, ks, ps⟩ 0 0 = true) (hy : nums = [y]) (h0 : 0 ≤ y) (h2 : y < 1000000000000000000) (hk : ks.length = 0) : validB ns ⟨20, ws, nums, ks, ps⟩ = true := by
  obtain ⟨a, b, c⟩ := wr_says hw
  obtain rfl := List.length_eq_zero_iff.mp hk
  subst hy
  refine val_of a (one_num h0 h2) ?_
  show (hasB _ 0 1 && arePB ns [] []) = true
  rw [has_of (a := 0) (b := 1) (by show ws.length = 0; omega) rfl]
  rfl
theorem val_bin {y : Int} (hw : wordsR ⟨22, ws, nums, ks, ps⟩ 0 0 = true) (hy : nums = [y]) (h0 : 0 ≤ y) (h2 : y ≤ 5) (hk : ks.length = 2) (he : exprB (kdR ns ⟨22, ws, nums, ks, ps⟩ 0) = true) (hf : exprB (kdR ns ⟨22, ws, nums, ks, ps⟩ 1) = true) : validB ns ⟨22, ws, nums, ks, ps⟩ = true := by
  obtain ⟨a, b, c⟩ := wr_says hw
  obtain ⟨x, z, rfl⟩ := len_two hk
  subst hy
  refine val_of a (one_num h0 (by omega)) ?_
  show (hasB _ 0 1 && decide (y ≤ 5) && arePB ns [x, z] [exprB, exprB]) = true
  rw [has_of (a := 0) (b := 1) (by show ws.length = 0; omega) rfl, decide_eq_true h2, are_two (k := x) (l := z) he hf]
  rfl
end
end Go.Proofs.YthihdddlneclmaaDoor

namespace Go.Proofs.YthihdddlneclmaaDoor
open Go.RowKit

/-- The cells of a listed node. -/
theorem node_cells {w : World} {v : Value} {ns : List Nd} (hN : NodesAt w v ns) {q : Nat} (hq : q < ns.length) : ∃ (d : Nd) (ad : Addr) (cp : Nat) (B1 B2 B3 : Option Addr) (e1 e2 e3 : Nat), ns[q]? = some d ∧ v = .slice (some ad) ns.length cp ∧ IntsL w (.slice B2 d.nums.length e2) d.nums ∧ ∀ wr : World, Below w.heap.size w wr →
    wr.cell? (ad.add (q * 5)) = some (.int .i64 d.kind) ∧ wr.cell? ⟨(ad.add (q * 5)).block, (ad.add (q * 5)).off + 1, none⟩ = some (.slice B1 d.words.length e1) ∧ wr.cell? ⟨(ad.add (q * 5)).block, (ad.add (q * 5)).off + 2, none⟩ = some (.slice B2 d.nums.length e2) ∧ wr.cell? ⟨(ad.add (q * 5)).block, (ad.add (q * 5)).off + 3, none⟩ = some (.slice B3 d.kids.length e3) ∧ wr.cell? ⟨(ad.add (q * 5)).block, (ad.add (q * 5)).off + 4, none⟩ = some (.int .i64 d.pos) := by
  obtain ⟨A, c, rs, rfl, g2, g3, g4, g5, g6⟩ := hN
  obtain ⟨y, hy⟩ : ∃ y, rs[q]? = some y := ⟨_, List.getElem?_eq_getElem (by have := congrArg List.length g4; rw [List.length_map] at this; omega)⟩
  have hd : ns[q]? = some y.2 := by rw [← g4, List.getElem?_map, hy]; rfl
  obtain ⟨ad, rfl, _⟩ := nodes_cells g5 (Below.refl _ _) hy (by omega)
  obtain ⟨⟨B1, e1, h1, _⟩, ⟨B2, e2, h2, j2⟩, B3, e3, h3, _⟩ := g6 y (List.mem_of_getElem? hy)
  refine ⟨y.2, ad, c, B1, B2, B3, e1, e2, e3, hd, rfl, ⟨B2, e2, rfl, j2⟩, fun wr hb => ?_⟩
  obtain ⟨ad', e, d0, d1, d2, d3, d4⟩ := nodes_cells g5 hb hy (by omega)
  injection e with e
  subst e
  rw [h1] at d1
  rw [h2] at d2
  rw [h3] at d3
  exact ⟨d0, d1, d2, d3, d4⟩

theorem frac_says {kd ps y ya yb : Int} {ws : List (List UInt8)} {nums ks : List Int} (hy : nums = [y, ya, yb]) (h : fracR ⟨kd, ws, nums, ks, ps⟩ = true) : 1 ≤ ya ∧ ya < 1000000000000000000 ∧ 1 ≤ yb ∧ yb < 1000000000000000000 := by
  subst hy
  unfold fracR at h
  simp only [Bool.and_eq_true, decide_eq_true_eq] at h
  exact ⟨h.1.1.1, h.1.1.2, h.1.2, h.2⟩
theorem val_split1 {ns : List Nd} {ps y ya yb : Int} {ws : List (List UInt8)} {nums ks : List Int} (hw : wordsR ⟨13, ws, nums, ks, ps⟩ 2 2 = true) (hy : nums = [y, ya, yb]) (h1 : 1 ≤ y) (h4 : y ≤ 4) (hf : fracR ⟨13, ws, nums, ks, ps⟩ = true) (hb : blocksR ns ⟨13, ws, nums, ks, ps⟩ 0 1 1 = true) : validB ns ⟨13, ws, nums, ks, ps⟩ = true := by
  obtain ⟨a, b, c⟩ := wr_says hw
  obtain ⟨f1, f2, f3, f4⟩ := frac_says hy hf
  obtain ⟨d, e, f⟩ := blocks_says hb
  obtain ⟨x, rfl⟩ := List.length_eq_one_iff.mp (show ks.length = 1 by omega)
  subst hy
  refine val_of a (by simp [numbersB]; omega) ?_
  show (hasB _ 2 3 && (!(y == 0) && decide (y ≤ 4) && (decide (1 ≤ ya) && decide (1 ≤ yb)) && (arePB ns [x] [isB [7]] || arePB ns [x] [isB [6], isB [7]] && whichB ns (atI [x] 0) == 2))) = true
  rw [has_of (a := 2) (b := 3) (by show ws.length = 2; omega) rfl, are_one (k := x) (all_cons d).1, show (y == 0) = false by rw [beq_eq_false_iff_ne]; omega, decide_eq_true h4, decide_eq_true f1, decide_eq_true f3]
  rfl
theorem val_split2 {ns : List Nd} {ps y ya yb : Int} {ws : List (List UInt8)} {nums ks : List Int} {q : Nat} {e : Nd} (hw : wordsR ⟨13, ws, nums, ks, ps⟩ 2 2 = true) (hy : nums = [y, ya, yb]) (h1 : 1 ≤ y) (h4 : y ≤ 4) (hf : fracR ⟨13, ws, nums, ks, ps⟩ = true) (hz : ks[0]? = some (q : Int)) (he : ns[q]? = some e) (h6 : e.kind = 6) (hn : e.nums = [2]) (hb : blocksR ns ⟨13, ws, nums, ks, ps⟩ 1 1 1 = true) : validB ns ⟨13, ws, nums, ks, ps⟩ = true := by
  obtain ⟨a, b, c⟩ := wr_says hw
  obtain ⟨f1, f2, f3, f4⟩ := frac_says hy hf
  obtain ⟨d, e', f⟩ := blocks_says hb
  obtain ⟨x, x2, rfl⟩ := len_two (l := ks) (by omega)
  obtain rfl : x = (q : Int) := by simpa using hz
  subst hy
  refine val_of a (by simp [numbersB]; omega) ?_
  show (hasB _ 2 3 && (!(y == 0) && decide (y ≤ 4) && (decide (1 ≤ ya) && decide (1 ≤ yb)) && (arePB ns [(q : Int), x2] [isB [7]] || arePB ns [(q : Int), x2] [isB [6], isB [7]] && whichB ns (atI [(q : Int), x2] 0) == 2))) = true
  have hk6 : isB [6] (kindAt ns (q : Int)) = true := by rw [kindAt_of he, h6]; rfl
  have hw2 : whichB ns (atI [(q : Int), x2] 0) = 2 := whichB_cons (k := q) he hn
  rw [has_of (a := 2) (b := 3) (by show ws.length = 2; omega) rfl, are_two (k := (q : Int)) (l := x2) hk6 (all_cons d).1, hw2, show (y == 0) = false by rw [beq_eq_false_iff_ne]; omega, decide_eq_true h4, decide_eq_true f1, decide_eq_true f3, Bool.or_comm]
  rfl

end Go.Proofs.YthihdddlneclmaaDoor

namespace Go.Proofs.YthihdddlneclmaaDoor
open Go.RowKit

/-- How often among the first ones. -/
def cntT (ns : List Nd) (i : Nat) (k : Int) : Nat := ((ns.take i).map fun d => d.kids.count k).sum
theorem cntT_more {ns : List Nd} {i : Nat} {d : Nd} {k : Int} (hd : ns[i]? = some d) : cntT ns (i + 1) k = cntT ns i k + d.kids.count k := by
  unfold cntT
  rw [List.take_add_one, hd, List.map_append, List.sum_append]
  simp
theorem cntT_end {ns : List Nd} {k : Int} : cntT ns ns.length k = cntN ns k := by
  unfold cntT cntN
  rw [List.take_length]
theorem count_more {l : List Int} {j : Nat} {x k : Int} (h : l[j]? = some x) : (l.take (j + 1)).count k = (l.take j).count k + (if x == k then 1 else 0) := by
  rw [List.take_add_one, h, List.count_append]
  congr 1
  show [x].count k = _
  rw [List.count_singleton]
theorem kids_cells {w : World} {A : Option Addr} {c : Nat} {ns : List Nd} (hN : NodesAt w (.slice A ns.length c) ns) {q : Nat} {d : Nd} (hd : ns[q]? = some d) : ∃ (ad : Addr) (B : Option Addr) (e : Nat), A = some ad ∧ d.kids.length ≤ maxLen ∧ (∀ (j : Nat) (x : Int), d.kids[j]? = some x → ∃ ak : Addr, B = some ak ∧ ∀ wr : World, Below w.heap.size w wr → wr.cell? (ak.add j) = some (.int .i64 x)) ∧ ∀ wr : World, Below w.heap.size w wr → wr.cell? ⟨(ad.add (q * 5)).block, (ad.add (q * 5)).off + 3, none⟩ = some (.slice B d.kids.length e) := by
  obtain ⟨A', c', rs, ev, g2, g3, g4, g5, g6⟩ := hN
  injection ev with ea _ ec
  subst ea ec
  have hq := (List.getElem?_eq_some_iff.mp hd).1
  obtain ⟨y, hy⟩ : ∃ y, rs[q]? = some y := ⟨_, List.getElem?_eq_getElem (by have := congrArg List.length g4; rw [List.length_map] at this; omega)⟩
  have hyd : y.2 = d := by
    have : ns[q]? = some y.2 := by rw [← g4, List.getElem?_map, hy]; rfl
    rw [hd] at this
    exact (Option.some.inj this).symm
  obtain ⟨ad, rfl, _⟩ := nodes_cells g5 (Below.refl _ _) hy (by omega)
  obtain ⟨_, _, B3, e3, h3, j1, j2, j3⟩ := g6 y (List.mem_of_getElem? hy)
  rw [hyd] at j1 j3 h3
  refine ⟨ad, B3, e3, rfl, by omega, fun j x hx => ?_, fun wr hb => ?_⟩
  · obtain ⟨ak, e, _⟩ := ints_at j3 (Below.refl _ _) hx (by have := (List.getElem?_eq_some_iff.mp hx).1; omega)
    refine ⟨ak, e, fun wr hb => ?_⟩
    obtain ⟨ak', e', h⟩ := ints_at j3 hb hx (by have := (List.getElem?_eq_some_iff.mp hx).1; omega)
    rw [e] at e'
    injection e' with e'
    subst e'
    exact h
  · obtain ⟨ad', e, _, _, _, d3, _⟩ := nodes_cells g5 hb hy (by omega)
    injection e with e
    subst e
    rw [h3] at d3
    exact d3

/-- No slice of a node is too long for a machine. -/
def SizedN (ns : List Nd) : Prop := ∀ d ∈ ns, d.words.length * 16 ≤ 140737488351232 ∧ d.nums.length * 8 ≤ 140737488351232 ∧ d.kids.length * 8 ≤ 140737488351232
theorem cntT_le {ns : List Nd} (hs : SizedN ns) (k : Int) : ∀ i, i ≤ ns.length → cntT ns i k ≤ i * 140737488355328
  | 0, _ => by simp [cntT]
  | i + 1, h => by
    have hd : ns[i]? = some ns[i] := List.getElem?_eq_getElem (by omega)
    have := cntT_le hs k i (by omega)
    have := (hs _ (List.mem_of_getElem? hd)).2.2
    have := List.count_le_length (a := k) (l := ns[i].kids)
    rw [cntT_more hd]
    omega
end Go.Proofs.YthihdddlneclmaaDoor

namespace Go.Proofs.YthihdddlneclmaaDoor
open Go.RowKit

def LinkK (ns : List Nd) (j : Nat) : Prop := ∀ (i : Nat) (d : Nd), i < j → ns[i]? = some d → cntN ns i = (if i = 0 then 0 else 1) ∧ ∀ k ∈ d.kids, (i : Int) < k ∧ k < (ns.length : Int)
def inB (n i : Nat) (l : List Int) : Bool := l.all fun k => decide ((i : Int) < k) && decide (k < (n : Int))
theorem LinkK.more {ns : List Nd} {j : Nat} {d : Nd} (h : LinkK ns j) (hd : ns[j]? = some d) (hc : cntN ns j = (if j = 0 then 0 else 1)) (hk : inB ns.length j d.kids = true) : LinkK ns (j + 1) := fun i e hi he => by
  by_cases q : i = j
  · subst q
    obtain rfl : d = e := Option.some.inj (hd.symm.trans he)
    refine ⟨hc, fun k hkk => ?_⟩
    have := List.all_eq_true.mp hk k hkk
    simpa using this
  · exact h i e (by omega) he


/-- Kids stand behind, inside the list. -/
def Inside (ns : List Nd) : Prop := ∀ (i : Nat) (d : Nd), ns[i]? = some d → ∀ k ∈ d.kids, (i : Int) < k ∧ k < (ns.length : Int)
theorem htF_le (ns : List Nd) : ∀ (f : Nat) (k : Int), htF ns f k ≤ (f : Int) + 1
  | 0, _ => by rw [htF]; omega
  | f + 1, k => by
    rw [htF]
    have := foldl_le ((ndAt ns k).kids.map (htF ns f)) 0 ((f : Int) + 1) (by omega) (fun x hx => by
      obtain ⟨y, _, rfl⟩ := List.mem_map.mp hx
      exact htF_le ns f y)
    unfold maxZ
    push_cast
    omega
def maxJ (g : Int → Int) (l : List Int) : Int := maxZ (l.map g)
theorem maxJ_more {g : Int → Int} {l : List Int} {j : Nat} {x : Int} (h : l[j]? = some x) : maxJ g (l.take (j + 1)) = max (maxJ g (l.take j)) (g x) := by
  unfold maxJ maxZ
  rw [List.take_add_one, h, List.map_append, List.foldl_append]
  rfl
end Go.Proofs.YthihdddlneclmaaDoor

namespace Go.Proofs.YthihdddlneclmaaDoor
open Go.RowKit



end Go.Proofs.YthihdddlneclmaaDoor

namespace Go.Proofs.YthihdddlneclmaaDoor
open Go.RowKit


end Go.Proofs.YthihdddlneclmaaDoor

namespace Go.Proofs.YthihdddlneclmaaDoor
open Go.RowKit




end Go.Proofs.YthihdddlneclmaaDoor

namespace Go.Proofs.YthihdddlneclmaaDoor
open Go.RowKit




end Go.Proofs.YthihdddlneclmaaDoor

namespace Go.Proofs.YthihdddlneclmaaDoor
open Go.RowKit


end Go.Proofs.YthihdddlneclmaaDoor

namespace Go.Proofs.YthihdddlneclmaaDoor
open Go.RowKit





end Go.Proofs.YthihdddlneclmaaDoor

namespace Go.Proofs.YthihdddlneclmaaDoor
open Go.RowKit

theorem val_fn2 {ns : List Nd} {ws : List (List UInt8)} {nums ks : List Int} {ps : Int} (h : allB ns (ks.take (ks.length - 1)) (isB [5]) = true) (hw : wordsR ⟨4, ws, nums, ks, ps⟩ 1 1 = true) (hn : noneR ⟨4, ws, nums, ks, ps⟩ = true) (hk : 0 < ks.length) (hl : kdR ns ⟨4, ws, nums, ks, ps⟩ (ks.length - 1) = 7) : validB ns ⟨4, ws, nums, ks, ps⟩ = true := by
  have hx : ks[ks.length - 1]? = some (ks[ks.length - 1]'(by omega)) := List.getElem?_eq_getElem (by omega)
  have e : ks = ks.take (ks.length - 1) ++ [ks[ks.length - 1]'(by omega)] := by
    have := List.take_add_one (l := ks) (i := ks.length - 1)
    rw [hx, show ks.length - 1 + 1 = ks.length by omega, List.take_length] at this
    exact this
  refine val_fn e h hw hn ?_
  unfold kdR at hl
  dsimp only at hl
  rwa [atI_of hx] at hl


end Go.Proofs.YthihdddlneclmaaDoor

namespace Go.Proofs.YthihdddlneclmaaDoor
open Go.RowKit

def lastW (ns : List Nd) (l : List Int) : Int := match l.getLast? with
  | none => -1
  | some k => whichB ns k
theorem rises_push {ns : List Nd} {k : Int} : ∀ (l : List Int), risesB ns l = true → lastW ns l < whichB ns k → risesB ns (l ++ [k]) = true
  | [], _, _ => rfl
  | [x], _, h => by
    have h : whichB ns x < whichB ns k := h
    show (decide (whichB ns x < whichB ns k) && risesB ns [k]) = true
    rw [decide_eq_true h]
    rfl
  | x :: y :: r, h, hl => by
    rw [risesB, Bool.and_eq_true] at h
    show (decide (whichB ns x < whichB ns y) && risesB ns ((y :: r) ++ [k])) = true
    rw [h.1, rises_push (y :: r) h.2 (by
      have e : (x :: y :: r).getLast? = (y :: r).getLast? := by simp [List.getLast?_cons]
      unfold lastW at hl ⊢
      rwa [e] at hl)]
    rfl
theorem last_push {ns : List Nd} {ks : List Int} {i q : Nat} {last u : Int} {dk dp : Int} {dw : List (List UInt8)} {dn dks : List Int} (hP : allB ns (ks.take i) (isB [6]) = true ∧ risesB ns (ks.take i) = true ∧ lastW ns (ks.take i) = last) (hz : ks[i]? = some (q : Int)) (hd : ns[q]? = some ⟨dk, dw, dn, dks, dp⟩) (h6 : dk = 6) (hu : dn = [u]) (hl : last < u) :
    allB ns (ks.take (i + 1)) (isB [6]) = true ∧ risesB ns (ks.take (i + 1)) = true ∧ lastW ns (ks.take (i + 1)) = u := by
  obtain ⟨h1, h2, h3⟩ := hP
  have e : ks.take (i + 1) = ks.take i ++ [(q : Int)] := by rw [List.take_add_one, hz]; rfl
  have hw : whichB ns (q : Int) = u := whichB_cons (k := q) hd hu
  refine ⟨?_, ?_, ?_⟩
  · unfold allB at h1 ⊢
    rw [e, List.all_append, h1, List.all_cons, kindAt_of hd, h6]
    rfl
  · rw [e]
    exact rises_push _ h2 (by rw [h3, hw]; exact hl)
  · rw [e]
    unfold lastW
    rw [List.getLast?_concat]
    exact hw
theorem val_param1 {ns : List Nd} {ws : List (List UInt8)} {nums ks : List Int} {ps : Int} (hw : wordsR ⟨5, ws, nums, ks, ps⟩ 1 1 = true) (hn : noneR ⟨5, ws, nums, ks, ps⟩ = true) (hk : ks.length = 0) : validB ns ⟨5, ws, nums, ks, ps⟩ = true := by
  obtain ⟨a, b, c⟩ := wr_says hw
  obtain rfl : nums = [] := none_says hn
  obtain rfl := List.length_eq_zero_iff.mp hk
  refine val_of a rfl ?_
  show (hasB _ 1 0 && arePB ns [] [] || hasB _ 2 3 && contractB ns _) = true
  rw [has_of (a := 1) (b := 0) (by show ws.length = 1; omega) rfl]
  rfl
theorem val_param2 {ns : List Nd} {ws : List (List UInt8)} {nums ks : List Int} {ps y ya yb : Int} (hw : wordsR ⟨5, ws, nums, ks, ps⟩ 2 2 = true) (hy : nums = [y, ya, yb]) (h0 : 0 ≤ y) (h4 : y ≤ 4) (hf : (ya = 0 ∧ yb = 0) ∨ fracR ⟨5, ws, nums, ks, ps⟩ = true) (ha : allB ns ks (isB [6]) = true) (hr : risesB ns ks = true) : validB ns ⟨5, ws, nums, ks, ps⟩ = true := by
  obtain ⟨a, b, c⟩ := wr_says hw
  have hf' : (ya = 0 ∧ yb = 0) ∨ (1 ≤ ya ∧ ya < 1000000000000000000 ∧ 1 ≤ yb ∧ yb < 1000000000000000000) := by
    rcases hf with h | h
    · exact .inl h
    · exact .inr (frac_says hy h)
  subst hy
  refine val_of a (by simp [numbersB]; omega) ?_
  show (hasB _ 1 0 && arePB ns ks [] || hasB _ 2 3 && (decide (y ≤ 4) && ((ya == 0 && yb == 0) || (decide (1 ≤ ya) && decide (1 ≤ yb))) && allB ns ks (isB [6]) && risesB ns ks)) = true
  have hz : ((ya == 0 && yb == 0) || (decide (1 ≤ ya) && decide (1 ≤ yb))) = true := by
    rcases hf' with ⟨rfl, rfl⟩ | ⟨f1, f2, f3, f4⟩
    · rfl
    · rw [decide_eq_true f1, decide_eq_true f3, Bool.or_comm]; rfl
  rw [has_of (a := 2) (b := 3) (by show ws.length = 2; omega) rfl, hz, ha, hr, decide_eq_true h4, Bool.or_comm]
  rfl

end Go.Proofs.YthihdddlneclmaaDoor

namespace Go.Proofs.YthihdddlneclmaaDoor
open Go.RowKit

theorem ok_mk {P : Prop} {b : Bool} (h : b = true → P) : OkB P (.returned (.bool b)) := ⟨b, rfl, h⟩








end Go.Proofs.YthihdddlneclmaaDoor

namespace Go.Proofs.YthihdddlneclmaaDoor
open Go.RowKit

theorem linked_inside {ns : List Nd} (h : LinkedP ns) : Inside ns := fun i d hd => (h.2 i d hd).2
/-- A listed node, its cells and its slices. -/
theorem node_full {w : World} {v : Value} {ns : List Nd} (hN : NodesAt w v ns) {q : Nat} (hq : q < ns.length) : ∃ (d : Nd) (ad : Addr) (cp : Nat) (B1 B2 B3 : Option Addr) (e1 e2 e3 : Nat), ns[q]? = some d ∧ v = .slice (some ad) ns.length cp ∧ NdAt w ((.slice B1 d.words.length e1, .slice B2 d.nums.length e2, .slice B3 d.kids.length e3), d) ∧ ∀ wr : World, Below w.heap.size w wr →
    wr.cell? (ad.add (q * 5)) = some (.int .i64 d.kind) ∧ wr.cell? ⟨(ad.add (q * 5)).block, (ad.add (q * 5)).off + 1, none⟩ = some (.slice B1 d.words.length e1) ∧ wr.cell? ⟨(ad.add (q * 5)).block, (ad.add (q * 5)).off + 2, none⟩ = some (.slice B2 d.nums.length e2) ∧ wr.cell? ⟨(ad.add (q * 5)).block, (ad.add (q * 5)).off + 3, none⟩ = some (.slice B3 d.kids.length e3) ∧ wr.cell? ⟨(ad.add (q * 5)).block, (ad.add (q * 5)).off + 4, none⟩ = some (.int .i64 d.pos) := by
  obtain ⟨A, c, rs, rfl, g2, g3, g4, g5, g6⟩ := hN
  obtain ⟨y, hy⟩ : ∃ y, rs[q]? = some y := ⟨_, List.getElem?_eq_getElem (by have := congrArg List.length g4; rw [List.length_map] at this; omega)⟩
  have hd : ns[q]? = some y.2 := by rw [← g4, List.getElem?_map, hy]; rfl
  obtain ⟨ad, rfl, _⟩ := nodes_cells g5 (Below.refl _ _) hy (by omega)
  have hn := g6 y (List.mem_of_getElem? hy)
  obtain ⟨⟨B1, e1, h1, j1⟩, ⟨B2, e2, h2, j2⟩, B3, e3, h3, j3⟩ := id hn
  refine ⟨y.2, ad, c, B1, B2, B3, e1, e2, e3, hd, rfl, ⟨⟨B1, e1, rfl, j1⟩, ⟨B2, e2, rfl, j2⟩, B3, e3, rfl, j3⟩, fun wr hb => ?_⟩
  obtain ⟨ad', e, d0, d1, d2, d3, d4⟩ := nodes_cells g5 hb hy (by omega)
  injection e with e
  subst e
  rw [h1] at d1
  rw [h2] at d2
  rw [h3] at d3
  exact ⟨d0, d1, d2, d3, d4⟩
end Go.Proofs.YthihdddlneclmaaDoor

namespace Go.Proofs.YthihdddlneclmaaDoor
open Go.RowKit

def FewN (ns : List Nd) : Prop := ns.length ≤ 1000 ∧ ∀ d ∈ ns, d.words.length ≤ 1000
set_option maxHeartbeats 8000000 in
theorem rsmall2_any (w : World) (v : Value) (ns : List Nd) (hN : NodesAt w v ns) (hs : SizedN ns) :
    Calls Tryd.prog 5 #[v] w fun e w' => OkB (FewN ns) e ∧ Below w.heap.size w w' := by
  obtain ⟨A, c, rfl⟩ : ∃ A c, v = .slice A ns.length c := by obtain ⟨A, c, _, e, _⟩ := hN; exact ⟨A, c, e⟩
  have hm : ns.length ≤ maxLen := by obtain ⟨_, _, _, e, a, b, _⟩ := hN; omega
  have HN := Lib.hid (And.intro hN (And.intro hm hs))
  clear hN hm hs
  go_enter Tryd.func5, Tryd.ntmps5
  go_wp2_with fail
  go_loopg [3, 4] ns.length (fun gk v3 v4 wr => ∃ (z i : Nat), v3 = .int .i64 (z : Int) ∧ v4 = .int .i64 i ∧ i ≤ ns.length ∧ gk = ns.length - i ∧ Below w.heap.size w wr ∧ ns.length ≤ z ∧ ∀ d ∈ ns.take i, d.words.length ≤ z)
  case atStart => exact ⟨ns.length, 0, rfl, rfl, Nat.zero_le _, rfl, Below.refl _ _, Nat.le_refl _, fun d hd => by cases hd⟩
  case round =>
    obtain ⟨z, i, rfl, rfl, hi, hgk, hb, hlz, hall⟩ := hrel
    by_cases hin : i < ns.length
    · have ti : (i : Int) < (ns.length : Int) := by omega
      by_cases hz : (z : Int) ≤ 1000
      · obtain ⟨d, ad, cp, B1, B2, B3, e1, e2, e3, hd, ev, hI, hc⟩ := node_full HN.out.1 hin
        injection ev with ea _ ec
        subst ea ec
        obtain ⟨m0, m1, m2, m3, m4⟩ := hc _ hb
        have ti2 : (0 : Int) ≤ (i : Int) := by omega
        have wi : IntKind.i64.wrap ((i : Int) + 1) = (i : Int) + 1 := IntWalk.i64_in _ (by have := HN.out.2.1; unfold maxLen at this; omega)
        have hsz := HN.out.2.2 d (List.mem_of_getElem? hd)
        have wz1 : IntKind.i64.wrap ((z : Int) + (d.words.length : Int)) = (z : Int) + (d.words.length : Int) := IntWalk.i64_in _ (by omega)
        have wz2 : IntKind.i64.wrap ((z : Int) + (d.words.length : Int) + (d.nums.length : Int)) = (z : Int) + (d.words.length : Int) + (d.nums.length : Int) := IntWalk.i64_in _ (by omega)
        have wz3 : IntKind.i64.wrap ((z : Int) + (d.words.length : Int) + (d.nums.length : Int) + (d.kids.length : Int)) = (z : Int) + (d.words.length : Int) + (d.nums.length : Int) + (d.kids.length : Int) := IntWalk.i64_in _ (by omega)
        have nx : ∀ x ∈ ns.take (i + 1), x.words.length ≤ z + d.words.length + d.nums.length + d.kids.length := fun x hx => by
          rw [List.take_add_one, hd] at hx
          rcases List.mem_append.1 hx with h | h
          · have := hall x h; omega
          · have : x = d := by simpa using h
            rw [this]; omega
        have HI := Lib.hid (And.intro hgk (And.intro hin (And.intro hb (And.intro hlz nx))))
        clear hgk hin hb hi hd hI hc hlz hall hsz nx
        obtain ⟨dk, dw, dn, dks, dp⟩ := d
        dsimp only at m0 m1 m2 m3 m4 wz1 wz2 wz3 HI
        generalize dw.length = a1 at *
        generalize dn.length = a2 at *
        generalize dks.length = a3 at *
        go_upto_region 5 with fail
        go_region
        all_goals
          go_wp2_with fail
          go_roundg (ns.length - (i + 1))
          case measure => have := HI.out; omega
          case rel => exact ⟨z + a1 + a2 + a3, i + 1, by push_cast; rfl, by push_cast; rfl, by have := HI.out; omega, rfl, HI.out.2.2.1.drew, by have := HI.out; omega, HI.out.2.2.2.2⟩
      · have hz2 : 1000 < (z : Int) := by omega
        have HB := Lib.hid hb
        clear hgk hb hi hin hlz hall
        go_wp2_with fail
        go_ret
        exact ⟨ok_no, HB.out⟩
    · have ti : ¬ (i : Int) < (ns.length : Int) := by omega
      have hin2 : i = ns.length := by omega
      have HB := Lib.hid hb
      by_cases hz : (z : Int) ≤ 1000
      · have HF := Lib.hid (show FewN ns from ⟨by omega, fun d hd => by have := hall d (by rw [hin2, List.take_length]; exact hd); omega⟩)
        clear hgk hb hi hin hlz hall hin2
        go_wp2_with fail
        go_ret
        exact ⟨ok_yes HF.out, HB.out⟩
      · clear hgk hb hi hin hlz hall hin2
        go_wp2_with fail
        go_ret
        exact ⟨ok_no, HB.out⟩
end Go.Proofs.YthihdddlneclmaaDoor

namespace Go.Proofs.YthihdddlneclmaaDoor
open Go.RowKit

set_option maxHeartbeats 8000000 in
theorem rsmall_any (w : World) (v : Value) (ns : List Nd) (hN : NodesAt w v ns) :
    Calls Tryd.prog 5 #[v] w fun e w' => OkB True e ∧ Below w.heap.size w w' := by
  obtain ⟨A, c, rfl⟩ : ∃ A c, v = .slice A ns.length c := by obtain ⟨A, c, _, e, _⟩ := hN; exact ⟨A, c, e⟩
  have hm : ns.length ≤ maxLen := by obtain ⟨_, _, _, e, a, b, _⟩ := hN; omega
  have HN := Lib.hid (And.intro hN hm)
  clear hN hm
  go_enter Tryd.func5, Tryd.ntmps5
  go_wp2_with fail
  go_loopg [3, 4] ns.length (fun gk v3 v4 wr => ∃ (z : Int) (i : Nat), v3 = .int .i64 z ∧ v4 = .int .i64 i ∧ i ≤ ns.length ∧ gk = ns.length - i ∧ Below w.heap.size w wr)
  case atStart => exact ⟨_, 0, rfl, rfl, Nat.zero_le _, rfl, Below.refl _ _⟩
  case round =>
    obtain ⟨z, i, rfl, rfl, hi, hgk, hb⟩ := hrel
    by_cases hin : i < ns.length
    · have ti : (i : Int) < (ns.length : Int) := by omega
      by_cases hz : z ≤ 1000
      · obtain ⟨d, ad, cp, B1, B2, B3, e1, e2, e3, hd, ev, hI, hc⟩ := node_full HN.out.1 hin
        injection ev with ea _ ec
        subst ea ec
        obtain ⟨m0, m1, m2, m3, m4⟩ := hc _ hb
        have ti2 : (0 : Int) ≤ (i : Int) := by omega
        have wi : IntKind.i64.wrap ((i : Int) + 1) = (i : Int) + 1 := IntWalk.i64_in _ (by have := HN.out.2; unfold maxLen at this; omega)
        have HI := Lib.hid (And.intro hgk (And.intro hin hb))
        clear hgk hin hb hi hd hI hc
        obtain ⟨dk, dw, dn, dks, dp⟩ := d
        dsimp only at m0 m1 m2 m3 m4
        generalize dw.length = a1 at *
        generalize dn.length = a2 at *
        generalize dks.length = a3 at *
        go_upto_region 5 with fail
        go_region
        all_goals
          go_wp2_with fail
          go_roundg (ns.length - (i + 1))
          case measure => have := HI.out; omega
          case rel => exact ⟨_, i + 1, rfl, by push_cast; rfl, by have := HI.out; omega, rfl, HI.out.2.2.drew⟩
      · have hz2 : 1000 < z := by omega
        have HB := Lib.hid hb
        clear hgk hb hi hin
        go_wp2_with fail
        go_ret
        exact ⟨ok_yes trivial, HB.out⟩
    · have ti : ¬ (i : Int) < (ns.length : Int) := by omega
      have HB := Lib.hid hb
      clear hgk hb hi hin
      go_wp2_with fail
      go_ret
      exact ⟨ok_yes trivial, HB.out⟩
end Go.Proofs.YthihdddlneclmaaDoor

namespace Go.Proofs.YthihdddlneclmaaDoor
open Go.RowKit

theorem flat_at {α : Type} (f : Int → List α) : ∀ (l : List Int) (i : Nat) (a : α), (l.flatMap f)[i]? = some a → ∃ (o i' : Nat) (c : Int), c ∈ l ∧ i = o + i' ∧ (f c)[i']? = some a ∧ ∀ j b, (f c)[j]? = some b → (l.flatMap f)[o + j]? = some b
  | [], i, a, h => by simp at h
  | c :: r, i, a, h => by
    rw [List.flatMap_cons] at h
    by_cases q : i < (f c).length
    · rw [List.getElem?_append_left q] at h
      exact ⟨0, i, c, List.mem_cons_self, by omega, h, fun j b hj => by
        rw [List.flatMap_cons, Nat.zero_add, List.getElem?_append_left (List.getElem?_eq_some_iff.mp hj).1]
        exact hj⟩
    · rw [List.getElem?_append_right (by omega)] at h
      obtain ⟨o, i', c', h1, h2, h3, h4⟩ := flat_at f r _ a h
      refine ⟨(f c).length + o, i', c', List.mem_cons_of_mem _ h1, by omega, h3, fun j b hj => ?_⟩
      rw [List.flatMap_cons, List.getElem?_append_right (by omega), show (f c).length + o + j - (f c).length = o + j by omega]
      exact h4 j b hj
theorem preF_head (ns : List Nd) : ∀ (d : Nat) (k : Int), (preF ns d k)[0]? = some k
  | 0, k => by rw [preF]; rfl
  | d + 1, k => by rw [preF]; rfl
theorem pre_kids {ns : List Nd} (hI : Inside ns) : ∀ (d k : Nat), k < ns.length → ns.length ≤ k + d + 1 → ∀ (i a : Nat) (e : Nd), (preF ns d (k : Int))[i]? = some (a : Int) → ns[a]? = some e → ∀ c ∈ e.kids, ∃ j, i < j ∧ (preF ns d (k : Int))[j]? = some c
  | 0, k, hk, hn, i, a, e, h, he, c, hc => by
    rw [preF] at h
    obtain ⟨rfl, h⟩ : i = 0 ∧ (k : Int) = a := by
      cases i with
      | zero => exact ⟨rfl, by simpa using h⟩
      | succ i => simp at h
    have := hI a e he c hc
    omega
  | d + 1, k, hk, hn, i, a, e, h, he, c, hc => by
    have hd : ns[k]? = some ns[k] := List.getElem?_eq_getElem hk
    rw [preF, ndAt_of hd] at h ⊢
    cases i with
    | zero =>
      have : (k : Int) = a := by simpa using h
      obtain rfl : k = a := by omega
      obtain rfl : ns[k] = e := Option.some.inj (hd.symm.trans he)
      obtain ⟨n, hn'⟩ := List.mem_iff_getElem?.mp hc
      have hm : c ∈ ns[k].kids.flatMap (preF ns d) := List.mem_flatMap.mpr ⟨c, hc, List.mem_of_getElem? (preF_head ns d c)⟩
      obtain ⟨j, hj⟩ := List.mem_iff_getElem?.mp hm
      exact ⟨j + 1, by omega, by rw [List.getElem?_cons_succ]; exact hj⟩
    | succ i =>
      rw [List.getElem?_cons_succ] at h
      obtain ⟨o, i', c', h1, h2, h3, h4⟩ := flat_at (preF ns d) _ _ _ h
      have hb := hI k _ hd c' h1
      obtain ⟨c'', rfl⟩ : ∃ m : Nat, c' = m := ⟨c'.toNat, by omega⟩
      obtain ⟨j, j1, j2⟩ := pre_kids hI d c'' (by omega) (by omega) i' a e h3 he c hc
      exact ⟨o + j + 1, by omega, by rw [List.getElem?_cons_succ]; exact h4 j c j2⟩
section
variable {ns : List Nd} {p : List Int}
theorem links_inside (L : Links ns ns.length p) : Inside ns := fun i d hd k hk => by
  have := kid_par L hd hk
  omega
theorem pre_all (L : Links ns ns.length p) : ∀ (x : Nat), x < ns.length → (x : Int) ∈ preF ns ns.length ((0 : Nat) : Int) := by
  intro x
  induction x using Nat.strongRecOn with
  | ind x ih =>
    intro hx
    by_cases h0 : x = 0
    · subst h0
      exact List.mem_of_getElem? (preF_head ns _ _)
    · have hp := L.each x (by omega) hx
      obtain ⟨i, d, hi, hd, e, hm⟩ := L.at_ x hp
      have lt := kid_par L hd hm
      obtain ⟨j, hj⟩ := List.mem_iff_getElem?.mp (ih i (by omega) (by omega))
      obtain ⟨j', _, h⟩ := pre_kids (links_inside L) ns.length 0 (by omega) (by omega) j i d hj hd x hm
      exact List.mem_of_getElem? h
theorem pre_count (L : Links ns ns.length p) (hn : 0 < ns.length) : (preF ns ns.length ((0 : Nat) : Int)).length = ns.length := by
  have h1 := pre_len L ns.length 0 hn
  have hnd : ((List.range ns.length).map (fun i : Nat => (i : Int))).Nodup := List.pairwise_map.mpr (List.nodup_range.imp (fun h e => h (by omega)))
  have h2 := List.Nodup.length_le_of_subset (l₂ := preF ns ns.length ((0 : Nat) : Int)) hnd (fun y hy => by
    obtain ⟨x, hx, rfl⟩ := List.mem_map.mp hy
    exact pre_all L x (List.mem_range.mp hx))
  rw [List.length_map, List.length_range] at h2
  omega
end
/-- What a walk's order is. -/
structure Order (ns : List Nd) (W : List Int) : Prop where
  len : W.length = ns.length
  nodup : W.Nodup
  inside : ∀ x ∈ W, 0 ≤ x ∧ x < (ns.length : Int)
  first : W[0]? = some 0
  behind : ∀ (i a : Nat) (e : Nd), W[i]? = some (a : Int) → ns[a]? = some e → ∀ c ∈ e.kids, ∃ j, i < j ∧ W[j]? = some c
  each : ∀ x : Nat, x < ns.length → (x : Int) ∈ W
  kids : Inside ns
theorem walk_order {ns : List Nd} (h : rightN ns = true) : Order ns (walkT ns) ∧ 0 < ns.length ∧ ns.length ≤ 1500 := by
  obtain ⟨p, hp⟩ := right_par h
  have L := parT_links hp
  have f := parT_facts hp
  have e : walkT ns = preF ns ns.length ((0 : Nat) : Int) := by unfold walkT; rw [if_pos h]; rfl
  rw [e]
  exact ⟨⟨pre_count L (by omega), pre_nodup L _ 0 (by omega), fun x hx => by have := pre_up L _ 0 (by omega) x hx; omega, preF_head ns _ _, pre_kids (links_inside L) _ 0 (by omega) (by omega), pre_all L, links_inside L⟩, by omega, by omega⟩
/-- The places of the first ones. -/
def plK (W : List Int) (n : Nat) : Nat → List Int
  | 0 => List.replicate n 0
  | j + 1 => (plK W n j).set ((W[j]?).getD 0).toNat j
theorem plK_len (W : List Int) (n : Nat) : ∀ j, (plK W n j).length = n
  | 0 => List.length_replicate
  | j + 1 => by rw [plK, List.length_set, plK_len W n j]
section
variable {ns : List Nd} {W : List Int}
theorem plK_new (O : Order ns W) : ∀ (j : Nat), j ≤ W.length → ∀ x : Nat, x < ns.length → (∀ i, i < j → W[i]? ≠ some (x : Int)) → (plK W ns.length j)[x]? = some 0
  | 0, _, x, hx, _ => by rw [plK, List.getElem?_replicate, if_pos hx]
  | j + 1, hj, x, hx, h => by
    have hw : W[j]? = some W[j] := List.getElem?_eq_getElem (by omega)
    have hi := O.inside _ (List.mem_of_getElem? hw)
    rw [plK, hw, Option.getD_some, List.getElem?_set_ne (fun e => h j (by omega) (by rw [hw]; congr 1; omega))]
    exact plK_new O j (by omega) x hx (fun i hi => h i (by omega))
theorem plK_old (O : Order ns W) : ∀ (j : Nat), j ≤ W.length → ∀ (i x : Nat), i < j → W[i]? = some (x : Int) → (plK W ns.length j)[x]? = some (i : Int)
  | j + 1, hj, i, x, hij, h => by
    have hw : W[j]? = some W[j] := List.getElem?_eq_getElem (by omega)
    have hi := O.inside _ (List.mem_of_getElem? hw)
    have hx := O.inside _ (List.mem_of_getElem? h)
    rw [plK, hw, Option.getD_some]
    by_cases e : i = j
    · subst e
      have : W[i].toNat = x := by rw [hw] at h; have := Option.some.inj h; omega
      rw [this, List.getElem?_set_self (by rw [plK_len]; omega)]
    · have ne : W[j].toNat ≠ x := fun q => e ((List.getElem?_inj (by omega) O.nodup).mp (h.trans (by rw [hw]; congr 1; omega)))
      rw [List.getElem?_set_ne ne]
      exact plK_old O j (by omega) i x (by omega) h
theorem pl_rises (O : Order ns W) {a c : Nat} {e : Nd} (he : ns[a]? = some e) (hc : (c : Int) ∈ e.kids) : ∃ i j : Nat, (plK W ns.length ns.length)[a]? = some (i : Int) ∧ (plK W ns.length ns.length)[c]? = some (j : Int) ∧ (i : Int) < j := by
  obtain ⟨i, hi⟩ := List.mem_iff_getElem?.mp (O.each a (List.getElem?_eq_some_iff.mp he).1)
  obtain ⟨j, hij, hj⟩ := O.behind i a e hi he _ hc
  have il := (List.getElem?_eq_some_iff.mp hi).1
  have jl := (List.getElem?_eq_some_iff.mp hj).1
  have ol := O.len
  exact ⟨i, j, plK_old O _ (by omega) i a (by omega) hi, plK_old O _ (by omega) j c (by omega) hj, by omega⟩
end
end Go.Proofs.YthihdddlneclmaaDoor

namespace Go.Proofs.YthihdddlneclmaaDoor
open Go.RowKit

end Go.Proofs.YthihdddlneclmaaDoor
