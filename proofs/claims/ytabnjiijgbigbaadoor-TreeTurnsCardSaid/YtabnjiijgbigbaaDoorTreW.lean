/-
  Plain: a tree's parents; a walk has each node once. (Template: by-name.py fills it.)
-/
import Derived.Test.YtabnjiijgbigbaaDoorTreP
namespace Go.Proofs.YtabnjiijgbigbaaDoor
open Go.RowKit

theorem atI_get (p : List Int) (m : Nat) : atI p (m : Int) = (p[m]?).getD (-1) := by unfold atI; rw [Int.toNat_natCast]
theorem atI_putNe {p : List Int} {j m : Nat} (a : Int) (h : j ≠ m) : atI (p.set j a) (m : Int) = atI p m := by
  rw [atI_get, atI_get, List.getElem?_set_ne h]
theorem atI_putEq {p : List Int} {m : Nat} (a : Int) (h : m < p.length) : atI (p.set m a) (m : Int) = a := by
  rw [atI_get, List.getElem?_set_self h]; rfl
/-- What putting a node's kids says. -/
theorem kidsO_says (n a : Nat) : ∀ (x : List Int) (p q : List Int), p.length = n → kidsO n a x p = some q →
    (∀ m : Nat, 0 ≤ atI p m → atI q m = atI p m) ∧ (∀ k ∈ x, atI p k < 0 ∧ atI q k = a) ∧ x.Nodup ∧ (∀ m : Nat, (m : Int) ∉ x → atI q m = atI p m)
  | [], p, q, hn, h => by
    rw [kidsO] at h
    injection h with h
    subst h
    exact ⟨fun _ _ => rfl, (fun k hk => absurd hk List.not_mem_nil), List.nodup_nil, fun _ _ => rfl⟩
  | k :: r, p, q, hn, h => by
    rw [kidsO] at h
    split at h
    · cases h
    · rename_i hb
      obtain ⟨m, rfl⟩ : ∃ m : Nat, k = m := ⟨k.toNat, by omega⟩
      rw [Int.toNat_natCast] at h
      have hm : m < p.length := by omega
      obtain ⟨i1, i2, i3, i4⟩ := kidsO_says n a r (p.set m a) q (by rw [List.length_set]; exact hn) h
      have ea : atI (p.set m a) (m : Int) = a := atI_putEq _ hm
      have eq : atI q (m : Int) = a := by rw [i1 m (by rw [ea]; omega), ea]
      have nr : (m : Int) ∉ r := fun hr => by have := (i2 _ hr).1; rw [ea] at this; omega
      have hin := kidsO_in n a _ _ _ h
      refine ⟨fun j hj => ?_, fun y hy => ?_, List.nodup_cons.mpr ⟨nr, i3⟩, fun j hj => ?_⟩
      · have ne : m ≠ j := fun e => by subst e; omega
        rw [i1 j (by rw [atI_putNe _ ne]; exact hj), atI_putNe _ ne]
      · rcases List.mem_cons.mp hy with e | e
        · subst e
          exact ⟨by omega, eq⟩
        · obtain ⟨y', rfl⟩ : ∃ y' : Nat, y = y' := ⟨y.toNat, by have := hin y e; omega⟩
          have := i2 _ e
          refine ⟨?_, this.2⟩
          have ne : m ≠ y' := fun e' => nr (by rw [e']; exact e)
          rw [atI_putNe _ ne] at this
          exact this.1
      · have ne : m ≠ j := fun e => hj (by rw [e]; exact List.mem_cons_self)
        rw [i4 j (fun e => hj (List.mem_cons_of_mem _ e)), atI_putNe _ ne]
structure Links (ns : List Nd) (j : Nat) (p : List Int) : Prop where
  len : p.length = ns.length
  of : ∀ (i : Nat) (d : Nd), i < j → ns[i]? = some d → d.kids.Nodup ∧ ∀ k ∈ d.kids, (i : Int) < k ∧ k < (ns.length : Int) ∧ atI p k = i
  at_ : ∀ m : Nat, 0 ≤ atI p m → ∃ (i : Nat) (d : Nd), i < j ∧ ns[i]? = some d ∧ atI p m = i ∧ (m : Int) ∈ d.kids
  each : ∀ m : Nat, 0 < m → m < j → 0 ≤ atI p m
theorem parK_links (ns : List Nd) : ∀ (j : Nat) (p : List Int), j ≤ ns.length → parK ns j = some p → Links ns j p
  | 0, p, hj, h => by
    rw [parK] at h
    injection h with h
    subst h
    refine ⟨List.length_replicate, fun i d hi => absurd hi (Nat.not_lt_zero _), fun m hm => ?_, fun m _ h => absurd h (Nat.not_lt_zero _)⟩
    rw [atI_get, List.getElem?_replicate] at hm
    split at hm <;> simp at hm
  | j + 1, p, hj, h => by
    rw [parK] at h
    cases hq : parK ns j with
    | none => rw [hq] at h; cases h
    | some q =>
      rw [hq, Option.bind_some] at h
      have L := parK_links ns j q (by omega) hq
      split at h
      · cases h
      · rename_i hz
        obtain ⟨d, hd⟩ : ∃ d, ns[j]? = some d := ⟨_, List.getElem?_eq_getElem (by omega)⟩
        rw [ndAt_of hd] at h
        obtain ⟨i1, i2, i3, i4⟩ := kidsO_says _ _ _ _ _ L.len h
        have hin := kidsO_in _ _ _ _ _ h
        refine ⟨(kidsO_len _ _ _ _ _ h).trans L.len, fun i e hi he => ?_, fun m hm => ?_, fun m h0 h1 => ?_⟩
        · by_cases e' : i = j
          · subst e'
            obtain rfl : d = e := Option.some.inj (hd.symm.trans he)
            exact ⟨i3, fun k hk => ⟨(hin k hk).1, (hin k hk).2, (i2 k hk).2⟩⟩
          · obtain ⟨a, b⟩ := L.of i e (by omega) he
            refine ⟨a, fun k hk => ?_⟩
            obtain ⟨b1, b2, b3⟩ := b k hk
            obtain ⟨k', rfl⟩ : ∃ k' : Nat, k = k' := ⟨k.toNat, by omega⟩
            exact ⟨b1, b2, by rw [i1 k' (by omega)]; exact b3⟩
        · by_cases e' : (m : Int) ∈ d.kids
          · exact ⟨j, d, by omega, hd, (i2 _ e').2, e'⟩
          · rw [i4 m e'] at hm ⊢
            obtain ⟨i, d', a, b, c⟩ := L.at_ m hm
            exact ⟨i, d', by omega, b, c⟩
        · by_cases e' : m = j
          · have : 0 ≤ atI q (j : Int) := by omega
            rw [e', i1 j this]
            exact this
          · have := L.each m h0 (by omega)
            rw [i1 m this]
            exact this
theorem parT_links {ns : List Nd} {p : List Int} (h : parT ns = some p) : Links ns ns.length p := by
  unfold parT at h
  split at h
  · cases h
  · exact parK_links ns _ p (Nat.le_refl _) h

/-! ### Ancestors -/
/-- The node so many steps up. -/
def up (p : List Int) : Nat → Int → Int
  | 0, x => x
  | j + 1, x => up p j (atI p x)
theorem up_add (p : List Int) : ∀ (a b : Nat) (x : Int), up p (a + b) x = up p b (up p a x)
  | 0, b, x => by rw [Nat.zero_add]; rfl
  | a + 1, b, x => by rw [show a + 1 + b = (a + b) + 1 by omega]; exact up_add p a b (atI p x)
section
variable {ns : List Nd} {p : List Int}
theorem kid_par (L : Links ns ns.length p) {i : Nat} {d : Nd} (hd : ns[i]? = some d) {k : Int} (hk : k ∈ d.kids) : (i : Int) < k ∧ k < (ns.length : Int) ∧ atI p k = i :=
  (L.of i d (List.getElem?_eq_some_iff.mp hd).1 hd).2 k hk
theorem pre_up (L : Links ns ns.length p) : ∀ (d k : Nat), k < ns.length → ∀ x ∈ preF ns d (k : Int), (k : Int) ≤ x ∧ x < (ns.length : Int) ∧ ∃ j, up p j x = (k : Int)
  | 0, k, hk, x, hx => by
    rw [preF] at hx
    obtain rfl : x = k := by simpa using hx
    exact ⟨Int.le_refl _, by omega, 0, rfl⟩
  | d + 1, k, hk, x, hx => by
    rw [preF] at hx
    rcases List.mem_cons.mp hx with e | e
    · subst e
      exact ⟨Int.le_refl _, by omega, 0, rfl⟩
    · obtain ⟨c, hc, hx⟩ := List.mem_flatMap.mp e
      have hd : ns[k]? = some ns[k] := List.getElem?_eq_getElem hk
      rw [ndAt_of hd] at hc
      obtain ⟨b1, b2, b3⟩ := kid_par L hd hc
      obtain ⟨c', rfl⟩ : ∃ c' : Nat, c = c' := ⟨c.toNat, by omega⟩
      obtain ⟨a1, a2, j, a3⟩ := pre_up L d c' (by omega) x hx
      refine ⟨by omega, a2, j + 1, ?_⟩
      rw [up_add, a3]
      exact b3
/-- A parent stands ahead. -/
theorem par_lt (L : Links ns ns.length p) {m : Nat} (h : 0 ≤ atI p m) : atI p m < (m : Int) := by
  obtain ⟨i, d, hi, hd, e, hm⟩ := L.at_ m h
  have := kid_par L hd hm
  omega
theorem up_le (L : Links ns ns.length p) : ∀ (j : Nat) (x : Nat), 0 ≤ up p j x → up p j x ≤ (x : Int)
  | 0, x, h => Int.le_refl _
  | j + 1, x, h => by
    show up p j (atI p x) ≤ (x : Int)
    by_cases hx : 0 ≤ atI p x
    · obtain ⟨y, hy⟩ : ∃ y : Nat, atI p x = y := ⟨(atI p x).toNat, by omega⟩
      have l1 := par_lt L hx
      have h' : 0 ≤ up p j (atI p x) := h
      rw [hy] at h' l1 ⊢
      have := up_le L j y h'
      omega
    · exact absurd h (by
        show ¬ 0 ≤ up p j (atI p x)
        exact up_neg L j _ (by omega))
where
  up_neg (L : Links ns ns.length p) : ∀ (j : Nat) (x : Int), x < 0 → ¬ 0 ≤ up p j x
    | 0, x, h => by show ¬ 0 ≤ x; omega
    | j + 1, x, h => by
      show ¬ 0 ≤ up p j (atI p x)
      have e : atI p x = atI p ((0 : Nat) : Int) := by unfold atI; rw [show x.toNat = 0 by omega]; rfl
      have : atI p ((0 : Nat) : Int) < 0 := Int.not_le.mp fun q => by
        have := par_lt L q
        omega
      exact up_neg L j _ (by omega)
/-- Kids of one node have nothing below them in common. -/
theorem kids_apart (L : Links ns ns.length p) {i : Nat} {d : Nd} (hd : ns[i]? = some d) {c1 c2 : Int} (h1 : c1 ∈ d.kids) (h2 : c2 ∈ d.kids) {x : Int} {j1 j2 : Nat} (u1 : up p j1 x = c1) (u2 : up p j2 x = c2) : c1 = c2 := by
  have one : ∀ (c1 c2 : Int) (j1 j2 : Nat), c1 ∈ d.kids → c2 ∈ d.kids → up p j1 x = c1 → up p j2 x = c2 → j1 < j2 → False := fun c1 c2 j1 j2 h1 h2 u1 u2 hlt => by
    obtain ⟨m, rfl⟩ : ∃ m, j2 = j1 + (m + 1) := ⟨j2 - j1 - 1, by omega⟩
    obtain ⟨a1, _, a3⟩ := kid_par L hd h1
    obtain ⟨b1, _, b3⟩ := kid_par L hd h2
    rw [up_add, u1] at u2
    have u2 : up p m (atI p c1) = c2 := u2
    rw [a3] at u2
    have := up_le L m i (by omega)
    omega
  rcases Nat.lt_trichotomy j1 j2 with h | h | h
  · exact (one _ _ _ _ h1 h2 u1 u2 h).elim
  · subst h
    exact u1.symm.trans u2
  · exact (one _ _ _ _ h2 h1 u2 u1 h).elim
theorem pre_nodup (L : Links ns ns.length p) : ∀ (d k : Nat), k < ns.length → (preF ns d (k : Int)).Nodup
  | 0, k, hk => by rw [preF]; exact List.nodup_cons.mpr ⟨by simp, List.nodup_nil⟩
  | d + 1, k, hk => by
    rw [preF]
    have hd : ns[k]? = some ns[k] := List.getElem?_eq_getElem hk
    rw [ndAt_of hd]
    have nat : ∀ c ∈ ns[k].kids, ∃ c' : Nat, c = c' ∧ c' < ns.length ∧ (k : Int) < c := fun c hc => by
      have := kid_par L hd hc
      exact ⟨c.toNat, by omega, by omega, by omega⟩
    refine List.nodup_cons.mpr ⟨fun hx => ?_, ?_⟩
    · obtain ⟨c, hc, hx⟩ := List.mem_flatMap.mp hx
      obtain ⟨c', rfl, h1, h2⟩ := nat c hc
      have := (pre_up L d c' h1 _ hx).1
      omega
    · refine List.pairwise_flatMap.mpr ⟨fun c hc => ?_, ?_⟩
      · obtain ⟨c', rfl, h1, h2⟩ := nat c hc
        exact pre_nodup L d c' h1
      · refine List.Pairwise.imp_of_mem (R := fun a b => a ≠ b) (fun {a b} ha hb hne x hx y hy e => hne ?_) (L.of k _ hk hd).1
        obtain ⟨a', rfl, h1, _⟩ := nat a ha
        obtain ⟨b', rfl, h2, _⟩ := nat b hb
        subst e
        obtain ⟨_, _, j1, u1⟩ := pre_up L d a' h1 x hx
        obtain ⟨_, _, j2, u2⟩ := pre_up L d b' h2 x hy
        exact kids_apart L hd ha hb u1 u2
theorem pre_len (L : Links ns ns.length p) (d k : Nat) (hk : k < ns.length) : (preF ns d (k : Int)).length ≤ ns.length := by
  have := List.Nodup.length_le_of_subset (l₂ := (List.range ns.length).map (fun i : Nat => (i : Int))) (pre_nodup L d k hk) (fun x hx => by
    obtain ⟨a, b, _⟩ := pre_up L d k hk x hx
    exact List.mem_map.mpr ⟨x.toNat, List.mem_range.mpr (by omega), by omega⟩)
  simpa using this
end
end Go.Proofs.YtabnjiijgbigbaaDoor
