/-
  Plain: what package bound's answer says: unsolvable, or solvable, in rational numbers. (Template: by-name.py fills it.)
-/
import Derived.Test.YtkinbbhbencipaaJO
import Derived.Test.YtkinbbhbencipaaJGauU
import Derived.Test.YtkinbbhbencipaaJL
namespace Go.Proofs.Ytkinbbhbencipaa
open Go.RowKit

theorem lv_sumQ (c x : Nat → Rat) : ∀ n, lv c x n = sumQ (fun k => c k * x k) n
  | 0 => rfl
  | n + 1 => by rw [lv, sumQ, lv_sumQ c x n]
theorem lval_ev (t : Trm) (x : Nat → Rat) : lval (linOf t) x = ev t x := by
  unfold lval linOf ev
  rw [lv_sumQ]
  dsimp only
  grind

/-- A term without the selected variables, by subtracting the selected terms. -/
def subRow : List (Trm × Int) → Trm → Option Trm
  | [], t => some t
  | s :: r, t => (scaleO s.1 (negH (atL t.1 s.2))).bind fun m => (addO t m).bind fun u => subRow r u
theorem sub_step {s : Trm} {v : Int} {t m u : Trm} (hs : TrmOk s) (ht : TrmOk t) (h1 : scaleO s (negH (atL t.1 v)) = some m) (h2 : addO t m = some u) :
    TrmOk u ∧ (∀ i, co u i = co t i - co t v * co s i) ∧ ∀ x, ev u x = ev t x - co t v * ev s x := by
  have hn := okR_neg (ht.ok.at v)
  obtain ⟨a1, a2⟩ := scaleO_q hs hn h1
  have om := scaleO_ok hs hn h1
  obtain ⟨b1, b2⟩ := addO_q ht om h2
  have hq : q (negH (atL t.1 v)) = - co t v := neg_q _
  have e1 : ∀ i, co u i = co t i - co t v * co s i := fun i => by rw [b1 i, a1 i, hq]; grind
  have e2 : q u.2 = q t.2 - co t v * q s.2 := by rw [b2, a2, hq]; grind
  refine ⟨addO_ok ht om h2, e1, fun x => ?_⟩
  have := sumQ_add (fun k => co u k * x k) (fun k => co t k * x k) (fun k => co s k * x k) (- co t v) (fun k => by rw [e1 k]; grind) 8
  unfold ev
  rw [e2, this]
  grind
theorem sub_is : ∀ (sel : List (Trm × Int)) (t u : Trm), (∀ s ∈ sel, TrmOk s.1) → TrmOk t → subRow sel t = some u →
    TrmOk u ∧ (∀ x, (∀ s ∈ sel, ev s.1 x = 0) → ev u x = ev t x) ∧ ∀ v : Int, (∀ s ∈ sel, co s.1 v = if s.2 = v then 1 else 0) → (co t v = 0 ∨ ∃ s ∈ sel, s.2 = v) → co u v = 0
  | [], t, u, _, ht, h => by
    obtain rfl := Option.some.inj h
    exact ⟨ht, fun x _ => rfl, fun v _ hv => by
      rcases hv with a | ⟨s, hs, _⟩
      · exact a
      · cases hs⟩
  | s :: r, t, u, hs, ht, h => by
    rw [subRow] at h
    cases e1 : scaleO s.1 (negH (atL t.1 s.2)) with
    | none => rw [e1] at h; cases h
    | some m =>
      rw [e1] at h
      simp only [Option.bind_some] at h
      cases e2 : addO t m with
      | none => rw [e2] at h; cases h
      | some w =>
        rw [e2] at h
        simp only [Option.bind_some] at h
        obtain ⟨k1, k2, k3⟩ := sub_step (hs s (by simp)) ht e1 e2
        obtain ⟨i1, i2, i3⟩ := sub_is r w u (fun y hy => hs y (List.mem_cons_of_mem _ hy)) k1 h
        refine ⟨i1, fun x hx => ?_, fun v hu hv => ?_⟩
        · rw [i2 x (fun y hy => hx y (List.mem_cons_of_mem _ hy)), k3 x, hx s (by simp)]
          grind
        · refine i3 v (fun y hy => hu y (List.mem_cons_of_mem _ hy)) ?_
          by_cases g : s.2 = v
          · left
            rw [k2 v, hu s (by simp), if_pos g, g]
            grind
          · rcases hv with a | ⟨y, hy, a⟩
            · left
              rw [k2 v, hu s (by simp), if_neg g, a]
              grind
            · rcases List.mem_cons.1 hy with rfl | hy
              · exact absurd a g
              · exact .inr ⟨y, hy, a⟩
/-- All rows so. -/
def subR (sel : List (Trm × Int)) : List Rw → Option (List Rw)
  | [] => some []
  | r :: l => (subRow sel r.2).bind fun t => (subR sel l).map fun l' => (r.1, t) :: l'
theorem subR_is (sel : List (Trm × Int)) (hs : ∀ s ∈ sel, TrmOk s.1) : ∀ (l l' : List Rw), Good l → subR sel l = some l' →
    Good l' ∧ (∀ x, (∀ s ∈ sel, ev s.1 x = 0) → ((∀ r ∈ l', satR r x) ↔ ∀ r ∈ l, satR r x)) ∧ ∀ v : Int, (∀ s ∈ sel, co s.1 v = if s.2 = v then 1 else 0) → (∃ s ∈ sel, s.2 = v) → ∀ r ∈ l', co r.2 v = 0
  | [], l', hg, h => by
    obtain rfl := Option.some.inj h
    exact ⟨hg, fun x _ => Iff.rfl, fun v _ _ r hr => by cases hr⟩
  | r :: l, l', hg, h => by
    rw [subR] at h
    cases e1 : subRow sel r.2 with
    | none => rw [e1] at h; cases h
    | some t =>
      rw [e1] at h
      simp only [Option.bind_some] at h
      cases e2 : subR sel l with
      | none => rw [e2] at h; cases h
      | some l2 =>
        rw [e2] at h
        obtain rfl := Option.some.inj h
        obtain ⟨k1, k2, k3⟩ := sub_is sel r.2 t hs (hg r (by simp)).1 e1
        obtain ⟨i1, i2, i3⟩ := subR_is sel hs l l2 (fun y hy => hg y (List.mem_cons_of_mem _ hy)) e2
        refine ⟨fun y hy => ?_, fun x hx => ?_, fun v h1 h2 y hy => ?_⟩
        · rcases List.mem_cons.1 hy with rfl | hy
          · exact ⟨k1, (hg r (by simp)).2⟩
          · exact i1 y hy
        · have same : satR (r.1, t) x ↔ satR r x := by
            unfold satR satL rowL
            dsimp only
            rw [lval_ev, lval_ev, k2 x hx]
          simp only [List.forall_mem_cons]
          rw [same, i2 x hx]
        · rcases List.mem_cons.1 hy with rfl | hy
          · exact k3 v h1 (.inr h2)
          · exact i3 v h1 h2 y hy

/-- Is a row so, of any of the three kinds? -/
def satF (r : Rw) (x : Nat → Rat) : Prop := if r.1 = 0 then ev r.2 x = 0 else satR r x
/-- What comes ahead of the witness: the rows that are left, the choices, what the equations come to. -/
def frontT (l : List Rw) : Sum Int (List Rw × List Choice × List Trm × List Int) :=
  if 400 < l.length ∨ l.any wrongR = true then .inl 2
  else if (solveT (eqsR l)).2 ≠ 0 then .inl (solveT (eqsR l)).2
  else match subR ((solveT (eqsR l)).1.1.zip (solveT (eqsR l)).1.2) (othR l) with
    | none => .inl 2
    | some rows => match elimR (freeK (solveT (eqsR l)).1.2 8) rows [] with
      | none => .inl 2
      | some res => if res.1.any (fun r => !metB r.1 r.2.2.1) = true then .inl 1 else .inr (res.1, res.2, (solveT (eqsR l)).1.1, (solveT (eqsR l)).1.2)

theorem free_mem (P : List Int) : ∀ (k : Nat) (v : Int), v ∈ freeK P k ↔ (∃ n : Nat, v = n ∧ n < k) ∧ v ∉ P
  | 0, v => by simp [freeK]
  | k + 1, v => by
    unfold freeK
    by_cases h : P.contains (k : Int) = true
    · rw [if_pos h, free_mem P k v]
      constructor
      · rintro ⟨⟨n, a, b⟩, c⟩; exact ⟨⟨n, a, by omega⟩, c⟩
      · rintro ⟨⟨n, a, b⟩, c⟩
        refine ⟨⟨n, a, ?_⟩, c⟩
        have : n ≠ k := fun e => by subst e; subst a; exact c (by simpa using h)
        omega
    · rw [if_neg h, List.mem_append, free_mem P k v, List.mem_singleton]
      constructor
      · rintro (⟨⟨n, a, b⟩, c⟩ | rfl)
        · exact ⟨⟨n, a, by omega⟩, c⟩
        · exact ⟨⟨k, rfl, by omega⟩, by simpa using h⟩
      · rintro ⟨⟨n, a, b⟩, c⟩
        by_cases e : n = k
        · subst e; exact .inr a
        · exact .inl ⟨⟨n, a, by omega⟩, c⟩
end Go.Proofs.Ytkinbbhbencipaa

namespace Go.Proofs.Ytkinbbhbencipaa
open Go.RowKit

def WideR (l : List Rw) : Prop := ∀ r ∈ l, Wide r.2.1 ∧ Bd r.2.2
theorem right_trm {r : Rw} (hw : Wide r.2.1 ∧ Bd r.2.2) (h : wrongR r = false) : TrmOk r.2 ∧ (r.1 = 0 ∨ r.1 = 1 ∨ r.1 = 2) := by
  unfold wrongR prWrong at h
  simp only [Bool.or_eq_false_iff, Bool.not_eq_false', Bool.or_eq_true, beq_iff_eq] at h
  obtain ⟨p, a, b⟩ := right_parts h.2 hw.1 hw.2.1.1 hw.2.1.2 hw.2.2.1 hw.2.2.2
  exact ⟨⟨a, b, p⟩, by rcases h.1 with (q | q) | q <;> simp [q]⟩
theorem eqs_mem {l : List Rw} {t : Trm} : t ∈ eqsR l ↔ ∃ r ∈ l, r.1 = 0 ∧ r.2 = t := by
  unfold eqsR
  simp only [List.mem_map, List.mem_filter, beq_iff_eq]
  constructor
  · rintro ⟨r, ⟨a, b⟩, c⟩; exact ⟨r, a, b, c⟩
  · rintro ⟨r, a, b, c⟩; exact ⟨r, ⟨a, b⟩, c⟩
theorem oth_mem {l : List Rw} {r : Rw} : r ∈ othR l ↔ r ∈ l ∧ r.1 ≠ 0 := by
  unfold othR
  simp
theorem satF_all {l : List Rw} {x : Nat → Rat} : (∀ r ∈ l, satF r x) ↔ (∀ t ∈ eqsR l, ev t x = 0) ∧ ∀ r ∈ othR l, satR r x := by
  constructor
  · intro h
    refine ⟨fun t ht => ?_, fun r hr => ?_⟩
    · obtain ⟨r, a, b, rfl⟩ := eqs_mem.1 ht
      have := h r a
      unfold satF at this
      rwa [if_pos b] at this
    · obtain ⟨a, b⟩ := oth_mem.1 hr
      have := h r a
      unfold satF at this
      rwa [if_neg b] at this
  · rintro ⟨h1, h2⟩ r hr
    unfold satF
    split
    · rename_i g
      exact h1 _ (eqs_mem.2 ⟨r, hr, g, rfl⟩)
    · rename_i g
      exact h2 r (oth_mem.2 ⟨hr, g⟩)
theorem zip_get {a : List Trm} {p : List Int} {s : Trm × Int} (h : s ∈ a.zip p) : ∃ j : Nat, a[j]? = some s.1 ∧ p[j]? = some s.2 := by
  obtain ⟨j, hj⟩ := List.mem_iff_getElem?.1 h
  rw [List.getElem?_zip_eq_some] at hj
  exact ⟨j, hj.1, hj.2⟩
theorem unit_zip {a : List Trm} {p : List Int} (S : Solved a p) {v : Int} (hv : v ∈ p) : ∀ s ∈ a.zip p, co s.1 v = if s.2 = v then 1 else 0 := by
  intro s hs
  obtain ⟨j, h1, h2⟩ := zip_get hs
  obtain ⟨i, hi⟩ := List.mem_iff_getElem?.1 hv
  rw [S.unit i j v s.1 hi h1]
  by_cases e : i = j
  · subst e
    rw [hi] at h2
    rw [if_pos rfl, if_pos (Option.some.inj h2).symm]
  · rw [if_neg e, if_neg]
    intro q
    rw [q] at h2
    rcases Nat.lt_or_ge i j with g | g
    · have := S.po.inc i j _ _ g hi h2; omega
    · have := S.po.inc j i _ _ (by omega) h2 hi; omega
theorem has_zip {a : List Trm} {p : List Int} (S : Solved a p) {v : Int} (hv : v ∈ p) : ∃ s ∈ a.zip p, s.2 = v := by
  obtain ⟨i, hi⟩ := List.mem_iff_getElem?.1 hv
  have hl := get_lt hi
  rw [← S.po.len] at hl
  exact ⟨(a[i], v), List.mem_iff_getElem?.2 ⟨i, by rw [List.getElem?_zip_eq_some]; exact ⟨List.getElem?_eq_getElem hl, hi⟩⟩, rfl⟩
theorem ev_const {t : Trm} (h : ∀ n : Nat, n < 8 → co t n = 0) (x : Nat → Rat) : ev t x = q t.2 := by
  unfold ev
  rw [sumQ_zero _ 8 (fun i hi => by rw [h i hi]; grind)]
  grind
theorem q_sign {x : Int × Int} (h : OkR x) : (0 ≤ q x ↔ 0 ≤ x.1) ∧ (0 < q x ↔ 0 < x.1) := by
  obtain ⟨d, e, v⟩ := id h
  have hd : 0 < (x.2 : Rat) := by rw [e]; exact_mod_cast v.pos
  have hq : q x * (x.2 : Rat) = (x.1 : Rat) := by have := h.ne; unfold q; grind
  have pos : 0 < q x ↔ 0 < x.1 := by
    unfold q
    rw [Rat.lt_div_iff hd]
    constructor
    · intro g
      have : (0 : Rat) < (x.1 : Rat) := by grind
      exact_mod_cast this
    · intro g
      have : (0 : Rat) < (x.1 : Rat) := by exact_mod_cast g
      grind
  refine ⟨?_, pos⟩
  have zero := q_eq h
  constructor
  · intro g
    by_cases z : q x = 0
    · have := zero.1 z; omega
    · have := pos.1 (by grind); omega
  · intro g
    by_cases z : x.1 = 0
    · rw [zero.2 z]; exact Rat.le_refl
    · exact Rat.le_of_lt (pos.2 (by omega))
theorem met_sat {r : Rw} (hg : TrmOk r.2 ∧ (r.1 = 1 ∨ r.1 = 2)) (h : ∀ n : Nat, n < 8 → co r.2 n = 0) (x : Nat → Rat) : satR r x ↔ metB r.1 r.2.2.1 = true := by
  obtain ⟨s1, s2⟩ := q_sign hg.1.k
  unfold satR satL rowL below_ metB
  dsimp only
  rw [lval_ev, ev_const h]
  rcases hg.2 with e | e <;> rw [e] <;> simp [s1, s2]

/-- What stands behind the equations and the substitution. -/
theorem front_parts {l : List Rw} (hw : WideR l) (hw2 : l.any wrongR = false) (hz : (solveT (eqsR l)).2 = 0) {rows : List Rw} (hs : subR ((solveT (eqsR l)).1.1.zip (solveT (eqsR l)).1.2) (othR l) = some rows)
    {res : List Rw × List Choice} (he : elimR (freeK (solveT (eqsR l)).1.2 8) rows [] = some res) :
    (∀ x, (∀ r ∈ l, satF r x) → ∀ r ∈ res.1, metB r.1 r.2.2.1 = true) ∧ ((∀ r ∈ res.1, metB r.1 r.2.2.1 = true) → ∃ x, ∀ r ∈ l, satF r x) := by
  have hr : ∀ r ∈ l, TrmOk r.2 ∧ (r.1 = 0 ∨ r.1 = 1 ∨ r.1 = 2) := fun r hr => right_trm (hw r hr) (by
    have := List.any_eq_false.1 hw2 r hr
    simpa using this)
  have he0 : ∀ t ∈ eqsR l, Wide t.1 ∧ Bd t.2 := fun t ht => by
    obtain ⟨r, a, _, rfl⟩ := eqs_mem.1 ht
    exact hw r a
  have go : Good (othR l) := fun r h => by
    obtain ⟨a, b⟩ := oth_mem.1 h
    obtain ⟨k1, k2⟩ := hr r a
    exact ⟨k1, by rcases k2 with c | c | c; (· exact absurd c b); (· exact .inl c); (· exact .inr c)⟩
  cases hq : solveT (eqsR l) with
  | mk ap z =>
  obtain ⟨a, p⟩ := ap
  rw [hq] at hz hs he
  dsimp only at hz hs he
  subst hz
  have S := solved_of he0 hq
  have keep := keeps_sat he0 hq
  obtain ⟨g1, g2, g3⟩ := subR_is (a.zip p) (fun s hs => by obtain ⟨j, h1, _⟩ := zip_get hs; exact S.ok _ (List.mem_of_getElem? h1)) (othR l) rows go hs
  obtain ⟨e1, e2, e3, e4⟩ := elimR_is (freeK p 8) rows [] res (fun v hv => by obtain ⟨⟨n, a, b⟩, _⟩ := (free_mem p 8 v).1 hv; exact ⟨n, a, b⟩) g1 he
  have zp : ∀ v ∈ p, ∀ r ∈ rows, co r.2 v = 0 := fun v hv => g3 v (unit_zip S hv) (has_zip S hv)
  have zc : ∀ r ∈ res.1, ∀ n : Nat, n < 8 → co r.2 n = 0 := fun r h n hn => by
    by_cases g : (n : Int) ∈ p
    · exact e2 n (.inr (zp n g)) r h
    · exact e2 n (.inl ((free_mem p 8 n).2 ⟨⟨n, rfl, hn⟩, g⟩)) r h
  have zs : ∀ x, (∀ t ∈ a, ev t x = 0) → ∀ s ∈ a.zip p, ev s.1 x = 0 := fun x h s hs => by
    obtain ⟨j, h1, _⟩ := zip_get hs
    exact h _ (List.mem_of_getElem? h1)
  refine ⟨fun x hx r h => ?_, fun hm => ?_⟩
  · obtain ⟨x1, x2⟩ := satF_all.1 hx
    have ha := (keep x).1 x1
    have := e3 x ((g2 x (zs x ha)).2 x2) r h
    exact (met_sat (e1 r h) (zc r h) x).1 this
  · obtain ⟨y, _, hy⟩ := e4 (fun _ => 0) (fun r h => (met_sat (e1 r h) (zc r h) _).2 (hm r h))
    have ha := solF_solves S y
    refine ⟨solF a p y, satF_all.2 ⟨(keep _).2 ha, (g2 _ (zs _ ha)).1 fun r h => ?_⟩⟩
    have same : ev r.2 (solF a p y) = ev r.2 y := by
      unfold ev
      rw [sumQ_congr _ (fun k => co r.2 k * y k) 8 (fun i _ => by
        by_cases g : (i : Int) ∈ p
        · rw [zp i g r h]; grind
        · rw [solF_free (by simpa using g)])]
    have := hy r h
    unfold satR satL rowL at this ⊢
    dsimp only at this ⊢
    rw [lval_ev] at this ⊢
    rw [same]
    exact this

theorem front_unsat {l : List Rw} (hw : WideR l) (h : frontT l = .inl 1) (x : Nat → Rat) : ¬ ∀ r ∈ l, satF r x := by
  intro hx
  unfold frontT at h
  split at h
  · injection h with h; cases h
  · rename_i g
    have hw2 : l.any wrongR = false := by
      cases q : l.any wrongR with
      | false => rfl
      | true => exact absurd (.inr q) g
    split at h
    · rename_i g2
      injection h with h
      have he0 : ∀ t ∈ eqsR l, Wide t.1 ∧ Bd t.2 := fun t ht => by
        obtain ⟨r, a, _, rfl⟩ := eqs_mem.1 ht
        exact hw r a
      refine keeps_unsat (r := (solveT (eqsR l)).1) he0 (by rw [← h]) x (satF_all.1 hx).1
    · rename_i g2
      have g2 : (solveT (eqsR l)).2 = 0 := by omega
      split at h
      · injection h with h; cases h
      · rename_i rows hs
        split at h
        · injection h with h; cases h
        · rename_i res he
          split at h
          · rename_i g3
            obtain ⟨r, hr, hb⟩ := List.any_eq_true.1 g3
            have := (front_parts hw hw2 g2 hs he).1 x hx r hr
            rw [this] at hb
            cases hb
          · cases h
theorem front_sat {l : List Rw} (hw : WideR l) {f : List Rw × List Choice × List Trm × List Int} (h : frontT l = .inr f) : ∃ x, ∀ r ∈ l, satF r x := by
  unfold frontT at h
  split at h
  · cases h
  · rename_i g
    have hw2 : l.any wrongR = false := by
      cases q : l.any wrongR with
      | false => rfl
      | true => exact absurd (.inr q) g
    split at h
    · cases h
    · rename_i g2
      have g2 : (solveT (eqsR l)).2 = 0 := by omega
      split at h
      · cases h
      · rename_i rows hs
        split at h
        · cases h
        · rename_i res he
          split at h
          · cases h
          · rename_i g3
            refine (front_parts hw hw2 g2 hs he).2 fun r hr => ?_
            cases q : metB r.1 r.2.2.1 with
            | true => rfl
            | false => exact absurd (List.any_eq_true.2 ⟨r, hr, by rw [q]; rfl⟩) g3
end Go.Proofs.Ytkinbbhbencipaa
