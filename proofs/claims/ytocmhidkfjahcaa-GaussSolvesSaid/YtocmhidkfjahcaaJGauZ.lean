/-
  Plain: the reference's way through a system, beside package gauss's. (Template: by-name.py fills it.)
-/
import Derived.Test.YtocmhidkfjahcaaJGauX
import Derived.Test.YtocmhidkfjahcaaJGauY
import Derived.Test.YtocmhidkfjahcaaJH
namespace Go.Proofs.Ytocmhidkfjahcaa
open Go.RowKit

/-! ### Own forms -/
def trimT (t : Trm) : Trm := (trimL t.1, t.2)
theorem trimT_ok {t : Trm} (h : TrmOk t) : TrmOk (trimT t) := ⟨h.ok.trim, h.k, Nat.le_trans (trimL_len _) h.len⟩

theorem combOk_all {h : How} (h0 : h (0, 1) (0, 1) = ((0, 1), 0)) {l m : List (Int × Int)} : combOk h l m (max l.length m.length) ↔ ∀ i : Nat, (h (atL l i) (atL m i)).2 = 0 := by
  constructor
  · intro g i
    by_cases hi : i < max l.length m.length
    · exact g i hi
    · rw [atL_out (l := l) (.inr (by omega)), atL_out (l := m) (.inr (by omega)), h0]
  · exact fun g i _ => g i
theorem putT_ext {h : How} (hh : HowOk h) (h0 : h (0, 1) (0, 1) = ((0, 1), 0)) {l l' m : List (Int × Int)} {kx ky : Int × Int} (hl : AllOk l) (hl' : AllOk l') (hm : AllOk m) (e : ∀ k : Nat, atL l k = atL l' k) : putT h l m kx ky = putT h l' m kx ky := by
  unfold putT
  have c : combOk h l m (max l.length m.length) ↔ combOk h l' m (max l'.length m.length) := by
    rw [combOk_all h0, combOk_all h0]
    exact ⟨fun g i => by rw [← e]; exact g i, fun g i => by rw [e]; exact g i⟩
  by_cases g : (h kx ky).2 = 0 ∧ combOk h l m (max l.length m.length)
  · have g' := g
    rw [c] at g'
    rw [if_pos g, if_pos g', trim_ext (combL_ok hh hl hm g.2) (combL_ok hh hl' hm g'.2) fun k => ?_]
    rw [combL_at, combL_at]
    have z : ∀ a : List (Int × Int), ¬ k < max a.length m.length → (h (atL a k) (atL m k)).1 = (0, 1) := fun a q => by
      rw [atL_out (l := a) (.inr (by omega)), atL_out (l := m) (.inr (by omega)), h0]
    have e1 : (if k < max l.length m.length then (h (atL l k) (atL m k)).1 else (0, 1)) = (h (atL l k) (atL m k)).1 := by
      split
      · rfl
      · rename_i q; exact (z l q).symm
    have e2 : (if k < max l'.length m.length then (h (atL l' k) (atL m k)).1 else (0, 1)) = (h (atL l' k) (atL m k)).1 := by
      split
      · rfl
      · rename_i q; exact (z l' q).symm
    rw [e1, e2, e k]
  · rw [if_neg g, if_neg (fun q => g ⟨q.1, c.2 q.2⟩)]
theorem times_trim {t : Trm} (h : TrmOk t) {kb : Int × Int} (hb : OkR kb) : timesT (trimL t.1) t.2 kb = timesT t.1 t.2 kb := by
  unfold timesT
  rw [show rightT (trimL t.1) t.2.1 t.2.2 = true from right_mk (trimT_ok h).len (trimT_ok h).ok h.k, right_mk h.len h.ok h.k, putT_ext (scaleH_ok hb) (mulH_0 hb) h.ok.trim h.ok allOk_none fun k => atL_trim h.ok k]
theorem sum_trim {t : Trm} (h : TrmOk t) {m : List (Int × Int)} {ky : Int × Int} (hm : Wide m) (hy : Bd ky) : sumT (trimL t.1) m t.2 ky = sumT t.1 m t.2 ky := by
  unfold sumT
  rw [show rightT (trimL t.1) t.2.1 t.2.2 = true from right_mk (trimT_ok h).len (trimT_ok h).ok h.k, right_mk h.len h.ok h.k]
  by_cases g : rightT m ky.1 ky.2 = true
  · obtain ⟨_, a, _⟩ := right_parts g hm hy.1.1 hy.1.2 hy.2.1 hy.2.2
    rw [putT_ext addH_ok addH_00 h.ok.trim h.ok a fun k => atL_trim h.ok k]
  · rw [if_neg (fun q => g q.2), if_neg (fun q => g q.2)]
theorem has_trim {t : Trm} (h : TrmOk t) (v : Int) : prHas v (trimT t) = prHas v t := by
  unfold prHas trimT
  rw [atL_trim h.ok]
theorem div_trim {t : Trm} (h : TrmOk t) {v : Int} (hv : prHas v t = true) : divT (trimT t) v = divT t v := by
  have hn : (atL t.1 v).1 ≠ 0 := by unfold prHas at hv; simpa using hv
  unfold divT trimT
  dsimp only
  rw [atL_trim h.ok]
  exact times_trim h (okR_inv (h.ok.at v) hn)
theorem elim_trim {p t : Trm} {v : Int} (hp : TrmOk p) (h : TrmOk t) : elimO p v (trimT t) = (elimO p v t).map trimT := by
  unfold elimO
  by_cases hz : (atL t.1 v).1 = 0
  · have e1 : elimT t.1 t.2 p.1 p.2 v = (t.1, t.2, 0) := if_pos hz
    have e2 : elimT (trimT t).1 (trimT t).2 p.1 p.2 v = ((trimT t).1, (trimT t).2, 0) := if_pos (by unfold trimT; rw [atL_trim h.ok]; exact hz)
    rw [e1, e2]
    rfl
  · have hn : OkR (negH (atL t.1 v)) := okR_neg (h.ok.at v)
    have hw := timesT_wide (l := p.1) (kx := p.2) (kb := negH (atL t.1 v)) hp.ok.wide hp.k.wide hn.wide
    have e : elimT (trimT t).1 (trimT t).2 p.1 p.2 v = elimT t.1 t.2 p.1 p.2 v := by
      unfold elimT trimT
      dsimp only
      rw [atL_trim h.ok, if_neg hz, if_neg hz]
      by_cases g : (timesT p.1 p.2 (negH (atL t.1 v))).2.2 = 0
      · rw [if_pos g, if_pos g, sum_trim h hw.1 hw.2]
      · rw [if_neg g, if_neg g]
    rw [e]
    by_cases g : (elimT t.1 t.2 p.1 p.2 v).2.2 = 0
    · rw [if_pos g, Option.map_some]
      have o : trimL (elimT t.1 t.2 p.1 p.2 v).1 = (elimT t.1 t.2 p.1 p.2 v).1 := by
        by_cases g2 : (timesT p.1 p.2 (negH (atL t.1 v))).2.2 = 0
        · have e3 : elimT t.1 t.2 p.1 p.2 v = sumT t.1 (timesT p.1 p.2 (negH (atL t.1 v))).1 t.2 (timesT p.1 p.2 (negH (atL t.1 v))).2.1 := by
            unfold elimT
            rw [if_neg hz, if_pos g2]
          rw [e3] at g ⊢
          obtain ⟨_, _, _, _, _, _, P2⟩ := sum_put h.ok.wide hw.1 h.k.wide hw.2 g
          exact P2.own
        · unfold elimT at g
          rw [if_neg hz, if_neg g2] at g
          exact absurd g g2
      unfold trimT
      dsimp only
      rw [o]
    · rw [if_neg g]
      rfl
theorem mapE_trim {p : Trm} {v : Int} (hp : TrmOk p) : ∀ {l : List Trm}, (∀ t ∈ l, TrmOk t) → mapE (elimO p v) (l.map trimT) = (mapE (elimO p v) l).map (·.map trimT)
  | [], _ => rfl
  | x :: r, h => by
    rw [List.map_cons, mapE, mapE, elim_trim hp (h x (by simp)), mapE_trim hp fun t ht => h t (by simp [ht])]
    cases elimO p v x with
    | none => rfl
    | some u => cases mapE (elimO p v) r <;> rfl

def trim1 (s : SolT) : SolT := (s.1.map trimT, s.2)
theorem findIdx_map {f : Trm → Trm} {pr : Trm → Bool} : ∀ {l : List Trm}, (∀ t ∈ l, pr (f t) = pr t) → (l.map f).findIdx? pr = l.findIdx? pr
  | [], _ => rfl
  | x :: r, h => by
    rw [List.map_cons, List.findIdx?_cons, List.findIdx?_cons, h x (by simp), findIdx_map fun t ht => h t (by simp [ht])]
theorem erase_map {α β : Type} (f : α → β) : ∀ (l : List α) (i : Nat), (l.eraseIdx i).map f = (l.map f).eraseIdx i
  | [], _ => rfl
  | _ :: _, 0 => rfl
  | x :: l, i + 1 => by
    show f x :: (l.eraseIdx i).map f = f x :: (l.map f).eraseIdx i
    rw [erase_map f l i]
theorem step_trim {n k : Nat} {s : SolT} (h : SolOk n k s) (v : Int) : solveStep (trim1 s) v = (solveStep s v).map trim1 := by
  unfold solveStep trim1
  dsimp only
  rw [findIdx_map fun t ht => has_trim (h.l t ht) v]
  split
  · rfl
  · rename_i i hi
    obtain ⟨t, ht, hp⟩ := findIdx_some hi
    have tok := h.l t (List.mem_of_getElem? ht)
    rw [List.getElem?_map, ht, Option.map_some, Option.bind_some, Option.bind_some, div_trim tok hp]
    split
    · rename_i he
      have hd := div_ok tok hp he
      rw [← erase_map, mapE_trim hd fun u hu => h.l u (List.mem_of_mem_eraseIdx hu)]
      cases mapE (elimO ((divT t v).1, (divT t v).2.1) v) (s.1.eraseIdx i) with
      | none => rfl
      | some l => cases mapE (elimO ((divT t v).1, (divT t v).2.1) v) s.2.1 <;> rfl
    · rfl
theorem solveK_trim {ts : List Trm} (h : ∀ t ∈ ts, TrmOk t) : ∀ k : Nat, solveK (ts.map trimT) k = (solveK ts k).map trim1
  | 0 => rfl
  | k + 1 => by
    rw [solveK, solveK, solveK_trim h k]
    cases hs : solveK ts k with
    | none => rfl
    | some s => exact step_trim (solveK_ok h k s hs) k

/-! ### The terms that aren't taken -/
def freeT : List Trm → List Int → List Trm
  | t :: l, k :: tk => if k < 0 then t :: freeT l tk else freeT l tk
  | _, _ => []
theorem freeT_append : ∀ {a b : List Trm} {c d : List Int}, a.length = c.length → freeT (a ++ b) (c ++ d) = freeT a c ++ freeT b d
  | [], b, [], d, _ => rfl
  | x :: a, b, k :: c, d, h => by
    rw [List.cons_append, List.cons_append, freeT, freeT, freeT_append (by simpa using h)]
    split <;> rfl
theorem mem_freeT {t : Trm} : ∀ {l : List Trm} {tk : List Int}, t ∈ freeT l tk → ∃ (i : Nat) (k : Int), l[i]? = some t ∧ tk[i]? = some k ∧ k < 0
  | [], _, h => by simp [freeT] at h
  | _ :: _, [], h => by simp [freeT] at h
  | x :: l, k :: tk, h => by
    rw [freeT] at h
    split at h
    · rename_i hk
      rcases List.mem_cons.1 h with rfl | h
      · exact ⟨0, k, rfl, rfl, hk⟩
      · obtain ⟨i, z, a, b, c⟩ := mem_freeT h
        exact ⟨i + 1, z, a, b, c⟩
    · obtain ⟨i, z, a, b, c⟩ := mem_freeT h
      exact ⟨i + 1, z, a, b, c⟩
theorem freeT_mem {t : Trm} {k : Int} (hk : k < 0) : ∀ {l : List Trm} {tk : List Int} {i : Nat}, l[i]? = some t → tk[i]? = some k → t ∈ freeT l tk
  | [], _, _, h, _ => by simp at h
  | _ :: _, [], _, _, h => by simp at h
  | x :: l, z :: tk, 0, h, g => by
    obtain rfl := Option.some.inj h
    obtain rfl := Option.some.inj g
    rw [freeT, if_pos hk]
    exact List.mem_cons_self
  | x :: l, z :: tk, i + 1, h, g => by
    have := freeT_mem hk (l := l) (tk := tk) (i := i) h g
    rw [freeT]
    split
    · exact List.mem_cons_of_mem _ this
    · exact this
theorem freeT_all : ∀ (l : List Trm), freeT l (List.replicate l.length (-1)) = l
  | [] => rfl
  | x :: l => by
    rw [List.length_cons, List.replicate_succ, freeT, if_pos (by decide), freeT_all l]
theorem cut_at {α : Type} {l : List α} {i : Nat} {t : α} (h : l[i]? = some t) : l = l.take i ++ t :: l.drop (i + 1) := by
  have hl := get_lt h
  rw [List.getElem?_eq_getElem hl] at h
  rw [← Option.some.inj h, List.getElem_cons_drop, List.take_append_drop]
theorem freeT_cut {l : List Trm} {tk : List Int} {i : Nat} {t : Trm} {k : Int} (hl : tk.length = l.length) (h : l[i]? = some t) (g : tk[i]? = some k) :
    freeT l tk = freeT (l.take i) (tk.take i) ++ (if k < 0 then t :: freeT (l.drop (i + 1)) (tk.drop (i + 1)) else freeT (l.drop (i + 1)) (tk.drop (i + 1))) := by
  have e := freeT_append (a := l.take i) (c := tk.take i) (b := t :: l.drop (i + 1)) (d := k :: tk.drop (i + 1)) (by rw [List.length_take, List.length_take, hl])
  rw [← cut_at h, ← cut_at g] at e
  rw [e, freeT]
theorem mapE_append {f : Trm → Option Trm} : ∀ {a b c d : List Trm}, mapE f a = some c → mapE f b = some d → mapE f (a ++ b) = some (c ++ d)
  | [], b, c, d, h, g => by
    obtain rfl : [] = c := by simpa [mapE] using h
    exact g
  | x :: a, b, c, d, h, g => by
    rw [mapE, Option.bind_eq_some_iff] at h
    obtain ⟨u, hu, h⟩ := h
    obtain ⟨r, hr, rfl⟩ := Option.map_eq_some_iff.1 h
    rw [List.cons_append, mapE, hu, Option.bind_some, mapE_append hr g]
    rfl
theorem mapE_free {f : Trm → Option Trm} : ∀ {l us : List Trm} {tk : List Int}, us.length = l.length → (∀ (j : Nat) (t : Trm), l[j]? = some t → ∃ u, us[j]? = some u ∧ f t = some u) → mapE f (freeT l tk) = some (freeT us tk)
  | [], us, tk, h, _ => by
    obtain rfl := List.eq_nil_of_length_eq_zero h
    cases tk <;> rfl
  | x :: l, [], _, h, _ => by cases h
  | x :: l, u :: us, [], h, g => rfl
  | x :: l, u :: us, k :: tk, h, g => by
    have ih := mapE_free (f := f) (l := l) (us := us) (tk := tk) (by simpa using h) fun j t hj => g (j + 1) t hj
    obtain ⟨u', hu, hf⟩ := g 0 x rfl
    obtain rfl := Option.some.inj hu
    rw [freeT, freeT]
    split
    · rw [mapE, hf, Option.bind_some, ih]
      rfl
    · exact ih
theorem mapE_of {f : Trm → Option Trm} {l us : List Trm} (h : us.length = l.length) (g : ∀ (j : Nat) (t : Trm), l[j]? = some t → ∃ u, us[j]? = some u ∧ f t = some u) : mapE f l = some us := by
  have := mapE_free (tk := List.replicate l.length (-1)) h g
  rw [freeT_all] at this
  rw [this]
  congr 1
  rw [← h]
  exact freeT_all us

/-! ### Side by side -/
structure Beside (n : Nat) (s : SolT) (l : List Trm) (tk od : List Int) : Prop where
  ll : l.length = n
  tl : tk.length = n
  free : s.1 = freeT l tk
  ol : od.length = s.2.1.length
  at_ : ∀ (m : Nat) (o : Int), od[m]? = some o → ∃ (i : Nat) (t : Trm) (z : Int), o = i ∧ l[i]? = some t ∧ s.2.1[m]? = some t ∧ tk[i]? = some z ∧ 0 ≤ z
  cover : ∀ (i : Nat) (z : Int), tk[i]? = some z → 0 ≤ z → ∃ m : Nat, od[m]? = some (i : Int)

theorem Beside.start (ts : List Trm) : Beside ts.length (ts, [], []) ts (List.replicate ts.length (-1)) [] := by
  refine ⟨rfl, List.length_replicate, (freeT_all ts).symm, rfl, fun m o h => by simp at h, fun i z h hz => ?_⟩
  rw [List.getElem?_replicate] at h
  split at h
  · have := Option.some.inj h
    omega
  · cases h
theorem Beside.none_ {n : Nat} {s : SolT} {l : List Trm} {tk od : List Int} {v : Int} (h : Beside n s l tk od) (hf : FirstOf v l tk (-1)) : solveStep s v = some s := by
  have e : s.1.findIdx? (prHas v) = none := by
    rw [List.findIdx?_eq_none_iff]
    intro t ht
    rw [h.free] at ht
    obtain ⟨i, k, a, b, c⟩ := mem_freeT ht
    rcases hf with ⟨_, hf⟩ | ⟨j, e, _⟩
    · have := hf i t k a b
      unfold selF at this
      rw [decide_eq_true c, Bool.true_and] at this
      exact this
    · omega
  unfold solveStep
  rw [e]
theorem Beside.found {n : Nat} {s : SolT} {l : List Trm} {tk od : List Int} {v : Int} {i : Nat} (h : Beside n s l tk od) (hf : FirstOf v l tk i) :
    ∃ (t : Trm) (k : Int), l[i]? = some t ∧ tk[i]? = some k ∧ k < 0 ∧ prHas v t = true ∧ s.1 = freeT (l.take i) (tk.take i) ++ t :: freeT (l.drop (i + 1)) (tk.drop (i + 1)) ∧
      s.1.findIdx? (prHas v) = some (freeT (l.take i) (tk.take i)).length := by
  rcases hf with ⟨e, _⟩ | ⟨j, e, ⟨t, k, a, b, c⟩, d⟩
  · omega
  obtain rfl : i = j := by omega
  unfold selF at c
  rw [Bool.and_eq_true, decide_eq_true_eq] at c
  have e := freeT_cut (by rw [h.tl, h.ll]) a b
  rw [if_pos c.1, ← h.free] at e
  refine ⟨t, k, a, b, c.1, c.2, e, idx_some (t := t) ?_ c.2 ?_⟩
  · rw [e, List.getElem?_append_right (Nat.le_refl _), Nat.sub_self]
    rfl
  · rw [e, List.take_left, List.any_eq_false]
    intro u hu
    obtain ⟨j, z, p, q, r⟩ := mem_freeT hu
    rw [List.getElem?_take] at p q
    split at p
    · rename_i hj
      rw [if_pos hj] at q
      have := d j u z hj p q
      unfold selF at this
      rw [decide_eq_true r, Bool.true_and] at this
      rw [this]
      decide
    · cases p
theorem erase_mid {α : Type} : ∀ (a : List α) (t : α) (b : List α), (a ++ t :: b).eraseIdx a.length = a ++ b
  | [], _, _ => rfl
  | x :: a, t, b => by
    show x :: (a ++ t :: b).eraseIdx a.length = x :: (a ++ b)
    rw [erase_mid a t b]
theorem Beside.over {n : Nat} {s : SolT} {l : List Trm} {tk od : List Int} {v : Int} {i : Nat} {t : Trm} (h : Beside n s l tk od) (hf : FirstOf v l tk i) (ht : l[i]? = some t) (hb : (divT t v).2.2 ≠ 0 ∨ TakBad ((divT t v).1, (divT t v).2.1) v i l) : solveStep s v = none := by
  obtain ⟨t', k, a, b, c, d, e, f⟩ := h.found hf
  rw [ht] at a
  obtain rfl := Option.some.inj a
  have g : s.1[(freeT (l.take i) (tk.take i)).length]? = some t := by
    rw [e, List.getElem?_append_right (Nat.le_refl _), Nat.sub_self]
    rfl
  unfold solveStep
  rw [f]
  dsimp only
  rw [g, Option.bind_some]
  by_cases he : (divT t v).2.2 = 0
  rotate_left
  · exact if_neg he
  rw [if_pos he]
  rcases hb with hb | ⟨j, u, hj, hu⟩
  · exact absurd he hb
  have hji : j ≠ i := fun q => by
    unfold takF at hu
    rw [if_pos q] at hu
    cases hu
  have hn : elimO ((divT t v).1, (divT t v).2.1) v u = none := by
    unfold takF at hu
    rw [if_neg hji] at hu
    exact hu
  have hjl := get_lt hj
  obtain ⟨z, hz⟩ : ∃ z, tk[j]? = some z := ⟨_, List.getElem?_eq_getElem (by rw [h.tl, ← h.ll]; exact hjl)⟩
  by_cases hz0 : z < 0
  · have hm : u ∈ s.1.eraseIdx (freeT (l.take i) (tk.take i)).length := by
      rw [e, erase_mid, List.mem_append]
      rcases Nat.lt_or_ge j i with q | q
      · exact .inl (freeT_mem hz0 (i := j) (by rw [List.getElem?_take, if_pos q]; exact hj) (by rw [List.getElem?_take, if_pos q]; exact hz))
      · exact .inr (freeT_mem hz0 (i := j - (i + 1)) (by rw [List.getElem?_drop, show i + 1 + (j - (i + 1)) = j by omega]; exact hj) (by rw [List.getElem?_drop, show i + 1 + (j - (i + 1)) = j by omega]; exact hz))
    rw [mapE_bad hn hm]
    rfl
  · obtain ⟨m, hm⟩ := h.cover j z hz (by omega)
    obtain ⟨i', u', _, q1, q2, q3, _⟩ := h.at_ m j hm
    obtain rfl : j = i' := by omega
    rw [hj] at q2
    obtain rfl := Option.some.inj q2
    rw [mapE_bad hn (List.mem_of_getElem? q3)]
    cases mapE (elimO ((divT t v).1, (divT t v).2.1) v) (s.1.eraseIdx (freeT (l.take i) (tk.take i)).length) <;> rfl
theorem Beside.next {n : Nat} {s : SolT} {l us : List Trm} {tk od : List Int} {v : Int} {i : Nat} {t : Trm} (h : Beside n s l tk od) (hv : 0 ≤ v) (hf : FirstOf v l tk i) (ht : l[i]? = some t) (he : (divT t v).2.2 = 0) (hu : TakOk ((divT t v).1, (divT t v).2.1) v i l us) :
    ∃ r, solveStep s v = some r ∧ Beside n r us (tk.set i v) (od ++ [(i : Int)]) ∧ r.2.2 = s.2.2 ++ [v] := by
  obtain ⟨t', k, a, b, c, d, e, f⟩ := h.found hf
  rw [ht] at a
  obtain rfl := Option.some.inj a
  have g : s.1[(freeT (l.take i) (tk.take i)).length]? = some t := by
    rw [e, List.getElem?_append_right (Nat.le_refl _), Nat.sub_self]
    rfl
  have hil := get_lt ht
  have itk := get_lt b
  have other : ∀ (j : Nat) (x : Trm), j ≠ i → l[j]? = some x → ∃ u, us[j]? = some u ∧ elimO ((divT t v).1, (divT t v).2.1) v x = some u := fun j x hj hx => by
    obtain ⟨u, q1, q2⟩ := hu.2 j x hx
    unfold takF at q2
    rw [if_neg hj] at q2
    exact ⟨u, q1, q2⟩
  have own : us[i]? = some ((divT t v).1, (divT t v).2.1) := by
    obtain ⟨u, q1, q2⟩ := hu.2 i t ht
    unfold takF at q2
    rw [if_pos rfl] at q2
    rw [q1, q2]
  have m1 : mapE (elimO ((divT t v).1, (divT t v).2.1) v) (freeT (l.take i) (tk.take i)) = some (freeT (us.take i) (tk.take i)) := by
    refine mapE_free (by rw [List.length_take, List.length_take, hu.1]) fun j x hx => ?_
    rw [List.getElem?_take] at hx ⊢
    split at hx
    · rename_i q
      rw [if_pos q]
      exact other j x (by omega) hx
    · cases hx
  have m2 : mapE (elimO ((divT t v).1, (divT t v).2.1) v) (freeT (l.drop (i + 1)) (tk.drop (i + 1))) = some (freeT (us.drop (i + 1)) (tk.drop (i + 1))) := by
    refine mapE_free (by rw [List.length_drop, List.length_drop, hu.1]) fun j x hx => ?_
    rw [List.getElem?_drop] at hx ⊢
    exact other _ x (by omega) hx
  have ne : ∀ (m j : Nat), od[m]? = some (j : Int) → j ≠ i := fun m j hm q => by
    obtain ⟨i', _, z, q1, _, _, q4, q5⟩ := h.at_ m j hm
    obtain rfl : j = i' := by omega
    rw [q, b] at q4
    have := Option.some.inj q4
    omega
  obtain ⟨Q, hQ, HQ⟩ : ∃ Q, mapE (elimO ((divT t v).1, (divT t v).2.1) v) s.2.1 = some Q ∧ ∀ (m j : Nat), od[m]? = some (j : Int) → ∃ x, us[j]? = some x ∧ Q[m]? = some x := by
    have all : ∀ (m : Nat) (x : Trm), s.2.1[m]? = some x → ∃ u, elimO ((divT t v).1, (divT t v).2.1) v x = some u := fun m x hx => by
      obtain ⟨o, ho⟩ : ∃ o, od[m]? = some o := ⟨_, List.getElem?_eq_getElem (by rw [h.ol]; exact get_lt hx)⟩
      obtain ⟨j, x', _, rfl, q2, q3, _⟩ := h.at_ m o ho
      rw [hx] at q3
      obtain rfl := Option.some.inj q3
      obtain ⟨u, _, q⟩ := other j x (ne m j ho) q2
      exact ⟨u, q⟩
    cases hq : mapE (elimO ((divT t v).1, (divT t v).2.1) v) s.2.1 with
    | none =>
      exfalso
      have none_ : ∀ (f : Trm → Option Trm) (y : List Trm), mapE f y = none → ∃ x ∈ y, f x = none := by
        intro f y
        induction y with
        | nil => intro q; simp [mapE] at q
        | cons x r ih =>
          intro q
          cases hx : f x with
          | none => exact ⟨x, by simp, hx⟩
          | some u =>
            rw [mapE, hx, Option.bind_some, Option.map_eq_none_iff] at q
            obtain ⟨x', q1, q2⟩ := ih q
            exact ⟨x', by simp [q1], q2⟩
      obtain ⟨x, q1, q2⟩ := none_ _ _ hq
      obtain ⟨m, hm⟩ := List.mem_iff_getElem?.1 q1
      obtain ⟨u, q3⟩ := all m x hm
      rw [q2] at q3
      cases q3
    | some Q =>
      refine ⟨Q, rfl, fun m j hm => ?_⟩
      obtain ⟨j', x, _, q1, q2, q3, _⟩ := h.at_ m j hm
      obtain rfl : j = j' := by omega
      obtain ⟨u, q4, q5⟩ := other j x (ne m j hm) q2
      obtain ⟨u', q6, q7⟩ := mapE_at hq m x q3
      rw [q5] at q7
      exact ⟨u, q4, by rw [q6, ← Option.some.inj q7]⟩
  have hQl := mapE_len hQ
  refine ⟨(freeT (us.take i) (tk.take i) ++ freeT (us.drop (i + 1)) (tk.drop (i + 1)), Q ++ [((divT t v).1, (divT t v).2.1)], s.2.2 ++ [v]), ?_, ?_, rfl⟩
  · unfold solveStep
    rw [f]
    dsimp only
    rw [g, Option.bind_some, if_pos he, e, erase_mid, mapE_append m1 m2, Option.bind_some, hQ]
    rfl
  · have ts : (tk.set i v)[i]? = some v := by rw [List.getElem?_set_self itk]
    refine ⟨by rw [hu.1, h.ll], by rw [List.length_set, h.tl], ?_, ?_, ?_, ?_⟩
    · have q := freeT_cut (l := us) (tk := tk.set i v) (i := i) (by rw [List.length_set, h.tl, hu.1, h.ll]) own ts
      rw [if_neg (by omega), List.take_set_of_le (Nat.le_refl _), List.drop_set_of_lt (by omega)] at q
      exact q.symm
    · rw [List.length_append, List.length_append, h.ol, hQl]
      rfl
    · intro m o hm
      rcases Nat.lt_or_ge m od.length with q | q
      · rw [List.getElem?_append_left q] at hm
        obtain ⟨j, x, z, rfl, q2, q3, q4, q5⟩ := h.at_ m o hm
        obtain ⟨u, q6, q7⟩ := HQ m j hm
        exact ⟨j, u, z, rfl, q6, by rw [List.getElem?_append_left (by rw [hQl, ← h.ol]; exact q)]; exact q7, by rw [List.getElem?_set_ne (fun w => ne m j hm w.symm)]; exact q4, q5⟩
      · have hml := get_lt hm
        rw [List.length_append, List.length_singleton] at hml
        obtain rfl : m = od.length := by omega
        rw [List.getElem?_append_right (Nat.le_refl _), Nat.sub_self] at hm
        obtain rfl := Option.some.inj hm
        exact ⟨i, _, v, rfl, own, by rw [h.ol, ← hQl, List.getElem?_append_right (Nat.le_refl _), Nat.sub_self]; rfl, ts, hv⟩
    · intro j z hz hz0
      by_cases q : j = i
      · exact ⟨od.length, by rw [List.getElem?_append_right (Nat.le_refl _), Nat.sub_self, q]; rfl⟩
      · rw [List.getElem?_set_ne (fun w => q w.symm)] at hz
        obtain ⟨m, hm⟩ := h.cover j z hz hz0
        exact ⟨m, by rw [List.getElem?_append_left (get_lt hm)]; exact hm⟩
end Go.Proofs.Ytocmhidkfjahcaa
