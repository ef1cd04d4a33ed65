/-
  The walks of slices.Clone of texts and of numbers. (Template: by-name.py fills it; gen/genTrbG.py writes it.)
-/
import Derived.Test.YtabnjiijgbigbaaDoorKG
import Derived.Test.YtabnjiijgbigbaaDoorKX
namespace Go.Proofs.YtabnjiijgbigbaaDoor
open Go.RowKit

/-- A node's place in an order. -/
def plc (W : List Int) (x : Int) : Int := ((plK W W.length W.length)[x.toNat]?).getD 0
def movedN (W : List Int) (d : Nd) : Nd := ⟨d.kind, d.words, d.nums, d.kids.map (plc W), d.pos⟩
/-- The tree in the order of its walk. -/
def builtT (ns : List Nd) (W : List Int) : List Nd := W.map fun x => movedN W (ndAt ns x)
section
variable {ns : List Nd} {W p : List Int}
theorem plc_of (O : Order ns W) {i x : Nat} (h : W[i]? = some (x : Int)) : plc W x = i := by
  unfold plc
  have := plK_old O W.length (Nat.le_refl _) i x (List.getElem?_eq_some_iff.mp h).1 h
  rw [Int.toNat_natCast]
  rw [O.len] at this ⊢
  rw [this]
  rfl
theorem built_len (O : Order ns W) : (builtT ns W).length = ns.length := by
  unfold builtT
  rw [List.length_map, O.len]
theorem built_at {i a : Nat} {e : Nd} (h : W[i]? = some (a : Int)) (he : ns[a]? = some e) : (builtT ns W)[i]? = some (movedN W e) := by
  unfold builtT
  rw [List.getElem?_map, h]
  show some (movedN W (ndAt ns a)) = _
  rw [ndAt_of he]
/-- What stands in a place of the order. -/
theorem in_order (O : Order ns W) {i : Nat} (h : i < ns.length) : ∃ (a : Nat) (e : Nd), W[i]? = some (a : Int) ∧ ns[a]? = some e := by
  have hw : W[i]? = some (W[i]'(by rw [O.len]; exact h)) := List.getElem?_eq_getElem (by rw [O.len]; exact h)
  have hi := O.inside _ (List.mem_of_getElem? hw)
  obtain ⟨a, ha⟩ : ∃ a : Nat, W[i]'(by rw [O.len]; exact h) = a := ⟨_, (Int.toNat_of_nonneg hi.1).symm⟩
  rw [ha] at hw hi
  exact ⟨a, ns[a]'(by omega), hw, List.getElem?_eq_getElem (by omega)⟩
theorem place_in (O : Order ns W) {x : Nat} (h : x < ns.length) : ∃ i : Nat, W[i]? = some (x : Int) ∧ plc W x = i ∧ i < ns.length := by
  obtain ⟨i, hi⟩ := List.mem_iff_getElem?.mp (O.each x h)
  exact ⟨i, hi, plc_of O hi, by have := (List.getElem?_eq_some_iff.mp hi).1; rw [O.len] at this; exact this⟩
theorem built_nd (O : Order ns W) {x : Nat} {e : Nd} (he : ns[x]? = some e) : ndAt (builtT ns W) (plc W x) = movedN W e := by
  obtain ⟨i, hi, hp, _⟩ := place_in O (List.getElem?_eq_some_iff.mp he).1
  rw [hp]
  exact ndAt_of (built_at hi he)
/-- A kid as a number of the list. -/
theorem kid_nat (hI : Inside ns) {a : Nat} {e : Nd} (he : ns[a]? = some e) {c : Int} (hc : c ∈ e.kids) : ∃ c' : Nat, c = c' ∧ c' < ns.length := by
  have := hI a e he c hc
  exact ⟨c.toNat, by omega, by omega⟩
theorem htF_built (O : Order ns W) : ∀ (f x : Nat), x < ns.length → htF (builtT ns W) f (plc W x) = htF ns f x
  | 0, x, _ => rfl
  | f + 1, x, h => by
    have he : ns[x]? = some ns[x] := List.getElem?_eq_getElem h
    rw [htF, htF, built_nd O he, ndAt_of he]
    congr 2
    show ((ns[x].kids.map (plc W)).map _) = _
    rw [List.map_map]
    apply List.map_congr_left
    intro c hc
    obtain ⟨c', rfl, hl⟩ := kid_nat O.kids he hc
    exact htF_built O f c' hl
theorem preF_built (O : Order ns W) : ∀ (f x : Nat), x < ns.length → preF (builtT ns W) f (plc W x) = (preF ns f x).map (plc W)
  | 0, x, _ => rfl
  | f + 1, x, h => by
    have he : ns[x]? = some ns[x] := List.getElem?_eq_getElem h
    rw [preF, preF, built_nd O he, ndAt_of he, List.map_cons]
    congr 1
    show (ns[x].kids.map (plc W)).flatMap _ = _
    rw [List.flatMap_map, List.map_flatMap]
    unfold List.flatMap
    congr 1
    apply List.map_congr_left
    intro c hc
    obtain ⟨c', rfl, hl⟩ := kid_nat O.kids he hc
    exact preF_built O f c' hl
/-- The parents of the tree built. -/
def parB (W p : List Int) : List Int := W.map fun x => if 0 ≤ atI p x then plc W (atI p x) else -1
theorem parB_at {i x : Nat} (h : W[i]? = some (x : Int)) : atI (parB W p) i = if 0 ≤ atI p x then plc W (atI p x) else -1 := by
  rw [atI_get]
  unfold parB
  rw [List.getElem?_map, h]
  rfl
theorem built_links (O : Order ns W) (L : Links ns ns.length p) : Links (builtT ns W) (builtT ns W).length (parB W p) := by
  have hl := built_len O
  rw [hl]
  refine ⟨by unfold parB; rw [List.length_map, O.len, hl], fun i d hi hd => ?_, fun m hm => ?_, fun m h0 hm => ?_⟩
  · obtain ⟨a, e, hw, he⟩ := in_order O hi
    obtain rfl : movedN W e = d := Option.some.inj ((built_at hw he).symm.trans hd)
    obtain ⟨nd, ks⟩ := L.of a e (List.getElem?_eq_some_iff.mp he).1 he
    have nd' : (e.kids.map (plc W)).Nodup := by
      refine List.pairwise_map.mpr (List.Pairwise.imp_of_mem (R := fun x y => x ≠ y) ?_ nd)
      intro x y hx hy hne hxy
      refine hne ?_
      obtain ⟨x', rfl, hx'⟩ := kid_nat O.kids he hx
      obtain ⟨y', rfl, hy'⟩ := kid_nat O.kids he hy
      obtain ⟨j1, w1, p1, _⟩ := place_in O hx'
      obtain ⟨j2, w2, p2, _⟩ := place_in O hy'
      rw [p1, p2] at hxy
      obtain rfl : j1 = j2 := by omega
      exact Option.some.inj (w1.symm.trans w2)
    refine ⟨nd', fun k hk => ?_⟩
    · obtain ⟨c, hc, rfl⟩ := List.mem_map.mp (show k ∈ e.kids.map (plc W) from hk)
      obtain ⟨c', rfl, hc'⟩ := kid_nat O.kids he hc
      obtain ⟨j, hij, hj⟩ := O.behind i a e hw he _ hc
      have hjl := (List.getElem?_eq_some_iff.mp hj).1
      rw [O.len] at hjl
      rw [plc_of O hj]
      refine ⟨by omega, by rw [hl]; omega, ?_⟩
      rw [parB_at hj, (ks _ hc).2.2, if_pos (by omega)]
      exact plc_of O hw
  · have hml : m < ns.length := by
      refine Classical.byContradiction fun q => ?_
      have : atI (parB W p) m = -1 := by
        rw [atI_get, List.getElem?_eq_none (by unfold parB; rw [List.length_map, O.len]; omega)]
        rfl
      omega
    obtain ⟨x, e, hw, he⟩ := in_order O hml
    rw [parB_at hw] at hm ⊢
    by_cases q : 0 ≤ atI p x
    · rw [if_pos q] at hm ⊢
      obtain ⟨a, d, ha, hd, ea, hx⟩ := L.at_ x q
      obtain ⟨i, wi, pi, hi⟩ := place_in O ha
      refine ⟨i, movedN W d, hi, built_at wi hd, by rw [ea]; exact pi, ?_⟩
      show (m : Int) ∈ d.kids.map (plc W)
      exact List.mem_map.mpr ⟨_, hx, plc_of O hw⟩
    · rw [if_neg q] at hm
      omega
  · obtain ⟨x, e, hw, he⟩ := in_order O hm
    have hx0 : x ≠ 0 := fun q => by
      subst q
      have := (List.getElem?_inj (by rw [O.len]; exact hm) O.nodup).mp (hw.trans O.first.symm)
      omega
    have q := L.each x (by omega) (List.getElem?_eq_some_iff.mp he).1
    rw [parB_at hw, if_pos q]
    obtain ⟨a, d, ha, _, ea, _⟩ := L.at_ x q
    obtain ⟨i, _, pi, _⟩ := place_in O ha
    rw [ea, pi]
    omega
/-- Parents that fit are found. -/
theorem parK_of (L : Links ns ns.length p) : ∀ j, j ≤ ns.length → ∃ q, parK ns j = some q
  | 0, _ => ⟨_, rfl⟩
  | j + 1, hj => by
    obtain ⟨q, hq⟩ := parK_of L j (by omega)
    have M := parK_links ns j q (by omega) hq
    have hd : ns[j]? = some ns[j] := List.getElem?_eq_getElem (by omega)
    obtain ⟨nd, r⟩ := L.of j _ (by omega) hd
    rw [parK, hq, Option.bind_some, ndAt_of hd]
    have ne : ¬ (0 < j ∧ atI q (j : Int) < 0) := fun ⟨a, b⟩ => by
      obtain ⟨i, d, hi, hdi, e, hm⟩ := L.at_ j (L.each j a (by omega))
      have h1 := kid_par L hdi hm
      have := ((M.of i d (by omega) hdi).2 _ hm).2.2
      omega
    rw [if_neg ne]
    refine kidsO_ok _ _ _ _ M.len nd (fun k hk => ⟨(r k hk).1, (r k hk).2.1, ?_⟩)
    refine Int.not_le.mp fun z => ?_
    obtain ⟨a, b, c⟩ := r k hk
    obtain ⟨m, rfl⟩ : ∃ m : Nat, k = m := ⟨k.toNat, by omega⟩
    obtain ⟨i, d, hi, hdi, _, hm⟩ := M.at_ m z
    have := (kid_par L hdi hm).2.2
    omega
theorem parT_found (L : Links ns ns.length p) (h0 : 0 < ns.length) (h1 : ns.length ≤ 1500) : ∃ q, parT ns = some q := by
  unfold parT
  rw [if_neg (by omega)]
  exact parK_of L _ (Nat.le_refl _)
theorem maxL_mem {l : List Int} {x : Int} (h : x ∈ l) : x ≤ maxL l := by
  cases l with
  | nil => cases h
  | cons a r =>
    rcases List.mem_cons.mp h with rfl | h
    · exact foldl_ge r _ _ (Int.le_refl _)
    · exact foldl_mem r _ _ h
theorem ht_le (L : Links ns ns.length p) : ∀ (f x : Nat), x < ns.length → htF ns f x + atI (depT p) x ≤ maxL (depT p) + 1
  | 0, x, h => by
    have hm : atI (depT p) x ∈ depT p := by
      have hl : x < (depT p).length := by unfold depT; rw [depK_len, L.len]; exact h
      rw [atI_get, List.getElem?_eq_getElem hl]
      exact List.getElem_mem hl
    have := maxL_mem hm
    rw [htF]
    omega
  | f + 1, x, h => by
    have he : ns[x]? = some ns[x] := List.getElem?_eq_getElem h
    have base := ht_le L 0 x h
    rw [htF] at base
    rw [htF, ndAt_of he]
    have : maxZ (ns[x].kids.map (htF ns f)) ≤ maxL (depT p) - atI (depT p) x := foldl_le _ 0 _ (by omega) (fun y hy => by
      obtain ⟨k, hk, rfl⟩ := List.mem_map.mp hy
      obtain ⟨k1, k2, k3⟩ := kid_par L he hk
      obtain ⟨k', rfl⟩ : ∃ k' : Nat, k = k' := ⟨k.toNat, by omega⟩
      have ih := ht_le L f k' (by omega)
      have dk : atI (depT p) k' = 1 + atI (depT p) x := by
        rw [depT_at (by rw [L.len]; omega), k3, if_pos (by omega), depK_atT (by rw [L.len]; omega) (by omega)]
      omega)
    omega
end
end Go.Proofs.YtabnjiijgbigbaaDoor

namespace Go.Proofs.YtabnjiijgbigbaaDoor
open Go.RowKit

section
variable {ns B : List Nd} {f : Int → Int}
theorem allB_map {t : Int → Bool} : ∀ {l : List Int}, (∀ c ∈ l, kindAt B (f c) = kindAt ns c) → allB B (l.map f) t = allB ns l t
  | [], _ => rfl
  | c :: r, h => by
    have := allB_map (t := t) (l := r) (fun x hx => h x (List.mem_cons_of_mem _ hx))
    unfold allB at this ⊢
    rw [List.map_cons, List.all_cons, List.all_cons, this, h c List.mem_cons_self]
theorem arePB_map : ∀ {l : List Int} {ts : List (Int → Bool)}, (∀ c ∈ l, kindAt B (f c) = kindAt ns c) → arePB B (l.map f) ts = arePB ns l ts
  | [], [], _ => rfl
  | [], _ :: _, _ => rfl
  | _ :: _, [], _ => rfl
  | c :: r, t :: ts, h => by
    rw [List.map_cons, arePB, arePB, arePB_map (l := r) (fun x hx => h x (List.mem_cons_of_mem _ hx)), h c List.mem_cons_self]
theorem rises_map : ∀ {l : List Int}, (∀ c ∈ l, whichB B (f c) = whichB ns c) → risesB B (l.map f) = risesB ns l
  | [], _ => rfl
  | [_], _ => rfl
  | a :: b :: r, h => by
    have := rises_map (l := b :: r) (fun x hx => h x (List.mem_cons_of_mem _ hx))
    rw [List.map_cons] at this
    rw [List.map_cons, List.map_cons, risesB, risesB, this, h a List.mem_cons_self, h b (List.mem_cons_of_mem _ List.mem_cons_self)]
theorem listed_map {kd ps : Int} {ws : List (List UInt8)} {nums ks : List Int} (h : ∀ c ∈ ks, kindAt B (f c) = kindAt ns c ∧ whichB B (f c) = whichB ns c) : listedB B ⟨kd, ws, nums, ks.map f, ps⟩ = listedB ns ⟨kd, ws, nums, ks, ps⟩ := by
  have hA : ∀ t, allB B (ks.map f) t = allB ns ks t := fun t => allB_map (fun c hc => (h c hc).1)
  have hR : ∀ ts, arePB B (ks.map f) ts = arePB ns ks ts := fun ts => arePB_map (fun c hc => (h c hc).1)
  have hA2 : ∀ m t, allB B ((ks.map f).take m) t = allB ns (ks.take m) t := fun m t => by rw [← List.map_take]; exact allB_map (fun c hc => (h c (List.mem_of_mem_take hc)).1)
  have hR2 : ∀ m ts, arePB B ((ks.map f).drop m) ts = arePB ns (ks.drop m) ts := fun m ts => by rw [← List.map_drop]; exact arePB_map (fun c hc => (h c (List.mem_of_mem_drop hc)).1)
  have hI : risesB B (ks.map f) = risesB ns ks := rises_map (fun c hc => (h c hc).2)
  have hC : contractB B ⟨kd, ws, nums, ks.map f, ps⟩ = contractB ns ⟨kd, ws, nums, ks, ps⟩ := by
    unfold contractB fracB num
    dsimp only
    rw [hA, hI]
  have hP : partB B ⟨kd, ws, nums, ks.map f, ps⟩ = partB ns ⟨kd, ws, nums, ks, ps⟩ := by
    unfold partB fracB num
    dsimp only
    rw [hR, hR]
    cases ks with
    | nil => rfl
    | cons c r =>
      have : whichB B (atI ((c :: r).map f) 0) = whichB ns (atI (c :: r) 0) := (h c List.mem_cons_self).2
      rw [this]
  unfold listedB hasB num
  dsimp only
  simp only [hA, hR, hA2, hR2, hC, hP, List.length_map]
end
section
variable {ns : List Nd} {W p : List Int}
theorem built_kid (O : Order ns W) {x : Nat} {e : Nd} (he : ns[x]? = some e) : kindAt (builtT ns W) (plc W x) = kindAt ns x ∧ whichB (builtT ns W) (plc W x) = whichB ns x := by
  unfold kindAt whichB
  rw [built_nd O he, ndAt_of he]
  exact ⟨rfl, rfl⟩
theorem built_valid (O : Order ns W) {a : Nat} {e : Nd} (he : ns[a]? = some e) : validB (builtT ns W) (movedN W e) = validB ns e := by
  obtain ⟨kd, ws, nums, ks, ps⟩ := e
  unfold validB
  rw [show listedB (builtT ns W) (movedN W ⟨kd, ws, nums, ks, ps⟩) = listedB ns ⟨kd, ws, nums, ks, ps⟩ from listed_map (f := plc W) (fun c hc => by
    obtain ⟨c', rfl, hc'⟩ := kid_nat O.kids he hc
    exact built_kid O (List.getElem?_eq_getElem hc'))]
  rfl
theorem plc_zero (O : Order ns W) : plc W 0 = 0 := plc_of (i := 0) (x := 0) O O.first
theorem right_says (h : rightN ns = true) : ∃ p, parT ns = some p ∧ kindAt ns 0 = 0 ∧ maxL (depT p) ≤ 24 ∧ ∀ d ∈ ns, validB ns d = true := by
  unfold rightN at h
  split at h
  · cases h
  · rename_i p hp
    rw [Bool.and_eq_true, Bool.and_eq_true, decide_eq_true_eq, beq_iff_eq, List.all_eq_true] at h
    exact ⟨p, hp, h.1.1, h.1.2, h.2⟩
theorem built_right (h : rightN ns = true) : rightN (builtT ns (walkT ns)) = true := by
  obtain ⟨O, h0, h1⟩ := walk_order h
  obtain ⟨p, hp, k0, hd, hv⟩ := right_says h
  generalize walkT ns = W at *
  have L := parT_links hp
  have LB := built_links O L
  have hl := built_len O
  obtain ⟨q, hq⟩ := parT_found LB (by omega) (by omega)
  unfold rightN
  rw [hq]
  dsimp only
  have e0 := (built_kid O (List.getElem?_eq_getElem h0)).1
  rw [show ((0 : Nat) : Int) = 0 from rfl, plc_zero O] at e0
  have dq := dep_le (parT_links hq)
  have hb := htF_built O (builtT ns W).length 0 h0
  rw [show ((0 : Nat) : Int) = 0 from rfl, plc_zero O] at hb
  have ht := ht_le L (builtT ns W).length 0 h0
  have d1 := (dep_ht L 0 h0).1
  rw [show ((0 : Nat) : Int) = 0 from rfl] at ht d1
  rw [e0, k0, decide_eq_true (by omega), List.all_eq_true.mpr (fun d hd' => by
    obtain ⟨i, hi⟩ := List.mem_iff_getElem?.mp hd'
    obtain ⟨a, e, hw, he⟩ := in_order O (i := i) (by have := (List.getElem?_eq_some_iff.mp hi).1; omega)
    obtain rfl : movedN W e = d := Option.some.inj ((built_at hw he).symm.trans hi)
    rw [built_valid O he]
    exact hv e (List.mem_of_getElem? he))]
  rfl
theorem walkT_right {ns : List Nd} (h : rightN ns = true) : walkT ns = preF ns ns.length 0 := by
  unfold walkT
  rw [if_pos h]
/-- The order of the tree built is its own. -/
theorem built_walk (h : rightN ns = true) : walkT (builtT ns (walkT ns)) = (List.range ns.length).map (fun i : Nat => (i : Int)) := by
  have hr := built_right h
  obtain ⟨O, h0, h1⟩ := walk_order h
  have e := walkT_right h
  have e2 := walkT_right hr
  rw [e2, built_len O]
  have hb := preF_built O ns.length 0 h0
  rw [show ((0 : Nat) : Int) = 0 from rfl, plc_zero O] at hb
  rw [hb, ← e]
  apply List.ext_getElem?
  intro i
  rw [List.getElem?_map, List.getElem?_map]
  by_cases hi : i < ns.length
  · obtain ⟨a, d, hw, hd⟩ := in_order O hi
    rw [hw, List.getElem?_range hi]
    show some (plc (walkT ns) a) = some (i : Int)
    rw [plc_of O hw]
  · rw [List.getElem?_eq_none (by rw [O.len]; omega), List.getElem?_eq_none (by rw [List.length_range]; omega)]
    rfl
end
end Go.Proofs.YtabnjiijgbigbaaDoor

namespace Go.Proofs.YtabnjiijgbigbaaDoor
open Go.RowKit

/-- The numbers in their order. -/
def idL (n : Nat) : List Int := (List.range n).map (fun i : Nat => (i : Int))
theorem idL_at {n i : Nat} (h : i < n) : (idL n)[i]? = some (i : Int) := by
  unfold idL
  rw [List.getElem?_map, List.getElem?_range h]
  rfl
theorem built_self {c : List Nd} (h : rightN c = true) (hw : walkT c = idL c.length) : builtT c (walkT c) = c := by
  obtain ⟨O, h0, h1⟩ := walk_order h
  rw [hw] at O ⊢
  have pl : ∀ x : Nat, x < c.length → plc (idL c.length) x = x := fun x hx => plc_of O (idL_at hx)
  apply List.ext_getElem?
  intro i
  by_cases hi : i < c.length
  · have he : c[i]? = some c[i] := List.getElem?_eq_getElem hi
    rw [built_at (idL_at hi) he, he]
    have : c[i].kids.map (plc (idL c.length)) = c[i].kids := by
      have := List.map_congr_left (l := c[i].kids) (f := plc (idL c.length)) (g := id) (fun x hx => by
        obtain ⟨x', rfl, hx'⟩ := kid_nat O.kids he hx
        exact pl x' hx')
      rw [this, List.map_id]
    unfold movedN
    rw [this]
  · rw [List.getElem?_eq_none (by rw [built_len O]; omega), List.getElem?_eq_none (by omega)]
theorem preF_same {b c : List Nd} (h : ∀ k, (ndAt c k).kids = (ndAt b k).kids) : ∀ (f : Nat) (k : Int), preF c f k = preF b f k
  | 0, _ => rfl
  | f + 1, k => by
    rw [preF, preF, h k]
    congr 1
    unfold List.flatMap
    congr 1
    exact List.map_congr_left (fun x _ => preF_same h f x)
theorem set_kids {b : List Nd} {k : Nat} {d d' : Nd} (hd : b[k]? = some d) (hk : d'.kids = d.kids) (j : Int) : (ndAt (b.set k d') j).kids = (ndAt b j).kids := by
  unfold ndAt
  have hl := (List.getElem?_eq_some_iff.mp hd).1
  by_cases e : k = j.toNat
  · rw [← e, List.getElem?_set_self hl, hd]
    exact hk
  · rw [List.getElem?_set_ne e]
/-- A tree in its own order, with a node changed but for its kids. -/
theorem changed_self {b : List Nd} {k : Nat} {d d' : Nd} (hb : rightN b = true) (hw : walkT b = idL b.length) (hd : b[k]? = some d) (hk : d'.kids = d.kids) (hc : rightN (b.set k d') = true) : builtT (b.set k d') (walkT (b.set k d')) = b.set k d' := by
  refine built_self hc ?_
  rw [walkT_right hc, List.length_set, preF_same (set_kids hd hk), ← walkT_right hb, hw]
/-- Nodes but for where they begin. -/
def likeN (a b : Nd) : Bool := a.kind == b.kind && a.words == b.words && a.nums == b.nums && a.kids == b.kids
/-- What Same asks. -/
def sameT (a b : List Nd) : Bool := decide (0 < a.length) && decide (a.length = b.length) && (List.zipWith likeN a b).all id
theorem likeN_self (a : Nd) : likeN a a = true := by simp [likeN]
theorem sameT_self {a : List Nd} (h : 0 < a.length) : sameT a a = true := by
  unfold sameT
  rw [decide_eq_true h, decide_eq_true rfl, List.all_eq_true.mpr (fun x hx => by
    obtain ⟨i, hi⟩ := List.mem_iff_getElem?.mp hx
    rw [List.getElem?_zipWith] at hi
    cases q : a[i]? with
    | none => rw [q] at hi; simp at hi
    | some y =>
      rw [q] at hi
      obtain rfl : likeN y y = x := by simpa using hi
      exact likeN_self y)]
  rfl
theorem sameT_not {a b : List Nd} {k : Nat} {d d' : Nd} (hd : a[k]? = some d) (hd' : b[k]? = some d') (h : likeN d d' = false) : sameT a b = false := by
  unfold sameT
  have : (List.zipWith likeN a b).all id = false := by
    rw [List.all_eq_false]
    refine ⟨false, List.mem_iff_getElem?.mpr ⟨k, ?_⟩, by decide⟩
    rw [List.getElem?_zipWith, hd, hd', ← h]
  rw [this, Bool.and_false]
end Go.Proofs.YtabnjiijgbigbaaDoor

namespace Go.Proofs.YtabnjiijgbigbaaDoor
open Go.RowKit

set_option maxHeartbeats 4000000 in
theorem tequal_int (w : World) (u v : Value) (a b : List Int) (ha : IntsL w u a) (hb : IntsL w v b) :
    Calls Tryd.prog 36 #[u, v] w fun e w' => e = .returned (.bool (a == b)) ∧ Below w.heap.size w w' := by
  obtain ⟨A1, c1, rfl, h2, h3, h4⟩ := ha
  obtain ⟨A2, c2, rfl, k2, k3, k4⟩ := hb
  by_cases hl : a.length = b.length
  · obtain ⟨n, hn⟩ : ∃ n, n = a.length := ⟨_, rfl⟩
    have hmx : n ≤ 9223372036854775807 := by unfold maxLen at h3; omega
    rw [← hn] at h2 h4 ⊢
    rw [show b.length = n by omega] at k4 ⊢
    have t0 : ((n : Int) != (n : Int)) = false := by simp
    have HN := Lib.hid (And.intro hn (And.intro hmx (show b.length = n by omega)))
    have H4 := Lib.hid (And.intro h4 k4)
    clear hn hmx h2 h3 h4 k2 k3 k4 hl
    go_enter Tryd.func36, Tryd.ntmps36
    go_wp2_with fail
    go_loopg [13] n (fun gk v13 wr => ∃ k : Nat, v13 = .int .i64 k ∧ k ≤ n ∧ gk = n - k ∧ a.take k = b.take k ∧ Below w.heap.size w wr)
    case atStart => exact ⟨0, rfl, Nat.zero_le _, rfl, rfl, Below.refl _ _⟩
    case round =>
      obtain ⟨k, rfl, hk, hgk, ht, hb⟩ := hrel
      by_cases hkn : k = n
      · have e : a = b := by
          rw [List.take_of_length_le (by have := HN.out; omega), List.take_of_length_le (by have := HN.out; omega)] at ht
          exact ht
        have tk : ¬ (k : Int) < (n : Int) := by omega
        have FIN := Lib.hid (And.intro (show (a == b) = true by rw [beq_iff_eq]; exact e) hb)
        clear hk hgk ht hb hkn e
        go_wp2_with fail
        go_ret
        exact ⟨by rw [FIN.out.1]; rfl, FIN.out.2⟩
      · have hlt : k < n := by omega
        obtain ⟨x, hx⟩ : ∃ x, a[k]? = some x := ⟨_, List.getElem?_eq_getElem (by have := HN.out; omega)⟩
        obtain ⟨y, hy⟩ : ∃ y, b[k]? = some y := ⟨_, List.getElem?_eq_getElem (by have := HN.out; omega)⟩
        obtain ⟨ad1, rfl, d1⟩ := ints_at H4.out.1 hb hx (by omega)
        obtain ⟨ad2, rfl, d2⟩ := ints_at H4.out.2 hb hy (by omega)
        have tk : (k : Int) < (n : Int) := by omega
        have tk2 : (0 : Int) ≤ (k : Int) := by omega
        have wk : IntKind.i64.wrap ((k : Int) + 1) = (k : Int) + 1 := IntWalk.i64_in _ (by have := HN.out; omega)
        have HK := Lib.hid (And.intro hlt (And.intro hgk (And.intro ht hb)))
        have HX := Lib.hid (And.intro hx hy)
        clear hlt hgk ht hb hk hkn hx hy
        by_cases q : x = y
        · subst q
          have tq : (x != x) = false := by simp
          have NX := Lib.hid (show a.take (k + 1) = b.take (k + 1) by rw [List.take_add_one, List.take_add_one, HK.out.2.2.1, HX.out.1, HX.out.2])
          go_upto_region 6 with fail
          go_region
          all_goals
            go_wp2_with fail
            go_roundg (n - (k + 1))
            case measure => have := HK.out; omega
            case rel => exact ⟨k + 1, by push_cast; rfl, by have := HK.out; omega, rfl, NX.out, HK.out.2.2.2.drew⟩
        · have tq : (x != y) = true := by rw [bne_iff_ne]; exact q
          have FIN := Lib.hid (show (a == b) = false by
            rw [beq_eq_false_iff_ne]
            intro e
            have h1 := HX.out.1
            rw [e, HX.out.2] at h1
            exact q (Option.some.inj h1).symm)
          clear q
          go_upto_region 6 with fail
          go_region
          all_goals
            go_wp2_with fail
            go_ret
            exact ⟨by rw [FIN.out]; rfl, HK.out.2.2.2.drew⟩
  · have t0 : ((a.length : Int) != (b.length : Int)) = true := by rw [bne_iff_ne]; omega
    have FIN := Lib.hid (show (a == b) = false by rw [beq_eq_false_iff_ne]; intro e; exact hl (by rw [e]))
    clear h2 h3 h4 k2 k3 k4 hl
    go_enter Tryd.func36, Tryd.ntmps36
    go_wp2_with fail
    go_ret
    exact ⟨by rw [FIN.out]; rfl, Below.refl _ _⟩

set_option maxHeartbeats 4000000 in
theorem tequal_int64 (w : World) (u v : Value) (a b : List Int) (ha : IntsL w u a) (hb : IntsL w v b) :
    Calls Tryd.prog 35 #[u, v] w fun e w' => e = .returned (.bool (a == b)) ∧ Below w.heap.size w w' := by
  obtain ⟨A1, c1, rfl, h2, h3, h4⟩ := ha
  obtain ⟨A2, c2, rfl, k2, k3, k4⟩ := hb
  by_cases hl : a.length = b.length
  · obtain ⟨n, hn⟩ : ∃ n, n = a.length := ⟨_, rfl⟩
    have hmx : n ≤ 9223372036854775807 := by unfold maxLen at h3; omega
    rw [← hn] at h2 h4 ⊢
    rw [show b.length = n by omega] at k4 ⊢
    have t0 : ((n : Int) != (n : Int)) = false := by simp
    have HN := Lib.hid (And.intro hn (And.intro hmx (show b.length = n by omega)))
    have H4 := Lib.hid (And.intro h4 k4)
    clear hn hmx h2 h3 h4 k2 k3 k4 hl
    go_enter Tryd.func35, Tryd.ntmps35
    go_wp2_with fail
    go_loopg [13] n (fun gk v13 wr => ∃ k : Nat, v13 = .int .i64 k ∧ k ≤ n ∧ gk = n - k ∧ a.take k = b.take k ∧ Below w.heap.size w wr)
    case atStart => exact ⟨0, rfl, Nat.zero_le _, rfl, rfl, Below.refl _ _⟩
    case round =>
      obtain ⟨k, rfl, hk, hgk, ht, hb⟩ := hrel
      by_cases hkn : k = n
      · have e : a = b := by
          rw [List.take_of_length_le (by have := HN.out; omega), List.take_of_length_le (by have := HN.out; omega)] at ht
          exact ht
        have tk : ¬ (k : Int) < (n : Int) := by omega
        have FIN := Lib.hid (And.intro (show (a == b) = true by rw [beq_iff_eq]; exact e) hb)
        clear hk hgk ht hb hkn e
        go_wp2_with fail
        go_ret
        exact ⟨by rw [FIN.out.1]; rfl, FIN.out.2⟩
      · have hlt : k < n := by omega
        obtain ⟨x, hx⟩ : ∃ x, a[k]? = some x := ⟨_, List.getElem?_eq_getElem (by have := HN.out; omega)⟩
        obtain ⟨y, hy⟩ : ∃ y, b[k]? = some y := ⟨_, List.getElem?_eq_getElem (by have := HN.out; omega)⟩
        obtain ⟨ad1, rfl, d1⟩ := ints_at H4.out.1 hb hx (by omega)
        obtain ⟨ad2, rfl, d2⟩ := ints_at H4.out.2 hb hy (by omega)
        have tk : (k : Int) < (n : Int) := by omega
        have tk2 : (0 : Int) ≤ (k : Int) := by omega
        have wk : IntKind.i64.wrap ((k : Int) + 1) = (k : Int) + 1 := IntWalk.i64_in _ (by have := HN.out; omega)
        have HK := Lib.hid (And.intro hlt (And.intro hgk (And.intro ht hb)))
        have HX := Lib.hid (And.intro hx hy)
        clear hlt hgk ht hb hk hkn hx hy
        by_cases q : x = y
        · subst q
          have tq : (x != x) = false := by simp
          have NX := Lib.hid (show a.take (k + 1) = b.take (k + 1) by rw [List.take_add_one, List.take_add_one, HK.out.2.2.1, HX.out.1, HX.out.2])
          go_upto_region 6 with fail
          go_region
          all_goals
            go_wp2_with fail
            go_roundg (n - (k + 1))
            case measure => have := HK.out; omega
            case rel => exact ⟨k + 1, by push_cast; rfl, by have := HK.out; omega, rfl, NX.out, HK.out.2.2.2.drew⟩
        · have tq : (x != y) = true := by rw [bne_iff_ne]; exact q
          have FIN := Lib.hid (show (a == b) = false by
            rw [beq_eq_false_iff_ne]
            intro e
            have h1 := HX.out.1
            rw [e, HX.out.2] at h1
            exact q (Option.some.inj h1).symm)
          clear q
          go_upto_region 6 with fail
          go_region
          all_goals
            go_wp2_with fail
            go_ret
            exact ⟨by rw [FIN.out]; rfl, HK.out.2.2.2.drew⟩
  · have t0 : ((a.length : Int) != (b.length : Int)) = true := by rw [bne_iff_ne]; omega
    have FIN := Lib.hid (show (a == b) = false by rw [beq_eq_false_iff_ne]; intro e; exact hl (by rw [e]))
    clear h2 h3 h4 k2 k3 k4 hl
    go_enter Tryd.func35, Tryd.ntmps35
    go_wp2_with fail
    go_ret
    exact ⟨by rw [FIN.out]; rfl, Below.refl _ _⟩
end Go.Proofs.YtabnjiijgbigbaaDoor

namespace Go.Proofs.YtabnjiijgbigbaaDoor
open Go.RowKit

set_option maxHeartbeats 4000000 in
theorem tequal_str (w : World) (u v : Value) (a b : List (List UInt8)) (ha : StrsL w u a) (hb : StrsL w v b) :
    Calls Tryd.prog 34 #[u, v] w fun e w' => e = .returned (.bool (a == b)) ∧ Below w.heap.size w w' := by
  obtain ⟨A1, c1, rfl, h2, h3, h4, h5⟩ := ha
  obtain ⟨A2, c2, rfl, k2, k3, k4, k5⟩ := hb
  by_cases hl : a.length = b.length
  · obtain ⟨n, hn⟩ : ∃ n, n = a.length := ⟨_, rfl⟩
    have hmx : n ≤ 9223372036854775807 := by unfold maxLen at h3; omega
    rw [← hn] at h2 h4 ⊢
    rw [show b.length = n by omega] at k4 ⊢
    have t0 : ((n : Int) != (n : Int)) = false := by simp
    have HN := Lib.hid (And.intro hn (And.intro hmx (show b.length = n by omega)))
    have H4 := Lib.hid (And.intro h4 k4)
    clear hn hmx h2 h3 h4 k2 k3 k4 hl h5 k5
    go_enter Tryd.func34, Tryd.ntmps34
    go_wp2_with fail
    go_loopg [13] n (fun gk v13 wr => ∃ k : Nat, v13 = .int .i64 k ∧ k ≤ n ∧ gk = n - k ∧ a.take k = b.take k ∧ Below w.heap.size w wr)
    case atStart => exact ⟨0, rfl, Nat.zero_le _, rfl, rfl, Below.refl _ _⟩
    case round =>
      obtain ⟨k, rfl, hk, hgk, ht, hb⟩ := hrel
      by_cases hkn : k = n
      · have e : a = b := by
          rw [List.take_of_length_le (by have := HN.out; omega), List.take_of_length_le (by have := HN.out; omega)] at ht
          exact ht
        have tk : ¬ (k : Int) < (n : Int) := by omega
        have FIN := Lib.hid (And.intro (show (a == b) = true by rw [beq_iff_eq]; exact e) hb)
        clear hk hgk ht hb hkn e
        go_wp2_with fail
        go_ret
        exact ⟨by rw [FIN.out.1]; rfl, FIN.out.2⟩
      · have hlt : k < n := by omega
        obtain ⟨x, hx⟩ : ∃ x, a[k]? = some x := ⟨_, List.getElem?_eq_getElem (by have := HN.out; omega)⟩
        obtain ⟨y, hy⟩ : ∃ y, b[k]? = some y := ⟨_, List.getElem?_eq_getElem (by have := HN.out; omega)⟩
        obtain ⟨ad1, rfl, d1⟩ := strs_at H4.out.1 hb hx (by omega)
        obtain ⟨ad2, rfl, d2⟩ := strs_at H4.out.2 hb hy (by omega)
        have tk : (k : Int) < (n : Int) := by omega
        have tk2 : (0 : Int) ≤ (k : Int) := by omega
        have wk : IntKind.i64.wrap ((k : Int) + 1) = (k : Int) + 1 := IntWalk.i64_in _ (by have := HN.out; omega)
        have HK := Lib.hid (And.intro hlt (And.intro hgk (And.intro ht hb)))
        have HX := Lib.hid (And.intro hx hy)
        clear hlt hgk ht hb hk hkn hx hy
        by_cases q : x = y
        · subst q
          have tq : (x == x) = true := by simp
          have NX := Lib.hid (show a.take (k + 1) = b.take (k + 1) by rw [List.take_add_one, List.take_add_one, HK.out.2.2.1, HX.out.1, HX.out.2])
          go_upto_region 6 with fail
          go_region
          all_goals
            go_wp2_with fail
            go_roundg (n - (k + 1))
            case measure => have := HK.out; omega
            case rel => exact ⟨k + 1, by push_cast; rfl, by have := HK.out; omega, rfl, NX.out, HK.out.2.2.2.drew⟩
        · have tq : (x == y) = false := by rw [beq_eq_false_iff_ne]; exact q
          have FIN := Lib.hid (show (a == b) = false by
            rw [beq_eq_false_iff_ne]
            intro e
            have h1 := HX.out.1
            rw [e, HX.out.2] at h1
            exact q (Option.some.inj h1).symm)
          clear q
          go_upto_region 6 with fail
          go_region
          all_goals
            go_wp2_with fail
            go_ret
            exact ⟨by rw [FIN.out]; rfl, HK.out.2.2.2.drew⟩
  · have t0 : ((a.length : Int) != (b.length : Int)) = true := by rw [bne_iff_ne]; omega
    have FIN := Lib.hid (show (a == b) = false by rw [beq_eq_false_iff_ne]; intro e; exact hl (by rw [e]))
    clear h2 h3 h4 k2 k3 k4 hl h5 k5
    go_enter Tryd.func34, Tryd.ntmps34
    go_wp2_with fail
    go_ret
    exact ⟨by rw [FIN.out]; rfl, Below.refl _ _⟩
end Go.Proofs.YtabnjiijgbigbaaDoor

namespace Go.Proofs.YtabnjiijgbigbaaDoor
open Go.RowKit

/-- Two nodes in boxes. -/
def TwoB (w wr : World) (cx cy : Array Value) : Prop := Blk wr w.heap.size cx ∧ Blk wr (w.heap.size + 1) cy ∧ Below w.heap.size w wr
theorem TwoB.keep {w wr w' : World} {cx cy : Array Value} (h : TwoB w wr cx cy) (hb : Below wr.heap.size wr w') : TwoB w w' cx cy := ⟨h.1.keep hb, h.2.1.keep hb, h.2.2.trans (hb.mono h.2.2.size)⟩
set_option maxHeartbeats 8000000 in
theorem alike_any (w : World) (x y : NdV × Nd) (hx : NdAt w x) (hy : NdAt w y) :
    Calls Tryd.prog 18 #[ndV x, ndV y] w fun e w' => e = .returned (.bool (likeN x.2 y.2)) ∧ Below w.heap.size w w' := by
  have E1 := Lib.hid (fun (wr : World) (hb : Below w.heap.size w wr) => tequal_str wr _ _ _ _ (hx.1.below hb) (hy.1.below hb))
  have E2 := Lib.hid (fun (wr : World) (hb : Below w.heap.size w wr) => tequal_int64 wr _ _ _ _ (hx.2.1.below hb) (hy.2.1.below hb))
  have E3 := Lib.hid (fun (wr : World) (hb : Below w.heap.size w wr) => tequal_int wr _ _ _ _ (hx.2.2.below hb) (hy.2.2.below hb))
  obtain ⟨⟨A1, c1, e1, _⟩, ⟨A2, c2, e2, _⟩, A3, c3, e3, _⟩ := hx
  obtain ⟨⟨B1, d1, f1, _⟩, ⟨B2, d2, f2, _⟩, B3, d3, f3, _⟩ := hy
  obtain ⟨⟨v1, v2, v3⟩, kd, ws, nums, ks, ps⟩ := x
  obtain ⟨⟨u1, u2, u3⟩, kd2, ws2, nums2, ks2, ps2⟩ := y
  dsimp only at e1 e2 e3 f1 f2 f3 E1 E2 E3
  subst e1 e2 e3 f1 f2 f3
  unfold ndV likeN
  dsimp only
  generalize (ws == ws2) = X at *
  generalize (nums == nums2) = Y at *
  generalize (ks == ks2) = Z at *
  have a1 := below_alloc1 w (.cells #[.int .i64 kd, .slice A1 ws.length c1, .slice A2 nums.length c2, .slice A3 ks.length c3, .int .i64 ps] 30)
  have a2 := below_alloc1 (w.alloc (.cells #[.int .i64 kd, .slice A1 ws.length c1, .slice A2 nums.length c2, .slice A3 ks.length c3, .int .i64 ps] 30)) (.cells #[.int .i64 kd2, .slice B1 ws2.length d1, .slice B2 nums2.length d2, .slice B3 ks2.length d3, .int .i64 ps2] 30)
  have b1 := (Blk.start w #[.int .i64 kd, .slice A1 ws.length c1, .slice A2 nums.length c2, .slice A3 ks.length c3, .int .i64 ps] 30).keep a2
  have b2 := Blk.start (w.alloc (.cells #[.int .i64 kd, .slice A1 ws.length c1, .slice A2 nums.length c2, .slice A3 ks.length c3, .int .i64 ps] 30)) #[.int .i64 kd2, .slice B1 ws2.length d1, .slice B2 nums2.length d2, .slice B3 ks2.length d3, .int .i64 ps2] 30
  rw [World.size_alloc] at b2
  have K := Lib.hid (show TwoB w _ _ _ from ⟨b1, b2, a1.trans (a2.mono a1.size)⟩)
  have g10 := b1.cell 0
  have g11 := b1.cell 1
  have g12 := b1.cell 2
  have g13 := b1.cell 3
  have g20 := b2.cell 0
  have g21 := b2.cell 1
  have g22 := b2.cell 2
  have g23 := b2.cell 3
  simp only [List.getElem?_toArray, List.getElem?_cons_zero, List.getElem?_cons_succ] at g10 g11 g12 g13 g20 g21 g22 g23
  clear a1 a2 b1 b2
  cases q : (kd == kd2)
  · go_enter Tryd.func18, Tryd.ntmps18
    go_wp2_with fail
    go_ret
    exact ⟨rfl, K.out.2.2⟩
  · have q' : kd = kd2 := by simpa using q
    subst q'
    clear q
    have q : (kd == kd) = true := beq_self_eq_true _
    cases X
    · go_enter Tryd.func18, Tryd.ntmps18
      go_wp2_with (first
        | (go_at_call 34; (refine (E1.out _ K.out.2.2).mono ?_); rintro e4 w4 ⟨rfl, hb4⟩; have K4 := Lib.hid (K.out.keep hb4); clear hb4; have h10 := K4.out.1.cell 2; have h11 := K4.out.1.cell 3; have h12 := K4.out.2.1.cell 2; have h13 := K4.out.2.1.cell 3; simp only [List.getElem?_toArray, List.getElem?_cons_zero, List.getElem?_cons_succ] at h10 h11 h12 h13))
      go_ret
      exact ⟨rfl, K4.out.2.2⟩
    · cases Y
      · go_enter Tryd.func18, Tryd.ntmps18
        go_wp2_with (first
          | (go_at_call 34; (refine (E1.out _ K.out.2.2).mono ?_); rintro e4 w4 ⟨rfl, hb4⟩; have K4 := Lib.hid (K.out.keep hb4); clear hb4; have h10 := K4.out.1.cell 2; have h11 := K4.out.1.cell 3; have h12 := K4.out.2.1.cell 2; have h13 := K4.out.2.1.cell 3; simp only [List.getElem?_toArray, List.getElem?_cons_zero, List.getElem?_cons_succ] at h10 h11 h12 h13)
          | (go_at_call 35; (refine (E2.out _ K4.out.2.2).mono ?_); rintro e5 w5 ⟨rfl, hb5⟩; have K5 := Lib.hid (K4.out.keep hb5); clear hb5; have h20 := K5.out.1.cell 3; have h21 := K5.out.2.1.cell 3; simp only [List.getElem?_toArray, List.getElem?_cons_zero, List.getElem?_cons_succ] at h20 h21))
        go_ret
        exact ⟨rfl, K5.out.2.2⟩
      · go_enter Tryd.func18, Tryd.ntmps18
        go_wp2_with (first
          | (go_at_call 34; (refine (E1.out _ K.out.2.2).mono ?_); rintro e4 w4 ⟨rfl, hb4⟩; have K4 := Lib.hid (K.out.keep hb4); clear hb4; have h10 := K4.out.1.cell 2; have h11 := K4.out.1.cell 3; have h12 := K4.out.2.1.cell 2; have h13 := K4.out.2.1.cell 3; simp only [List.getElem?_toArray, List.getElem?_cons_zero, List.getElem?_cons_succ] at h10 h11 h12 h13)
          | (go_at_call 35; (refine (E2.out _ K4.out.2.2).mono ?_); rintro e5 w5 ⟨rfl, hb5⟩; have K5 := Lib.hid (K4.out.keep hb5); clear hb5; have h20 := K5.out.1.cell 3; have h21 := K5.out.2.1.cell 3; simp only [List.getElem?_toArray, List.getElem?_cons_zero, List.getElem?_cons_succ] at h20 h21)
          | (go_at_call 36; (refine (E3.out _ K5.out.2.2).mono ?_); rintro e6 w6 ⟨rfl, hb6⟩; have K6 := Lib.hid (K5.out.keep hb6); clear hb6))
        go_ret
        exact ⟨rfl, K6.out.2.2⟩
end Go.Proofs.YtabnjiijgbigbaaDoor

namespace Go.Proofs.YtabnjiijgbigbaaDoor
open Go.RowKit

theorem own_shape {w : World} {base n size : Nat} {e : TypeId} {v : Value} {xs : List Value} (h : w.ownsRow base e size v n xs) : ∃ A c, v = .slice A n c := by
  rcases h.2 with ⟨rfl, rfl⟩ | ⟨g, cap, cur, rfl, _⟩
  · exact ⟨_, _, rfl⟩
  · exact ⟨_, _, rfl⟩
theorem nil_no_str (w : World) (ad : Addr) (n c : Nat) : (binOp .eql 26 (.slice (some ad) n c) (.slice none 0 0)).run Tryd.prog w = .ok (.bool false) w := by kernel_rfl
theorem nil_yes_str (w : World) (n c : Nat) : (binOp .eql 26 (.slice none n c) (.slice none 0 0)).run Tryd.prog w = .ok (.bool true) w := by kernel_rfl
theorem empty_str (w : World) : (w.alloc (.cells #[] 9)).ownsRow w.heap.size 9 1 (.slice (some ⟨w.heap.size, 0, none⟩) 0 0) 0 [] :=
  World.ownsRow_made w #[] 0 (Nat.le_refl _) (Nat.zero_le _) rfl
theorem info_str : (Tryd.prog.info? 9).map (fun i => (i.zero, i.size, i.bytes)) = some (some (.string ⟨#[]⟩), 1, 16) := by kernel_rfl
set_option maxRecDepth 10000 in
set_option maxHeartbeats 2000000 in
theorem tclone_str (w : World) (A : Option Addr) (n c : Nat) (us : List Value) (h5 : Reads w w.heap.size 1 A n us) (one : ∀ u ∈ us, u.oneCell' = true) (hm : n ≤ maxLen) (hbz : n * 16 ≤ 140737488355328) :
    Calls Tryd.prog 31 #[.slice A n c] w fun e w' => ∃ A' c', e = .returned (.slice A' n c') ∧ w'.ownsRow w.heap.size 9 1 (.slice A' n c') n us ∧ Below w.heap.size w w' := by
  obtain ⟨i0, hi, hz0, hz1, hz2⟩ := info_parts info_str
  rcases A with _ | ad
  · have hn : n = 0 := by
      rcases Nat.eq_zero_or_pos n with h0 | h0
      · exact h0
      · obtain ⟨_, e, _⟩ := h5.2 h0
        cases e
    subst hn
    have hu : us = [] := List.eq_nil_of_length_eq_zero (by have := h5.1; omega)
    subst hu
    have hq := nil_yes_str w 0 c
    clear h5 one hm hbz
    go_enter Tryd.func31, Tryd.ntmps31
    go_wp2_with fail
    go_ret
    exact ⟨_, _, rfl, World.ownsRow_nil _ _ _ _, Below.refl _ _⟩
  · have hq := nil_no_str w ad n c
    have ON := Lib.hid (And.intro one (And.intro hm hbz))
    clear one hm hbz
    go_enter Tryd.func31, Tryd.ntmps31
    go_wp2_with (at_builtin; refine wpList_append_any _ rfl _ _ 26 rfl w.heap.size 9 i0 (.string ⟨#[]⟩) 1 16 Tryd.underlying26 hi hz0 hz1 hz2 rfl (by decide) _ 0 [] rfl (empty_str w) w.heap.size (some ad) _ c _ rfl (h5.alloc (Nat.le_refl _) _) ?c2 ?c3 ?c4 ?c5 ?_)
    case c2 => exact ON.out.1
    case c3 => have := ON.out.2.1; omega
    case c4 => have := ON.out.2.2; omega
    case c5 => simp
    intro v' w1 hown' hgrow _
    have hown2 : w1.ownsRow w.heap.size 9 1 v' n us := by simpa using hown'
    have hb : Below w.heap.size w w1 := by
      refine (below_alloc1 w _).grown hgrow (by simp) (fun k hk => ?_)
      have e : w.heap.size = k := by simpa [Value.ownBlock] using hk
      omega
    obtain ⟨A', c', rfl⟩ := own_shape hown2
    have FIN := Lib.hid (And.intro hown2 hb)
    clear hown' hown2 hgrow hb h5 hq
    go_wp2_with fail
    go_ret
    exact ⟨_, _, rfl, FIN.out⟩
theorem nil_no_int64 (w : World) (ad : Addr) (n c : Nat) : (binOp .eql 27 (.slice (some ad) n c) (.slice none 0 0)).run Tryd.prog w = .ok (.bool false) w := by kernel_rfl
theorem nil_yes_int64 (w : World) (n c : Nat) : (binOp .eql 27 (.slice none n c) (.slice none 0 0)).run Tryd.prog w = .ok (.bool true) w := by kernel_rfl
theorem empty_int64 (w : World) : (w.alloc (.cells #[] 2)).ownsRow w.heap.size 2 1 (.slice (some ⟨w.heap.size, 0, none⟩) 0 0) 0 [] :=
  World.ownsRow_made w #[] 0 (Nat.le_refl _) (Nat.zero_le _) rfl
theorem info_int64 : (Tryd.prog.info? 2).map (fun i => (i.zero, i.size, i.bytes)) = some (some (.int .i64 0), 1, 8) := by kernel_rfl
set_option maxRecDepth 10000 in
set_option maxHeartbeats 2000000 in
theorem tclone_int64 (w : World) (A : Option Addr) (n c : Nat) (us : List Value) (h5 : Reads w w.heap.size 1 A n us) (one : ∀ u ∈ us, u.oneCell' = true) (hm : n ≤ maxLen) (hbz : n * 8 ≤ 140737488355328) :
    Calls Tryd.prog 32 #[.slice A n c] w fun e w' => ∃ A' c', e = .returned (.slice A' n c') ∧ w'.ownsRow w.heap.size 2 1 (.slice A' n c') n us ∧ Below w.heap.size w w' := by
  obtain ⟨i0, hi, hz0, hz1, hz2⟩ := info_parts info_int64
  rcases A with _ | ad
  · have hn : n = 0 := by
      rcases Nat.eq_zero_or_pos n with h0 | h0
      · exact h0
      · obtain ⟨_, e, _⟩ := h5.2 h0
        cases e
    subst hn
    have hu : us = [] := List.eq_nil_of_length_eq_zero (by have := h5.1; omega)
    subst hu
    have hq := nil_yes_int64 w 0 c
    clear h5 one hm hbz
    go_enter Tryd.func32, Tryd.ntmps32
    go_wp2_with fail
    go_ret
    exact ⟨_, _, rfl, World.ownsRow_nil _ _ _ _, Below.refl _ _⟩
  · have hq := nil_no_int64 w ad n c
    have ON := Lib.hid (And.intro one (And.intro hm hbz))
    clear one hm hbz
    go_enter Tryd.func32, Tryd.ntmps32
    go_wp2_with (at_builtin; refine wpList_append_any _ rfl _ _ 27 rfl w.heap.size 2 i0 (.int .i64 0) 1 8 Tryd.underlying27 hi hz0 hz1 hz2 rfl (by decide) _ 0 [] rfl (empty_int64 w) w.heap.size (some ad) _ c _ rfl (h5.alloc (Nat.le_refl _) _) ?c2 ?c3 ?c4 ?c5 ?_)
    case c2 => exact ON.out.1
    case c3 => have := ON.out.2.1; omega
    case c4 => have := ON.out.2.2; omega
    case c5 => simp
    intro v' w1 hown' hgrow _
    have hown2 : w1.ownsRow w.heap.size 2 1 v' n us := by simpa using hown'
    have hb : Below w.heap.size w w1 := by
      refine (below_alloc1 w _).grown hgrow (by simp) (fun k hk => ?_)
      have e : w.heap.size = k := by simpa [Value.ownBlock] using hk
      omega
    obtain ⟨A', c', rfl⟩ := own_shape hown2
    have FIN := Lib.hid (And.intro hown2 hb)
    clear hown' hown2 hgrow hb h5 hq
    go_wp2_with fail
    go_ret
    exact ⟨_, _, rfl, FIN.out⟩
theorem nil_no_int (w : World) (ad : Addr) (n c : Nat) : (binOp .eql 28 (.slice (some ad) n c) (.slice none 0 0)).run Tryd.prog w = .ok (.bool false) w := by kernel_rfl
theorem nil_yes_int (w : World) (n c : Nat) : (binOp .eql 28 (.slice none n c) (.slice none 0 0)).run Tryd.prog w = .ok (.bool true) w := by kernel_rfl
theorem empty_int (w : World) : (w.alloc (.cells #[] 3)).ownsRow w.heap.size 3 1 (.slice (some ⟨w.heap.size, 0, none⟩) 0 0) 0 [] :=
  World.ownsRow_made w #[] 0 (Nat.le_refl _) (Nat.zero_le _) rfl
theorem info_int : (Tryd.prog.info? 3).map (fun i => (i.zero, i.size, i.bytes)) = some (some (.int .i64 0), 1, 8) := by kernel_rfl
set_option maxRecDepth 10000 in
set_option maxHeartbeats 2000000 in
theorem tclone_int (w : World) (A : Option Addr) (n c : Nat) (us : List Value) (h5 : Reads w w.heap.size 1 A n us) (one : ∀ u ∈ us, u.oneCell' = true) (hm : n ≤ maxLen) (hbz : n * 8 ≤ 140737488355328) :
    Calls Tryd.prog 33 #[.slice A n c] w fun e w' => ∃ A' c', e = .returned (.slice A' n c') ∧ w'.ownsRow w.heap.size 3 1 (.slice A' n c') n us ∧ Below w.heap.size w w' := by
  obtain ⟨i0, hi, hz0, hz1, hz2⟩ := info_parts info_int
  rcases A with _ | ad
  · have hn : n = 0 := by
      rcases Nat.eq_zero_or_pos n with h0 | h0
      · exact h0
      · obtain ⟨_, e, _⟩ := h5.2 h0
        cases e
    subst hn
    have hu : us = [] := List.eq_nil_of_length_eq_zero (by have := h5.1; omega)
    subst hu
    have hq := nil_yes_int w 0 c
    clear h5 one hm hbz
    go_enter Tryd.func33, Tryd.ntmps33
    go_wp2_with fail
    go_ret
    exact ⟨_, _, rfl, World.ownsRow_nil _ _ _ _, Below.refl _ _⟩
  · have hq := nil_no_int w ad n c
    have ON := Lib.hid (And.intro one (And.intro hm hbz))
    clear one hm hbz
    go_enter Tryd.func33, Tryd.ntmps33
    go_wp2_with (at_builtin; refine wpList_append_any _ rfl _ _ 28 rfl w.heap.size 3 i0 (.int .i64 0) 1 8 Tryd.underlying28 hi hz0 hz1 hz2 rfl (by decide) _ 0 [] rfl (empty_int w) w.heap.size (some ad) _ c _ rfl (h5.alloc (Nat.le_refl _) _) ?c2 ?c3 ?c4 ?c5 ?_)
    case c2 => exact ON.out.1
    case c3 => have := ON.out.2.1; omega
    case c4 => have := ON.out.2.2; omega
    case c5 => simp
    intro v' w1 hown' hgrow _
    have hown2 : w1.ownsRow w.heap.size 3 1 v' n us := by simpa using hown'
    have hb : Below w.heap.size w w1 := by
      refine (below_alloc1 w _).grown hgrow (by simp) (fun k hk => ?_)
      have e : w.heap.size = k := by simpa [Value.ownBlock] using hk
      omega
    obtain ⟨A', c', rfl⟩ := own_shape hown2
    have FIN := Lib.hid (And.intro hown2 hb)
    clear hown' hown2 hgrow hb h5 hq
    go_wp2_with fail
    go_ret
    exact ⟨_, _, rfl, FIN.out⟩
end Go.Proofs.YtabnjiijgbigbaaDoor
