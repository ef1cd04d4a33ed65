/-
  Package gauss's Solve: what it answers, what stands in memory meanwhile; the walk of eliminator. (Template: by-name.py fills it.)
-/
import Derived.Test.YtkinbbhbencipaaJGauH
import Derived.Deep.RegionLaw
import Derived.Lib.SliceRun
import Derived.Test.YtkinbbhbencipaaJE
namespace Go.Proofs.Ytkinbbhbencipaa
open Go.RowKit

theorem own_setCells {base size g n cap : Nat} {e : TypeId} : ∀ (vs : List Value) (o : Nat) (w : World) (xs : List Value), w.ownsRow base e size (.slice (some ⟨g, 0, none⟩) n cap) n xs → o + vs.length ≤ xs.length →
    (w.setCells g o vs).ownsRow base e size (.slice (some ⟨g, 0, none⟩) n cap) n (xs.take o ++ vs ++ xs.drop (o + vs.length)) ∧ w.grownBy (w.setCells g o vs) (some g)
  | [], o, w, xs, h, _ => by
    rw [List.append_nil, List.length_nil, Nat.add_zero, List.take_append_drop]
    exact ⟨h, World.grownBy.refl w _⟩
  | v :: vs, o, w, xs, h, hl => by
    rw [List.length_cons] at hl
    obtain ⟨a, b⟩ := h.stored o v
    obtain ⟨c, d⟩ := own_setCells vs (o + 1) (w.setCell ⟨g, o, none⟩ v) (xs.set o v) a (by rw [List.length_set]; omega)
    refine ⟨?_, grown_trans b d⟩
    have e : (xs.set o v).take (o + 1) ++ vs ++ (xs.set o v).drop (o + 1 + vs.length) = xs.take o ++ v :: vs ++ xs.drop (o + (v :: vs).length) := by
      rw [List.take_add_one, List.getElem?_set_self (by omega), List.take_set_of_le (Nat.le_refl _), List.drop_set_of_lt (by omega), List.length_cons, show o + (vs.length + 1) = o + 1 + vs.length by omega]
      simp
    rw [← e]
    exact c
theorem own_less {base size g n cap m : Nat} {e : TypeId} {w : World} {xs : List Value} (h : w.ownsRow base e size (.slice (some ⟨g, 0, none⟩) n cap) n xs) (hm : m ≤ n) : w.ownsRow base e size (.slice (some ⟨g, 0, none⟩) m cap) m (xs.take (m * size)) := by
  have hl := h.1
  have hk : m * size ≤ n * size := Nat.mul_le_mul_right _ hm
  rcases h.2 with ⟨q, _⟩ | ⟨g', cap', cur, q, hb, hg, hc, hx, hs, ht⟩
  · cases q
  · simp only [Value.slice.injEq, Option.some.injEq, Addr.mk.injEq, and_true, true_and] at q
    obtain ⟨rfl, rfl⟩ := q
    refine ⟨by rw [List.length_take]; omega, .inr ⟨g, cap, cur, rfl, hb, hg, by omega, hx, hs, ?_⟩⟩
    rw [← ht, List.take_take, Nat.min_eq_left hk]

theorem termCells_take : ∀ (l : List (Value × Trm)) (k : Nat), termCells (l.take k) = (termCells l).take (k * 3)
  | [], k => by simp [termCells]
  | x :: r, 0 => by simp [termCells]
  | x :: r, k + 1 => by
    rw [List.take_succ_cons, termCells, termCells, termCells_take r k, show (k + 1) * 3 = k * 3 + 1 + 1 + 1 by omega, List.take_succ_cons, List.take_succ_cons, List.take_succ_cons]
theorem termCells_drop : ∀ (l : List (Value × Trm)) (k : Nat), termCells (l.drop k) = (termCells l).drop (k * 3)
  | [], k => by simp [termCells]
  | x :: r, 0 => by simp
  | x :: r, k + 1 => by
    rw [List.drop_succ_cons, termCells, termCells_drop r k, show (k + 1) * 3 = k * 3 + 1 + 1 + 1 by omega, List.drop_succ_cons, List.drop_succ_cons, List.drop_succ_cons]

/-- What stands in the row behind Delete. -/
theorem own_deleted {w : World} {base g n cap i : Nat} {ts : List Trm} {S : Nat → Prop} (hS : S g) (hi : i < n) (zs : List Value) (hz : zs.length = 3) (rs : List (Value × Trm)) (h1 : rs.map (·.2) = ts) (h2 : w.ownsRow base 27 3 (.slice (some ⟨g, 0, none⟩) n cap) n (termCells rs)) (h3 : ∀ x ∈ rs, RatsAt w x.1 x.2.1 ∧ Off S x.1 x.2.1) :
    OwnT ((w.setCells g (i * 3) (termCells (rs.drop (i + 1)))).setCells g ((n - 1) * 3) zs) base (.slice (some ⟨g, 0, none⟩) (n - 1) cap) (ts.eraseIdx i) S ∧ w.grownBy ((w.setCells g (i * 3) (termCells (rs.drop (i + 1)))).setCells g ((n - 1) * 3) zs) (some g) := by
  have hn : rs.length = n := by have := h2.1; rw [termCells_length] at this; omega
  have hl : (termCells (rs.drop (i + 1))).length = (n - (i + 1)) * 3 := by rw [termCells_length, List.length_drop, hn]
  have hlr : (termCells rs).length = n * 3 := by rw [termCells_length, hn]
  obtain ⟨a, b⟩ := own_setCells (termCells (rs.drop (i + 1))) (i * 3) w _ h2 (by rw [hl, hlr]; omega)
  obtain ⟨c, d⟩ := own_setCells zs ((n - 1) * 3) _ _ a (by simp only [List.length_append, List.length_take, List.length_drop, hl, hlr, hz]; omega)
  have hg := grown_trans b d
  have e := own_less c (m := n - 1) (by omega)
  have he : ts.eraseIdx i = (rs.eraseIdx i).map (·.2) := by rw [← h1, List.eraseIdx_eq_take_drop_succ, List.eraseIdx_eq_take_drop_succ, List.map_append, List.map_take, List.map_drop]
  have hlen : (rs.eraseIdx i).length = n - 1 := by rw [List.length_eraseIdx, if_pos (by omega), hn]
  refine ⟨⟨rs.eraseIdx i, he.symm, ?_, fun x hx => ?_⟩, hg⟩
  · rw [he, List.length_map, hlen]
    have key : termCells (rs.eraseIdx i) = (((termCells rs).take (i * 3) ++ termCells (rs.drop (i + 1)) ++ (termCells rs).drop (i * 3 + (termCells (rs.drop (i + 1))).length)).take ((n - 1) * 3) ++ zs ++ ((termCells rs).take (i * 3) ++ termCells (rs.drop (i + 1)) ++ (termCells rs).drop (i * 3 + (termCells (rs.drop (i + 1))).length)).drop ((n - 1) * 3 + zs.length)).take ((n - 1) * 3) := by
      have l1 : ((termCells rs).take (i * 3) ++ termCells (rs.drop (i + 1))).length = (n - 1) * 3 := by simp only [List.length_append, List.length_take, hl, hlr]; omega
      rw [List.append_assoc, List.take_append_of_le_length (by simp only [List.length_take, List.length_append, List.length_drop, hl, hlr]; omega), List.take_take, Nat.min_self, List.take_append_of_le_length (by rw [l1]; exact Nat.le_refl _), List.take_of_length_le (by rw [l1]; exact Nat.le_refl _), List.eraseIdx_eq_take_drop_succ, termCells_append, termCells_take]
    rw [key]
    exact e
  · have := h3 x (List.mem_of_mem_eraseIdx hx)
    exact ⟨this.1.off this.2 hg (fun b e => by injection e with e; exact e ▸ hS), this.2⟩

theorem zeroT (w : World) : (zeroValue 27).run Try.prog w = .ok (.agg #[.slice none 0 0, .int .i64 0, .int .i64 0]) w := by kernel_rfl
theorem run_clear_one (w : World) (ty : TypeId) (b o c : Nat) (hc : ∀ j, j < 3 → (w.cell? ⟨b, o + j, none⟩).isSome = true) (hf : ∀ j, j < 3 → w.frozen? ⟨b, o + j, none⟩ = false) :
    (Builtin.clear_ #[47] ty #[.slice (some ⟨b, o, none⟩) 1 c]).run Try.prog w = .ok (.tuple #[]) (w.setCells b o [.slice none 0 0, .int .i64 0, .int .i64 0]) := by
  have hzc : (Builtin.zeroCells (Value.agg #[.slice none 0 0, .int .i64 0, .int .i64 0]).cells 1).toList = [.slice none 0 0, .int .i64 0, .int .i64 0] := by kernel_rfl
  have hst := run_storeCells_cells (P := Try.prog) b o [.slice none 0 0, .int .i64 0, .int .i64 0] 0 w (by simpa using hc) (by simpa using hf) (by intro v hv; simp at hv; rcases hv with rfl | rfl | rfl <;> rfl)
  simp only [Nat.add_zero] at hst
  simp [Builtin.clear_, run_underlying Try.underlying47, hzc, hst]

/-- What Delete answers, and what stands in the row. -/
def DelPut (w : World) (base g n cap : Nat) (ts : List Trm) (S : Nat → Prop) (e : Ending) (w' : World) : Prop :=
  e = .returned (.slice (some ⟨g, 0, none⟩) (n - 1) cap) ∧ OwnT w' base (.slice (some ⟨g, 0, none⟩) (n - 1) cap) ts S ∧ w.grownBy w' (some g)

set_option maxRecDepth 1000000 in
set_option maxHeartbeats 4000000 in
theorem tdelete_any (w : World) (base g n cap i : Nat) (ts : List Trm) (S : Nat → Prop) (h : OwnT w base (.slice (some ⟨g, 0, none⟩) n cap) ts S) (hS : S g) (hi : i < n) :
    Calls Try.prog 41 #[.slice (some ⟨g, 0, none⟩) n cap, .int .i64 i, .int .i64 ((i : Int) + 1)] w (DelPut w base g n cap (ts.eraseIdx i) S) := by
  obtain ⟨i0, hi0, hz0, hz1, hz2⟩ := info_parts infoT
  have hd : OwnT w.drew base (.slice (some ⟨g, 0, none⟩) n cap) ts S := h.below (below_drew _)
  obtain ⟨rs, h1, h2, h3⟩ := hd
  have e : ts.length = n := by
    rcases h2.2 with ⟨q, _⟩ | ⟨g', cap', cur, q, _⟩
    · cases q
    · injection q with _ q _; exact q.symm
  rw [e] at h2
  obtain ⟨hnc, hcm⟩ : n ≤ cap ∧ cap ≤ maxLen := by
    rcases h2.2 with ⟨q, _⟩ | ⟨g', cap', cur, q, _, _, q1, q2, _⟩
    · cases q
    · injection q with _ _ q; exact ⟨q ▸ q1, q ▸ q2⟩
  have hrn : rs.length = n := by rw [← e, ← h1, List.length_map]
  have one : ∀ u ∈ termCells (rs.drop (i + 1)), u.oneCell' = true := termCells_one _ fun x hx => by
    obtain ⟨A', c', e⟩ := rats_shape (h3 x (List.mem_of_mem_drop hx)).1
    exact ⟨_, _, _, e⟩
  have hlen : (termCells (rs.drop (i + 1))).length = (n - (i + 1)) * 3 := by rw [termCells_length, List.length_drop, hrn]
  have hcell : ∀ j u, (termCells rs)[j]? = some u → w.drew.cell? ⟨g, j, none⟩ = some u := fun j u hu => by
    have hj : j < n * 3 := by
      rcases Nat.lt_or_ge j (termCells rs).length with q | q
      · rw [h2.1] at q; exact q
      · rw [List.getElem?_eq_none q] at hu; cases hu
    rw [h2.cellAt j hj, hu]
  obtain ⟨A, hA, hnews⟩ : ∃ A : Addr, (if cap = i + 1 then some (⟨g, 0, none⟩ : Addr) else some ⟨g, (i + 1) * 3, none⟩) = some A ∧ Hid (∀ j u, (termCells (rs.drop (i + 1)))[j]? = some u → w.drew.cell? (A.add j) = some u) := by
    by_cases q : cap = i + 1
    · refine ⟨⟨g, 0, none⟩, by simp [q], fun j u hu => ?_⟩
      have h0 : (termCells (rs.drop (i + 1))).length = 0 := by rw [hlen]; omega
      rw [List.length_eq_zero_iff.1 h0] at hu
      simp at hu
    · refine ⟨⟨g, (i + 1) * 3, none⟩, by simp [q], fun j u hu => ?_⟩
      rw [Addr.add_lit]
      rw [termCells_drop, List.getElem?_drop] at hu
      exact hcell _ _ hu
  have s1 : Hid ((termCells (rs.drop (i + 1))).length = (n - (i + 1)) * 3) := hlen
  have s2 : Hid (∀ u ∈ termCells (rs.drop (i + 1)), u.oneCell' = true) := one
  have s3 : Hid (∀ j, j < (termCells (rs.drop (i + 1))).length → (w.drew.cell? ⟨g, 0 + i * 3 + j, none⟩).isSome = true ∧ w.drew.frozen? ⟨g, 0 + i * 3 + j, none⟩ = false) := by
    intro j hj
    rw [hlen] at hj
    exact ⟨by rw [h2.cellAt _ (by omega), List.getElem?_eq_getElem (by rw [h2.1]; omega)]; rfl, h2.frozenAt _⟩
  obtain ⟨W1, hW1⟩ : ∃ W1, W1 = w.drew.setCells g (0 + i * 3) (termCells (rs.drop (i + 1))) := ⟨_, rfl⟩
  have own1 : W1.ownsRow base 27 3 (.slice (some ⟨g, 0, none⟩) n cap) n ((termCells rs).take (0 + i * 3) ++ termCells (rs.drop (i + 1)) ++ (termCells rs).drop (0 + i * 3 + (termCells (rs.drop (i + 1))).length)) := by
    rw [hW1]
    exact (own_setCells _ _ _ _ h2 (by rw [hlen, h2.1]; omega)).1
  have hl1 := own1.1
  have hcl : ∀ ty, (Builtin.clear_ #[47] ty #[.slice (some ⟨g, (i + (n - (i + 1))) * 3, none⟩) (n - (i + (n - (i + 1)))) (cap - (i + (n - (i + 1))))]).run Try.prog W1 = .ok (.tuple #[]) (W1.setCells g ((i + (n - (i + 1))) * 3) [.slice none 0 0, .int .i64 0, .int .i64 0]) := by
    intro ty
    rw [show n - (i + (n - (i + 1))) = 1 by omega]
    exact run_clear_one W1 ty g _ _ (fun j hj => by rw [own1.cellAt _ (by omega), List.getElem?_eq_getElem (by rw [hl1]; omega)]; rfl) (fun j _ => own1.frozenAt _)
  have fin : DelPut w base g n cap (ts.eraseIdx i) S (.returned (.slice (some ⟨g, 0, none⟩) (i + (n - (i + 1))) cap)) (W1.setCells g ((i + (n - (i + 1))) * 3) [.slice none 0 0, .int .i64 0, .int .i64 0]) := by
    rw [hW1, show i + (n - (i + 1)) = n - 1 by omega, Nat.zero_add]
    obtain ⟨p, q⟩ := own_deleted (i := i) hS hi [.slice none 0 0, .int .i64 0, .int .i64 0] rfl rs h1 h2 h3
    exact ⟨rfl, p, grown_trans (grown_of_below (below_drew _) _) q⟩
  have FIN := Lib.hid fin
  have HW := Lib.hid hW1
  have hic : i ≤ cap := by omega
  have hwr : IntKind.i64.wrap ((i : Int) + 1) = (i : Int) + 1 := IntWalk.i64_in _ (by unfold maxLen at hcm; omega)
  have hp0 : (0 : Int) ≤ (i : Int) + 1 := by omega
  have hp1 : (i : Int) + 1 ≤ (n : Int) := by omega
  have hp2 : ((i : Int) + 1).toNat = i + 1 := by omega
  have hp3 : (i : Int) ≤ (i : Int) + 1 := by omega
  have hp4 : (n : Int) ≤ (cap : Int) := by omega
  have hp5 : ((i : Int) == (i : Int) + 1) = false := by rw [beq_eq_false_iff_ne]; omega
  clear own1 hl1 fin hW1 h h1 h2 h3 hS hrn one hlen hcell e
  go_enter Try.func41, Try.ntmps41
  go_wp2_with fail
  go_region_law (refine step_append_room rfl (.tmp 22) (.tmp 25) 47 rfl 27 i0 3 Try.underlying47 hi0 hz1 g 0 i cap (by simp [Act.eval, Act.put]) A (n - (i + 1)) (cap - (i + 1)) (termCells (rs.drop (i + 1))) (by simp [Act.eval, Act.put]) s1.out hnews.out s2.out (by omega) s3.out ?_; rw [← HW.out])
  go_wp2_with fail
  go_ret
  exact FIN.out
end Go.Proofs.Ytkinbbhbencipaa

namespace Go.Proofs.Ytkinbbhbencipaa
open Go.RowKit

/-! ### What it answers -/
abbrev SolT := List Trm × List Trm × List Int

/-- A term by its coefficient of a variable. -/
def divT (t : Trm) (v : Int) : List (Int × Int) × (Int × Int) × Int := timesT t.1 t.2 (invH (atL t.1 v))

/-- One variable: the terms that are left, those that are selected, their variables. -/
def solveStep (s : SolT) (v : Int) : Option SolT :=
  match s.1.findIdx? (prHas v) with
  | none => some s
  | some i => (s.1[i]?).bind fun t =>
    if (divT t v).2.2 = 0 then
      (mapE (elimO ((divT t v).1, (divT t v).2.1) v) (s.1.eraseIdx i)).bind fun l =>
      (mapE (elimO ((divT t v).1, (divT t v).2.1) v) s.2.1).map fun q => (l, q ++ [((divT t v).1, (divT t v).2.1)], s.2.2 ++ [v])
    else none
def solveK (ts : List Trm) : Nat → Option SolT
  | 0 => some (ts, [], [])
  | k + 1 => (solveK ts k).bind fun s => solveStep s k
/-- The selected terms, their variables; the answer. -/
def solveT (ts : List Trm) : (List Trm × List Int) × Int :=
  if ts.length ≤ 400 ∧ ts.any prWrong = false then
    match solveK ts 8 with
    | none => (([], []), 2)
    | some s => if s.1.any prK = true then (([], []), 1) else ((s.2.1, s.2.2), 0)
  else (([], []), 2)

theorem div_ok {t : Trm} {v : Int} (h : TrmOk t) (hv : prHas v t = true) (e : (divT t v).2.2 = 0) : TrmOk ((divT t v).1, (divT t v).2.1) := by
  have hn : (atL t.1 v).1 ≠ 0 := by unfold prHas at hv; simpa using hv
  obtain ⟨_, _, _, _, P⟩ := times_put h.ok.wide h.k.wide (okR_inv (h.ok.at v) hn).wide e
  exact ⟨P.ok, P.okk, P.len⟩

/-- All is right, and no more than it was. -/
structure SolOk (n k : Nat) (s : SolT) : Prop where
  l : ∀ t ∈ s.1, TrmOk t
  q : ∀ t ∈ s.2.1, TrmOk t
  len : s.1.length + s.2.1.length = n
  ql : s.2.1.length = s.2.2.length
  k : s.2.2.length ≤ k

theorem findIdx_some {pr : Trm → Bool} {l : List Trm} {i : Nat} (h : l.findIdx? pr = some i) : ∃ t, l[i]? = some t ∧ pr t = true := by
  obtain ⟨hl, hp, _⟩ := List.findIdx?_eq_some_iff_getElem.1 h
  exact ⟨l[i], List.getElem?_eq_getElem hl, hp⟩
theorem solveStep_ok {n k : Nat} {s r : SolT} {v : Int} (h : SolOk n k s) (e : solveStep s v = some r) : SolOk n (k + 1) r := by
  unfold solveStep at e
  split at e
  · obtain rfl := Option.some.inj e
    exact ⟨h.l, h.q, h.len, h.ql, by have := h.k; omega⟩
  · rename_i i hi
    obtain ⟨t, ht, hp⟩ := findIdx_some hi
    rw [ht, Option.bind_some] at e
    split at e
    · rename_i he
      rw [Option.bind_eq_some_iff] at e
      obtain ⟨l, hl, e⟩ := e
      obtain ⟨q, hq, rfl⟩ := Option.map_eq_some_iff.1 e
      have hd := div_ok (h.l t (List.mem_of_getElem? ht)) hp he
      have hi2 : i < s.1.length := by
        rcases Nat.lt_or_ge i s.1.length with g | g
        · exact g
        · rw [List.getElem?_eq_none g] at ht; cases ht
      have a := mapE_len hl
      have b := mapE_len hq
      rw [List.length_eraseIdx, if_pos hi2] at a
      refine ⟨mapE_ok hd (fun u hu => h.l u (List.mem_of_mem_eraseIdx hu)) hl, fun u hu => ?_, ?_, ?_, ?_⟩
      · rcases List.mem_append.1 hu with g | g
        · exact mapE_ok hd h.q hq u g
        · rw [List.mem_singleton] at g
          rw [g]
          exact hd
      · have := h.len
        simp only [List.length_append, List.length_singleton]
        omega
      · have := h.ql
        simp only [List.length_append, List.length_singleton]
        omega
      · have := h.k
        simp only [List.length_append, List.length_singleton]
        omega
    · cases e
theorem solveK_ok {ts : List Trm} (h : ∀ t ∈ ts, TrmOk t) : ∀ (k : Nat) (s : SolT), solveK ts k = some s → SolOk ts.length k s
  | 0, s, e => by
    obtain rfl := Option.some.inj e
    exact ⟨h, (fun _ ht => by cases ht), rfl, rfl, Nat.le_refl _⟩
  | k + 1, s, e => by
    rw [solveK, Option.bind_eq_some_iff] at e
    obtain ⟨r, hr, e⟩ := e
    exact solveStep_ok (solveK_ok h k r hr) e
theorem idx_none {pr : Trm → Bool} {l : List Trm} (h : l.any pr = false) : l.findIdx? pr = none := by
  rw [List.findIdx?_eq_none_iff]
  intro x hx
  exact Bool.eq_false_iff.2 fun q => by rw [List.any_eq_true.2 ⟨x, hx, q⟩] at h; cases h
theorem idx_some {pr : Trm → Bool} {l : List Trm} {i : Nat} {t : Trm} (ht : l[i]? = some t) (hp : pr t = true) (h : (l.take i).any pr = false) : l.findIdx? pr = some i := by
  have hl : i < l.length := by
    rcases Nat.lt_or_ge i l.length with g | g
    · exact g
    · rw [List.getElem?_eq_none g] at ht; cases ht
  have et : l[i] = t := by rw [List.getElem?_eq_getElem hl] at ht; exact Option.some.inj ht
  refine List.findIdx?_eq_some_iff_getElem.2 ⟨hl, by rw [et]; exact hp, fun j hj => ?_⟩
  intro q
  have : (l.take i).any pr = true := List.any_eq_true.2 ⟨l[j], by rw [List.mem_iff_getElem?]; exact ⟨j, by rw [List.getElem?_take, if_pos hj]; exact List.getElem?_eq_getElem (by omega)⟩, q⟩
  rw [h] at this
  cases this

theorem solveK_none {ts : List Trm} {k : Nat} : ∀ d, solveK ts k = none → solveK ts (k + d) = none
  | 0, h => h
  | d + 1, h => by rw [← Nat.add_assoc, solveK, solveK_none d h]; rfl
theorem solveT_over {ts : List Trm} {k : Nat} (hk : k ≤ 8) (h : solveK ts k = none) : solveT ts = (([], []), 2) := by
  have := solveK_none (8 - k) h
  rw [show k + (8 - k) = 8 by omega] at this
  unfold solveT
  rw [this]
  split <;> rfl
theorem solveT_out {ts : List Trm} (h : ¬ (ts.length ≤ 400 ∧ ts.any prWrong = false)) : solveT ts = (([], []), 2) := if_neg h

/-! ### What stands in memory -/
def intV (l : List Int) : List Value := l.map (Value.int .i64)
/-- A slice of numbers. -/
def IntsAt (w : World) (v : Value) (l : List Int) : Prop := ∃ A c, v = .slice A l.length c ∧ l.length ≤ c ∧ c ≤ maxLen ∧ Reads w w.heap.size 1 A l.length (intV l)
theorem IntsAt.below {w w' : World} {v : Value} {l : List Int} (h : IntsAt w v l) (hb : Below w.heap.size w w') : IntsAt w' v l := by
  obtain ⟨A, c, h1, h2, h3, h4⟩ := h
  exact ⟨A, c, h1, h2, h3, (h4.below hb).more hb.size⟩
theorem IntsAt.nil (w : World) : IntsAt w (.slice none 0 0) [] := ⟨none, 0, rfl, Nat.le_refl _, by decide, Reads.none_⟩
theorem own_ints {w : World} {base : Nat} {l : List Int} {v : Value} (h : w.ownsRow base 3 1 v l.length (intV l)) : IntsAt w v l := by
  have h0 := h
  rcases h.2 with ⟨rfl, hn⟩ | ⟨g, cap, cur, rfl, _, hh, hnc, hrest⟩
  · have : l = [] := List.eq_nil_of_length_eq_zero (by simpa using hn)
    subst this
    exact IntsAt.nil w
  · exact ⟨some _, cap, rfl, hnc, hrest.1, Reads.of_own h0⟩
theorem ints_cells {w wr : World} {A : Option Addr} {n k : Nat} {l : List Int} {x : Int} (h4 : Reads w w.heap.size 1 A n (intV l)) (hb : Below w.heap.size w wr) (hx : l[k]? = some x) (hn : 0 < n) :
    ∃ ad, A = some ad ∧ wr.cell? (ad.add k) = some (.int .i64 x) := by
  obtain ⟨ad, e, hbk, hc⟩ := h4.2 hn
  exact ⟨ad, e, (hb.cell (p := ad.add k) (by rw [block_of_add]; exact hbk)).trans (hc _ _ (by rw [intV, List.getElem?_map, hx]; rfl))⟩

def three (vl vs vp : Value) (b : Nat) : Prop := vl.ownBlock = some b ∨ vs.ownBlock = some b ∨ vp.ownBlock = some b

structure SolS (W w : World) (vl vs vp : Value) (L Q : List Trm) (P : List Int) : Prop where
  l : OwnT w W.heap.size vl L (three vl vs vp)
  s : OwnT w W.heap.size vs Q (three vl vs vp)
  p : w.ownsRow W.heap.size 3 1 vp P.length (intV P)
  ls : ∀ b, vl.ownBlock = some b → vs.ownBlock ≠ some b
  lp : ∀ b, vl.ownBlock = some b → vp.ownBlock ≠ some b
  sp : ∀ b, vs.ownBlock = some b → vp.ownBlock ≠ some b
  below : Below W.heap.size W w

section
variable {W w w' : World} {vl vs vp vl' vs' vp' : Value} {L Q L' Q' : List Trm} {P P' : List Int}
theorem SolS.keep (h : SolS W w vl vs vp L Q P) (hb : Below w.heap.size w w') : SolS W w' vl vs vp L Q P :=
  ⟨h.l.below hb, h.s.below hb, h.p.kept (grown_of_below hb none) (by cases hv : vp.ownBlock <;> simp), h.ls, h.lp, h.sp, h.below.trans (hb.mono h.below.size)⟩
theorem SolS.lt (h : SolS W w vl vs vp L Q P) : ∀ b, three vl vs vp b → W.heap.size ≤ b ∧ b < w.heap.size := by
  intro b hb
  rcases hb with g | g | g
  · exact h.l.lt b g
  · exact h.s.lt b g
  · exact h.p.lt b g
/-- Another row of left terms, in the same block. -/
theorem SolS.left (h : SolS W w vl vs vp L Q P) (hl : OwnT w' W.heap.size vl' L' (three vl vs vp)) (hg : w.grownBy w' vl.ownBlock) (e : vl'.ownBlock = vl.ownBlock) : SolS W w' vl' vs vp L' Q P := by
  have e3 : three vl' vs vp = three vl vs vp := by unfold three; rw [e]
  refine ⟨by rw [e3]; exact hl, by rw [e3]; exact h.s.other hg fun b hb => ⟨.inl hb, h.ls b hb⟩, h.p.kept hg ?_, by rw [e]; exact h.ls, by rw [e]; exact h.lp, h.sp, h.below.grown hg h.below.size fun k hk => (h.l.lt k hk).1⟩
  cases q : vl.ownBlock with
  | none => cases hv : vp.ownBlock <;> simp
  | some b => exact .inr (h.lp b q)
theorem SolS.sel (h : SolS W w vl vs vp L Q P) (hs : OwnT w' W.heap.size vs' Q' (three vl vs vp)) (hg : w.grownBy w' vs.ownBlock) (e : vs'.ownBlock = vs.ownBlock) : SolS W w' vl vs' vp L Q' P := by
  have e3 : three vl vs' vp = three vl vs vp := by unfold three; rw [e]
  refine ⟨by rw [e3]; exact h.l.other hg fun b hb => ⟨.inr (.inl hb), fun q => h.ls b q hb⟩, by rw [e3]; exact hs, h.p.kept hg ?_, by rw [e]; exact h.ls, h.lp, by rw [e]; exact h.sp, h.below.grown hg h.below.size fun k hk => (h.s.lt k hk).1⟩
  cases q : vs.ownBlock with
  | none => cases hv : vp.ownBlock <;> simp
  | some b => exact .inr (h.sp b q)
/-- One more selected term. -/
theorem SolS.push {vt : Value} {t : Trm} {rs : List (Value × Trm)} (h : SolS W w vl vs vp L Q P) (h1 : rs.map (·.2) = Q) (h3 : ∀ x ∈ rs, RatsAt w x.1 x.2.1 ∧ Off (three vl vs vp) x.1 x.2.1) (hown : w'.ownsRow W.heap.size 27 3 vs' (Q.length + 1) (termCells rs ++ [vt, .int .i64 t.2.1, .int .i64 t.2.2]))
    (hg : w.grownBy w' vs.ownBlock) (hv : vs'.ownBlock = vs.ownBlock ∨ vs'.ownBlock = some w.heap.size) (hr : RatsAt w vt t.1) (ho : Off (three vl vs vp) vt t.1) : SolS W w' vl vs' vp L (Q ++ [t]) P := by
  have hs3 : ∀ b, three vl vs' vp b → three vl vs vp b ∨ w.heap.size ≤ b := by
    intro b hb
    rcases hb with g | g | g
    · exact .inl (.inl g)
    · rcases hv with e | e
      · exact .inl (.inr (.inl (e ▸ g)))
      · rw [e] at g
        injection g with g
        exact .inr (by omega)
    · exact .inl (.inr (.inr g))
  have a := OwnT.appended (S := three vl vs vp) (S' := three vl vs' vp) h1 h3 hown hg (fun b hb => .inr (.inl hb)) hr ho hs3
  have lw := h.lt
  have l0 : OwnT w W.heap.size vl L (fun b => three vl vs vp b ∨ three vl vs' vp b) := h.l.mono fun b hb => hb.elim .inl (hs3 b)
  refine ⟨(l0.other hg fun b hb => ⟨.inl (.inr (.inl hb)), fun q => h.ls b q hb⟩).mono fun b hb => .inl (.inr hb), a, h.p.kept hg ?_, fun b hb => ?_, h.lp, fun b hb => ?_, h.below.grown hg h.below.size fun k hk => (h.s.lt k hk).1⟩
  · cases q : vs.ownBlock with
    | none => cases hv : vp.ownBlock <;> simp
    | some b => exact .inr (h.sp b q)
  · rcases hv with e | e
    · rw [e]; exact h.ls b hb
    · rw [e]
      intro q
      injection q with q
      have := lw b (.inl hb)
      omega
  · rcases hv with e | e
    · rw [e] at hb
      exact h.sp b hb
    · rw [e] at hb
      injection hb with hb
      intro q
      have := lw b (.inr (.inr q))
      omega
/-- One more variable. -/
theorem SolS.pushp {x : Int} (h : SolS W w vl vs vp L Q P) (hown : w'.ownsRow W.heap.size 3 1 vp' (P.length + 1) (intV P ++ [.int .i64 x])) (hg : w.grownBy w' vp.ownBlock) (hv : vp'.ownBlock = vp.ownBlock ∨ vp'.ownBlock = some w.heap.size) : SolS W w' vl vs vp' L Q (P ++ [x]) := by
  have lw := h.lt
  have hs3 : ∀ b, three vl vs vp' b → three vl vs vp b ∨ w.heap.size ≤ b := by
    intro b hb
    rcases hb with g | g | g
    · exact .inl (.inl g)
    · exact .inl (.inr (.inl g))
    · rcases hv with e | e
      · exact .inl (.inr (.inr (e ▸ g)))
      · rw [e] at g
        injection g with g
        exact .inr (by omega)
  have l0 : OwnT w W.heap.size vl L (fun b => three vl vs vp b ∨ three vl vs vp' b) := h.l.mono fun b hb => hb.elim .inl (hs3 b)
  have s0 : OwnT w W.heap.size vs Q (fun b => three vl vs vp b ∨ three vl vs vp' b) := h.s.mono fun b hb => hb.elim .inl (hs3 b)
  refine ⟨(l0.other hg fun b hb => ⟨.inl (.inr (.inr hb)), fun q => h.lp b q hb⟩).mono fun b hb => .inl (.inr hb), (s0.other hg fun b hb => ⟨.inl (.inr (.inr hb)), fun q => h.sp b q hb⟩).mono fun b hb => .inl (.inr hb), ?_, h.ls, fun b hb => ?_, fun b hb => ?_, h.below.grown hg h.below.size fun k hk => (h.p.lt k hk).1⟩
  · rw [List.length_append, intV, List.map_append]
    exact hown
  · rcases hv with e | e
    · rw [e]; exact h.lp b hb
    · rw [e]
      intro q
      injection q with q
      have := lw b (.inl hb)
      omega
  · rcases hv with e | e
    · rw [e]; exact h.sp b hb
    · rw [e]
      intro q
      injection q with q
      have := lw b (.inr (.inl hb))
      omega
end

theorem infoI : (Try.prog.info? 3).map (fun i => (i.zero, i.size, i.bytes)) = some (some (.int .i64 0), 1, 8) := by kernel_rfl

/-! ### eliminator -/
def ElimMade (w : World) (S : Nat → Prop) (vp : Value) (p : Trm) (i : Int) (e : Ending) (w' : World) : Prop :=
  ∃ b bp, e = .returned (.func (.func 69) #[] #[.pointer (some ⟨b, 0, none⟩), .pointer (some ⟨bp, 0, none⟩)]) ∧ ElimIn w' S b bp vp p i ∧ Below w.heap.size w w'

set_option maxHeartbeats 1000000 in
theorem eliminator_any (w : World) (S : Nat → Prop) (vp : Value) (p : Trm) (i : Int) (hr : RatsAt w vp p.1) (ho : Off S vp p.1) (hS : ∀ b, S b → b < w.heap.size) :
    Calls Try.prog 42 #[.agg #[vp, .int .i64 p.2.1, .int .i64 p.2.2], .int .i64 i] w (ElimMade w S vp p i) := by
  have hmf : ∀ (fn : Fn) (first cap : Array Value) (w : World), (Instr.makeFunc fn first cap).run Try.prog w = .ok (.func fn first cap) w := fun _ _ _ _ => rfl
  have hb := below_alloc2 w (.cells #[vp, .int .i64 p.2.1, .int .i64 p.2.2] 27) (.cells #[.int .i64 i] 3)
  have F := (FracBox.start w vp (.int .i64 p.2.1) (.int .i64 p.2.2) 27).keep (below_alloc1 _ (.cells #[.int .i64 i] 3))
  have hi : ((w.alloc (.cells #[vp, .int .i64 p.2.1, .int .i64 p.2.2] 27)).alloc (.cells #[.int .i64 i] 3)).cell? ⟨w.heap.size + 1, 0, none⟩ = some (.int .i64 i) := by go_simp
  have E : ElimIn ((w.alloc (.cells #[vp, .int .i64 p.2.1, .int .i64 p.2.2] 27)).alloc (.cells #[.int .i64 i] 3)) S (w.heap.size + 1) w.heap.size vp p i :=
    ⟨hi, F.k0, F.k1, F.k2, hr.below hb, ho, fun q => by have := hS _ q; omega, fun q => by have := hS _ q; omega⟩
  obtain ⟨A, c, rfl⟩ := rats_shape hr
  have FIN := Lib.hid (And.intro E hb)
  clear E hb F hi hr ho hS
  go_enter Try.func42, Try.ntmps42
  go_wp2_with fail
  go_ret
  exact ⟨_, _, rfl, FIN.out.1, FIN.out.2⟩
end Go.Proofs.Ytkinbbhbencipaa
