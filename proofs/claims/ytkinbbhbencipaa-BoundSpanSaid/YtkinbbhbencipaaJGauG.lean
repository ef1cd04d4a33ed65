/-
  The walk of package gauss's replace. (Template: by-name.py fills it.)
-/
import Derived.Test.YtkinbbhbencipaaJE
namespace Go.Proofs.Ytkinbbhbencipaa
open Go.RowKit

/-- A right term. -/
structure TrmOk (t : Trm) : Prop where
  ok : AllOk t.1
  k : OkR t.2
  len : t.1.length ≤ 8

/-- A term without variable i, by a pivot; none: it runs over. -/
def elimO (p : Trm) (i : Int) (t : Trm) : Option Trm :=
  if (elimT t.1 t.2 p.1 p.2 i).2.2 = 0 then some ((elimT t.1 t.2 p.1 p.2 i).1, (elimT t.1 t.2 p.1 p.2 i).2.1) else none

def mapE (f : Trm → Option Trm) : List Trm → Option (List Trm)
  | [] => some []
  | t :: r => (f t).bind fun u => (mapE f r).map (u :: ·)

theorem mapE_snoc {f : Trm → Option Trm} {t : Trm} : ∀ {l us : List Trm} {u : Trm}, mapE f l = some us → f t = some u → mapE f (l ++ [t]) = some (us ++ [u])
  | [], us, u, h, hu => by
    obtain rfl : [] = us := by simpa [mapE] using h
    show (f t).bind _ = _
    rw [hu]
    rfl
  | x :: r, us, u, h, hu => by
    rw [mapE, Option.bind_eq_some_iff] at h
    obtain ⟨a, ha, hb⟩ := h
    obtain ⟨b, hc, rfl⟩ := Option.map_eq_some_iff.1 hb
    rw [List.cons_append, mapE, ha, Option.bind_some, mapE_snoc hc hu]
    rfl
theorem mapE_bad {f : Trm → Option Trm} {t : Trm} (h : f t = none) : ∀ {l : List Trm}, t ∈ l → mapE f l = none
  | [], hm => by cases hm
  | x :: r, hm => by
    rw [mapE]
    rcases List.mem_cons.1 hm with rfl | hm
    · rw [h]; rfl
    · rw [mapE_bad h hm]
      cases f x <;> rfl
theorem mapE_len {f : Trm → Option Trm} : ∀ {l us : List Trm}, mapE f l = some us → us.length = l.length
  | [], us, h => by
    obtain rfl : [] = us := by simpa [mapE] using h
    rfl
  | x :: r, us, h => by
    rw [mapE, Option.bind_eq_some_iff] at h
    obtain ⟨a, _, hb⟩ := h
    obtain ⟨b, hc, rfl⟩ := Option.map_eq_some_iff.1 hb
    rw [List.length_cons, List.length_cons, mapE_len hc]
theorem mapE_at {f : Trm → Option Trm} : ∀ {l us : List Trm}, mapE f l = some us → ∀ (k : Nat) (t : Trm), l[k]? = some t → ∃ u, us[k]? = some u ∧ f t = some u
  | [], us, h, k, t, hk => by simp at hk
  | x :: r, us, h, k, t, hk => by
    rw [mapE, Option.bind_eq_some_iff] at h
    obtain ⟨a, ha, hb⟩ := h
    obtain ⟨b, hc, rfl⟩ := Option.map_eq_some_iff.1 hb
    cases k with
    | zero =>
      obtain rfl : x = t := by simpa using hk
      exact ⟨a, rfl, ha⟩
    | succ k => exact mapE_at hc k t (by simpa using hk)

theorem elim_ok {p t u : Trm} {i : Int} (hp : TrmOk p) (ht : TrmOk t) (h : elimO p i t = some u) : TrmOk u := by
  unfold elimO at h
  split at h
  · rename_i g
    obtain rfl := Option.some.inj h
    unfold elimT at g ⊢
    split
    · exact ht
    · rename_i hz
      rw [if_neg hz] at g
      split at g
      · rename_i g2
        rw [if_pos g2]
        have hn : OkR (negH (atL t.1 i)) := okR_neg (ht.ok.at i)
        have hw := timesT_wide (l := p.1) (kx := p.2) (kb := negH (atL t.1 i)) hp.ok.wide hp.k.wide hn.wide
        obtain ⟨_, _, _, _, _, _, P⟩ := sum_put ht.ok.wide hw.1 ht.k.wide hw.2 g
        exact ⟨P.ok, P.okk, P.len⟩
      · rename_i g2
        exact absurd g g2
  · cases h
theorem mapE_ok {p : Trm} {i : Int} (hp : TrmOk p) : ∀ {l us : List Trm}, (∀ t ∈ l, TrmOk t) → mapE (elimO p i) l = some us → ∀ u ∈ us, TrmOk u
  | [], us, _, h => by
    obtain rfl : [] = us := by simpa [mapE] using h
    exact fun u hu => by cases hu
  | x :: r, us, hl, h => by
    rw [mapE, Option.bind_eq_some_iff] at h
    obtain ⟨a, ha, hb⟩ := h
    obtain ⟨b, hc, rfl⟩ := Option.map_eq_some_iff.1 hb
    intro u hu
    rcases List.mem_cons.1 hu with rfl | hu
    · exact elim_ok hp (hl x (by simp)) ha
    · exact mapE_ok hp (fun t ht => hl t (by simp [ht])) hc u hu

/-- The pivot and the variable that the function has captured. -/
structure ElimIn (w : World) (S : Nat → Prop) (b bp : Nat) (vp : Value) (p : Trm) (i : Int) : Prop where
  i : w.cell? ⟨b, 0, none⟩ = some (.int .i64 i)
  c0 : w.cell? ⟨bp, 0, none⟩ = some vp
  c1 : w.cell? ⟨bp, 1, none⟩ = some (.int .i64 p.2.1)
  c2 : w.cell? ⟨bp, 2, none⟩ = some (.int .i64 p.2.2)
  r : RatsAt w vp p.1
  o : Off S vp p.1
  nb : ¬ S b
  nbp : ¬ S bp

theorem ElimIn.grown {w w' : World} {S : Nat → Prop} {b bp : Nat} {vp : Value} {p : Trm} {i : Int} {row : Option Nat} (h : ElimIn w S b bp vp p i) (hg : w.grownBy w' row) (hr : ∀ g, row = some g → S g) : ElimIn w' S b bp vp p i := by
  have e1 : some b ≠ row := fun e => h.nb (hr b e.symm)
  have e2 : some bp ≠ row := fun e => h.nbp (hr bp e.symm)
  exact ⟨hg.cell h.i e1, hg.cell h.c0 e2, hg.cell h.c1 e2, hg.cell h.c2 e2, h.r.off h.o hg hr, h.o, h.nb, h.nbp⟩
theorem ElimIn.below {w w' : World} {S : Nat → Prop} {b bp : Nat} {vp : Value} {p : Trm} {i : Int} (h : ElimIn w S b bp vp p i) (hb : Below w.heap.size w w') : ElimIn w' S b bp vp p i :=
  h.grown (grown_of_below hb none) (fun _ e => by cases e)

def ElimYes (w : World) (va : Value) (u : Trm) (e : Ending) (w' : World) : Prop :=
  ∃ A c, e = .returned (.tuple #[.agg #[.slice A u.1.length c, .int .i64 u.2.1, .int .i64 u.2.2], .int .i64 0]) ∧ RatsAt w' (.slice A u.1.length c) u.1 ∧ Below w.heap.size w w' ∧ (.slice A u.1.length c = va ∨ Fresh w.heap.size (.slice A u.1.length c))
def ElimNo (w : World) (e : Ending) (w' : World) : Prop :=
  ∃ z A n c kn kd, (z != (0 : Int)) = true ∧ e = .returned (.tuple #[.agg #[.slice A n c, .int .i64 kn, .int .i64 kd], .int .i64 z]) ∧ Below w.heap.size w w'

theorem elim_back {w : World} {va : Value} {t p : Trm} {i : Int} {b bp : Nat} {vp : Value} {S : Nat → Prop} (ha : RatsAt w va t.1) (ht : TrmOk t) (hp : TrmOk p) (E : ElimIn w S b bp vp p i) :
    Calls Try.prog 69 #[.agg #[va, .int .i64 t.2.1, .int .i64 t.2.2], .pointer (some ⟨b, 0, none⟩), .pointer (some ⟨bp, 0, none⟩)] w (TermBack w va (elimT t.1 t.2 p.1 p.2 i).1 (elimT t.1 t.2 p.1 p.2 i).2.1 (elimT t.1 t.2 p.1 p.2 i).2.2) := by
  by_cases hz : (atL t.1 i).1 = 0
  · have e : elimT t.1 t.2 p.1 p.2 i = (t.1, t.2, 0) := if_pos hz
    rw [e]
    exact elim_none w va t.1 t.2 i b (.pointer (some ⟨bp, 0, none⟩)) ha E.i hz
  · exact elim_some w va t.1 t.2 i b bp vp p.1 p.2 ha ht.ok.wide ht.k.wide E.i E.r hp.ok.wide hp.k.wide E.c0 E.c1 E.c2 (ht.ok.at i) hz
theorem elim_yes {w : World} {va : Value} {t p u : Trm} {i : Int} {b bp : Nat} {vp : Value} {S : Nat → Prop} (ha : RatsAt w va t.1) (ht : TrmOk t) (hp : TrmOk p) (E : ElimIn w S b bp vp p i) (h : elimO p i t = some u) :
    Calls Try.prog 69 #[.agg #[va, .int .i64 t.2.1, .int .i64 t.2.2], .pointer (some ⟨b, 0, none⟩), .pointer (some ⟨bp, 0, none⟩)] w (ElimYes w va u) := by
  refine (elim_back ha ht hp E).mono fun e w' hh => ?_
  obtain ⟨v, he, hr, hb, ho⟩ := hh
  unfold elimO at h
  split at h
  · rename_i g
    obtain rfl := Option.some.inj h
    obtain ⟨A, c, rfl⟩ := rats_shape hr
    rw [g] at he
    exact ⟨A, c, he, hr, hb, ho⟩
  · cases h
theorem elim_no {w : World} {va : Value} {t p : Trm} {i : Int} {b bp : Nat} {vp : Value} {S : Nat → Prop} (ha : RatsAt w va t.1) (ht : TrmOk t) (hp : TrmOk p) (E : ElimIn w S b bp vp p i) (h : elimO p i t = none) :
    Calls Try.prog 69 #[.agg #[va, .int .i64 t.2.1, .int .i64 t.2.2], .pointer (some ⟨b, 0, none⟩), .pointer (some ⟨bp, 0, none⟩)] w (ElimNo w) := by
  refine (elim_back ha ht hp E).mono fun e w' hh => ?_
  obtain ⟨v, he, hr, hb, _⟩ := hh
  unfold elimO at h
  split at h
  · cases h
  · rename_i g
    obtain ⟨A, c, rfl⟩ := rats_shape hr
    exact ⟨_, A, _, c, _, _, by simpa using g, he, hb⟩

/-- What replace answers, and what stands in the row. -/
def ReplPut (w : World) (base : Nat) (v : Value) (o : Option (List Trm)) (S : Nat → Prop) (e : Ending) (w' : World) : Prop :=
  w.grownBy w' v.ownBlock ∧ ((∃ us, o = some us ∧ e = .returned (.int .i64 0) ∧ OwnT w' base v us S) ∨ (o = none ∧ ∃ z : Int, (z != 0) = true ∧ e = .returned (.int .i64 z)))

theorem off_back {S : Nat → Prop} {B : Nat} {va v : Value} {l m : List (Int × Int)} (ho : Off S va l) (hl : v = va → m ≠ [] → l ≠ []) (hs : ∀ b, S b → b < B) (h : v = va ∨ Fresh B v) : Off S v m := by
  rcases h with rfl | h
  · exact fun hm b hb => ho (hl rfl hm) b hb
  · exact Off.fresh h hs
theorem len_ne {A B : Option Addr} {l m : List (Int × Int)} {c d : Nat} (h : Value.slice A m.length c = Value.slice B l.length d) (hm : m ≠ []) : l ≠ [] := by
  injection h with _ e _
  intro q
  subst q
  exact hm (List.eq_nil_of_length_eq_zero (by simpa using e))

theorem take_drop_set {ts us : List Trm} {k : Nat} {u : Trm} (hk : us.length = k) (hlt : k < ts.length) : (us ++ ts.drop k).set k u = (us ++ [u]) ++ ts.drop (k + 1) := by
  rw [List.set_append, if_neg (by omega), hk, Nat.sub_self, List.drop_eq_getElem_cons hlt, List.set_cons_zero, List.append_assoc]
  rfl

set_option maxRecDepth 10000 in
set_option maxHeartbeats 4000000 in
theorem replace_any (w : World) (base : Nat) (v : Value) (ts : List Trm) (S : Nat → Prop) (p : Trm) (vp : Value) (i : Int) (b bp : Nat) (h : OwnT w base v ts S) (hv : ∀ g, v.ownBlock = some g → S g) (hS : ∀ g, S g → g < w.heap.size) (hok : ∀ t ∈ ts, TrmOk t) (hp : TrmOk p) (E : ElimIn w S b bp vp p i) :
    Calls Try.prog 43 #[v, .func (.func 69) #[] #[.pointer (some ⟨b, 0, none⟩), .pointer (some ⟨bp, 0, none⟩)]] w (ReplPut w base v (mapE (elimO p i) ts) S) := by
  obtain ⟨n, hn⟩ : ∃ n, n = ts.length := ⟨_, rfl⟩
  obtain ⟨A, c, rfl, h2, h3⟩ : ∃ A c, v = .slice A n c ∧ n ≤ c ∧ c ≤ maxLen := by
    obtain ⟨A, c, _, e, h2, h3, _⟩ := h.terms
    exact ⟨A, c, by rw [hn]; exact e, by omega, h3⟩
  have hmx : n ≤ 9223372036854775807 := by unfold maxLen at h3; omega
  have HN := Lib.hid (And.intro hn (And.intro hv (And.intro hS (And.intro hok (And.intro hp (And.intro hmx E))))))
  have H := Lib.hid h
  clear hn hv hS hok hp E h h2 h3 hmx
  go_enter Try.func43, Try.ntmps43
  go_wp2_with fail
  go_loopg [11] n (fun g v11 wr => ∃ k : Nat, v11 = .int .i64 k ∧ k ≤ n ∧ g = n - k ∧ ∃ us, mapE (elimO p i) (ts.take k) = some us ∧ OwnT wr base (.slice A n c) (us ++ ts.drop k) S ∧ w.grownBy wr (Value.slice A n c).ownBlock)
  case atStart => exact ⟨0, rfl, Nat.zero_le _, rfl, [], rfl, by simpa using H.out, grown_of_below (Below.refl _ _) _⟩
  case round =>
    obtain ⟨k, rfl, hk, hg, us, hm, ho, hgr⟩ := hrel
    by_cases hkn : k = n
    · have e : ts.take k = ts := by rw [hkn, HN.out.1]; exact List.take_length
      have e2 : ts.drop k = [] := by rw [hkn, HN.out.1]; exact List.drop_length
      rw [e] at hm
      rw [e2, List.append_nil] at ho
      have FIN := Lib.hid (show ReplPut w base (.slice A n c) (mapE (elimO p i) ts) S (.returned (.int .i64 0)) wr from ⟨hgr, .inl ⟨us, hm, rfl, ho⟩⟩)
      subst hkn
      clear hk hg hm ho hgr e e2
      go_wp2_with fail
      go_ret
      exact FIN.out
    · have hlt : k < n := by omega
      have hul : us.length = k := by rw [mapE_len hm, List.length_take]; have := HN.out.1; omega
      obtain ⟨t, ht⟩ : ∃ t, ts[k]? = some t := ⟨_, List.getElem?_eq_getElem (by have := HN.out.1; omega)⟩
      have hlen : (us ++ ts.drop k).length = n := by rw [List.length_append, List.length_drop, hul]; have := HN.out.1; omega
      obtain ⟨gb, cap, e, hbase, hglt, hnc, hcm⟩ := ho.form (by omega)
      rw [hlen] at e
      injection e with e1 e2 e3
      subst e1
      subst e3
      have hSg : S gb := HN.out.2.1 gb rfl
      obtain ⟨va, hr, hoff, d0, d1, d2, f0, f1, f2⟩ := ho.cells (k := k) (t := t) (by rw [List.getElem?_append_right (by omega), hul, Nat.sub_self, List.getElem?_drop]; simpa using ht)
      have htm := List.mem_of_getElem? ht
      have hgr' := hgr
      have EI := HN.out.2.2.2.2.2.2.grown hgr (fun g hg => HN.out.2.1 g hg)
      have i1 : (k : Int) < (n : Int) := by omega
      have i2 : (0 : Int) ≤ (k : Int) := by omega
      have wk : IntKind.i64.wrap ((k : Int) + 1) = (k : Int) + 1 := IntWalk.i64_in _ (by have := HN.out.2.2.2.2.2.1; omega)
      have a0 := below_alloc1 wr (.cells #[va, .int .i64 t.2.1, .int .i64 t.2.2] 27)
      have F := FracBox.start wr va (.int .i64 t.2.1) (.int .i64 t.2.2) 27
      have k0 := F.k0; have k1 := F.k1; have k2 := F.k2
      have st := fun (w2 : World) (hb : Below wr.heap.size wr w2) (v : Value) (u : Trm) (hu : RatsAt w2 v u.1) (hv : Off S v u.1) => (ho.below hb).stored (k := k) hSg hu hv
      have hS2 : ∀ g, S g → g < wr.heap.size := fun g hg => Nat.lt_of_lt_of_le (HN.out.2.2.1 g hg) hgr.size
      cases hf : elimO p i t with
      | none =>
        have EN := Lib.hid (elim_no (hr.below a0) (HN.out.2.2.2.1 t htm) HN.out.2.2.2.2.1 (EI.below a0) hf)
        have FIN := Lib.hid (fun (w2 : World) (z : Int) (hb : Below wr.heap.size wr w2) (hz : (z != 0) = true) => show ReplPut w base (.slice (some ⟨gb, 0, none⟩) n c) (mapE (elimO p i) ts) S (.returned (.int .i64 z)) w2 from ⟨grown_trans hgr (grown_of_below hb _), .inr ⟨mapE_bad hf htm, z, hz, rfl⟩⟩)
        have A0 := Lib.hid a0
        obtain ⟨A1, c1, rfl⟩ := rats_shape hr
        obtain ⟨t0, t1, t2⟩ := t
        dsimp only at *
        generalize t0.length = tl at *
        clear hm ho hgr hul ht hlen hbase hnc hcm hSg hr hoff htm hgr' EI st hS2 hf hkn hlt hk hg a0 F
        go_wp2_with (go_at_call 69; (with_reducible refine EN.out.mono ?_); rintro e5 w1 ⟨z, A2, n2, c2, kn, kd, hz, rfl, hb1⟩)
        go_ret
        exact FIN.out _ z ((A0.out.trans (hb1.mono A0.out.size)).alloc (by have := hb1.size; have := A0.out.size; omega) _) hz
      | some u =>
        have EY := Lib.hid (elim_yes (hr.below a0) (HN.out.2.2.2.1 t htm) HN.out.2.2.2.2.1 (EI.below a0) hf)
        have hm2 : mapE (elimO p i) (ts.take (k + 1)) = some (us ++ [u]) := by
          rw [List.take_add_one, ht]
          exact mapE_snoc hm hf
        have hts : (us ++ ts.drop k).set k u = (us ++ [u]) ++ ts.drop (k + 1) := take_drop_set hul (by have := HN.out.1; omega)
        have REL := Lib.hid (fun (w2 : World) (hb : Below wr.heap.size wr w2) (v : Value) (hu : RatsAt w2 v u.1) (hv : Off S v u.1) => show ∃ us, mapE (elimO p i) (ts.take (k + 1)) = some us ∧ OwnT (((w2.setCell ⟨gb, k * 3, none⟩ v).setCell ⟨gb, k * 3 + 1, none⟩ (.int .i64 u.2.1)).setCell ⟨gb, k * 3 + 2, none⟩ (.int .i64 u.2.2)) base (.slice (some ⟨gb, 0, none⟩) n c) (us ++ ts.drop (k + 1)) S ∧ w.grownBy (((w2.setCell ⟨gb, k * 3, none⟩ v).setCell ⟨gb, k * 3 + 1, none⟩ (.int .i64 u.2.1)).setCell ⟨gb, k * 3 + 2, none⟩ (.int .i64 u.2.2)) (Value.slice (some ⟨gb, 0, none⟩) n c).ownBlock from
          ⟨us ++ [u], hm2, by rw [← hts]; exact (st w2 hb v u hu hv).1, grown_trans (grown_trans hgr (grown_of_below hb _)) (st w2 hb v u hu hv).2⟩)
        have OB := Lib.hid (fun (v : Value) (h1 : v = va → u.1 ≠ [] → t.1 ≠ []) (h : v = va ∨ Fresh wr.heap.size v) => off_back (S := S) hoff h1 hS2 h)
        have OLD := Lib.hid (fun (w2 : World) (h : Below wr.heap.size wr w2) => And.intro (cellD_of ((h.cell (p := ⟨gb, k * 3, none⟩) hglt).trans d0)) (And.intro (cellD_of ((h.cell (p := ⟨gb, k * 3 + 1, none⟩) hglt).trans d1)) (And.intro (cellD_of ((h.cell (p := ⟨gb, k * 3 + 2, none⟩) hglt).trans d2)) (And.intro ((h.frozen (p := ⟨gb, k * 3, none⟩) hglt).trans f0) (And.intro ((h.frozen (p := ⟨gb, k * 3 + 1, none⟩) hglt).trans f1) ((h.frozen (p := ⟨gb, k * 3 + 2, none⟩) hglt).trans f2))))))
        have A0 := Lib.hid a0
        obtain ⟨A1, c1, rfl⟩ := rats_shape hr
        have LN := Lib.hid (fun (A2 : Option Addr) (c2 : Nat) (h : Value.slice A2 u.1.length c2 = .slice A1 t.1.length c1) (hm : u.1 ≠ []) => len_ne h hm)
        obtain ⟨t0, t1, t2⟩ := t
        obtain ⟨u0, u1, u2⟩ := u
        dsimp only at *
        generalize t0.length = tl at *
        clear hm ho hgr hul ht hlen hbase hnc hcm hSg hr hoff htm hgr' EI st hS2 hf a0 F hm2 hts
        go_upto_region 5 with (go_at_call 69; (with_reducible refine EY.out.mono ?_); rintro e5 w1 ⟨A2, c2, rfl, hr1, hb1, ho1⟩)
        have a1 := below_alloc1 w1 (.cells #[.slice A2 u0.length c2, .int .i64 u1, .int .i64 u2] 27)
        have G := FracBox.start w1 (.slice A2 u0.length c2) (.int .i64 u1) (.int .i64 u2) 27
        have j0 := G.k0; have j1 := G.k1; have j2 := G.k2
        have b1 := A0.out.trans (hb1.mono A0.out.size)
        have b2 := b1.trans (a1.mono b1.size)
        obtain ⟨d0, d1, d2, f0, f1, f2⟩ := OLD.out _ b2
        have R2 := REL.out _ b2 _ (hr1.below a1) (OB.out _ (fun e => LN.out A2 c2 e) (ho1.imp id (fun h => h.mono A0.out.size)))
        clear k0 k1 k2 a1 G b1 hr1 hb1 ho1
        generalize w1.alloc (.cells #[.slice A2 u0.length c2, .int .i64 u1, .int .i64 u2] 27) = w2 at *
        generalize u0.length = ul at *
        have R3 := Lib.hid R2
        have HK := Lib.hid (And.intro hlt hg)
        clear R2 b2 hlt hg hkn hk
        go_wp2_with fail
        go_roundg (n - (k + 1))
        case measure => have := HK.out; omega
        case rel => exact ⟨k + 1, by push_cast; rfl, by have := HK.out; omega, rfl, R3.out⟩
end Go.Proofs.Ytkinbbhbencipaa
