/-
  Rows of terms in the call's own memory. (Template: by-name.py fills it.)
-/
import Derived.Test.YtkinbbhbencipaaJC
import Derived.Test.YtkinbbhbencipaaJD
import Derived.Test.YtkinbbhbencipaaJRatS
namespace Go.Proofs.Ytkinbbhbencipaa
open Go.RowKit

/-- A term: its list, its constant. -/
abbrev Trm := List (Int × Int) × Int × Int

/-- The cells of a row of terms, each with the slice that it holds. -/
def termCells : List (Value × Trm) → List Value
  | [] => []
  | x :: r => x.1 :: .int .i64 x.2.2.1 :: .int .i64 x.2.2.2 :: termCells r

theorem termCells_length : ∀ l, (termCells l).length = l.length * 3
  | [] => rfl
  | x :: r => by rw [termCells, List.length_cons, List.length_cons, List.length_cons, termCells_length r, List.length_cons]; omega
theorem termCells_at : ∀ (l : List (Value × Trm)) (k : Nat) (x : Value × Trm), l[k]? = some x → (termCells l)[k * 3]? = some x.1 ∧ (termCells l)[k * 3 + 1]? = some (.int .i64 x.2.2.1) ∧ (termCells l)[k * 3 + 2]? = some (.int .i64 x.2.2.2)
  | [], k, x, h => by simp at h
  | y :: r, 0, x, h => by
    obtain rfl : y = x := by simpa using h
    exact ⟨rfl, rfl, rfl⟩
  | y :: r, k + 1, x, h => by
    rw [List.getElem?_cons_succ] at h
    obtain ⟨a, b, c⟩ := termCells_at r k x h
    exact ⟨by rw [show (k + 1) * 3 = k * 3 + 1 + 1 + 1 by omega]; exact a, by rw [show (k + 1) * 3 + 1 = k * 3 + 1 + 1 + 1 + 1 by omega]; exact b, by rw [show (k + 1) * 3 + 2 = k * 3 + 2 + 1 + 1 + 1 by omega]; exact c⟩

/-- A slice of terms. -/
def TermsAt (w : World) (v : Value) (ts : List Trm) : Prop :=
  ∃ A c rs, v = .slice A ts.length c ∧ ts.length ≤ c ∧ c ≤ maxLen ∧ rs.map (·.2) = ts ∧ Reads w w.heap.size 3 A ts.length (termCells rs) ∧ ∀ x ∈ rs, RatsAt w x.1 x.2.1

theorem TermsAt.below {w w' : World} {v : Value} {ts : List Trm} (h : TermsAt w v ts) (hb : Below w.heap.size w w') : TermsAt w' v ts := by
  obtain ⟨A, c, rs, h1, h2, h3, h4, h5, h6⟩ := h
  exact ⟨A, c, rs, h1, h2, h3, h4, (h5.below hb).more hb.size, fun x hx => (h6 x hx).below hb⟩
theorem TermsAt.nil (w : World) : TermsAt w (.slice none 0 0) [] := ⟨none, 0, [], rfl, Nat.le_refl _, by decide, rfl, Reads.none_, fun x hx => by cases hx⟩

theorem terms_cells {w wr : World} {A : Option Addr} {n k : Nat} {rs : List (Value × Trm)} {x : Value × Trm} (h4 : Reads w w.heap.size 3 A n (termCells rs)) (hb : Below w.heap.size w wr) (hx : rs[k]? = some x) (hn : 0 < n) :
    ∃ ad, A = some ad ∧ wr.cell? (ad.add (k * 3)) = some x.1 ∧ wr.cell? ⟨(ad.add (k * 3)).block, (ad.add (k * 3)).off + 1, none⟩ = some (.int .i64 x.2.2.1) ∧ wr.cell? ⟨(ad.add (k * 3)).block, (ad.add (k * 3)).off + 2, none⟩ = some (.int .i64 x.2.2.2) := by
  obtain ⟨ad, e, hbk, hc⟩ := h4.2 hn
  obtain ⟨a, b, c⟩ := termCells_at rs k x hx
  have d0 := (hb.cell (p := ad.add (k * 3)) (by rw [block_of_add]; exact hbk)).trans (hc _ _ a)
  have d1 := (hb.cell (p := ad.add (k * 3 + 1)) (by rw [block_of_add]; exact hbk)).trans (hc _ _ b)
  have d2 := (hb.cell (p := ad.add (k * 3 + 2)) (by rw [block_of_add]; exact hbk)).trans (hc _ _ c)
  rw [← add_of_add] at d1 d2
  exact ⟨ad, e, d0, d1, d2⟩

theorem all_take {α : Type} {f : α → Bool} {l : List α} {k : Nat} {x : α} (hk : l[k]? = some x) (h : (l.take k).all f = true) : (l.take (k + 1)).all f = f x := by
  have hl : k < l.length := by
    rcases Nat.lt_or_ge k l.length with g | g
    · exact g
    · rw [List.getElem?_eq_none g] at hk; cases hk
  rw [List.take_succ_eq_append_getElem hl, List.all_append, h, Bool.true_and]
  have e : l[k] = x := by rw [List.getElem?_eq_getElem hl] at hk; exact Option.some.inj hk
  rw [e]
  simp
theorem all_bad {α : Type} {f : α → Bool} {l : List α} {k : Nat} {x : α} (hk : l[k]? = some x) (h : f x = false) : l.all f = false := by
  rw [List.all_eq_false]
  exact ⟨x, List.mem_of_getElem? hk, by rw [h]; decide⟩

/-- Aren't there too many? -/
def smallT (ts : List Trm) : Bool := (ts.all fun t => decide (t.1.length ≤ 12)) && decide (ts.length ≤ 12)

end Go.Proofs.Ytkinbbhbencipaa

namespace Go.Proofs.Ytkinbbhbencipaa
open Go.RowKit

set_option maxRecDepth 10000 in
set_option maxHeartbeats 1000000 in
theorem gcontains_any (w : World) (v : Value) (l : List (Int × Int)) (kn kd i : Int) (h : RatsAt w v l) :
    Calls Try.prog 39 #[.agg #[v, .int .i64 kn, .int .i64 kd], .int .i64 i] w fun r w' => r = .returned (.bool ((atL l i).1 != 0)) ∧ Below w.heap.size w w' := by
  have hb0 := below_alloc1 w (.cells #[v, .int .i64 kn, .int .i64 kd] 27)
  have ta := tat_any _ v l kn kd i (h.below hb0)
  generalize atL l i = x at *
  obtain ⟨x1, x2⟩ := x
  dsimp only at *
  obtain ⟨A, c, rfl, _, _, _⟩ := h
  generalize l.length = n at *
  have hfd : ∀ w : World, (Instr.field 25 (.agg #[.int .i64 x1, .int .i64 x2]) 0).run Try.prog w = .ok (.int .i64 x1) w := fun _ => by kernel_rfl
  have TA := Lib.hid ta
  clear ta
  go_enter Try.func39, Try.ntmps39
  go_wp2_with (go_at_call 46; (with_reducible refine TA.out.mono ?_); rintro e w1 ⟨rfl, hb⟩)
  go_ret
  exact ⟨rfl, hb0.trans (hb.mono hb0.size)⟩
end Go.Proofs.Ytkinbbhbencipaa

namespace Go.Proofs.Ytkinbbhbencipaa
open Go.RowKit

/-- One over a fraction. -/
def invH (x : Int × Int) : Int × Int := (if x.1 < 0 then -x.2 else x.2, (x.1.natAbs : Int))

theorem valid_inv {n : Int} {d : Nat} (v : Valid n d) (h : n ≠ 0) : Valid (if n < 0 then -(d : Int) else d) n.natAbs := by
  have e : (if n < 0 then -(d : Int) else d).natAbs = d := by split <;> simp
  exact ⟨by omega, v.n_le, by rw [e]; exact v.d_le, by rw [e, Nat.gcd_comm]; exact v.low⟩
theorem okR_inv {x : Int × Int} (h : OkR x) (hn : x.1 ≠ 0) : OkR (invH x) := by
  obtain ⟨d, e, v⟩ := h
  refine ⟨x.1.natAbs, rfl, ?_⟩
  unfold invH
  rw [e]
  exact valid_inv v hn
theorem inv_eq {n : Int} {d : Nat} (_ : Valid n d) (_ : n ≠ 0) : (if n < 0 then -(d : Int) else d) * ((1 : Nat) : Int) * n = 1 * (d : Int) * (n.natAbs : Int) := by
  by_cases g : n < 0
  · rw [if_pos g, show ((n.natAbs : Nat) : Int) = -n by omega]
    simp [Int.neg_mul, Int.mul_neg]
  · rw [if_neg g, show ((n.natAbs : Nat) : Int) = n by omega]
    simp
theorem inv_any (w : World) (x : Int × Int) (h : OkR x) (hn : x.1 ≠ 0) :
    Calls Try.prog 68 #[ratV 1 1, ratV x.1 x.2] w fun r w' => r = .returned (.tuple #[ratV (invH x).1 (invH x).2, .int .i64 0]) ∧ Below w.heap.size w w' := by
  obtain ⟨d, e, v⟩ := h
  have := div_to (n := 1) (d := 1) ⟨by decide, by decide, by decide, by decide⟩ v hn (valid_inv v hn) (inv_eq v hn) w
  unfold invH
  rw [e]
  exact this

set_option maxRecDepth 10000 in
set_option maxHeartbeats 4000000 in
theorem divided_any (w : World) (va : Value) (l : List (Int × Int)) (kx : Int × Int) (i : Int) (ha : RatsAt w va l) (hl : Wide l) (hx : Bd kx) (hq : OkR (atL l i)) (hn : (atL l i).1 ≠ 0) :
    Calls Try.prog 40 #[.agg #[va, .int .i64 kx.1, .int .i64 kx.2], .int .i64 i] w (TermPut w (timesT l kx (invH (atL l i))).1 (timesT l kx (invH (atL l i))).2.1 (timesT l kx (invH (atL l i))).2.2) := by
  have ta := fun (w' : World) (h : Below w.heap.size w w') => tat_any w' va l kx.1 kx.2 i (ha.below h)
  have tv := fun (w' : World) => inv_any w' (atL l i) hq hn
  have ts := fun (w' : World) (h : Below w.heap.size w w') => tscale_any w' va l kx (invH (atL l i)) (ha.below h) hl hx (okR_inv hq hn).wide
  generalize timesT l kx (invH (atL l i)) = P at *
  generalize invH (atL l i) = y at *
  generalize atL l i = x at *
  obtain ⟨L, ⟨p1, p2⟩, e⟩ := P
  obtain ⟨x1, x2⟩ := x
  obtain ⟨y1, y2⟩ := y
  obtain ⟨xn, xd⟩ := kx
  dsimp only at *
  obtain ⟨A, c, rfl⟩ := rats_shape ha
  generalize l.length = n at *
  have TA := Lib.hid ta; have TV := Lib.hid tv; have TS := Lib.hid ts
  clear ta tv ts ha hl hx hq hn
  have hb0 := below_alloc2 w (.cells #[.slice A n c, .int .i64 xn, .int .i64 xd] 27) (.cells #[.slice none 0 0, .int .i64 0, .int .i64 0] 27)
  obtain ⟨F, E⟩ := two_boxes w (.slice A n c) (.int .i64 xn) (.int .i64 xd) (.slice none 0 0) (.int .i64 0) (.int .i64 0) 27
  go_enter Try.func40, Try.ntmps40
  go_upto_region 2 with (first
    | (go_at_call 46; (with_reducible refine (TA.out _ hb0).mono ?_); rintro e w1 ⟨rfl, hb⟩; have F := F.keep hb; have E := E.keep hb; have b1 := hb0.trans (hb.mono hb0.size))
    | (go_at_call 68; (with_reducible refine (TV.out _).mono ?_); rintro e w2 ⟨rfl, hb⟩; have F := F.keep hb; have E := E.keep hb; have b2 := b1.trans (hb.mono b1.size)))
  have a2 := below_alloc1 w2 (.cells #[.int .i64 y1, .int .i64 y2] 25)
  have Q := RatAt.start w2 y1 y2 25
  have F := F.keep a2
  have E := E.keep a2
  have b3 := b2.trans (a2.mono b2.size)
  have k0 := F.k0; have k1 := F.k1; have k2 := F.k2; have q0 := Q.k0; have q1 := Q.k1
  clear a2 hb b2 b1 hb0 F Q
  generalize w2.alloc (.cells #[.int .i64 y1, .int .i64 y2] 25) = w3 at *
  go_wp2_with (go_at_call 25; (with_reducible refine (TS.out _ b3).mono ?_); rintro e5 w4 ⟨v4, rfl, hv4, hb4, fr4⟩; obtain ⟨A4, c4, rfl⟩ := rats_shape hv4; have HV := Lib.hid (And.intro hv4 fr4); clear hv4 fr4; have hlt := E.lt; have E := E.keep hb4; have b4 := b3.trans (hb4.mono b3.size); obtain ⟨e0, e1, e2, g0, g1, g2, _⟩ := id E)
  obtain ⟨c0, c1, c2⟩ := set_three (x := .slice A4 L.length c4) (y := .int .i64 p1) (z := .int .i64 p2) e0 e1 e2
  refine bodyPost_ret (v := .tuple #[.agg #[.slice A4 L.length c4, .int .i64 p1, .int .i64 p2], .int .i64 e]) (by simp [results, Try.results40, go_sem, c0, c1, c2]) rfl ⟨_, rfl, ?_, ?_, HV.out.2.mono b3.size⟩
  · exact ((HV.out.1.setCell HV.out.2 hlt _).setCell HV.out.2 hlt _).setCell HV.out.2 hlt _
  · exact ((b4.setCell (by show w.heap.size ≤ w.heap.size + 1; omega) _).setCell (by show w.heap.size ≤ w.heap.size + 1; omega) _).setCell (by show w.heap.size ≤ w.heap.size + 1; omega) _
end Go.Proofs.Ytkinbbhbencipaa

namespace Go.Proofs.Ytkinbbhbencipaa
open Go.RowKit

set_option maxRecDepth 10000 in
set_option maxHeartbeats 1000000 in
theorem solve1_any (w : World) (v : Value) (l : List (Int × Int)) (kn kd : Int) (h : RatsAt w v l) (hw : Wide l) (hk : Bd (kn, kd)) :
    Calls Try.prog 35 #[.agg #[v, .int .i64 kn, .int .i64 kd]] w fun r w' => r = .returned (.bool (!rightT l kn kd)) ∧ Below w.heap.size w w' := by
  have hb0 := below_alloc1 w (.cells #[v, .int .i64 kn, .int .i64 kd] 27)
  have ta := tright_any _ v l kn kd (h.below hb0) hw hk.1.1 hk.1.2 hk.2.1 hk.2.2
  generalize rightT l kn kd = R at *
  obtain ⟨A, c, rfl⟩ := rats_shape h
  generalize l.length = n at *
  have TA := Lib.hid ta
  clear ta h hw hk
  go_enter Try.func35, Try.ntmps35
  go_wp2_with (go_at_call 33; (with_reducible refine TA.out.mono ?_); rintro e w1 ⟨rfl, hb⟩)
  go_ret
  exact ⟨rfl, hb0.trans (hb.mono hb0.size)⟩

set_option maxRecDepth 10000 in
set_option maxHeartbeats 1000000 in
theorem solve3_any (w : World) (v : Value) (l : List (Int × Int)) (kn kd : Int) (h : RatsAt w v l) :
    Calls Try.prog 44 #[.agg #[v, .int .i64 kn, .int .i64 kd]] w fun r w' => r = .returned (.bool (kn != 0)) ∧ Below w.heap.size w w' := by
  obtain ⟨A, c, rfl⟩ := rats_shape h
  have hb0 := below_alloc1 w (.cells #[.slice A l.length c, .int .i64 kn, .int .i64 kd] 27)
  generalize l.length = n at *
  clear h
  go_enter Try.func44, Try.ntmps44
  go_wp2_with fail
  go_ret
  exact ⟨rfl, hb0⟩

set_option maxRecDepth 10000 in
set_option maxHeartbeats 1000000 in
/-- The variable that is captured lies in the block b. -/
theorem solve2_any (w : World) (v : Value) (l : List (Int × Int)) (kn kd i : Int) (b : Nat) (h : RatsAt w v l) (hi : w.cell? ⟨b, 0, none⟩ = some (.int .i64 i)) :
    Calls Try.prog 38 #[.agg #[v, .int .i64 kn, .int .i64 kd], .pointer (some ⟨b, 0, none⟩)] w fun r w' => r = .returned (.bool ((atL l i).1 != 0)) ∧ Below w.heap.size w w' := by
  have hb0 := below_alloc1 w (.cells #[v, .int .i64 kn, .int .i64 kd] 27)
  have ta := gcontains_any _ v l kn kd i (h.below hb0)
  have d0 := (hb0.cell (World.block_lt_of_cell? _ _ hi)).trans hi
  generalize ((atL l i).1 != 0) = R at *
  obtain ⟨A, c, rfl⟩ := rats_shape h
  generalize l.length = n at *
  have TA := Lib.hid ta
  clear ta h hi
  go_enter Try.func38, Try.ntmps38
  go_wp2_with (go_at_call 39; (with_reducible refine TA.out.mono ?_); rintro e w1 ⟨rfl, hb⟩)
  go_ret
  exact ⟨rfl, hb0.trans (hb.mono hb0.size)⟩
end Go.Proofs.Ytkinbbhbencipaa

namespace Go.Proofs.Ytkinbbhbencipaa
open Go.RowKit

/-- Less so many times. -/
def negH (x : Int × Int) : Int × Int := (-x.1, x.2)

theorem okR_neg {x : Int × Int} (h : OkR x) : OkR (negH x) := by
  obtain ⟨d, e, v⟩ := h
  exact ⟨d, e, v.pos, v.d_le, by unfold negH; rw [Int.natAbs_neg]; exact v.n_le, by unfold negH; rw [Int.natAbs_neg]; exact v.low⟩

/-- What the function that eliminator makes answers. -/
def elimT (l : List (Int × Int)) (kx : Int × Int) (p : List (Int × Int)) (kp : Int × Int) (i : Int) : List (Int × Int) × (Int × Int) × Int :=
  if (atL l i).1 = 0 then (l, kx, 0)
  else if (timesT p kp (negH (atL l i))).2.2 = 0 then sumT l (timesT p kp (negH (atL l i))).1 kx (timesT p kp (negH (atL l i))).2.1 else ([], (0, 0), (timesT p kp (negH (atL l i))).2.2)

/-- A term and an error that are handed back; the term may be an old one. -/
def TermBack (w : World) (va : Value) (l : List (Int × Int)) (k : Int × Int) (E : Int) (e : Ending) (w' : World) : Prop :=
  ∃ v, e = .returned (.tuple #[.agg #[v, .int .i64 k.1, .int .i64 k.2], .int .i64 E]) ∧ RatsAt w' v l ∧ Below w.heap.size w w' ∧ (v = va ∨ Fresh w.heap.size v)

theorem back_three {w w1 : World} {l : List (Int × Int)} {v : Value} {b : Nat} {x y z : Value} (h : RatsAt w v l) (hb : Below w.heap.size w w1) (hlt : w.heap.size ≤ b) :
    RatsAt (((w1.setCell ⟨b, 0, none⟩ x).setCell ⟨b, 1, none⟩ y).setCell ⟨b, 2, none⟩ z) v l ∧ Below w.heap.size w (((w1.setCell ⟨b, 0, none⟩ x).setCell ⟨b, 1, none⟩ y).setCell ⟨b, 2, none⟩ z) := by
  have h3 := ((hb.setCell (p := ⟨b, 0, none⟩) hlt x).setCell (p := ⟨b, 1, none⟩) hlt y).setCell (p := ⟨b, 2, none⟩) hlt z
  exact ⟨h.below h3, h3⟩

set_option maxRecDepth 10000 in
set_option maxHeartbeats 2000000 in
theorem elim_none (w : World) (va : Value) (l : List (Int × Int)) (kx : Int × Int) (i : Int) (b : Nat) (pb : Value) (ha : RatsAt w va l) (hi : w.cell? ⟨b, 0, none⟩ = some (.int .i64 i)) (hz : (atL l i).1 = 0) :
    Calls Try.prog 69 #[.agg #[va, .int .i64 kx.1, .int .i64 kx.2], .pointer (some ⟨b, 0, none⟩), pb] w (TermBack w va l kx 0) := by
  have ca := fun (w' : World) (h : Below w.heap.size w w') => gcontains_any w' va l kx.1 kx.2 i (ha.below h)
  have hz' : ((atL l i).1 != 0) = false := by rw [hz]; rfl
  rw [hz'] at ca
  obtain ⟨xn, xd⟩ := kx
  dsimp only at *
  obtain ⟨A, c, rfl⟩ := rats_shape ha
  have HA := Lib.hid ha
  generalize l.length = n at *
  have CA := Lib.hid ca
  clear ca hz hz' ha
  have hb0 := below_alloc2 w (.cells #[.slice A n c, .int .i64 xn, .int .i64 xd] 27) (.cells #[.slice none 0 0, .int .i64 0, .int .i64 0] 27)
  obtain ⟨F, E⟩ := two_boxes w (.slice A n c) (.int .i64 xn) (.int .i64 xd) (.slice none 0 0) (.int .i64 0) (.int .i64 0) 27
  have d0 := (hb0.cell (World.block_lt_of_cell? _ _ hi)).trans hi
  go_enter Try.func69, Try.ntmps69
  go_wp2_with (go_at_call 39; (with_reducible refine (CA.out _ hb0).mono ?_); rintro e5 w4 ⟨rfl, hb⟩; have F := F.keep hb; have E := E.keep hb; have b4 := hb0.trans (hb.mono hb0.size); have k0 := F.k0; have k1 := F.k1; have k2 := F.k2; obtain ⟨e0, e1, e2, g0, g1, g2, _⟩ := id E)
  obtain ⟨c0, c1, c2⟩ := set_three (x := .slice A n c) (y := .int .i64 xn) (z := .int .i64 xd) e0 e1 e2
  obtain ⟨r1, r2⟩ := back_three (b := w.heap.size + 1) (x := .slice A n c) (y := .int .i64 xn) (z := .int .i64 xd) HA.out b4 (by omega)
  exact bodyPost_ret (v := .tuple #[.agg #[.slice A n c, .int .i64 xn, .int .i64 xd], .int .i64 0]) (by simp [results, Try.results69, go_sem, c0, c1, c2]) rfl ⟨_, rfl, r1, r2, .inl rfl⟩

set_option maxRecDepth 10000 in
set_option maxHeartbeats 4000000 in
theorem elim_some (w : World) (va : Value) (l : List (Int × Int)) (kx : Int × Int) (i : Int) (b bp : Nat) (vp : Value) (p : List (Int × Int)) (kp : Int × Int) (ha : RatsAt w va l) (hl : Wide l) (hx : Bd kx) (hi : w.cell? ⟨b, 0, none⟩ = some (.int .i64 i))
    (hp : RatsAt w vp p) (hpw : Wide p) (hpk : Bd kp) (hc0 : w.cell? ⟨bp, 0, none⟩ = some vp) (hc1 : w.cell? ⟨bp, 1, none⟩ = some (.int .i64 kp.1)) (hc2 : w.cell? ⟨bp, 2, none⟩ = some (.int .i64 kp.2)) (hq : OkR (atL l i)) (hz : (atL l i).1 ≠ 0) :
    Calls Try.prog 69 #[.agg #[va, .int .i64 kx.1, .int .i64 kx.2], .pointer (some ⟨b, 0, none⟩), .pointer (some ⟨bp, 0, none⟩)] w (TermBack w va (elimT l kx p kp i).1 (elimT l kx p kp i).2.1 (elimT l kx p kp i).2.2) := by
  have ca := fun (w' : World) (h : Below w.heap.size w w') => gcontains_any w' va l kx.1 kx.2 i (ha.below h)
  have hz' : ((atL l i).1 != 0) = true := by simpa using hz
  rw [hz'] at ca
  have ta := fun (w' : World) (h : Below w.heap.size w w') => tat_any w' va l kx.1 kx.2 i (ha.below h)
  have ts := fun (w' : World) (h : Below w.heap.size w w') => tscale_any w' vp p kp (negH (atL l i)) (hp.below h) hpw hpk (okR_neg hq).wide
  have hw2 := timesT_wide (l := p) (kx := kp) (kb := negH (atL l i)) hpw hpk (okR_neg hq).wide
  have td := fun (w' : World) (h : Below w.heap.size w w') (v' : Value) (h' : RatsAt w' v' (timesT p kp (negH (atL l i))).1) => tadd_any w' va v' l (timesT p kp (negH (atL l i))).1 kx (timesT p kp (negH (atL l i))).2.1 (ha.below h) h' hl hw2.1 hx hw2.2
  have hT : elimT l kx p kp i = if (timesT p kp (negH (atL l i))).2.2 = 0 then sumT l (timesT p kp (negH (atL l i))).1 kx (timesT p kp (negH (atL l i))).2.1 else ([], (0, 0), (timesT p kp (negH (atL l i))).2.2) := if_neg hz
  generalize elimT l kx p kp i = Z at *
  have wn : IntKind.i64.wrap (-(atL l i).1) = -(atL l i).1 := IntWalk.i64_in _ (by have := hq.wide; obtain ⟨d, _, v⟩ := hq; have := v.n_le; omega)
  unfold negH at *
  clear hz hz' hq hw2
  generalize timesT p kp (-(atL l i).1, (atL l i).2) = P at *
  generalize sumT l P.1 kx P.2.1 = U at *
  generalize atL l i = x at *
  obtain ⟨L, ⟨p1, p2⟩, er⟩ := P
  obtain ⟨M, ⟨u1, u2⟩, eu⟩ := U
  obtain ⟨x1, x2⟩ := x
  obtain ⟨xn, xd⟩ := kx
  obtain ⟨yn, yd⟩ := kp
  dsimp only at *
  obtain ⟨A, c, rfl⟩ := rats_shape ha
  obtain ⟨B, d, rfl⟩ := rats_shape hp
  generalize l.length = n at *
  generalize p.length = m at *
  have CA := Lib.hid ca; have TA := Lib.hid ta; have TS := Lib.hid ts; have TD := Lib.hid td; have HZ := Lib.hid hT
  have OLD := Lib.hid (fun (w' : World) (h : Below w.heap.size w w') => And.intro ((h.cell (World.block_lt_of_cell? _ _ hi)).trans hi) (And.intro ((h.cell (World.block_lt_of_cell? _ _ hc0)).trans hc0) (And.intro ((h.cell (World.block_lt_of_cell? _ _ hc1)).trans hc1) ((h.cell (World.block_lt_of_cell? _ _ hc2)).trans hc2))))
  clear hT ca ta ts td ha hl hx hi hp hpw hpk hc0 hc1 hc2
  have hb0 := below_alloc2 w (.cells #[.slice A n c, .int .i64 xn, .int .i64 xd] 27) (.cells #[.slice none 0 0, .int .i64 0, .int .i64 0] 27)
  obtain ⟨F, E⟩ := two_boxes w (.slice A n c) (.int .i64 xn) (.int .i64 xd) (.slice none 0 0) (.int .i64 0) (.int .i64 0) 27
  have d0 := (OLD.out _ hb0).1
  go_enter Try.func69, Try.ntmps69
  go_upto_region 3 with (go_at_call 39; (with_reducible refine (CA.out _ hb0).mono ?_); rintro e5 w1 ⟨rfl, hb⟩; have F := F.keep hb; have E := E.keep hb; have b1 := hb0.trans (hb.mono hb0.size); have k0 := F.k0; have k1 := F.k1; have k2 := F.k2; have d0 := (OLD.out _ b1).1; clear hb)
  go_upto_region 4 with (go_at_call 46; (with_reducible refine (TA.out _ b1).mono ?_); rintro e5 w2 ⟨rfl, hb⟩; have F := F.keep hb; have E := E.keep hb; have b2 := b1.trans (hb.mono b1.size); clear hb)
  have a2 := below_alloc1 w2 (.cells #[.int .i64 x1, .int .i64 x2] 25)
  have Q := RatAt.start w2 x1 x2 25
  have F := F.keep a2
  have E := E.keep a2
  have b3 := b2.trans (a2.mono b2.size)
  have q0 := Q.k0; have q1 := Q.k1
  obtain ⟨_, o0, o1, o2⟩ := OLD.out _ b3
  clear a2 b2 b1 hb0 Q k0 k1 k2 d0
  generalize w2.alloc (.cells #[.int .i64 x1, .int .i64 x2] 25) = w3 at *
  go_upto_region 5 with (go_at_call 25; (with_reducible refine (TS.out _ b3).mono ?_); rintro e5 w4 ⟨v4, rfl, hv4, hb, _⟩; obtain ⟨A4, c4, rfl⟩ := rats_shape hv4; have HV := Lib.hid hv4; clear hv4; have F := F.keep hb; have E := E.keep hb; have b4 := b3.trans (hb.mono b3.size); clear hb)
  have a4 := below_alloc1 w4 (.cells #[.slice A4 L.length c4, .int .i64 p1, .int .i64 p2] 27)
  have G := FracBox.start w4 (.slice A4 L.length c4) (.int .i64 p1) (.int .i64 p2) 27
  have F := F.keep a4
  have E := E.keep a4
  have HV := Lib.hid (HV.out.below a4)
  have b5 := b4.trans (a4.mono b4.size)
  have k0 := F.k0; have k1 := F.k1; have k2 := F.k2; have j0 := G.k0; have j1 := G.k1; have j2 := G.k2
  clear a4 b4 b3 q0 q1 o0 o1 o2 wn G
  generalize w4.alloc (.cells #[.slice A4 L.length c4, .int .i64 p1, .int .i64 p2] 27) = w5 at *
  by_cases g : er = 0
  · have g' : (er != 0) = false := by simpa using g
    have T0 := TD.out _ b5 _ HV.out
    have hZ := HZ.out
    rw [if_pos g] at hZ
    subst hZ
    clear g HZ
    have TT := Lib.hid T0
    clear T0
    go_wp2_with (go_at_call 47; (with_reducible refine TT.out.mono ?_); rintro e6 w6 ⟨v6, rfl, hv6, hb, fr6⟩; obtain ⟨A6, c6, rfl⟩ := rats_shape hv6; have HV6 := Lib.hid (And.intro hv6 fr6); clear hv6 fr6; have hlt := E.lt; have E := E.keep hb; have b6 := b5.trans (hb.mono b5.size); obtain ⟨e0, e1, e2, g0, g1, g2, _⟩ := id E)
    obtain ⟨c0, c1, c2⟩ := set_three (x := .slice A6 M.length c6) (y := .int .i64 u1) (z := .int .i64 u2) e0 e1 e2
    refine bodyPost_ret (v := .tuple #[.agg #[.slice A6 M.length c6, .int .i64 u1, .int .i64 u2], .int .i64 eu]) (by simp [results, Try.results69, go_sem, c0, c1, c2]) rfl ⟨_, rfl, ?_, ?_, .inr (HV6.out.2.mono b5.size)⟩
    · exact ((HV6.out.1.setCell HV6.out.2 hlt _).setCell HV6.out.2 hlt _).setCell HV6.out.2 hlt _
    · exact ((b6.setCell (by show w.heap.size ≤ w.heap.size + 1; omega) _).setCell (by show w.heap.size ≤ w.heap.size + 1; omega) _).setCell (by show w.heap.size ≤ w.heap.size + 1; omega) _
  · have hZ := HZ.out
    rw [if_neg g] at hZ
    subst hZ
    clear HZ
    have g' : (er != 0) = true := by simpa using g
    obtain ⟨e0, e1, e2, g0, g1, g2, _⟩ := id E
    clear g
    go_wp2_with fail
    obtain ⟨c0, c1, c2⟩ := set_three (x := .slice none 0 0) (y := .int .i64 0) (z := .int .i64 0) e0 e1 e2
    refine bodyPost_ret (v := .tuple #[.agg #[.slice none 0 0, .int .i64 0, .int .i64 0], .int .i64 er]) (by simp [results, Try.results69, go_sem, c0, c1, c2]) rfl ⟨_, rfl, RatsAt.nil _, ?_, .inr (Fresh.none_ _ _ _)⟩
    exact ((b5.setCell (by show w.heap.size ≤ w.heap.size + 1; omega) _).setCell (by show w.heap.size ≤ w.heap.size + 1; omega) _).setCell (by show w.heap.size ≤ w.heap.size + 1; omega) _
end Go.Proofs.Ytkinbbhbencipaa

namespace Go.Proofs.Ytkinbbhbencipaa
open Go.RowKit

/-- A list of fractions that isn't empty lies in none of these blocks. -/
def Off (S : Nat → Prop) (v : Value) (l : List (Int × Int)) : Prop := l ≠ [] → ∀ b, v.ownBlock = some b → ¬ S b

theorem Off.mono {S S' : Nat → Prop} {v : Value} {l : List (Int × Int)} (h : Off S v l) (hs : ∀ b, S' b → S b) : Off S' v l := fun hl b hb q => h hl b hb (hs b q)
theorem Off.none_ (S : Nat → Prop) (v : Value) : Off S v [] := fun h => absurd rfl h
theorem Off.fresh {S : Nat → Prop} {v : Value} {l : List (Int × Int)} {B : Nat} (hf : Fresh B v) (hs : ∀ b, S b → b < B) : Off S v l := fun _ b hb q => by
  have := hf b hb
  have := hs b q
  omega
theorem RatsAt.lt {w : World} {v : Value} {l : List (Int × Int)} (h : RatsAt w v l) (hl : l ≠ []) : ∀ b, v.ownBlock = some b → b < w.heap.size := by
  obtain ⟨A, c, rfl, _, _, h4⟩ := h
  intro b hb
  have hn : 0 < l.length := List.length_pos_iff.2 hl
  obtain ⟨ad, rfl, hlt, _⟩ := h4.2 hn
  have : ad.block = b := by simpa [Value.ownBlock] using hb
  omega
theorem Off.more {w : World} {S S' : Nat → Prop} {v : Value} {l : List (Int × Int)} (h : Off S v l) (hr : RatsAt w v l) (hs : ∀ b, S' b → S b ∨ w.heap.size ≤ b) : Off S' v l := fun hl b hb q => by
  rcases hs b q with g | g
  · exact h hl b hb g
  · have := hr.lt hl b hb
    omega
theorem RatsAt.grown {w w' : World} {row : Option Nat} {v : Value} {l : List (Int × Int)} (h : RatsAt w v l) (hg : w.grownBy w' row) (ho : l ≠ [] → ∀ b, v.ownBlock = some b → row ≠ some b) : RatsAt w' v l := by
  obtain ⟨A, c, rfl, h2, h3, h4⟩ := h
  refine ⟨A, c, rfl, h2, h3, h4.1, fun hn => ?_⟩
  obtain ⟨ad, rfl, hlt, hc⟩ := h4.2 hn
  refine ⟨ad, rfl, Nat.lt_of_lt_of_le hlt hg.size, fun j u hu => ?_⟩
  have hne : row ≠ some ad.block := ho (List.length_pos_iff.1 hn) _ rfl
  exact (World.cell?_of_block (hg.block (ad.add j).block (by rw [block_of_add]; exact hlt) (by rw [block_of_add]; exact fun e => hne e.symm))).trans (hc j u hu)
theorem RatsAt.off {w w' : World} {row : Option Nat} {S : Nat → Prop} {v : Value} {l : List (Int × Int)} (h : RatsAt w v l) (ho : Off S v l) (hg : w.grownBy w' row) (hr : ∀ b, row = some b → S b) : RatsAt w' v l :=
  h.grown hg fun hl b hb e => ho hl b hb (hr b e)

theorem grown_of_below {w w' : World} (h : Below w.heap.size w w') (row : Option Nat) : w.grownBy w' row := ⟨h.os, h.tape, h.output, h.size, fun k hk _ => h.block k hk⟩
theorem grown_trans {a b c : World} {row : Option Nat} (h : a.grownBy b row) (k : b.grownBy c row) : a.grownBy c row :=
  ⟨k.os.trans h.os, k.tape.trans h.tape, k.output.trans h.output, Nat.le_trans h.size k.size, fun i hi hne => (k.block i (Nat.lt_of_lt_of_le hi h.size) hne).trans (h.block i hi hne)⟩
theorem grown_set {w : World} {g j : Nat} {u : Value} : w.grownBy (w.setCell ⟨g, j, none⟩ u) (some g) :=
  ⟨rfl, rfl, rfl, by simp [World.setCell], fun k _ hk => Below.heap_setCell _ _ _ _ (fun e => hk (by rw [e]))⟩
theorem grown_below_of {B : Nat} {w w' : World} {row : Option Nat} (hg : w.grownBy w' row) (hB : B ≤ w.heap.size) (hr : ∀ k, row = some k → B ≤ k) : Below B w w' := (Below.refl B w).grown hg hB hr

/-- A row of terms in the call's own memory; no list of fractions that stands in it lies in one of the blocks of S. -/
def OwnT (w : World) (base : Nat) (v : Value) (ts : List Trm) (S : Nat → Prop) : Prop :=
  ∃ rs, rs.map (·.2) = ts ∧ w.ownsRow base 27 3 v ts.length (termCells rs) ∧ ∀ x ∈ rs, RatsAt w x.1 x.2.1 ∧ Off S x.1 x.2.1

theorem OwnT.nil (w : World) (base : Nat) (S : Nat → Prop) : OwnT w base (.slice none 0 0) [] S := ⟨[], rfl, World.ownsRow_nil w base _ _, fun x hx => by cases hx⟩
theorem OwnT.terms {w : World} {base : Nat} {v : Value} {ts : List Trm} {S : Nat → Prop} (h : OwnT w base v ts S) : TermsAt w v ts := by
  obtain ⟨rs, h1, h2, h3⟩ := h
  have h0 := h2
  rcases h2.2 with ⟨rfl, hn⟩ | ⟨g, cap, cur, rfl, _, hh, hnc, hrest⟩
  · have hts : ts = [] := List.eq_nil_of_length_eq_zero hn
    subst hts
    exact TermsAt.nil w
  · exact ⟨some _, cap, rs, rfl, hnc, hrest.1, h1, Reads.of_own h0, fun x hx => (h3 x hx).1⟩
theorem OwnT.lt {w : World} {base : Nat} {v : Value} {ts : List Trm} {S : Nat → Prop} (h : OwnT w base v ts S) : ∀ k, v.ownBlock = some k → base ≤ k ∧ k < w.heap.size := by
  obtain ⟨rs, _, h2, _⟩ := h
  exact h2.lt
theorem OwnT.below {w w' : World} {base : Nat} {v : Value} {ts : List Trm} {S : Nat → Prop} (h : OwnT w base v ts S) (hb : Below w.heap.size w w') : OwnT w' base v ts S := by
  obtain ⟨rs, h1, h2, h3⟩ := h
  exact ⟨rs, h1, h2.kept (grown_of_below hb none) (by cases hv : v.ownBlock <;> simp), fun x hx => ⟨(h3 x hx).1.below hb, (h3 x hx).2⟩⟩
/-- A write to another row. -/
theorem OwnT.other {w w' : World} {base : Nat} {v : Value} {ts : List Trm} {S : Nat → Prop} {row : Option Nat} (h : OwnT w base v ts S) (hg : w.grownBy w' row) (hr : ∀ b, row = some b → S b ∧ v.ownBlock ≠ some b) : OwnT w' base v ts S := by
  obtain ⟨rs, h1, h2, h3⟩ := h
  refine ⟨rs, h1, h2.kept hg ?_, fun x hx => ⟨(h3 x hx).1.off (h3 x hx).2 hg fun b e => (hr b e).1, (h3 x hx).2⟩⟩
  cases row with
  | none => cases hv : v.ownBlock <;> simp
  | some b => exact .inr (hr b rfl).2
theorem OwnT.mono {w : World} {base : Nat} {v : Value} {ts : List Trm} {S S' : Nat → Prop} (h : OwnT w base v ts S) (hs : ∀ b, S' b → S b ∨ w.heap.size ≤ b) : OwnT w base v ts S' := by
  obtain ⟨rs, h1, h2, h3⟩ := h
  exact ⟨rs, h1, h2, fun x hx => ⟨(h3 x hx).1, (h3 x hx).2.more (h3 x hx).1 hs⟩⟩

theorem OwnT.base {w : World} {base base' : Nat} {v : Value} {ts : List Trm} {S : Nat → Prop} (h : OwnT w base v ts S) (hb : base' ≤ base) : OwnT w base' v ts S := by
  obtain ⟨rs, h1, h2, h3⟩ := h
  refine ⟨rs, h1, ⟨h2.1, ?_⟩, h3⟩
  rcases h2.2 with q | ⟨g, cap, cur, e, hg, rest⟩
  · exact .inl q
  · exact .inr ⟨g, cap, cur, e, Nat.le_trans hb hg, rest⟩

theorem termCells_set : ∀ (l : List (Value × Trm)) (k : Nat) (x : Value × Trm), termCells (l.set k x) = (((termCells l).set (k * 3) x.1).set (k * 3 + 1) (.int .i64 x.2.2.1)).set (k * 3 + 2) (.int .i64 x.2.2.2)
  | [], k, x => by simp [termCells]
  | y :: r, 0, x => by simp [termCells]
  | y :: r, k + 1, x => by
    rw [List.set_cons_succ, termCells, termCells, termCells_set r k x, show (k + 1) * 3 = k * 3 + 1 + 1 + 1 by omega, show k * 3 + 1 + 1 + 1 + 1 = (k * 3 + 1) + 1 + 1 + 1 by omega, show k * 3 + 1 + 1 + 1 + 2 = (k * 3 + 2) + 1 + 1 + 1 by omega]
    simp only [List.set_cons_succ]
theorem termCells_append : ∀ (l m : List (Value × Trm)), termCells (l ++ m) = termCells l ++ termCells m
  | [], m => rfl
  | x :: r, m => by rw [List.cons_append, termCells, termCells, termCells_append r m]; rfl
theorem termCells_one : ∀ (l : List (Value × Trm)) (_ : ∀ x ∈ l, ∃ A n c, x.1 = .slice A n c), ∀ u ∈ termCells l, u.oneCell' = true
  | [], _, u, h => by cases h
  | x :: r, hx, u, h => by
    rw [termCells, List.mem_cons, List.mem_cons, List.mem_cons] at h
    rcases h with rfl | rfl | rfl | h
    · obtain ⟨A, n, c, e⟩ := hx x (by simp)
      rw [e]
      rfl
    · rfl
    · rfl
    · exact termCells_one r (fun y hy => hx y (by simp [hy])) u h

/-- A term is stored over another one. -/
theorem OwnT.stored {w : World} {base g n cap k : Nat} {ts : List Trm} {S : Nat → Prop} (h : OwnT w base (.slice (some ⟨g, 0, none⟩) n cap) ts S) (hS : S g) {v : Value} {t : Trm} (hr : RatsAt w v t.1) (ho : Off S v t.1) :
    OwnT (((w.setCell ⟨g, k * 3, none⟩ v).setCell ⟨g, k * 3 + 1, none⟩ (.int .i64 t.2.1)).setCell ⟨g, k * 3 + 2, none⟩ (.int .i64 t.2.2)) base (.slice (some ⟨g, 0, none⟩) n cap) (ts.set k t) S ∧
    w.grownBy (((w.setCell ⟨g, k * 3, none⟩ v).setCell ⟨g, k * 3 + 1, none⟩ (.int .i64 t.2.1)).setCell ⟨g, k * 3 + 2, none⟩ (.int .i64 t.2.2)) (some g) := by
  obtain ⟨rs, h1, h2, h3⟩ := h
  have hn : n = ts.length := by
    rcases h2.2 with ⟨e, _⟩ | ⟨g', cap', cur, e, _⟩
    · cases e
    · injection e
  subst hn
  obtain ⟨a1, b1⟩ := h2.stored (k * 3) v
  obtain ⟨a2, b2⟩ := a1.stored (k * 3 + 1) (.int .i64 t.2.1)
  obtain ⟨a3, b3⟩ := a2.stored (k * 3 + 2) (.int .i64 t.2.2)
  have hg := grown_trans (grown_trans b1 b2) b3
  refine ⟨⟨rs.set k (v, t), by rw [List.map_set, h1], ?_, fun x hx => ?_⟩, hg⟩
  · rw [List.length_set, termCells_set]
    exact a3
  · rcases List.mem_or_eq_of_mem_set hx with q | rfl
    · exact ⟨(h3 x q).1.off (h3 x q).2 hg (fun b e => by injection e with e; exact e ▸ hS), (h3 x q).2⟩
    · exact ⟨hr.off ho hg (fun b e => by injection e with e; exact e ▸ hS), ho⟩

/-- A row of the call's own that holds something lies at the head of a block. -/
theorem OwnT.form {w : World} {base : Nat} {v : Value} {ts : List Trm} {S : Nat → Prop} (h : OwnT w base v ts S) (hn : 0 < ts.length) : ∃ g cap, v = .slice (some ⟨g, 0, none⟩) ts.length cap ∧ base ≤ g ∧ g < w.heap.size ∧ ts.length ≤ cap ∧ cap ≤ maxLen := by
  obtain ⟨rs, _, h2, _⟩ := h
  rcases h2.2 with ⟨_, hz⟩ | ⟨g, cap, cur, rfl, hb, hg, hc, hm, _⟩
  · omega
  · exact ⟨g, cap, rfl, hb, (Array.getElem?_eq_some_iff.1 hg).1, hc, hm⟩
theorem OwnT.cells {w : World} {base g n cap k : Nat} {ts : List Trm} {S : Nat → Prop} (h : OwnT w base (.slice (some ⟨g, 0, none⟩) n cap) ts S) {t : Trm} (ht : ts[k]? = some t) :
    ∃ v, RatsAt w v t.1 ∧ Off S v t.1 ∧ w.cell? ⟨g, k * 3, none⟩ = some v ∧ w.cell? ⟨g, k * 3 + 1, none⟩ = some (.int .i64 t.2.1) ∧ w.cell? ⟨g, k * 3 + 2, none⟩ = some (.int .i64 t.2.2) ∧
      w.frozen? ⟨g, k * 3, none⟩ = false ∧ w.frozen? ⟨g, k * 3 + 1, none⟩ = false ∧ w.frozen? ⟨g, k * 3 + 2, none⟩ = false := by
  obtain ⟨rs, h1, h2, h3⟩ := h
  have hn : n = ts.length := by
    rcases h2.2 with ⟨e, _⟩ | ⟨g', cap', cur, e, _⟩
    · cases e
    · injection e
  subst hn
  have hk : k < ts.length := by
    rcases Nat.lt_or_ge k ts.length with q | q
    · exact q
    · rw [List.getElem?_eq_none q] at ht; cases ht
  obtain ⟨x, hx⟩ : ∃ x, rs[k]? = some x := ⟨_, List.getElem?_eq_getElem (by rw [← h1, List.length_map] at hk; exact hk)⟩
  have e : x.2 = t := by
    rw [← h1, List.getElem?_map, hx] at ht
    exact Option.some.inj ht
  subst e
  obtain ⟨a, b, c⟩ := termCells_at rs k x hx
  obtain ⟨p, q⟩ := h3 x (List.mem_of_getElem? hx)
  refine ⟨x.1, p, q, ?_, ?_, ?_, h2.frozenAt _, h2.frozenAt _, h2.frozenAt _⟩
  · rw [h2.cellAt _ (by omega)]; exact a
  · rw [h2.cellAt _ (by omega)]; exact b
  · rw [h2.cellAt _ (by omega)]; exact c
/-- Behind an append of one term. -/
theorem OwnT.appended {w w' : World} {base : Nat} {v v' vt : Value} {ts : List Trm} {rs : List (Value × Trm)} {t : Trm} {S S' : Nat → Prop} (h1 : rs.map (·.2) = ts) (h3 : ∀ x ∈ rs, RatsAt w x.1 x.2.1 ∧ Off S x.1 x.2.1)
    (hown : w'.ownsRow base 27 3 v' (ts.length + 1) (termCells rs ++ [vt, .int .i64 t.2.1, .int .i64 t.2.2])) (hg : w.grownBy w' v.ownBlock) (hv : ∀ b, v.ownBlock = some b → S b) (hr : RatsAt w vt t.1) (ho : Off S vt t.1) (hs : ∀ b, S' b → S b ∨ w.heap.size ≤ b) :
    OwnT w' base v' (ts ++ [t]) S' := by
  have key : ∀ x ∈ rs ++ [(vt, t)], RatsAt w x.1 x.2.1 ∧ Off S x.1 x.2.1 := by
    intro x hx
    rcases List.mem_append.1 hx with q | q
    · exact h3 x q
    · rw [List.mem_singleton] at q
      subst q
      exact ⟨hr, ho⟩
  refine ⟨rs ++ [(vt, t)], by rw [List.map_append, h1]; rfl, ?_, fun x hx => ⟨(key x hx).1.off (key x hx).2 hg hv, (key x hx).2.more (key x hx).1 hs⟩⟩
  rw [List.length_append, termCells_append]
  exact hown
end Go.Proofs.Ytkinbbhbencipaa
