/-
  The walk of package bound's lowest. (Template: by-name.py fills it.)
-/
import Derived.Test.YtkinbbhbencipaaWords
import Derived.Laws.Rows
import Derived.OneCell
import Derived.Test.YtkinbbhbencipaaJL
import Derived.Test.YtkinbbhbencipaaJU
import Derived.Test.YtkinbbhbencipaaJRatQ
namespace Go.Proofs.Ytkinbbhbencipaa
open Go.RowKit

/-- A block that may be written, with all its cells. -/
def Blk (w : World) (b : Nat) (cs : Array Value) : Prop := ∃ ty, w.heap[b]? = some (.cells cs ty (0, 0))
section
variable {w w' : World} {b : Nat} {cs : Array Value}
theorem Blk.cell (h : Blk w b cs) (i : Nat) : w.cell? ⟨b, i, none⟩ = cs[i]? := by
  obtain ⟨ty, h⟩ := h
  simp [World.cell?, h]
theorem Blk.free (h : Blk w b cs) (i : Nat) : w.frozen? ⟨b, i, none⟩ = false := by
  obtain ⟨ty, h⟩ := h
  simp [World.frozen?, h]
theorem Blk.lt (h : Blk w b cs) : b < w.heap.size := by
  obtain ⟨ty, h⟩ := h
  exact lt_of_block h
theorem Blk.start (w : World) (cs : Array Value) (ty : TypeId) : Blk (w.alloc (.cells cs ty)) w.heap.size cs := ⟨ty, heap_alloc_new _ _⟩
theorem Blk.keepB {B : Nat} (h : Blk w b cs) (hb : Below B w w') (hlt : b < B) : Blk w' b cs := by
  obtain ⟨ty, h⟩ := h
  exact ⟨ty, (hb.block b hlt).trans h⟩
theorem Blk.keep (h : Blk w b cs) (hb : Below w.heap.size w w') : Blk w' b cs := h.keepB hb h.lt
theorem Blk.grown {row : Option Nat} (h : Blk w b cs) (hg : w.grownBy w' row) (hne : row ≠ some b) : Blk w' b cs := by
  have hl := h.lt
  obtain ⟨ty, h⟩ := h
  exact ⟨ty, (hg.block b hl (fun e => hne e.symm)).trans h⟩
theorem Blk.other (h : Blk w b cs) {p : Addr} (hp : p.block ≠ b) (v : Value) : Blk (w.setCell p v) b cs := by
  obtain ⟨ty, h⟩ := h
  exact ⟨ty, by rw [Below.heap_setCell _ _ _ _ (fun e => hp e.symm)]; exact h⟩
theorem Blk.set (h : Blk w b cs) (i : Nat) (v : Value) : Blk (w.setCell ⟨b, i, none⟩ v) b (cs.setIfInBounds i v) := by
  have hlt := h.lt
  obtain ⟨ty, h⟩ := h
  refine ⟨ty, ?_⟩
  have h' : w.heap[b] = .cells cs ty (0, 0) := by simpa [Array.getElem?_eq_getElem hlt] using h
  show (w.heap.modify b _)[b]? = _
  rw [Array.getElem?_eq_getElem (by simpa using hlt), Array.getElem_modify_self, h']
  rfl
theorem Blk.drew (h : Blk w b cs) : Blk w.drew b cs := h
end
end Go.Proofs.Ytkinbbhbencipaa

namespace Go.Proofs.Ytkinbbhbencipaa
open Go.RowKit

theorem tval2_any (w : World) (va vb : Value) (l m : List (Int × Int)) (kx : Int × Int) (ha : RatsAt w va l) (hb : RatsAt w vb m) (hl : Wide l) (hm : Wide m) (hx : Bd kx) :
    Calls Try.prog 30 #[.agg #[va, .int .i64 kx.1, .int .i64 kx.2], vb] w fun r w' => r = .returned (.tuple #[ratV (valT l m kx).1.1 (valT l m kx).1.2, .int .i64 (valT l m kx).2]) ∧ Below w.heap.size w w' := by
  cases hr : rightT l kx.1 kx.2
  · exact tval_wrong w va vb l m kx.1 kx.2 ha hb hl hx.1.1 hx.1.2 hx.2.1 hx.2.2 hr
  · exact tval_right w va vb l m kx.1 kx.2 ha hb hl hm hx.1.1 hx.1.2 hx.2.1 hx.2.2 hr

/-- A value that a term comes to is a fraction, or 0/0. -/
theorem valT_low {l m : List (Int × Int)} {kx : Int × Int} (hl : Wide l) (hx : Bd kx) (hm : Wide m) : OkR (valT l m kx).1 ∨ (valT l m kx).1 = (0, 0) := by
  by_cases h : (valT l m kx).2 = 0
  · obtain ⟨a, b, c, _, e⟩ := valT_ok hl hx hm h
    exact .inl (sumK_ok a c b 8 _ e)
  · right
    unfold valT at h ⊢
    split
    · rename_i g
      rw [if_pos g] at h
      cases q : sumK l m kx (min l.length m.length) with
      | none => rfl
      | some s => rw [q] at h; exact absurd rfl h
    · rfl

theorem bneg_low (w : World) (x : Int × Int) (h : OkR x ∨ x = (0, 0)) :
    Calls Try.prog 45 #[ratV x.1 x.2] w fun r w' => r = .returned (ratV (negH x).1 (negH x).2) ∧ Below w.heap.size w w' := by
  rcases h with h | rfl
  · exact bneg_any w x h
  · have hb := below_alloc2 w (.cells #[.int .i64 0, .int .i64 0] 25) (.cells #[.int .i64 0, .int .i64 0] 25)
    unfold negH
    dsimp only
    go_enter Try.func45, Try.ntmps45
    go_wp2_with fail
    exact bodyPost_ret (v := ratV 0 0) (by simp [results, Try.results45, go_sem]) rfl ⟨rfl, hb⟩

set_option maxRecDepth 10000 in
set_option maxHeartbeats 4000000 in
theorem sol1_any (w : World) (vb : Value) (m : List (Int × Int)) (b : Nat) (vs : Value) (s : Trm) (hB : Blk w b #[vs, .int .i64 s.2.1, .int .i64 s.2.2]) (hs : RatsAt w vs s.1) (hw : Wide s.1 ∧ Bd s.2) (hb : RatsAt w vb m) (hm : Wide m) :
    Calls Try.prog 54 #[vb, .pointer (some ⟨b, 0, none⟩)] w fun e w' => e = .returned (.tuple #[ratV (negH (valT s.1 m s.2).1).1 (negH (valT s.1 m s.2).1).2, .int .i64 (valT s.1 m s.2).2]) ∧ Below w.heap.size w w' := by
  have lo := valT_low (m := m) hw.1 hw.2 hm
  have tv := fun (w' : World) (h : Below w.heap.size w w') => tval2_any w' vs vb s.1 m s.2 (hs.below h) (hb.below h) hw.1 hm hw.2
  have ng := fun (w' : World) => bneg_low w' _ lo
  generalize valT s.1 m s.2 = V at *
  obtain ⟨⟨v1, v2⟩, e⟩ := V
  obtain ⟨sl, s1, s2⟩ := s
  unfold negH at *
  dsimp only at *
  obtain ⟨A, c, rfl⟩ := rats_shape hs
  obtain ⟨C, d, rfl⟩ := rats_shape hb
  generalize sl.length = n at *
  generalize m.length = k at *
  have TV := Lib.hid tv; have NG := Lib.hid ng
  have a0 := below_alloc1 w (.cells #[.int .i64 0, .int .i64 0] 25)
  have B0 := Blk.start w #[.int .i64 0, .int .i64 0] 25
  have B1 := hB.keep a0
  have c0 := B1.cell 0
  have c1 := B1.cell 1
  have c2 := B1.cell 2
  clear tv ng hs hw hb hm lo hB
  go_enter Try.func54, Try.ntmps54
  go_upto_region 2 with (go_at_call 30; (with_reducible refine (TV.out _ a0).mono ?_); rintro e5 w1 ⟨rfl, hb1⟩)
  have a1 := below_alloc1 w1 (.cells #[.int .i64 v1, .int .i64 v2] 25)
  have B2 := Blk.start w1 #[.int .i64 v1, .int .i64 v2] 25
  have B3 := (B0.keep hb1).keep a1
  have bl := (a0.trans (hb1.mono a0.size)).trans (a1.mono (a0.trans (hb1.mono a0.size)).size)
  have HB := Lib.hid (And.intro bl (And.intro B3 B2))
  clear a1 B2 B3 bl hb1 a0 B0 B1 c0 c1 c2
  generalize w1.heap.size = bt at *
  generalize w1.alloc (.cells #[.int .i64 v1, .int .i64 v2] 25) = w2 at *
  have d0 := HB.out.2.2.cell 0
  have d1 := HB.out.2.2.cell 1
  go_wp2_with (go_at_call 45; (with_reducible refine (NG.out _).mono ?_); rintro e6 w3 ⟨rfl, hb3⟩; have B4 := HB.out.2.1.keep hb3; have b4 := HB.out.1.trans (hb3.mono HB.out.1.size); have r0 := B4.cell 0; have r1 := B4.cell 1; have q0 := B4.free 0; have q1 := B4.free 1)
  have B5 := (B4.set 0 (.int .i64 (-v1))).set 1 (.int .i64 v2)
  have z0 := B5.cell 0
  have z1 := B5.cell 1
  exact bodyPost_ret (v := .tuple #[ratV (-v1) v2, .int .i64 e]) (by simp [results, Try.results54, go_sem, z0, z1]) rfl ⟨rfl, (b4.setCell (p := ⟨w.heap.size, 0, none⟩) (Nat.le_refl _) _).setCell (p := ⟨w.heap.size, 1, none⟩) (Nat.le_refl _) _⟩
end Go.Proofs.Ytkinbbhbencipaa

namespace Go.Proofs.Ytkinbbhbencipaa
open Go.RowKit

/-- The lesser of two values, the first of all. -/
def lowPick (k : Nat) (lo x : Int × Int) : Int × Int := if k = 0 ∨ x.1 * lo.2 < lo.1 * x.2 then x else lo
/-- The least of the values of the first k rows; none: one runs over. -/
def lowK (ts : List Rw) (m : List (Int × Int)) : Nat → Option (Int × Int)
  | 0 => some (0, 0)
  | k + 1 => (lowK ts m k).bind fun lo => match ts[k]? with
    | none => none
    | some r => if (valT r.2.1 m r.2.2).2 = 0 then some (lowPick k lo (valT r.2.1 m r.2.2).1) else none
theorem lowK_none {ts : List Rw} {m : List (Int × Int)} {k : Nat} : ∀ d, lowK ts m k = none → lowK ts m (k + d) = none
  | 0, h => h
  | d + 1, h => by rw [← Nat.add_assoc, lowK, lowK_none d h]; rfl
theorem cmp_lt {x lo : Int × Int} (hx : OkR x) (hl : OkR lo) : ∃ d e : Nat, x.2 = d ∧ lo.2 = e ∧ Valid x.1 d ∧ Valid lo.1 e ∧ (cmpV x.1 lo.1 d e < 0 ↔ x.1 * lo.2 < lo.1 * x.2) := by
  obtain ⟨d, e1, v⟩ := hx
  obtain ⟨e, e2, u⟩ := hl
  refine ⟨d, e, e1, e2, v, u, ?_⟩
  unfold cmpV
  rw [e1, e2]
  by_cases h : x.1 * (e : Int) < lo.1 * (d : Int)
  · rw [if_pos h]; exact ⟨fun _ => h, fun _ => by decide⟩
  · rw [if_neg h]
    by_cases h2 : x.1 * (e : Int) = lo.1 * (d : Int)
    · rw [if_pos h2]; exact ⟨fun q => absurd q (by decide), fun q => absurd q h⟩
    · rw [if_neg h2]; exact ⟨fun q => absurd q (by decide), fun q => absurd q h⟩

def LowPut (w : World) (r : Option (Int × Int)) (e : Ending) (w' : World) : Prop :=
  (match r with
    | some x => e = .returned (.tuple #[ratV x.1 x.2, .int .i64 0])
    | none => ∃ E : Int, E ≠ 0 ∧ e = .returned (.tuple #[ratV 0 0, .int .i64 E])) ∧ Below w.heap.size w w'

/-- What stands in lowest. -/
structure LowS (W wr : World) (lo : Int × Int) : Prop where
  R : Blk wr W.heap.size #[.int .i64 0, .int .i64 0]
  L : Blk wr (W.heap.size + 1) #[.int .i64 lo.1, .int .i64 lo.2]
  below : Below W.heap.size W wr
theorem LowS.keep {W wr w' : World} {lo : Int × Int} (h : LowS W wr lo) (hb : Below wr.heap.size wr w') : LowS W w' lo := ⟨h.R.keep hb, h.L.keep hb, h.below.trans (hb.mono h.below.size)⟩
theorem LowS.put {W wr : World} {lo : Int × Int} (h : LowS W wr lo) (x : Int × Int) : LowS W ((wr.setCell ⟨W.heap.size + 1, 0, none⟩ (.int .i64 x.1)).setCell ⟨W.heap.size + 1, 1, none⟩ (.int .i64 x.2)) x :=
  ⟨(h.R.other (p := ⟨W.heap.size + 1, 0, none⟩) (by show W.heap.size + 1 ≠ W.heap.size; omega) _).other (p := ⟨W.heap.size + 1, 1, none⟩) (by show W.heap.size + 1 ≠ W.heap.size; omega) _, (h.L.set 0 _).set 1 _,
    (h.below.setCell (p := ⟨W.heap.size + 1, 0, none⟩) (by show W.heap.size ≤ W.heap.size + 1; omega) _).setCell (p := ⟨W.heap.size + 1, 1, none⟩) (by show W.heap.size ≤ W.heap.size + 1; omega) _⟩

set_option maxRecDepth 10000 in
set_option maxHeartbeats 8000000 in
theorem lowest_any (w : World) (v vb : Value) (ts : List Rw) (m : List (Int × Int)) (h : RowsAt w v ts) (hw : ∀ r ∈ ts, Wide r.2.1 ∧ Bd r.2.2) (hb : RatsAt w vb m) (hm : Wide m) :
    Calls Try.prog 71 #[v, vb] w (LowPut w (lowK ts m ts.length)) := by
  obtain ⟨A, c, rs, rfl, h2, h3, h4, h5, h6⟩ := h
  obtain ⟨n, hn⟩ : ∃ n, n = ts.length := ⟨_, rfl⟩
  have hrn : rs.length = n := by rw [hn, ← h4, List.length_map]
  have hmx : n ≤ 9223372036854775807 := by unfold maxLen at h3; omega
  rw [← hn] at h2 h5 ⊢
  obtain ⟨res, hres⟩ : ∃ res, res = lowK ts m n := ⟨_, rfl⟩
  rw [← hres]
  obtain ⟨C, d, rfl⟩ := rats_shape hb
  have HN := Lib.hid (And.intro hrn (And.intro h4 (And.intro hmx (And.intro h6 (And.intro hn (And.intro hres (And.intro hw (And.intro hb hm))))))))
  have H5 := Lib.hid h5
  have S0 := Lib.hid (show LowS w ((w.alloc (.cells #[.int .i64 0, .int .i64 0] 25)).alloc (.cells #[.int .i64 0, .int .i64 0] 25)) (0, 0) from by
    have B1 := Blk.start (w.alloc (.cells #[.int .i64 0, .int .i64 0] 25)) #[.int .i64 0, .int .i64 0] 25
    rw [World.size_alloc] at B1
    exact ⟨(Blk.start w #[.int .i64 0, .int .i64 0] 25).keep (below_alloc1 _ _), B1, below_alloc2 _ _ _⟩)
  generalize m.length = lm at *
  clear hn hrn h2 h3 h4 h5 h6 hmx hres hw hb hm
  go_enter Try.func71, Try.ntmps71
  go_upto_region 2 with fail
  generalize (w.alloc (.cells #[.int .i64 0, .int .i64 0] 25)).alloc (.cells #[.int .i64 0, .int .i64 0] 25) = w1 at *
  go_wp2_with fail
  go_loopg [13] n (fun g v13 wr => ∃ (k : Nat) (lo : Int × Int), v13 = .int .i64 k ∧ k ≤ n ∧ g = n - k ∧ lowK ts m k = some lo ∧ (k = 0 ∨ OkR lo) ∧ LowS w wr lo)
  case atStart => exact ⟨0, (0, 0), rfl, Nat.zero_le _, rfl, rfl, .inl rfl, S0.out⟩
  case round =>
    clear S0
    obtain ⟨k, lo, rfl, hk, hg, hlo, hok, D⟩ := hrel
    by_cases hkn : k = n
    · have e : res = some lo := by rw [HN.out.2.2.2.2.2.1, ← hkn]; exact hlo
      have HD := Lib.hid (And.intro D e)
      have l0 := D.L.cell 0
      have l1 := D.L.cell 1
      have r0 := D.R.cell 0
      have r1 := D.R.cell 1
      have q0 := D.R.free 0
      have q1 := D.R.free 1
      subst hkn
      clear hk hg hlo hok D e
      obtain ⟨lo1, lo2⟩ := lo
      dsimp only at l0 l1
      go_wp2_with fail
      have B5 := (HD.out.1.R.set 0 (.int .i64 lo1)).set 1 (.int .i64 lo2)
      have z0 := B5.cell 0
      have z1 := B5.cell 1
      rw [HD.out.2]
      exact bodyPost_ret (v := .tuple #[ratV lo1 lo2, .int .i64 0]) (by simp [results, Try.results71, go_sem, z0, z1]) rfl ⟨rfl, (HD.out.1.below.setCell (p := ⟨w.heap.size, 0, none⟩) (Nat.le_refl _) _).setCell (p := ⟨w.heap.size, 1, none⟩) (Nat.le_refl _) _⟩
    · have hlt : k < n := by omega
      obtain ⟨x, hx⟩ : ∃ x, rs[k]? = some x := ⟨_, List.getElem?_eq_getElem (by have := HN.out.1; omega)⟩
      obtain ⟨ad, rfl, d0, d1, d2, d3⟩ := rows_cells H5.out D.below hx (by omega)
      have hr := HN.out.2.2.2.1 x (List.mem_of_getElem? hx)
      have hxt : ts[k]? = some x.2 := by rw [← HN.out.2.1, List.getElem?_map, hx]; rfl
      have hwx := HN.out.2.2.2.2.2.2.1 x.2 (List.mem_of_getElem? hxt)
      have tv := fun (w' : World) (h : Below w.heap.size w w') => tval2_any w' x.1 (.slice C lm d) x.2.2.1 m x.2.2.2 (hr.below h) (HN.out.2.2.2.2.2.2.2.1.below h) hwx.1 HN.out.2.2.2.2.2.2.2.2 hwx.2
      have vok := valT_low (m := m) hwx.1 hwx.2 HN.out.2.2.2.2.2.2.2.2
      have vk := fun (e : (valT x.2.2.1 m x.2.2.2).2 = 0) => by
        obtain ⟨a, b, c, _, q⟩ := valT_ok hwx.1 hwx.2 HN.out.2.2.2.2.2.2.2.2 e
        exact sumK_ok a c b 8 _ q
      have nx : lowK ts m (k + 1) = if (valT x.2.2.1 m x.2.2.2).2 = 0 then some (lowPick k lo (valT x.2.2.1 m x.2.2.2).1) else none := by
        rw [lowK, hlo, Option.bind_some, hxt]
      have i1 : (k : Int) < (n : Int) := by omega
      have i2 : (0 : Int) ≤ (k : Int) := by omega
      have wk : IntKind.i64.wrap ((k : Int) + 1) = (k : Int) + 1 := IntWalk.i64_in _ (by have := HN.out.2.2.1; omega)
      obtain ⟨Ax, cx, rfx⟩ := rats_shape hr
      obtain ⟨x0, xo, xl, x1, x2⟩ := x
      dsimp only at *
      subst rfx
      generalize valT xl m (x1, x2) = V at *
      obtain ⟨⟨v1, v2⟩, ev_⟩ := V
      dsimp only at *
      have TV := Lib.hid tv
      have HK := Lib.hid (And.intro hlt (And.intro hg (And.intro nx (And.intro hok (And.intro vk D)))))
      clear hlt hg nx hok vk D tv hr hxt hwx hx hkn hk hlo vok
      go_upto_region 5 with fail
      have a1 := below_alloc1 wr (.cells #[.int .i64 xo, .slice Ax xl.length cx, .int .i64 x1, .int .i64 x2] 29)
      have RB := Blk.start wr #[.int .i64 xo, .slice Ax xl.length cx, .int .i64 x1, .int .i64 x2] 29
      have D1 := Lib.hid (And.intro (HK.out.2.2.2.2.2.keep a1) RB)
      clear a1 RB d0 d1 d2 d3
      generalize wr.heap.size = bx at *
      generalize wr.alloc (.cells #[.int .i64 xo, .slice Ax xl.length cx, .int .i64 x1, .int .i64 x2] 29) = w2 at *
      have c1 := D1.out.2.cell 1
      have c2 := D1.out.2.cell 2
      have c3 := D1.out.2.cell 3
      go_upto_region 6 with (go_at_call 30; (with_reducible refine (TV.out _ D1.out.1.below).mono ?_); rintro e5 w3 ⟨rfl, hb3⟩)
      have a2 := below_alloc1 w3 (.cells #[.int .i64 v1, .int .i64 v2] 25)
      have VB := Blk.start w3 #[.int .i64 v1, .int .i64 v2] 25
      have D2 := Lib.hid (And.intro ((D1.out.1.keep hb3).keep a2) VB)
      clear a2 VB hb3 c1 c2 c3 D1
      generalize w3.heap.size = bv at *
      generalize w3.alloc (.cells #[.int .i64 v1, .int .i64 v2] 25) = w4 at *
      have f0 := D2.out.2.cell 0
      have f1 := D2.out.2.cell 1
      have r0 := D2.out.1.R.cell 0
      have r1 := D2.out.1.R.cell 1
      have q0 := D2.out.1.R.free 0
      have q1 := D2.out.1.R.free 1
      have l0 := D2.out.1.L.cell 0
      have l1 := D2.out.1.L.cell 1
      have m0 := D2.out.1.L.free 0
      have m1 := D2.out.1.L.free 1
      by_cases he : ev_ = 0
      · subst he
        have nx := HK.out.2.2.1
        rw [if_pos rfl] at nx
        have ov := HK.out.2.2.2.2.1 rfl
        by_cases hk0 : k = 0
        · subst hk0
          have NX := Lib.hid (show lowK ts m (0 + 1) = some (v1, v2) from by rw [nx]; unfold lowPick; rw [if_pos (.inl rfl)])
          clear nx r0 r1 q0 q1
          go_wp2_with fail
          go_roundg (n - 1)
          case measure => have := HK.out; omega
          case rel => exact ⟨1, (v1, v2), by first | rfl | simp, by have := HK.out; omega, rfl, NX.out, .inr ov, D2.out.1.put (v1, v2)⟩
        · have hk1 : ((k : Int) == 0) = false := by simpa using hk0
          have ol := HK.out.2.2.2.1.resolve_left hk0
          obtain ⟨lo1, lo2⟩ := lo
          obtain ⟨dd, ee, e1, e2, vx, vl, hc⟩ := cmp_lt ov ol
          dsimp only at e1 e2 vx vl hc l0 l1
          subst e1 e2
          have cm := fun w' => compare_valid vx vl w'
          have pk : lowPick k (lo1, (ee : Int)) (v1, (dd : Int)) = if cmpV v1 lo1 dd ee < 0 then (v1, (dd : Int)) else (lo1, (ee : Int)) := by
            unfold lowPick
            dsimp only
            by_cases q : cmpV v1 lo1 dd ee < 0
            · rw [if_pos q, if_pos (.inr (hc.1 q))]
            · rw [if_neg q, if_neg]
              rintro (a | a)
              · exact hk0 a
              · exact q (hc.2 a)
          rw [pk] at nx
          generalize cmpV v1 lo1 dd ee = cv at *
          have CM := Lib.hid cm
          have HO := Lib.hid (And.intro ov ol)
          clear cm pk hc vx vl ov ol hk0 r0 r1 q0 q1
          by_cases hneg : cv < 0
          · rw [if_pos hneg] at nx
            have NX := Lib.hid nx
            clear nx
            go_wp2_with (go_at_call 87; (with_reducible refine (CM.out _).mono ?_); rintro e7 w5 ⟨rfl, hb5⟩; have D5 := D2.out.1.keep hb5; have V5 := D2.out.2.keep hb5; clear f0 f1 m0 m1 l0 l1; have f0 := V5.cell 0; have f1 := V5.cell 1; have l0 := D5.L.cell 0; have l1 := D5.L.cell 1; have m0 := D5.L.free 0; have m1 := D5.L.free 1)
            go_roundg (n - (k + 1))
            case measure => have := HK.out; omega
            case rel => exact ⟨k + 1, (v1, (dd : Int)), by push_cast; rfl, by have := HK.out; omega, rfl, NX.out, .inr HO.out.1, D5.put (v1, (dd : Int))⟩
          · rw [if_neg hneg] at nx
            have NX := Lib.hid nx
            clear nx
            go_wp2_with (go_at_call 87; (with_reducible refine (CM.out _).mono ?_); rintro e7 w5 ⟨rfl, hb5⟩; have D5 := D2.out.1.keep hb5)
            go_roundg (n - (k + 1))
            case measure => have := HK.out; omega
            case rel => exact ⟨k + 1, (lo1, (ee : Int)), by push_cast; rfl, by have := HK.out; omega, rfl, NX.out, .inr HO.out.2, D5⟩
      · have hne : (ev_ != 0) = true := by simpa using he
        have nx := HK.out.2.2.1
        rw [if_neg he] at nx
        have RN := Lib.hid (show res = none from by
          rw [HN.out.2.2.2.2.2.1]
          have := lowK_none (n - (k + 1)) nx
          rwa [show k + 1 + (n - (k + 1)) = n by have := HK.out.1; omega] at this)
        have HE := Lib.hid he
        clear nx he l0 l1 m0 m1
        go_wp2_with fail
        have B5 := (D2.out.1.R.set 0 (.int .i64 0)).set 1 (.int .i64 0)
        have z0 := B5.cell 0
        have z1 := B5.cell 1
        rw [RN.out]
        exact bodyPost_ret (v := .tuple #[ratV 0 0, .int .i64 ev_]) (by simp [results, Try.results71, go_sem, z0, z1]) rfl ⟨⟨_, HE.out, rfl⟩, (D2.out.1.below.setCell (p := ⟨w.heap.size, 0, none⟩) (Nat.le_refl _) _).setCell (p := ⟨w.heap.size, 1, none⟩) (Nat.le_refl _) _⟩
end Go.Proofs.Ytkinbbhbencipaa
