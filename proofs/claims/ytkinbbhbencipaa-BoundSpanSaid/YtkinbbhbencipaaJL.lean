/-
  Rows of rows of which nothing lies in some blocks; three rows of rows of the call's own. (Template: by-name.py fills it.)
-/
import Derived.Test.YtkinbbhbencipaaJG
namespace Go.Proofs.Ytkinbbhbencipaa
open Go.RowKit

/-- A row: its condition, its term. -/
abbrev Rw := Int × Trm

/-- The cells of a list of rows, each with the slice that it holds. -/
def rowCells : List (Value × Rw) → List Value
  | [] => []
  | x :: r => .int .i64 x.2.1 :: x.1 :: .int .i64 x.2.2.2.1 :: .int .i64 x.2.2.2.2 :: rowCells r

theorem rowCells_length : ∀ l, (rowCells l).length = l.length * 4
  | [] => rfl
  | x :: r => by rw [rowCells, List.length_cons, List.length_cons, List.length_cons, List.length_cons, rowCells_length r, List.length_cons]; omega
theorem rowCells_at : ∀ (l : List (Value × Rw)) (k : Nat) (x : Value × Rw), l[k]? = some x → (rowCells l)[k * 4]? = some (.int .i64 x.2.1) ∧ (rowCells l)[k * 4 + 1]? = some x.1 ∧ (rowCells l)[k * 4 + 2]? = some (.int .i64 x.2.2.2.1) ∧ (rowCells l)[k * 4 + 3]? = some (.int .i64 x.2.2.2.2)
  | [], k, x, h => by simp at h
  | y :: r, 0, x, h => by
    obtain rfl : y = x := by simpa using h
    exact ⟨rfl, rfl, rfl, rfl⟩
  | y :: r, k + 1, x, h => by
    rw [List.getElem?_cons_succ] at h
    obtain ⟨a, b, c, d⟩ := rowCells_at r k x h
    exact ⟨by rw [show (k + 1) * 4 = k * 4 + 1 + 1 + 1 + 1 by omega]; exact a, by rw [show (k + 1) * 4 + 1 = k * 4 + 1 + 1 + 1 + 1 + 1 by omega]; exact b, by rw [show (k + 1) * 4 + 2 = k * 4 + 2 + 1 + 1 + 1 + 1 by omega]; exact c, by rw [show (k + 1) * 4 + 3 = k * 4 + 3 + 1 + 1 + 1 + 1 by omega]; exact d⟩
theorem rowCells_append : ∀ (l m : List (Value × Rw)), rowCells (l ++ m) = rowCells l ++ rowCells m
  | [], m => rfl
  | x :: r, m => by rw [List.cons_append, rowCells, rowCells, rowCells_append r m]; rfl
theorem rowCells_inv : ∀ (l : List (Value × Rw)) (j : Nat) (u : Value), (rowCells l)[j]? = some u → ∃ i x, l[i]? = some x ∧ ((j = i * 4 ∧ u = .int .i64 x.2.1) ∨ (j = i * 4 + 1 ∧ u = x.1) ∨ (j = i * 4 + 2 ∧ u = .int .i64 x.2.2.2.1) ∨ (j = i * 4 + 3 ∧ u = .int .i64 x.2.2.2.2))
  | [], j, u, h => by simp [rowCells] at h
  | y :: r, 0, u, h => ⟨0, y, rfl, .inl ⟨rfl, by simpa [rowCells] using h.symm⟩⟩
  | y :: r, 1, u, h => ⟨0, y, rfl, .inr (.inl ⟨rfl, by simpa [rowCells] using h.symm⟩)⟩
  | y :: r, 2, u, h => ⟨0, y, rfl, .inr (.inr (.inl ⟨rfl, by simpa [rowCells] using h.symm⟩))⟩
  | y :: r, 3, u, h => ⟨0, y, rfl, .inr (.inr (.inr ⟨rfl, by simpa [rowCells] using h.symm⟩))⟩
  | y :: r, j + 4, u, h => by
    have h' : (rowCells r)[j]? = some u := by simpa [rowCells] using h
    obtain ⟨i, x, hx, hc⟩ := rowCells_inv r j u h'
    refine ⟨i + 1, x, by simpa using hx, ?_⟩
    rcases hc with ⟨rfl, e⟩ | ⟨rfl, e⟩ | ⟨rfl, e⟩ | ⟨rfl, e⟩
    · exact .inl ⟨by omega, e⟩
    · exact .inr (.inl ⟨by omega, e⟩)
    · exact .inr (.inr (.inl ⟨by omega, e⟩))
    · exact .inr (.inr (.inr ⟨by omega, e⟩))

/-- A slice of rows. -/
def RowsAt (w : World) (v : Value) (ts : List Rw) : Prop :=
  ∃ A c rs, v = .slice A ts.length c ∧ ts.length ≤ c ∧ c ≤ maxLen ∧ rs.map (·.2) = ts ∧ Reads w w.heap.size 4 A ts.length (rowCells rs) ∧ ∀ x ∈ rs, RatsAt w x.1 x.2.2.1

theorem RowsAt.below {w w' : World} {v : Value} {ts : List Rw} (h : RowsAt w v ts) (hb : Below w.heap.size w w') : RowsAt w' v ts := by
  obtain ⟨A, c, rs, h1, h2, h3, h4, h5, h6⟩ := h
  exact ⟨A, c, rs, h1, h2, h3, h4, (h5.below hb).more hb.size, fun x hx => (h6 x hx).below hb⟩
theorem RowsAt.nil (w : World) : RowsAt w (.slice none 0 0) [] := ⟨none, 0, [], rfl, Nat.le_refl _, by decide, rfl, Reads.none_, fun x hx => by cases hx⟩

theorem rows_cells {w wr : World} {A : Option Addr} {n k : Nat} {rs : List (Value × Rw)} {x : Value × Rw} (h4 : Reads w w.heap.size 4 A n (rowCells rs)) (hb : Below w.heap.size w wr) (hx : rs[k]? = some x) (hn : 0 < n) :
    ∃ ad, A = some ad ∧ wr.cell? (ad.add (k * 4)) = some (.int .i64 x.2.1) ∧ wr.cell? ⟨(ad.add (k * 4)).block, (ad.add (k * 4)).off + 1, none⟩ = some x.1 ∧ wr.cell? ⟨(ad.add (k * 4)).block, (ad.add (k * 4)).off + 2, none⟩ = some (.int .i64 x.2.2.2.1) ∧ wr.cell? ⟨(ad.add (k * 4)).block, (ad.add (k * 4)).off + 3, none⟩ = some (.int .i64 x.2.2.2.2) := by
  obtain ⟨ad, e, hbk, hc⟩ := h4.2 hn
  obtain ⟨a, b, c, d⟩ := rowCells_at rs k x hx
  have d0 := (hb.cell (p := ad.add (k * 4)) (by rw [block_of_add]; exact hbk)).trans (hc _ _ a)
  have d1 := (hb.cell (p := ad.add (k * 4 + 1)) (by rw [block_of_add]; exact hbk)).trans (hc _ _ b)
  have d2 := (hb.cell (p := ad.add (k * 4 + 2)) (by rw [block_of_add]; exact hbk)).trans (hc _ _ c)
  have d3 := (hb.cell (p := ad.add (k * 4 + 3)) (by rw [block_of_add]; exact hbk)).trans (hc _ _ d)
  rw [← add_of_add] at d1 d2 d3
  exact ⟨ad, e, d0, d1, d2, d3⟩

/-- Aren't there too many? -/
def smallR (ts : List Rw) : Bool := (ts.all fun t => decide (t.2.1.length ≤ 12)) && decide (ts.length ≤ 8)

set_option maxHeartbeats 2000000 in
theorem smallr_any (w : World) (v : Value) (ts : List Rw) (h : RowsAt w v ts) :
    Calls Try.prog 8 #[v] w fun r w' => r = .returned (.bool (smallR ts)) ∧ Below w.heap.size w w' := by
  obtain ⟨A, c, rs, rfl, h2, h3, h4, h5, h6⟩ := h
  obtain ⟨n, hn⟩ : ∃ n, n = ts.length := ⟨_, rfl⟩
  have hrn : rs.length = n := by rw [hn, ← h4, List.length_map]
  have hmx : n ≤ 9223372036854775807 := by unfold maxLen at h3; omega
  rw [← hn] at h2 h5 ⊢
  obtain ⟨V, hV⟩ : ∃ V, V = smallR ts := ⟨_, rfl⟩
  rw [← hV]
  unfold smallR at hV
  rw [← hn] at hV
  have HN := Lib.hid (And.intro hrn (And.intro h4 (And.intro hmx (And.intro h6 (And.intro hV hn)))))
  have H5 := Lib.hid h5
  clear hn hrn h2 h3 h4 h5 h6 hmx hV
  go_enter Try.func8, Try.ntmps8
  go_wp2_with fail
  go_loopg [3] n (fun g v3 wr => ∃ k : Nat, v3 = .int .i64 k ∧ k ≤ n ∧ g = n - k ∧ ((ts.take k).all fun t => decide (t.2.1.length ≤ 12)) = true ∧ Below w.heap.size w wr)
  case atStart => exact ⟨0, rfl, Nat.zero_le _, rfl, rfl, Below.refl _ _⟩
  case round =>
    obtain ⟨k, rfl, hk, hg, hall, hb⟩ := hrel
    by_cases hkn : k = n
    · have hv := HN.out.2.2.2.2.1
      have e : ts.take k = ts := by rw [hkn, HN.out.2.2.2.2.2]; exact List.take_length
      rw [e] at hall
      rw [hall, Bool.true_and] at hv
      have HB := Lib.hid hb
      subst hkn
      have i1 : ¬ (k : Int) < (k : Int) := by omega
      have ee : decide ((k : Int) ≤ 8) = V := by rw [hv]; exact decide_eq_decide.2 (by omega)
      clear hk hg hall hb e hv
      go_wp2_with fail
      go_ret
      exact ⟨by rw [← ee]; rfl, HB.out⟩
    · have hlt : k < n := by omega
      obtain ⟨x, hx⟩ : ∃ x, rs[k]? = some x := ⟨_, List.getElem?_eq_getElem (by have := HN.out.1; omega)⟩
      obtain ⟨ad, rfl, d0, d1, d2, d3⟩ := rows_cells H5.out hb hx (by omega)
      have hr := (HN.out.2.2.2.1 x (List.mem_of_getElem? hx)).below hb
      have sm := small_any wr x.1 x.2.2.1 x.2.2.2.1 x.2.2.2.2 hr
      have hxt : ts[k]? = some x.2 := by rw [← HN.out.2.1, List.getElem?_map, hx]; rfl
      have nxt := all_take (f := fun t : Rw => decide (t.2.1.length ≤ 12)) hxt hall
      have bad := all_bad (f := fun t : Rw => decide (t.2.1.length ≤ 12)) hxt
      have i1 : (k : Int) < (n : Int) := by omega
      have i2 : (0 : Int) ≤ (k : Int) := by omega
      have wk : IntKind.i64.wrap ((k : Int) + 1) = (k : Int) + 1 := IntWalk.i64_in _ (by have := HN.out.2.2.1; omega)
      generalize decide (x.2.2.1.length ≤ 12) = R at *
      obtain ⟨x0, xo, x2, x3, x4⟩ := x
      dsimp only at *
      have HB := Lib.hid hb
      have HK := Lib.hid (And.intro hlt hg)
      cases R
      · have hv := HN.out.2.2.2.2.1
        rw [bad rfl, Bool.false_and] at hv
        subst hv
        have SM := Lib.hid sm
        clear hr hxt nxt bad hx hkn hlt hk hg hall hb sm
        go_wp2_with (go_at_call 9; (with_reducible refine SM.out.mono ?_); rintro e w1 ⟨rfl, hb1⟩)
        go_ret
        exact ⟨rfl, HB.out.trans (hb1.mono HB.out.size)⟩
      · have SM := Lib.hid sm
        have NX := Lib.hid nxt
        clear hr hxt nxt bad hx hkn hlt hk hg hall hb sm
        go_wp2_with (go_at_call 9; (with_reducible refine SM.out.mono ?_); rintro e w1 ⟨rfl, hb1⟩)
        go_roundg (n - (k + 1))
        case measure => have := HK.out; omega
        case rel => exact ⟨k + 1, by push_cast; rfl, by have := HK.out; omega, rfl, NX.out, HB.out.trans (hb1.mono HB.out.size)⟩

/-- Does a value satisfy a condition? -/
def metB (op n : Int) : Bool := if op = 0 then n == 0 else if op = 1 then decide (0 ≤ n) else if op = 2 then decide (0 < n) else false
theorem met_any (w : World) (op n d : Int) :
    Calls Try.prog 22 #[.int .i64 op, ratV n d] w fun r w' => r = .returned (.bool (metB op n)) ∧ Below w.heap.size w w' := by
  have hb := below_alloc1 w (.cells #[.int .i64 n, .int .i64 d] 25)
  have HB := Lib.hid hb
  clear hb
  unfold metB
  by_cases h0 : op = 0
  · subst h0
    go_enter Try.func22, Try.ntmps22
    go_wp2_with fail
    go_ret
    exact ⟨rfl, HB.out⟩
  · have e0 : (op == 0) = false := by simpa using h0
    rw [if_neg h0]
    by_cases h1 : op = 1
    · subst h1
      clear h0 e0
      go_enter Try.func22, Try.ntmps22
      go_wp2_with fail
      go_ret
      exact ⟨rfl, HB.out⟩
    · have e1 : (op == 1) = false := by simpa using h1
      rw [if_neg h1]
      by_cases h2 : op = 2
      · subst h2
        clear h0 e0 h1 e1
        go_enter Try.func22, Try.ntmps22
        go_wp2_with fail
        go_ret
        exact ⟨rfl, HB.out⟩
      · have e2 : (op == 2) = false := by simpa using h2
        rw [if_neg h2]
        clear h0 h1 h2
        go_enter Try.func22, Try.ntmps22
        go_wp2_with fail
        go_ret
        exact ⟨rfl, HB.out⟩
end Go.Proofs.Ytkinbbhbencipaa

namespace Go.Proofs.Ytkinbbhbencipaa
open Go.RowKit

theorem bneg_any (w : World) (x : Int × Int) (h : OkR x) :
    Calls Try.prog 45 #[ratV x.1 x.2] w fun r w' => r = .returned (ratV (negH x).1 (negH x).2) ∧ Below w.heap.size w w' := by
  have b := h.wide
  have wn : IntKind.i64.wrap (-x.1) = -x.1 := IntWalk.i64_in _ (by obtain ⟨d, e, v⟩ := h; have := v.n_le; omega)
  clear b h
  obtain ⟨n, d⟩ := x
  dsimp only at *
  unfold negH
  go_enter Try.func45, Try.ntmps45
  go_wp2_with fail
  exact bodyPost_ret (v := ratV (-n) d) (by simp [results, Try.results45, go_sem]) rfl ⟨rfl, below_alloc2 w _ _⟩
theorem bwhole_any (w : World) (n : Int) :
    Calls Try.prog 26 #[.int .i64 n] w fun r w' => r = .returned (ratV n 1) ∧ Below w.heap.size w w' := by
  go_enter Try.func26, Try.ntmps26
  go_wp2_with fail
  exact bodyPost_ret (v := ratV n 1) (by simp [results, Try.results26, go_sem]) rfl ⟨rfl, below_alloc1 w _⟩

/-- Is a row wrong? -/
def wrongR (r : Rw) : Bool := !(r.1 == 0 || r.1 == 1 || r.1 == 2) || prWrong r.2
set_option maxHeartbeats 1000000 in
theorem bwrong_any (w : World) (v : Value) (r : Rw) (h : RatsAt w v r.2.1) (hw : Wide r.2.1) (hk : Bd r.2.2) :
    Calls Try.prog 15 #[.agg #[.int .i64 r.1, v, .int .i64 r.2.2.1, .int .i64 r.2.2.2]] w fun e w' => e = .returned (.bool (wrongR r)) ∧ Below w.heap.size w w' := by
  obtain ⟨op, l, kn, kd⟩ := r
  dsimp only at *
  have a := below_alloc1 w (.cells #[.int .i64 op, v, .int .i64 kn, .int .i64 kd] 29)
  have rt := tright_any (w.alloc (.cells #[.int .i64 op, v, .int .i64 kn, .int .i64 kd] 29)) v l kn kd (h.below a) hw hk.1.1 hk.1.2 hk.2.1 hk.2.2
  have RT := Lib.hid rt
  have HA := Lib.hid a
  clear rt a hw hk
  obtain ⟨A, c, rfl⟩ := rats_shape h
  clear h
  unfold wrongR prWrong
  dsimp only
  generalize rightT l kn kd = R at *
  have end_ : ∀ (e : Ending) (w' : World) (B : Bool), (e = .returned (.bool B) ∧ Below (w.alloc (.cells #[.int .i64 op, .slice A l.length c, .int .i64 kn, .int .i64 kd] 29)).heap.size (w.alloc (.cells #[.int .i64 op, .slice A l.length c, .int .i64 kn, .int .i64 kd] 29)) w') → e = .returned (.bool B) ∧ Below w.heap.size w w' := fun e w' B q => ⟨q.1, HA.out.trans (q.2.mono HA.out.size)⟩
  clear end_
  by_cases h0 : op = 0
  · have e0 : (op != 0) = false := by rw [h0]; rfl
    have v0 : (op == 0) = true := by rw [h0]; rfl
    rw [v0]
    simp only [Bool.true_or, Bool.not_true, Bool.false_or]
    clear h0 v0
    go_enter Try.func15, Try.ntmps15
    go_wp2_with (go_at_call 33; (with_reducible refine RT.out.mono ?_); rintro e w1 ⟨rfl, hb⟩)
    go_ret
    exact ⟨rfl, HA.out.trans (hb.mono HA.out.size)⟩
  · have e0 : (op != 0) = true := by simpa using h0
    have v0 : (op == 0) = false := by simpa using h0
    rw [v0]
    by_cases h1 : op = 1
    · have e1 : (op != 1) = false := by rw [h1]; rfl
      have v1 : (op == 1) = true := by rw [h1]; rfl
      rw [v1]
      simp only [Bool.true_or, Bool.or_true, Bool.not_true, Bool.false_or]
      clear h0 h1 v0 v1
      go_enter Try.func15, Try.ntmps15
      go_wp2_with (go_at_call 33; (with_reducible refine RT.out.mono ?_); rintro e w1 ⟨rfl, hb⟩)
      go_ret
      exact ⟨rfl, HA.out.trans (hb.mono HA.out.size)⟩
    · have e1 : (op != 1) = true := by simpa using h1
      have v1 : (op == 1) = false := by simpa using h1
      rw [v1]
      by_cases h2 : op = 2
      · have e2 : (op != 2) = false := by rw [h2]; rfl
        have v2 : (op == 2) = true := by rw [h2]; rfl
        rw [v2]
        simp only [Bool.or_true, Bool.not_true, Bool.false_or]
        clear h0 h1 h2 v0 v1 v2
        go_enter Try.func15, Try.ntmps15
        go_wp2_with (go_at_call 33; (with_reducible refine RT.out.mono ?_); rintro e w1 ⟨rfl, hb⟩)
        go_ret
        exact ⟨rfl, HA.out.trans (hb.mono HA.out.size)⟩
      · have e2 : (op != 2) = true := by simpa using h2
        have v2 : (op == 2) = false := by simpa using h2
        rw [v2]
        simp only [Bool.or_false, Bool.not_false, Bool.true_or]
        clear h0 h1 h2 v0 v1 v2 RT
        go_enter Try.func15, Try.ntmps15
        go_wp2_with fail
        go_ret
        exact ⟨rfl, HA.out⟩

section
variable {H : Type} {enc : TypeId × Value → H} {w : World} {base : Nat} {spare : Nat → Bool} {held : Bool}
theorem open_rcells {fuel : Nat} {cs : List Value} {x : DataW H × List MemPlace} (hl : cs.length = 4) (h : DataW.trod enc Try.prog w base spare held fuel 29 cs = some x) :
    ∃ op s l kn kd, cs = [.int .i64 op, s, .int .i64 kn, .int .i64 kd] ∧ RatsAt w s l ∧ Wide l ∧ Bd (kn, kd) ∧ (-9223372036854775808 ≤ op ∧ op ≤ 9223372036854775807) := by
  have hI : Try.prog.cellsOf 3 = 1 := by kernel_rfl
  have hT : Try.prog.cellsOf 27 = 3 := by kernel_rfl
  match cs, hl with
  | [c0, c1, c2, c3], _ =>
    obtain ⟨xs, n, _, _, _, hlen, hg⟩ := DataW.trod_struct Try.underlying29 h
    match xs, hlen with
    | [y0, y1], _ =>
      have g0 := hg 0 _ rfl
      have g1 := hg 1 _ rfl
      simp [hI, hT] at g0 g1
      obtain ⟨n0, e0, _, w0⟩ := DataW.trod_int Try.underlying3 g0
      obtain ⟨s, l, kn, kd, e1, hr, hw, hn, hd⟩ := open_tcells rfl g1
      simp only [List.cons.injEq, and_true] at e0 e1
      obtain ⟨rfl, rfl, rfl⟩ := e1
      subst e0
      exact ⟨n0, c1, l, kn, kd, rfl, hr, hw, ⟨hn, hd⟩, wf_i64 w0⟩
end
end Go.Proofs.Ytkinbbhbencipaa

namespace Go.Proofs.Ytkinbbhbencipaa
open Go.RowKit Go.WideShapes Go.ChangeShapes Go.ChangeAt Go.Joins Go.Deep

/-- A row's numbers are 64 bits each. -/
def RWide (r : Rw) : Prop := Wide r.2.1 ∧ Bd r.2.2 ∧ (-9223372036854775808 ≤ r.1 ∧ r.1 ≤ 9223372036854775807)

section
variable {H : Type} {enc : TypeId × Value → H} {w : World} {base : Nat} {spare : Nat → Bool} {held : Bool}
set_option maxRecDepth 10000 in
theorem open_row {b0 : Nat} {r : Reach} {v : Value} {d : DataW H} {p : List MemPlace} (hv : Value.okWide Try.prog w r b0 29 v) (h : DataW.Trod enc Try.prog w base spare held 29 v d p) :
    ∃ (s : Value) (r : Rw), v = .agg #[.int .i64 r.1, s, .int .i64 r.2.2.1, .int .i64 r.2.2.2] ∧ RatsAt w s r.2.1 ∧ RWide r := by
  obtain ⟨⟨cs⟩, rfl, hsz⟩ := okWide_struct Try.underlying29 hv
  have hC : Try.prog.cellsOf 29 = 4 := by kernel_rfl
  obtain ⟨fuel, hf⟩ := h
  obtain ⟨op, s, l, kn, kd, e, hr, hw, hk, ho⟩ := open_rcells (hsz.trans hC) (by simpa [Value.cells] using hf)
  have e : cs = _ := e
  subst e
  exact ⟨s, (op, l, kn, kd), rfl, hr, hw, hk, ho⟩

set_option maxRecDepth 10000 in
theorem open_rows {b0 : Nat} {r : Reach} {v : Value} {d : DataW H} {p : List MemPlace} (hv : Value.okWide Try.prog w r b0 22 v) (h : DataW.Trod enc Try.prog w base spare held 22 v d p) : ∃ ts, RowsAt w v ts ∧ ∀ t ∈ ts, RWide t := by
  obtain ⟨a, len, cap, rfl⟩ := okWide_slice Try.underlying22 hv
  obtain ⟨fuel, hf⟩ := h
  have hC : Try.prog.cellsOf 29 = 4 := by kernel_rfl
  rcases open_slice Try.underlying22 (by simpa [Value.cells] using hf) with ⟨hc, _⟩ | ⟨ad, len', cap', m, n, D, Pl, hc, hb, hl, hm, hmm, _, hi⟩
  · obtain ⟨rfl, rfl, rfl⟩ : a = none ∧ len = 0 ∧ cap = 0 := by simpa using hc
    exact ⟨[], RowsAt.nil w, fun x hx => by cases hx⟩
  · obtain ⟨rfl, rfl, rfl⟩ : a = some ad ∧ len = len' ∧ cap = cap' := by simpa using hc
    have hlm : len ≤ m := by rw [hmm]; split <;> omega
    rw [hC] at hi
    have each : ∀ i, i < len → ∃ q : Value × Rw, (w.cell? (ad.add (i * 4)) = some (.int .i64 q.2.1) ∧ w.cell? (ad.add (i * 4 + 1)) = some q.1 ∧ w.cell? (ad.add (i * 4 + 2)) = some (.int .i64 q.2.2.2.1) ∧ w.cell? (ad.add (i * 4 + 3)) = some (.int .i64 q.2.2.2.2)) ∧ RatsAt w q.1 q.2.2.1 ∧ RWide q.2 := by
      intro i hil
      obtain ⟨cs', h1, h2⟩ := hi i (by omega)
      obtain ⟨_, hcl, hat⟩ := World.cells?_some h1
      obtain ⟨op, s, l, kn, kd, e, hr, hw, hk, ho⟩ := open_rcells hcl h2
      subst e
      have g0 := hat 0 (by omega)
      have g1 := hat 1 (by omega)
      have g2 := hat 2 (by omega)
      have g3 := hat 3 (by omega)
      rw [add_of_add] at g0 g1 g2 g3
      exact ⟨(s, op, l, kn, kd), ⟨g0, g1, g2, g3⟩, hr, hw, hk, ho⟩
    obtain ⟨q, hq⟩ := choose_lt each
    have hlen : ((List.range len).map fun i => (q i).2).length = len := by simp
    refine ⟨(List.range len).map fun i => (q i).2, ⟨some ad, cap, (List.range len).map q, by rw [hlen], by rw [hlen]; exact hl, hm, by rw [List.map_map]; rfl, ?_, fun x hx => ?_⟩, fun t ht => ?_⟩
    · rw [hlen]
      refine ⟨by rw [rowCells_length, List.length_map, List.length_range], fun hn => ⟨ad, rfl, ?_, fun j u hu => ?_⟩⟩
      · have := World.block_lt_of_cell? _ _ (hq 0 hn).1.1
        rwa [block_of_add] at this
      · obtain ⟨i, x, hx, hc⟩ := rowCells_inv _ j u hu
        rw [List.getElem?_map] at hx
        have hil : i < len := by
          rcases Nat.lt_or_ge i len with g | g
          · exact g
          · rw [List.getElem?_eq_none (by simpa using g)] at hx; cases hx
        rw [List.getElem?_range hil] at hx
        obtain rfl : q i = x := by simpa using hx
        rcases hc with ⟨rfl, rfl⟩ | ⟨rfl, rfl⟩ | ⟨rfl, rfl⟩ | ⟨rfl, rfl⟩
        · exact (hq i hil).1.1
        · exact (hq i hil).1.2.1
        · exact (hq i hil).1.2.2.1
        · exact (hq i hil).1.2.2.2
    · obtain ⟨i, hil, rfl⟩ := List.mem_map.1 hx
      exact (hq i (List.mem_range.1 hil)).2.1
    · obtain ⟨i, hil, rfl⟩ := List.mem_map.1 ht
      exact (hq i (List.mem_range.1 hil)).2.2
end
end Go.Proofs.Ytkinbbhbencipaa

namespace Go.Proofs.Ytkinbbhbencipaa
open Go.RowKit

/-- Is a row without variables not met? -/
def unmetR (r : Rw) : Bool := !metB r.1 r.2.2.1
set_option maxHeartbeats 1000000 in
theorem bsolve1_any (w : World) (v : Value) (r : Rw) :
    Calls Try.prog 21 #[.agg #[.int .i64 r.1, v, .int .i64 r.2.2.1, .int .i64 r.2.2.2]] w fun e w' => e = .returned (.bool (unmetR r)) ∧ Below w.heap.size w w' := by
  obtain ⟨op, l, kn, kd⟩ := r
  dsimp only at *
  have a := below_alloc1 w (.cells #[.int .i64 op, v, .int .i64 kn, .int .i64 kd] 29)
  have ME := Lib.hid (fun (w' : World) => met_any w' op kn kd)
  have HA := Lib.hid a
  clear a
  unfold unmetR
  dsimp only
  generalize metB op kn = B at *
  go_enter Try.func21, Try.ntmps21
  go_wp2_with (go_at_call 22; (with_reducible refine (ME.out _).mono ?_); rintro e w1 ⟨rfl, hb⟩)
  go_ret
  exact ⟨rfl, HA.out.trans (hb.mono HA.out.size)⟩

/-- Where it stands, or -1. -/
def RIdxPut (w : World) (pr : Rw → Bool) (ts : List Rw) (e : Ending) (w' : World) : Prop := ∃ z : Int, e = .returned (.int .i64 z) ∧ decide (0 ≤ z) = ts.any pr ∧ Below w.heap.size w w'

set_option maxRecDepth 10000 in
set_option maxHeartbeats 2000000 in
theorem bindexw_any (w : World) (vs : Value) (ts : List Rw) (hw : ∀ t ∈ ts, RWide t) (h : RowsAt w vs ts) :
    Calls Try.prog 32 #[vs, .func (.func 15) #[] #[]] w (RIdxPut w wrongR ts) := by
  obtain ⟨A, c, rs, rfl, h2, h3, h4, h5, h6⟩ := h
  obtain ⟨n, hn⟩ : ∃ n, n = ts.length := ⟨_, rfl⟩
  have hrn : rs.length = n := by rw [hn, ← h4, List.length_map]
  have hmx : n ≤ 9223372036854775807 := by unfold maxLen at h3; omega
  rw [← hn] at h2 h5 ⊢
  have fn : ∀ (wx : World) (v : Value) (t : Rw), t ∈ ts → RatsAt wx v t.2.1 → Calls Try.prog 15 #[.agg #[.int .i64 t.1, v, .int .i64 t.2.2.1, .int .i64 t.2.2.2]] wx fun r w' => r = .returned (.bool (wrongR t)) ∧ Below wx.heap.size wx w' :=
    fun wx v t ht hr => bwrong_any wx v t hr (hw t ht).1 (hw t ht).2.1
  have HN := Lib.hid (And.intro hrn (And.intro h4 (And.intro hmx (And.intro h6 (And.intro hn fn)))))
  have H5 := Lib.hid h5
  clear hn hrn h2 h3 h4 h5 h6 hmx fn hw
  go_enter Try.func32, Try.ntmps32
  go_wp2_with fail
  go_loopg [8] n (fun g v8 wr => ∃ k : Nat, v8 = .int .i64 k ∧ k ≤ n ∧ g = n - k ∧ (ts.take k).any wrongR = false ∧ Below w.heap.size w wr)
  case atStart => exact ⟨0, rfl, Nat.zero_le _, rfl, rfl, Below.refl _ _⟩
  case round =>
    obtain ⟨k, rfl, hk, hg, hall, hb⟩ := hrel
    by_cases hkn : k = n
    · have e : ts.take k = ts := by rw [hkn, HN.out.2.2.2.2.1]; exact List.take_length
      rw [e] at hall
      have FIN := Lib.hid (show RIdxPut w wrongR ts (.returned (.int .i64 (-1))) wr from ⟨-1, rfl, by rw [hall]; rfl, hb⟩)
      subst hkn
      clear hk hg hall hb e
      go_wp2_with fail
      go_ret
      exact FIN.out
    · have hlt : k < n := by omega
      obtain ⟨x, hx⟩ : ∃ x, rs[k]? = some x := ⟨_, List.getElem?_eq_getElem (by have := HN.out.1; omega)⟩
      obtain ⟨ad, rfl, d0, d1, d2, d3⟩ := rows_cells H5.out hb hx (by omega)
      have hr := (HN.out.2.2.2.1 x (List.mem_of_getElem? hx)).below hb
      have hxt : ts[k]? = some x.2 := by rw [← HN.out.2.1, List.getElem?_map, hx]; rfl
      have sm := HN.out.2.2.2.2.2 wr x.1 x.2 (List.mem_of_getElem? hxt) hr
      have nxt : (ts.take (k + 1)).any wrongR = wrongR x.2 := by
        rw [List.take_add_one, hxt, List.any_append, hall, Bool.false_or]
        simp
      have hit : wrongR x.2 = true → decide (0 ≤ (k : Int)) = ts.any wrongR := fun hp => by
        rw [List.any_eq_true.2 ⟨_, List.mem_of_getElem? hxt, hp⟩]
        exact decide_eq_true (by omega)
      have i1 : (k : Int) < (n : Int) := by omega
      have i2 : (0 : Int) ≤ (k : Int) := by omega
      have wk : IntKind.i64.wrap ((k : Int) + 1) = (k : Int) + 1 := IntWalk.i64_in _ (by have := HN.out.2.2.1; omega)
      generalize wrongR x.2 = R at *
      obtain ⟨x1, xo, x2, x3, x4⟩ := x
      dsimp only at *
      have HB := Lib.hid hb
      have HK := Lib.hid (And.intro hlt hg)
      have SM := Lib.hid sm
      have NX := Lib.hid (And.intro nxt hit)
      clear hr hxt nxt hit hx hkn hlt hk hg hall hb sm
      cases R
      · go_wp2_with (go_at_call 15; (with_reducible refine SM.out.mono ?_); rintro e w1 ⟨rfl, hb1⟩)
        go_roundg (n - (k + 1))
        case measure => have := HK.out; omega
        case rel => exact ⟨k + 1, by push_cast; rfl, by have := HK.out; omega, rfl, NX.out.1, HB.out.trans (hb1.mono HB.out.size)⟩
      · go_wp2_with (go_at_call 15; (with_reducible refine SM.out.mono ?_); rintro e w1 ⟨rfl, hb1⟩)
        go_ret
        exact ⟨k, rfl, NX.out.2 trivial, HB.out.trans (hb1.mono HB.out.size)⟩
theorem bcontainsw_any (w : World) (vs : Value) (ts : List Rw) (hw : ∀ t ∈ ts, RWide t) (h : RowsAt w vs ts) :
    Calls Try.prog 14 #[vs, .func (.func 15) #[] #[]] w fun e w' => e = .returned (.bool (ts.any wrongR)) ∧ Below w.heap.size w w' := by
  have IXC := Lib.hid (bindexw_any w vs ts hw h)
  clear h hw
  go_enter Try.func14, Try.ntmps14
  go_wp2_with (go_at_call 32; (with_reducible refine IXC.out.mono ?_); rintro e w1 ⟨z, rfl, hz, hb⟩)
  go_ret
  exact ⟨by rw [← hz]; rfl, hb⟩

set_option maxRecDepth 10000 in
set_option maxHeartbeats 2000000 in
theorem bindexu_any (w : World) (vs : Value) (ts : List Rw) (h : RowsAt w vs ts) :
    Calls Try.prog 32 #[vs, .func (.func 21) #[] #[]] w (RIdxPut w unmetR ts) := by
  obtain ⟨A, c, rs, rfl, h2, h3, h4, h5, h6⟩ := h
  obtain ⟨n, hn⟩ : ∃ n, n = ts.length := ⟨_, rfl⟩
  have hrn : rs.length = n := by rw [hn, ← h4, List.length_map]
  have hmx : n ≤ 9223372036854775807 := by unfold maxLen at h3; omega
  rw [← hn] at h2 h5 ⊢
  have fn : ∀ (wx : World) (v : Value) (t : Rw), t ∈ ts → RatsAt wx v t.2.1 → Calls Try.prog 21 #[.agg #[.int .i64 t.1, v, .int .i64 t.2.2.1, .int .i64 t.2.2.2]] wx fun r w' => r = .returned (.bool (unmetR t)) ∧ Below wx.heap.size wx w' :=
    fun wx v t _ _ => bsolve1_any wx v t
  have HN := Lib.hid (And.intro hrn (And.intro h4 (And.intro hmx (And.intro h6 (And.intro hn fn)))))
  have H5 := Lib.hid h5
  clear hn hrn h2 h3 h4 h5 h6 hmx fn
  go_enter Try.func32, Try.ntmps32
  go_wp2_with fail
  go_loopg [8] n (fun g v8 wr => ∃ k : Nat, v8 = .int .i64 k ∧ k ≤ n ∧ g = n - k ∧ (ts.take k).any unmetR = false ∧ Below w.heap.size w wr)
  case atStart => exact ⟨0, rfl, Nat.zero_le _, rfl, rfl, Below.refl _ _⟩
  case round =>
    obtain ⟨k, rfl, hk, hg, hall, hb⟩ := hrel
    by_cases hkn : k = n
    · have e : ts.take k = ts := by rw [hkn, HN.out.2.2.2.2.1]; exact List.take_length
      rw [e] at hall
      have FIN := Lib.hid (show RIdxPut w unmetR ts (.returned (.int .i64 (-1))) wr from ⟨-1, rfl, by rw [hall]; rfl, hb⟩)
      subst hkn
      clear hk hg hall hb e
      go_wp2_with fail
      go_ret
      exact FIN.out
    · have hlt : k < n := by omega
      obtain ⟨x, hx⟩ : ∃ x, rs[k]? = some x := ⟨_, List.getElem?_eq_getElem (by have := HN.out.1; omega)⟩
      obtain ⟨ad, rfl, d0, d1, d2, d3⟩ := rows_cells H5.out hb hx (by omega)
      have hr := (HN.out.2.2.2.1 x (List.mem_of_getElem? hx)).below hb
      have hxt : ts[k]? = some x.2 := by rw [← HN.out.2.1, List.getElem?_map, hx]; rfl
      have sm := HN.out.2.2.2.2.2 wr x.1 x.2 (List.mem_of_getElem? hxt) hr
      have nxt : (ts.take (k + 1)).any unmetR = unmetR x.2 := by
        rw [List.take_add_one, hxt, List.any_append, hall, Bool.false_or]
        simp
      have hit : unmetR x.2 = true → decide (0 ≤ (k : Int)) = ts.any unmetR := fun hp => by
        rw [List.any_eq_true.2 ⟨_, List.mem_of_getElem? hxt, hp⟩]
        exact decide_eq_true (by omega)
      have i1 : (k : Int) < (n : Int) := by omega
      have i2 : (0 : Int) ≤ (k : Int) := by omega
      have wk : IntKind.i64.wrap ((k : Int) + 1) = (k : Int) + 1 := IntWalk.i64_in _ (by have := HN.out.2.2.1; omega)
      generalize unmetR x.2 = R at *
      obtain ⟨x1, xo, x2, x3, x4⟩ := x
      dsimp only at *
      have HB := Lib.hid hb
      have HK := Lib.hid (And.intro hlt hg)
      have SM := Lib.hid sm
      have NX := Lib.hid (And.intro nxt hit)
      clear hr hxt nxt hit hx hkn hlt hk hg hall hb sm
      cases R
      · go_wp2_with (go_at_call 21; (with_reducible refine SM.out.mono ?_); rintro e w1 ⟨rfl, hb1⟩)
        go_roundg (n - (k + 1))
        case measure => have := HK.out; omega
        case rel => exact ⟨k + 1, by push_cast; rfl, by have := HK.out; omega, rfl, NX.out.1, HB.out.trans (hb1.mono HB.out.size)⟩
      · go_wp2_with (go_at_call 21; (with_reducible refine SM.out.mono ?_); rintro e w1 ⟨rfl, hb1⟩)
        go_ret
        exact ⟨k, rfl, NX.out.2 trivial, HB.out.trans (hb1.mono HB.out.size)⟩
theorem bcontainsu_any (w : World) (vs : Value) (ts : List Rw) (h : RowsAt w vs ts) :
    Calls Try.prog 14 #[vs, .func (.func 21) #[] #[]] w fun e w' => e = .returned (.bool (ts.any unmetR)) ∧ Below w.heap.size w w' := by
  have IXC := Lib.hid (bindexu_any w vs ts h)
  clear h
  go_enter Try.func14, Try.ntmps14
  go_wp2_with (go_at_call 32; (with_reducible refine IXC.out.mono ?_); rintro e w1 ⟨z, rfl, hz, hb⟩)
  go_ret
  exact ⟨by rw [← hz]; rfl, hb⟩
end Go.Proofs.Ytkinbbhbencipaa

namespace Go.Proofs.Ytkinbbhbencipaa
open Go.RowKit

/-- A slice of rows in the call's own memory; no list of fractions that stands in it lies in one of the blocks of S. -/
def OwnR (w : World) (base : Nat) (v : Value) (ts : List Rw) (S : Nat → Prop) : Prop :=
  ∃ rs, rs.map (·.2) = ts ∧ w.ownsRow base 29 4 v ts.length (rowCells rs) ∧ ∀ x ∈ rs, RatsAt w x.1 x.2.2.1 ∧ Off S x.1 x.2.2.1

theorem OwnR.nil (w : World) (base : Nat) (S : Nat → Prop) : OwnR w base (.slice none 0 0) [] S := ⟨[], rfl, World.ownsRow_nil w base _ _, fun x hx => by cases hx⟩
theorem OwnR.rows {w : World} {base : Nat} {v : Value} {ts : List Rw} {S : Nat → Prop} (h : OwnR w base v ts S) : RowsAt w v ts := by
  obtain ⟨rs, h1, h2, h3⟩ := h
  have h0 := h2
  rcases h2.2 with ⟨rfl, hn⟩ | ⟨g, cap, cur, rfl, _, hh, hnc, hrest⟩
  · have hts : ts = [] := List.eq_nil_of_length_eq_zero hn
    subst hts
    exact RowsAt.nil w
  · exact ⟨some _, cap, rs, rfl, hnc, hrest.1, h1, Reads.of_own h0, fun x hx => (h3 x hx).1⟩
theorem OwnR.lt {w : World} {base : Nat} {v : Value} {ts : List Rw} {S : Nat → Prop} (h : OwnR w base v ts S) : ∀ k, v.ownBlock = some k → base ≤ k ∧ k < w.heap.size := by
  obtain ⟨rs, _, h2, _⟩ := h
  exact h2.lt
theorem OwnR.below {w w' : World} {base : Nat} {v : Value} {ts : List Rw} {S : Nat → Prop} (h : OwnR w base v ts S) (hb : Below w.heap.size w w') : OwnR w' base v ts S := by
  obtain ⟨rs, h1, h2, h3⟩ := h
  exact ⟨rs, h1, h2.kept (grown_of_below hb none) (by cases hv : v.ownBlock <;> simp), fun x hx => ⟨(h3 x hx).1.below hb, (h3 x hx).2⟩⟩
/-- A write to another row. -/
theorem OwnR.other {w w' : World} {base : Nat} {v : Value} {ts : List Rw} {S : Nat → Prop} {row : Option Nat} (h : OwnR w base v ts S) (hg : w.grownBy w' row) (hr : ∀ b, row = some b → S b ∧ v.ownBlock ≠ some b) : OwnR w' base v ts S := by
  obtain ⟨rs, h1, h2, h3⟩ := h
  refine ⟨rs, h1, h2.kept hg ?_, fun x hx => ⟨(h3 x hx).1.off (h3 x hx).2 hg fun b e => (hr b e).1, (h3 x hx).2⟩⟩
  cases row with
  | none => cases hv : v.ownBlock <;> simp
  | some b => exact .inr (hr b rfl).2
theorem OwnR.mono {w : World} {base : Nat} {v : Value} {ts : List Rw} {S S' : Nat → Prop} (h : OwnR w base v ts S) (hs : ∀ b, S' b → S b ∨ w.heap.size ≤ b) : OwnR w base v ts S' := by
  obtain ⟨rs, h1, h2, h3⟩ := h
  exact ⟨rs, h1, h2, fun x hx => ⟨(h3 x hx).1, (h3 x hx).2.more (h3 x hx).1 hs⟩⟩
theorem OwnR.base {w : World} {base base' : Nat} {v : Value} {ts : List Rw} {S : Nat → Prop} (h : OwnR w base v ts S) (hb : base' ≤ base) : OwnR w base' v ts S := by
  obtain ⟨rs, h1, h2, h3⟩ := h
  refine ⟨rs, h1, ⟨h2.1, ?_⟩, h3⟩
  rcases h2.2 with q | ⟨g, cap, cur, e, hg, rest⟩
  · exact .inl q
  · exact .inr ⟨g, cap, cur, e, Nat.le_trans hb hg, rest⟩
/-- Behind an append of one row. -/
theorem OwnR.appended {w w' : World} {base : Nat} {v v' vt : Value} {ts : List Rw} {rs : List (Value × Rw)} {t : Rw} {S S' : Nat → Prop} (h1 : rs.map (·.2) = ts) (h3 : ∀ x ∈ rs, RatsAt w x.1 x.2.2.1 ∧ Off S x.1 x.2.2.1)
    (hown : w'.ownsRow base 29 4 v' (ts.length + 1) (rowCells rs ++ [.int .i64 t.1, vt, .int .i64 t.2.2.1, .int .i64 t.2.2.2])) (hg : w.grownBy w' v.ownBlock) (hv : ∀ b, v.ownBlock = some b → S b) (hr : RatsAt w vt t.2.1) (ho : Off S vt t.2.1) (hs : ∀ b, S' b → S b ∨ w.heap.size ≤ b) :
    OwnR w' base v' (ts ++ [t]) S' := by
  have key : ∀ x ∈ rs ++ [(vt, t)], RatsAt w x.1 x.2.2.1 ∧ Off S x.1 x.2.2.1 := by
    intro x hx
    rcases List.mem_append.1 hx with q | q
    · exact h3 x q
    · rw [List.mem_singleton] at q
      subst q
      exact ⟨hr, ho⟩
  refine ⟨rs ++ [(vt, t)], by rw [List.map_append, h1]; rfl, ?_, fun x hx => ⟨(key x hx).1.off (key x hx).2 hg hv, (key x hx).2.more (key x hx).1 hs⟩⟩
  rw [List.length_append, rowCells_append]
  exact hown
theorem infoRow : (Try.prog.info? 29).map (fun i => (i.zero, i.size, i.bytes)) = some (some (.agg #[.int .i64 0, .slice none 0 0, .int .i64 0, .int .i64 0]), 4, 48) := by kernel_rfl
end Go.Proofs.Ytkinbbhbencipaa

namespace Go.Proofs.Ytkinbbhbencipaa
open Go.RowKit

def eqsR (ts : List Rw) : List Trm := (ts.filter fun r => r.1 == 0).map (·.2)
def othR (ts : List Rw) : List Rw := ts.filter fun r => !(r.1 == 0)

/-- The two lists, as far as they are built; what stands in them lies in older memory. -/
structure ParS (W w : World) (ve : Value) (es : List Trm) (vo : Value) (os : List Rw) : Prop where
  e : OwnT w W.heap.size ve es (fun b => W.heap.size ≤ b)
  o : OwnR w W.heap.size vo os (fun b => W.heap.size ≤ b)
  ne : ∀ b, ve.ownBlock = some b → vo.ownBlock ≠ some b
  below : Below W.heap.size W w
section
variable {W w w' : World} {ve ve' vo vo' vt : Value} {es : List Trm} {os : List Rw}
theorem ParS.start (W : World) : ParS W W (.slice none 0 0) [] (.slice none 0 0) [] := ⟨OwnT.nil _ _ _, OwnR.nil _ _ _, fun b h => (by cases h), Below.refl _ _⟩
theorem ParS.keep (h : ParS W w ve es vo os) (hb : Below w.heap.size w w') : ParS W w' ve es vo os := ⟨h.e.below hb, h.o.below hb, h.ne, h.below.trans (hb.mono h.below.size)⟩
theorem off_old {l : List (Int × Int)} (hr : RatsAt W vt l) : Off (fun b => W.heap.size ≤ b) vt l := fun hl b hb q => by have := hr.lt hl b hb; omega
theorem ParS.pushE {t : Trm} {rs : List (Value × Trm)} (h : ParS W w ve es vo os) (h1 : rs.map (·.2) = es) (h3 : ∀ x ∈ rs, RatsAt w x.1 x.2.1 ∧ Off (fun b => W.heap.size ≤ b) x.1 x.2.1)
    (hown : w'.ownsRow W.heap.size 27 3 ve' (es.length + 1) (termCells rs ++ [vt, .int .i64 t.2.1, .int .i64 t.2.2])) (hg : w.grownBy w' ve.ownBlock) (hv : ve'.ownBlock = ve.ownBlock ∨ ve'.ownBlock = some w.heap.size) (hr : RatsAt W vt t.1) : ParS W w' ve' (es ++ [t]) vo os := by
  refine ⟨OwnT.appended h1 h3 hown hg (fun b hb => (h.e.lt b hb).1) (hr.below h.below) (off_old hr) fun b hb => .inl hb, h.o.other hg fun b hb => ⟨(h.e.lt b hb).1, h.ne b hb⟩, fun b hb q => ?_, h.below.grown hg h.below.size fun k hk => (h.e.lt k hk).1⟩
  rcases hv with e | e
  · exact h.ne b (e ▸ hb) q
  · rw [e] at hb
    injection hb with hb
    have := (h.o.lt b q).2
    omega
theorem ParS.pushO {t : Rw} {rs : List (Value × Rw)} (h : ParS W w ve es vo os) (h1 : rs.map (·.2) = os) (h3 : ∀ x ∈ rs, RatsAt w x.1 x.2.2.1 ∧ Off (fun b => W.heap.size ≤ b) x.1 x.2.2.1)
    (hown : w'.ownsRow W.heap.size 29 4 vo' (os.length + 1) (rowCells rs ++ [.int .i64 t.1, vt, .int .i64 t.2.2.1, .int .i64 t.2.2.2])) (hg : w.grownBy w' vo.ownBlock) (hv : vo'.ownBlock = vo.ownBlock ∨ vo'.ownBlock = some w.heap.size) (hr : RatsAt W vt t.2.1) : ParS W w' ve es vo' (os ++ [t]) := by
  refine ⟨h.e.other hg fun b hb => ⟨(h.o.lt b hb).1, fun q => h.ne b q hb⟩, OwnR.appended h1 h3 hown hg (fun b hb => (h.o.lt b hb).1) (hr.below h.below) (off_old hr) fun b hb => .inl hb, fun b hb q => ?_, h.below.grown hg h.below.size fun k hk => (h.o.lt k hk).1⟩
  rcases hv with e | e
  · exact h.ne b hb (e ▸ q)
  · rw [e] at q
    injection q with q
    have := (h.e.lt b hb).2
    omega
theorem ahead_e {t : Trm} {kn kd : Int} {A : Option Addr} {c k : Nat} (P : ParS W w ve es vo os) (hk : es.length = k) (ty : TypeId) :
    ∃ rs, rs.map (·.2) = es ∧ (w.alloc (.cells #[.slice A t.1.length c, .int .i64 kn, .int .i64 kd] ty)).ownsRow W.heap.size 27 3 ve k (termCells rs) ∧ (∀ x ∈ rs, RatsAt (w.alloc (.cells #[.slice A t.1.length c, .int .i64 kn, .int .i64 kd] ty)) x.1 x.2.1 ∧ Off (fun b => W.heap.size ≤ b) x.1 x.2.1) ∧ ParS W (w.alloc (.cells #[.slice A t.1.length c, .int .i64 kn, .int .i64 kd] ty)) ve es vo os ∧
      Reads (w.alloc (.cells #[.slice A t.1.length c, .int .i64 kn, .int .i64 kd] ty)) (w.heap.size + 1) 3 (some ⟨w.heap.size, 0, none⟩) 1 [.slice A t.1.length c, .int .i64 kn, .int .i64 kd] := by
  have LA := P.keep (below_alloc1 w (.cells #[.slice A t.1.length c, .int .i64 kn, .int .i64 kd] ty))
  obtain ⟨rs, z1, z2, z3⟩ := LA.e
  rw [hk] at z2
  exact ⟨rs, z1, z2, z3, LA, (new_start (wo := w) (x := #[.slice A t.1.length c, .int .i64 kn, .int .i64 kd]) (ty := ty) (Nat.zero_le _)).reads (size := 3) rfl⟩
theorem ahead_o {t : Rw} {op kn kd : Int} {A : Option Addr} {c k : Nat} (P : ParS W w ve es vo os) (hk : os.length = k) (ty : TypeId) :
    ∃ rs, rs.map (·.2) = os ∧ (w.alloc (.cells #[.int .i64 op, .slice A t.2.1.length c, .int .i64 kn, .int .i64 kd] ty)).ownsRow W.heap.size 29 4 vo k (rowCells rs) ∧ (∀ x ∈ rs, RatsAt (w.alloc (.cells #[.int .i64 op, .slice A t.2.1.length c, .int .i64 kn, .int .i64 kd] ty)) x.1 x.2.2.1 ∧ Off (fun b => W.heap.size ≤ b) x.1 x.2.2.1) ∧ ParS W (w.alloc (.cells #[.int .i64 op, .slice A t.2.1.length c, .int .i64 kn, .int .i64 kd] ty)) ve es vo os ∧
      Reads (w.alloc (.cells #[.int .i64 op, .slice A t.2.1.length c, .int .i64 kn, .int .i64 kd] ty)) (w.heap.size + 1) 4 (some ⟨w.heap.size, 0, none⟩) 1 [.int .i64 op, .slice A t.2.1.length c, .int .i64 kn, .int .i64 kd] := by
  have LA := P.keep (below_alloc1 w (.cells #[.int .i64 op, .slice A t.2.1.length c, .int .i64 kn, .int .i64 kd] ty))
  obtain ⟨rs, z1, z2, z3⟩ := LA.o
  rw [hk] at z2
  exact ⟨rs, z1, z2, z3, LA, (new_start (wo := w) (x := #[.int .i64 op, .slice A t.2.1.length c, .int .i64 kn, .int .i64 kd]) (ty := ty) (Nat.zero_le _)).reads (size := 4) rfl⟩
end
theorem one3t (A : Option Addr) (n c : Nat) (x y : Int) : ∀ u ∈ [(Value.slice A n c), .int .i64 x, .int .i64 y], u.oneCell' = true := fun u hu => by
  simp at hu
  rcases hu with rfl | rfl | rfl <;> rfl
theorem one4 (A : Option Addr) (n c : Nat) (z x y : Int) : ∀ u ∈ [Value.int .i64 z, (Value.slice A n c), .int .i64 x, .int .i64 y], u.oneCell' = true := fun u hu => by
  simp at hu
  rcases hu with rfl | rfl | rfl | rfl <;> rfl

def PartPut (w : World) (ts : List Rw) (e : Ending) (w' : World) : Prop :=
  ∃ A c B d, e = .returned (.tuple #[.slice A (eqsR ts).length c, .slice B (othR ts).length d]) ∧ TermsAt w' (.slice A (eqsR ts).length c) (eqsR ts) ∧ RowsAt w' (.slice B (othR ts).length d) (othR ts) ∧ Below w.heap.size w w'

set_option maxRecDepth 100000 in
set_option maxHeartbeats 4000000 in
theorem parted_any (w : World) (v : Value) (ts : List Rw) (h : RowsAt w v ts) (hl : ts.length ≤ 1000) :
    Calls Try.prog 16 #[v] w (PartPut w ts) := by
  obtain ⟨iT, hiT, zT0, zT1, zT2⟩ := info_parts infoT
  obtain ⟨iR, hiR, zR0, zR1, zR2⟩ := info_parts infoRow
  obtain ⟨A, c, rs, rfl, h2, h3, h4, h5, h6⟩ := h
  obtain ⟨n, hn⟩ : ∃ n, n = ts.length := ⟨_, rfl⟩
  have hrn : rs.length = n := by rw [hn, ← h4, List.length_map]
  rw [← hn] at h2 h5 hl ⊢
  have HN := Lib.hid (And.intro hrn (And.intro h4 (And.intro h5 (And.intro h6 (And.intro hn hl)))))
  clear hn hrn h2 h3 h4 h5 h6 hl
  go_enter Try.func16, Try.ntmps16
  go_wp2_with fail
  go_loopg [4, 5, 10] n (fun g v4 v5 v10 wr => ∃ (k : Nat) (ve vo : Value), ve = v4 ∧ vo = v5 ∧ v10 = .int .i64 k ∧ k ≤ n ∧ g = n - k ∧ ParS w wr ve (eqsR (ts.take k)) vo (othR (ts.take k)))
  case atStart => exact ⟨0, _, _, rfl, rfl, rfl, Nat.zero_le _, rfl, ParS.start w⟩
  case round =>
    obtain ⟨k, ve, vo, rfl, rfl, rfl, hk, hg, D⟩ := hrel
    by_cases hkn : k = n
    · have he : ts.take k = ts := by rw [hkn, HN.out.2.2.2.2.1]; exact List.take_length
      rw [he] at D
      have TE := D.e.terms
      have TO := D.o.rows
      obtain ⟨Ae, ce, rfl⟩ : ∃ A c, ve = .slice A (eqsR ts).length c := by obtain ⟨A, c, _, e, _⟩ := TE; exact ⟨A, c, e⟩
      obtain ⟨Ao, co_, rfl⟩ : ∃ A c, vo = .slice A (othR ts).length c := by obtain ⟨A, c, _, e, _⟩ := TO; exact ⟨A, c, e⟩
      have FIN := Lib.hid (show PartPut w ts (.returned (.tuple #[.slice Ae (eqsR ts).length ce, .slice Ao (othR ts).length co_])) wr from ⟨Ae, ce, Ao, co_, rfl, TE, TO, D.below⟩)
      subst hkn
      clear hk hg D TE TO he
      generalize (eqsR ts).length = z1 at *
      generalize (othR ts).length = z2 at *
      go_wp2_with fail
      go_ret2
      exact FIN.out
    · have hlt : k < n := by omega
      obtain ⟨y, hy⟩ : ∃ y, rs[k]? = some y := ⟨_, List.getElem?_eq_getElem (by have := HN.out.1; omega)⟩
      have hyt : ts[k]? = some y.2 := by rw [← HN.out.2.1, List.getElem?_map, hy]; rfl
      obtain ⟨ad, rfl, d0, d1, d2, d3⟩ := rows_cells HN.out.2.2.1 D.below hy (by omega)
      have hr := HN.out.2.2.2.1 y (List.mem_of_getElem? hy)
      have i1 : (k : Int) < (n : Int) := by omega
      have i2 : (0 : Int) ≤ (k : Int) := by omega
      have wk : IntKind.i64.wrap ((k : Int) + 1) = (k : Int) + 1 := IntWalk.i64_in _ (by have := HN.out.2.2.2.2.2; omega)
      have tk1 : ts.take (k + 1) = ts.take k ++ [y.2] := by rw [List.take_add_one, hyt]; rfl
      have le : (eqsR (ts.take k)).length ≤ k := by unfold eqsR; rw [List.length_map]; exact Nat.le_trans (List.length_filter_le _ _) (by rw [List.length_take]; omega)
      have lo : (othR (ts.take k)).length ≤ k := Nat.le_trans (List.length_filter_le _ _) (by rw [List.length_take]; omega)
      obtain ⟨y0, yo, yl, y1, y2⟩ := y
      dsimp only at *
      obtain ⟨Ay, cy, rfl⟩ := rats_shape hr
      have HK := Lib.hid (And.intro hlt hg)
      have LK := Lib.hid (And.intro (by have := HN.out.2.2.2.2.2; unfold maxLen; omega : k + 1 ≤ maxLen) (And.intro le lo))
      have D1 := D.keep (below_alloc1 wr (.cells #[.int .i64 yo, .slice Ay yl.length cy, .int .i64 y1, .int .i64 y2] 29))
      by_cases h0 : yo = 0
      · have e0 : (yo == 0) = true := by rw [h0]; rfl
        have n1 : eqsR (ts.take (k + 1)) = eqsR (ts.take k) ++ [(yl, y1, y2)] := by rw [tk1]; unfold eqsR; rw [List.filter_append, List.map_append]; simp [h0]
        have n2 : othR (ts.take (k + 1)) = othR (ts.take k) := by rw [tk1]; unfold othR; rw [List.filter_append]; simp [h0]
        have QW := Lib.hid (ahead_e (t := (yl, y1, y2)) (kn := y1) (kd := y2) (A := Ay) (c := cy) D1 rfl 27)
        obtain ⟨rs2, QV⟩ := QW.out
        have QW := Lib.hid QV
        have NX := Lib.hid (And.intro n1 (And.intro n2 hr))
        clear QV D D1 hk hg hlt hkn hy hyt hr tk1 le lo n1 n2 h0
        go_wp2_with (at_builtin; refine wpList_append_any _ rfl _ _ 47 rfl w.heap.size 27 iT (.agg #[.slice none 0 0, .int .i64 0, .int .i64 0]) 3 40 Try.underlying47 hiT zT0 zT1 zT2 rfl (by decide) _ (eqsR (ts.take k)).length (termCells rs2) rfl QW.out.2.1 (wr.heap.size + 1 + 1) (some ⟨wr.heap.size + 1, 0, none⟩) 1 1 [.slice Ay yl.length cy, .int .i64 y1, .int .i64 y2] rfl (by have := QW.out.2.2.2.2; simpa using this) (one3t _ _ _ _ _) (by have := LK.out; omega) (by have := LK.out; have := HN.out.2.2.2.2.2; have := HK.out; omega) QW.out.2.2.2.1.below.size ?_)
        intro v8 w8 hown hgrow hat
        have D8 := Lib.hid (ParS.pushE (t := (yl, y1, y2)) QW.out.2.2.2.1 QW.out.1 QW.out.2.2.1 hown hgrow (by first | exact hat | simpa using hat) NX.out.2.2)
        clear hown hgrow hat
        go_wp2_with fail
        go_roundg (n - (k + 1))
        case measure => have := HK.out; omega
        case rel => exact ⟨k + 1, v8, vo, rfl, rfl, by push_cast; rfl, by have := HK.out; omega, rfl, by rw [NX.out.1, NX.out.2.1]; exact D8.out⟩
      · have e0 : (yo == 0) = false := by simpa using h0
        have n1 : eqsR (ts.take (k + 1)) = eqsR (ts.take k) := by rw [tk1]; unfold eqsR; rw [List.filter_append, List.map_append]; simp [h0]
        have n2 : othR (ts.take (k + 1)) = othR (ts.take k) ++ [(yo, yl, y1, y2)] := by rw [tk1]; unfold othR; rw [List.filter_append]; simp [h0]
        have QW := Lib.hid (ahead_o (t := (yo, yl, y1, y2)) (op := yo) (kn := y1) (kd := y2) (A := Ay) (c := cy) D1 rfl 29)
        obtain ⟨rs2, QV⟩ := QW.out
        have QW := Lib.hid QV
        have NX := Lib.hid (And.intro n1 (And.intro n2 hr))
        clear QV D D1 hk hg hlt hkn hy hyt hr tk1 le lo n1 n2 h0
        go_wp2_with (at_builtin; refine wpList_append_any _ rfl _ _ 22 rfl w.heap.size 29 iR (.agg #[.int .i64 0, .slice none 0 0, .int .i64 0, .int .i64 0]) 4 48 Try.underlying22 hiR zR0 zR1 zR2 rfl (by decide) _ (othR (ts.take k)).length (rowCells rs2) rfl QW.out.2.1 (wr.heap.size + 1 + 1) (some ⟨wr.heap.size + 1, 0, none⟩) 1 1 [.int .i64 yo, .slice Ay yl.length cy, .int .i64 y1, .int .i64 y2] rfl (by have := QW.out.2.2.2.2; simpa using this) (one4 _ _ _ _ _ _) (by have := LK.out; omega) (by have := LK.out; have := HN.out.2.2.2.2.2; have := HK.out; omega) QW.out.2.2.2.1.below.size ?_)
        intro v8 w8 hown hgrow hat
        have D8 := Lib.hid (ParS.pushO (t := (yo, yl, y1, y2)) QW.out.2.2.2.1 QW.out.1 QW.out.2.2.1 hown hgrow (by first | exact hat | simpa using hat) NX.out.2.2)
        clear hown hgrow hat
        go_wp2_with fail
        go_roundg (n - (k + 1))
        case measure => have := HK.out; omega
        case rel => exact ⟨k + 1, ve, v8, rfl, rfl, by push_cast; rfl, by have := HK.out; omega, rfl, by rw [NX.out.1, NX.out.2.1]; exact D8.out⟩
end Go.Proofs.Ytkinbbhbencipaa

namespace Go.Proofs.Ytkinbbhbencipaa
open Go.RowKit

/-- A slice of rows that lies, with all that stands in it, in none of the blocks of S. -/
def RowsIn (w : World) (v : Value) (ts : List Rw) (S : Nat → Prop) : Prop :=
  ∃ A c rs, v = .slice A ts.length c ∧ ts.length ≤ c ∧ c ≤ maxLen ∧ rs.map (·.2) = ts ∧ Reads w w.heap.size 4 A ts.length (rowCells rs) ∧ (ts ≠ [] → ∀ b, v.ownBlock = some b → ¬ S b) ∧ ∀ x ∈ rs, RatsAt w x.1 x.2.2.1 ∧ Off S x.1 x.2.2.1

theorem RowsIn.rows {w : World} {v : Value} {ts : List Rw} {S : Nat → Prop} (h : RowsIn w v ts S) : RowsAt w v ts := by
  obtain ⟨A, c, rs, h1, h2, h3, h4, h5, _, h6⟩ := h
  exact ⟨A, c, rs, h1, h2, h3, h4, h5, fun x hx => (h6 x hx).1⟩
theorem RowsIn.nil (w : World) (S : Nat → Prop) : RowsIn w (.slice none 0 0) [] S := ⟨none, 0, [], rfl, Nat.le_refl _, by decide, rfl, Reads.none_, fun h => absurd rfl h, fun x hx => by cases hx⟩
theorem RowsIn.below {w w' : World} {v : Value} {ts : List Rw} {S : Nat → Prop} (h : RowsIn w v ts S) (hb : Below w.heap.size w w') : RowsIn w' v ts S := by
  obtain ⟨A, c, rs, h1, h2, h3, h4, h5, h7, h6⟩ := h
  exact ⟨A, c, rs, h1, h2, h3, h4, (h5.below hb).more hb.size, h7, fun x hx => ⟨(h6 x hx).1.below hb, (h6 x hx).2⟩⟩
theorem RowsIn.of {w : World} {v : Value} {ts : List Rw} {S : Nat → Prop} (h : RowsAt w v ts) (hS : ∀ b, S b → w.heap.size ≤ b) : RowsIn w v ts S := by
  obtain ⟨A, c, rs, rfl, h2, h3, h4, h5, h6⟩ := h
  refine ⟨A, c, rs, rfl, h2, h3, h4, h5, fun hn b hb q => ?_, fun x hx => ⟨h6 x hx, fun hl b hb q => ?_⟩⟩
  · obtain ⟨ad, rfl, hlt, _⟩ := h5.2 (List.length_pos_iff.2 hn)
    have e : ad.block = b := by simpa [Value.ownBlock] using hb
    have := hS b q
    omega
  · have := (h6 x hx).lt hl b hb
    have := hS b q
    omega
theorem RowsIn.mono {w : World} {v : Value} {ts : List Rw} {S S' : Nat → Prop} (h : RowsIn w v ts S) (hs : ∀ b, S' b → S b ∨ w.heap.size ≤ b) : RowsIn w v ts S' := by
  obtain ⟨A, c, rs, rfl, h2, h3, h4, h5, h7, h6⟩ := h
  refine ⟨A, c, rs, rfl, h2, h3, h4, h5, fun hn b hb q => ?_, fun x hx => ⟨(h6 x hx).1, (h6 x hx).2.more (h6 x hx).1 hs⟩⟩
  rcases hs b q with g | g
  · exact h7 hn b hb g
  · obtain ⟨ad, rfl, hlt, _⟩ := h5.2 (List.length_pos_iff.2 hn)
    have e : ad.block = b := by simpa [Value.ownBlock] using hb
    omega
theorem reads_grown {w w' : World} {row : Option Nat} {size : Nat} {A : Option Addr} {n c : Nat} {xs : List Value} (h : Reads w w.heap.size size A n xs) (hg : w.grownBy w' row) (ho : 0 < n → ∀ b, (Value.slice A n c).ownBlock = some b → row ≠ some b) : Reads w' w'.heap.size size A n xs := by
  refine ⟨h.1, fun hn => ?_⟩
  obtain ⟨ad, rfl, hlt, hc⟩ := h.2 hn
  refine ⟨ad, rfl, Nat.lt_of_lt_of_le hlt hg.size, fun j u hu => ?_⟩
  have hne : row ≠ some ad.block := ho hn _ rfl
  exact (World.cell?_of_block (hg.block (ad.add j).block (by rw [block_of_add]; exact hlt) (by rw [block_of_add]; exact fun e => hne e.symm))).trans (hc j u hu)
theorem RowsIn.grown {w w' : World} {row : Option Nat} {v : Value} {ts : List Rw} {S : Nat → Prop} (h : RowsIn w v ts S) (hg : w.grownBy w' row) (hr : ∀ b, row = some b → S b) : RowsIn w' v ts S := by
  obtain ⟨A, c, rs, rfl, h2, h3, h4, h5, h7, h6⟩ := h
  exact ⟨A, c, rs, rfl, h2, h3, h4, reads_grown h5 hg fun hn b hb e => h7 (List.length_pos_iff.1 hn) b hb (hr b e), h7, fun x hx => ⟨(h6 x hx).1.off (h6 x hx).2 hg hr, (h6 x hx).2⟩⟩
theorem OwnR.isin {w : World} {base : Nat} {v : Value} {ts : List Rw} {S S' : Nat → Prop} (h : OwnR w base v ts S) (hv : ∀ b, v.ownBlock = some b → ¬ S' b) (hs : ∀ b, S' b → S b ∨ w.heap.size ≤ b) : RowsIn w v ts S' := by
  obtain ⟨rs, h1, h2, h3⟩ := h.mono hs
  have h0 := h2
  rcases h2.2 with ⟨rfl, hn⟩ | ⟨g, cap, cur, rfl, _, hh, hnc, hrest⟩
  · have hts : ts = [] := List.eq_nil_of_length_eq_zero hn
    subst hts
    exact RowsIn.nil w S'
  · exact ⟨some _, cap, rs, rfl, hnc, hrest.1, h1, Reads.of_own h0, fun _ => hv, fun x hx => h3 x hx⟩

/-- The blocks of three rows, and others. -/
def four (S0 : Nat → Prop) (va vb vc : Value) (b : Nat) : Prop := va.ownBlock = some b ∨ vb.ownBlock = some b ∨ vc.ownBlock = some b ∨ S0 b

/-- Three rows of rows, made since W, of which nothing lies in the rows' own blocks, or in those of S0. -/
structure Tri (S0 : Nat → Prop) (W w : World) (va : Value) (xa : List Rw) (vb : Value) (xb : List Rw) (vc : Value) (xc : List Rw) : Prop where
  a : OwnR w W.heap.size va xa (four S0 va vb vc)
  b : OwnR w W.heap.size vb xb (four S0 va vb vc)
  c : OwnR w W.heap.size vc xc (four S0 va vb vc)
  ab : ∀ k, va.ownBlock = some k → vb.ownBlock ≠ some k
  ac : ∀ k, va.ownBlock = some k → vc.ownBlock ≠ some k
  bc : ∀ k, vb.ownBlock = some k → vc.ownBlock ≠ some k
  s0 : ∀ b, S0 b → b < W.heap.size
  below : Below W.heap.size W w
section
variable {S0 : Nat → Prop} {W w w' : World} {va va' vb vc vt : Value} {xa xb xc : List Rw}
theorem Tri.start (hs : ∀ b, S0 b → b < W.heap.size) : Tri S0 W W (.slice none 0 0) [] (.slice none 0 0) [] (.slice none 0 0) [] :=
  ⟨OwnR.nil _ _ _, OwnR.nil _ _ _, OwnR.nil _ _ _, fun b h => (by cases h), fun b h => (by cases h), fun b h => (by cases h), hs, Below.refl _ _⟩
theorem Tri.keep (h : Tri S0 W w va xa vb xb vc xc) (hb : Below w.heap.size w w') : Tri S0 W w' va xa vb xb vc xc :=
  ⟨h.a.below hb, h.b.below hb, h.c.below hb, h.ab, h.ac, h.bc, h.s0, h.below.trans (hb.mono h.below.size)⟩
theorem Tri.swab (h : Tri S0 W w va xa vb xb vc xc) : Tri S0 W w vb xb va xa vc xc := by
  have e : ∀ b, four S0 vb va vc b → four S0 va vb vc b ∨ w.heap.size ≤ b := fun b q => .inl (by
    rcases q with q | q | q
    · exact .inr (.inl q)
    · exact .inl q
    · exact .inr (.inr q))
  exact ⟨h.b.mono e, h.a.mono e, h.c.mono e, fun k p q => h.ab k q p, h.bc, h.ac, h.s0, h.below⟩
theorem Tri.swac (h : Tri S0 W w va xa vb xb vc xc) : Tri S0 W w vc xc vb xb va xa := by
  have e : ∀ b, four S0 vc vb va b → four S0 va vb vc b ∨ w.heap.size ≤ b := fun b q => .inl (by
    rcases q with q | q | q | q
    · exact .inr (.inr (.inl q))
    · exact .inr (.inl q)
    · exact .inl q
    · exact .inr (.inr (.inr q)))
  exact ⟨h.c.mono e, h.b.mono e, h.a.mono e, fun k p q => h.bc k q p, fun k p q => h.ac k q p, fun k p q => h.ab k q p, h.s0, h.below⟩
theorem Tri.lt (h : Tri S0 W w va xa vb xb vc xc) : ∀ b, four S0 va vb vc b → b < w.heap.size := fun b q => by
  rcases q with q | q | q | q
  · exact (h.a.lt b q).2
  · exact (h.b.lt b q).2
  · exact (h.c.lt b q).2
  · exact Nat.lt_of_lt_of_le (h.s0 b q) h.below.size
theorem Tri.old (h : Tri S0 W w va xa vb xb vc xc) : ∀ b, four S0 va vb vc b → S0 b ∨ W.heap.size ≤ b := fun b q => by
  rcases q with q | q | q | q
  · exact .inr (h.a.lt b q).1
  · exact .inr (h.b.lt b q).1
  · exact .inr (h.c.lt b q).1
  · exact .inl q
/-- One row more in the first. -/
theorem Tri.push {t : Rw} {rs : List (Value × Rw)} (h : Tri S0 W w va xa vb xb vc xc) (h1 : rs.map (·.2) = xa) (h3 : ∀ x ∈ rs, RatsAt w x.1 x.2.2.1 ∧ Off (four S0 va vb vc) x.1 x.2.2.1)
    (hown : w'.ownsRow W.heap.size 29 4 va' (xa.length + 1) (rowCells rs ++ [.int .i64 t.1, vt, .int .i64 t.2.2.1, .int .i64 t.2.2.2])) (hg : w.grownBy w' va.ownBlock) (hv : va'.ownBlock = va.ownBlock ∨ va'.ownBlock = some w.heap.size) (hr : RatsAt w vt t.2.1) (ho : Off (four S0 va vb vc) vt t.2.1) :
    Tri S0 W w' va' (xa ++ [t]) vb xb vc xc := by
  have hs3 : ∀ b, four S0 va' vb vc b → four S0 va vb vc b ∨ w.heap.size ≤ b := by
    intro b q
    rcases q with q | q
    · rcases hv with e | e
      · rw [e] at q; exact .inl (.inl q)
      · rw [e] at q; injection q with q; exact .inr (by omega)
    · exact .inl (.inr q)
  have a := OwnR.appended (S := four S0 va vb vc) (S' := four S0 va' vb vc) h1 h3 hown hg (fun b hb => .inl hb) hr ho hs3
  have b0 : OwnR w W.heap.size vb xb (fun b => four S0 va vb vc b ∨ four S0 va' vb vc b) := h.b.mono fun b hb => hb.elim .inl (hs3 b)
  have c0 : OwnR w W.heap.size vc xc (fun b => four S0 va vb vc b ∨ four S0 va' vb vc b) := h.c.mono fun b hb => hb.elim .inl (hs3 b)
  have b1 := b0.other hg fun b hb => ⟨.inl (.inl hb), h.ab b hb⟩
  have c1 := c0.other hg fun b hb => ⟨.inl (.inl hb), h.ac b hb⟩
  refine ⟨a, b1.mono fun b hb => .inl (.inr hb), c1.mono fun b hb => .inl (.inr hb), fun k hk q => ?_, fun k hk q => ?_, h.bc, h.s0, h.below.grown hg h.below.size fun k hk => (h.a.lt k hk).1⟩
  · rcases hv with e | e
    · exact h.ab k (e ▸ hk) q
    · rw [e] at hk
      injection hk with hk
      have := (h.b.lt k q).2
      omega
  · rcases hv with e | e
    · exact h.ac k (e ▸ hk) q
    · rw [e] at hk
      injection hk with hk
      have := (h.c.lt k q).2
      omega
/-- Ahead of an append to the first: what is appended stands in a block of its own. -/
theorem Tri.ahead {n : Nat} {op kn kd : Int} {A : Option Addr} {c k : Nat} (P : Tri S0 W w va xa vb xb vc xc) (hk : xa.length = k) (ty : TypeId) :
    ∃ rs, rs.map (·.2) = xa ∧ (w.alloc (.cells #[.int .i64 op, .slice A n c, .int .i64 kn, .int .i64 kd] ty)).ownsRow W.heap.size 29 4 va k (rowCells rs) ∧ (∀ x ∈ rs, RatsAt (w.alloc (.cells #[.int .i64 op, .slice A n c, .int .i64 kn, .int .i64 kd] ty)) x.1 x.2.2.1 ∧ Off (four S0 va vb vc) x.1 x.2.2.1) ∧ Tri S0 W (w.alloc (.cells #[.int .i64 op, .slice A n c, .int .i64 kn, .int .i64 kd] ty)) va xa vb xb vc xc ∧
      Reads (w.alloc (.cells #[.int .i64 op, .slice A n c, .int .i64 kn, .int .i64 kd] ty)) (w.heap.size + 1) 4 (some ⟨w.heap.size, 0, none⟩) 1 [.int .i64 op, .slice A n c, .int .i64 kn, .int .i64 kd] := by
  have LA := P.keep (below_alloc1 w (.cells #[.int .i64 op, .slice A n c, .int .i64 kn, .int .i64 kd] ty))
  obtain ⟨rs, z1, z2, z3⟩ := LA.a
  rw [hk] at z2
  exact ⟨rs, z1, z2, z3, LA, (new_start (wo := w) (x := #[.int .i64 op, .slice A n c, .int .i64 kn, .int .i64 kd]) (ty := ty) (Nat.zero_le _)).reads (size := 4) rfl⟩
end
end Go.Proofs.Ytkinbbhbencipaa
