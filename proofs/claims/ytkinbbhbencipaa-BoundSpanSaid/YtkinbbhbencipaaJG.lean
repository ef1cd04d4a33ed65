/-
  The walk of layer 3's awake. (Template: by-name.py fills it.)
-/
import Derived.Test.YtkinbbhbencipaaJGauK
import Derived.Test.YtkinbbhbencipaaJC
import Derived.BigQuiet
import Derived.Deep.QuietTactic
namespace Go.Proofs.Ytkinbbhbencipaa
open Go.RowKit

/-! ### Slices of numbers -/
theorem int_take {l : List Int} {k : Nat} {x c : Int} (hk : l[k]? = some x) (h : (l.take k).contains c = false) : (l.take (k + 1)).contains c = (c == x) := by
  rw [List.take_add_one, hk, List.contains_eq_any_beq, List.any_append, ← List.contains_eq_any_beq, h, Bool.false_or]
  simp

/-- Where a number stands, or -1. -/
def NumIdx (l : List Int) (c : Int) (z : Int) : Prop := decide (0 ≤ z) = l.contains c

set_option maxHeartbeats 2000000 in
theorem intidx_any (w : World) (v : Value) (l : List Int) (c : Int) (h : IntsAt w v l) :
    Calls Try.prog 73 #[v, .int .i64 c] w fun e w' => (∃ z : Int, e = .returned (.int .i64 z) ∧ NumIdx l c z) ∧ w = w' := by
  obtain ⟨A, cp, rfl, h2, h3, h4⟩ := h
  obtain ⟨n, hn⟩ : ∃ n, n = l.length := ⟨_, rfl⟩
  have hmx : n ≤ 9223372036854775807 := by unfold maxLen at h3; omega
  rw [← hn] at h2 h4 ⊢
  have HN := Lib.hid (And.intro hn hmx)
  have H4 := Lib.hid h4
  clear hn h2 h3 h4 hmx
  go_enter Try.func73, Try.ntmps73
  go_wp2_with fail
  go_loopg [8] n (fun g v8 wr => w = wr ∧ ∃ k : Nat, v8 = .int .i64 k ∧ k ≤ n ∧ g = n - k ∧ (l.take k).contains c = false)
  case atStart => exact ⟨rfl, 0, rfl, Nat.zero_le _, rfl, rfl⟩
  case round =>
    obtain ⟨rfl, k, rfl, hk, hg, hall⟩ := hrel
    by_cases hkn : k = n
    · have e : l.take k = l := by rw [hkn, HN.out.1]; exact List.take_length
      rw [e] at hall
      have FIN := Lib.hid (show NumIdx l c (-1) from by unfold NumIdx; rw [hall]; rfl)
      subst hkn
      clear hk hg hall e
      go_wp2_with fail
      go_ret
      exact ⟨⟨_, rfl, FIN.out⟩, rfl⟩
    · have hlt : k < n := by omega
      obtain ⟨x, hx⟩ : ∃ x, l[k]? = some x := ⟨_, List.getElem?_eq_getElem (by have := HN.out.1; omega)⟩
      obtain ⟨ad, rfl, d0⟩ := ints_cells H4.out (Below.refl _ _) hx (by omega)
      have nxt := int_take (c := c) hx hall
      have hit : (c == x) = true → NumIdx l c k := fun q => by
        unfold NumIdx
        have q : c = x := by simpa using q
        rw [show l.contains c = true by rw [q]; simpa using List.mem_of_getElem? hx]
        exact decide_eq_true (by omega)
      have i1 : (k : Int) < (n : Int) := by omega
      have i2 : (0 : Int) ≤ (k : Int) := by omega
      have wk : IntKind.i64.wrap ((k : Int) + 1) = (k : Int) + 1 := IntWalk.i64_in _ (by have := HN.out.2; omega)
      have HK := Lib.hid (And.intro hlt hg)
      have NX := Lib.hid (And.intro nxt hit)
      clear nxt hit hx hkn hlt hk hg hall
      cases hq : (c == x)
      · go_wp2_with fail
        go_roundg (n - (k + 1))
        case measure => have := HK.out; omega
        case rel => exact ⟨rfl, k + 1, by push_cast; rfl, by have := HK.out; omega, rfl, NX.out.1.trans hq⟩
      · go_wp2_with fail
        go_ret
        exact ⟨⟨_, rfl, NX.out.2 hq⟩, rfl⟩

set_option maxHeartbeats 1000000 in
theorem intcon_any (w : World) (v : Value) (l : List Int) (c : Int) (h : IntsAt w v l) :
    Calls Try.prog 52 #[v, .int .i64 c] w fun e w' => e = .returned (.bool (l.contains c)) ∧ w = w' := by
  have ix := intidx_any w v l c h
  clear h
  go_enter Try.func52, Try.ntmps52
  go_wp2_with (go_at_call 73; (with_reducible refine ix.mono ?_); rintro e w1 ⟨⟨z, rfl, hz⟩, rfl⟩)
  go_ret
  exact ⟨by unfold NumIdx at hz; rw [← hz]; rfl, rfl⟩

theorem NewAt.cells {w : World} {B n : Nat} {xs : List Value} (h : NewAt w B n xs) : ∀ (j : Nat) (u : Value), xs[j]? = some u → w.cell? ((⟨n, 0, none⟩ : Addr).add j) = some u := fun j u hu => by
  rw [Addr.add_lit, Nat.zero_add]
  exact h.2.2 j u hu
/-- The variables that aren't taken, up to k. -/
def freeK (P : List Int) : Nat → List Int
  | 0 => []
  | k + 1 => if P.contains (k : Int) = true then freeK P k else freeK P k ++ [(k : Int)]
theorem freeK_len (P : List Int) : ∀ k, (freeK P k).length ≤ k
  | 0 => Nat.le_refl _
  | k + 1 => by
    have := freeK_len P k
    unfold freeK
    split <;> simp <;> omega
/-- Numbers that a call answers, in its own memory. -/
def IntsNew (w : World) (l : List Int) (e : Ending) (w' : World) : Prop := ∃ A c, e = .returned (.slice A l.length c) ∧ IntsAt w' (.slice A l.length c) l ∧ Below w.heap.size w w'

set_option maxRecDepth 10000 in
set_option maxHeartbeats 2000000 in
theorem free_any (w : World) (v : Value) (P : List Int) (h : IntsAt w v P) : Calls Try.prog 20 #[v] w (IntsNew w (freeK P 8)) := by
  obtain ⟨iI, hiI, zI0, zI1, zI2⟩ := info_parts infoI
  obtain ⟨A, c, rfl⟩ : ∃ A c, v = .slice A P.length c := by obtain ⟨A, c, e, _⟩ := h; exact ⟨A, c, e⟩
  have H := Lib.hid h
  clear h
  go_enter Try.func20, Try.ntmps20
  go_wp2_with fail
  go_loopg [3, 5] 8 (fun g v3 v5 wr => ∃ (k : Nat) (vr : Value), vr = v3 ∧ v5 = .int .i64 k ∧ k ≤ 8 ∧ g = 8 - k ∧ wr.ownsRow w.heap.size 3 1 vr (freeK P k).length (intV (freeK P k)) ∧ Below w.heap.size w wr)
  case atStart => exact ⟨0, _, rfl, rfl, by omega, rfl, World.ownsRow_nil _ _ _ _, Below.refl _ _⟩
  case round =>
    obtain ⟨k, vr, rfl, rfl, hk, hg, ho, hb⟩ := hrel
    by_cases hk8 : 8 ≤ k
    · have hr := own_ints ho
      rw [show k = 8 by omega] at hr
      obtain ⟨A3, c3, rfl⟩ : ∃ A c, vr = .slice A (freeK P 8).length c := by obtain ⟨A, c, e, _⟩ := hr; exact ⟨A, c, e⟩
      have i1 : ¬ (k : Int) < 8 := by omega
      have FIN := Lib.hid (And.intro hr hb)
      clear hr hb ho hk hg hk8
      go_wp2_with fail
      go_ret
      exact ⟨_, _, rfl, FIN.out.1, FIN.out.2⟩
    · have i1 : (k : Int) < 8 := by omega
      have wk : IntKind.i64.wrap ((k : Int) + 1) = (k : Int) + 1 := IntWalk.i64_in _ (by omega)
      have cc := intcon_any wr _ P k (H.out.below hb)
      have nx : freeK P (k + 1) = if P.contains (k : Int) = true then freeK P k else freeK P k ++ [(k : Int)] := rfl
      have hl := freeK_len P k
      have KK := Lib.hid (And.intro hk8 hg)
      cases hq : P.contains (k : Int)
      · rw [hq] at cc nx
        rw [if_neg (by decide)] at nx
        have CC := Lib.hid cc
        have NX := Lib.hid (And.intro nx hb)
        have ON := Lib.hid ho
        have HL := Lib.hid hl
        clear cc nx hq hb hk8 hg ho hl
        go_wp2_with (first
          | (go_at_call 52; (with_reducible refine CC.out.mono ?_); rintro e w1 ⟨rfl, rfl⟩)
          | (at_builtin; refine wpList_append_own _ rfl _ _ 50 rfl w.heap.size 3 iI (.int .i64 0) 1 8 Try.underlying50 hiI zI0 zI1 zI2 rfl (by decide) _ _ _ rfl (ON.out.alloc _) ⟨wr.heap.size, 0, none⟩ 1 1 [.int .i64 k] rfl rfl ?c1 ?c2 ?c3 ?c4 ?c5 ?_))
        case c1 => exact (new_start (wo := wr) (x := #[.int .i64 (k : Int)]) (ty := 3) (Nat.zero_le _)).cells
        case c2 => intro u hu; simp at hu; rw [hu]; rfl
        case c3 => have := HL.out; unfold maxLen; omega
        case c4 => have := HL.out; omega
        case c5 => have := NX.out.2.size; simp; omega
        intro v' w8 hown' hgrow _
        have REL := Lib.hid (show w8.ownsRow w.heap.size 3 1 v' (freeK P (k + 1)).length (intV (freeK P (k + 1))) ∧ Below w.heap.size w w8 by
          rw [NX.out.1]
          refine ⟨?_, ((NX.out.2).alloc NX.out.2.size _).grown hgrow (by have := NX.out.2.size; simp; omega) (fun q hq => (ON.out.lt q hq).1)⟩
          rw [List.length_append, intV, List.map_append]
          exact hown')
        clear hown' hgrow
        go_wp2_with fail
        go_roundg (8 - (k + 1))
        case measure => have := KK.out; omega
        case rel => exact ⟨k + 1, _, rfl, by push_cast; rfl, by have := KK.out; omega, rfl, REL.out⟩
      · rw [hq] at cc nx
        rw [if_pos rfl] at nx
        have CC := Lib.hid cc
        have REL := Lib.hid (show wr.ownsRow w.heap.size 3 1 vr (freeK P (k + 1)).length (intV (freeK P (k + 1))) ∧ Below w.heap.size w wr by rw [nx]; exact ⟨ho, hb⟩)
        clear cc nx hq hb hk8 hg ho hl
        go_wp2_with (go_at_call 52; (with_reducible refine CC.out.mono ?_); rintro e w1 ⟨rfl, rfl⟩)
        go_roundg (8 - (k + 1))
        case measure => have := KK.out; omega
        case rel => exact ⟨k + 1, _, rfl, by push_cast; rfl, by have := KK.out; omega, rfl, REL.out⟩
end Go.Proofs.Ytkinbbhbencipaa

namespace Go.Proofs.Ytkinbbhbencipaa
open Go.RowKit Go.WideShapes Go.ChangeShapes Go.ChangeAt Go.Joins Go.Deep

theorem takeI_next {l m : List Int} {k : Nat} {x : Int} (h : l.take k = m.take k) (hx : l[k]? = some x) (hy : m[k]? = some x) : l.take (k + 1) = m.take (k + 1) := by
  rw [List.take_add_one, List.take_add_one, h, hx, hy]
theorem takeT_next {l m : List Trm} {k : Nat} {x : Trm} (h : l.take k = m.take k) (hx : l[k]? = some x) (hy : m[k]? = some x) : l.take (k + 1) = m.take (k + 1) := by
  rw [List.take_add_one, List.take_add_one, h, hx, hy]


abbrev SixC (w' : World) (ad ad' : Addr) (k : Nat) (x0 y0 : Value) (x1 x2 y1 y2 : Int) : Prop :=
  (w'.cell? (ad.add (k * 3)) = some x0 ∧ w'.cell? ⟨(ad.add (k * 3)).block, (ad.add (k * 3)).off + 1, none⟩ = some (.int .i64 x1) ∧ w'.cell? ⟨(ad.add (k * 3)).block, (ad.add (k * 3)).off + 2, none⟩ = some (.int .i64 x2)) ∧
  (w'.cell? (ad'.add (k * 3)) = some y0 ∧ w'.cell? ⟨(ad'.add (k * 3)).block, (ad'.add (k * 3)).off + 1, none⟩ = some (.int .i64 y1) ∧ w'.cell? ⟨(ad'.add (k * 3)).block, (ad'.add (k * 3)).off + 2, none⟩ = some (.int .i64 y2))
theorem hold_six {w wr w2 : World} {ad ad' : Addr} {k : Nat} {x0 y0 : Value} {x1 x2 y1 y2 : Int} {C : Prop} (CE : ∀ w', Below w.heap.size w w' → SixC w' ad ad' k x0 y0 x1 x2 y1 y2) (hb : Below wr.heap.size wr w2) (h : C ∧ Below w.heap.size w wr) : SixC w2 ad ad' k x0 y0 x1 x2 y1 y2 ∧ Below w.heap.size w w2 :=
  have b := h.2.trans (hb.mono h.2.size)
  ⟨CE w2 b, b⟩
theorem six_of {w wr : World} {C : Prop} (h : C ∧ Below w.heap.size w wr) : Below w.heap.size w wr := h.2


theorem termCells_inv : ∀ (l : List (Value × Trm)) (j : Nat) (u : Value), (termCells l)[j]? = some u → ∃ i x, l[i]? = some x ∧ ((j = i * 3 ∧ u = x.1) ∨ (j = i * 3 + 1 ∧ u = .int .i64 x.2.2.1) ∨ (j = i * 3 + 2 ∧ u = .int .i64 x.2.2.2))
  | [], j, u, h => by simp [termCells] at h
  | y :: r, 0, u, h => ⟨0, y, rfl, .inl ⟨rfl, by simpa [termCells] using h.symm⟩⟩
  | y :: r, 1, u, h => ⟨0, y, rfl, .inr (.inl ⟨rfl, by simpa [termCells] using h.symm⟩)⟩
  | y :: r, 2, u, h => ⟨0, y, rfl, .inr (.inr ⟨rfl, by simpa [termCells] using h.symm⟩)⟩
  | y :: r, j + 3, u, h => by
    obtain ⟨i, x, hx, hc⟩ := termCells_inv r j u (by simpa [termCells] using h)
    refine ⟨i + 1, x, by simpa using hx, ?_⟩
    rcases hc with ⟨rfl, rfl⟩ | ⟨rfl, rfl⟩ | ⟨rfl, rfl⟩
    · exact .inl ⟨by omega, rfl⟩
    · exact .inr (.inl ⟨by omega, rfl⟩)
    · exact .inr (.inr ⟨by omega, rfl⟩)

section
variable {H : Type} {enc : TypeId × Value → H} {w : World} {base : Nat} {spare : Nat → Bool} {held : Bool}
set_option maxRecDepth 10000 in
/-- Three cells that read as a term. -/
theorem open_tcells {fuel : Nat} {cs : List Value} {x : DataW H × List MemPlace} (hl : cs.length = 3) (h : DataW.trod enc Try.prog w base spare held fuel 27 cs = some x) :
    ∃ s l kn kd, cs = [s, .int .i64 kn, .int .i64 kd] ∧ RatsAt w s l ∧ Wide l ∧ (-9223372036854775808 ≤ kn ∧ kn ≤ 9223372036854775807) ∧ (-9223372036854775808 ≤ kd ∧ kd ≤ 9223372036854775807) := by
  have hA : Try.prog.cellsOf 23 = 1 := by kernel_rfl
  match cs, hl with
  | [c0, c1, c2], _ =>
    obtain ⟨xs, n, _, _, _, hlen, hg⟩ := DataW.trod_struct Try.underlying27 h
    match xs, hlen with
    | [y0, y1], _ =>
      have g0 := hg 0 _ rfl
      have g1 := hg 1 _ rfl
      simp [hA, Try.cellsRat] at g0 g1
      obtain ⟨l, hl, hw⟩ := open_rats g0
      obtain ⟨ys, n', _, _, _, hlen', hg'⟩ := DataW.trod_struct Try.underlying25 g1
      match ys, hlen' with
      | [z0, z1], _ =>
        have hI : Try.prog.cellsOf 2 = 1 := by kernel_rfl
        have k0 := hg' 0 _ rfl
        have k1 := hg' 1 _ rfl
        simp [hI] at k0 k1
        obtain ⟨n0, e0, _, w0⟩ := DataW.trod_int Try.underlying2 k0
        obtain ⟨n1, e1, _, w1⟩ := DataW.trod_int Try.underlying2 k1
        simp only [List.cons.injEq, and_true] at e0 e1
        subst e0 e1
        exact ⟨c0, l, n0, n1, rfl, hl, hw, wf_i64 w0, wf_i64 w1⟩

set_option maxRecDepth 10000 in
/-- A slice of terms among the arguments. -/
theorem open_terms {b0 : Nat} {r : Reach} {v : Value} {d : DataW H} {p : List MemPlace} (hv : Value.okWide Try.prog w r b0 47 v) (h : DataW.Trod enc Try.prog w base spare held 47 v d p) : ∃ ts, TermsAt w v ts ∧ ∀ t ∈ ts, Wide t.1 ∧ Bd t.2 := by
  obtain ⟨a, len, cap, rfl⟩ := okWide_slice Try.underlying47 hv
  obtain ⟨fuel, hf⟩ := h
  have hC : Try.prog.cellsOf 27 = 3 := by kernel_rfl
  rcases open_slice Try.underlying47 (by simpa [Value.cells] using hf) with ⟨hc, _⟩ | ⟨ad, len', cap', m, n, D, Pl, hc, hb, hl, hm, hmm, _, hi⟩
  · obtain ⟨rfl, rfl, rfl⟩ : a = none ∧ len = 0 ∧ cap = 0 := by simpa using hc
    exact ⟨[], TermsAt.nil w, fun x hx => by cases hx⟩
  · obtain ⟨rfl, rfl, rfl⟩ : a = some ad ∧ len = len' ∧ cap = cap' := by simpa using hc
    have hlm : len ≤ m := by rw [hmm]; split <;> omega
    rw [hC] at hi
    have each : ∀ i, i < len → ∃ q : Value × Trm, (w.cell? (ad.add (i * 3)) = some q.1 ∧ w.cell? (ad.add (i * 3 + 1)) = some (.int .i64 q.2.2.1) ∧ w.cell? (ad.add (i * 3 + 2)) = some (.int .i64 q.2.2.2)) ∧ RatsAt w q.1 q.2.1 ∧ Wide q.2.1 ∧ Bd q.2.2 := by
      intro i hil
      obtain ⟨cs', h1, h2⟩ := hi i (by omega)
      obtain ⟨_, hcl, hat⟩ := World.cells?_some h1
      obtain ⟨s, l, kn, kd, e, hr, hw, hn, hd⟩ := open_tcells hcl h2
      subst e
      have g0 := hat 0 (by omega)
      have g1 := hat 1 (by omega)
      have g2 := hat 2 (by omega)
      rw [add_of_add] at g0 g1 g2
      exact ⟨(s, l, kn, kd), ⟨g0, g1, g2⟩, hr, hw, hn, hd⟩
    obtain ⟨q, hq⟩ := choose_lt each
    have hlen : ((List.range len).map fun i => (q i).2).length = len := by simp
    refine ⟨(List.range len).map fun i => (q i).2, ⟨some ad, cap, (List.range len).map q, by rw [hlen], by rw [hlen]; exact hl, hm, by rw [List.map_map]; rfl, ?_, fun x hx => ?_⟩, fun t ht => ?_⟩
    · rw [hlen]
      refine ⟨by rw [termCells_length, List.length_map, List.length_range], fun hn => ⟨ad, rfl, ?_, fun j u hu => ?_⟩⟩
      · have := World.block_lt_of_cell? _ _ (hq 0 hn).1.1
        rwa [block_of_add] at this
      · obtain ⟨i, x, hx, hc⟩ := termCells_inv _ j u hu
        rw [List.getElem?_map] at hx
        have hil : i < len := by
          rcases Nat.lt_or_ge i len with g | g
          · exact g
          · rw [List.getElem?_eq_none (by simpa using g)] at hx; cases hx
        rw [List.getElem?_range hil] at hx
        obtain rfl : q i = x := by simpa using hx
        rcases hc with ⟨rfl, rfl⟩ | ⟨rfl, rfl⟩ | ⟨rfl, rfl⟩
        · exact (hq i hil).1.1
        · exact (hq i hil).1.2.1
        · exact (hq i hil).1.2.2
    · obtain ⟨i, hil, rfl⟩ := List.mem_map.1 hx
      exact (hq i (List.mem_range.1 hil)).2.1
    · obtain ⟨i, hil, rfl⟩ := List.mem_map.1 ht
      exact (hq i (List.mem_range.1 hil)).2.2
end
end Go.Proofs.Ytkinbbhbencipaa

namespace Go.Proofs.Ytkinbbhbencipaa
open Go.RowKit

theorem solve_first : solveT [([(1, 1), (1, 1)], -1, 1), ([(1, 1), (-1, 1)], 0, 1)] = (([([(1, 1)], -1, 2), ([(0, 1), (1, 1)], -1, 2)], [0, 1]), 0) := by decide +kernel
theorem solve_second : solveT [([], 1, 1)] = (([], []), 1) := by decide +kernel
theorem free_two : freeK [0, 1] 8 = [2, 3, 4, 5, 6, 7] := by decide +kernel

theorem rats_block {w : World} {b : Nat} {cs : Array Value} {ty : TypeId} {l : List (Int × Int)} (h : w.heap[b]? = some (.cells cs ty (0, 0))) (e : cs.toList = ratCells l) (hl : l.length ≤ maxLen) : RatsAt w (.slice (some ⟨b, 0, none⟩) l.length l.length) l := by
  refine ⟨some ⟨b, 0, none⟩, l.length, rfl, Nat.le_refl _, hl, by rw [ratCells_length], fun _ => ⟨_, rfl, (Array.getElem?_eq_some_iff.1 h).1, fun j u hu => ?_⟩⟩
  rw [Addr.add_lit, Nat.zero_add, cell_of_row w b j cs ty (0, 0) h]
  rw [← e] at hu
  simpa using hu
theorem terms_block {w : World} {b : Nat} {cs : Array Value} {ty : TypeId} {rs : List (Value × Trm)} {ts : List Trm} {n : Nat} (h : w.heap[b]? = some (.cells cs ty (0, 0))) (e : cs.toList = termCells rs) (hn : ts.length = n) (hl : n ≤ maxLen) (hm : rs.map (·.2) = ts) (hr : ∀ x ∈ rs, RatsAt w x.1 x.2.1) : TermsAt w (.slice (some ⟨b, 0, none⟩) n n) ts := by
  subst hn
  have el : rs.length = ts.length := by rw [← hm, List.length_map]
  refine ⟨some ⟨b, 0, none⟩, ts.length, rs, rfl, Nat.le_refl _, hl, hm, ⟨by rw [termCells_length, el], fun _ => ⟨_, rfl, (Array.getElem?_eq_some_iff.1 h).1, fun j u hu => ?_⟩⟩, hr⟩
  rw [Addr.add_lit, Nat.zero_add, cell_of_row w b j cs ty (0, 0) h]
  rw [← e] at hu
  simpa using hu

/-- What Solve answers at a known list. -/
theorem gsolve_at {w : World} {v : Value} {ts : List Trm} {a : List Trm} {p : List Int} {z : Int} {n m : Nat} (h : TermsAt w v ts) (hw : ∀ t ∈ ts, Wide t.1 ∧ Bd t.2) (e : solveT ts = ((a, p), z)) (hn : a.length = n) (hm : p.length = m) :
    Calls Try.prog 17 #[v] w fun r w' => ∃ A c B d, r = .returned (.tuple #[.slice A n c, .slice B m d, .int .i64 z]) ∧ TermsAt w' (.slice A n c) a ∧ IntsAt w' (.slice B m d) p ∧ Below w.heap.size w w' := by
  have := gsolve_any w v ts h hw
  rw [e] at this
  subst hn hm
  exact this

theorem new_at {w : World} {o : Obj} {b : Nat} (h : w.heap.size = b) : (w.alloc o).heap[b]? = some o := by rw [← h]; exact heap_alloc_new w o
theorem old_at {w : World} {o u : Obj} {b : Nat} (h : w.heap[b]? = some u) : (w.alloc o).heap[b]? = some u := (Below.heap_alloc w o b (Array.getElem?_eq_some_iff.1 h).1).trans h

theorem awake_world (w : World) : ∃ W5, W5 = ((((w.alloc (.cells #[.int .i64 1, .int .i64 1] 25)).alloc (.cells #[.int .i64 (-1), .int .i64 1] 25)).alloc (.cells #[.int .i64 1, .int .i64 1, .int .i64 1, .int .i64 1] 25)).alloc (.cells #[.int .i64 1, .int .i64 1, .int .i64 (-1), .int .i64 1] 25)).alloc
      (.cells #[.slice (some ⟨w.heap.size + 1 + 1, 0, none⟩) 2 2, .int .i64 (-1), .int .i64 1, .slice (some ⟨w.heap.size + 1 + 1 + 1, 0, none⟩) 2 2, .int .i64 0, .int .i64 1] 27) ∧
    TermsAt W5 (.slice (some ⟨w.heap.size + 1 + 1 + 1 + 1, 0, none⟩) 2 2) [([(1, 1), (1, 1)], -1, 1), ([(1, 1), (-1, 1)], 0, 1)] ∧ W5.cell? ⟨w.heap.size, 0, none⟩ = some (.int .i64 1) ∧ W5.cell? ⟨w.heap.size, 1, none⟩ = some (.int .i64 1) ∧ Below w.heap.size w W5 := by
  refine ⟨_, rfl, ?_, ?_, ?_, ?_⟩
  · refine terms_block (rs := [(.slice (some ⟨w.heap.size + 1 + 1, 0, none⟩) 2 2, [(1, 1), (1, 1)], -1, 1), (.slice (some ⟨w.heap.size + 1 + 1 + 1, 0, none⟩) 2 2, [(1, 1), (-1, 1)], 0, 1)]) (new_at (by simp)) rfl rfl (by decide) rfl (fun x hx => ?_)
    simp only [List.mem_cons, List.not_mem_nil, or_false] at hx
    rcases hx with rfl | rfl
    · exact rats_block (l := [(1, 1), (1, 1)]) (old_at (old_at (new_at (by simp)))) rfl (by decide)
    · exact rats_block (l := [(1, 1), (-1, 1)]) (old_at (new_at (by simp))) rfl (by decide)
  · go_simp
  · go_simp
  · exact (((((Below.refl _ w).alloc (Nat.le_refl _) _).alloc (by simp) _).alloc (by simp; omega) _).alloc (by simp; omega) _).alloc (by simp; omega) _

theorem wide_list {ts : List Trm} (h : ts.all (fun t => t.1.all (fun x => decide (Bd x)) && decide (Bd t.2)) = true) : ∀ t ∈ ts, Wide t.1 ∧ Bd t.2 := by
  intro t ht
  have := List.all_eq_true.1 h t ht
  rw [Bool.and_eq_true] at this
  exact ⟨fun x hx => of_decide_eq_true (List.all_eq_true.1 this.1 x hx), of_decide_eq_true this.2⟩

end Go.Proofs.Ytkinbbhbencipaa
