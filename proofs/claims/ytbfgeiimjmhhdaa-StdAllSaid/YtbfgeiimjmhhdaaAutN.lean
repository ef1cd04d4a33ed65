/-
  What package auto's copied keeps while it runs. (Template: by-name.py fills it.)
-/
import Derived.Test.YtbfgeiimjmhhdaaAutM
import Derived.Deep.RegionWith
import Derived.Deep.CutRange
namespace Go.Proofs.Ytbfgeiimjmhhdaa
open Go.RowKit

def cellD (w : World) (a : Addr) : Value := (w.cell? a).getD undef
theorem cellD_of {w : World} {a : Addr} {v : Value} (h : w.cell? a = some v) : w.cell? a = some (cellD w a) := by
  unfold cellD; rw [h]; rfl
theorem cell?_setCell_some {w1 : World} {p q : Addr} {x v : Value} (h : w1.cell? q = some v) : ∃ v', (w1.setCell p x).cell? q = some v' := by
  by_cases e : q = p
  · subst e; exact ⟨x, World.cell?_setCell_same _ _ _ h⟩
  · exact ⟨v, (World.cell?_setCell_other _ _ _ _ (fun q => e q.symm)).trans h⟩
theorem cellD_set {w1 : World} {p q : Addr} {x v : Value} (h : w1.cell? q = some v) : (w1.setCell p x).cell? q = some (cellD (w1.setCell p x) q) := by
  obtain ⟨v', h'⟩ := cell?_setCell_some (p := p) (x := x) h
  exact cellD_of h'
theorem keep_any {w1 w2 : World} {p : Addr} {x : Value} (hb : Below w1.heap.size w1 w2) (h : w1.cell? p = some x) : w2.cell? p = some x := (hb.cell (World.block_lt_of_cell? _ _ h)).trans h
def Stab (P : World → Prop) : Prop := ∀ w1 w2 : World, Below w1.heap.size w1 w2 → P w1 → P w2
theorem stab_cell (p : Addr) (x : Value) : Stab fun w => w.cell? p = some x := fun _ _ hb h => keep_any hb h
theorem stab_and {P Q : World → Prop} (hp : Stab P) (hq : Stab Q) : Stab fun w => P w ∧ Q w := fun _ _ hb h => ⟨hp _ _ hb h.1, hq _ _ hb h.2⟩
theorem stab_below (wq : World) : Stab fun w => Below wq.heap.size wq w := fun _ _ hb h => h.trans (hb.mono h.size)
theorem stab2 {P : World → Prop} (hp : Stab P) {wo : World} {o : Obj} (h : P wo.drew) : P (wo.alloc o).drew := hp _ _ (below_alloc1 wo.drew o) h
/-- A block that may be written, with its type and all its cells. -/
def TBlk (w : World) (b : Nat) (ty : TypeId) (cs : Array Value) : Prop := w.heap[b]? = some (.cells cs ty (0, 0))
theorem TBlk.blk {w : World} {b : Nat} {ty : TypeId} {cs : Array Value} (h : TBlk w b ty cs) : Blk w b cs := ⟨ty, h⟩
theorem TBlk.start (w : World) (cs : Array Value) (ty : TypeId) : TBlk (w.alloc (.cells cs ty)) w.heap.size ty cs := heap_alloc_new _ _
theorem TBlk.lt {w : World} {b : Nat} {ty : TypeId} {cs : Array Value} (h : TBlk w b ty cs) : b < w.heap.size := h.blk.lt
theorem TBlk.keep {w w' : World} {b : Nat} {ty : TypeId} {cs : Array Value} (h : TBlk w b ty cs) (hb : Below w.heap.size w w') : TBlk w' b ty cs := (hb.block b h.lt).trans h
theorem TBlk.set {w : World} {b : Nat} {ty : TypeId} {cs : Array Value} (h : TBlk w b ty cs) (i : Nat) (v : Value) : TBlk (w.setCell ⟨b, i, none⟩ v) b ty (cs.setIfInBounds i v) := by
  have hlt := h.lt
  have h' : w.heap[b] = .cells cs ty (0, 0) := by
    unfold TBlk at h
    simpa [Array.getElem?_eq_getElem hlt] using h
  show (w.heap.modify b _)[b]? = _
  rw [Array.getElem?_eq_getElem (by simpa using hlt), Array.getElem_modify_self, h']
  rfl
/-- A row of elements of another type lies in another block. -/
theorem TBlk.off {w : World} {b base n size : Nat} {ty e : TypeId} {cs : Array Value} {v : Value} {xs : List Value} (h : TBlk w b ty cs) (ho : w.ownsRow base e size v n xs) (hne : ty ≠ e) : v.ownBlock ≠ some b := by
  rcases ho.2 with ⟨rfl, _⟩ | ⟨g, cap, cur, rfl, _, hg, _⟩
  · intro q; cases q
  · intro q
    injection q with q
    dsimp only at q
    subst q
    unfold TBlk at h
    rw [hg] at h
    injection h with h
    injection h with _ h _
    exact hne h.symm
theorem own_apart {w : World} {base base' n n' size size' : Nat} {e e' : TypeId} {v v' : Value} {xs xs' : List Value} (h : w.ownsRow base e size v n xs) (h' : w.ownsRow base' e' size' v' n' xs') (hne : e ≠ e') : ∀ b, v.ownBlock = some b → v'.ownBlock ≠ some b := by
  intro b hb
  rcases h.2 with ⟨rfl, _⟩ | ⟨g, cap, cur, rfl, _, hg, _⟩
  · cases hb
  · injection hb with hb
    dsimp only at hb
    subst hb
    exact TBlk.off (ty := e) (cs := cur) hg h' hne
/-- The room for the copy, made since wA. -/
structure HoleP (wA wr : World) (c : Nat) : Prop where
  b : TBlk wr c 30 #[.string ⟨#[]⟩, .slice none 0 0, .slice none 0 0]
  below : Below wA.heap.size wA wr
  ge : wA.heap.size ≤ c
theorem HoleP.start (wA : World) : HoleP wA (wA.alloc (.cells #[.string ⟨#[]⟩, .slice none 0 0, .slice none 0 0] 30)) wA.heap.size := ⟨TBlk.start _ _ _, below_alloc1 _ _, Nat.le_refl _⟩
theorem HoleP.keep {wA wr w2 : World} {c : Nat} (h : HoleP wA wr c) (hb : Below wr.heap.size wr w2) : HoleP wA w2 c := ⟨h.b.keep hb, h.below.trans (hb.mono h.below.size), h.ge⟩
theorem holeP_of {A : Prop} {W wA : World} (_ : A ∧ Below W.heap.size W (wA.alloc (.cells #[.string ⟨#[]⟩, .slice none 0 0, .slice none 0 0] 30))) : HoleP wA (wA.alloc (.cells #[.string ⟨#[]⟩, .slice none 0 0, .slice none 0 0] 30)) wA.heap.size := HoleP.start wA
theorem holeP_of2 {A : Prop} {W wA : World} (_ : A ∧ Below W.heap.size W (wA.alloc (.cells #[.string ⟨#[]⟩, .slice none 0 0, .slice none 0 0] 30)).drew) : HoleP wA.drew (wA.alloc (.cells #[.string ⟨#[]⟩, .slice none 0 0, .slice none 0 0] 30)).drew wA.heap.size := HoleP.start wA.drew
theorem HoleP.fill {wA wr : World} {c : Nat} (h : HoleP wA wr c) (x y z : Value) : Below wA.heap.size wA (((wr.setCell ⟨c, 0, none⟩ x).setCell ⟨c, 1, none⟩ y).setCell ⟨c, 2, none⟩ z) := ((h.below.setCell h.ge _).setCell h.ge _).setCell h.ge _
theorem HoleP.cells {wA wr : World} {c : Nat} (h : HoleP wA wr c) : wr.cell? ⟨c, 0, none⟩ = some (.string ⟨#[]⟩) ∧ wr.cell? ⟨c, 1, none⟩ = some (.slice none 0 0) ∧ wr.cell? ⟨c, 2, none⟩ = some (.slice none 0 0) ∧ wr.frozen? ⟨c, 0, none⟩ = false ∧ wr.frozen? ⟨c, 1, none⟩ = false ∧ wr.frozen? ⟨c, 2, none⟩ = false :=
  ⟨h.b.blk.cell 0, h.b.blk.cell 1, h.b.blk.cell 2, h.b.blk.free 0, h.b.blk.free 1, h.b.blk.free 2⟩
/-- The copy's box, its two rows. -/
structure CopS (w0 wr : World) (c : Nat) (vs vm : Value) (nm : List UInt8) (ss : List Sta) (rs : List (Value × Mov)) : Prop where
  box : TBlk wr c 30 #[txt nm, vs, vm]
  st : wr.ownsRow w0.heap.size 33 2 vs ss.length (rowC stC ss)
  mv : wr.ownsRow w0.heap.size 38 3 vm rs.length (rowC mvC rs)
  below : Below w0.heap.size w0 wr
  ge : w0.heap.size ≤ c
def CopMid (w0 : World) (nm : List UInt8) (ss : List Sta) (rs : List (Value × Mov)) (v3 : Value) (wx : World) : Prop :=
  ∃ c vs vm, v3 = .pointer (some ⟨c, 0, none⟩) ∧ CopS w0 wx c vs vm nm ss rs
/-- A cell that may be written. -/
def Room (a : Addr) (w : World) : Prop := w.cell? a = some (cellD w a) ∧ w.frozen? a = false
theorem stab_room (a : Addr) : Stab fun w => w.cell? a = some (cellD w a) ∧ w.frozen? a = false := fun _ _ hb h => ⟨cellD_of (keep_any hb h.1), (hb.frozen (World.block_lt_of_cell? _ _ h.1)).trans h.2⟩
theorem room_set {w : World} {a q : Addr} {x : Value} (h : w.cell? a = some (cellD w a) ∧ w.frozen? a = false) : (w.setCell q x).cell? a = some (cellD (w.setCell q x) a) ∧ (w.setCell q x).frozen? a = false := ⟨cellD_set h.1, (World.frozen?_setCell _ _ _ _).trans h.2⟩
theorem cell_off {w : World} {a q : Addr} {x v : Value} (hne : a.block ≠ q.block) (h : w.cell? a = some v) : (w.setCell q x).cell? a = some v := (World.cell?_setCell_other _ _ _ _ (fun e => hne (by rw [e]))).trans h
theorem TBlk.other {w : World} {b : Nat} {ty : TypeId} {cs : Array Value} (h : TBlk w b ty cs) {p : Addr} (hp : p.block ≠ b) (v : Value) : TBlk (w.setCell p v) b ty cs := (heap_setCell_other w p b v (fun e => hp e.symm)).trans h
section
variable {w0 wA wr : World} {c : Nat} {vs vm : Value} {nm : List UInt8} {ss : List Sta} {rs : List (Value × Mov)}
theorem CopS.keep {w2 : World} (h : CopS w0 wr c vs vm nm ss rs) (hb : Below wr.heap.size wr w2) : CopS w0 w2 c vs vm nm ss rs := ⟨h.box.keep hb, ownRow_below h.st hb, ownRow_below h.mv hb, h.below.trans (hb.mono h.below.size), h.ge⟩
theorem cop_alloc (h0 : Below w0.heap.size w0 wA) (hs : wA.ownsRow w0.heap.size 33 2 vs ss.length (rowC stC ss)) (hm : wA.ownsRow w0.heap.size 38 3 vm rs.length (rowC mvC rs)) :
    CopMid w0 nm ss rs (.pointer (some ⟨wA.heap.size, 0, none⟩)) (wA.alloc (.cells #[txt nm, vs, vm] 30)) :=
  have a := below_alloc1 wA (.cells #[txt nm, vs, vm] 30)
  ⟨_, _, _, rfl, TBlk.start _ _ _, ownRow_below hs a, ownRow_below hm a, h0.trans (a.mono h0.size), h0.size⟩
theorem own_past {w : World} {base n size g j : Nat} {e : TypeId} {v u : Value} {xs : List Value} (h : w.ownsRow base e size v n xs) (hg : v.ownBlock ≠ some g) : (w.setCell ⟨g, j, none⟩ u).ownsRow base e size v n xs :=
  h.kept (row := some g) grown_set (.inr hg)
theorem cop_fill (h0 : Below w0.heap.size w0 wA) (hc : HoleP wA wr c) (hs : wr.ownsRow w0.heap.size 33 2 vs ss.length (rowC stC ss)) (hm : wr.ownsRow w0.heap.size 38 3 vm rs.length (rowC mvC rs)) :
    CopMid w0 nm ss rs (.pointer (some ⟨c, 0, none⟩)) (((wr.setCell ⟨c, 0, none⟩ (txt nm)).setCell ⟨c, 1, none⟩ vs).setCell ⟨c, 2, none⟩ vm) := by
  have o1 := hc.b.off hs (by decide)
  have o2 := hc.b.off hm (by decide)
  have ge := Nat.le_trans h0.size hc.ge
  refine ⟨_, _, _, rfl, ?_, own_past (own_past (own_past hs o1) o1) o1, own_past (own_past (own_past hm o2) o2) o2, (((h0.trans (hc.below.mono h0.size)).setCell ge _).setCell ge _).setCell ge _, ge⟩
  have := ((hc.b.set 0 (txt nm)).set 1 vs).set 2 vm
  simpa using this
/-- A state's cell is stored anew with what it holds. -/
theorem CopS.same {n cp g j : Nat} {u : Value} (h : CopS w0 wr c (.slice (some ⟨g, 0, none⟩) n cp) vm nm ss rs) (hn : n = ss.length) (hq : (rowC stC ss)[j]? = some u) : CopS w0 (wr.setCell ⟨g, j, none⟩ u) c (.slice (some ⟨g, 0, none⟩) n cp) vm nm ss rs := by
  subst hn
  have o1 : g ≠ c := fun e => h.box.off h.st (by decide) (by rw [e]; rfl)
  have o2 := own_apart h.st h.mv (by decide) g rfl
  have := (World.ownsRow.stored h.st j u).1
  rw [set_same hq] at this
  exact ⟨h.box.other o1 _, this, own_past h.mv o2, h.below.setCell (h.st.lt g rfl).1 _, h.ge⟩
theorem rowC_set {rs : List (Value × Mov)} {j : Nat} {x : Value × Mov} (h : rs[j]? = some x) (y : Value) : rowC mvC (rs.set j (y, x.2)) = (rowC mvC rs).set (j * 3 + 2) y := by
  induction rs generalizing j with
  | nil => cases h
  | cons z r ih =>
    cases j with
    | zero =>
      obtain rfl : z = x := by simpa using h
      rfl
    | succ j =>
      rw [List.getElem?_cons_succ] at h
      rw [List.set_cons_succ, rowC, rowC, ih h]
      have e : (j + 1) * 3 + 2 = (mvC z).length + (j * 3 + 2) := by rw [mvC_len]; omega
      rw [e, List.set_append_right _ _ (by omega), Nat.add_sub_cancel_left]
/-- How far the moves' outcomes are copied. -/
structure MvS (w0 wr : World) (c : Nat) (vs vm : Value) (nm : List UInt8) (ss : List Sta) (r0 rs : List (Value × Mov)) (j : Nat) : Prop where
  cop : CopS w0 wr c vs vm nm ss rs
  done : ∀ i x, rs[i]? = some x → i < j → OutsOwn wr w0.heap.size x.1 x.2.outs
  rest : ∀ i, j ≤ i → rs[i]? = r0[i]?
  all : rs.map (·.2) = r0.map (·.2)
theorem MvS.keep {w2 : World} {r0 : List (Value × Mov)} {j : Nat} (h : MvS w0 wr c vs vm nm ss r0 rs j) (hb : Below wr.heap.size wr w2) : MvS w0 w2 c vs vm nm ss r0 rs j :=
  ⟨h.cop.keep hb, fun i x hx hi => ownRow_below (h.done i x hx hi) hb, h.rest, h.all⟩
theorem MvS.step {r0 : List (Value × Mov)} {g n cp j : Nat} {x : Value × Mov} {y : Value} (h : MvS w0 wr c vs (.slice (some ⟨g, 0, none⟩) n cp) nm ss r0 rs j) (hn : n = rs.length) (hx : rs[j]? = some x) (hy : OutsOwn wr w0.heap.size y x.2.outs) :
    MvS w0 ((wr.setCell ⟨g, j * 3, none⟩ (txt x.2.op)).setCell ⟨g, j * 3 + 2, none⟩ y) c vs (.slice (some ⟨g, 0, none⟩) n cp) nm ss r0 (rs.set j (y, x.2)) (j + 1) := by
  subst hn
  have hj := (List.getElem?_eq_some_iff.1 hx).1
  have o1 : g ≠ c := fun e => h.cop.box.off h.cop.mv (by decide) (by rw [e]; rfl)
  have o2 : vs.ownBlock ≠ some g := fun e => own_apart h.cop.st h.cop.mv (by decide) g e rfl
  have o3 : ∀ {v : Value} {os : List Ou}, OutsOwn wr w0.heap.size v os → v.ownBlock ≠ some g := fun hv e => own_apart hv h.cop.mv (by decide) g e rfl
  have ge := (h.cop.mv.lt g rfl).1
  have s1 := (World.ownsRow.stored h.cop.mv (j * 3) (txt x.2.op)).1
  rw [set_same (rowC_move hx).1] at s1
  have s2 := (World.ownsRow.stored s1 (j * 3 + 2) y).1
  rw [← rowC_set hx y] at s2
  refine ⟨⟨(h.cop.box.other o1 _).other o1 _, own_past (own_past h.cop.st o2) o2, by rw [List.length_set]; exact s2, (h.cop.below.setCell ge _).setCell ge _, h.cop.ge⟩, ?_, ?_, ?_⟩
  · intro i z hz hi
    by_cases e : j = i
    · subst e
      rw [List.getElem?_set_self hj] at hz
      obtain rfl := Option.some.inj hz
      exact own_past (own_past hy (o3 hy)) (o3 hy)
    · rw [List.getElem?_set_ne e] at hz
      have := h.done i z hz (by omega)
      exact own_past (own_past this (o3 this)) (o3 this)
  · intro i hi
    rw [List.getElem?_set_ne (by omega)]
    exact h.rest i (by omega)
  · rw [List.map_set, ← h.all]
    exact set_same (by rw [List.getElem?_map, hx]; rfl)
theorem MvS.len {r0 : List (Value × Mov)} {j : Nat} (h : MvS w0 wr c vs vm nm ss r0 rs j) : rs.length = r0.length := by have := congrArg List.length h.all; rwa [List.length_map, List.length_map] at this
end
theorem info_Proto : (Try.prog.info? 30).map (fun i => (i.zero, i.size, i.bytes)) = some (some (.agg #[.string ⟨#[]⟩, .slice none 0 0, .slice none 0 0]), 3, 64) := by kernel_rfl
/-- A protocol whose rows lie in memory from B on. -/
def ProOwn (w : World) (B : Nat) (vs vm : Value) (p : Pro) : Prop :=
  ∃ rs : List (Value × Mov), rs.map (·.2) = p.moves ∧ w.ownsRow B 33 2 vs p.states.length (rowC stC p.states) ∧ w.ownsRow B 38 3 vm rs.length (rowC mvC rs) ∧ ∀ x ∈ rs, OutsOwn w B x.1 x.2.outs
/-- No name is too long to be one. -/
structure LenP (p : Pro) : Prop where
  name : p.name.length ≤ maxLen
  ns : ∀ s ∈ p.states, s.name.length ≤ maxLen
  no : ∀ m ∈ p.moves, m.op.length ≤ maxLen ∧ ∀ o ∈ m.outs, o.name.length ≤ maxLen
theorem ProOwn.pro {w : World} {B : Nat} {vs vm : Value} {p : Pro} (h : ProOwn w B vs vm p) (hl : LenP p) : ProAt w vs vm p := by
  obtain ⟨rs, hm, s1, s2, s3⟩ := h
  refine ⟨hl.name, ?_, ?_⟩
  · obtain ⟨A, cc, rfl⟩ := own_shape s1
    obtain ⟨a, b', d⟩ := reads_own s1
    exact ⟨A, cc, rfl, a, b', d, hl.ns⟩
  · obtain ⟨A, cc, rfl⟩ := own_shape s2
    obtain ⟨a, b', d⟩ := reads_own s2
    refine ⟨rs, hm, A, cc, rfl, a, b', d, fun x hx => ?_⟩
    have hmem : x.2 ∈ p.moves := by rw [← hm]; exact List.mem_map.2 ⟨x, hx, rfl⟩
    exact ⟨(hl.no x.2 hmem).1, OutsOwn.outs (s3 x hx) (hl.no x.2 hmem).2⟩
theorem ProOwn.set {w : World} {B b i : Nat} {u : Value} {vs vm : Value} {p : Pro} (h : ProOwn w B vs vm p) (hb : b < B) : ProOwn (w.setCell ⟨b, i, none⟩ u) B vs vm p := by
  obtain ⟨rs, hm, s1, s2, s3⟩ := h
  exact ⟨rs, hm, ownRow_set s1 hb, ownRow_set s2 hb, fun x hx => ownRow_set (s3 x hx) hb⟩
/-- The copy is a protocol in memory. -/
theorem MvS.out {w w0 wr : World} {c b j : Nat} {vs vm : Value} {p : Pro} {r0 rs : List (Value × Mov)} {x0 x1 x2 : Value} (h : MvS w0 wr c vs vm p.name p.states r0 rs j) (hw : Below w.heap.size w wr) (h0 : w.heap.size ≤ w0.heap.size) (hj : r0.length ≤ j) (hm : r0.map (·.2) = p.moves)
    (hB : TBlk wr b 30 #[x0, x1, x2]) (hb : w.heap.size ≤ b) :
    TBlk (((wr.setCell ⟨b, 0, none⟩ (txt p.name)).setCell ⟨b, 1, none⟩ vs).setCell ⟨b, 2, none⟩ vm) b 30 #[txt p.name, vs, vm] ∧
    ProOwn (((wr.setCell ⟨b, 0, none⟩ (txt p.name)).setCell ⟨b, 1, none⟩ vs).setCell ⟨b, 2, none⟩ vm) w.heap.size vs vm p ∧
    Below w.heap.size w (((wr.setCell ⟨b, 0, none⟩ (txt p.name)).setCell ⟨b, 1, none⟩ vs).setCell ⟨b, 2, none⟩ vm) := by
  have o1 := hB.off h.cop.st (by decide)
  have o2 := hB.off h.cop.mv (by decide)
  refine ⟨?_, ⟨rs, h.all.trans hm, ownRow_less (own_past (own_past (own_past h.cop.st o1) o1) o1) h0, ownRow_less (own_past (own_past (own_past h.cop.mv o2) o2) o2) h0, fun x hx => ?_⟩, ((hw.setCell hb _).setCell hb _).setCell hb _⟩
  · have := ((hB.set 0 (txt p.name)).set 1 vs).set 2 vm
    simpa using this
  · obtain ⟨i, hi⟩ := List.mem_iff_getElem?.1 hx
    have hl := (List.getElem?_eq_some_iff.1 hi).1
    have ho := h.done i x hi (by have := h.len; omega)
    have oo := hB.off ho (by decide)
    exact ownRow_less (own_past (own_past (own_past ho oo) oo) oo) h0
/-- What the second loop's round reads and writes. -/
theorem hold_mv {v : World} {c b g i j j' : Nat} {x y z u : Value} (hne : c ≠ g ∧ b ≠ g)
    (h : (((v.cell? ⟨c, 2, none⟩ = some x ∧ v.cell? ⟨b, 0, none⟩ = some y) ∧ v.cell? ⟨b, 2, none⟩ = some z) ∧ (v.cell? ⟨g, j, none⟩ = some (cellD v ⟨g, j, none⟩) ∧ v.frozen? ⟨g, j, none⟩ = false)) ∧ (v.cell? ⟨g, j', none⟩ = some (cellD v ⟨g, j', none⟩) ∧ v.frozen? ⟨g, j', none⟩ = false)) :
    ((((v.setCell ⟨g, i, none⟩ u).cell? ⟨c, 2, none⟩ = some x ∧ (v.setCell ⟨g, i, none⟩ u).cell? ⟨b, 0, none⟩ = some y) ∧ (v.setCell ⟨g, i, none⟩ u).cell? ⟨b, 2, none⟩ = some z) ∧ ((v.setCell ⟨g, i, none⟩ u).cell? ⟨g, j, none⟩ = some (cellD (v.setCell ⟨g, i, none⟩ u) ⟨g, j, none⟩) ∧ (v.setCell ⟨g, i, none⟩ u).frozen? ⟨g, j, none⟩ = false)) ∧ ((v.setCell ⟨g, i, none⟩ u).cell? ⟨g, j', none⟩ = some (cellD (v.setCell ⟨g, i, none⟩ u) ⟨g, j', none⟩) ∧ (v.setCell ⟨g, i, none⟩ u).frozen? ⟨g, j', none⟩ = false) :=
  ⟨⟨⟨⟨cell_off hne.1 h.1.1.1.1, cell_off hne.2 h.1.1.1.2⟩, cell_off hne.2 h.1.1.2⟩, room_set h.1.2⟩, room_set h.2⟩
end Go.Proofs.Ytbfgeiimjmhhdaa
