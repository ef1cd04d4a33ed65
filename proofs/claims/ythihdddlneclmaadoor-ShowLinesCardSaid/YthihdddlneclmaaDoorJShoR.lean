/-
  The printer beside the box of a node: what holds from call to call. (Template: by-name.py fills it.)
-/
import Derived.Test.YthihdddlneclmaaDoorJShoQ
namespace Go.Proofs.YthihdddlneclmaaDoor
open Go.RowKit

/-- The printer and the box of a node, in a call that began at w. -/
structure Nw (w0 w wi : World) (bp b : Nat) (t : Txt) (dp : Nat) (vn : Value) (cs : Array Value) : Prop where
  p : PrS w0 wi bp t dp vn
  k : TBlk wi b 30 cs
  f : Fr w wi bp
theorem Nw.start {w0 w : World} {bp dp : Nat} {t : Txt} {vn : Value} (cs : Array Value) (h : PrS w0 w bp t dp vn) : Nw w0 w (w.alloc (.cells cs 30)) bp w.heap.size t dp vn cs :=
  ⟨h.keep (below_alloc1 w _), TBlk.start w cs _, Fr.of_below bp (below_alloc1 w _)⟩
theorem Nw.next {w0 w wi w' : World} {bp b dp d2 : Nat} {t t2 : Txt} {vn : Value} {cs : Array Value} (h : Nw w0 w wi bp b t dp vn cs) (hp : PrS w0 w' bp t2 d2 vn) (hf : Fr wi w' bp) : Nw w0 w w' bp b t2 d2 vn cs :=
  ⟨hp, hf.at_ _ _ _ (nd_off h.p h.k) (by decide) h.k, h.f.trans hf⟩
theorem Nw.below {w0 w wi w' : World} {bp b dp : Nat} {t : Txt} {vn : Value} {cs : Array Value} (h : Nw w0 w wi bp b t dp vn cs) (hb : Below wi.heap.size wi w') : Nw w0 w w' bp b t dp vn cs :=
  ⟨h.p.keep hb, h.k.keep hb, h.f.trans (Fr.of_below bp hb)⟩
theorem Nw.drew {w0 w wi : World} {bp b dp : Nat} {t : Txt} {vn : Value} {cs : Array Value} (h : Nw w0 w wi bp b t dp vn cs) : Nw w0 w wi.drew bp b t dp vn cs := h.below (below_drw wi)
theorem word_at {w0 W : World} {a : Addr} {n k : Nat} {l : List Txt} {x : Txt} (h4 : Reads w0 w0.heap.size 1 (some a) n (l.map txt)) (hb : Below w0.heap.size w0 W) (hx : l[k]? = some x) (hn : k < n) : W.cell? (a.add k) = some (txt x) := by
  obtain ⟨ad, e, c⟩ := strs_at h4 hb hx (by omega)
  injection e with e
  subst e
  exact c
theorem num_at {w0 W : World} {a : Addr} {n k : Nat} {l : List Int} {x : Int} (h4 : Reads w0 w0.heap.size 1 (some a) n (l.map (Value.int .i64))) (hb : Below w0.heap.size w0 W) (hx : l[k]? = some x) (hn : k < n) : W.cell? (a.add k) = some (.int .i64 x) := by
  obtain ⟨ad, e, c⟩ := ints_at h4 hb hx (by omega)
  injection e with e
  subst e
  exact c
theorem enters_outcome : Enters 69 := enters_of Tryd.func69 (by kernel_rfl) rfl
theorem enters_arg : Enters 70 := enters_of Tryd.func70 (by kernel_rfl) rfl
theorem enters_param : Enters 19 := enters_of Tryd.func19 (by kernel_rfl) rfl
theorem enters_part : Enters 17 := enters_of Tryd.func17 (by kernel_rfl) rfl
theorem enters_item : Enters 9 := enters_of Tryd.func9 (by kernel_rfl) rfl
end Go.Proofs.YthihdddlneclmaaDoor
