/-
  A permission as an argument. (Template: by-name.py fills it.)
-/
import Derived.Test.YthlogaenbnhobaaDoorPmA
import Derived.Test.YthlogaenbnhobaaDoorOpens
import Derived.OpenShut
namespace Go.Proofs.YthlogaenbnhobaaDoor
open Go.RowKit Go.WideShapes Go.ChangeShapes Go.ChangeAt Go.Joins

section
variable {H : Type} {enc : TypeId × Value → H} {w : World} {base : Nat} {spare : Nat → Bool} {held : Bool}
theorem open_ratc {fuel : Nat} {cs : List Value} {x : DataW H × List MemPlace} (hl : cs.length = 2) (h : DataW.trod enc Tryd.prog w base spare held fuel 25 cs = some x) :
    ∃ n d : Int, cs = [.int .i64 n, .int .i64 d] ∧ (-9223372036854775808 ≤ n ∧ n ≤ 9223372036854775807) ∧ (-9223372036854775808 ≤ d ∧ d ≤ 9223372036854775807) := by
  have hI : Tryd.prog.cellsOf 2 = 1 := by kernel_rfl
  match cs, hl with
  | [c0, c1], _ =>
    obtain ⟨xs, n, _, _, _, hlen, hg⟩ := DataW.trod_struct Tryd.underlying25 h
    match xs, hlen with
    | [y0, y1], _ =>
      have g0 := hg 0 _ rfl
      have g1 := hg 1 _ rfl
      simp [hI] at g0 g1
      obtain ⟨n0, e0, _, w0⟩ := DataW.trod_int Tryd.underlying2 g0
      obtain ⟨n1, e1, _, w1⟩ := DataW.trod_int Tryd.underlying2 g1
      simp only [List.cons.injEq, and_true] at e0 e1
      subst e0 e1
      exact ⟨n0, n1, rfl, wf_i64 w0, wf_i64 w1⟩
theorem open_pcells {fuel : Nat} {cs : List Value} {x : DataW H × List MemPlace} (hl : cs.length = 5) (h : DataW.trod enc Tryd.prog w base spare held fuel 28 cs = some x) :
    ∃ k n d r s : Int, cs = [.int .i64 k, .int .i64 n, .int .i64 d, .int .i64 r, .int .u32 s] ∧ (-9223372036854775808 ≤ n ∧ n ≤ 9223372036854775807) ∧ (-9223372036854775808 ≤ d ∧ d ≤ 9223372036854775807) := by
  have hI : Tryd.prog.cellsOf 3 = 1 := by kernel_rfl
  have hU : Tryd.prog.cellsOf 26 = 1 := by kernel_rfl
  have hR : Tryd.prog.cellsOf 25 = 2 := by kernel_rfl
  match cs, hl with
  | [c0, c1, c2, c3, c4], _ =>
    obtain ⟨xs, n, _, _, _, hlen, hg⟩ := DataW.trod_struct Tryd.underlying28 h
    match xs, hlen with
    | [y0, y1, y2, y3], _ =>
      have g0 := hg 0 _ rfl
      have g1 := hg 1 _ rfl
      have g2 := hg 2 _ rfl
      have g3 := hg 3 _ rfl
      simp [hI, hU, hR] at g0 g1 g2 g3
      obtain ⟨k, e0, _, _⟩ := DataW.trod_int Tryd.underlying3 g0
      obtain ⟨n, d, e1, hn, hd⟩ := open_ratc rfl g1
      obtain ⟨r, e2, _, _⟩ := DataW.trod_int Tryd.underlying3 g2
      obtain ⟨s, e3, _, _⟩ := DataW.trod_int Tryd.underlying26 g3
      simp only [List.cons.injEq, and_true] at e0 e1 e2 e3
      obtain ⟨rfl, rfl⟩ := e1
      subst e0 e2 e3
      exact ⟨k, n, d, r, s, rfl, hn, hd⟩
set_option maxRecDepth 10000 in
theorem open_perm {b0 : Nat} {r : Reach} {v : Value} {d : DataW H} {p : List MemPlace} (hv : Value.okWide Tryd.prog w r b0 28 v) (h : DataW.Trod enc Tryd.prog w base spare held 28 v d p) :
    ∃ k n d r s : Int, v = permV k n d r s ∧ (-9223372036854775808 ≤ n ∧ n ≤ 9223372036854775807) ∧ (-9223372036854775808 ≤ d ∧ d ≤ 9223372036854775807) := by
  obtain ⟨⟨cs⟩, rfl, hsz⟩ := okWide_struct Tryd.underlying28 hv
  have hC : Tryd.prog.cellsOf 28 = 5 := by kernel_rfl
  obtain ⟨fuel, hf⟩ := h
  obtain ⟨k, n, d, r, s, e, hn, hd⟩ := open_pcells (hsz.trans hC) (by simpa [Value.cells] using hf)
  have e : cs = _ := e
  subst e
  exact ⟨k, n, d, r, s, rfl, hn, hd⟩
end
end Go.Proofs.YthlogaenbnhobaaDoor
