/-
  Names at each of a node's kids; the table of permissions. (Template: by-name.py fills it; gen/genShoU.py writes it.)
-/
import Derived.Test.YthihdddlneclmaaDoorJShoR
import Derived.Test.YthihdddlneclmaaDoorJShoJ0
import Derived.Test.YthihdddlneclmaaDoorJShoJ1
import Derived.Test.YthihdddlneclmaaDoorJShoJ2
namespace Go.Proofs.YthihdddlneclmaaDoor
open Go.RowKit

theorem names_each (w0 : World) (ns : List Nd) (dp : Nat) (ht : StrRow w0 1 namesWordsT) : Each 30 w0 ns dp NamesOk namesT := by
  intro w bp t vn x h hN hx hok hl
  obtain ⟨hw0, g, r, hn, h0, h2⟩ := hok
  have : g = 0 ∨ g = 1 ∨ g = 2 := by omega
  rcases this with rfl | rfl | rfl
  · exact names0_any w0 w bp dp t vn x h hx ht r hn hw0 (by omega)
  · exact names1_any w0 w bp dp t vn x h hx ht r hn hw0 (by omega)
  · exact names2_any w0 w bp dp t vn x h hx ht r hn hw0 (by omega)
def kindsT : List Txt := [kindT 0, kindT 1, kindT 2, kindT 3, kindT 4]
theorem kind_cell {w0 W : World} (h : StrRow w0 0 kindsT) (hb : Below w0.heap.size w0 W) (k : Nat) (hk : k ≤ 4) : W.cell? ⟨0, k, none⟩ = some (txt (kindT k)) := by
  refine tab_cell h hb ?_
  have : k = 0 ∨ k = 1 ∨ k = 2 ∨ k = 3 ∨ k = 4 := by omega
  rcases this with rfl | rfl | rfl | rfl | rfl <;> rfl
/-- The cells that a region of words, the first number and its word reads. -/
theorem hold_wk {w0 W : World} {b cw cu : Nat} {aw au : Addr} {ws : List Txt} {nums : List Int} {kd ps : Value} {vk : Value} {s1 s2 : Txt} {p : Nat} (hk : TBlk W b 30 #[kd, .slice (some aw) ws.length cw, .slice (some au) nums.length cu, vk, ps]) (hb : Below w0.heap.size w0 W)
    (hW : Reads w0 w0.heap.size 1 (some aw) ws.length (ws.map txt)) (hU : Reads w0 w0.heap.size 1 (some au) nums.length (nums.map (Value.int .i64))) (h0 : ws[0]? = some s1) (h1 : ws[1]? = some s2) (g0 : nums[0]? = some (p : Int)) (ht : StrRow w0 0 kindsT) (hp : p ≤ 4) :
    (W.cell? ⟨b, 1, none⟩ = some (.slice (some aw) ws.length cw) ∧ W.cell? ⟨b, 2, none⟩ = some (.slice (some au) nums.length cu) ∧ W.cell? aw = some (txt s1) ∧ W.cell? (aw.add 1) = some (txt s2) ∧ W.cell? ⟨aw.block, aw.off + 1, none⟩ = some (txt s2) ∧ W.cell? au = some (.int .i64 (p : Int)) ∧ W.cell? ⟨0, p, none⟩ = some (txt (kindT p))) ∧ TBlk W b 30 #[kd, .slice (some aw) ws.length cw, .slice (some au) nums.length cu, vk, ps] ∧ Below w0.heap.size w0 W := by
  have c1 := hk.blk.cell 1
  have c2 := hk.blk.cell 2
  simp only [List.getElem?_toArray, List.getElem?_cons_zero, List.getElem?_cons_succ] at c1 c2
  have l1 := (List.getElem?_eq_some_iff.1 h1).1
  have e1 := word_at hW hb h1 l1
  exact ⟨⟨c1, c2, word_at hW hb h0 (by omega), e1, e1, num_at hU hb g0 (List.getElem?_eq_some_iff.1 g0).1, kind_cell ht hb p hp⟩, hk, hb⟩
def flatN (ns : List Nd) (l : List Int) : Txt := (l.map fun k => namesT (ndAt ns k)).flatten
theorem flatN_next {ns : List Nd} {l : List Int} {i : Nat} {k : Int} (h : l[i]? = some k) : flatN ns (l.take (i + 1)) = flatN ns (l.take i) ++ namesT (ndAt ns k) := by
  unfold flatN
  rw [List.take_add_one, h, List.map_append, List.flatten_append]
  simp
theorem flatN_le {ns : List Nd} {l : List Int} (i : Nat) : (flatN ns (l.take i)).length ≤ (flatN ns l).length := by
  have e : flatN ns l = flatN ns (l.take i) ++ flatN ns (l.drop i) := by
    unfold flatN
    rw [← List.flatten_append, ← List.map_append, List.take_append_drop]
  rw [e, List.length_append]
  omega
end Go.Proofs.YthihdddlneclmaaDoor
