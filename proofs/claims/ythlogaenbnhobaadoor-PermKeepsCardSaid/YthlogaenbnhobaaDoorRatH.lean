/-
  Fractions in their blocks; sums and products that are known beforehand. (Template: by-name.py fills it.)
-/
import Derived.Test.YthlogaenbnhobaaDoorRatG
namespace Go.Proofs.YthlogaenbnhobaaDoor
open Go.RowKit

/-- Fractions in their blocks, and all that is older than w as it was. -/
structure Live (w w1 : World) (l : List (Nat × Int × Int)) : Prop where
  rats : ∀ x, x ∈ l → RatAt w1 x.1 x.2.1 x.2.2
  below : Below w.heap.size w w1

theorem Live.start (w : World) : Live w w [] := ⟨fun _ h => (nomatch h), Below.refl _ _⟩
theorem Live.call {w w1 w2 : World} {l : List (Nat × Int × Int)} (h : Live w w1 l) (hb : Below w1.heap.size w1 w2) : Live w w2 l :=
  ⟨fun x hx => (h.rats x hx).keep hb, h.below.trans (hb.mono h.below.size)⟩
theorem Live.box {w w1 : World} {l : List (Nat × Int × Int)} (h : Live w w1 l) (n d : Int) : Live w (w1.alloc (.cells #[.int .i64 n, .int .i64 d] 25)) ((w1.heap.size, n, d) :: l) :=
  ⟨fun x hx => by
    rcases List.mem_cons.1 hx with rfl | hx
    · exact RatAt.start w1 n d _
    · exact (h.rats x hx).keep (below_alloc1 _ _), h.below.trans ((below_alloc1 _ _).mono h.below.size)⟩
theorem Live.boxAt {w w1 : World} {l : List (Nat × Int × Int)} (h : Live w w1 l) (n d : Int) (b : Nat) (hb : b = w1.heap.size) : Live w (w1.alloc (.cells #[.int .i64 n, .int .i64 d] 25)) ((b, n, d) :: l) := by
  rw [hb]; exact h.box n d
theorem Live.n {w w1 : World} {l : List (Nat × Int × Int)} (h : Live w w1 l) (i : Nat) {b : Nat} {n d : Int} (hi : l[i]? = some (b, n, d)) : w1.cell? ⟨b, 0, none⟩ = some (.int .i64 n) :=
  (h.rats _ (List.mem_of_getElem? hi)).k0
theorem Live.d {w w1 : World} {l : List (Nat × Int × Int)} (h : Live w w1 l) (i : Nat) {b : Nat} {n d : Int} (hi : l[i]? = some (b, n, d)) : w1.cell? ⟨b, 1, none⟩ = some (.int .i64 d) :=
  (h.rats _ (List.mem_of_getElem? hi)).k1

theorem Valid.nought : Valid 0 1 := ⟨by decide, by decide, by decide, by decide⟩
theorem Valid.one : Valid 1 1 := ⟨by decide, by decide, by decide, by decide⟩

theorem mul_to {n m x : Int} {d e y : Nat} (v : Valid n d) (u : Valid m e) (z : Valid x y) (h : x * ((d * e : Nat) : Int) = n * m * (y : Int)) (w : World) :
    Calls Tryd.prog 14 #[ratV n d, ratV m e] w fun r w' => r = .returned (.tuple #[ratV x y, .int .i64 0]) ∧ Below w.heap.size w w' := by
  obtain ⟨a, b, c⟩ := res_of (Nat.mul_pos v.pos u.pos) z h
  have := mul_valid v u w
  unfold resV at this
  rwa [a, b, c] at this
theorem right_no {n d : Int} (h : rightB n d = false) (h1 : -9223372036854775808 ≤ n) (h2 : n ≤ 9223372036854775807) (h3 : -9223372036854775808 ≤ d) (h4 : d ≤ 9223372036854775807) (w : World) :
    Calls Tryd.prog 24 #[ratV n d] w fun e w' => e = .returned (.bool false) ∧ Below w.heap.size w w' := by
  have := right_any n d w h1 h2 h3 h4
  rwa [h] at this

end Go.Proofs.YthlogaenbnhobaaDoor
