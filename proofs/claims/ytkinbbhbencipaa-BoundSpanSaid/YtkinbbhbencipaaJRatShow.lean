/-
  The walk of package rat's Show. Condition: the library's table of powers is as it was laid. (Template: by-name.py fills it.)
-/
import Derived.Test.YtkinbbhbencipaaJA
import Derived.Lib.AppendIntMem
namespace Go.Proofs.Ytkinbbhbencipaa
open Go.RowKit

theorem below_grow (w : World) (q : Nat) (os : Array Obj) : Below w.heap.size w (Go.Sort.grow (w.drewN q) os) :=
  ⟨rfl, rfl, rfl, by simp [Go.Sort.grow], fun k hk => by simp [Go.Sort.grow, Array.getElem?_append_left hk]⟩

abbrev Pow10 (w : World) : Prop := Lib.TabIs Try.prog w "internal/strconv.uint64pow10" .u64 Lib.pow10Tab
theorem pow10_on {w w1 : World} (h : Pow10 w) (hb : Below w.heap.size w w1) : Pow10 w1 := ((Lib.tabBelow_of_tabIs h).on hb).here


theorem ret_string {b : List UInt8} {s : ByteArray} (h : s.data.toList = b) : Ending.returned (.string s) = .returned (.string ⟨b.toArray⟩) := by
  obtain ⟨⟨l⟩⟩ := s
  simp only at h
  rw [h]

theorem dec_len (u : Nat) : ∀ k, u < 10 ^ (k + 1) → (Lib.decDigits u).length ≤ k + 1 := by
  intro k
  induction k generalizing u with
  | zero =>
    intro h
    rw [Lib.decDigits, dif_pos (by omega)]
    simp
  | succ k ih =>
    intro h
    rw [Lib.decDigits]
    split
    · simp
    · rw [List.length_append]
      have := ih (u / 10) (by rw [Nat.pow_succ] at h; omega)
      simp; omega
theorem itoa_len {n : Int} (h0 : -9223372036854775808 ≤ n) (h1 : n ≤ 9223372036854775807) : (Lib.itoa n).length ≤ 20 := by
  unfold Lib.itoa
  split
  · have := dec_len n.natAbs 18 (by omega)
    simp; omega
  · have := dec_len n.toNat 18 (by omega)
    omega

/-- The text of a fraction. -/
def showL (n : Int) (d : Nat) : List UInt8 := Lib.itoa n ++ if d = 1 then [] else 47 :: Lib.itoa d

end Go.Proofs.Ytkinbbhbencipaa
