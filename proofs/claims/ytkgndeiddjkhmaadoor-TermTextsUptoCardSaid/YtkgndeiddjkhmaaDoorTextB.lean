/-
  The reference's digit and its text of a term. (Template: by-name.py fills it.)
-/
import Derived.Test.YtkgndeiddjkhmaaDoorTextA
import Derived.Test.YtkgndeiddjkhmaaDoorNumQ
namespace Go.Proofs.YtkgndeiddjkhmaaDoor
open Go.RowKit

set_option maxRecDepth 4000 in
set_option maxHeartbeats 1000000 in
theorem digit_any (u : Nat) (h : u < 10) (w : World) :
    Calls Tryd.prog 45 #[.int .i64 u] w fun r w' => r = .returned (txt [UInt8.ofNat (48 + u)]) ∧ Below w.heap.size w w' := by
  have w1 : IntKind.i64.wrap (48 + (u : Int)) = 48 + u := IntWalk.i64_in _ (by omega)
  have w2 : IntKind.u8.wrap (48 + (u : Int)) = 48 + u := IntWalk.u8_in _ (by omega)
  have hc : (convert 82 9 (.slice (some ⟨w.heap.size, 0, none⟩) 1 1)).run Tryd.prog (w.alloc (.cells #[.int .u8 (48 + (u : Int))] 5)) = .ok (.string ⟨#[UInt8.ofNat (48 + u)]⟩) (w.alloc (.cells #[.int .u8 (48 + (u : Int))] 5)) :=
    run_convert_bytes_back _ _ _ 5 _ 1 [UInt8.ofNat (48 + u)] Tryd.underlying82 Tryd.underlying5 Tryd.underlying9 (fun j hj => by
      obtain rfl : j = 0 := by simpa using hj
      rw [List.getElem_cons_zero, nat_digit u h]
      simp [Addr.add])
  generalize UInt8.ofNat (48 + u) = bt at *
  go_enter Tryd.func45, Tryd.ntmps45
  go_wp2_with fail
  go_ret
  exact ⟨rfl, below_alloc1 _ _⟩

theorem intercalate_snoc (sep : List UInt8) (s : List UInt8) : ∀ (ss : List (List UInt8)), ss ≠ [] → Lib.join (ss ++ [s]) sep = Lib.join ss sep ++ sep ++ s
  | [], h => absurd rfl h
  | [x], _ => by simp [Lib.join, List.intercalate]
  | x :: y :: r, _ => by
    have := intercalate_snoc sep s (y :: r) (by simp)
    simp [Lib.join, List.intercalate] at this ⊢
    exact this

theorem join_empty {sep : List UInt8} : ∀ {ss : List (List UInt8)}, (∀ s ∈ ss, s ≠ []) → (Lib.join ss sep = [] ↔ ss = [])
  | [], _ => by simp [Lib.join, List.intercalate]
  | x :: r, h => by
    have := h x (by simp)
    rw [Lib.join_cons]
    simp [this]

theorem sums_full (nm : Nat → List UInt8) : ∀ (l : List (Int × Int)) (k : Nat), ∀ s ∈ sums nm k l, s ≠ []
  | [], k, s, h => by cases h
  | x :: r, k, s, h => by
    rw [sums] at h
    rcases List.mem_append.1 h with h | h
    · split at h
      · cases h
      · obtain rfl := List.mem_singleton.1 h
        simp
    · exact sums_full nm r (k + 1) s h
end Go.Proofs.YtkgndeiddjkhmaaDoor
