/-
  The walks of the reference's New, digits and Show. (Template: by-name.py fills it.)
-/
import Derived.Test.YtkgndeiddjkhmaaDoorNumK
import Derived.Test.YtkgndeiddjkhmaaDoorRatShow
import Derived.Laws.IdiomStrings
namespace Go.Proofs.YtkgndeiddjkhmaaDoor
open Go.RowKit

theorem len_298 {n : Nat} (h : n ≤ 9223372036854775808) : (bitsOf n).length ≤ 298 := Nat.le_trans (len_64 (Nat.lt_of_le_of_lt h (by decide))) (by decide)

/-- The one block of New. -/
structure HoleAt (w w1 : World) : Prop where
  i0 : w1.cell? ⟨w.heap.size, 0, none⟩ = some (.int .i64 0)
  i1 : w1.cell? ⟨w.heap.size, 1, none⟩ = some (.int .i64 0)
  j0 : w1.frozen? ⟨w.heap.size, 0, none⟩ = false
  j1 : w1.frozen? ⟨w.heap.size, 1, none⟩ = false
  lt : w.heap.size < w1.heap.size
  below : Below w.heap.size w w1

theorem HoleAt.start (w : World) (ty : TypeId) : HoleAt w (w.alloc (.cells #[.int .i64 0, .int .i64 0] ty)) where
  i0 := by go_simp
  i1 := by go_simp
  j0 := by go_simp
  j1 := by go_simp
  lt := by simp
  below := below_alloc1 _ _

theorem HoleAt.keep {w w1 w2 : World} (h : HoleAt w w1) (hb : Below w1.heap.size w1 w2) : HoleAt w w2 :=
  have z := hb.size
  have l := h.lt
  { i0 := keep_cell hb l h.i0, i1 := keep_cell hb l h.i1, j0 := keep_free hb l h.j0, j1 := keep_free hb l h.j1, lt := by omega, below := h.below.trans (hb.mono h.below.size) }



theorem nat_digit (k : Nat) (h : k < 10) : (UInt8.ofNat (48 + k)).toNat = 48 + k := by
  rw [UInt8.toNat_ofNat']
  omega

set_option maxRecDepth 4000 in
set_option maxHeartbeats 1000000 in
theorem digits_any : ∀ (u : Nat) (_ : u ≤ 9223372036854775807) (w : World),
    Calls Tryd.prog 67 #[.int .i64 u] w fun r w' => r = .returned (.string ⟨(Lib.decDigits u).toArray⟩) ∧ Below w.heap.size w w' := by
  intro u
  induction u using Nat.strongRecOn with
  | ind u ih =>
    intro hu w
    by_cases h : u < 10
    · rw [Lib.decDigits_one h]
      clear ih hu
      have i1 : (u : Int) < 10 := by omega
      have w1 : IntKind.i64.wrap (48 + (u : Int)) = 48 + u := IntWalk.i64_in _ (by omega)
      have w2 : IntKind.u8.wrap (48 + (u : Int)) = 48 + u := IntWalk.u8_in _ (by omega)
      have hc : (convert 82 9 (.slice (some ⟨w.heap.size, 0, none⟩) 1 1)).run Tryd.prog (w.alloc (.cells #[.int .u8 (48 + (u : Int))] 5)) = .ok (.string ⟨#[UInt8.ofNat (48 + u)]⟩) (w.alloc (.cells #[.int .u8 (48 + (u : Int))] 5)) :=
        run_convert_bytes_back _ _ _ 5 _ 1 [UInt8.ofNat (48 + u)] Tryd.underlying82 Tryd.underlying5 Tryd.underlying9 (fun j hj => by
          obtain rfl : j = 0 := by simpa using hj
          rw [List.getElem_cons_zero, nat_digit u h]
          simp [Addr.add])
      generalize UInt8.ofNat (48 + u) = bt at *
      go_enter Tryd.func67, Tryd.ntmps67
      go_wp2_with fail
      go_ret
      exact ⟨rfl, below_alloc1 _ _⟩
    · have ih1 := fun w => ih (u / 10) (by omega) (by omega) w
      have ih2 := fun w => ih (u % 10) (by omega) (by omega) w
      rw [Lib.decDigits_one (show u % 10 < 10 by omega)] at ih2
      have i1 : ¬ (u : Int) < 10 := by omega
      have i2 : decide ((u : Int) < 10) = false := decide_eq_false i1
      have w1 : wrap64 ((u : Int) / 10) = (u : Int) / 10 := IntWalk.wrap64_in _ (by omega)
      have w2 : wrap64 ((u : Int) % 10) = (u : Int) % 10 := IntWalk.wrap64_in _ (by omega)
      rw [show ((u / 10 : Nat) : Int) = (u : Int) / 10 by omega] at ih1
      rw [show ((u % 10 : Nat) : Int) = (u : Int) % 10 by omega] at ih2
      have l1 : ¬ 9223372036854775807 < (Lib.decDigits (u / 10)).length + 1 := by have := dec_len (u / 10) 18 (by omega); omega
      have hd : Lib.decDigits u = Lib.decDigits (u / 10) ++ [UInt8.ofNat (48 + u % 10)] := by rw [Lib.decDigits, dif_neg h]
      rw [hd]
      generalize UInt8.ofNat (48 + u % 10) = bt at *
      clear hd ih h hu
      go_enter Tryd.func67, Tryd.ntmps67
      go_wp2_with (first
        | (go_at_call 67; (with_reducible refine (ih1 _).mono ?_); rintro e wa ⟨rfl, hba⟩)
        | (go_at_call 67; (with_reducible refine (ih2 _).mono ?_); rintro e wb ⟨rfl, hbb⟩))
      go_ret
      exact ⟨ret_string (by simp), hba.trans (hbb.mono hba.size)⟩

theorem dec_short (u : Nat) (h : u ≤ 9223372036854775807) : (Lib.decDigits u).length ≤ 19 := by
  have := dec_len u 18 (by omega)
  omega

theorem digits_neg (n : Int) (hn : n < 0) (h : n.natAbs ≤ 9223372036854775807) (w : World) :
    Calls Tryd.prog 67 #[.int .i64 (-n)] w fun r w' => r = .returned (.string ⟨(Lib.decDigits n.natAbs).toArray⟩) ∧ Below w.heap.size w w' := by
  have := digits_any n.natAbs h w
  rwa [show ((n.natAbs : Nat) : Int) = -n by omega] at this
theorem digits_pos (n : Int) (hn : ¬ n < 0) (h : n.natAbs ≤ 9223372036854775807) (w : World) :
    Calls Tryd.prog 67 #[.int .i64 n] w fun r w' => r = .returned (.string ⟨(Lib.decDigits n.toNat).toArray⟩) ∧ Below w.heap.size w w' := by
  have := digits_any n.natAbs h w
  rwa [show ((n.natAbs : Nat) : Int) = n by omega, show n.natAbs = n.toNat by omega] at this

set_option maxRecDepth 4000 in
set_option maxHeartbeats 2000000 in
theorem rshow_valid {n : Int} {d : Nat} (v : Valid n d) (w : World) :
    Calls Tryd.prog 46 #[ratV n d] w fun r w' => r = .returned (.string ⟨(showL n d).toArray⟩) ∧ Below w.heap.size w w' := by
  have vn := v.n_le; have vd := v.d_le
  have ra := fun w => rright_any n d w (by omega) (by omega) (by omega) (by omega)
  rw [v.right] at ra
  have dd := fun w => digits_any d vd w
  have L := (Live.start w).box n d
  have ld := dec_short d vd
  have h0 : d ≠ 0 := by have := v.pos; omega
  clear v
  have hd : Lib.itoa d = Lib.decDigits d := by unfold Lib.itoa; rw [if_neg (by omega)]; rfl
  by_cases sg : n < 0
  · have dn := fun w => digits_neg n sg vn w
    have ln := dec_short n.natAbs vn
    have hi : Lib.itoa n = 45 :: Lib.decDigits n.natAbs := by unfold Lib.itoa; rw [if_pos sg]
    have wn : IntKind.i64.wrap (-n) = -n := IntWalk.i64_in _ (by omega)
    generalize Lib.decDigits n.natAbs = ds at *
    have l0 : ¬ 9223372036854775807 < 1 + ds.length := by omega
    by_cases e : d = 1
    · have hs : showL n d = 45 :: ds := by unfold showL; rw [if_pos e, List.append_nil, hi]
      rw [hs]
      have e1 : ((d : Int) != 1) = false := by simp; omega
      have e2 : ((d : Int) == 1) = true := by simp; omega
      clear hs e hi hd vn vd ld ln h0
      go_enter Tryd.func46, Tryd.ntmps46
      go_wp2_with (first
        | (go_at_call 34; (with_reducible refine (ra _).mono ?_); rintro e w1 ⟨rfl, hb⟩; have L := L.call hb; have a0 := L.n 0 rfl; have a1 := L.d 0 rfl)
        | (go_at_call 67; (with_reducible refine (dn _).mono ?_); rintro e w1 ⟨rfl, hb⟩; have L := L.call hb; have a0 := L.n 0 rfl; have a1 := L.d 0 rfl))
      go_ret
      exact ⟨ret_string (by simp), L.below⟩
    · have hs : showL n d = 45 :: ds ++ 47 :: Lib.decDigits d := by unfold showL; rw [if_neg e, hi, hd]
      rw [hs]
      generalize Lib.decDigits d = dt at *
      have l1 : ¬ 9223372036854775807 < 1 + ds.length + 1 := by omega
      have l2 : ¬ 9223372036854775807 < 1 + ds.length + 1 + dt.length := by omega
      have e1 : ((d : Int) != 1) = true := by simp; omega
      have e2 : ((d : Int) == 1) = false := by simp; omega
      clear hs e hi hd vn vd ld ln h0
      go_enter Tryd.func46, Tryd.ntmps46
      go_wp2_with (first
        | (go_at_call 34; (with_reducible refine (ra _).mono ?_); rintro e w1 ⟨rfl, hb⟩; have L := L.call hb; have a0 := L.n 0 rfl; have a1 := L.d 0 rfl)
        | (go_at_call 67; (first | with_reducible refine (dn _).mono ?_ | with_reducible refine (dd _).mono ?_); rintro e w1 ⟨rfl, hb⟩; have L := L.call hb; have a0 := L.n 0 rfl; have a1 := L.d 0 rfl))
      go_ret
      exact ⟨ret_string (by simp), L.below⟩
  · have dn := fun w => digits_pos n sg vn w
    have ln := dec_short n.toNat (by omega)
    have hi : Lib.itoa n = Lib.decDigits n.toNat := by unfold Lib.itoa; rw [if_neg sg]
    generalize Lib.decDigits n.toNat = ds at *
    by_cases e : d = 1
    · have hs : showL n d = ds := by unfold showL; rw [if_pos e, List.append_nil, hi]
      rw [hs]
      have e1 : ((d : Int) != 1) = false := by simp; omega
      have e2 : ((d : Int) == 1) = true := by simp; omega
      clear hs e hi hd vn vd ld ln h0
      go_enter Tryd.func46, Tryd.ntmps46
      go_wp2_with (first
        | (go_at_call 34; (with_reducible refine (ra _).mono ?_); rintro e w1 ⟨rfl, hb⟩; have L := L.call hb; have a0 := L.n 0 rfl; have a1 := L.d 0 rfl)
        | (go_at_call 67; (with_reducible refine (dn _).mono ?_); rintro e w1 ⟨rfl, hb⟩; have L := L.call hb; have a0 := L.n 0 rfl; have a1 := L.d 0 rfl))
      go_ret
      exact ⟨ret_string (by simp), L.below⟩
    · have hs : showL n d = ds ++ 47 :: Lib.decDigits d := by unfold showL; rw [if_neg e, hi, hd]
      rw [hs]
      generalize Lib.decDigits d = dt at *
      have l1 : ¬ 9223372036854775807 < ds.length + 1 := by omega
      have l2 : ¬ 9223372036854775807 < ds.length + 1 + dt.length := by omega
      have e1 : ((d : Int) != 1) = true := by simp; omega
      have e2 : ((d : Int) == 1) = false := by simp; omega
      clear hs e hi hd vn vd ld ln h0
      go_enter Tryd.func46, Tryd.ntmps46
      go_wp2_with (first
        | (go_at_call 34; (with_reducible refine (ra _).mono ?_); rintro e w1 ⟨rfl, hb⟩; have L := L.call hb; have a0 := L.n 0 rfl; have a1 := L.d 0 rfl)
        | (go_at_call 67; (first | with_reducible refine (dn _).mono ?_ | with_reducible refine (dd _).mono ?_); rintro e w1 ⟨rfl, hb⟩; have L := L.call hb; have a0 := L.n 0 rfl; have a1 := L.d 0 rfl))
      go_ret
      exact ⟨ret_string (by simp), L.below⟩

set_option maxHeartbeats 1000000 in
theorem rshow_bad {n d : Int} (w : World) (ra : ∀ w, Calls Tryd.prog 34 #[ratV n d] w fun r w' => r = .returned (.bool false) ∧ Below w.heap.size w w') :
    Calls Tryd.prog 46 #[ratV n d] w fun r w' => r = .returned (.string ⟨#[63]⟩) ∧ Below w.heap.size w w' := by
  have L := (Live.start w).box n d
  go_enter Tryd.func46, Tryd.ntmps46
  go_wp2_with (go_at_call 34; (with_reducible refine (ra _).mono ?_); rintro e w1 ⟨rfl, hb⟩; have L := L.call hb)
  go_ret
  exact ⟨rfl, L.below⟩

set_option maxHeartbeats 1000000 in
theorem show_bad {n d : Int} (w : World) (ra : ∀ w, Calls Tryd.prog 29 #[ratV n d] w fun r w' => r = .returned (.bool false) ∧ Below w.heap.size w w') :
    Calls Tryd.prog 42 #[ratV n d] w fun r w' => r = .returned (.string ⟨#[63]⟩) ∧ Below w.heap.size w w' := by
  have L := (Live.start w).box n d
  go_enter Tryd.func42, Tryd.ntmps42
  go_wp2_with (go_at_call 29; (with_reducible refine (ra _).mono ?_); rintro e w1 ⟨rfl, hb⟩; have L := L.call hb)
  go_ret
  exact ⟨rfl, L.below⟩
end Go.Proofs.YtkgndeiddjkhmaaDoor
