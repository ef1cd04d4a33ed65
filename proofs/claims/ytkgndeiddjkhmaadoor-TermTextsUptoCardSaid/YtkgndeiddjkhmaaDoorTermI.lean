/-
  The walk of layer 2's awake. (Template: by-name.py fills it.)
-/
import Derived.Test.YtkgndeiddjkhmaaDoorTermH
namespace Go.Proofs.YtkgndeiddjkhmaaDoor
open Go.RowKit

set_option maxRecDepth 4000 in
set_option maxHeartbeats 1000000 in
theorem name_x0 (w : World) : Calls Tryd.prog 43 #[.int .i64 0, .slice none 0 0] w fun r w' => r = .returned (txt [120, 48]) ∧ Below w.heap.size w w' := by
  have it0 := Tryd.strconv_Itoa_small 0 (by decide) w
  rw [Lib.decDigits_one (show 0 < 10 by decide)] at it0
  have it : Calls Tryd.prog 63 #[.int .i64 0] w fun e w' => e = .returned (txt [UInt8.ofNat (48 + 0)]) ∧ w' = w := it0
  clear it0
  go_enter Tryd.func43, Tryd.ntmps43
  go_wp2_with (go_at_call 63; (with_reducible refine it.mono ?_); rintro e w1 ⟨rfl, rfl⟩)
  go_ret
  exact ⟨rfl, Below.refl _ _⟩

theorem half_text : Lib.join (allSums (fun _ => [120, 48]) [(1, 2)] 3 1) [32, 43, 32] = [49, 47, 50, 42, 120, 48, 32, 43, 32, 51] := by
  have a : Lib.itoa 1 = [49] := by unfold Lib.itoa; rw [if_neg (by decide)]; exact Lib.decDigits_one (by decide)
  have b : Lib.itoa 2 = [50] := by unfold Lib.itoa; rw [if_neg (by decide)]; exact Lib.decDigits_one (by decide)
  have c : Lib.itoa 3 = [51] := by unfold Lib.itoa; rw [if_neg (by decide)]; exact Lib.decDigits_one (by decide)
  have e : showL 1 2 = [49, 47, 50] := by unfold showL; rw [a, if_neg (by decide)]; exact congrArg (fun q => [49] ++ 47 :: q) b
  have f : showL 3 1 = [51] := by unfold showL; rw [c, if_pos rfl]; rfl
  have g : sums (fun _ => [120, 48]) 0 [(1, 2)] = [[49, 47, 50, 42, 120, 48]] := by
    show (if (1 : Int) = 0 then [] else [showL 1 (2 : Int).toNat ++ 42 :: [120, 48]]) ++ [] = _
    rw [if_neg (by decide), show (2 : Int).toNat = 2 from rfl, e]
    rfl
  unfold allSums
  rw [g, if_neg (by decide), show (1 : Int).toNat = 1 from rfl, f]
  rfl

theorem half_rats (w : World) : RatsAt (w.alloc (.cells #[.int .i64 1, .int .i64 2] 24)) (.slice (some ⟨w.heap.size, 0, none⟩) 1 1) [(1, 2)] := by
  refine ⟨some _, 1, rfl, Nat.le_refl _, by decide, rfl, fun _ => ⟨_, rfl, by simp, fun j u hu => ?_⟩⟩
  rcases j with _ | _ | j
  · obtain rfl : Value.int .i64 1 = u := by simpa [ratCells] using hu
    show (w.alloc _).cell? ⟨w.heap.size, 0, none⟩ = _
    go_simp
  · obtain rfl : Value.int .i64 2 = u := by simpa [ratCells] using hu
    show (w.alloc _).cell? ⟨w.heap.size, 1, none⟩ = _
    go_simp
  · simp [ratCells] at hu

theorem half_right : rightT [(1, 2)] 3 1 = true := by
  unfold rightT allR
  rw [half.right |> fun (h : rightB 1 ((2 : Nat) : Int) = true) => (show ([((1 : Int), (2 : Int))].all fun x => rightB x.1 x.2) = true by simpa using h)]
  rw [show rightB 3 1 = true from (show Valid 3 1 from ⟨by decide, by decide, by decide, by decide⟩).right]
  rfl

set_option maxRecDepth 4000 in
set_option maxHeartbeats 2000000 in
theorem awake2_yes (w : World) (ht : Pow10 w) : Calls Tryd.prog 9 #[] w fun r w' => r = .returned (.bool true) ∧ Below w.heap.size w w' := by
  have hr := half_rats w
  have hb0 := below_alloc1 w (.cells #[.int .i64 1, .int .i64 2] 24)
  have wide : Wide [((1 : Int), (2 : Int))] := by
    intro x hx
    obtain rfl : x = (1, 2) := by simpa using hx
    decide
  have sh := fun (w' : World) (hb : Below (w.alloc (.cells #[.int .i64 1, .int .i64 2] 24)).heap.size (w.alloc (.cells #[.int .i64 1, .int .i64 2] 24)) w') =>
    tshow_right w' (pow10_on ht (hb0.trans (hb.mono hb0.size))) _ (.slice none 0 0) [(1, 2)] 3 1 (hr.below hb) wide (by decide) (by decide) (by decide) (by decide) half_right (fun _ => [120, 48]) (fun k hk w' _ => by
      obtain rfl : k = 0 := by simpa using hk
      exact name_x0 w') (fun _ => by simp)
  rw [half_text] at sh
  have rt := fun (w' : World) (hb : Below (w.alloc (.cells #[.int .i64 1, .int .i64 2] 24)).heap.size (w.alloc (.cells #[.int .i64 1, .int .i64 2] 24)) w') =>
    tright_any w' _ [(1, 2)] 3 1 (hr.below hb) wide (by decide) (by decide) (by decide) (by decide)
  rw [half_right] at rt
  have SH := Lib.hid sh
  have RT := Lib.hid rt
  clear sh rt wide hr
  go_enter Tryd.func9, Tryd.ntmps9
  go_upto_region 2 with fail
  have F := FracBox.start (w.alloc (.cells #[.int .i64 1, .int .i64 2] 24)) (.slice (some ⟨w.heap.size, 0, none⟩) 1 1) (.int .i64 3) (.int .i64 1) 26
  rw [World.size_alloc] at F
  have b1 := below_alloc1 (w.alloc (.cells #[.int .i64 1, .int .i64 2] 24)) (.cells #[.slice (some ⟨w.heap.size, 0, none⟩) 1 1, .int .i64 3, .int .i64 1] 26)
  go_wp2_with (first
    | (go_at_call 24; (with_reducible refine (SH.out _ b1).mono ?_); rintro e w2 ⟨rfl, hb2⟩; have F := F.keep hb2; have k0 := F.k0; have k1 := F.k1; have k2 := F.k2; have b2 := b1.trans (hb2.mono b1.size))
    | (go_at_call 15; (with_reducible refine (RT.out _ b2).mono ?_); rintro e w3 ⟨rfl, hb3⟩; have b3 := b2.trans (hb3.mono b2.size)))
  go_ret
  exact ⟨rfl, hb0.trans (b3.mono hb0.size)⟩
end Go.Proofs.YtkgndeiddjkhmaaDoor
