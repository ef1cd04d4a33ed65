/-
  Plain: what package bound's Solve answers of one variable between two numbers. (Template: by-name.py fills it.)
-/
import Derived.Test.YtkinbbhbencipaaJBndS
namespace Go.Proofs.Ytkinbbhbencipaa
open Go.RowKit

theorem okR_int {n : Int} (h1 : -100000 ≤ n) (h2 : n ≤ 100000) : OkR (n, 1) := ⟨1, rfl, by decide, by decide, by show n.natAbs ≤ _; omega, by show Nat.gcd n.natAbs 1 = 1; exact Nat.gcd_one_right _⟩
theorem right_unit {c : Int} (hc : c = 1 ∨ c = -1) {A : Int} (hA : OkR (A, 1)) : rightT [(c, 1)] A 1 = true := by
  refine right_mk (show 1 ≤ 8 by decide) (fun x hx => ?_) hA
  rw [List.mem_singleton] at hx
  subst hx
  rcases hc with rfl | rfl
  · exact okR_one
  · exact okR_neg okR_one
theorem times_unit {c : Int} (hc : c = 1 ∨ c = -1) {A : Int} (hA : OkR (A, 1)) : timesT [(c, 1)] (A, 1) (1, 1) = ([(c, 1)], (A, 1), 0) := by
  have e1 : scaleH (1, 1) (A, 1) (0, 1) = ((A, 1), 0) := mulH_one hA
  unfold timesT
  rw [if_pos ⟨right_unit hc hA, by decide⟩]
  unfold putT
  rw [e1]
  rcases hc with rfl | rfl
  · rw [if_pos ⟨rfl, by decide⟩]
    rw [show trimL (combL (scaleH (1, 1)) [(1, 1)] []) = [(1, 1)] by decide +kernel]
  · rw [if_pos ⟨rfl, by decide⟩]
    rw [show trimL (combL (scaleH (1, 1)) [(-1, 1)] []) = [(-1, 1)] by decide +kernel]
theorem sum_unit {A B S : Int} (hA : OkR (A, 1)) (hB : OkR (B, 1)) (hS : OkR (S, 1)) (h : S = A + B) : sumT [(1, 1)] [(-1, 1)] (A, 1) (B, 1) = ([], (S, 1), 0) := by
  have e1 : addH (A, 1) (B, 1) = ((S, 1), 0) := addH_of hA hB hS (by show S * (1 * 1) = (A * 1 + B * 1) * 1; omega)
  unfold sumT
  rw [if_pos ⟨right_unit (.inl rfl) hA, right_unit (.inr rfl) hB⟩]
  unfold putT
  rw [e1, if_pos ⟨rfl, by decide⟩]
  rw [show trimL (combL addH [(1, 1)] [(-1, 1)]) = [] by decide +kernel]
theorem val_unit {c : Int} (hc : c = 1 ∨ c = -1) {A : Int} (hA : OkR (A, 1)) : valT [(c, 1)] m0 (A, 1) = ((A, 1), 0) := by
  have hm : mulH (atL [(c, 1)] (0 : Nat)) (atL m0 (0 : Nat)) = ((0, 1), 0) := by rcases hc with rfl | rfl <;> decide
  have hs : sumK [(c, 1)] m0 (A, 1) 1 = some (A, 1) := by
    unfold sumK sumK
    rw [Option.bind_some, hm, addH_nought hA, if_pos ⟨rfl, rfl⟩]
  unfold valT
  rw [if_pos ⟨right_unit hc hA, by decide⟩]
  rw [show min ([(c, 1)] : List (Int × Int)).length m0.length = 1 from rfl, hs]
theorem wrong_unit {o c : Int} (ho : o = 1 ∨ o = 2) (hc : c = 1 ∨ c = -1) {A : Int} (hA : OkR (A, 1)) : wrongR (o, [(c, 1)], (A, 1)) = false := by
  unfold wrongR prWrong
  dsimp only
  rw [right_unit hc hA]
  rcases ho with rfl | rfl <;> rfl
theorem scale_unit {c : Int} (hc : c = 1 ∨ c = -1) {A : Int} (hA : OkR (A, 1)) : scaleO ([(c, 1)], (A, 1)) (1, 1) = some ([(c, 1)], (A, 1)) := by
  unfold scaleO
  rw [times_unit hc hA, if_pos rfl]
/-- The two rows. -/
def spanR (o0 o1 A B : Int) : List Rw := [(o0, [(1, 1)], (A, 1)), (o1, [(-1, 1)], (B, 1))]
def sOp (o0 o1 : Int) : Int := if o0 = 2 ∨ o1 = 2 then 2 else 1
theorem sort_span {o0 o1 A B : Int} (hA : OkR (A, 1)) (hB : OkR (B, 1)) : sortO 0 ([], [], []) (spanR o0 o1 A B) = some ([], [(o0, [(1, 1)], (A, 1))], [(o1, [(-1, 1)], (B, 1))]) := by
  unfold spanR
  rw [sortO]
  have s1 : sortStep 0 ([], [], []) (o0, [(1, 1)], (A, 1)) = some ([], [(o0, [(1, 1)], (A, 1))], []) := by
    unfold sortStep
    dsimp only
    rw [show atL [((1 : Int), (1 : Int))] 0 = (1, 1) from rfl, if_neg (by decide), show invA (1, 1) = (1, 1) from rfl, scale_unit (.inl rfl) hA]
    rfl
  have s2 : sortStep 0 ([], [(o0, [(1, 1)], (A, 1))], []) (o1, [(-1, 1)], (B, 1)) = some ([], [(o0, [(1, 1)], (A, 1))], [(o1, [(-1, 1)], (B, 1))]) := by
    unfold sortStep
    dsimp only
    rw [show atL [((-1 : Int), (1 : Int))] 0 = (-1, 1) from rfl, if_neg (by decide), show invA (-1, 1) = (1, 1) from rfl, scale_unit (.inr rfl) hB]
    rfl
  rw [s1, Option.bind_some, sortO, s2, Option.bind_some, sortO]
theorem with_span {o0 o1 A B S : Int} (hA : OkR (A, 1)) (hB : OkR (B, 1)) (hS : OkR (S, 1)) (h : S = A + B) : withO ([], [(o0, [(1, 1)], (A, 1))], [(o1, [(-1, 1)], (B, 1))]) = some [(sOp o0 o1, [], (S, 1))] := by
  unfold withO
  dsimp only [List.length_nil, List.length_cons]
  rw [if_neg (by decide)]
  rw [sumsO, sumsA]
  have r1 : rowSum (o0, [(1, 1)], (A, 1)) (o1, [(-1, 1)], (B, 1)) = some (sOp o0 o1, [], (S, 1)) := by
    unfold rowSum addO
    dsimp only
    rw [sum_unit hA hB hS h, if_pos rfl]
    rfl
  rw [r1, Option.bind_some, sumsA, Option.bind_some, sumsO]
  rfl
theorem elim_out {v : Int} (vs : List Int) (o : Int) (k : Int × Int) (ch : List Choice) : elimR (v :: vs) [(o, [], k)] ch = elimR vs [(o, [], k)] (ch ++ [(v, [], [])]) := by
  have h0 : (atL [] v).1 = 0 := by
    unfold atL
    split <;> rfl
  have s1 : sortO v ([], [], []) [(o, [], k)] = some ([(o, [], k)], [], []) := by
    rw [sortO]
    unfold sortStep
    dsimp only
    rw [if_pos h0, Option.bind_some, sortO]
    rfl
  rw [elimR, s1, Option.bind_some]
  rfl
theorem elim_span {o0 o1 A B S : Int} (hA : OkR (A, 1)) (hB : OkR (B, 1)) (hS : OkR (S, 1)) (h : S = A + B) :
    elimR [0, 1, 2, 3, 4, 5, 6, 7] (spanR o0 o1 A B) [] = some ([(sOp o0 o1, [], (S, 1))], [(0, [(o0, [(1, 1)], (A, 1))], [(o1, [(-1, 1)], (B, 1))]), (1, [], []), (2, [], []), (3, [], []), (4, [], []), (5, [], []), (6, [], []), (7, [], [])]) := by
  rw [elimR, sort_span hA hB, Option.bind_some, with_span hA hB hS h, Option.bind_some, elim_out, elim_out, elim_out, elim_out, elim_out, elim_out, elim_out, elimR]
  rfl
theorem low_unit {o c A : Int} (hc : c = 1 ∨ c = -1) (hA : OkR (A, 1)) : lowK [(o, [(c, 1)], (A, 1))] m0 1 = some (A, 1) := by
  rw [lowK, lowK, Option.bind_some]
  show (if (valT [(c, 1)] m0 (A, 1)).2 = 0 then some (lowPick 0 (0, 0) (valT [(c, 1)] m0 (A, 1)).1) else none) = _
  rw [val_unit hc hA, if_pos rfl]
  rfl
theorem bet_span {o0 o1 A B M : Int} (hA : OkR (A, 1)) (hB : OkR (B, 1)) (hN : OkR (-A, 1)) (hM : OkR (M, 1)) (h : M = -A + B) : betO [(o0, [(1, 1)], (A, 1))] [(o1, [(-1, 1)], (B, 1))] m0 = okO (resT M 2) := by
  have e1 : addH (negH (A, 1)) (B, 1) = ((M, 1), 0) := addH_of hN hB hM (by show M * (1 * 1) = (-A * 1 + B * 1) * 1; omega)
  have l1 := low_unit (o := o0) (c := 1) (.inl rfl) hA
  have l2 := low_unit (o := o1) (c := -1) (.inr rfl) hB
  unfold betO
  show (lowK [(o0, [(1, 1)], (A, 1))] m0 1).bind (fun b => (lowK [(o1, [(-1, 1)], (B, 1))] m0 1).bind fun t => if 1 = 0 then (if 1 = 0 then some (0, 1) else okO (addH t (negH (1, 1)))) else if 1 = 0 then okO (addH (negH b) (1, 1)) else (okO (addH (negH b) t)).bind fun s => okO (mulH s (1, 2))) = _
  rw [l1, Option.bind_some, l2, Option.bind_some, if_neg (by decide), if_neg (by decide), e1]
  show okO (resT (M * 1) 2) = _
  rw [Int.mul_one]
theorem wit_out {v : Nat} {r : List Ch} (hv : m0.set v (0, 1) = m0) : witO (((v : Int), .inl ([], [])) :: r) m0 = witO r m0 := by
  rw [witO]
  show (some (0, 1) : Option (Int × Int)).bind (fun x => witO r (m0.set ((v : Int)).toNat x)) = _
  rw [Option.bind_some, Int.toNat_natCast, hv]
/-- Half a number, reduced. -/
theorem half_of {M : Int} (h1 : -100000 ≤ M) (h2 : M ≤ 100000) : (resT M 2).2 = 0 ∧ OkR (resT M 2).1 := by
  by_cases e : M % 2 = 0
  · have hy : OkR (M / 2, 1) := okR_int (by omega) (by omega)
    rw [resT_of (P := M) (Q := 2) (by decide) hy (by show M / 2 * 2 = M * 1; omega)]
    exact ⟨rfl, hy⟩
  · have hy : OkR (M, 2) := ⟨2, rfl, by decide, by decide, by show M.natAbs ≤ _; omega, by
      show Nat.gcd M.natAbs 2 = 1
      have : M.natAbs % 2 = 1 := by omega
      rw [Nat.gcd_comm, Nat.gcd_rec, this]
      rfl⟩
    rw [resT_of (P := M) (Q := 2) (by decide) hy rfl]
    exact ⟨rfl, hy⟩
/-- What Solve answers. -/
theorem span_sol {o0 o1 A B : Int} (h0 : o0 = 1 ∨ o0 = 2) (h1 : o1 = 1 ∨ o1 = 2) (a1 : -40000 ≤ A) (a2 : A ≤ 40000) (b1 : -40000 ≤ B) (b2 : B ≤ 40000) :
    solB (spanR o0 o1 A B) = if metB (sOp o0 o1) (A + B) = true then ((resT (-A + B) 2).1 :: List.replicate 7 (0, 1), 0) else ([], 1) := by
  have hA := okR_int (n := A) (by omega) (by omega)
  have hB := okR_int (n := B) (by omega) (by omega)
  have hS := okR_int (n := A + B) (by omega) (by omega)
  have hN := okR_int (n := -A) (by omega) (by omega)
  have hM := okR_int (n := -A + B) (by omega) (by omega)
  have hany : (spanR o0 o1 A B).any wrongR = false := by
    unfold spanR
    rw [List.any_cons, List.any_cons, wrong_unit h0 (.inl rfl) hA, wrong_unit h1 (.inr rfl) hB]
    rfl
  have heq : eqsR (spanR o0 o1 A B) = [] := by rcases h0 with rfl | rfl <;> rcases h1 with rfl | rfl <;> rfl
  have hoth : othR (spanR o0 o1 A B) = spanR o0 o1 A B := by rcases h0 with rfl | rfl <;> rcases h1 with rfl | rfl <;> rfl
  have hsub : subR (([] : List Trm).zip ([] : List Int)) (spanR o0 o1 A B) = some (spanR o0 o1 A B) := rfl
  have hfr : freeK [] 8 = [0, 1, 2, 3, 4, 5, 6, 7] := by decide +kernel
  have hso : solveT [] = (([], []), 0) := by decide +kernel
  have hf : frontT (spanR o0 o1 A B) = if metB (sOp o0 o1) (A + B) = true then .inr ([(sOp o0 o1, [], (A + B, 1))], [(0, [(o0, [(1, 1)], (A, 1))], [(o1, [(-1, 1)], (B, 1))]), (1, [], []), (2, [], []), (3, [], []), (4, [], []), (5, [], []), (6, [], []), (7, [], [])], [], []) else .inl 1 := by
    unfold frontT
    rw [if_neg (by rintro (q | q); (· exact absurd q (show ¬ 400 < 2 by decide)); (· rw [hany] at q; cases q)), heq, hso, hoth]
    rw [if_neg (by decide)]
    dsimp only
    rw [hsub]
    dsimp only
    rw [hfr, elim_span hA hB hS rfl]
    dsimp only
    rw [List.any_cons, List.any_nil, Bool.or_false]
    cases metB (sOp o0 o1) (A + B) <;> rfl
  unfold solB
  rw [hf]
  by_cases hm : metB (sOp o0 o1) (A + B) = true
  · rw [if_pos hm, if_pos hm]
    dsimp only
    have hw : witO (([(0, [(o0, [(1, 1)], (A, 1))], [(o1, [(-1, 1)], (B, 1))]), (1, [], []), (2, [], []), (3, [], []), (4, [], []), (5, [], []), (6, [], []), (7, [], [])].map chOf).reverse ++ solsC (([] : List Trm).zip ([] : List Int))) m0 = some ((resT (-A + B) 2).1 :: List.replicate 7 (0, 1)) := by
      show witO [((7 : Nat), .inl ([], [])), ((6 : Nat), .inl ([], [])), ((5 : Nat), .inl ([], [])), ((4 : Nat), .inl ([], [])), ((3 : Nat), .inl ([], [])), ((2 : Nat), .inl ([], [])), ((1 : Nat), .inl ([], [])), ((0 : Nat), .inl ([(o0, [(1, 1)], (A, 1))], [(o1, [(-1, 1)], (B, 1))]))] m0 = _
      rw [wit_out rfl, wit_out rfl, wit_out rfl, wit_out rfl, wit_out rfl, wit_out rfl, wit_out rfl, witO]
      show (betO [(o0, [(1, 1)], (A, 1))] [(o1, [(-1, 1)], (B, 1))] m0).bind _ = _
      rw [bet_span hA hB hN hM rfl]
      unfold okO
      rw [if_pos (half_of (by omega) (by omega)).1, Option.bind_some, witO]
      rfl
    rw [hw]
  · rw [if_neg hm, if_neg hm]
end Go.Proofs.Ytkinbbhbencipaa
