/-
  Plain: the sum of the parts, as the reference reckons it; what the counts say. (Template: by-name.py fills it.)
-/
import Derived.Test.YthlogaenbnhobaaDoorPkA
import Derived.Test.YthlogaenbnhobaaDoorNumM
import Derived.Test.YthlogaenbnhobaaDoorRatP
namespace Go.Proofs.YthlogaenbnhobaaDoor
open Go.RowKit

/-- S / 4096 in lowest terms. -/
def frN (S : Nat) : Int := ((S / Nat.gcd S 4096 : Nat) : Int)
def frD (S : Nat) : Nat := 4096 / Nat.gcd S 4096
theorem fr_gcd (S : Nat) : 0 < Nat.gcd S 4096 := Nat.gcd_pos_of_pos_right _ (by decide)
theorem frN_mul (S : Nat) : frN S * 4096 = (S : Int) * (frD S : Int) := by
  have g := fr_gcd S
  have a := Nat.div_mul_cancel (Nat.gcd_dvd_left S 4096)
  have b := Nat.div_mul_cancel (Nat.gcd_dvd_right S 4096)
  unfold frN frD
  generalize hx : S / Nat.gcd S 4096 = x at *
  generalize hy : 4096 / Nat.gcd S 4096 = y at *
  generalize Nat.gcd S 4096 = k at *
  have h : x * 4096 = S * y := by
    rw [← a, ← b]
    rw [Nat.mul_comm y k, Nat.mul_assoc]
  rw [show (4096 : Int) = ((4096 : Nat) : Int) from rfl, ← Int.natCast_mul, ← Int.natCast_mul, h]
theorem fr_valid {S : Nat} (h : S ≤ 4096) : Valid (frN S) (frD S) := by
  have g := fr_gcd S
  have a : S / Nat.gcd S 4096 ≤ S := Nat.div_le_self _ _
  have b : 4096 / Nat.gcd S 4096 ≤ 4096 := Nat.div_le_self _ _
  have c : 0 < 4096 / Nat.gcd S 4096 := Nat.div_pos (Nat.le_of_dvd (by decide) (Nat.gcd_dvd_right _ _)) g
  have n0 : (frN S).natAbs = S / Nat.gcd S 4096 := Int.natAbs_natCast _
  have d0 : frD S = 4096 / Nat.gcd S 4096 := rfl
  exact ⟨by omega, by omega, by omega, by rw [n0, d0]; exact Nat.coprime_div_gcd_div_gcd g⟩
theorem fr_zero : frN 0 = 0 ∧ frD 0 = 1 := by decide
theorem fr_all : frN 4096 = 1 ∧ ((frD 4096 : Nat) : Int) = 1 := by decide
theorem pow_valid {e : Nat} (h : e ≤ 12) : Valid 1 (2 ^ e) := by
  have : ∀ e, e ≤ 12 → 0 < 2 ^ e ∧ 2 ^ e ≤ 4096 ∧ Nat.gcd 1 (2 ^ e) = 1 := by decide
  obtain ⟨a, b, c⟩ := this e h
  refine ⟨?_, ?_, ?_, ?_⟩
  all_goals first | omega | exact c
theorem fr_add {S e : Nat} (he : e ≤ 12) : frN (S + 2 ^ (12 - e)) * ((frD S * 2 ^ e : Nat) : Int) = (frN S * ((2 ^ e : Nat) : Int) + 1 * (frD S : Int)) * (frD (S + 2 ^ (12 - e)) : Int) := by
  have A := frN_mul S
  have B := frN_mul (S + 2 ^ (12 - e))
  have C : (2 ^ (12 - e)) * 2 ^ e = 4096 := by rw [← Nat.pow_add, Nat.sub_add_cancel he]
  have C' : ((2 ^ (12 - e) : Nat) : Int) * ((2 ^ e : Nat) : Int) = 4096 := by rw [← Int.natCast_mul, C]; rfl
  clear C
  generalize frN (S + 2 ^ (12 - e)) = n' at *
  generalize frD (S + 2 ^ (12 - e)) = d' at *
  rw [Int.natCast_add] at B
  generalize ((2 ^ (12 - e) : Nat) : Int) = q at *
  rw [Int.natCast_mul]
  generalize ((2 ^ e : Nat) : Int) = t at *
  generalize frN S = n at *
  generalize (frD S : Int) = d at *
  generalize (d' : Int) = d' at *
  generalize (S : Int) = S at *
  have : (n' * (d * t)) * 4096 = ((n * t + 1 * d) * d') * 4096 := by
    have e1 : (n' * (d * t)) * 4096 = (n' * 4096) * (d * t) := by grind
    have e2 : ((n * t + 1 * d) * d') * 4096 = (n * 4096) * (t * d') + 4096 * (d * d') := by grind
    rw [e1, e2, A, B, ← C']
    grind
  exact Int.eq_of_mul_eq_mul_right (by decide) this

theorem rdo_fr {S e : Nat} (hs : S + 2 ^ (12 - e) ≤ 4096) (he : e ≤ 12) (w : World) :
    Calls Tryd.prog 8 #[.int .i64 0, ratV (frN S) (frD S), ratV 1 (pwI e)] w fun r w' => r = .returned (.tuple #[ratV (frN (S + 2 ^ (12 - e))) (frD (S + 2 ^ (12 - e))), .int .i64 0]) ∧ Below w.heap.size w w' := by
  have v := fr_valid (S := S) (Nat.le_trans (Nat.le_add_right _ _) hs)
  have u := pow_valid he
  obtain ⟨a, b, c⟩ := res_of (Nat.mul_pos v.pos u.pos) (fr_valid hs) (fr_add (S := S) he)
  have := do_add v u w
  rw [add_same] at this
  unfold resV at this
  rwa [a, b, c] at this

/-- How often a kind stands. -/
def cntP (l : List Pt) (k : Int) : Nat := l.countP fun x => x.1 == k
theorem cnt_none {l : List Pt} {k : Int} (h : ∀ x ∈ l, x.1 ≠ k) : cntP l k = 0 := by
  unfold cntP
  rw [List.countP_eq_zero]
  intro x hx
  simpa using h x hx
theorem cnt_le (l : List Pt) (k : Int) : cntP l k ≤ l.length := List.countP_le_length
/-- What the counts may be. -/
theorem cfg_four {l : List Pt} (h : Cfg l) : (l.length = 1 ∧ cntP l 0 = 1 ∧ cntP l 1 = 0 ∧ cntP l 2 = 0 ∧ cntP l 3 = 0 ∧ cntP l 4 = 0) ∨ (cntP l 0 = 0 ∧ cntP l 1 = 1 ∧ cntP l 2 = 0 ∧ cntP l 3 = 0) ∨ (cntP l 0 = 0 ∧ cntP l 1 = 0 ∧ cntP l 3 = 0) ∨ (cntP l 0 = 0 ∧ cntP l 1 = 0 ∧ cntP l 2 = 0 ∧ cntP l 4 = 0) := by
  rcases h with ⟨x, rfl, hx⟩ | ⟨h, h1⟩ | h | h
  · exact .inl ⟨rfl, by simp [cntP, hx], cnt_none (by simp [hx]), cnt_none (by simp [hx]), cnt_none (by simp [hx]), cnt_none (by simp [hx])⟩
  · exact .inr (.inl ⟨cnt_none (fun x hx => by rcases h x hx with k | k <;> omega), h1, cnt_none (fun x hx => by rcases h x hx with k | k <;> omega), cnt_none (fun x hx => by rcases h x hx with k | k <;> omega)⟩)
  · exact .inr (.inr (.inl ⟨cnt_none (fun x hx => by rcases h x hx with k | k <;> omega), cnt_none (fun x hx => by rcases h x hx with k | k <;> omega), cnt_none (fun x hx => by rcases h x hx with k | k <;> omega)⟩))
  · exact .inr (.inr (.inr ⟨cnt_none (fun x hx => by have := h x hx; omega), cnt_none (fun x hx => by have := h x hx; omega), cnt_none (fun x hx => by have := h x hx; omega), cnt_none (fun x hx => by have := h x hx; omega)⟩))
theorem cfg_kind {l : List Pt} (h : Cfg l) {x : Pt} (hx : x ∈ l) : x.1 = 0 ∨ x.1 = 1 ∨ x.1 = 2 ∨ x.1 = 3 ∨ x.1 = 4 := by
  rcases h with ⟨y, rfl, hy⟩ | ⟨h, _⟩ | h | h
  · exact .inl (by rw [List.mem_singleton.1 hx]; exact hy)
  · rcases h x hx with k | k <;> omega
  · rcases h x hx with k | k <;> omega
  · have := h x hx; omega
theorem cnt_snoc (l : List Pt) (x : Pt) (k : Int) : cntP (l ++ [x]) k = cntP l k + if x.1 == k then 1 else 0 := by
  unfold cntP
  rw [List.countP_append, List.countP_singleton]
theorem wt_take {l : List Pt} {i : Nat} {x : Pt} (h : l[i]? = some x) : wtP (l.take (i + 1)) = wtP (l.take i) + 2 ^ (12 - x.2.1) := by
  rw [List.take_add_one, h, wtP_append]
  simp [wtP]
theorem wt_le (l : List Pt) (i : Nat) : wtP (l.take i) ≤ wtP l := by
  have := wtP_append (l.take i) (l.drop i)
  rw [List.take_append_drop] at this
  omega
end Go.Proofs.YthlogaenbnhobaaDoor
