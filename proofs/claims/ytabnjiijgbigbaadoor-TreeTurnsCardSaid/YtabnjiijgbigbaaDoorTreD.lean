/-
  Tests of kinds as function values: the walks of package tree's is, is$1, statement, expression, argument. (Template: by-name.py fills it; gen/genTreD.py writes it.)
-/
import Derived.Test.YtabnjiijgbigbaaDoorTreC
namespace Go.Proofs.YtabnjiijgbigbaaDoor
open Go.RowKit

set_option maxHeartbeats 2000000 in
theorem stmt_any (w : World) (k : Int) : Calls Tryd.prog 53 #[.int .i64 k] w fun e w' => e = .returned (.bool (stmtB k)) ∧ w = w' := by
  by_cases q8 : k = 8
  · subst q8
    go_enter Tryd.func53, Tryd.ntmps53
    go_wp2_with fail
    go_ret
    exact ⟨rfl, rfl⟩
  have e8 : (k == 8) = false := by simpa using q8
  by_cases q9 : k = 9
  · subst q9
    go_enter Tryd.func53, Tryd.ntmps53
    go_wp2_with fail
    go_ret
    exact ⟨rfl, rfl⟩
  have e9 : (k == 9) = false := by simpa using q9
  by_cases q10 : k = 10
  · subst q10
    go_enter Tryd.func53, Tryd.ntmps53
    go_wp2_with fail
    go_ret
    exact ⟨rfl, rfl⟩
  have e10 : (k == 10) = false := by simpa using q10
  by_cases q11 : k = 11
  · subst q11
    go_enter Tryd.func53, Tryd.ntmps53
    go_wp2_with fail
    go_ret
    exact ⟨rfl, rfl⟩
  have e11 : (k == 11) = false := by simpa using q11
  by_cases q13 : k = 13
  · subst q13
    go_enter Tryd.func53, Tryd.ntmps53
    go_wp2_with fail
    go_ret
    exact ⟨rfl, rfl⟩
  have e13 : (k == 13) = false := by simpa using q13
  by_cases q14 : k = 14
  · subst q14
    go_enter Tryd.func53, Tryd.ntmps53
    go_wp2_with fail
    go_ret
    exact ⟨rfl, rfl⟩
  have e14 : (k == 14) = false := by simpa using q14
  by_cases q16 : k = 16
  · subst q16
    go_enter Tryd.func53, Tryd.ntmps53
    go_wp2_with fail
    go_ret
    exact ⟨rfl, rfl⟩
  have e16 : (k == 16) = false := by simpa using q16
  by_cases q17 : k = 17
  · subst q17
    go_enter Tryd.func53, Tryd.ntmps53
    go_wp2_with fail
    go_ret
    exact ⟨rfl, rfl⟩
  have e17 : (k == 17) = false := by simpa using q17
  by_cases q18 : k = 18
  · subst q18
    go_enter Tryd.func53, Tryd.ntmps53
    go_wp2_with fail
    go_ret
    exact ⟨rfl, rfl⟩
  have e18 : (k == 18) = false := by simpa using q18
  by_cases q19 : k = 19
  · subst q19
    go_enter Tryd.func53, Tryd.ntmps53
    go_wp2_with fail
    go_ret
    exact ⟨rfl, rfl⟩
  have e19 : (k == 19) = false := by simpa using q19
  have hz : stmtB k = false := by
    unfold stmtB
    simp; omega
  have HZ := Lib.hid hz
  clear hz q8 q9 q10 q11 q13 q14 q16 q17 q18 q19
  go_enter Tryd.func53, Tryd.ntmps53
  go_wp2_with fail
  go_ret
  exact ⟨by rw [HZ.out]; rfl, rfl⟩

set_option maxHeartbeats 2000000 in
theorem expr_any (w : World) (k : Int) : Calls Tryd.prog 54 #[.int .i64 k] w fun e w' => e = .returned (.bool (exprB k)) ∧ w = w' := by
  by_cases q20 : k = 20
  · subst q20
    go_enter Tryd.func54, Tryd.ntmps54
    go_wp2_with fail
    go_ret
    exact ⟨rfl, rfl⟩
  have e20 : (k == 20) = false := by simpa using q20
  by_cases q21 : k = 21
  · subst q21
    go_enter Tryd.func54, Tryd.ntmps54
    go_wp2_with fail
    go_ret
    exact ⟨rfl, rfl⟩
  have e21 : (k == 21) = false := by simpa using q21
  by_cases q22 : k = 22
  · subst q22
    go_enter Tryd.func54, Tryd.ntmps54
    go_wp2_with fail
    go_ret
    exact ⟨rfl, rfl⟩
  have e22 : (k == 22) = false := by simpa using q22
  by_cases q23 : k = 23
  · subst q23
    go_enter Tryd.func54, Tryd.ntmps54
    go_wp2_with fail
    go_ret
    exact ⟨rfl, rfl⟩
  have e23 : (k == 23) = false := by simpa using q23
  have hz : exprB k = false := by
    unfold exprB
    simp; omega
  have HZ := Lib.hid hz
  clear hz q20 q21 q22 q23
  go_enter Tryd.func54, Tryd.ntmps54
  go_wp2_with fail
  go_ret
  exact ⟨by rw [HZ.out]; rfl, rfl⟩

set_option maxHeartbeats 1000000 in
theorem arg_any (w : World) (k : Int) : Calls Tryd.prog 56 #[.int .i64 k] w fun e w' => e = .returned (.bool (argB k)) ∧ w = w' := by
  have ex := expr_any w k
  unfold argB
  generalize exprB k = B at *
  by_cases q : k = 15
  · subst q
    clear ex
    go_enter Tryd.func56, Tryd.ntmps56
    go_wp2_with fail
    go_ret
    exact ⟨rfl, rfl⟩
  · have e1 : (k == 15) = false := by simpa using q
    rw [e1, Bool.false_or]
    clear q
    go_enter Tryd.func56, Tryd.ntmps56
    go_wp2_with (go_at_call 54; (with_reducible refine ex.mono ?_); rintro e w1 ⟨rfl, rfl⟩)
    go_ret
    exact ⟨rfl, rfl⟩

/-- A test of a kind. -/
inductive Tst where
  | is (ks : List Int)
  | stmt
  | expr
  | arg
def Tst.f : Tst → Int → Bool
  | .is ks => isB ks
  | .stmt => stmtB
  | .expr => exprB
  | .arg => argB
/-- It stands in a value. -/
def TstAt (w : World) (t : Tst) (v : Value) : Prop := match t with
  | .is ks => ∃ b A c, v = .func (.func 66) #[] #[.pointer (some ⟨b, 0, none⟩)] ∧ Blk w b #[.slice A ks.length c] ∧ IntsL w (.slice A ks.length c) ks
  | .stmt => v = .func (.func 53) #[] #[]
  | .expr => v = .func (.func 54) #[] #[]
  | .arg => v = .func (.func 56) #[] #[]
theorem TstAt.below {w w' : World} {t : Tst} {v : Value} (h : TstAt w t v) (hb : Below w.heap.size w w') : TstAt w' t v := by
  cases t with
  | is ks =>
    obtain ⟨b, A, c, e, h1, h2⟩ := h
    exact ⟨b, A, c, e, h1.keep hb, h2.below hb⟩
  | stmt => exact h
  | expr => exact h
  | arg => exact h

set_option maxHeartbeats 1000000 in
theorem is1_any (w : World) (b : Nat) (A : Option Addr) (n c : Nat) (ks : List Int) (k : Int) (hB : Blk w b #[.slice A n c]) (h : IntsL w (.slice A n c) ks) :
    Calls Tryd.prog 66 #[.int .i64 k, .pointer (some ⟨b, 0, none⟩)] w fun e w' => e = .returned (.bool (isB ks k)) ∧ w = w' := by
  have cn := tcon_any w _ ks k h
  have c0 := hB.cell 0
  have hz : ks.contains k = isB ks k := rfl
  rw [hz] at cn
  generalize isB ks k = B at *
  have CN := Lib.hid cn
  clear cn h hB hz
  go_enter Tryd.func66, Tryd.ntmps66
  go_wp2_with (go_at_call 67; (with_reducible refine CN.out.mono ?_); rintro e w1 ⟨rfl, rfl⟩)
  go_ret
  exact ⟨rfl, rfl⟩
theorem is_any (w : World) (v : Value) (ks : List Int) (h : IntsL w v ks) : Calls Tryd.prog 48 #[v] w fun e w' => (∃ u, e = .returned u ∧ TstAt w' (.is ks) u) ∧ Below w.heap.size w w' := by
  have hmf : ∀ (fn : Fn) (first cap : Array Value) (w : World), (Instr.makeFunc fn first cap).run Tryd.prog w = .ok (.func fn first cap) w := fun _ _ _ _ => rfl
  obtain ⟨A, c, rfl, h2, h3, h4⟩ := id h
  have a := Lib.hid (below_alloc1 w (.cells #[.slice A ks.length c] 28))
  have B := Lib.hid (Blk.start w #[.slice A ks.length c] 28)
  have HI := Lib.hid h
  clear h h2 h3 h4
  generalize hn : ks.length = n at *
  have HN := Lib.hid hn
  clear hn
  go_enter Tryd.func48, Tryd.ntmps48
  go_wp2_with fail
  go_ret
  exact ⟨⟨_, rfl, w.heap.size, A, c, rfl, by rw [HN.out]; exact B.out, by rw [HN.out]; exact HI.out.below a.out⟩, a.out⟩
end Go.Proofs.YtabnjiijgbigbaaDoor
