/-
  The walk of package tree's increasing. (Template: by-name.py fills it.)
-/
import Derived.Test.YtabnjiijgbigbaaDoorTreM
import Derived.Test.YtabnjiijgbigbaaDoorTreF
import Derived.BigQuiet
import Derived.Deep.QuietTactic
namespace Go.Proofs.YtabnjiijgbigbaaDoor
open Go.RowKit

theorem rises_snoc (ns : List Nd) : ∀ (l : List Int) (a b : Int), risesB ns (l ++ [a, b]) = (risesB ns (l ++ [a]) && decide (whichB ns a < whichB ns b))
  | [], a, b => by simp [risesB]
  | [x], a, b => by simp [risesB, Bool.and_comm]
  | x :: y :: r, a, b => by
    have := rises_snoc ns (y :: r) a b
    simp only [List.cons_append] at this ⊢
    rw [risesB, risesB, this, Bool.and_assoc]
theorem take_two {l : List Int} {k : Nat} {a b : Int} (ha : l[k]? = some a) (hb : l[k + 1]? = some b) : l.take (k + 1) = l.take k ++ [a] ∧ l.take (k + 1 + 1) = l.take k ++ [a, b] := by
  have e1 : l.take (k + 1) = l.take k ++ [a] := by rw [List.take_add_one, ha]; rfl
  exact ⟨e1, by rw [List.take_add_one, hb, e1, List.append_assoc]; rfl⟩
theorem rises_next {ns : List Nd} {l : List Int} {k : Nat} {a b : Int} (ha : l[k]? = some a) (hb : l[k + 1]? = some b) (h : risesB ns (l.take (k + 1)) = true) : risesB ns (l.take (k + 1 + 1)) = decide (whichB ns a < whichB ns b) := by
  obtain ⟨e1, e2⟩ := take_two ha hb
  rw [e2, rises_snoc, ← e1, h, Bool.true_and]
theorem rises_cut (ns : List Nd) : ∀ (l m : List Int), risesB ns l = false → risesB ns (l ++ m) = false
  | [], m, h => by simp [risesB] at h
  | [x], m, h => by simp [risesB] at h
  | x :: y :: r, m, h => by
    rw [risesB] at h
    simp only [List.cons_append]
    rw [risesB]
    rcases Bool.and_eq_false_iff.mp h with h | h
    · rw [h, Bool.false_and]
    · rw [show (y :: (r ++ m)) = (y :: r) ++ m from rfl, rises_cut ns (y :: r) m h, Bool.and_false]
theorem rises_bad {ns : List Nd} {l : List Int} {k : Nat} (h : risesB ns (l.take k) = false) : risesB ns l = false := by
  rw [← List.take_append_drop k l]
  exact rises_cut ns _ _ h

set_option maxHeartbeats 4000000 in
theorem increasing_any (w : World) (v vk : Value) (ns : List Nd) (ks : List Int) (h : NodesAt w v ns) (hk : IntsL w vk ks) (hi : KidsIn ks ns.length) :
    Calls Tryd.prog 71 #[v, vk] w fun e w' => e = .returned (.bool (risesB ns ks)) ∧ Below w.heap.size w w' := by
  have WH := Lib.hid (fun (wr : World) (hb : Below w.heap.size w wr) (k : Nat) (q : k < ns.length) => (which_any wr v ns k (h.below hb) q).mono (fun _ _ q => (⟨q.1, q.2.symm⟩ : _ ∧ _)))
  obtain ⟨A, cp, rfl, h2, h3, h4⟩ := hk
  obtain ⟨n, hn⟩ : ∃ n, n = ks.length := ⟨_, rfl⟩
  have hmx : n ≤ 9223372036854775807 := by unfold maxLen at h3; omega
  rw [← hn] at h2 h4 ⊢
  have HN := Lib.hid (And.intro hn (And.intro hmx hi))
  have H4 := Lib.hid h4
  clear hn h2 h3 h4 hmx hi h
  go_enter Tryd.func71, Tryd.ntmps71
  go_wp2_with fail
  go_loopg [5] (n - 1) (fun g v5 wr => ∃ k : Nat, v5 = .int .i64 ((k : Int) + 1) ∧ (k + 1 ≤ n ∨ k = 0) ∧ g = n - (k + 1) ∧ risesB ns (ks.take (k + 1)) = true ∧ Below w.heap.size w wr)
  case atStart => exact ⟨0, rfl, .inr rfl, rfl, by cases ks <;> rfl, Below.refl _ _⟩
  case round =>
    obtain ⟨k, rfl, hk, hg, hr, hb⟩ := hrel
    by_cases hlt : k + 1 < n
    · obtain ⟨a, ha⟩ : ∃ a, ks[k]? = some a := ⟨_, List.getElem?_eq_getElem (by have := HN.out.1; omega)⟩
      obtain ⟨b, hb2⟩ : ∃ b, ks[k + 1]? = some b := ⟨_, List.getElem?_eq_getElem (by have := HN.out.1; omega)⟩
      have ka := HN.out.2.2 a (List.mem_of_getElem? ha)
      have kb := HN.out.2.2 b (List.mem_of_getElem? hb2)
      obtain ⟨an, rfl⟩ : ∃ an : Nat, a = an := ⟨a.toNat, by omega⟩
      obtain ⟨bn, rfl⟩ : ∃ bn : Nat, b = bn := ⟨b.toNat, by omega⟩
      obtain ⟨ad, rfl, da⟩ := ints_at H4.out hb ha (by omega)
      obtain ⟨ad', ea, db⟩ := ints_at H4.out hb hb2 (by omega)
      injection ea with ea
      subst ea
      have nx := rises_next ha hb2 hr
      have NX := Lib.hid (And.intro nx (fun q => rises_bad (nx.trans q)))
      have WA := Lib.hid (fun d => WH.out (wr.drewN d) (below_drewN hb d) an (by omega))
      have WB := Lib.hid (fun d => WH.out (wr.drewN d) (below_drewN hb d) bn (by omega))
      obtain ⟨j, hj⟩ : ∃ j, j = k + 1 := ⟨_, rfl⟩
      have ej : (k : Int) + 1 = (j : Int) := by omega
      rw [ej]
      rw [← hj] at db
      have i1 : (j : Int) < (n : Int) := by omega
      have i2 : (0 : Int) ≤ (j : Int) := by omega
      have i3 : (k : Int) < (n : Int) := by omega
      have i4 : (0 : Int) ≤ (k : Int) := by omega
      have u1 : IntKind.i64.wrap ((j : Int) - 1) = (k : Int) := by rw [IntWalk.i64_in _ (by have := HN.out; omega)]; omega
      have u2 : IntKind.i64.wrap ((j : Int) + 1) = (j : Int) + 1 := IntWalk.i64_in _ (by have := HN.out; omega)
      have HK := Lib.hid (And.intro hlt (And.intro hg (And.intro hj hb)))
      clear hlt hg hj ej nx ha hb2 hk hr hb ka kb
      generalize whichB ns (an : Int) = X at *
      generalize whichB ns (bn : Int) = Y at *
      go_upto_region 4 with fail
      go_quiet (first
        | (go_at_call 72; with_reducible exact Calls.quiet_of_same (WA.out _))
        | (go_at_call 72; with_reducible exact Calls.quiet_of_same (WB.out _)))
      by_cases q : X < Y
      · have nq : ¬ Y ≤ X := by omega
        have RN := Lib.hid (NX.out.1.trans (decide_eq_true q))
        go_wp2_with fail
        go_roundg (n - (k + 1 + 1))
        case measure => have := HK.out; omega
        case rel => exact ⟨k + 1, by rw [HK.out.2.2.1], by have := HK.out; omega, rfl, RN.out, below_drewN HK.out.2.2.2 _⟩
      · have nq : Y ≤ X := by omega
        have FIN := Lib.hid (NX.out.2 (decide_eq_false q))
        clear q
        go_wp2_with fail
        go_ret
        exact ⟨by rw [FIN.out]; rfl, below_drewN HK.out.2.2.2 _⟩
    · have e : ks.take (k + 1) = ks := List.take_of_length_le (by have := HN.out.1; omega)
      rw [e] at hr
      have i1 : ¬ (k : Int) + 1 < (n : Int) := by omega
      have FIN := Lib.hid (And.intro hr hb)
      clear hk hg hr hb hlt e
      go_wp2_with fail
      go_ret
      exact ⟨by rw [FIN.out.1]; rfl, FIN.out.2⟩
end Go.Proofs.YtabnjiijgbigbaaDoor
