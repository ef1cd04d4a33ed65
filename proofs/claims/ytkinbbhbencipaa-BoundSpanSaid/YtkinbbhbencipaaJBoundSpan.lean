/-
  What is proved: the statement BoundSpan: of any two numbers of 16 bits and any two flags, what Solve answers of one variable between them, and the value, are as the law says. It has no condition beside the row's own.
  (Template: by-name.py fills it; gen/plain.py writes it.)
-/
import Derived.Test.YtkinbbhbencipaaJSpnB
import Derived.Test.YtkinbbhbencipaaRows
import Derived.OpenShut
import Derived.LaidMore
import Derived.Stop.Joined
namespace Go.Proofs.Ytkinbbhbencipaa
open Go.ChangeShapes Go.WideShapes Go.ChangeAt Go.RowKit Go.Joins

/-- An array of two bools, opened. -/
theorem open_flags {H : Type} {enc : TypeId × Value → H} {P : Program} {w : World} {base : Nat} {spare : Nat → Bool} {held : Bool} {r : Reach} {b0 : Nat} {t e : TypeId} {v : Value} {d : DataW H} {ps : List MemPlace} (ht : P.underlying t = some (.array 2 e)) (he : P.underlying e = some .bool) (hc : P.cellsOf t = 2) (hce : P.cellsOf e = 1) (hval : Value.okWide P w r b0 t v) (hd : DataW.Trod enc P w base spare held t v d ps) : ∃ p q : Bool, v = .agg #[.bool p, .bool q] := by
  obtain ⟨cs, rfl, hs⟩ : ∃ cs, v = .agg cs ∧ cs.size = P.cellsOf t := by
    unfold Value.okWide at hval
    rw [ht] at hval
    obtain ⟨cs, rfl, hs, _⟩ := hval
    exact ⟨cs, rfl, hs⟩
  obtain ⟨fuel, hf⟩ := hd
  obtain ⟨xs, m, rfl, _, _, _, hi⟩ := DataW.trod_array ht hf
  obtain ⟨l⟩ := cs
  rw [hc] at hs
  obtain ⟨c0, c1, rfl⟩ : ∃ c0 c1, l = [c0, c1] := by
    match l, hs with
    | [c0, c1], _ => exact ⟨c0, c1, rfl⟩
  have g : ∀ (c : Value) (x : DataW H × List MemPlace), DataW.trod enc P w base spare held m e [c] = some x → ∃ b : Bool, c = .bool b := fun c x h => by
    cases m with
    | zero => simp [DataW.trod] at h
    | succ m =>
      unfold DataW.trod at h
      rw [he] at h
      cases c <;> simp at h
      exact ⟨_, rfl⟩
  have h0 := hi 0 (by decide)
  have h1 := hi 1 (by decide)
  rw [hce] at h0 h1
  have l0 : xs[0]? = some xs[0]! := by simp [*]
  have l1 : xs[1]? = some xs[1]! := by simp [*]
  rw [l0] at h0
  rw [l1] at h1
  obtain ⟨p, rfl⟩ := g c0 _ h0
  obtain ⟨q, rfl⟩ := g c1 _ h1
  exact ⟨p, q, rfl⟩

theorem boundspan_laidOut : laidOutB Try.prog = true := by kernel_rfl

set_option maxRecDepth 100000 in
theorem boundspan_lifted (os : Os) (started : os.Started) (H : Type) (enc : TypeId × Value → H) :
    ReturnsInHanded {} Try.checked os 5 .any (Rows.boundSpanSpec.pre6 enc Try.prog Try.f5 Rows.boundSpanRow.domain false) (Rows.boundSpanSpec.post enc Try.prog Try.f5 false true false false) := by
  refine returnsInHanded_of_change (C := Try.checked) Try.own started (by kernel_rfl) Try.func5
    (ChangeSpec.witness6 (enc := enc) (C := Try.checked) false ⟨#[], #[.int .i16 0, .int .i16 0, .agg #[.bool false, .bool false]], []⟩ 8 (by kernel_rfl) (by kernel_rfl) (by kernel_rfl) (by kernel_rfl)) ?_
  intro W base args ds gs before hval0 hW _ _
  have hval : ∀ (j : Nat) t v, Try.f5.params[j]? = some t → args[j]? = some v → Value.okWide Try.prog W .any base t v := hval0
  have hW' := hW
  obtain ⟨p, q, hA0, hV, rfl, _, _⟩ := hW
  have hA : DataW.TrodAll enc Try.prog W 0 (fun _ => true) true Try.f5.params.toList args.toList ds p := hA0
  rw [Try.params5] at hA hval
  obtain ⟨v0, v1, v2, d0, d1, d2, p0, p1, p2, rfl, rfl, rfl, h0, h1, h2⟩ := trodAll_three hA
  obtain ⟨rfl, rfl⟩ := trodVars_none hV
  clear hA0 hval0
  simp only [List.append_nil] at hW'
  obtain ⟨n0, rfl, rfl, rfl, a0⟩ := open_int Try.underlying38 (hval 0 38 v0 rfl rfl) h0
  obtain ⟨n1, rfl, rfl, rfl, a1⟩ := open_int Try.underlying38 (hval 1 38 v1 rfl rfl) h1
  have g2 := h2
  obtain ⟨f2, e2, rfl⟩ := open_flags Try.underlying39 Try.underlying4 (by kernel_rfl) (by kernel_rfl) (hval 2 39 v2 rfl rfl) h2
  refine (span_any W n0 n1 f2 e2 (bounds_i16 a0).1 (bounds_i16 a0).2 (bounds_i16 a1).1 (bounds_i16 a1).2).mono fun r W' ⟨he, hb⟩ => ?_
  subst he
  exact ⟨_, rfl, post_of_below (pa := [] ++ ([] ++ p2)) (pv := []) hW' (fun _ _ _ => trodAll_mk1 (shut_bool Try.underlying4 _)) (fun sp hs => trodAll_mk3 (shut_int Try.underlying38 a0) (shut_int Try.underlying38 a1) (WideElems.Trod_stays boundspan_laidOut (by kernel_rfl) (of_decide_eq_true (by kernel_rfl)) g2 (fun x hx => hb.same (hW'.lt x (by simp [hx]))) (fun x hx => hs x (by simp [hx])))) (fun _ _ => rfl) (by simp) hb (ok_one (by kernel_rfl) rfl (okWide_bool_mk Try.underlying4 _))⟩

theorem boundspan_holds : Rows.BoundSpanSaid :=
  OpenClaim.holds_of_wide 5 Try.f5 rfl rfl rfl rfl rfl rfl rfl ⟨rfl, rfl, rfl, rfl, rfl⟩ rfl rfl rfl rfl rfl (by kernel_rfl) Try.func5 (by kernel_rfl)
    (of_decide_eq_true (by kernel_rfl)) (by unfold Func.isWrapper; first | (rw [if_pos (by decide +kernel)]; kernel_rfl) | (rw [if_neg (by decide +kernel)]; exact ⟨rfl, rfl⟩))
    (fun os started H enc _ => boundspan_lifted os started H enc)
#print axioms boundspan_holds
end Go.Proofs.Ytkinbbhbencipaa
