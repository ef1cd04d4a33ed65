/-
  What is proved: the statement TermNoughts, as its card: of any right term, nothing more changes it, less itself it is nothing, and once it is itself. Its conditions are the row's own (the tables as they are laid).
  (Template: by-name.py fills it; gen/card.py writes it.)
-/
import Derived.Test.YtkgndeiddjkhmaaDoorTermV
import Derived.Deep.LoopGhost
import Derived.Test.YtkgndeiddjkhmaaDoorCards
import Derived.Test.YtkgndeiddjkhmaaDoorTie
import Derived.OpenShut
import Derived.LaidMore
import Derived.Stop.Joined
import Derived.Stop.LaidErr
import Derived.Deep.DeepHandedRow
namespace Go.Proofs.YtkgndeiddjkhmaaDoor
open Go.ChangeShapes Go.WideShapes Go.ChangeAt Go.RowKit

theorem termnoughts_gPow : Tryd.prog.globalNamed "internal/strconv.uint64pow10" = some 2 := by kernel_rfl
theorem termnoughts_gPowType : (Tryd.prog.globals[2]?).map (·.type) = some 122 := by kernel_rfl
theorem termnoughts_cellsPow : Tryd.prog.cellsOf 122 = 20 := by kernel_rfl
theorem termnoughts_cellsU64 : Tryd.prog.cellsOf 69 = 1 := by kernel_rfl
theorem termnoughts_laidOut : laidOutB Tryd.prog = true := by kernel_rfl

/-- What the row's list gives: the table of powers. -/
theorem termnoughts_table {W : World} (h : laidMetH Tryd.prog Rows.termNoughtsRow.laid W) : Pow10 W := by
  rw [MakeChecks.laidMetH_plain _ _ _ (by kernel_rfl)] at h
  exact Lib.tabIs_of_head (rest := []) termnoughts_gPow termnoughts_gPowType Tryd.underlying122 Tryd.underlying69 termnoughts_cellsU64 termnoughts_cellsPow (laidMet.tail (laidMet.tail h))

set_option maxRecDepth 100000 in
theorem termnoughts_contract (H : Type) (enc : TypeId × Value → H) (W : World) (base : Nat) (args : Array Value) (ds gs : List (DataW H)) (before : List MemPlace)
    (hval : ∀ (j : Nat) t v, Tryd.f6.params[j]? = some t → args[j]? = some v → Value.okWide Tryd.prog W .any base t v)
    (hW : DataW.Whole enc Tryd.prog Tryd.f6.params.toList Rows.termNoughtsSpec.vars false W args.toList ds gs before) (hL : laidMetH Tryd.prog Rows.termNoughtsRow.laid W) :
    Calls Tryd.prog 6 args W fun e W' => ∃ v, e = .returned v ∧ Rows.termNoughtsSpec.post enc Tryd.prog Tryd.f6 false true false false W args v W' := by
  have hW' := hW
  obtain ⟨p, q, hA0, hV, rfl, _, _⟩ := hW
  have hA : DataW.TrodAll enc Tryd.prog W 0 (fun _ => true) true Tryd.f6.params.toList args.toList ds p := hA0
  rw [Tryd.params6] at hA hval
  obtain ⟨v0, d0, rfl, rfl, h0⟩ := trodAll_one hA
  obtain ⟨rfl, rfl⟩ := trodVars_none hV
  clear hA0
  simp only [List.append_nil] at hW'
  have g0 := h0
  obtain ⟨s0, l0, n0, e0, rfl, r0, w0, a0, b0⟩ := open_term (hval 0 26 v0 rfl rfl) h0
  refine (noughts_t_any W (termnoughts_table hL) s0 l0 n0 e0 r0 w0 a0.1 a0.2 b0.1 b0.2).mono fun r W' ⟨he, hb⟩ => ?_
  subst he
  exact ⟨_, rfl, post_of_below (pa := p) (pv := []) hW' (fun _ _ _ => trodAll_mk1 (shut_bool Tryd.underlying4 _)) (fun sp hs => trodAll_mk1 (WideElems.Trod_stays termnoughts_laidOut (by kernel_rfl) (of_decide_eq_true (by kernel_rfl)) g0 (fun x hx => hb.same (hW'.lt x (by simp [hx]))) (fun x hx => hs x (by simp [hx])))) (fun _ _ => rfl) (by simp) hb (ok_one (by kernel_rfl) rfl (okWide_bool_mk Tryd.underlying4 _))⟩

set_option maxRecDepth 100000 in
theorem termnoughts_laid_met (os : Os) : laidMet Tryd.prog Rows.termNoughtsRow.laid ((World.doorLaid Tryd.prog 400 os).forCall (fun _ _ => 0) ⟨#[], #[.agg #[.slice none 0 0, .int .i64 0, .int .i64 0]], []⟩).memory :=
  laidMet_of_run' 8 (by kernel_rfl) (by kernel_rfl)
set_option maxRecDepth 100000 in
theorem termnoughts_reads (os : Os) {H : Type} (enc : TypeId × Value → H) : ∃ places, DataW.whole enc Tryd.prog ((World.doorLaid Tryd.prog 400 os).forCall (fun _ _ => 0) ⟨#[], #[.agg #[.slice none 0 0, .int .i64 0, .int .i64 0]], []⟩).memory Tryd.f6.params.toList Rows.termNoughtsSpec.vars false #[Value.agg #[.slice none 0 0, .int .i64 0, .int .i64 0]].toList 8 = some ([.agg [.nil, .agg [.lit (.int .i64 0), .lit (.int .i64 0)]]], [], places) :=
  ⟨[], by kernel_rfl⟩

set_option maxRecDepth 100000 in
theorem termnoughts_lifted (os : Os) (started : os.Started) (H : Type) (enc : TypeId × Value → H) (F : Stop.Interp) :
    ReturnsInHanded {} Tryd.checked os 6 .any ((OpenSpec.ofChange Rows.termNoughtsSpec).preRow enc Tryd.prog Tryd.f6 Rows.termNoughtsRow.domain false Rows.termNoughtsRow.laid) (((OpenSpec.ofChange Rows.termNoughtsSpec).at F).post enc Tryd.prog Tryd.f6 false true false false) := by
  obtain ⟨places, hx⟩ := termnoughts_reads os enc
  refine returnsInHanded_of_row (C := Tryd.checked) (s := (OpenSpec.ofChange Rows.termNoughtsSpec)) Tryd.own started (by kernel_rfl) Tryd.func6
    (witness_row_at (enc := enc) (C := Tryd.checked) false (World.doorLaid Tryd.prog 400 os) #[.agg #[.slice none 0 0, .int .i64 0, .int .i64 0]] rfl (by kernel_rfl) (by kernel_rfl) (by kernel_rfl)
      (OpenSpec.preRow_of_cond 8 hx (by kernel_rfl) (fun k hk => by cases hk) (by kernel_rfl) (termnoughts_laid_met os))) ?_
  intro W base args ds gs before hval hW _ _ _ hL _ _
  exact termnoughts_contract H enc W base args ds gs before hval hW hL

theorem termnoughts_said : Rows.TermNoughtsSaid :=
  OpenClaim.holds_of_cond 6 Tryd.f6 rfl rfl rfl rfl rfl rfl rfl ⟨rfl, rfl, rfl, rfl, rfl⟩ rfl rfl rfl rfl rfl (by kernel_rfl) Tryd.func6 (by kernel_rfl)
    (of_decide_eq_true (by kernel_rfl)) (by unfold Func.isWrapper; first | (rw [if_pos (by decide +kernel)]; kernel_rfl) | (rw [if_neg (by decide +kernel)]; exact ⟨rfl, rfl⟩))
    (fun os started H enc _ F => by rw [OpenClaim.pre_eq_preRow]; exact termnoughts_lifted os started H enc F)

theorem termnoughts_plain (f : FuncId) (fn : Func) (hf : Tryd.pinned.checked.prog.funcNamed "ballcock/ballcocklaw02.TermNoughts" = some f) (hfn : Tryd.pinned.checked.prog.funcs[f]? = some fn) :
    false = Tryd.pinned.checked.prog.looks [] ∧ ∀ (j : Nat) t, fn.params[j]? = some t → Tryd.pinned.checked.prog.wantsStandIn t = false := by
  obtain rfl : f = 6 := Option.some.inj ((show Tryd.prog.funcNamed "ballcock/ballcocklaw02.TermNoughts" = some 6 by kernel_rfl).symm.trans hf) |>.symm
  obtain rfl : fn = Tryd.f6 := (Option.some.inj (Tryd.func6.symm.trans hfn)).symm
  refine ⟨by kernel_rfl, fun j t ht => ?_⟩
  rw [Tryd.params6] at ht
  have hm : t = 26 := by simpa using Array.mem_of_getElem? ht
  subst hm
  exact (show Tryd.prog.wantsStandIn 26 = false by kernel_rfl)

theorem termnoughts_holds : Rows.TermNoughtsCardSaid :=
  Claim7.holds_tied_plain_at .later [] _ _ _ _ termnoughts_said (fun _ h => by cases h) (by kernel_rfl) (fun _ h => by cases h) termNoughts_row_tie rfl ⟨rfl, rfl⟩ (by kernel_rfl) rfl termnoughts_plain (by kernel_rfl)
#print axioms termnoughts_holds
end Go.Proofs.YtkgndeiddjkhmaaDoor
