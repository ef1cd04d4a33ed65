/-
  What is proved: the statement TermTextsUpto, as its card: the texts of terms, with names and without, are as the document says, and two terms are the same where they are right and their own forms are. Its conditions are the row's own (the tables as they are laid; what is read is of bulk at most 1048576).
  (Template: by-name.py fills it; gen/card.py writes it.)
-/
import Derived.Test.YtkgndeiddjkhmaaDoorTermTextsW
import Derived.Deep.LoopGhost
import Derived.SliceStrings
import Derived.Test.YtkgndeiddjkhmaaDoorCards
import Derived.Test.YtkgndeiddjkhmaaDoorTie
import Derived.OpenShut
import Derived.LaidMore
import Derived.Stop.Joined
import Derived.Stop.LaidErr
import Derived.Deep.DeepHandedRow
namespace Go.Proofs.YtkgndeiddjkhmaaDoor
open Go.ChangeShapes Go.WideShapes Go.ChangeAt Go.RowKit

section
open Go.Joins
variable {H : Type} {enc : TypeId × Value → H} {w : World} {base : Nat} {spare : Nat → Bool} {held : Bool}

theorem one_le_bulk (d : DataW H) : 1 ≤ Rows.uptoBulk d := by
  cases d with
  | lit l => cases l <;> simp [Rows.uptoBulk]
  | nil => simp [Rows.uptoBulk]
  | ptr d => simp [Rows.uptoBulk]
  | slice elems spare => simp [Rows.uptoBulk]
  | agg parts => simp [Rows.uptoBulk]
  | iface t d => simp [Rows.uptoBulk]
  | map entries => simp [Rows.uptoBulk]
  | held h => simp [Rows.uptoBulk]
theorem bulk_in {d : DataW H} : ∀ {l : List (DataW H)}, d ∈ l → Rows.uptoBulk d ≤ Rows.uptoBulkAll l
  | x :: r, h => by
    simp only [Rows.uptoBulkAll]
    rcases List.mem_cons.1 h with rfl | h
    · omega
    · have := bulk_in h
      omega
theorem bulk_part {d : DataW H} {l : List (DataW H)} (hk : Rows.uptoSmall H l = true) (h : d ∈ l) : Rows.uptoBulk d ≤ 1048576 :=
  Nat.le_trans (bulk_in h) (of_decide_eq_true hk)

theorem textString : Tryd.prog.cellsOf 9 = 1 := by kernel_rfl

set_option maxRecDepth 10000 in
/-- Texts among the arguments. -/
theorem open_names {b0 : Nat} {r : Reach} {v : Value} {d : DataW H} {p : List MemPlace} (hv : Value.okWide Tryd.prog w r b0 45 v) (h : DataW.Trod enc Tryd.prog w base spare held 45 v d p) :
    ∃ ns, NamesAt w v ns ∧ ∀ s ∈ ns, s.length ≤ Rows.uptoBulk d := by
  obtain ⟨a, len, cap, rfl⟩ := okWide_slice Tryd.underlying45 hv
  obtain ⟨fuel, hf⟩ := h
  have hf : DataW.trod enc Tryd.prog w base spare held fuel 45 [.slice a len cap] = some (d, p) := by simpa [Value.cells] using hf
  rcases open_strings Tryd.underlying45 Tryd.underlying9 textString hf with ⟨hc, _⟩ | ⟨a', len', cap', ss, hc, _, hl, hm, hz, hx, hcell, _⟩
  · simp only [List.cons.injEq, and_true] at hc
    rw [hc]
    exact ⟨[], NamesAt.nil w, fun s hs => by cases hs⟩
  · simp only [List.cons.injEq, and_true] at hc
    rw [hc]
    have hlm : len' ≤ ss.length := by rw [hz]; split <;> omega
    have hlen : ((ss.take len').map fun s => s.data.toList).length = len' := by rw [List.length_map, List.length_take]; omega
    have hat : ∀ i, i < len' → w.cell? (a'.add i) = some (.string (ss.getD i ByteArray.empty)) := fun i hi => hcell i (by omega)
    refine ⟨(ss.take len').map fun s => s.data.toList, ⟨some a', cap', by rw [hlen], by rw [hlen]; exact hl, hm, ?_⟩, fun s hs => ?_⟩
    · rw [hlen]
      refine ⟨by rw [List.length_map, hlen]; omega, fun hn => ⟨a', rfl, ?_, fun j u hu => ?_⟩⟩
      · have := World.block_lt_of_cell? _ _ (hat 0 hn)
        rwa [block_of_add] at this
      · rw [List.getElem?_map, List.getElem?_map] at hu
        have hj : j < len' := by
          rcases Nat.lt_or_ge j len' with g | g
          · exact g
          · rw [List.getElem?_eq_none (by rw [List.length_take]; omega)] at hu
            cases hu
        rw [hat j hj]
        rw [List.getElem?_take_of_lt hj] at hu
        obtain ⟨t, ht⟩ : ∃ t, ss[j]? = some t := ⟨_, List.getElem?_eq_getElem (by omega)⟩
        rw [ht] at hu
        obtain rfl : txt t.data.toList = u := by simpa using hu
        rw [List.getD_eq_getElem?_getD, ht]
        rfl
    · obtain ⟨t, ht, rfl⟩ := List.mem_map.1 hs
      injection hx with hx _
      rw [hx]
      have m : (DataW.lit (.string t.data.toList) : DataW H) ∈ strs (ss.take len') := List.mem_map.2 ⟨t, ht, rfl⟩
      have h1 := bulk_in m
      have h2 : Rows.uptoBulk (DataW.lit (H := H) (.string t.data.toList)) = t.data.toList.length + 1 := by simp [Rows.uptoBulk]
      simp only [Rows.uptoBulk] at h1 ⊢
      omega

theorem names_bound {ns : List (List UInt8)} {b : Nat} (h : ∀ s ∈ ns, s.length ≤ b) (hb : b ≤ 1048576) (k : Nat) : (nameL ns k).length ≤ 1099511627776 := by
  unfold nameL
  cases e : ns[k]? with
  | none => simp
  | some s =>
    have := h s (List.mem_of_getElem? e)
    simp only [Option.getD_some]
    omega
end

theorem termtexts_gPow : Tryd.prog.globalNamed "internal/strconv.uint64pow10" = some 2 := by kernel_rfl
theorem termtexts_gPowType : (Tryd.prog.globals[2]?).map (·.type) = some 122 := by kernel_rfl
theorem termtexts_cellsPow : Tryd.prog.cellsOf 122 = 20 := by kernel_rfl
theorem termtexts_cellsU64 : Tryd.prog.cellsOf 69 = 1 := by kernel_rfl
theorem termtexts_laidOut : laidOutB Tryd.prog = true := by kernel_rfl

/-- What the row's list gives: the table of powers. -/
theorem termtexts_table {W : World} (h : laidMetH Tryd.prog Rows.termTextsUptoRow.laid W) : Pow10 W := by
  rw [MakeChecks.laidMetH_plain _ _ _ (by kernel_rfl)] at h
  exact Lib.tabIs_of_head (rest := []) termtexts_gPow termtexts_gPowType Tryd.underlying122 Tryd.underlying69 termtexts_cellsU64 termtexts_cellsPow (laidMet.tail (laidMet.tail h))

set_option maxRecDepth 100000 in
theorem termtexts_contract (H : Type) (enc : TypeId × Value → H) (W : World) (base : Nat) (args : Array Value) (ds gs : List (DataW H)) (before : List MemPlace)
    (hval : ∀ (j : Nat) t v, Tryd.f5.params[j]? = some t → args[j]? = some v → Value.okWide Tryd.prog W .any base t v)
    (hW : DataW.Whole enc Tryd.prog Tryd.f5.params.toList Rows.termTextsSpec.vars false W args.toList ds gs before) (hL : laidMetH Tryd.prog Rows.termTextsUptoRow.laid W) (hk : Rows.uptoSmall H (ds ++ gs) = true) :
    Calls Tryd.prog 5 args W fun e W' => ∃ v, e = .returned v ∧ Rows.termTextsSpec.post enc Tryd.prog Tryd.f5 false true false false W args v W' := by
  have hW' := hW
  obtain ⟨p, q, hA0, hV, rfl, _, _⟩ := hW
  have hA : DataW.TrodAll enc Tryd.prog W 0 (fun _ => true) true Tryd.f5.params.toList args.toList ds p := hA0
  rw [Tryd.params5] at hA hval
  obtain ⟨v0, v1, v2, d0, d1, d2, p0, p1, p2, rfl, rfl, rfl, h0, h1, h2⟩ := trodAll_three hA
  obtain ⟨rfl, rfl⟩ := trodVars_none hV
  clear hA0
  simp only [List.append_nil] at hW' hk
  have g0 := h0
  obtain ⟨s0, l0, n0, e0, rfl, r0, w0, a0, b0⟩ := open_term (hval 0 26 v0 rfl rfl) h0
  have g1 := h1
  obtain ⟨s1, l1, n1, e1, rfl, r1, w1, a1, b1⟩ := open_term (hval 1 26 v1 rfl rfl) h1
  have g2 := h2
  obtain ⟨l2, r2, u2⟩ := open_names (hval 2 45 v2 rfl rfl) h2
  have z2 := names_bound u2 (bulk_part hk (show d2 ∈ [d0, d1, d2] by simp))
  refine (texts_any W (termtexts_table hL) s0 l0 n0 e0 r0 w0 a0.1 a0.2 b0.1 b0.2 s1 l1 n1 e1 r1 w1 a1.1 a1.2 b1.1 b1.2 v2 l2 r2 z2).mono fun r W' ⟨he, hb⟩ => ?_
  subst he
  exact ⟨_, rfl, post_of_below (pa := p0 ++ (p1 ++ p2)) (pv := []) hW' (fun _ _ _ => trodAll_mk1 (shut_bool Tryd.underlying4 _)) (fun sp hs => trodAll_mk3 (WideElems.Trod_stays termtexts_laidOut (by kernel_rfl) (of_decide_eq_true (by kernel_rfl)) g0 (fun x hx => hb.same (hW'.lt x (by simp [hx]))) (fun x hx => hs x (by simp [hx]))) (WideElems.Trod_stays termtexts_laidOut (by kernel_rfl) (of_decide_eq_true (by kernel_rfl)) g1 (fun x hx => hb.same (hW'.lt x (by simp [hx]))) (fun x hx => hs x (by simp [hx]))) (WideElems.Trod_stays termtexts_laidOut (by kernel_rfl) (of_decide_eq_true (by kernel_rfl)) g2 (fun x hx => hb.same (hW'.lt x (by simp [hx]))) (fun x hx => hs x (by simp [hx])))) (fun _ _ => rfl) (by simp) hb (ok_one (by kernel_rfl) rfl (okWide_bool_mk Tryd.underlying4 _))⟩

set_option maxRecDepth 100000 in
theorem termtexts_laid_met (os : Os) : laidMet Tryd.prog Rows.termTextsUptoRow.laid ((World.doorLaid Tryd.prog 400 os).forCall (fun _ _ => 0) ⟨#[], #[.agg #[.slice none 0 0, .int .i64 0, .int .i64 0], .agg #[.slice none 0 0, .int .i64 0, .int .i64 0], .slice none 0 0], []⟩).memory :=
  laidMet_of_run' 8 (by kernel_rfl) (by kernel_rfl)
set_option maxRecDepth 100000 in
theorem termtexts_reads (os : Os) {H : Type} (enc : TypeId × Value → H) : ∃ places, DataW.whole enc Tryd.prog ((World.doorLaid Tryd.prog 400 os).forCall (fun _ _ => 0) ⟨#[], #[.agg #[.slice none 0 0, .int .i64 0, .int .i64 0], .agg #[.slice none 0 0, .int .i64 0, .int .i64 0], .slice none 0 0], []⟩).memory Tryd.f5.params.toList Rows.termTextsSpec.vars false #[Value.agg #[.slice none 0 0, .int .i64 0, .int .i64 0], Value.agg #[.slice none 0 0, .int .i64 0, .int .i64 0], Value.slice none 0 0].toList 8 = some ([.agg [.nil, .agg [.lit (.int .i64 0), .lit (.int .i64 0)]], .agg [.nil, .agg [.lit (.int .i64 0), .lit (.int .i64 0)]], .nil], [], places) :=
  ⟨[], by kernel_rfl⟩

set_option maxRecDepth 100000 in
theorem termtexts_lifted (os : Os) (started : os.Started) (H : Type) (enc : TypeId × Value → H) (F : Stop.Interp) :
    ReturnsInHanded {} Tryd.checked os 5 .any ((Rows.OpenSpec.upto Rows.termTextsSpec).preRow enc Tryd.prog Tryd.f5 Rows.termTextsUptoRow.domain false Rows.termTextsUptoRow.laid) (((Rows.OpenSpec.upto Rows.termTextsSpec).at F).post enc Tryd.prog Tryd.f5 false true false false) := by
  obtain ⟨places, hx⟩ := termtexts_reads os enc
  refine returnsInHanded_of_row (C := Tryd.checked) (s := (Rows.OpenSpec.upto Rows.termTextsSpec)) Tryd.own started (by kernel_rfl) Tryd.func5
    (witness_row_at (enc := enc) (C := Tryd.checked) false (World.doorLaid Tryd.prog 400 os) #[.agg #[.slice none 0 0, .int .i64 0, .int .i64 0], .agg #[.slice none 0 0, .int .i64 0, .int .i64 0], .slice none 0 0] rfl (by kernel_rfl) (by kernel_rfl) (by kernel_rfl)
      (OpenSpec.preRow_of_cond 8 hx (by kernel_rfl) (fun k hk => by cases hk; kernel_rfl) (by kernel_rfl) (termtexts_laid_met os))) ?_
  intro W base args ds gs before hval hW _ hc _ hL _ _
  exact termtexts_contract H enc W base args ds gs before hval hW hL (hc _ rfl)

theorem termtexts_said : Rows.TermTextsUptoSaid :=
  OpenClaim.holds_of_cond 5 Tryd.f5 rfl rfl rfl rfl rfl rfl rfl ⟨rfl, rfl, rfl, rfl, rfl⟩ rfl rfl rfl rfl rfl (by kernel_rfl) Tryd.func5 (by kernel_rfl)
    (of_decide_eq_true (by kernel_rfl)) (by unfold Func.isWrapper; first | (rw [if_pos (by decide +kernel)]; kernel_rfl) | (rw [if_neg (by decide +kernel)]; exact ⟨rfl, rfl⟩))
    (fun os started H enc _ F => by rw [OpenClaim.pre_eq_preRow]; exact termtexts_lifted os started H enc F)

theorem termtexts_plain (f : FuncId) (fn : Func) (hf : Tryd.pinned.checked.prog.funcNamed "ballcock/ballcocklaw02.TermTexts" = some f) (hfn : Tryd.pinned.checked.prog.funcs[f]? = some fn) :
    false = Tryd.pinned.checked.prog.looks [] ∧ ∀ (j : Nat) t, fn.params[j]? = some t → Tryd.pinned.checked.prog.wantsStandIn t = false := by
  obtain rfl : f = 5 := Option.some.inj ((show Tryd.prog.funcNamed "ballcock/ballcocklaw02.TermTexts" = some 5 by kernel_rfl).symm.trans hf) |>.symm
  obtain rfl : fn = Tryd.f5 := (Option.some.inj (Tryd.func5.symm.trans hfn)).symm
  refine ⟨by kernel_rfl, fun j t ht => ?_⟩
  rw [Tryd.params5] at ht
  have hm : t = 26 ∨ t = 45 := by simpa using Array.mem_of_getElem? ht
  rcases hm with rfl | rfl
  · exact (show Tryd.prog.wantsStandIn 26 = false by kernel_rfl)
  · exact (show Tryd.prog.wantsStandIn 45 = false by kernel_rfl)

theorem termtexts_holds : Rows.TermTextsUptoCardSaid :=
  Claim7.holds_tied_plain_at .later [] _ _ _ _ termtexts_said (fun _ h => by cases h) (by kernel_rfl) (fun _ h => by cases h) termTextsUpto_row_tie rfl ⟨rfl, rfl⟩ (by kernel_rfl) rfl termtexts_plain (by kernel_rfl)
#print axioms termtexts_holds
end Go.Proofs.YtkgndeiddjkhmaaDoor
