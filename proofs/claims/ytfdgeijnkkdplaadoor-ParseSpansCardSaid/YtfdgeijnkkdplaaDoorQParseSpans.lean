/-
  What is proved: the statement ParseSpans, as its card: of any text that is a program, a node begins no later than what stands below it, and kids begin behind each other. Its conditions are the row's own (the tables as they are laid).
  (Template: by-name.py fills it; gen/card5.py writes it.)
-/
import Derived.Deep.LoopGhost
import Derived.Test.YtfdgeijnkkdplaaDoorCards
import Derived.Test.YtfdgeijnkkdplaaDoorTie
import Derived.OpenShut
import Derived.LaidMore
import Derived.Stop.Joined
import Derived.Stop.LaidErr
import Derived.Deep.DeepHandedRow
import Derived.ChangeMaps5
import Derived.SizedLaws
import Derived.Test.YtfdgeijnkkdplaaDoorQBD
import Derived.Test.YtfdgeijnkkdplaaDoorQBZ
set_option maxRecDepth 100000
set_option maxHeartbeats 8000000
namespace Go.Proofs.YtfdgeijnkkdplaaDoor
section
open Go.ChangeShapes Go.WideShapes Go.ChangeAt Go.RowKit Go.Joins
theorem parsespans_laidOut:laidOutB Tryd.prog=true:=by kernel_rfl
theorem ZdW (H:Type) (enc:TypeId×Value->H) (W:World) (base:Nat) (args:Array Value) (ds gs:List (DataW H)) (before:List MemPlace)
  (hval:∀ (j:Nat) t v,Tryd.f4.params[j]? = some t->args[j]? = some v->Value.okWide Tryd.prog W .any base t v)
  (hW:DataW.Whole enc Tryd.prog Tryd.f4.params.toList Rows.parseSpansSpec.vars false W args.toList ds gs before) (hL:laidMetH Tryd.prog Rows.parseSpansRow.laid W) :
  Calls Tryd.prog 4 args W fun e W'=>∃ v,e=.returned v/\Rows.parseSpansSpec.post enc Tryd.prog Tryd.f4 false true false false W args v W':=by
 have hW':=hW
 obtain ⟨p,q,hA0,hV,rfl,_,_⟩:=hW
 have hA:DataW.TrodAll enc Tryd.prog W 0 (fun _=>true) true Tryd.f4.params.toList args.toList ds p:=hA0
 rw [Tryd.params4] at hA hval
 obtain ⟨v0,d0,rfl,rfl,h0⟩:=trodAll_one hA
 obtain ⟨rfl,rfl⟩:=trodVars_none hV
 clear hA0
 simp only [List.append_nil] at hW'
 obtain ⟨s0,rfl,rfl,rfl,w0⟩:=Go.ChangeMaps.open_string Tryd.underlying9 (hval 0 9 v0 rfl rfl) h0
 refine (Zfg W (ZlP hL) s0 w0).mono fun r W' ⟨he,hb⟩=>?_
 subst he
 exact ⟨_,rfl,ZfU (pa:=[]) (pv:=[]) hW' (fun _ _ _=>trodAll_mk1 (shut_bool Tryd.underlying4 _)) (fun _ _=>trodAll_mk1 (Go.ChangeMaps.shut_string Tryd.underlying9 w0)) (fun _ _=>rfl) (by simp) hb (ok_one (by kernel_rfl) rfl (okWide_bool_mk Tryd.underlying4 _))⟩
theorem ZdX (os:Os):laidMet Tryd.prog Rows.parseSpansRow.laid ((World.doorLaid Tryd.prog 400 os).forCall (fun _ _=>0) ⟨#[],#[.string ⟨#[]⟩],[]⟩).memory:=
 laidMet_of_run' 8 (by kernel_rfl) (by kernel_rfl)
theorem ZeH (os:Os) {H:Type} (enc:TypeId×Value->H):∃ places,DataW.whole enc Tryd.prog ((World.doorLaid Tryd.prog 400 os).forCall (fun _ _=>0) ⟨#[],#[.string ⟨#[]⟩],[]⟩).memory Tryd.f4.params.toList Rows.parseSpansSpec.vars false #[Value.string ⟨#[]⟩].toList 8=some ([.lit (.string [])],[],places):=
 ⟨[],by kernel_rfl⟩
theorem parsespans_lifted (os:Os) (started:os.Started) (H:Type) (enc:TypeId×Value->H) (F:Stop.Interp) :
  ReturnsInHanded {} Tryd.checked os 4 .any ((OpenSpec.ofChange Rows.parseSpansSpec).preRow enc Tryd.prog Tryd.f4 Rows.parseSpansRow.domain false Rows.parseSpansRow.laid) (((OpenSpec.ofChange Rows.parseSpansSpec).at F).post enc Tryd.prog Tryd.f4 false true false false):=by
 obtain ⟨places,hx⟩:=ZeH os enc
 refine returnsInHanded_of_row (C:=Tryd.checked) (s:=(OpenSpec.ofChange Rows.parseSpansSpec)) Tryd.own started (by kernel_rfl) Tryd.func4
  (witness_row_at (enc:=enc) (C:=Tryd.checked) false (World.doorLaid Tryd.prog 400 os) #[.string ⟨#[]⟩] rfl (by kernel_rfl) (by kernel_rfl) (by kernel_rfl)
   (OpenSpec.preRow_of_cond 8 hx (by kernel_rfl) (fun k hk=>by cases hk) (by kernel_rfl) (ZdX os))) ?_
 intro W base args ds gs before hval hW _ _ _ hL _ _
 exact ZdW H enc W base args ds gs before hval hW hL
theorem Ze0:Rows.ParseSpansSaid:=
 OpenClaim.holds_of_cond 4 Tryd.f4 rfl rfl rfl rfl rfl rfl rfl ⟨rfl,rfl,rfl,rfl,rfl⟩ rfl rfl rfl rfl rfl (by kernel_rfl) Tryd.func4 (by kernel_rfl)
  (of_decide_eq_true (by kernel_rfl)) (by unfold Func.isWrapper;first | (rw [if_pos (by decide +kernel)];kernel_rfl) | (rw [if_neg (by decide +kernel)];exact ⟨rfl,rfl⟩))
  (fun os started H enc _ F=>by rw [OpenClaim.pre_eq_preRow];exact parsespans_lifted os started H enc F)
theorem ZeG (f:FuncId) (fn:Func) (hf:Tryd.pinned.checked.prog.funcNamed "ballcock/ballcocklaw07.ParseSpans"=some f) (hfn:Tryd.pinned.checked.prog.funcs[f]? = some fn) :
  true=Tryd.pinned.checked.prog.looks []/\∀ (j:Nat) t,fn.params[j]? = some t->Tryd.pinned.checked.prog.wantsStandIn t=false:=by
 obtain rfl:f=4:=Option.some.inj ((show Tryd.prog.funcNamed "ballcock/ballcocklaw07.ParseSpans"=some 4 by kernel_rfl).symm.trans hf) |>.symm
 obtain rfl:fn=Tryd.f4:=(Option.some.inj (Tryd.func4.symm.trans hfn)).symm
 refine ⟨by kernel_rfl,fun j t ht=>?_⟩
 rw [Tryd.params4] at ht
 have hm:t=9:=by simpa using Array.mem_of_getElem? ht
 subst hm
 exact (show Tryd.prog.wantsStandIn 9=false by kernel_rfl)
theorem parsespans_holds:Rows.ParseSpansCardSaid:=
 Claim7.holds_tied_plain_at .later [] _ _ _ _ Ze0 (fun _ h=>by cases h) (by kernel_rfl) (fun _ h=>by cases h) parseSpans_row_tie rfl ⟨rfl,rfl⟩ (by kernel_rfl) rfl ZeG (by kernel_rfl)
#print axioms parsespans_holds
end
end Go.Proofs.YtfdgeijnkkdplaaDoor
