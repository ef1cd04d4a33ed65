/-
  What is proved: the statement ShowParts, as its card: of two trees put together the text is that of one, and then that of the other. Its conditions are the row's own (the tables as they are laid).
  (Template: by-name.py fills it; gen/card5.py writes it.)
-/
import Derived.Deep.LoopGhost
import Derived.Test.YtenbomphkihmlaaGreatDoorCards
import Derived.Test.YtenbomphkihmlaaGreatDoorTie
import Derived.OpenShut
import Derived.LaidMore
import Derived.Stop.Joined
import Derived.Stop.LaidErr
import Derived.Deep.DeepHandedRow
import Derived.ChangeMaps5
import Derived.SizedLaws
import Derived.Test.YtenbomphkihmlaaGreatDoorQBF
import Derived.Test.YtenbomphkihmlaaGreatDoorQBZ
set_option maxRecDepth 100000
set_option maxHeartbeats 8000000
namespace Go.Proofs.YtenbomphkihmlaaGreatDoor
section
open Go.ChangeShapes Go.WideShapes Go.ChangeAt Go.RowKit Go.Joins
theorem showparts_laidOut:laidOutB Tryz.prog=true:=by kernel_rfl
theorem Zdt (H:Type) (enc:TypeId×Value->H) (W:World) (base:Nat) (args:Array Value) (ds gs:List (DataW H)) (before:List MemPlace)
  (hval:∀ (j:Nat) t v,Tryz.f3.params[j]? = some t->args[j]? = some v->Value.okWide Tryz.prog W .any base t v)
  (hW:DataW.Whole enc Tryz.prog Tryz.f3.params.toList Rows.showPartsSpec.vars false W args.toList ds gs before) (hL:laidMetH Tryz.prog Rows.showPartsRow.laid W) (hz:(DataW.weightsEach Tryz.prog (Tryz.f3.params.toList++((OpenSpec.ofChange Rows.showPartsSpec)).bare.plain.varTypes Tryz.prog) (ds++gs)).all (·<=reachBytes)=true) :
  Calls Tryz.prog 3 args W fun e W'=>∃ v,e=.returned v/\Rows.showPartsSpec.post enc Tryz.prog Tryz.f3 false true false false W args v W':=by
 have hW':=hW
 obtain ⟨p,q,hA0,hV,rfl,_,_⟩:=hW
 have hA:DataW.TrodAll enc Tryz.prog W 0 (fun _=>true) true Tryz.f3.params.toList args.toList ds p:=hA0
 rw [Tryz.params3] at hA hval hz
 obtain ⟨v0,v1,d0,d1,p0,p1,rfl,rfl,rfl,h0,h1⟩:=trodAll_two hA
 obtain ⟨rfl,rfl⟩:=trodVars_none hV
 clear hA0
 simp only [List.append_nil] at hW'
 have g0:=h0
 obtain ⟨l0,w0,y0⟩:=Zee (hval 0 22 v0 rfl rfl) h0
 have z0:Zbw l0:=y0 (fun n hn=>by have q:=List.all_eq_true.1 hz n (DataW.weights_mem_each (j:=0) rfl rfl n hn);simpa using q)
 have g1:=h1
 obtain ⟨l1,w1,y1⟩:=Zee (hval 1 22 v1 rfl rfl) h1
 have z1:Zbw l1:=y1 (fun n hn=>by have q:=List.all_eq_true.1 hz n (DataW.weights_mem_each (j:=1) rfl rfl n hn);simpa using q)
 refine (Zff W (Zjk hL) v0 l0 w0 z0 v1 l1 w1 z1).mono fun r W' ⟨he,hb⟩=>?_
 subst he
 exact ⟨_,rfl,Zfd (pa:=p0++p1) (pv:=[]) hW' (fun _ _ _=>trodAll_mk1 (shut_bool Tryz.underlying4 _)) (fun sp hs=>trodAll_mk2 (WideElems.Trod_stays showparts_laidOut (by kernel_rfl) (of_decide_eq_true (by kernel_rfl)) g0 (fun x hx=>hb.same (hW'.lt x (by simp [hx]))) (fun x hx=>hs x (by simp [hx]))) (WideElems.Trod_stays showparts_laidOut (by kernel_rfl) (of_decide_eq_true (by kernel_rfl)) g1 (fun x hx=>hb.same (hW'.lt x (by simp [hx]))) (fun x hx=>hs x (by simp [hx])))) (fun _ _=>rfl) (by simp) hb (ok_one (by kernel_rfl) rfl (okWide_bool_mk Tryz.underlying4 _))⟩
theorem Zdu (os:Os):laidMet Tryz.prog Rows.showPartsRow.laid ((World.doorLaid Tryz.prog 400 os).forCall (fun _ _=>0) ⟨#[],#[.slice none 0 0,.slice none 0 0],[]⟩).memory:=
 laidMet_of_run' 8 (by kernel_rfl) (by kernel_rfl)
theorem Zen (os:Os) {H:Type} (enc:TypeId×Value->H):∃ places,DataW.whole enc Tryz.prog ((World.doorLaid Tryz.prog 400 os).forCall (fun _ _=>0) ⟨#[],#[.slice none 0 0,.slice none 0 0],[]⟩).memory Tryz.f3.params.toList Rows.showPartsSpec.vars false #[Value.slice none 0 0,Value.slice none 0 0].toList 8=some ([.nil,.nil],[],places):=
 ⟨[],by kernel_rfl⟩
theorem showparts_lifted (os:Os) (started:os.Started) (H:Type) (enc:TypeId×Value->H) (F:Stop.Interp) :
  ReturnsInHanded {} Tryz.checked os 3 .any ((OpenSpec.ofChange Rows.showPartsSpec).preRow enc Tryz.prog Tryz.f3 Rows.showPartsRow.domain false Rows.showPartsRow.laid) (((OpenSpec.ofChange Rows.showPartsSpec).at F).post enc Tryz.prog Tryz.f3 false true false false):=by
 obtain ⟨places,hx⟩:=Zen os enc
 refine returnsInHanded_of_row (C:=Tryz.checked) (s:=(OpenSpec.ofChange Rows.showPartsSpec)) Tryz.own started (by kernel_rfl) Tryz.func3
  (witness_row_at (enc:=enc) (C:=Tryz.checked) false (World.doorLaid Tryz.prog 400 os) #[.slice none 0 0,.slice none 0 0] rfl (by kernel_rfl) (by kernel_rfl) (by kernel_rfl)
   (OpenSpec.preRow_of_cond 8 hx (by kernel_rfl) (fun k hk=>by cases hk) (by kernel_rfl) (Zdu os))) ?_
 intro W base args ds gs before hval hW _ _ hz hL _ _
 exact Zdt H enc W base args ds gs before hval hW hL hz
theorem ZeD:Rows.ShowPartsSaid:=
 OpenClaim.holds_of_cond 3 Tryz.f3 rfl rfl rfl rfl rfl rfl rfl ⟨rfl,rfl,rfl,rfl,rfl⟩ rfl rfl rfl rfl rfl (by kernel_rfl) Tryz.func3 (by kernel_rfl)
  (of_decide_eq_true (by kernel_rfl)) (by unfold Func.isWrapper;first | (rw [if_pos (by decide +kernel)];kernel_rfl) | (rw [if_neg (by decide +kernel)];exact ⟨rfl,rfl⟩))
  (fun os started H enc _ F=>by rw [OpenClaim.pre_eq_preRow];exact showparts_lifted os started H enc F)
theorem Zem (f:FuncId) (fn:Func) (hf:Tryz.pinned.checked.prog.funcNamed "ballcock/ballcocklaw08.ShowParts"=some f) (hfn:Tryz.pinned.checked.prog.funcs[f]? = some fn) :
  false=Tryz.pinned.checked.prog.looks []/\∀ (j:Nat) t,fn.params[j]? = some t->Tryz.pinned.checked.prog.wantsStandIn t=false:=by
 obtain rfl:f=3:=Option.some.inj ((show Tryz.prog.funcNamed "ballcock/ballcocklaw08.ShowParts"=some 3 by kernel_rfl).symm.trans hf) |>.symm
 obtain rfl:fn=Tryz.f3:=(Option.some.inj (Tryz.func3.symm.trans hfn)).symm
 refine ⟨by kernel_rfl,fun j t ht=>?_⟩
 rw [Tryz.params3] at ht
 have hm:t=22:=by simpa using Array.mem_of_getElem? ht
 subst hm
 exact (show Tryz.prog.wantsStandIn 22=false by kernel_rfl)
theorem showparts_holds:Rows.ShowPartsCardSaid:=
 Claim7.holds_tied_plain_at .later [] _ _ _ _ ZeD (fun _ h=>by cases h) (by kernel_rfl) (fun _ h=>by cases h) showParts_row_tie rfl ⟨rfl,rfl⟩ (by kernel_rfl) rfl Zem (by kernel_rfl)
#print axioms showparts_holds
end
end Go.Proofs.YtenbomphkihmlaaGreatDoor
