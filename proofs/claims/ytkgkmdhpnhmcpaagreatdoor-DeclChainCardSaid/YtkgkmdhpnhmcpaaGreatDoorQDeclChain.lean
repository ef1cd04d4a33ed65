/-
  What is proved: the statement DeclChain, as its card: a chain of states, each with one way on, is a right protocol just if its last one is final, and there are not too many. Its conditions are the row's own (the tables as they are laid).
  (Template: by-name.py fills it; gen/card5.py writes it.)
-/
import Derived.Deep.LoopGhost
import Derived.Test.YtkgkmdhpnhmcpaaGreatDoorCards
import Derived.Test.YtkgkmdhpnhmcpaaGreatDoorTie
import Derived.OpenShut
import Derived.LaidMore
import Derived.Stop.Joined
import Derived.Stop.LaidErr
import Derived.Deep.DeepHandedRow
import Derived.ChangeMaps5
import Derived.SizedLaws
import Derived.Test.YtkgkmdhpnhmcpaaGreatDoorQAY
import Derived.Test.YtkgkmdhpnhmcpaaGreatDoorQBT
import Derived.Test.YtkgkmdhpnhmcpaaGreatDoorQBZ
set_option maxRecDepth 100000
set_option maxHeartbeats 8000000
namespace Go.Proofs.YtkgkmdhpnhmcpaaGreatDoor
section
open Go.ChangeShapes Go.WideShapes Go.ChangeAt Go.RowKit Go.Joins
theorem declchain_laidOut:laidOutB Tryz.prog=true:=by kernel_rfl
theorem Zcy (H:Type) (enc:TypeId×Value->H) (W:World) (base:Nat) (args:Array Value) (ds gs:List (DataW H)) (before:List MemPlace)
  (hval:∀ (j:Nat) t v,Tryz.f3.params[j]? = some t->args[j]? = some v->Value.okWide Tryz.prog W .any base t v)
  (hW:DataW.Whole enc Tryz.prog Tryz.f3.params.toList Rows.declChainSpec.vars false W args.toList ds gs before) (hL:laidMetH Tryz.prog Rows.declChainRow.laid W) :
  Calls Tryz.prog 3 args W fun e W'=>∃ v,e=.returned v/\Rows.declChainSpec.post enc Tryz.prog Tryz.f3 false true false false W args v W':=by
 have hW':=hW
 obtain ⟨p,q,hA0,hV,rfl,_,_⟩:=hW
 have hA:DataW.TrodAll enc Tryz.prog W 0 (fun _=>true) true Tryz.f3.params.toList args.toList ds p:=hA0
 rw [Tryz.params3] at hA hval
 obtain ⟨v0,v1,d0,d1,p0,p1,rfl,rfl,rfl,h0,h1⟩:=trodAll_two hA
 obtain ⟨rfl,rfl⟩:=trodVars_none hV
 clear hA0
 simp only [List.append_nil] at hW'
 obtain ⟨n0,rfl,rfl,rfl,a0⟩:=open_int Tryz.underlying5 (hval 0 5 v0 rfl rfl) h0
 obtain ⟨b1,rfl,rfl,rfl⟩:=open_bool Tryz.underlying4 (hval 1 4 v1 rfl rfl) h1
 refine (Zf4 W (ZiY hL) n0 a0 b1).mono fun r W' ⟨he,hb⟩=>?_
 subst he
 exact ⟨_,rfl,Zee (pa:=[]++[]) (pv:=[]) hW' (fun _ _ _=>trodAll_mk1 (shut_bool Tryz.underlying4 _)) (fun _ _=>trodAll_mk2 (shut_int Tryz.underlying5 a0) (shut_bool Tryz.underlying4 b1)) (fun _ _=>rfl) (by simp) hb (ok_one (by kernel_rfl) rfl (okWide_bool_mk Tryz.underlying4 _))⟩
theorem Zcz (os:Os):laidMet Tryz.prog Rows.declChainRow.laid ((World.doorLaid Tryz.prog 400 os).forCall (fun _ _=>0) ⟨#[],#[.int .u8 0,.bool false],[]⟩).memory:=
 laidMet_of_run' 8 (by kernel_rfl) (by kernel_rfl)
theorem Zdd (os:Os) {H:Type} (enc:TypeId×Value->H):∃ places,DataW.whole enc Tryz.prog ((World.doorLaid Tryz.prog 400 os).forCall (fun _ _=>0) ⟨#[],#[.int .u8 0,.bool false],[]⟩).memory Tryz.f3.params.toList Rows.declChainSpec.vars false #[Value.int .u8 0,Value.bool false].toList 8=some ([.lit (.int .u8 0),.lit (.bool false)],[],places):=
 ⟨[],by kernel_rfl⟩
theorem declchain_lifted (os:Os) (started:os.Started) (H:Type) (enc:TypeId×Value->H) (F:Stop.Interp) :
  ReturnsInHanded {} Tryz.checked os 3 .any ((OpenSpec.ofChange Rows.declChainSpec).preRow enc Tryz.prog Tryz.f3 Rows.declChainRow.domain false Rows.declChainRow.laid) (((OpenSpec.ofChange Rows.declChainSpec).at F).post enc Tryz.prog Tryz.f3 false true false false):=by
 obtain ⟨places,hx⟩:=Zdd os enc
 refine returnsInHanded_of_row (C:=Tryz.checked) (s:=(OpenSpec.ofChange Rows.declChainSpec)) Tryz.own started (by kernel_rfl) Tryz.func3
  (witness_row_at (enc:=enc) (C:=Tryz.checked) false (World.doorLaid Tryz.prog 400 os) #[.int .u8 0,.bool false] rfl (by kernel_rfl) (by kernel_rfl) (by kernel_rfl)
   (OpenSpec.preRow_of_cond 8 hx (by kernel_rfl) (fun k hk=>by cases hk) (by kernel_rfl) (Zcz os))) ?_
 intro W base args ds gs before hval hW _ _ _ hL _ _
 exact Zcy H enc W base args ds gs before hval hW hL
theorem ZdA:Rows.DeclChainSaid:=
 OpenClaim.holds_of_cond 3 Tryz.f3 rfl rfl rfl rfl rfl rfl rfl ⟨rfl,rfl,rfl,rfl,rfl⟩ rfl rfl rfl rfl rfl (by kernel_rfl) Tryz.func3 (by kernel_rfl)
  (of_decide_eq_true (by kernel_rfl)) (by unfold Func.isWrapper;first | (rw [if_pos (by decide +kernel)];kernel_rfl) | (rw [if_neg (by decide +kernel)];exact ⟨rfl,rfl⟩))
  (fun os started H enc _ F=>by rw [OpenClaim.pre_eq_preRow];exact declchain_lifted os started H enc F)
theorem Zdc (f:FuncId) (fn:Func) (hf:Tryz.pinned.checked.prog.funcNamed "ballcock/ballcocklaw11.DeclChain"=some f) (hfn:Tryz.pinned.checked.prog.funcs[f]? = some fn) :
  false=Tryz.pinned.checked.prog.looks []/\∀ (j:Nat) t,fn.params[j]? = some t->Tryz.pinned.checked.prog.wantsStandIn t=false:=by
 obtain rfl:f=3:=Option.some.inj ((show Tryz.prog.funcNamed "ballcock/ballcocklaw11.DeclChain"=some 3 by kernel_rfl).symm.trans hf) |>.symm
 obtain rfl:fn=Tryz.f3:=(Option.some.inj (Tryz.func3.symm.trans hfn)).symm
 refine ⟨by kernel_rfl,fun j t ht=>?_⟩
 rw [Tryz.params3] at ht
 have hm:t=5\/t=4:=by simpa using Array.mem_of_getElem? ht
 rcases hm with rfl | rfl
 ·exact (show Tryz.prog.wantsStandIn 5=false by kernel_rfl)
 ·exact (show Tryz.prog.wantsStandIn 4=false by kernel_rfl)
theorem declchain_holds:Rows.DeclChainCardSaid:=
 Claim7.holds_tied_plain_at .later [] _ _ _ _ ZdA (fun _ h=>by cases h) (by kernel_rfl) (fun _ h=>by cases h) declChain_row_tie rfl ⟨rfl,rfl⟩ (by kernel_rfl) rfl Zdc (by kernel_rfl)
#print axioms declchain_holds
end
end Go.Proofs.YtkgkmdhpnhmcpaaGreatDoor
