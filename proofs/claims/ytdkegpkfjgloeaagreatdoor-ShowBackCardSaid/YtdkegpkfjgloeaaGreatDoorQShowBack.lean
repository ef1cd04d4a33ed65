/-
  What is proved: the statement ShowBack, as its card: what is shown of a right tree is read as the same tree. Its conditions are the row's own (the tables as they are laid).
  (Template: by-name.py fills it; gen/card5.py writes it.)
-/
import Derived.Deep.LoopGhost
import Derived.Test.YtdkegpkfjgloeaaGreatDoorCards
import Derived.Test.YtdkegpkfjgloeaaGreatDoorTie
import Derived.OpenShut
import Derived.LaidMore
import Derived.Stop.Joined
import Derived.Stop.LaidErr
import Derived.Deep.DeepHandedRow
import Derived.ChangeMaps5
import Derived.SizedLaws
import Derived.Test.YtdkegpkfjgloeaaGreatDoorQAM
import Derived.Test.YtdkegpkfjgloeaaGreatDoorQBZ
set_option maxRecDepth 100000
set_option maxHeartbeats 8000000
open Go.ChangeShapes Go.WideShapes Go.ChangeAt Go.RowKit Go.Joins
namespace Go.Proofs.YtdkegpkfjgloeaaGreatDoor
theorem showback_laidOut:laidOutB Tryz.prog=true:=by kernel_rfl
theorem ZhW (H:Type) (enc:TypeId×Value->H) (W:World) (d:Nat) (args:Array Value) (g i:List (DataW H)) (a:List MemPlace)
  (b:∀(j:Nat) t v,Tryz.f3.params[j]? = some t->args[j]? = some v->Value.okWide Tryz.prog W .any d t v)
  (m:DataW.Whole enc Tryz.prog Tryz.f3.params.toList Rows.showBackSpec.vars false W args.toList g i a) (y:laidMetH Tryz.prog Rows.showBackRow.laid W) (s:(DataW.weightsEach Tryz.prog (Tryz.f3.params.toList++((OpenSpec.ofChange Rows.showBackSpec)).bare.plain.varTypes Tryz.prog) (g++i)).all (·<=reachBytes)=true) :
  Calls Tryz.prog 3 args W fun e h=>∃v,e=.returned v/\Rows.showBackSpec.post enc Tryz.prog Tryz.f3 false true false false W args v h:=by
 have c:=m;obtain⟨p,q,f,z,rfl,_,_⟩:=m;have l:DataW.TrodAll enc Tryz.prog W 0 (fun _=>true) true Tryz.f3.params.toList args.toList g p:=f;rw[Tryz.params3]at l b s;obtain⟨v0,E,rfl,rfl,k⟩:=trodAll_one l;obtain⟨rfl,rfl⟩:=trodVars_none z;clear f;simp only[List.append_nil]at c;have w:=k;obtain⟨u,C,D⟩:=Zns (b 0 22 v0 rfl rfl) k;have z0:Zee u:=D (fun n hn=>by have q:=List.all_eq_true.1 s n (DataW.weights_mem_each (j:=0) rfl rfl n hn);simpa using q);refine(Zlg W (ZqT y) v0 u C z0).mono fun r h ⟨A,o⟩=>?_;subst A;exact⟨_,rfl,Zj7 (pa:=p) (pv:=[]) c (fun _ _ _=>trodAll_mk1 (shut_bool Tryz.underlying4 _)) (fun F B=>trodAll_mk1 (WideElems.Trod_stays showback_laidOut (by kernel_rfl) (of_decide_eq_true (by kernel_rfl)) w (fun x hx=>o.same (c.lt x (by simp[hx]))) (fun x hx=>B x (by simp[hx])))) (fun _ _=>rfl) (by simp) o (ok_one (by kernel_rfl) rfl (okWide_bool_mk Tryz.underlying4 _))⟩
theorem ZhX (a:Os):laidMet Tryz.prog Rows.showBackRow.laid ((World.doorLaid Tryz.prog 400 a).forCall (fun _ _=>0) ⟨#[],#[.slice none 0 0],[]⟩).memory:=
 laidMet_of_run' 8 (by kernel_rfl) (by kernel_rfl)
theorem Zjo (b:Os) {H:Type} (enc:TypeId×Value->H):∃a,DataW.whole enc Tryz.prog ((World.doorLaid Tryz.prog 400 b).forCall (fun _ _=>0) ⟨#[],#[.slice none 0 0],[]⟩).memory Tryz.f3.params.toList Rows.showBackSpec.vars false #[Value.slice none 0 0].toList 8=some ([.nil],[],a):=
 ⟨[],by kernel_rfl⟩
theorem showback_lifted (e:Os) (a:e.Started) (H:Type) (enc:TypeId×Value->H) (F:Stop.Interp) :
  ReturnsInHanded {} Tryz.checked e 3 .any ((OpenSpec.ofChange Rows.showBackSpec).preRow enc Tryz.prog Tryz.f3 Rows.showBackRow.domain false Rows.showBackRow.laid) (((OpenSpec.ofChange Rows.showBackSpec).at F).post enc Tryz.prog Tryz.f3 false true false false):=by
 obtain⟨f,hx⟩:=Zjo e enc
 refine returnsInHanded_of_row (C:=Tryz.checked) (s:=(OpenSpec.ofChange Rows.showBackSpec)) Tryz.own a (by kernel_rfl) Tryz.func3
  (witness_row_at (enc:=enc) (C:=Tryz.checked) false (World.doorLaid Tryz.prog 400 e) #[.slice none 0 0] rfl (by kernel_rfl) (by kernel_rfl) (by kernel_rfl)
   (OpenSpec.preRow_of_cond 8 hx (by kernel_rfl) (fun k hk=>by cases hk) (by kernel_rfl) (ZhX e))) ?_
 intro W c args g h b d j _ _ l i _ _;exact ZhW H enc W c args g h b d j i l
theorem Zka:Rows.ShowBackSaid:=
 OpenClaim.holds_of_cond 3 Tryz.f3 rfl rfl rfl rfl rfl rfl rfl ⟨rfl,rfl,rfl,rfl,rfl⟩ rfl rfl rfl rfl rfl (by kernel_rfl) Tryz.func3 (by kernel_rfl)
  (of_decide_eq_true (by kernel_rfl)) (by unfold Func.isWrapper;first|(rw[Yo (by decide +kernel)];kernel_rfl)|(rw[Yn (by decide +kernel)];exact⟨rfl,rfl⟩))
  (fun c a H b _ F=>by rw[OpenClaim.pre_eq_preRow];exact showback_lifted c a H b F)
theorem Zjn (f:FuncId) (a:Func) (d:Tryz.pinned.checked.prog.funcNamed "ballcock/ballcocklaw08.ShowBack"=some f) (b:Tryz.pinned.checked.prog.funcs[f]? = some a) :
  false=Tryz.pinned.checked.prog.looks []/\∀(j:Nat) t,a.params[j]? = some t->Tryz.pinned.checked.prog.wantsStandIn t=false:=by
 obtain rfl:f=3:=Option.some.inj ((show Tryz.prog.funcNamed "ballcock/ballcocklaw08.ShowBack"=some 3 by kernel_rfl).symm.trans d)|>.symm
 obtain rfl:a=Tryz.f3:=(Option.some.inj (Tryz.func3.symm.trans b)).symm;refine⟨by kernel_rfl,fun j t c=>?_⟩;rw[Tryz.params3]at c;have hm:t=22:=by simpa using Array.mem_of_getElem? c
 subst hm;exact(show Tryz.prog.wantsStandIn 22=false by kernel_rfl)
theorem showback_holds:Rows.ShowBackCardSaid:=
 Claim7.holds_tied_plain_at .later [] _ _ _ _ Zka (fun _ h=>by cases h) (by kernel_rfl) (fun _ h=>by cases h) showBack_row_tie rfl ⟨rfl,rfl⟩ (by kernel_rfl) rfl Zjn (by kernel_rfl)
#print axioms showback_holds
end Go.Proofs.YtdkegpkfjgloeaaGreatDoor
