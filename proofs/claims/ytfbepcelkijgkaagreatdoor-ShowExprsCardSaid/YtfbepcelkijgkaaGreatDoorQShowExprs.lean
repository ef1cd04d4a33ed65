/-
  What is proved: the statement ShowExprs, as its card: an expression's text, read again, is the same expression. Its conditions are the row's own (the tables as they are laid).
  (Template: by-name.py fills it; gen/card5.py writes it.)
-/
import Derived.Deep.LoopGhost
import Derived.Test.YtfbepcelkijgkaaGreatDoorCards
import Derived.Test.YtfbepcelkijgkaaGreatDoorTie
import Derived.OpenShut
import Derived.LaidMore
import Derived.Stop.Joined
import Derived.Stop.LaidErr
import Derived.Deep.DeepHandedRow
import Derived.ChangeMaps5
import Derived.SizedLaws
import Derived.Test.YtfbepcelkijgkaaGreatDoorQBE
import Derived.Test.YtfbepcelkijgkaaGreatDoorQBZ
set_option maxRecDepth 100000
set_option maxHeartbeats 8000000
namespace Go.Proofs.YtfbepcelkijgkaaGreatDoor
section
open Go.ChangeShapes Go.WideShapes Go.ChangeAt Go.RowKit Go.Joins
theorem showexprs_laidOut:laidOutB Tryz.prog=true:=by kernel_rfl
theorem Zhp (H:Type) (enc:TypeId×Value->H) (W:World) (d:Nat) (args:Array Value) (g k:List (DataW H)) (b:List MemPlace)
  (a:∀(j:Nat) t v,Tryz.f5.params[j]? = some t->args[j]? = some v->Value.okWide Tryz.prog W .any d t v)
  (o:DataW.Whole enc Tryz.prog Tryz.f5.params.toList Rows.showExprsSpec.vars false W args.toList g k b) (A:laidMetH Tryz.prog Rows.showExprsRow.laid W) (u:(DataW.weightsEach Tryz.prog (Tryz.f5.params.toList++((OpenSpec.ofChange Rows.showExprsSpec)).bare.plain.varTypes Tryz.prog) (g++k)).all (·<=reachBytes)=true) :
  Calls Tryz.prog 5 args W fun e h=>∃v,e=.returned v/\Rows.showExprsSpec.post enc Tryz.prog Tryz.f5 false true false false W args v h:=by
 have c:=o;obtain⟨p,q,f,B,rfl,_,_⟩:=o;have m:DataW.TrodAll enc Tryz.prog W 0 (fun _=>true) true Tryz.f5.params.toList args.toList g p:=f;rw[Tryz.params5]at m a u;obtain⟨v0,I,L,M,G,N,rfl,rfl,rfl,l,z⟩:=trodAll_two m;obtain⟨rfl,rfl⟩:=trodVars_none B;clear f;simp only[List.append_nil]at c;have y:=l;obtain⟨w,J,K⟩:=Znk (a 0 22 v0 rfl rfl) l;have z0:Zd4 w:=K (fun n D=>by have q:=List.all_eq_true.1 u n (DataW.weights_mem_each (j:=0) rfl rfl n D);simpa using q);obtain⟨F,rfl,rfl,rfl,i⟩:=open_int Tryz.underlying3 (a 1 3 I rfl rfl) z;refine(Zj9 W (Zqu A) v0 w J z0 F i).mono fun r h ⟨C,s⟩=>?_;subst C;exact⟨_,rfl,Zj6 (pa:=G++[]) (pv:=[]) c (fun _ _ _=>trodAll_mk1 (shut_bool Tryz.underlying4 _)) (fun O E=>trodAll_mk2 (WideElems.Trod_stays showexprs_laidOut (by kernel_rfl) (of_decide_eq_true (by kernel_rfl)) y (fun x hx=>s.same (c.lt x (by simp[hx]))) (fun x hx=>E x (by simp[hx]))) (shut_int Tryz.underlying3 i)) (fun _ _=>rfl) (by simp) s (ok_one (by kernel_rfl) rfl (okWide_bool_mk Tryz.underlying4 _))⟩
theorem Zhq (a:Os):laidMet Tryz.prog Rows.showExprsRow.laid ((World.doorLaid Tryz.prog 400 a).forCall (fun _ _=>0) ⟨#[],#[.slice none 0 0,.int .i64 0],[]⟩).memory:=
 laidMet_of_run' 8 (by kernel_rfl) (by kernel_rfl)
theorem ZiV (b:Os) {H:Type} (enc:TypeId×Value->H):∃a,DataW.whole enc Tryz.prog ((World.doorLaid Tryz.prog 400 b).forCall (fun _ _=>0) ⟨#[],#[.slice none 0 0,.int .i64 0],[]⟩).memory Tryz.f5.params.toList Rows.showExprsSpec.vars false #[Value.slice none 0 0,Value.int .i64 0].toList 8=some ([.nil,.lit (.int .i64 0)],[],a):=
 ⟨[],by kernel_rfl⟩
theorem showexprs_lifted (e:Os) (a:e.Started) (H:Type) (enc:TypeId×Value->H) (F:Stop.Interp) :
  ReturnsInHanded {} Tryz.checked e 5 .any ((OpenSpec.ofChange Rows.showExprsSpec).preRow enc Tryz.prog Tryz.f5 Rows.showExprsRow.domain false Rows.showExprsRow.laid) (((OpenSpec.ofChange Rows.showExprsSpec).at F).post enc Tryz.prog Tryz.f5 false true false false):=by
 obtain⟨f,hx⟩:=ZiV e enc
 refine returnsInHanded_of_row (C:=Tryz.checked) (s:=(OpenSpec.ofChange Rows.showExprsSpec)) Tryz.own a (by kernel_rfl) Tryz.func5
  (witness_row_at (enc:=enc) (C:=Tryz.checked) false (World.doorLaid Tryz.prog 400 e) #[.slice none 0 0,.int .i64 0] rfl (by kernel_rfl) (by kernel_rfl) (by kernel_rfl)
   (OpenSpec.preRow_of_cond 8 hx (by kernel_rfl) (fun k hk=>by cases hk) (by kernel_rfl) (Zhq e))) ?_
 intro W c args g h b d j _ _ l i _ _;exact Zhp H enc W c args g h b d j i l
theorem Zjk:Rows.ShowExprsSaid:=
 OpenClaim.holds_of_cond 5 Tryz.f5 rfl rfl rfl rfl rfl rfl rfl ⟨rfl,rfl,rfl,rfl,rfl⟩ rfl rfl rfl rfl rfl (by kernel_rfl) Tryz.func5 (by kernel_rfl)
  (of_decide_eq_true (by kernel_rfl)) (by unfold Func.isWrapper;first|(rw[Yo (by decide +kernel)];kernel_rfl)|(rw[Yn (by decide +kernel)];exact⟨rfl,rfl⟩))
  (fun c a H b _ F=>by rw[OpenClaim.pre_eq_preRow];exact showexprs_lifted c a H b F)
theorem ZiU (f:FuncId) (a:Func) (d:Tryz.pinned.checked.prog.funcNamed "ballcock/ballcocklaw08.ShowExprs"=some f) (b:Tryz.pinned.checked.prog.funcs[f]? = some a) :
  false=Tryz.pinned.checked.prog.looks []/\∀(j:Nat) t,a.params[j]? = some t->Tryz.pinned.checked.prog.wantsStandIn t=false:=by
 obtain rfl:f=5:=Option.some.inj ((show Tryz.prog.funcNamed "ballcock/ballcocklaw08.ShowExprs"=some 5 by kernel_rfl).symm.trans d)|>.symm
 obtain rfl:a=Tryz.f5:=(Option.some.inj (Tryz.func5.symm.trans b)).symm;refine⟨by kernel_rfl,fun j t c=>?_⟩;rw[Tryz.params5]at c;have hm:t=22\/t=3:=by simpa using Array.mem_of_getElem? c
 rcases hm with rfl|rfl
 ·exact(show Tryz.prog.wantsStandIn 22=false by kernel_rfl)
 ·exact(show Tryz.prog.wantsStandIn 3=false by kernel_rfl)
theorem showexprs_holds:Rows.ShowExprsCardSaid:=
 Claim7.holds_tied_plain_at .later [] _ _ _ _ Zjk (fun _ h=>by cases h) (by kernel_rfl) (fun _ h=>by cases h) showExprs_row_tie rfl ⟨rfl,rfl⟩ (by kernel_rfl) rfl ZiU (by kernel_rfl)
#print axioms showexprs_holds
end
end Go.Proofs.YtfbepcelkijgkaaGreatDoor
