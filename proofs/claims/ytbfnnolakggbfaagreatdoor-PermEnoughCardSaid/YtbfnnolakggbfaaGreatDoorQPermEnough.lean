/-
  What is proved: the statement PermEnough, as its card: which fractions are enough, and the text of a permission, are as the document says. Its conditions are the row's own (the tables as they are laid).
  (Template: by-name.py fills it; gen/card5.py writes it.)
-/
import Derived.Deep.LoopGhost
import Derived.Test.YtbfnnolakggbfaaGreatDoorCards
import Derived.Test.YtbfnnolakggbfaaGreatDoorTie
import Derived.OpenShut
import Derived.LaidMore
import Derived.Stop.Joined
import Derived.Stop.LaidErr
import Derived.Deep.DeepHandedRow
import Derived.ChangeMaps5
import Derived.SizedLaws
import Derived.Test.YtbfnnolakggbfaaGreatDoorQAK
import Derived.Test.YtbfnnolakggbfaaGreatDoorQBZ
set_option maxRecDepth 100000
set_option maxHeartbeats 8000000
open Go.Value renaming int → Yd
open Go.IntKind renaming i64 → Yf
open Go.ChangeShapes Go.WideShapes Go.ChangeAt Go.RowKit Go.Joins
namespace Go.Proofs.YtbfnnolakggbfaaGreatDoor
theorem permenough_laidOut:laidOutB Tryz.prog=true:=by kernel_rfl
theorem ZgU (H:Type) (enc:TypeId×Value->H) (W:World) (base:Nat) (args:Array Value) (l E:List (DataW H)) (b:List MemPlace)
  (a:∀(j:Nat) t v,Tryz.f3.params[j]? = some t->args[j]? = some v->Value.okWide Tryz.prog W .any base t v)
  (y:DataW.Whole enc Tryz.prog Tryz.f3.params.toList Rows.permEnoughSpec.vars false W args.toList l E b) (I:laidMetH Tryz.prog Rows.permEnoughRow.laid W) :
  Calls Tryz.prog 3 args W fun e i=>∃v,e=.returned v/\Rows.permEnoughSpec.post enc Tryz.prog Tryz.f3 false true false false W args v i:=by
 have c:=y;obtain⟨p,q,d,J,rfl,_,_⟩:=y;have w:DataW.TrodAll enc Tryz.prog W 0 (fun _=>true) true Tryz.f3.params.toList args.toList l p:=d;rw[Tryz.params3]at w a;obtain⟨v0,R,v2,k,d1,d2,O,U,V,rfl,rfl,rfl,u,F,G⟩:=trodAll_three w;obtain⟨rfl,rfl⟩:=trodVars_none J;clear d;simp only[List.append_nil]at c;have D:=u;obtain⟨k0,L,k,P,Q,rfl,m0,m,s⟩:=ZnP (a 0 26 v0 rfl rfl) u;obtain⟨M,S,rfl,rfl,rfl,A,n,g⟩:=ZlF (a 1 23 R rfl rfl) F;obtain⟨N,T,rfl,rfl,rfl,B,o,h⟩:=ZlF (a 2 23 v2 rfl rfl) G;refine(ZjF W (ZpE I) k0 L k P Q m0.1 m0.2 m.1 m.2 s.1 s.2 M S A.1 A.2 n.1 n.2 N T B.1 B.2 o.1 o.2).mono fun r i ⟨he,z⟩=>?_;subst he;exact⟨_,rfl,ZgN (pa:=O++([]++[])) (pv:=[]) c (fun _ _ _=>trodAll_mk1 (shut_bool Tryz.underlying4 _)) (fun C K=>trodAll_mk3 (WideElems.Trod_stays permenough_laidOut (by kernel_rfl) (of_decide_eq_true (by kernel_rfl)) D (fun x f=>z.same (c.lt x (by simp[f]))) (fun x f=>K x (by simp[f]))) (g _ _ C _) (h _ _ C _)) (fun _ _=>rfl) (by simp) z (ok_one (by kernel_rfl) rfl (okWide_bool_mk Tryz.underlying4 _))⟩
theorem ZgV (a:Os):laidMet Tryz.prog Rows.permEnoughRow.laid ((World.doorLaid Tryz.prog 400 a).forCall (fun _ _=>0) ⟨#[],#[.agg #[Yd Yf 0,Yd Yf 0,Yd Yf 0,Yd Yf 0,.int .u32 0],.agg #[Yd Yf 0,Yd Yf 0],.agg #[Yd Yf 0,Yd Yf 0]],[]⟩).memory:=
 laidMet_of_run' 8 (by kernel_rfl) (by kernel_rfl)
theorem ZiD (b:Os) {H:Type} (enc:TypeId×Value->H):∃a,DataW.whole enc Tryz.prog ((World.doorLaid Tryz.prog 400 b).forCall (fun _ _=>0) ⟨#[],#[.agg #[Yd Yf 0,Yd Yf 0,Yd Yf 0,Yd Yf 0,.int .u32 0],.agg #[Yd Yf 0,Yd Yf 0],.agg #[Yd Yf 0,Yd Yf 0]],[]⟩).memory Tryz.f3.params.toList Rows.permEnoughSpec.vars false #[Value.agg #[Yd Yf 0,Yd Yf 0,Yd Yf 0,Yd Yf 0,.int .u32 0],Value.agg #[Yd Yf 0,Yd Yf 0],Value.agg #[Yd Yf 0,Yd Yf 0]].toList 8=some ([.agg [.lit (.int Yf 0),.agg [.lit (.int Yf 0),.lit (.int Yf 0)],.lit (.int Yf 0),.lit (.int .u32 0)],.agg [.lit (.int Yf 0),.lit (.int Yf 0)],.agg [.lit (.int Yf 0),.lit (.int Yf 0)]],[],a):=
 ⟨[],by kernel_rfl⟩
theorem permenough_lifted (e:Os) (a:e.Started) (H:Type) (enc:TypeId×Value->H) (F:Stop.Interp) :
  ReturnsInHanded {} Tryz.checked e 3 .any ((OpenSpec.ofChange Rows.permEnoughSpec).preRow enc Tryz.prog Tryz.f3 Rows.permEnoughRow.domain false Rows.permEnoughRow.laid) (((OpenSpec.ofChange Rows.permEnoughSpec).at F).post enc Tryz.prog Tryz.f3 false true false false):=by
 obtain⟨f,m⟩:=ZiD e enc
 refine returnsInHanded_of_row (C:=Tryz.checked) (s:=(OpenSpec.ofChange Rows.permEnoughSpec)) Tryz.own a (by kernel_rfl) Tryz.func3
  (witness_row_at (enc:=enc) (C:=Tryz.checked) false (World.doorLaid Tryz.prog 400 e) #[.agg #[Yd Yf 0,Yd Yf 0,Yd Yf 0,Yd Yf 0,.int .u32 0],.agg #[Yd Yf 0,Yd Yf 0],.agg #[Yd Yf 0,Yd Yf 0]] rfl (by kernel_rfl) (by kernel_rfl) (by kernel_rfl)
   (OpenSpec.preRow_of_cond 8 m (by kernel_rfl) (fun k l=>by cases l) (by kernel_rfl) (ZgV e))) ?_
 intro W c args g h b d j _ _ _ i _ _;exact ZgU H enc W c args g h b d j i
theorem Zi6:Rows.PermEnoughSaid:=
 OpenClaim.holds_of_cond 3 Tryz.f3 rfl rfl rfl rfl rfl rfl rfl ⟨rfl,rfl,rfl,rfl,rfl⟩ rfl rfl rfl rfl rfl (by kernel_rfl) Tryz.func3 (by kernel_rfl)
  (of_decide_eq_true (by kernel_rfl)) (by unfold Func.isWrapper;first|(rw[Yo (by decide +kernel)];kernel_rfl)|(rw[Yn (by decide +kernel)];exact⟨rfl,rfl⟩))
  (fun c a H b _ F=>by rw[OpenClaim.pre_eq_preRow];exact permenough_lifted c a H b F)
theorem ZiC (f:FuncId) (a:Func) (d:Tryz.pinned.checked.prog.funcNamed "ballcock/ballcocklaw15.PermEnough"=some f) (b:Tryz.pinned.checked.prog.funcs[f]? = some a) :
  false=Tryz.pinned.checked.prog.looks []/\∀(j:Nat) t,a.params[j]? = some t->Tryz.pinned.checked.prog.wantsStandIn t=false:=by
 obtain rfl:f=3:=Option.some.inj ((show Tryz.prog.funcNamed "ballcock/ballcocklaw15.PermEnough"=some 3 by kernel_rfl).symm.trans d)|>.symm
 obtain rfl:a=Tryz.f3:=(Option.some.inj (Tryz.func3.symm.trans b)).symm;refine⟨by kernel_rfl,fun j t c=>?_⟩;rw[Tryz.params3]at c;have hm:t=26\/t=23:=by simpa using Array.mem_of_getElem? c
 rcases hm with rfl|rfl
 ·exact(show Tryz.prog.wantsStandIn 26=false by kernel_rfl)
 ·exact(show Tryz.prog.wantsStandIn 23=false by kernel_rfl)
theorem permenough_holds:Rows.PermEnoughCardSaid:=
 Claim7.holds_tied_plain_at .later [] _ _ _ _ Zi6 (fun _ h=>by cases h) (by kernel_rfl) (fun _ h=>by cases h) permEnough_row_tie rfl ⟨rfl,rfl⟩ (by kernel_rfl) rfl ZiC (by kernel_rfl)
#print axioms permenough_holds
end Go.Proofs.YtbfnnolakggbfaaGreatDoor
