/-
  What is proved: the statement ShowFixed, as its card: the text of a text's program, read and shown again, is the same. Its conditions are the row's own (the tables as they are laid).
  (Template: by-name.py fills it; gen/card5.py writes it.)
-/
import Derived.Deep.LoopGhost
import Derived.Test.YtfbepcelkijgkaaGreatDoorCards
import Derived.Test.YtfbepcelkijgkaaGreatDoorTie
import Derived.OpenShut
import Derived.LaidMore
import Derived.Stop.Joined
import Derived.Stop.LaidErr
import Derived.Deep.DeepHandedRow
import Derived.ChangeMaps5
import Derived.SizedLaws
import Derived.Test.YtfbepcelkijgkaaGreatDoorQAF
import Derived.Test.YtfbepcelkijgkaaGreatDoorQBZ
set_option maxRecDepth 100000
set_option maxHeartbeats 8000000
namespace Go.Proofs.YtfbepcelkijgkaaGreatDoor
section
open Go.ChangeShapes Go.WideShapes Go.ChangeAt Go.RowKit Go.Joins
theorem showfixed_laidOut:laidOutB Tryz.prog=true:=by kernel_rfl
theorem ZhK (H:Type) (enc:TypeId×Value->H) (W:World) (c:Nat) (args:Array Value) (h m:List (DataW H)) (a:List MemPlace)
  (b:∀(j:Nat) t v,Tryz.f4.params[j]? = some t->args[j]? = some v->Value.okWide Tryz.prog W .any c t v)
  (k:DataW.Whole enc Tryz.prog Tryz.f4.params.toList Rows.showFixedSpec.vars false W args.toList h m a) (o:laidMetH Tryz.prog Rows.showFixedRow.laid W) :
  Calls Tryz.prog 4 args W fun e g=>∃v,e=.returned v/\Rows.showFixedSpec.post enc Tryz.prog Tryz.f4 false true false false W args v g:=by
 have f:=k;obtain⟨p,q,d,s,rfl,_,_⟩:=k;have i:DataW.TrodAll enc Tryz.prog W 0 (fun _=>true) true Tryz.f4.params.toList args.toList h p:=d;rw[Tryz.params4]at i b;obtain⟨v0,z,rfl,rfl,n⟩:=trodAll_one i;obtain⟨rfl,rfl⟩:=trodVars_none s;clear d;simp only[List.append_nil]at f;obtain⟨y,rfl,rfl,rfl,l⟩:=Go.ChangeMaps.open_string Tryz.underlying9 (b 0 9 v0 rfl rfl) n;refine(Zkt W (ZqI o) y l).mono fun r g ⟨w,u⟩=>?_;subst w;exact⟨_,rfl,Zkq (pa:=[]) (pv:=[]) f (fun _ _ _=>trodAll_mk1 (shut_bool Tryz.underlying4 _)) (fun _ _=>trodAll_mk1 (Go.ChangeMaps.shut_string Tryz.underlying9 l)) (fun _ _=>rfl) (by simp) u (ok_one (by kernel_rfl) rfl (okWide_bool_mk Tryz.underlying4 _))⟩
theorem ZhL (a:Os):laidMet Tryz.prog Rows.showFixedRow.laid ((World.doorLaid Tryz.prog 400 a).forCall (fun _ _=>0) ⟨#[],#[.string ⟨#[]⟩],[]⟩).memory:=
 laidMet_of_run' 8 (by kernel_rfl) (by kernel_rfl)
theorem Zjj (b:Os) {H:Type} (enc:TypeId×Value->H):∃a,DataW.whole enc Tryz.prog ((World.doorLaid Tryz.prog 400 b).forCall (fun _ _=>0) ⟨#[],#[.string ⟨#[]⟩],[]⟩).memory Tryz.f4.params.toList Rows.showFixedSpec.vars false #[Value.string ⟨#[]⟩].toList 8=some ([.lit (.string [])],[],a):=
 ⟨[],by kernel_rfl⟩
theorem showfixed_lifted (e:Os) (a:e.Started) (H:Type) (enc:TypeId×Value->H) (F:Stop.Interp) :
  ReturnsInHanded {} Tryz.checked e 4 .any ((OpenSpec.ofChange Rows.showFixedSpec).preRow enc Tryz.prog Tryz.f4 Rows.showFixedRow.domain false Rows.showFixedRow.laid) (((OpenSpec.ofChange Rows.showFixedSpec).at F).post enc Tryz.prog Tryz.f4 false true false false):=by
 obtain⟨f,hx⟩:=Zjj e enc
 refine returnsInHanded_of_row (C:=Tryz.checked) (s:=(OpenSpec.ofChange Rows.showFixedSpec)) Tryz.own a (by kernel_rfl) Tryz.func4
  (witness_row_at (enc:=enc) (C:=Tryz.checked) false (World.doorLaid Tryz.prog 400 e) #[.string ⟨#[]⟩] rfl (by kernel_rfl) (by kernel_rfl) (by kernel_rfl)
   (OpenSpec.preRow_of_cond 8 hx (by kernel_rfl) (fun k hk=>by cases hk) (by kernel_rfl) (ZhL e))) ?_
 intro W c args g h b d j _ _ _ i _ _;exact ZhK H enc W c args g h b d j i
theorem ZjG:Rows.ShowFixedSaid:=
 OpenClaim.holds_of_cond 4 Tryz.f4 rfl rfl rfl rfl rfl rfl rfl ⟨rfl,rfl,rfl,rfl,rfl⟩ rfl rfl rfl rfl rfl (by kernel_rfl) Tryz.func4 (by kernel_rfl)
  (of_decide_eq_true (by kernel_rfl)) (by unfold Func.isWrapper;first|(rw[Yo (by decide +kernel)];kernel_rfl)|(rw[Yn (by decide +kernel)];exact⟨rfl,rfl⟩))
  (fun c a H b _ F=>by rw[OpenClaim.pre_eq_preRow];exact showfixed_lifted c a H b F)
theorem Zji (f:FuncId) (a:Func) (d:Tryz.pinned.checked.prog.funcNamed "ballcock/ballcocklaw08.ShowFixed"=some f) (b:Tryz.pinned.checked.prog.funcs[f]? = some a) :
  false=Tryz.pinned.checked.prog.looks []/\∀(j:Nat) t,a.params[j]? = some t->Tryz.pinned.checked.prog.wantsStandIn t=false:=by
 obtain rfl:f=4:=Option.some.inj ((show Tryz.prog.funcNamed "ballcock/ballcocklaw08.ShowFixed"=some 4 by kernel_rfl).symm.trans d)|>.symm
 obtain rfl:a=Tryz.f4:=(Option.some.inj (Tryz.func4.symm.trans b)).symm;refine⟨by kernel_rfl,fun j t c=>?_⟩;rw[Tryz.params4]at c;have hm:t=9:=by simpa using Array.mem_of_getElem? c
 subst hm;exact(show Tryz.prog.wantsStandIn 9=false by kernel_rfl)
theorem showfixed_holds:Rows.ShowFixedCardSaid:=
 Claim7.holds_tied_plain_at .later [] _ _ _ _ ZjG (fun _ h=>by cases h) (by kernel_rfl) (fun _ h=>by cases h) showFixed_row_tie rfl ⟨rfl,rfl⟩ (by kernel_rfl) rfl Zji (by kernel_rfl)
#print axioms showfixed_holds
end
end Go.Proofs.YtfbepcelkijgkaaGreatDoor
