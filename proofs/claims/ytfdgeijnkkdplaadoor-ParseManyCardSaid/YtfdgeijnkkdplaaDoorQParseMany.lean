/-
  What is proved: the statement ParseMany, as its card: of any two numbers, a text of so many functions with so many statements has as many of them. Its conditions are the row's own (the tables as they are laid).
  (Template: by-name.py fills it; gen/card5.py writes it.)
-/
import Derived.Deep.LoopGhost
import Derived.Test.YtfdgeijnkkdplaaDoorCards
import Derived.Test.YtfdgeijnkkdplaaDoorTie
import Derived.OpenShut
import Derived.LaidMore
import Derived.Stop.Joined
import Derived.Stop.LaidErr
import Derived.Deep.DeepHandedRow
import Derived.ChangeMaps5
import Derived.SizedLaws
import Derived.Test.YtfdgeijnkkdplaaDoorQBF
import Derived.Test.YtfdgeijnkkdplaaDoorQBZ
set_option maxRecDepth 100000
set_option maxHeartbeats 8000000
namespace Go.Proofs.YtfdgeijnkkdplaaDoor
section
open Go.ChangeShapes Go.WideShapes Go.ChangeAt Go.RowKit Go.Joins
theorem parsemany_laidOut:laidOutB Tryd.prog=true:=by kernel_rfl
theorem ZdN (H:Type) (enc:TypeId×Value->H) (W:World) (base:Nat) (args:Array Value) (ds gs:List (DataW H)) (before:List MemPlace)
  (hval:∀ (j:Nat) t v,Tryd.f3.params[j]? = some t->args[j]? = some v->Value.okWide Tryd.prog W .any base t v)
  (hW:DataW.Whole enc Tryd.prog Tryd.f3.params.toList Rows.parseManySpec.vars false W args.toList ds gs before) (hL:laidMetH Tryd.prog Rows.parseManyRow.laid W) :
  Calls Tryd.prog 3 args W fun e W'=>∃ v,e=.returned v/\Rows.parseManySpec.post enc Tryd.prog Tryd.f3 false true false false W args v W':=by
 have hW':=hW
 obtain ⟨p,q,hA0,hV,rfl,_,_⟩:=hW
 have hA:DataW.TrodAll enc Tryd.prog W 0 (fun _=>true) true Tryd.f3.params.toList args.toList ds p:=hA0
 rw [Tryd.params3] at hA hval
 obtain ⟨v0,v1,d0,d1,p0,p1,rfl,rfl,rfl,h0,h1⟩:=trodAll_two hA
 obtain ⟨rfl,rfl⟩:=trodVars_none hV
 clear hA0
 simp only [List.append_nil] at hW'
 obtain ⟨n0,rfl,rfl,rfl,a0⟩:=open_int Tryd.underlying5 (hval 0 5 v0 rfl rfl) h0
 obtain ⟨n1,rfl,rfl,rfl,a1⟩:=open_int Tryd.underlying5 (hval 1 5 v1 rfl rfl) h1
 refine (ZfH W (ZlE hL) n0 a0 n1 a1).mono fun r W' ⟨he,hb⟩=>?_
 subst he
 exact ⟨_,rfl,ZfJ (pa:=[]++[]) (pv:=[]) hW' (fun _ _ _=>trodAll_mk1 (shut_bool Tryd.underlying4 _)) (fun _ _=>trodAll_mk2 (shut_int Tryd.underlying5 a0) (shut_int Tryd.underlying5 a1)) (fun _ _=>rfl) (by simp) hb (ok_one (by kernel_rfl) rfl (okWide_bool_mk Tryd.underlying4 _))⟩
theorem ZdO (os:Os):laidMet Tryd.prog Rows.parseManyRow.laid ((World.doorLaid Tryd.prog 400 os).forCall (fun _ _=>0) ⟨#[],#[.int .u8 0,.int .u8 0],[]⟩).memory:=
 laidMet_of_run' 8 (by kernel_rfl) (by kernel_rfl)
theorem ZeH (os:Os) {H:Type} (enc:TypeId×Value->H):∃ places,DataW.whole enc Tryd.prog ((World.doorLaid Tryd.prog 400 os).forCall (fun _ _=>0) ⟨#[],#[.int .u8 0,.int .u8 0],[]⟩).memory Tryd.f3.params.toList Rows.parseManySpec.vars false #[Value.int .u8 0,Value.int .u8 0].toList 8=some ([.lit (.int .u8 0),.lit (.int .u8 0)],[],places):=
 ⟨[],by kernel_rfl⟩
theorem parsemany_lifted (os:Os) (started:os.Started) (H:Type) (enc:TypeId×Value->H) (F:Stop.Interp) :
  ReturnsInHanded {} Tryd.checked os 3 .any ((OpenSpec.ofChange Rows.parseManySpec).preRow enc Tryd.prog Tryd.f3 Rows.parseManyRow.domain false Rows.parseManyRow.laid) (((OpenSpec.ofChange Rows.parseManySpec).at F).post enc Tryd.prog Tryd.f3 false true false false):=by
 obtain ⟨places,hx⟩:=ZeH os enc
 refine returnsInHanded_of_row (C:=Tryd.checked) (s:=(OpenSpec.ofChange Rows.parseManySpec)) Tryd.own started (by kernel_rfl) Tryd.func3
  (witness_row_at (enc:=enc) (C:=Tryd.checked) false (World.doorLaid Tryd.prog 400 os) #[.int .u8 0,.int .u8 0] rfl (by kernel_rfl) (by kernel_rfl) (by kernel_rfl)
   (OpenSpec.preRow_of_cond 8 hx (by kernel_rfl) (fun k hk=>by cases hk) (by kernel_rfl) (ZdO os))) ?_
 intro W base args ds gs before hval hW _ _ _ hL _ _
 exact ZdN H enc W base args ds gs before hval hW hL
theorem ZeZ:Rows.ParseManySaid:=
 OpenClaim.holds_of_cond 3 Tryd.f3 rfl rfl rfl rfl rfl rfl rfl ⟨rfl,rfl,rfl,rfl,rfl⟩ rfl rfl rfl rfl rfl (by kernel_rfl) Tryd.func3 (by kernel_rfl)
  (of_decide_eq_true (by kernel_rfl)) (by unfold Func.isWrapper;first | (rw [if_pos (by decide +kernel)];kernel_rfl) | (rw [if_neg (by decide +kernel)];exact ⟨rfl,rfl⟩))
  (fun os started H enc _ F=>by rw [OpenClaim.pre_eq_preRow];exact parsemany_lifted os started H enc F)
theorem ZeG (f:FuncId) (fn:Func) (hf:Tryd.pinned.checked.prog.funcNamed "ballcock/ballcocklaw07.ParseMany"=some f) (hfn:Tryd.pinned.checked.prog.funcs[f]? = some fn) :
  true=Tryd.pinned.checked.prog.looks []/\∀ (j:Nat) t,fn.params[j]? = some t->Tryd.pinned.checked.prog.wantsStandIn t=false:=by
 obtain rfl:f=3:=Option.some.inj ((show Tryd.prog.funcNamed "ballcock/ballcocklaw07.ParseMany"=some 3 by kernel_rfl).symm.trans hf) |>.symm
 obtain rfl:fn=Tryd.f3:=(Option.some.inj (Tryd.func3.symm.trans hfn)).symm
 refine ⟨by kernel_rfl,fun j t ht=>?_⟩
 rw [Tryd.params3] at ht
 have hm:t=5:=by simpa using Array.mem_of_getElem? ht
 subst hm
 exact (show Tryd.prog.wantsStandIn 5=false by kernel_rfl)
theorem parsemany_holds:Rows.ParseManyCardSaid:=
 Claim7.holds_tied_plain_at .later [] _ _ _ _ ZeZ (fun _ h=>by cases h) (by kernel_rfl) (fun _ h=>by cases h) parseMany_row_tie rfl ⟨rfl,rfl⟩ (by kernel_rfl) rfl ZeG (by kernel_rfl)
#print axioms parsemany_holds
end
end Go.Proofs.YtfdgeijnkkdplaaDoor
