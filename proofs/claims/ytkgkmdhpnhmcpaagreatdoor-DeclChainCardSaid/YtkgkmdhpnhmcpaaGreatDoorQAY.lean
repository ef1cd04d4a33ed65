import Derived.Test.YtkgkmdhpnhmcpaaGreatDoorRows
import Derived.ProofKit
import Derived.Below
import Derived.Lib.SmallJoins
import Derived.OpenShut
import Derived.WalkKit
import Derived.ChangeSlices
import Derived.SliceStrings
import Derived.Deep.Slices
import Derived.SizedLaws
import Derived.Test.YtkgkmdhpnhmcpaaGreatDoorQAM
import Derived.Test.YtkgkmdhpnhmcpaaGreatDoorQAN
set_option maxRecDepth 100000
set_option maxHeartbeats 8000000
namespace Go.Proofs.YtkgkmdhpnhmcpaaGreatDoor
section
open Go.RowKit
def Ziy (p:Pro):Nat:=p.states.length+p.moves.length+(p.moves.map (·.outs.length)).sum
end
section
open Go.RowKit Go.WideShapes Go.ChangeShapes Go.ChangeAt Go.Joins
section
variable {H:Type} {enc:TypeId×Value->H} {P:Program}
theorem Zee {f:Func} {s:ChangeSpec} {apart fresh handsOn again:Bool} {W W':World} {args:Array Value} {v:Value} {ds gs:List (DataW H)} {before pa pv:List MemPlace}
  (hW:DataW.Whole enc P f.params.toList s.vars apart W args.toList ds gs before)
  (hres:∀ (b:Nat) (sp:Nat->Bool) (hd:Bool),DataW.TrodAll enc P W' b sp hd f.resultTypes.toList (v.resultList f.resultTypes.size) (s.fn H (ds++gs)).results [])
  (hargs:∀ sp:Nat->Bool,(∀ p∈before,sp p.block=true)->DataW.TrodAll enc P W' 0 sp true f.params.toList args.toList (s.fn H (ds++gs)).args pa)
  (hvars:∀ sp:Nat->Bool,(∀ p∈before,sp p.block=true)->DataW.TrodVars enc P W' sp s.vars (s.fn H (ds++gs)).vars pv)
  (hps:before=pa++pv) (hb:Below W.heap.size W W')
  (hok:∀ (j:Nat) (t:TypeId) (r:Value),f.resultTypes[j]? = some t->(v.resultList f.resultTypes.size)[j]? = some r->Value.okWide P W' .any 0 t r) :
  s.post enc P f apart fresh handsOn again W args v W':=by
 have hlt:∀ p∈before,p.block<W.heap.size:=fun p hp=>hW.lt p hp
 have hold:∀ p∈before,(fun b=>decide (b<W.heap.size)) p.block=true:=fun p hp=>by simpa using hlt p hp
 refine ⟨ds,gs,before,[],pa,pv,hW,hres _ _ _,hargs _ hold,hvars _ hold,World.keptBut_mono (fun p hp=>⟨hp,?_⟩) (hb.frame (·∈before)),fun _=>?_⟩
 ·rw [hps,List.mem_append] at hp
  exact Or.inr hp
 ·obtain ⟨_,_,_,_,_,hz,hn⟩:=hW
  refine ⟨hok,_,_,([]++pa)++pv,⟨[]++pa,pv,trodAll_append (hargs _ (fun _ _=>rfl)) (hres _ _ _),hvars _ (fun _ _=>rfl),rfl,?_,?_⟩,?_⟩
  ·intro b off hp
   have hin:MemPlace.cell b off∈before:=by rw [hps];simpa using hp
   rw [hb.frozen (hlt _ hin)]
   exact hz b off hin
  ·intro ha
   have:=hn ha
   rw [hps] at this
   simpa using this
  ·intro p hp _
   rw [hps]
   simpa using hp
end
theorem Tryz.own:ownKnob Tryz.prog.godebug=none:=by kernel_rfl
end
section
open Go.RowKit Go.ChangeShapes Go.WideShapes Go.ChangeAt Go.Joins Go.Deep
section
variable {H:Type} {enc:TypeId×Value->H} {P:Program} {w:World} {base:Nat} {spare:Nat->Bool} {held:Bool} {α:Type} [Inhabited α]
end
instance:Inhabited Ou:=⟨⟨[],0⟩⟩
instance:Inhabited Sta:=⟨⟨[],false⟩⟩
instance:Inhabited (Value×Mov):=⟨(undef,⟨[],0,[]⟩)⟩
section
variable {H:Type} {enc:TypeId×Value->H} {w:World} {base:Nat} {spare:Nat->Bool} {held:Bool}
structure RchP (p:Pro):Prop where
 name:p.name.length<=reachBytes
 st:p.states.length<=reachBytes
 mv:p.moves.length<=reachBytes
 out:∀ m∈p.moves,m.outs.length<=reachBytes
 ns:∀ s∈p.states,s.name.length<=reachBytes
 no:∀ m∈p.moves,m.op.length<=reachBytes/\∀ o∈m.outs,o.name.length<=reachBytes
theorem Zg5:∀ (l:List Mov) (m:Mov),m∈l->m.outs.length<=(l.map (·.outs.length)).sum
 | x::r,m,hm=>by
  rw [List.map_cons,List.sum_cons]
  rcases List.mem_cons.1 hm with rfl | hm
  ·omega
  ·have:=Zg5 r m hm;omega
theorem RchP.sz {p:Pro} (h:RchP p) (hs:Ziy p<=80):SzP p:=by
 have r:reachBytes=140737488351232:=rfl
 unfold Ziy at hs
 exact ⟨by have:=h.name;omega,by omega,by omega,fun m hm=>by have:=Zg5 p.moves m hm;omega,fun s hs=>by have:=h.ns s hs;omega,fun m hm=>⟨by have:=(h.no m hm).1;omega,fun o ho=>by have:=(h.no m hm).2 o ho;omega⟩⟩
end
end
section
open Go.RowKit
theorem Zff (w:World) (a:Nat) (p:Pro) (h:Zc8 w a p) (hn:p.states.length<=16) :
  Calls Tryz.prog 10 #[.pointer (some ⟨a,0,none⟩)] w fun e w'=>e=.returned (.int .u32 (ZaK p:Nat))/\Below w.heap.size w w':=by
 obtain ⟨vs,vm,hB,hP⟩:=h
 have FI:=zh (Zdg w _ _ p hP hn)
 obtain ⟨As,cs,rfl,_⟩:=hP.states.len
 obtain ⟨Am,cm,rfl,_⟩:=hP.moves.len
 have c0:=hB.cell 0
 have c1:=hB.cell 1
 have c2:=hB.cell 2
 simp only [List.getElem?_toArray,List.getElem?_cons_zero,List.getElem?_cons_succ] at c0 c1 c2
 clear hB hP hn
 go_enter Tryz.func10,Tryz.ntmps10
 go_wp2_with (go_at_call 26;(with_reducible refine FI.out.mono ?_);rintro e w1 ⟨rfl,hb⟩)
 go_ret
 exact ⟨rfl,hb⟩
end
end Go.Proofs.YtkgkmdhpnhmcpaaGreatDoor
