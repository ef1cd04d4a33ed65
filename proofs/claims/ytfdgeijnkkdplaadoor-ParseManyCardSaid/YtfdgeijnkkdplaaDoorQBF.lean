import Derived.Test.YtfdgeijnkkdplaaDoorRows
import Derived.ProofKit
import Derived.Below
import Derived.Lib.SmallJoins
import Derived.OpenShut
import Derived.WalkKit
import Derived.Test.YtfdgeijnkkdplaaDoorQBE
set_option maxRecDepth 100000
set_option maxHeartbeats 8000000
namespace Go.Proofs.YtfdgeijnkkdplaaDoor
section
open Go Go.RowKit
section
variable {w0:World} {bp c:Nat} {ad:Addr} {L:List Tok}
theorem Zgb (hL:LaidP w0) (w:World) (s:PS) (d:Int) (h:ParQ w0 w bp ad c L s) (hd:s.deep=d) (st:PS->Tr×PS) (hst:ZJ st) (hE:Zw w0 bp c ad L 40 #[pV bp] (Dd d) (Zm L st)) (hgo:Gon L s (Zax L st s).2) :
  Calls Tryd.prog 65 #[pV bp] w (Zl w0 w bp c ad L (Dd d) s (Zax L st s)):=by
 have hpl:=zh (ZQ (L:=L) h.err)
 have HK:=zh hL.keys
 have hR:=zh (show Zax L st s=(.mk 12 [(Za L s).1] [] (Zj L s) [(Zm L st (Za L s).2).1],(Zm L st (Za L s).2).2) from rfl)
 have HS:=zh (show Stk (Za L s).2 (Zax L st s).2 by rw [hR.out];exact Zal hst _)
 have HG:=zh hgo
 have HE:=zh hE
 have BG:=zh (ZK w0 w bp c ad L s h 12)
 have T1:=zh (fun w' h'=>ZR w0 w' bp c ad L s h' HK.out)
 have H:=zh (zi h hd)
 clear h hd hE hgo hst hL
 go_enter Tryd.func65,Tryd.ntmps65
 go_upto_region 2 with (go_at_call 19;(refine BG.out.mono ?_);rintro e1 wb ⟨b,rfl,T,hb,hB⟩)
 have G1:=zh (Way.start H.out.1 T hb hB)
 rw [hpl.out] at G1
 clear T hb hB
 go_upto_region 3 with (go_at_call 32;(refine (T1.out _ G1.out.P).mono ?_);rintro e2 w1 ⟨hF,hok,hbd⟩;by_cases z:(Za L s).2.err=0;(case neg=>(obtain rfl:=hbd z;exact zi rfl (Zl.bad (G1.out.F.trans hF) (HS.out) z)));obtain ⟨_,rfl,hP,rfl⟩:=hok z;have G2:=zh (G1.out.call hP hF);obtain ⟨⟨u3,_,q3⟩,_,q4⟩:=G2.out.putA 1 (by decide);clear hP hF hok hbd)
 clear z q3 q4
 have G3:=zh (G2.out.words1 (Za L s).1)
 generalize World.setCell (World.alloc w1 _) _ _=w2 at *
 go_upto_region 4 with (first | (go_at_call 40;(refine (HE.out _ (Za L s).2 G3.out.P ((Zaj s).trans H.out.2)).mono ?_);rintro e2 w3 ⟨hF,hok,hbd⟩;by_cases z:(Zm L st (Za L s).2).2.err=0;(case neg=>(obtain rfl:=hbd z;exact zi rfl (Zl.bad (G3.out.F.trans hF) (Zbe hR.out) z)));obtain ⟨gk,rfl,hP,hD3,hat,hT⟩:=hok z;have K3:=zh ((WayK.of G3.out).got hP hF hT);have D3:=zh hD3;clear hP hF hok hbd hT hat hD3) | (go_at_call 23;(refine (K3.out.add (by simp) (m:=1) rfl (by decide)).mono ?_);rintro e2 w4 ⟨rfl,hW⟩;have G4:=zh hW;clear hW))
 (try clear z)
 go_wp2_with fail
 go_ret
 exact Zl.fin HG.out H.out.2 hR.out G4.out.F G4.out.P G4.out.done
end
end
section
open Go.RowKit Go.WideShapes Go.ChangeShapes Go.ChangeAt Go.Joins
section
variable {H:Type} {enc:TypeId×Value->H} {P:Program}
theorem ZfJ {f:Func} {s:ChangeSpec} {apart fresh handsOn again:Bool} {W W':World} {args:Array Value} {v:Value} {ds gs:List (DataW H)} {before pa pv:List MemPlace}
  (hW:DataW.Whole enc P f.params.toList s.vars apart W args.toList ds gs before)
  (hres:∀ (b:Nat) (sp:Nat->Bool) (hd:Bool),DataW.TrodAll enc P W' b sp hd f.resultTypes.toList (v.resultList f.resultTypes.size) (s.fn H (ds++gs)).results [])
  (hargs:∀ sp:Nat->Bool,(∀ p∈before,sp p.block=true)->DataW.TrodAll enc P W' 0 sp true f.params.toList args.toList (s.fn H (ds++gs)).args pa)
  (hvars:∀ sp:Nat->Bool,(∀ p∈before,sp p.block=true)->DataW.TrodVars enc P W' sp s.vars (s.fn H (ds++gs)).vars pv)
  (hps:before=pa++pv) (hb:Below W.heap.size W W')
  (hok:∀ (j:Nat) (t:TypeId) (r:Value),f.resultTypes[j]? = some t->(v.resultList f.resultTypes.size)[j]? = some r->Value.okWide P W' .any 0 t r) :
  s.post enc P f apart fresh handsOn again W args v W':=by
 have hlt:∀ p∈before,p.block<W.heap.size:=fun p hp=>hW.lt p hp
 have hold:∀ p∈before,(fun b=>decide (b<W.heap.size)) p.block=true:=fun p hp=>by simpa using hlt p hp
 refine ⟨ds,gs,before,[],pa,pv,hW,hres _ _ _,hargs _ hold,hvars _ hold,World.keptBut_mono (fun p hp=>⟨hp,?_⟩) (hb.frame (·∈before)),fun _=>?_⟩
 ·rw [hps,List.mem_append] at hp
  exact Or.inr hp
 ·obtain ⟨_,_,_,_,_,hz,hn⟩:=hW
  refine ⟨hok,_,_,([]++pa)++pv,⟨[]++pa,pv,trodAll_append (hargs _ (fun _ _=>rfl)) (hres _ _ _),hvars _ (fun _ _=>rfl),rfl,?_,?_⟩,?_⟩
  ·intro b off hp
   have hin:MemPlace.cell b off∈before:=by rw [hps];simpa using hp
   rw [hb.frozen (hlt _ hin)]
   exact hz b off hin
  ·intro ha
   have:=hn ha
   rw [hps] at this
   simpa using this
  ·intro p hp _
   rw [hps]
   simpa using hp
end
theorem Tryd.own:ownKnob Tryd.prog.godebug=none:=by kernel_rfl
end
end Go.Proofs.YtfdgeijnkkdplaaDoor
