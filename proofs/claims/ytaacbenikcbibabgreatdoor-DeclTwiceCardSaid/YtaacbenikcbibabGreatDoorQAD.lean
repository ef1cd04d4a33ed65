import Derived.Test.YtaacbenikcbibabGreatDoorRows
import Derived.ProofKit
import Derived.Below
import Derived.Lib.SmallJoins
import Derived.OpenShut
import Derived.WalkKit
import Derived.Test.YtaacbenikcbibabGreatDoorQAC
set_option maxRecDepth 100000
set_option maxHeartbeats 8000000
namespace Go.Proofs.YtaacbenikcbibabGreatDoor
section
open Go.RowKit
theorem Zin (w0 w:World) (v:Value) (l:List (Ou)) (b:Nat) (t:Nat->Bool) (R:Nat->World->Prop) (hl:Zak 2 ouC (fun _ x=>x.name.length<=maxLen) w0 v l) (hb:Below w0.heap.size w0 w) (h0:R 0 w)
  (hf:∀ (k:Nat) (x:Ou) (wr:World),l[k]? = some x->Below w0.heap.size w0 wr->R k wr->Calls Tryz.prog 74 #[.agg #[txt x.name,.int .i64 x.to],.pointer (some ⟨b,0,none⟩)] wr fun e w'=>e=.returned (.bool (t k))/\Below w0.heap.size w0 w'/\R (k+1) w') :
  Calls Tryz.prog 45 #[v,.func (.func 74) #[] #[.pointer (some ⟨b,0,none⟩)]] w fun e w'=>e=.returned (.bool ((List.range l.length).any t))/\Below w0.heap.size w0 w'/\∃ k,R k w':=by
 have IXH:=Lib.hid (Ziz w0 w v l b t R hl hb h0 hf)
 have EQ:=Lib.hid (Zdc (t:=t) (n:=l.length))
 clear hl hb h0 hf
 generalize (List.range l.length).any t=B at *
 generalize ZH t l.length=z at *
 go_enter Tryz.func45,Tryz.ntmps45
 go_wp2_with (go_at_call 68;(with_reducible refine IXH.out.mono ?_);rintro e w1 ⟨rfl,hb1,hr1⟩;have H1:=Lib.hid (And.intro hb1 hr1);clear hb1 hr1)
 go_ret
 exact ⟨by rw [<- EQ.out];rfl,H1.out⟩
theorem ZiV (w0 w:World) (v:Value) (l:List (Ou)) (b:Nat) (t:Nat->Bool) (R:Nat->World->Prop) (hl:Zak 2 ouC (fun _ x=>x.name.length<=maxLen) w0 v l) (hb:Below w0.heap.size w0 w) (h0:R 0 w)
  (hf:∀ (k:Nat) (x:Ou) (wr:World),l[k]? = some x->Below w0.heap.size w0 wr->R k wr->Calls Tryz.prog 99 #[.agg #[txt x.name,.int .i64 x.to],.pointer (some ⟨b,0,none⟩)] wr fun e w'=>e=.returned (.bool (t k))/\Below w0.heap.size w0 w'/\R (k+1) w') :
  Calls Tryz.prog 45 #[v,.func (.func 99) #[] #[.pointer (some ⟨b,0,none⟩)]] w fun e w'=>e=.returned (.bool ((List.range l.length).any t))/\Below w0.heap.size w0 w'/\∃ k,R k w':=by
 have IXH:=Lib.hid (ZiY w0 w v l b t R hl hb h0 hf)
 have EQ:=Lib.hid (Zdc (t:=t) (n:=l.length))
 clear hl hb h0 hf
 generalize (List.range l.length).any t=B at *
 generalize ZH t l.length=z at *
 go_enter Tryz.func45,Tryz.ntmps45
 go_wp2_with (go_at_call 68;(with_reducible refine IXH.out.mono ?_);rintro e w1 ⟨rfl,hb1,hr1⟩;have H1:=Lib.hid (And.intro hb1 hr1);clear hb1 hr1)
 go_ret
 exact ⟨by rw [<- EQ.out];rfl,H1.out⟩
end
section
open Go.RowKit Go.WideShapes Go.ChangeShapes Go.ChangeAt Go.Joins
section
variable {H:Type} {enc:TypeId×Value->H} {P:Program}
theorem Zd8 {f:Func} {s:ChangeSpec} {apart fresh handsOn again:Bool} {W W':World} {args:Array Value} {v:Value} {ds gs:List (DataW H)} {before pa pv:List MemPlace}
  (hW:DataW.Whole enc P f.params.toList s.vars apart W args.toList ds gs before)
  (hres:∀ (b:Nat) (sp:Nat->Bool) (hd:Bool),DataW.TrodAll enc P W' b sp hd f.resultTypes.toList (v.resultList f.resultTypes.size) (s.fn H (ds++gs)).results [])
  (hargs:∀ sp:Nat->Bool,(∀ p∈before,sp p.block=true)->DataW.TrodAll enc P W' 0 sp true f.params.toList args.toList (s.fn H (ds++gs)).args pa)
  (hvars:∀ sp:Nat->Bool,(∀ p∈before,sp p.block=true)->DataW.TrodVars enc P W' sp s.vars (s.fn H (ds++gs)).vars pv)
  (hps:before=pa++pv) (hb:Below W.heap.size W W')
  (hok:∀ (j:Nat) (t:TypeId) (r:Value),f.resultTypes[j]? = some t->(v.resultList f.resultTypes.size)[j]? = some r->Value.okWide P W' .any 0 t r) :
  s.post enc P f apart fresh handsOn again W args v W':=by
 have hlt:∀ p∈before,p.block<W.heap.size:=fun p hp=>hW.lt p hp
 have hold:∀ p∈before,(fun b=>decide (b<W.heap.size)) p.block=true:=fun p hp=>by simpa using hlt p hp
 refine ⟨ds,gs,before,[],pa,pv,hW,hres _ _ _,hargs _ hold,hvars _ hold,World.keptBut_mono (fun p hp=>⟨hp,?_⟩) (hb.frame (·∈before)),fun _=>?_⟩
 ·rw [hps,List.mem_append] at hp
  exact Or.inr hp
 ·obtain ⟨_,_,_,_,_,hz,hn⟩:=hW
  refine ⟨hok,_,_,([]++pa)++pv,⟨[]++pa,pv,trodAll_append (hargs _ (fun _ _=>rfl)) (hres _ _ _),hvars _ (fun _ _=>rfl),rfl,?_,?_⟩,?_⟩
  ·intro b off hp
   have hin:MemPlace.cell b off∈before:=by rw [hps];simpa using hp
   rw [hb.frozen (hlt _ hin)]
   exact hz b off hin
  ·intro ha
   have:=hn ha
   rw [hps] at this
   simpa using this
  ·intro p hp _
   rw [hps]
   simpa using hp
end
theorem Tryz.own:ownKnob Tryz.prog.godebug=none:=by kernel_rfl
end
end Go.Proofs.YtaacbenikcbibabGreatDoor
