import Derived.Test.YtfdgeijnkkdplaaDoorQAL
import Derived.Test.YtfdgeijnkkdplaaDoorQAU
set_option maxRecDepth 100000
set_option maxHeartbeats 8000000
namespace Go.Proofs.YtfdgeijnkkdplaaDoor
section
open Go.RowKit
theorem ParQ.past {w0 w:World} {bp c:Nat} {ad:Addr} {L:List Tok} {s:PS} (h:ParQ w0 w bp ad c L s) {b:Nat} (hb:bp<b) (i:Nat) (v:Value):ParQ w0 (w.setCell ⟨b,i,none⟩ v) bp ad c L s:=
 ⟨h.box.other (fun e=>by dsimp only at e;omega) v,h.toks,h.below.setCell (Nat.le_of_lt (Nat.lt_of_le_of_lt h.ge hb)) _,h.ge,h.lt,h.few,h.err⟩
theorem ParQ.frs {w0 w w':World} {bp c:Nat} {ad:Addr} {L:List Tok} {s:PS} (h:ParQ w0 w bp ad c L s) {S:Nat->Prop} (hF:FrS S w w') (hS:∀ j,S j->bp<j):ParQ w0 w' bp ad c L s:=by
 refine ⟨(hF.block bp h.box.lt (fun e=>Nat.lt_irrefl _ (hS bp e))).trans h.box,h.toks,?_,h.ge,h.lt,h.few,h.err⟩
 have hb:=h.below
 exact ⟨hF.os.trans hb.os,hF.tape.trans hb.tape,hF.output.trans hb.output,Nat.le_trans hb.size hF.size,fun j hj=>(hF.block j (Nat.lt_of_lt_of_le hj hb.size) (fun e=>by have:=hS j e;have:=h.ge;omega)).trans (hb.block j hj)⟩
theorem FrP.past {wS w:World} {bp:Nat} (h:FrP wS w bp) {b:Nat} (hb:wS.heap.size<=b) (i:Nat) (v:Value):FrP wS (w.setCell ⟨b,i,none⟩ v) bp:=by
 have hF:FrP w (w.setCell ⟨b,i,none⟩ v) b:=FrP.set w b i v
 exact ⟨hF.os.trans h.os,hF.tape.trans h.tape,hF.output.trans h.output,Nat.le_trans h.size hF.size,fun j hj hn=>(hF.block j (Nat.lt_of_lt_of_le hj h.size) (fun e=>by injection e with e;omega)).trans (h.block j hj hn)⟩
theorem FrP.frs {wS w w':World} {bp:Nat} (h:FrP wS w bp) {S:Nat->Prop} (hF:FrS S w w') (hS:∀ j,S j->wS.heap.size<=j):FrP wS w' bp:=
 ⟨hF.os.trans h.os,hF.tape.trans h.tape,hF.output.trans h.output,Nat.le_trans h.size hF.size,fun j hj hn=>(hF.block j (Nat.lt_of_lt_of_le hj h.size) (fun e=>by have:=hS j e;omega)).trans (h.block j hj hn)⟩
structure Way (w0 wS w:World) (bp c:Nat) (ad:Addr) (L:List Tok) (s:PS) (k:Int) (ws:List Txt) (ns:List Int) (at_:Int) (kids:List Tr) (b:Nat) (xs:List (Nat×TypeId×Array Value)):Prop where
 P:ParQ w0 w bp ad c L s
 F:FrP wS w bp
 X:BrW w wS.heap.size k ws ns at_ kids b xs
 lt:bp<wS.heap.size
section
variable {w0 wS w:World} {bp c:Nat} {ad:Addr} {L:List Tok} {s:PS} {k:Int} {ws:List Txt} {ns:List Int} {at_:Int} {kids:List Tr} {b:Nat} {xs:List (Nat×TypeId×Array Value)}
theorem Way.call (h:Way w0 wS w bp c ad L s k ws ns at_ kids b xs) {w':World} {s':PS} (hP:ParQ w0 w' bp ad c L s') (hF:FrP w w' bp):Way w0 wS w' bp c ad L s' k ws ns at_ kids b xs:=by
 obtain ⟨vw,vn,vk,bs,K,X⟩:=h.X
 exact ⟨hP,h.F.trans hF,⟨vw,vn,vk,bs,K,X.call hF h.lt⟩,h.lt⟩
theorem Way.grown (h:Way w0 wS w bp c ad L s k ws ns at_ kids b xs) {w':World} (hb:Below w.heap.size w w'):Way w0 wS w' bp c ad L s k ws ns at_ kids b xs:=h.call (h.P.keep hb) (FrP.of_below bp hb)
theorem Way.ge (h:Way w0 wS w bp c ad L s k ws ns at_ kids b xs):wS.heap.size<=b:=by
 obtain ⟨vw,vn,vk,bs,K,X⟩:=h.X
 exact X.ge
theorem Way.box (h:Way w0 wS w bp c ad L s k ws ns at_ kids b xs) {x:Nat×TypeId×Array Value} (hx:x∈xs):Zy w x.1 x.2.1 x.2.2:=by
 obtain ⟨vw,vn,vk,bs,K,X⟩:=h.X
 exact (X.ex x hx).2.2.1
theorem Way.P2 (h:Way w0 wS w bp c ad L s k ws ns at_ kids b xs) (o:Obj) (i:Nat) (v:Value):ParQ w0 ((w.alloc o).setCell ⟨b,i,none⟩ v) bp ad c L s:=(h.P.keep (below_alloc1 w o)).past (Nat.lt_of_lt_of_le h.lt h.ge) i v
theorem Way.F2 (h:Way w0 wS w bp c ad L s k ws ns at_ kids b xs) (o:Obj) (i:Nat) (v:Value):FrP wS ((w.alloc o).setCell ⟨b,i,none⟩ v) bp:=(h.F.trans (FrP.of_below bp (below_alloc1 w o))).past h.ge i v
theorem Way.kind (h:Way w0 wS w bp c ad L s k ws ns at_ kids b xs) (k':Int):Way w0 wS (w.setCell ⟨b,0,none⟩ (.int .i64 k')) bp c ad L s k' ws ns at_ kids b xs:=by
 obtain ⟨vw,vn,vk,bs,K,X⟩:=h.X
 exact ⟨h.P.past (Nat.lt_of_lt_of_le h.lt h.ge) _ _,h.F.past h.ge _ _,⟨vw,vn,vk,bs,K,X.kind k'⟩,h.lt⟩
theorem Way.words1 (h:Way w0 wS w bp c ad L s k ws ns at_ kids b xs) (x:Txt):Way w0 wS ((w.alloc (.cells #[txt x] 9)).setCell ⟨b,1,none⟩ (.slice (some ⟨w.heap.size,0,none⟩) 1 1)) bp c ad L s k [x] ns at_ kids b xs:=by
 obtain ⟨vw,vn,vk,bs,K,X⟩:=h.X
 exact ⟨h.P2 _ _ _,h.F2 _ _ _,⟨_,vn,vk,bs,K,X.words1 x⟩,h.lt⟩
theorem Way.words2 (h:Way w0 wS w bp c ad L s k ws ns at_ kids b xs) (x y:Txt):Way w0 wS ((w.alloc (.cells #[txt x,txt y] 9)).setCell ⟨b,1,none⟩ (.slice (some ⟨w.heap.size,0,none⟩) 2 2)) bp c ad L s k [x,y] ns at_ kids b xs:=by
 obtain ⟨vw,vn,vk,bs,K,X⟩:=h.X
 exact ⟨h.P2 _ _ _,h.F2 _ _ _,⟨_,vn,vk,bs,K,X.words2 x y⟩,h.lt⟩
theorem Way.nums1 (h:Way w0 wS w bp c ad L s k ws ns at_ kids b xs) (x:Int):Way w0 wS ((w.alloc (.cells #[.int .i64 x] 2)).setCell ⟨b,2,none⟩ (.slice (some ⟨w.heap.size,0,none⟩) 1 1)) bp c ad L s k ws [x] at_ kids b xs:=by
 obtain ⟨vw,vn,vk,bs,K,X⟩:=h.X
 exact ⟨h.P2 _ _ _,h.F2 _ _ _,⟨vw,_,vk,bs,K,X.nums1 x⟩,h.lt⟩
theorem Way.nums3 (h:Way w0 wS w bp c ad L s k ws ns at_ kids b xs) (x y z:Int):Way w0 wS ((w.alloc (.cells #[.int .i64 x,.int .i64 y,.int .i64 z] 2)).setCell ⟨b,2,none⟩ (.slice (some ⟨w.heap.size,0,none⟩) 3 3)) bp c ad L s k ws [x,y,z] at_ kids b xs:=by
 obtain ⟨vw,vn,vk,bs,K,X⟩:=h.X
 exact ⟨h.P2 _ _ _,h.F2 _ _ _,⟨vw,_,vk,bs,K,X.nums3 x y z⟩,h.lt⟩
theorem Way.boxed (h:Way w0 wS w bp c ad L s k ws ns at_ kids b xs) (cs:Array Value) (ty:TypeId):Way w0 wS (w.alloc (.cells cs ty)) bp c ad L s k ws ns at_ kids b ((w.heap.size,ty,cs)::xs):=by
 have hb:=below_alloc1 w (.cells cs ty)
 have h1:=h.grown hb
 obtain ⟨vw,vn,vk,bs,K,X⟩:=h.X
 have X1:=X.grown hb
 have off:∀ {B n size:Nat} {e:TypeId} {v:Value} {ys:List Value},w.ownsRow B e size v n ys->v.ownBlock≠some w.heap.size:=fun q e=>Nat.lt_irrefl _ (q.lt _ e).2
 exact ⟨h1.P,h1.F,⟨vw,vn,vk,bs,K,X1.more (Zy.start w cs ty) X.size (fun e=>by have:=X.box.lt;omega) ⟨off X.wd,off X.nm,off X.kd⟩⟩,h.lt⟩
theorem Way.start (h:ParQ w0 wS bp ad c L s) {w':World} {b:Nat} {k:Int} {p:Int} (T:Zy w' b 59 #[.int .i64 k,.slice none 0 0,.slice none 0 0,.slice none 0 0,.int .i64 p,.slice none 0 0]) (hb:wS.heap.size<=b) (hB:Below wS.heap.size wS w'):Way w0 wS w' bp c ad L s k [] [] p [] b []:=
 ⟨h.keep hB,FrP.of_below bp hB,⟨_,_,_,[],fun _=>False,hb,T,World.ownsRow_nil _ _ _ _,World.ownsRow_nil _ _ _ _,World.ownsRow_nil _ _ _ _,by unfold ZO;rfl,fun _ h=>h.elim,fun x hx=>by cases hx⟩,h.box.lt⟩
theorem Way.done (h:Way w0 wS w bp c ad L s k ws ns at_ kids b xs):BrP w (ZbC wS w) (.mk k ws ns at_ kids) b:=by
 obtain ⟨vw,vn,vk,bs,K,X⟩:=h.X
 exact X.done
theorem Zl.bad {Dom:PS->Prop} {s1:PS} {R:Tr×PS} {w':World} (hF:FrP w w' bp) (hk:Stk s1 R.2) (hz:s1.err≠0):Zl w0 w bp c ad L Dom s R (ZaY s1.err s1.fat) w':=by
 obtain ⟨a,b⟩:=hk hz
 exact ⟨hF,fun e=>absurd (a.symm.trans e) hz,fun _=>by rw [a,b]⟩
theorem Zl.good {Dom:PS->Prop} {s1:PS} {w':World} {g:Nat} {t:Tr} {R:Tr×PS} (hR:R=(t,s1)) (hF:FrP w w' bp) (hP:ParQ w0 w' bp ad c L s1) (hD:Dom s1) (hat:s.at_<s1.at_) (hT:BrP w' (ZbC w w') t g):Zl w0 w bp c ad L Dom s R (.returned (brV g)) w':=by
 subst hR
 exact ⟨hF,fun _=>⟨g,rfl,hP,hD,hat,hT⟩,fun e=>absurd hP.err e⟩
end
end
section
open Go Go.RowKit
def Zf (n:Nat):Edge:=⟨n,.data⟩
def Zc (n:Nat):Edge:=⟨n,.phase⟩
def ZbT (n:Nat):Edge:=⟨n,.chain⟩
section
variable {P:Program} {ops:Array Oper} {Q:Exit->Act->World->Prop} {a:Act} {w:World} {K:Act->World->Prop}
theorem Zi {o:Oper} {v:Value} {w2:World} (hg:o.guard=none) (hr:(execOp a.eval o).run P w=.ok (.value v) w2) (h:K (a.put o.dst v) w2):StepP P ops Q o a w K:=by
 refine ⟨?_⟩
 have hw:Region.wanted o (yielded ops a.tmps)=true:=by unfold Region.wanted;rw [hg]
 rw [if_pos hw]
 unfold Oper.wp
 rw [hr]
 exact h
theorem ZbE {o:Oper} {w2:World} (hg:o.guard=none) (hr:(execOp a.eval o).run P w=.ok .skip w2) (h:K (a.put o.dst undef) w2):StepP P ops Q o a w K:=by
 refine ⟨?_⟩
 have hw:Region.wanted o (yielded ops a.tmps)=true:=by unfold Region.wanted;rw [hg]
 rw [if_pos hw]
 unfold Oper.wp
 rw [hr]
 exact h
theorem Zba {F:Nat} {o:Oper} {args:Array Value} (hg:o.guard=none) (he:execOp a.eval o=callFunc F args) (hF:(callFunc F args).run P w=.ok (.enter F args) w)
  (h:Calls P F args w fun
   | .returned v,w''=>K (a.put o.dst v) w''
   | .panicked chain,w''=>Q (.panic chain) a w''
   | .outgrown,_=>LetsOut Q):StepP P ops Q o a w K:=by
 refine ⟨?_⟩
 have hw:Region.wanted o (yielded ops a.tmps)=true:=by unfold Region.wanted;rw [hg]
 rw [if_pos hw]
 unfold Oper.wp
 rw [he,hF]
 exact h
theorem Act.eval_const (a:Act) (v:Value):a.eval (.const v)=v:=rfl
theorem ZaP {a:Act} {d:Option Tmp} {F t:Nat} {at_:Array TypeId} {ty:TypeId} {p:String} {af:Array Edge} {u:Value} (hu:a.eval (.tmp t)=u):execOp a.eval ⟨d,.call ⟨.value (.func F),#[.tmp t],at_⟩,ty,p,af,none⟩=callFunc F #[u]:=by
 rw [show execOp a.eval ⟨d,.call ⟨.value (.func F),#[.tmp t],at_⟩,ty,p,af,none⟩=callFunc F (#[]++#[Operand.tmp t].map a.eval++#[]) from rfl]
 simp only [List.map_toArray,List.map_cons,List.map_nil,hu,Array.append_empty,Array.empty_append]
theorem ZhV {a:Act} {d:Option Tmp} {F t:Nat} {c:Value} {at_:Array TypeId} {ty:TypeId} {p:String} {af:Array Edge} {u:Value} (hu:a.eval (.tmp t)=u):execOp a.eval ⟨d,.call ⟨.value (.func F),#[.tmp t,.const c],at_⟩,ty,p,af,none⟩=callFunc F #[u,c]:=by
 rw [show execOp a.eval ⟨d,.call ⟨.value (.func F),#[.tmp t,.const c],at_⟩,ty,p,af,none⟩=callFunc F (#[]++#[Operand.tmp t,.const c].map a.eval++#[]) from rfl]
 simp only [List.map_toArray,List.map_cons,List.map_nil,hu,Act.eval_const,Array.append_empty,Array.empty_append]
theorem ZeA {a:Act} {d:Option Tmp} {F t t2:Nat} {at_:Array TypeId} {ty:TypeId} {p:String} {af:Array Edge} {u u2:Value} (hu:a.eval (.tmp t)=u) (hu2:a.eval (.tmp t2)=u2):execOp a.eval ⟨d,.call ⟨.value (.func F),#[.tmp t,.tmp t2],at_⟩,ty,p,af,none⟩=callFunc F #[u,u2]:=by
 rw [show execOp a.eval ⟨d,.call ⟨.value (.func F),#[.tmp t,.tmp t2],at_⟩,ty,p,af,none⟩=callFunc F (#[]++#[Operand.tmp t,.tmp t2].map a.eval++#[]) from rfl]
 simp only [List.map_toArray,List.map_cons,List.map_nil,hu,hu2,Array.append_empty,Array.empty_append]
end
theorem Way.cell {w0 wS w:World} {bp c:Nat} {ad:Addr} {L:List Tok} {s:PS} {k:Int} {ws:List Txt} {ns:List Int} {at_:Int} {kids:List Tr} {b:Nat} {xs:List (Nat×TypeId×Array Value)} (h:Way w0 wS w bp c ad L s k ws ns at_ kids b xs) {x:Nat} {ty:TypeId} {v:Value} (hx:(x,ty,#[v])∈xs):w.cell? ⟨x,0,none⟩=some v:=by
 have:=(h.box hx).blk.cell 0
 exact this
theorem Way.free {w0 wS w:World} {bp c:Nat} {ad:Addr} {L:List Tok} {s:PS} {k:Int} {ws:List Txt} {ns:List Int} {at_:Int} {kids:List Tr} {b:Nat} {xs:List (Nat×TypeId×Array Value)} (h:Way w0 wS w bp c ad L s k ws ns at_ kids b xs) (i:Nat):w.frozen? ⟨b,i,none⟩=false:=by
 obtain ⟨vw,vn,vk,bs,K,X⟩:=h.X
 exact X.box.blk.free i
theorem Way.drew {w0 wS w:World} {bp c:Nat} {ad:Addr} {L:List Tok} {s:PS} {k:Int} {ws:List Txt} {ns:List Int} {at_:Int} {kids:List Tr} {b:Nat} {xs:List (Nat×TypeId×Array Value)} (h:Way w0 wS w bp c ad L s k ws ns at_ kids b xs):Way w0 wS w.drew bp c ad L s k ws ns at_ kids b xs:=h.grown (Below.refl _ _).drew
abbrev Zcl (wS:World) (bp:Nat) (Q:Exit->Act->World->Prop) (a:Act) (s:PS):Prop:=s.err≠0->∀ a' w',a'.defers=a.defers->FrP wS w' bp->Q (.panic [{ v:=.iface 50 (.agg #[.int .i64 s.err,.int .i64 s.fat]),recovered:=false }]) a' w'
abbrev pV (p:Nat):Value:=.pointer (some ⟨p,0,none⟩)
end
end Go.Proofs.YtfdgeijnkkdplaaDoor
