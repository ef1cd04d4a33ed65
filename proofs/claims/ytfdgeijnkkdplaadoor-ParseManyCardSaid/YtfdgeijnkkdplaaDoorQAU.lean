import Derived.Test.YtfdgeijnkkdplaaDoorQAT
set_option maxRecDepth 100000
set_option maxHeartbeats 8000000
namespace Go.Proofs.YtfdgeijnkkdplaaDoor
section
open Go.RowKit
structure BrX (w:World) (B:Nat) (k:Int) (ws:List Txt) (ns:List Int) (at_:Int) (kids:List Tr) (b:Nat) (xs:List (Nat×TypeId×Array Value)) (vw vn vk:Value) (bs:List Nat) (K:Nat->Prop):Prop where
 ge:B<=b
 box:Zy w b 59 #[.int .i64 k,vw,vn,.slice none 0 0,.int .i64 at_,vk]
 wd:w.ownsRow B 9 1 vw ws.length (ws.map txt)
 nm:w.ownsRow B 2 1 vn ns.length (ns.map (Value.int .i64))
 kd:w.ownsRow B 39 1 vk bs.length (bs.map brV)
 kids:ZO w K kids bs
 own:∀ j,K j->B<=j/\j<w.heap.size/\j≠b/\vk.ownBlock≠some j
 ex:∀ x∈xs,B<=x.1/\x.1≠b/\Zy w x.1 x.2.1 x.2.2/\vw.ownBlock≠some x.1/\vn.ownBlock≠some x.1/\vk.ownBlock≠some x.1
def BrW (w:World) (B:Nat) (k:Int) (ws:List Txt) (ns:List Int) (at_:Int) (kids:List Tr) (b:Nat) (xs:List (Nat×TypeId×Array Value)):Prop:=∃ vw vn vk bs K,BrX w B k ws ns at_ kids b xs vw vn vk bs K
theorem ZcN {w:World} {K:Nat->Prop}:∀ {ts:List Tr} {bs:List Nat},ZO w K ts bs->ts.length=bs.length
 | [],bs,h=>by unfold ZO at h;rw [h];rfl
 | t::ts,bs,h=>by
  unfold ZO at h
  obtain ⟨b,r,rfl,_,h2⟩:=h
  rw [List.length_cons,List.length_cons,ZcN h2]
theorem Zej {w:World} {K:Nat->Prop}:∀ {ts us:List Tr} {bs cs:List Nat},ZO w K ts bs->ZO w K us cs->ZO w K (ts++us) (bs++cs)
 | [],us,bs,cs,h,hb=>by
  unfold ZO at h
  subst h
  exact hb
 | t'::ts,us,bs,cs,h,hb=>by
  unfold ZO at h
  obtain ⟨b',r,rfl,h1,h2⟩:=h
  show ZO w K (t'::(ts++us)) (b'::(r++cs))
  unfold ZO
  exact ⟨b',_,rfl,h1,Zej h2 hb⟩
theorem Zem {w:World} {B n size:Nat} {e:TypeId} {v:Value} {xs:List Value} (h:w.ownsRow B e size v n xs) {g:Nat} (hg:g<B):v.ownBlock=none\/v.ownBlock≠some g:=by
 cases q:v.ownBlock with
 | none=>exact .inl rfl
 | some k=>exact .inr (fun e=>by injection e with e;have:=(h.lt k q).1;omega)
section
variable {w:World} {B:Nat} {k:Int} {ws:List Txt} {ns:List Int} {at_:Int} {kids:List Tr} {b:Nat} {xs:List (Nat×TypeId×Array Value)} {vw vn vk:Value} {bs:List Nat} {K:Nat->Prop}
theorem BrX.call (h:BrX w B k ws ns at_ kids b xs vw vn vk bs K) {w':World} {bp:Nat} (hF:FrP w w' bp) (hbp:bp<B):BrX w' B k ws ns at_ kids b xs vw vn vk bs K:=by
 refine ⟨h.ge,h.box.grown hF (fun e=>by injection e with e;have:=h.ge;omega),h.wd.kept hF (Zem h.wd hbp),h.nm.kept hF (Zem h.nm hbp),h.kd.kept hF (Zem h.kd hbp),ZO.frame (fun k hk=>hk) (fun j hj=>hF.block j (h.own j hj).2.1 (fun e=>by injection e with e;have:=(h.own j hj).1;omega)) _ _ h.kids,fun j hj=>?_,fun x hx=>?_⟩
 ·obtain ⟨a,b,c,d⟩:=h.own j hj
  exact ⟨a,Nat.lt_of_lt_of_le b hF.size,c,d⟩
 ·obtain ⟨a,b,c,d⟩:=h.ex x hx
  exact ⟨a,b,c.grown hF (fun e=>by injection e with e;omega),d⟩
theorem BrX.grown (h:BrX w B k ws ns at_ kids b xs vw vn vk bs K) {w':World} (hb:Below w.heap.size w w'):BrX w' B k ws ns at_ kids b xs vw vn vk bs K:=by
 refine ⟨h.ge,h.box.keep hb,ZbZ h.wd hb,ZbZ h.nm hb,ZbZ h.kd hb,ZO.frame (fun k hk=>hk) (fun j hj=>hb.block j (h.own j hj).2.1) _ _ h.kids,fun j hj=>?_,fun x hx=>?_⟩
 ·obtain ⟨a,b,c,d⟩:=h.own j hj
  exact ⟨a,Nat.lt_of_lt_of_le b hb.size,c,d⟩
 ·obtain ⟨a,b,c,d⟩:=h.ex x hx
  exact ⟨a,b,c.keep hb,d⟩
theorem BrX.size (h:BrX w B k ws ns at_ kids b xs vw vn vk bs K):B<=w.heap.size:=by have:=h.box.lt;have:=h.ge;omega
theorem BrX.put (h:BrX w B k ws ns at_ kids b xs vw vn vk bs K) (i:Nat) (v:Value):(w.setCell ⟨b,i,none⟩ v).ownsRow B 9 1 vw ws.length (ws.map txt)/\(w.setCell ⟨b,i,none⟩ v).ownsRow B 2 1 vn ns.length (ns.map (Value.int .i64))/\(w.setCell ⟨b,i,none⟩ v).ownsRow B 39 1 vk bs.length (bs.map brV)/\ZO (w.setCell ⟨b,i,none⟩ v) K kids bs/\(∀ j,K j->B<=j/\j<(w.setCell ⟨b,i,none⟩ v).heap.size/\j≠b/\vk.ownBlock≠some j)/\∀ x∈xs,B<=x.1/\x.1≠b/\Zy (w.setCell ⟨b,i,none⟩ v) x.1 x.2.1 x.2.2/\vw.ownBlock≠some x.1/\vn.ownBlock≠some x.1/\vk.ownBlock≠some x.1:=by
 have hF:FrP w (w.setCell ⟨b,i,none⟩ v) b:=FrP.set w b i v
 refine ⟨Zag h.wd (h.box.off h.wd (by decide)),Zag h.nm (h.box.off h.nm (by decide)),Zag h.kd (h.box.off h.kd (by decide)),ZO.frame (fun k hk=>hk) (fun j hj=>hF.block j (h.own j hj).2.1 (fun e=>by injection e with e;exact (h.own j hj).2.2.1 (by first | exact e | exact e.symm))) _ _ h.kids,fun j hj=>?_,fun x hx=>?_⟩
 ·obtain ⟨a,b,c,d⟩:=h.own j hj
  exact ⟨a,Nat.lt_of_lt_of_le b hF.size,c,d⟩
 ·obtain ⟨a,b,c,d⟩:=h.ex x hx
  exact ⟨a,b,c.grown hF (fun e=>by injection e with e;exact b (by first | exact e | exact e.symm)),d⟩
theorem BrX.kind (h:BrX w B k ws ns at_ kids b xs vw vn vk bs K) (k':Int):BrX (w.setCell ⟨b,0,none⟩ (.int .i64 k')) B k' ws ns at_ kids b xs vw vn vk bs K:=by
 obtain ⟨h1,h2,h3,h4,h5,h6⟩:=h.put 0 (.int .i64 k')
 exact ⟨h.ge,h.box.set 0 _,h1,h2,h3,h4,h5,h6⟩
theorem BrX.words (h:BrX w B k ws ns at_ kids b xs vw vn vk bs K) {v:Value} {ws':List Txt} (ho:w.ownsRow B 9 1 v ws'.length (ws'.map txt)) (hv:∀ x∈xs,v.ownBlock≠some x.1):BrX (w.setCell ⟨b,1,none⟩ v) B k ws' ns at_ kids b xs v vn vk bs K:=by
 obtain ⟨h1,h2,h3,h4,h5,h6⟩:=h.put 1 v
 exact ⟨h.ge,h.box.set 1 _,Zag ho (h.box.off ho (by decide)),h2,h3,h4,h5,fun x hx=>⟨(h6 x hx).1,(h6 x hx).2.1,(h6 x hx).2.2.1,hv x hx,(h6 x hx).2.2.2.2⟩⟩
theorem BrX.nums (h:BrX w B k ws ns at_ kids b xs vw vn vk bs K) {v:Value} {ns':List Int} (ho:w.ownsRow B 2 1 v ns'.length (ns'.map (Value.int .i64))) (hv:∀ x∈xs,v.ownBlock≠some x.1):BrX (w.setCell ⟨b,2,none⟩ v) B k ws ns' at_ kids b xs vw v vk bs K:=by
 obtain ⟨h1,h2,h3,h4,h5,h6⟩:=h.put 2 v
 exact ⟨h.ge,h.box.set 2 _,h1,Zag ho (h.box.off ho (by decide)),h3,h4,h5,fun x hx=>⟨(h6 x hx).1,(h6 x hx).2.1,(h6 x hx).2.2.1,(h6 x hx).2.2.2.1,hv x hx,(h6 x hx).2.2.2.2.2⟩⟩
theorem Zds {w:World} {B:Nat} (hB:B<=w.heap.size) (cs:Array Value) (ty:TypeId) (n:Nat) (hs:cs.size=n) (hn:n<=maxLen):(w.alloc (.cells cs ty)).ownsRow B ty 1 (.slice (some ⟨w.heap.size,0,none⟩) n n) n cs.toList:=
 ⟨by rw [Array.length_toList];omega,.inr ⟨_,n,cs,rfl,hB,Zy.start w cs ty,Nat.le_refl _,hn,by omega,by rw [show n*1=cs.toList.length by rw [Array.length_toList];omega,List.take_length]⟩⟩
theorem BrX.new_ne (h:BrX w B k ws ns at_ kids b xs vw vn vk bs K) (n c:Nat):∀ x∈xs,(Value.slice (some ⟨w.heap.size,0,none⟩) n c).ownBlock≠some x.1:=fun x hx e=>by
 injection e with e
 have:=(h.ex x hx).2.2.1.lt
 dsimp only at e
 omega
theorem BrX.words1 (h:BrX w B k ws ns at_ kids b xs vw vn vk bs K) (x:Txt):BrX ((w.alloc (.cells #[txt x] 9)).setCell ⟨b,1,none⟩ (.slice (some ⟨w.heap.size,0,none⟩) 1 1)) B k [x] ns at_ kids b xs (.slice (some ⟨w.heap.size,0,none⟩) 1 1) vn vk bs K:=
 (h.grown (below_alloc1 w _)).words (ws':=[x]) (Zds h.size #[txt x] 9 1 rfl (by decide)) (h.new_ne 1 1)
theorem BrX.words2 (h:BrX w B k ws ns at_ kids b xs vw vn vk bs K) (x y:Txt):BrX ((w.alloc (.cells #[txt x,txt y] 9)).setCell ⟨b,1,none⟩ (.slice (some ⟨w.heap.size,0,none⟩) 2 2)) B k [x,y] ns at_ kids b xs (.slice (some ⟨w.heap.size,0,none⟩) 2 2) vn vk bs K:=
 (h.grown (below_alloc1 w _)).words (ws':=[x,y]) (Zds h.size #[txt x,txt y] 9 2 rfl (by decide)) (h.new_ne 2 2)
theorem BrX.nums1 (h:BrX w B k ws ns at_ kids b xs vw vn vk bs K) (x:Int):BrX ((w.alloc (.cells #[.int .i64 x] 2)).setCell ⟨b,2,none⟩ (.slice (some ⟨w.heap.size,0,none⟩) 1 1)) B k ws [x] at_ kids b xs vw (.slice (some ⟨w.heap.size,0,none⟩) 1 1) vk bs K:=
 (h.grown (below_alloc1 w _)).nums (ns':=[x]) (Zds h.size #[.int .i64 x] 2 1 rfl (by decide)) (h.new_ne 1 1)
theorem BrX.nums3 (h:BrX w B k ws ns at_ kids b xs vw vn vk bs K) (x y z:Int):BrX ((w.alloc (.cells #[.int .i64 x,.int .i64 y,.int .i64 z] 2)).setCell ⟨b,2,none⟩ (.slice (some ⟨w.heap.size,0,none⟩) 3 3)) B k ws [x,y,z] at_ kids b xs vw (.slice (some ⟨w.heap.size,0,none⟩) 3 3) vk bs K:=
 (h.grown (below_alloc1 w _)).nums (ns':=[x,y,z]) (Zds h.size #[.int .i64 x,.int .i64 y,.int .i64 z] 2 3 rfl (by decide)) (h.new_ne 3 3)
theorem BrX.kidsMore (h:BrX w B k ws ns at_ kids b xs vw vn vk bs K) {w':World} {vk':Value} {ts:List Tr} {ks:List Nat} {K2:Nat->Prop} (hk:ZO w K2 ts ks) (hK:∀ j,K2 j->B<=j/\j<w.heap.size/\j≠b/\vk.ownBlock≠some j)
  (T:Zy w' b 59 #[.int .i64 k,vw,vn,.slice none 0 0,.int .i64 at_,vk']) (ho:w'.ownsRow 0 39 1 vk' (bs.length+ks.length) ((bs++ks).map brV)) (hF:FrS (fun k=>k=b\/vk.ownBlock=some k) w w') (hv:vk'.ownBlock=vk.ownBlock\/vk'.ownBlock=some w.heap.size) :
  BrX w' B k ws ns at_ (kids++ts) b xs vw vn vk' (bs++ks) (fun j=>K j\/K2 j):=by
 have sz:=h.size
 have row:∀ {e:TypeId} {v:Value} {n:Nat} {xs:List Value},w.ownsRow B e 1 v n xs->39≠e->59≠e->w'.ownsRow B e 1 v n xs:=by
  intro e v n xs q h1 h2
  have hq:=q
  obtain ⟨q1,q2⟩:=q
  refine ⟨q1,?_⟩
  rcases q2 with q2 | ⟨g,cap,cur,rfl,q3,q4,q5⟩
  ·exact Or.inl q2
  ·refine Or.inr ⟨g,cap,cur,rfl,q3,?_,q5⟩
   rw [hF.block g (Array.getElem?_eq_some_iff.1 q4).1 ?_]
   ·exact q4
   ·rintro (rfl | c)
    ·exact h.box.off hq h2 rfl
    ·exact ZbJ h.kd hq h1 g c rfl
 have blk:∀ j,j<w.heap.size->j≠b->vk.ownBlock≠some j->w'.heap[j]? = w.heap[j]?:=fun j a c d=>hF.block j a (fun e=>e.elim c d)
 refine ⟨h.ge,T,row h.wd (by decide) (by decide),row h.nm (by decide) (by decide),?_,?_,?_,fun x hx=>?_⟩
 ·rw [List.length_append]
  obtain ⟨q1,q2⟩:=ho
  refine ⟨q1,?_⟩
  rcases q2 with q2 | ⟨g,cap,cur,rfl,q3,q4,q5⟩
  ·exact Or.inl q2
  ·refine Or.inr ⟨g,cap,cur,rfl,?_,q4,q5⟩
   rcases hv with hv | hv
   ·exact (h.kd.lt g hv.symm).1
   ·injection hv with hv
    dsimp only at hv
    omega
 ·have a1:ZO w' (fun j=>K j\/K2 j) kids bs:=ZO.frame (fun k hk=>Or.inl hk) (fun j hj=>blk j (h.own j hj).2.1 (h.own j hj).2.2.1 (h.own j hj).2.2.2) _ _ h.kids
  have a2:ZO w' (fun j=>K j\/K2 j) ts ks:=ZO.frame (fun k hk=>Or.inr hk) (fun j hj=>blk j (hK j hj).2.1 (hK j hj).2.2.1 (hK j hj).2.2.2) _ _ hk
  exact Zej a1 a2
 ·intro j hj
  have key:B<=j/\j<w.heap.size/\j≠b/\vk.ownBlock≠some j:=hj.elim (h.own j) (hK j)
  refine ⟨key.1,Nat.lt_of_lt_of_le key.2.1 hF.size,key.2.2.1,?_⟩
  rcases hv with hv | hv
  ·rw [hv];exact key.2.2.2
  ·rw [hv];intro e;injection e with e;have:=key.2.1;omega
 ·obtain ⟨e1,e2,e3,e4,e5,e6⟩:=h.ex x hx
  refine ⟨e1,e2,(blk x.1 e3.lt e2 e6).trans e3,e4,e5,?_⟩
  rcases hv with hv | hv
  ·rw [hv];exact e6
  ·rw [hv];intro e;injection e with e;have:=e3.lt;omega
theorem BrX.more (h:BrX w B k ws ns at_ kids b xs vw vn vk bs K) {x:Nat} {ty:TypeId} {cs:Array Value} (T:Zy w x ty cs) (hx:B<=x) (h1:x≠b) (h2:vw.ownBlock≠some x/\vn.ownBlock≠some x/\vk.ownBlock≠some x):BrX w B k ws ns at_ kids b ((x,ty,cs)::xs) vw vn vk bs K:=
 ⟨h.ge,h.box,h.wd,h.nm,h.kd,h.kids,h.own,fun y hy=>by
  rcases List.mem_cons.1 hy with rfl | hy
  ·exact ⟨hx,h1,T,h2⟩
  ·exact h.ex y hy⟩
theorem Zga {w:World} {B n size:Nat} {e:TypeId} {v:Value} {xs:List Value} (h:w.ownsRow B e size v n xs):w.ownsRow 0 e size v n xs:=by
 obtain ⟨h1,h2⟩:=h
 refine ⟨h1,?_⟩
 rcases h2 with h2 | ⟨g,cap,cur,e1,_,h3⟩
 ·exact Or.inl h2
 ·exact Or.inr ⟨g,cap,cur,e1,Nat.zero_le _,h3⟩
theorem BrX.done (h:BrX w B k ws ns at_ kids b xs vw vn vk bs K):BrP w (fun j=>B<=j/\j<w.heap.size) (.mk k ws ns at_ kids) b:=by
 unfold BrP
 have row:∀ {e:TypeId} {v:Value} {xs:List Value} {n:Nat},w.ownsRow B e 1 v n xs->xs.length=n->Za2 w (fun j=>B<=j/\j<w.heap.size) e v xs:=by
  intro e v xs n q hn
  subst hn
  exact ⟨Zga q,fun j hj=>q.lt j hj⟩
 exact ⟨⟨h.ge,h.box.lt⟩,vw,vn,vk,bs,h.box,row h.wd (by simp),row h.nm (by simp),row h.kd (by simp),ZO.frame (fun j hj=>⟨(h.own j hj).1,(h.own j hj).2.1⟩) (fun _ _=>rfl) _ _ h.kids⟩
end
end
end Go.Proofs.YtfdgeijnkkdplaaDoor
