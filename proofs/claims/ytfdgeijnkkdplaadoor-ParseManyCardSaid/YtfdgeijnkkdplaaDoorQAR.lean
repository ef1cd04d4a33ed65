import Derived.Test.YtfdgeijnkkdplaaDoorQAA
import Derived.Test.YtfdgeijnkkdplaaDoorQAQ
set_option maxRecDepth 100000
set_option maxHeartbeats 8000000
namespace Go.Proofs.YtfdgeijnkkdplaaDoor
section
open Go.RowKit
def Za2 (w:World) (S:Nat->Prop) (e:TypeId) (v:Value) (xs:List Value):Prop:=w.ownsRow 0 e 1 v xs.length xs/\∀ k,v.ownBlock=some k->S k
abbrev brV (b:Nat):Value:=.pointer (some ⟨b,0,none⟩)
mutual
def BrP (w:World) (S:Nat->Prop):Tr->Nat->Prop
 | .mk k ws ns at_ kids,b=>S b/\∃ vw vn vk bs,Zy w b 59 #[.int .i64 k,vw,vn,.slice none 0 0,.int .i64 at_,vk]/\Za2 w S 9 vw (ws.map txt)/\Za2 w S 2 vn (ns.map (Value.int .i64))/\Za2 w S 39 vk (bs.map brV)/\ZO w S kids bs
def ZO (w:World) (S:Nat->Prop):List Tr->List Nat->Prop
 | [],bs=>bs=[]
 | t::ts,bs=>∃ b r,bs=b::r/\BrP w S t b/\ZO w S ts r
end
theorem Za2.frame {w w':World} {S S':Nat->Prop} {e:TypeId} {v:Value} {xs:List Value} (h:Za2 w S e v xs) (hS:∀ k,S k->S' k) (hw:∀ k,S k->w'.heap[k]? = w.heap[k]?):Za2 w' S' e v xs:=by
 obtain ⟨⟨h1,h2⟩,h3⟩:=h
 refine ⟨⟨h1,?_⟩,fun k hk=>hS k (h3 k hk)⟩
 rcases h2 with h2 | ⟨g,cap,cur,rfl,h4,h5,h6⟩
 ·exact Or.inl h2
 ·exact Or.inr ⟨g,cap,cur,rfl,h4,(hw g (h3 g rfl)).trans h5,h6⟩
mutual
theorem BrP.frame {w w':World} {S S':Nat->Prop} (hS:∀ k,S k->S' k) (hw:∀ k,S k->w'.heap[k]? = w.heap[k]?):∀ (t:Tr) (b:Nat),BrP w S t b->BrP w' S' t b
 | .mk k ws ns at_ kids,b,h=>by
  unfold BrP at h ⊢
  obtain ⟨h1,vw,vn,vk,bs,h2,h3,h4,h5,h6⟩:=h
  exact ⟨hS b h1,vw,vn,vk,bs,(hw b h1).trans h2,h3.frame hS hw,h4.frame hS hw,h5.frame hS hw,ZO.frame hS hw kids bs h6⟩
theorem ZO.frame {w w':World} {S S':Nat->Prop} (hS:∀ k,S k->S' k) (hw:∀ k,S k->w'.heap[k]? = w.heap[k]?):∀ (ts:List Tr) (bs:List Nat),ZO w S ts bs->ZO w' S' ts bs
 | [],bs,h=>by unfold ZO at h ⊢;exact h
 | t::ts,bs,h=>by
  unfold ZO at h ⊢
  obtain ⟨b,r,e,h1,h2⟩:=h
  exact ⟨b,r,e,BrP.frame hS hw t b h1,ZO.frame hS hw ts r h2⟩
end
end
section
open Go.RowKit
theorem ZcF {w:World} {base n size:Nat} {e:TypeId} {v:Value} {xs:List Value} (h:w.ownsRow base e size v n xs):∃ A c,v=.slice A n c:=by
 rcases h.2 with ⟨rfl,rfl⟩ | ⟨g,cap,cur,rfl,_⟩
 ·exact ⟨_,_,rfl⟩
 ·exact ⟨_,_,rfl⟩
theorem ZlT:(Tryd.prog.info? 39).map (fun i=>(i.zero,i.size,i.bytes))=some (some (.pointer none),1,8):=by kernel_rfl
theorem Zlf (w:World) (B b:Nat) (c0 c1 c2 c3 c4 vk:Value) (bs ks:List Nat) (T:Zy w b 59 #[c0,c1,c2,c3,c4,vk])
  (hown:w.ownsRow B 39 1 vk bs.length (bs.map brV)) (hB:B<=w.heap.size) (D:Nat) (ad:Addr) (m c:Nat) (hr:ZT w D 1 (some ad) m (ks.map brV)) (hm:bs.length+m<=1000000) :
  Calls Tryd.prog 23 #[brV b,.slice (some ad) m c] w fun e w'=>e=.returned (.tuple #[])/\∃ vk',Zy w' b 59 #[c0,c1,c2,c3,c4,vk'] ∧
   w'.ownsRow B 39 1 vk' (bs.length+m) ((bs++ks).map brV)/\FrS (fun k=>k=b\/vk.ownBlock=some k) w w'/\(vk'.ownBlock=vk.ownBlock\/vk'.ownBlock=some w.heap.size):=by
 obtain ⟨iB,hiB,zB0,zB1,zB2⟩:=info_parts ZlT
 have HT:=zh T
 have HO:=zh (zi hown (zi hB (zi hr hm)))
 have q5:w.cell? ⟨b,5,none⟩=some vk:=T.blk.cell 5
 clear T hown hB hr hm
 go_enter Tryd.func23,Tryd.ntmps23
 go_wp2_with (at_builtin;refine ZcA _ rfl _ _ 57 rfl B 39 iB (.pointer none) 1 8 Tryd.underlying57 hiB zB0 zB1 zB2 rfl (by decide) _ bs.length (bs.map brV) rfl HO.out.1 D (some ad) m c (ks.map brV) rfl HO.out.2.2.1 (fun u hu=>by obtain ⟨k,_,rfl⟩:=List.mem_map.1 hu;rfl) (by have:=HO.out.2.2.2;have e9:maxLen=9223372036854775807:=rfl;omega) (by have:=HO.out.2.2.2;omega) HO.out.2.1 ?_)
 intro vk' w1 hown1 hgrow hat
 obtain ⟨A1,d1,rfl⟩:=ZcF hown1
 have T1:=HT.out.grown hgrow (fun e=>HT.out.off HO.out.1 (by decide) e)
 have f5:=T1.blk.free 5
 have q6:w1.cell? ⟨b,5,none⟩=some vk:=T1.blk.cell 5
 have hoff:=T1.off hown1 (by decide)
 have F:=zh (zi T1 (zi hown1 (zi hgrow (zi hat hoff))))
 clear T1 hown1 hgrow hat hoff q5
 go_wp2_with fail
 go_end0
 obtain ⟨T1,hown1,hgrow,hat,hoff⟩:=F.out
 refine ⟨rfl,_,T1.set 5 _,?_,?_,hat⟩
 ·rw [List.map_append]
  exact Zag hown1 hoff
 ·have k1:FrS (fun k=>k=b\/vk.ownBlock=some k) w w1:=⟨hgrow.os,hgrow.tape,hgrow.output,hgrow.size,fun k hk hn=>hgrow.block k hk (fun e=>hn (Or.inr e.symm))⟩
  exact k1.trans (FrS.of (FrP.set w1 b 5 _) (Or.inl rfl))
end
end Go.Proofs.YtfdgeijnkkdplaaDoor
