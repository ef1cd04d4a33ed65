import Derived.Test.YtfdgeijnkkdplaaDoorQAO
set_option maxRecDepth 100000
set_option maxHeartbeats 8000000
namespace Go.Proofs.YtfdgeijnkkdplaaDoor
section
open Go.RowKit
def ZN (F:Nat):Prop:=∀ (args:Array Value) (w:World),Sem.run Tryd.prog (callFunc F args) w=.ok (.enter F args) w
structure FrS (S:Nat->Prop) (w w':World):Prop where
 os:w'.os=w.os
 tape:w'.tape=w.tape
 output:w'.output=w.output
 size:w.heap.size<=w'.heap.size
 block:∀ k,k<w.heap.size->¬ S k->w'.heap[k]? = w.heap[k]?
theorem FrS.refl (S:Nat->Prop) (w:World):FrS S w w:=⟨rfl,rfl,rfl,Nat.le_refl _,fun _ _ _=>rfl⟩
theorem FrS.trans {S:Nat->Prop} {w w1 w2:World} (h:FrS S w w1) (k:FrS S w1 w2):FrS S w w2:=
 ⟨k.os.trans h.os,k.tape.trans h.tape,k.output.trans h.output,Nat.le_trans h.size k.size,fun b hb hn=>(k.block b (Nat.lt_of_lt_of_le hb h.size) hn).trans (h.block b hb hn)⟩
theorem FrS.of {S:Nat->Prop} {w w':World} {bp:Nat} (h:FrP w w' bp) (hs:S bp):FrS S w w':=⟨h.os,h.tape,h.output,h.size,fun k hk hn=>h.block k hk (fun e=>hn (by injection e with e;rw [e];exact hs))⟩
structure FrZ (S:Nat->Prop) (w w':World):Prop where
 os:w'.os=w.os
 tape:w'.tape=w.tape
 output:w'.output=w.output
 low:∀ z b,S=(fun j=>j=b\/z<=j)->z<=w.heap.size->z<=w'.heap.size
 block:∀ k,k<w.heap.size->¬ S k->w'.heap[k]? = w.heap[k]?
theorem FrZ.refl (S:Nat->Prop) (w:World):FrZ S w w:=⟨rfl,rfl,rfl,fun _ _ _ h=>h,fun _ _ _=>rfl⟩
theorem FrZ.trans {S:Nat->Prop} {w w1 w2:World} (h:FrZ S w w1) (k:FrZ S w1 w2):FrZ S w w2:=by
 refine ⟨k.os.trans h.os,k.tape.trans h.tape,k.output.trans h.output,fun z b e q=>k.low z b e (h.low z b e q),fun b hb hn=>?_⟩
 have e:=h.block b hb hn
 have h1:b<w1.heap.size:=by
  rw [Array.getElem?_eq_getElem hb] at e
  exact (Array.getElem?_eq_some_iff.1 e).1
 exact (k.block b h1 hn).trans e
theorem FrZ.of {S:Nat->Prop} {w w':World} {bp:Nat} (h:FrP w w' bp) (hs:S bp):FrZ S w w':=⟨h.os,h.tape,h.output,fun _ _ _ q=>Nat.le_trans q h.size,fun k hk hn=>h.block k hk (fun e=>hn (by injection e with e;rw [e];exact hs))⟩
def ZhF (w0:World) (bp c:Nat) (ad:Addr) (L:List Tok) (F:Nat) (caps:Array Value) (S:Nat->Prop) (Dom:PS->Prop) (Rel:World->List Tr->Prop) (M:PS->Tr×PS):Prop:=
 ∀ (w:World) (s:PS) (l:List Tr),ParQ w0 w bp ad c L s->Dom s->l.length<=s.at_->Rel w l->Calls Tryd.prog F caps w fun e w'=>
  FrZ S w w'/\((M s).2.err=0->e=.returned (.tuple #[])/\ParQ w0 w' bp ad c L (M s).2/\Dom (M s).2/\s.at_<(M s).2.at_/\Rel w' (l++[(M s).1]))/\((M s).2.err≠0->e=ZaY (M s).2.err (M s).2.fat)
theorem ZkZ {L:List Tok} {ea:PS->Tr×PS} {x:Txt}:∀ (f:Nat) (l:List Tr) (s:PS),s.err≠0->ZC L ea x f l s=(l,s)
 | 0,_,_,_=>rfl
 | f+1,l,s,h=>by unfold ZC;rw [if_neg h]
theorem Zdw (F:Nat) (caps:Array Value) (hF:ZN F) (w0 w:World) (bp c:Nat) (ad:Addr) (L:List Tok) (s:PS) (S:Nat->Prop) (Dom:PS->Prop) (Rel:World->List Tr->Prop) (M:PS->Tr×PS) (x:Txt) (hx:PW x) (l:List Tr)
  (hS:S bp) (hRel:∀ w w' l,FrP w w' bp->Rel w l->Rel w' l) (hE:ZhF w0 bp c ad L F caps S Dom Rel M) (h:ParQ w0 w bp ad c L s) (hd:Dom s) (hn:l.length<=s.at_) (hr:Rel w l) :
  Calls Tryd.prog 34 #[.pointer (some ⟨bp,0,none⟩),txt x,.func (.func F) #[] caps] w fun e w'=>
   FrZ S w w'/\((ZC L M x (L.length+1) l s).2.err=0->e=.returned (.tuple #[])/\ParQ w0 w' bp ad c L (ZC L M x (L.length+1) l s).2/\Rel w' (ZC L M x (L.length+1) l s).1)/\((ZC L M x (L.length+1) l s).2.err≠0->e=ZaY (ZC L M x (L.length+1) l s).2.err (ZC L M x (L.length+1) l s).2.fat):=by
 obtain ⟨R,hR⟩:∃ R,ZC L M x (L.length+1) l s=R:=⟨_,rfl⟩
 rw [hR]
 have H:=zh (zi h (zi hd (zi hr (zi hR (zi hS (zi hx (zi hF (zi h.lt hn))))))))
 have HRel:=zh hRel
 have HE:=zh hE
 clear h hd hr hR hS hRel hE hx hF hn
 go_enter Tryd.func34,Tryd.ntmps34
 go_upto_region 0 with fail
 go_loopg [] (L.length-s.at_) (fun g wr=>∃ (s':PS) (l':List Tr) (f:Nat),ParQ w0 wr bp ad c L s'/\Dom s'/\Rel wr l'/\ZC L M x f l' s'=R/\L.length-s'.at_<f/\g=L.length-s'.at_/\FrZ S w wr/\l'.length<=s'.at_)
 case atStart=>exact ⟨s,l,L.length+1,H.out.1,H.out.2.1,H.out.2.2.1,H.out.2.2.2.1,by omega,rfl,FrZ.refl _ _,H.out.2.2.2.2.2.2.2.2⟩
 case round=>
  obtain ⟨s',l',f,hP,hD,hl,hU,hf,hg,hFr,hn⟩:=hrel
  have TK:=zh (Zg w0 wr bp c ad L s' hP x H.out.2.2.2.2.2.1)
  obtain ⟨f,rfl⟩:∃ k,f=k+1:=⟨f-1,by omega⟩
  have he:=hP.err
  cases q:isM L x s' with
  | true=>
   have ht:Zad L x s'=(true,Zb s'):=by unfold Zad;rw [if_pos q]
   rw [ht] at TK
   have hU2:R=(l',Zb s'):=by rw [<- hU];unfold ZC;rw [if_pos he,if_pos q]
   have FIN:=zh (zi hU2 (zi hl hFr))
   clear hU hU2 hl hFr hP hD hf hg q he ht hn
   go_wp2_with (go_at_call 21;(refine TK.out.mono ?_);rintro e1 w1 ⟨rfl,hP1,hF1⟩)
   go_end0
   refine ⟨FIN.out.2.2.trans (FrZ.of hF1 H.out.2.2.2.2.1),?_,?_⟩
   ·rw [FIN.out.1]
    exact fun _=>⟨rfl,hP1,HRel.out _ _ _ hF1 FIN.out.2.1⟩
   ·rw [FIN.out.1]
    exact fun e=>absurd hP1.err e
  | false=>
   have ht:Zad L x s'=(false,s'):=by unfold Zad;rw [if_neg (by simp [q])]
   rw [ht] at TK
   have hU2:ZC L M x f (l'++[(M s').1]) (M s').2=R:=by rw [<- hU];conv=>rhs;unfold ZC;rw [if_pos he,if_neg (by simp [q])]
   have FIN:=zh (zi hU2 (zi hl (zi hFr (zi hD (zi hf (zi hg hn))))))
   clear hU hU2 hl hFr hP hD hf hg q he ht hn
   have door:=H.out.2.2.2.2.2.2.1
   unfold ZN at door
   go_upto_region 1 with (go_at_call 21;(refine TK.out.mono ?_);rintro e1 w1 ⟨rfl,hP1,hF1⟩)
   have EC:=zh (HE.out w1 s' l' hP1 FIN.out.2.2.2.1 FIN.out.2.2.2.2.2.2 (HRel.out _ _ _ hF1 FIN.out.2.1))
   have F1:=zh (FIN.out.2.2.1.trans (FrZ.of hF1 H.out.2.2.2.2.1))
   clear hP1 hF1
   by_cases hz:(M s').2.err=0
   ·go_wp2_with (refine EC.out.mono ?_;rintro e2 w2 ⟨hf2,hok,_⟩;obtain ⟨rfl,hP2,hD2,hat,hR2⟩:=hok hz)
    go_roundg (L.length-(M s').2.at_)
    case measure=>have:=FIN.out;have:=hP2.lt;omega
    case rel=>exact ⟨(M s').2,_,f,hP2,hD2,hR2,FIN.out.1,by have:=FIN.out;have:=hP2.lt;omega,rfl,F1.out.trans hf2,by rw [List.length_append,List.length_singleton];have:=FIN.out.2.2.2.2.2.2;omega⟩
   ·have hRR:R=(l'++[(M s').1],(M s').2):=by rw [<- FIN.out.1];exact ZkZ f _ _ hz
    have HRR:=zh hRR
    have HZ:=zh hz
    clear hRR hz
    go_wp2_with (refine EC.out.mono ?_;rintro e2 w2 ⟨hf2,_,hbad⟩;obtain rfl:=hbad HZ.out)
    refine ⟨rfl,F1.out.trans hf2,?_,?_⟩
    ·rw [HRR.out]
     exact fun e=>absurd e HZ.out
    ·rw [HRR.out]
     exact fun _=>rfl
end
section
open Go.RowKit
theorem ParQ.deepen {w0 w:World} {bp c:Nat} {ad:Addr} {L:List Tok} {s:PS} (h:ParQ w0 w bp ad c L s) (d:Int):ParQ w0 (w.setCell ⟨bp,1,none⟩ (.int .i64 d)) bp ad c L { s with deep:=d }:=
 ⟨by simpa using h.box.set 1 (.int .i64 d),h.toks,h.below.setCell h.ge _,h.ge,h.lt,h.few,h.err⟩
theorem ParQ.cells {w0 w:World} {bp c:Nat} {ad:Addr} {L:List Tok} {s:PS} (h:ParQ w0 w bp ad c L s):w.cell? ⟨bp,1,none⟩=some (.int .i64 s.deep)/\w.frozen? ⟨bp,1,none⟩=false:=by
 have a:=h.box.blk.cell 1
 simp only [List.getElem?_toArray,List.getElem?_cons_zero,List.getElem?_cons_succ] at a
 exact ⟨a,h.box.blk.free 1⟩
theorem FrP.set (w:World) (bp i:Nat) (v:Value):FrP w (w.setCell ⟨bp,i,none⟩ v) bp:=ZbH
theorem Zdc {α:Type} (F:Nat) (caps:Array Value) (hF:ZN F) (w0 w:World) (bp c:Nat) (ad:Addr) (L:List Tok) (s:PS) (S:Nat->Prop) (M:PS->α×PS) (Post:α->World->Prop)
  (hS:S bp) (hM:ZJ M) (hPost:∀ a w w',FrP w w' bp->Post a w->Post a w') (h:ParQ w0 w bp ad c L s) (h1:0<=s.deep) (h2:s.deep<=200)
  (hI:s.deep+1<=200->∀ w',FrP w w' bp->ParQ w0 w' bp ad c L { s with deep:=s.deep+1 }->Calls Tryd.prog F caps w' fun e w2=>
   FrZ S w' w2/\((M { s with deep:=s.deep+1 }).2.err=0->e=.returned (.tuple #[])/\ParQ w0 w2 bp ad c L (M { s with deep:=s.deep+1 }).2/\(M { s with deep:=s.deep+1 }).2.deep=s.deep+1/\Post (M { s with deep:=s.deep+1 }).1 w2)/\((M { s with deep:=s.deep+1 }).2.err≠0->e=ZaY (M { s with deep:=s.deep+1 }).2.err (M { s with deep:=s.deep+1 }).2.fat)) :
  Calls Tryd.prog 49 #[.pointer (some ⟨bp,0,none⟩),.func (.func F) #[] caps] w fun e w'=>
   FrZ S w w'/\((Zaq (M (inM L s)).2).err=0->e=.returned (.tuple #[])/\ParQ w0 w' bp ad c L (Zaq (M (inM L s)).2)/\Post (M (inM L s)).1 w')/\((Zaq (M (inM L s)).2).err≠0->e=ZaY (Zaq (M (inM L s)).2).err (Zaq (M (inM L s)).2).fat):=by
 obtain ⟨c1,f1⟩:=h.cells
 have HS:=zh (zi hS hPost)
 have HP:=zh h
 by_cases q:s.deep=200
 ·have hin:inM L s={ s with deep:=s.deep+1,err:=12,fat:=(Zx L s.at_).2.2 }:=by
   unfold inM
   rw [if_pos (by omega)]
   unfold ZL
   rw [if_pos h.err]
  have hst:=hM (inM L s) (by rw [hin];show ¬ (12:Int)=0;decide)
  have he1:(Zaq (M (inM L s)).2).err=12:=by show (M (inM L s)).2.err=12;rw [hst.1,hin]
  have he2:(Zaq (M (inM L s)).2).fat=(Zx L s.at_).2.2:=by show (M (inM L s)).2.fat=_;rw [hst.2,hin]
  have e1:(s.deep==200)=true:=by simpa using q
  have FX:=zh (Zcw w0 w bp c ad L s h 12)
  have HE:=zh (zi he1 he2)
  clear hin hst he1 he2 q hI h hM hPost hS h1 h2
  go_enter Tryd.func49,Tryd.ntmps49
  go_wp2_with (go_at_call 43;(refine FX.out.mono ?_);rintro e2 w3 ⟨rfl,hb3⟩)
  refine ⟨rfl,FrZ.of (FrP.of_below bp hb3) HS.out.1,?_,?_⟩
  ·rw [HE.out.1]
   exact fun e=>absurd e (by decide)
  ·rw [HE.out.1,HE.out.2]
   exact fun _=>rfl
 ·have hin:inM L s={ s with deep:=s.deep+1 }:=by
   unfold inM
   rw [if_neg (by omega)]
  rw [hin]
  have e1:(s.deep==200)=false:=by simpa using q
  have wd:IntKind.i64.wrap (s.deep+1)=s.deep+1:=IntWalk.i64_in _ (by omega)
  have wd2:IntKind.i64.wrap (s.deep+1-1)=s.deep:=by rw [show s.deep+1-1=s.deep by omega];exact IntWalk.i64_in _ (by omega)
  have IN:=zh (hI (by omega) _ (FrP.set w bp 1 (.int .i64 (s.deep+1))) (h.deepen (s.deep+1)))
  have HD:=zh (zi h1 h2)
  generalize hr:M { s with deep:=s.deep+1 }=r at *
  clear hr hin q hI h hM hPost hS
  have door:=hF
  unfold ZN at door
  go_enter Tryd.func49,Tryd.ntmps49
  by_cases hz:r.2.err=0
  ·go_upto_region 4 with (refine IN.out.mono ?_;rintro e2 w2 ⟨hf2,hok,_⟩;obtain ⟨rfl,hP2,hD2,hR2⟩:=hok hz)
   obtain ⟨c2,f2⟩:=hP2.cells
   rw [hD2] at c2
   have F2:=zh (zi hf2 (zi hP2 (zi hR2 hD2)))
   clear hf2 hP2 hR2 hD2 c1 f1
   go_wp2_with fail
   go_end0
   refine ⟨((FrZ.of (FrP.set w bp 1 _) HS.out.1).trans F2.out.1).trans (FrZ.of (FrP.set w2 bp 1 _) HS.out.1),fun _=>⟨rfl,?_,HS.out.2 _ _ _ (FrP.set w2 bp 1 _) F2.out.2.2.1⟩,fun e=>absurd hz e⟩
   have:=F2.out.2.1.deepen (s.deep)
   rw [show Zaq r.2={ r.2 with deep:=s.deep } from by unfold Zaq;rw [F2.out.2.2.2,show s.deep+1-1=s.deep by omega]]
   exact this
  ·go_wp2_with (refine IN.out.mono ?_;rintro e2 w2 ⟨hf2,_,hbad⟩;obtain rfl:=hbad hz)
   exact ⟨rfl,(FrZ.of (FrP.set w bp 1 _) HS.out.1).trans hf2,fun e=>absurd e hz,fun _=>rfl⟩
end
end Go.Proofs.YtfdgeijnkkdplaaDoor
