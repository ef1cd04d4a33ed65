import Derived.Test.YtfbepcelkijgkaaGreatDoorQAZ
import Derived.Test.YtfbepcelkijgkaaGreatDoorQBA
import Derived.Test.YtfbepcelkijgkaaGreatDoorQBK
import Derived.Test.YtfbepcelkijgkaaGreatDoorQBP
import Derived.Test.YtfbepcelkijgkaaGreatDoorQBQ
set_option maxRecDepth 100000
set_option maxHeartbeats 8000000
open Option renaming some → Ya
namespace Go.Proofs.YtfbepcelkijgkaaGreatDoor
section
theorem Zh3 {ns:List Nd} (R:RightP ns):∀(f g i:Nat) (n:Nd),ns[i]? = Ya n->ZV ns f n->f<=g->ZO ns g n=ZO ns f n
 |0,_,_,_,_,h,_=>h.elim
 |_+1,0,_,_,_,_,hg=>absurd hg (by omega)
 |f+1,g+1,i,n,hn,h,hg=>by
  have c:∀k∈n.kids,ZV ns f (Zf ns k)->ZO ns g (Zf ns k)=ZO ns f (Zf ns k):=fun k hk b=>by
   obtain⟨j,r⟩:=Zci R hn hk;exact Zh3 R f g j _ r b (by omega)
  rcases Ziq R hn h with⟨hk,-⟩|⟨hk,-⟩|⟨hk,-,-,k,a,b⟩|⟨hk,-,o,j,k,-,-,-,a,p,q⟩
  ·simp[ZO,hk]
  ·simp[ZO,hk]
  ·have e:=c k (by rw[a];simp) b;simp[ZO,hk,Zbx (ns:=ns) (d:=n) (m:=0) (k:=k) (by rw[a];rfl),e]
  ·have e:=c j (by rw[a];simp) p;have l:=c k (by rw[a];simp) q;simp[ZO,hk,Zbx (ns:=ns) (d:=n) (m:=0) (k:=j) (by rw[a];rfl),Zbx (ns:=ns) (d:=n) (m:=1) (k:=k) (by rw[a];rfl),e,l]
end
section
section
variable {ns ms:List Nd}
def LkN (ns ms:List Nd):Nat->Nd->Nd->Prop
 |0,_,_=>False
 |g+1,n,m=>n.kind=m.kind/\n.words=m.words/\n.nums=m.nums/\n.kids.length=m.kids.length/\∀(q:Nat) (c e:Int),n.kids[q]? = Ya c->m.kids[q]? = Ya e->LkN ns ms g (Zf ns c) (Zf ms e)
def LK (ns ms:List Nd) (n m:Nd):Prop:=∃g,LkN ns ms g n m
def Zeu (ns ms:List Nd) (cs a:List Int):Prop:=cs.length=a.length/\∀(q:Nat) (c e:Int),cs[q]? = Ya c->a[q]? = Ya e->LK ns ms (Zf ns c) (Zf ms e)
theorem LK.parts {n m:Nd} (h:LK ns ms n m):n.kind=m.kind/\n.words=m.words/\n.nums=m.nums/\Zeu ns ms n.kids m.kids:=by
 obtain⟨g,h⟩:=h;cases g with
 |zero=>exact h.elim
 |succ g=>
  rw[LkN]at h;exact⟨h.1,h.2.1,h.2.2.1,h.2.2.2.1,fun q c e hc a=>⟨g,h.2.2.2.2 q c e hc a⟩⟩
theorem Zeu.take {cs b:List Int} (h:Zeu ns ms cs b) (k:Nat):Zeu ns ms (cs.take k) (b.take k):=⟨by rw[List.length_take,List.length_take,h.1],fun q c e hc a=>by
 rw[List.getElem?_take]at hc a;by_cases hq:q<k
 ·rw[Yo hq]at hc a;exact h.2 q c e hc a
 ·rw[Yn hq]at hc;cases hc⟩
theorem Zeu.drop {cs a:List Int} (h:Zeu ns ms cs a) (k:Nat):Zeu ns ms (cs.drop k) (a.drop k):=⟨by rw[List.length_drop,List.length_drop,h.1],fun q c e hc b=>by
 rw[List.getElem?_drop]at hc b
 exact h.2 _ c e hc b⟩
theorem Zeu.map {e:Type} {cs a:List Int} (h:Zeu ns ms cs a) {F G:Nd->e} (d:∀n m,LK ns ms n m->F n=G m):(cs.map fun k=>F (Zf ns k))=a.map fun k=>G (Zf ms k):=by
 refine List.ext_getElem? fun q=>?_;rw[List.getElem?_map,List.getElem?_map];cases hc:cs[q]? with
 |none=>
  have:a[q]? = none:=by rw[List.getElem?_eq_none_iff]at hc⊢;rw[<-h.1];exact hc
  rw[this];rfl
 |some c=>
  have b:q<a.length:=by rw[<-h.1];exact(List.getElem?_eq_some_iff.1 hc).1
  rw[Ym b,Option.map_some,Option.map_some,d _ _ (h.2 q c _ hc (Ym b))]
theorem Zeu.nil {cs a:List Int} (h:Zeu ns ms cs a):(cs=[])=(a=[]):=by rw[<-List.length_eq_zero_iff,<-List.length_eq_zero_iff,h.1]
end
end
section
mutual
theorem Zlb {ms:List Nd}:∀(t:Tr) (a b:List Nd),ms=a++(ZdU t a.length++b)->Zi1 ms t a.length
 |.mk k ws us p ks,a,b,h=>by
  rw[ZdU]at h;have c:(a++[(⟨k,ws,us,ZcO ks (a.length+1),p⟩:Nd)]).length=a.length+1:=by simp
  have d:=ZjU (ms:=ms) ks (a++[⟨k,ws,us,ZcO ks (a.length+1),p⟩]) b (by rw[c,h];simp);rw[c]at d;rw[Zi1];exact⟨⟨k,ws,us,ZcO ks (a.length+1),p⟩,by rw[h];simp,rfl,rfl,rfl,d⟩
theorem ZjU {ms:List Nd}:∀(ts:List Tr) (a b:List Nd),ms=a++(Zef ts a.length++b)->ZfX ms ts (ZcO ts a.length)
 |[],a,b,_=>by rw[ZfX,ZcO]
 |t::r,a,b,h=>by
  rw[Zef,List.append_assoc]at h;have c:(a++ZdU t a.length).length=a.length+szT t:=by rw[Yj,Zih]
  have i2:=ZjU (ms:=ms) r (a++ZdU t a.length) b (by rw[c,List.append_assoc];exact h);rw[c]at i2;rw[ZfX,ZcO];exact⟨a.length,_,rfl,Zlb (ms:=ms) t a _ h,i2⟩
end
theorem ZhJ (k p:Int) (b:List Txt) (us:List Int) (t:Tr) (a:Nat):ZdU (.mk k b us p [t]) a=⟨k,b,us,[((a+1:Nat):Int)],p⟩::ZdU t (a+1):=by rw[ZdU,Zef,Zef,ZcO,ZcO,List.append_nil]
def ZbB (n:Nd):Nd:=⟨n.kind,n.words,n.nums,n.kids.map (·+4),n.pos⟩
def wrapN (ns:List Nd) (k:Nat):List Nd:=⟨0,[],[],[1],0⟩::⟨4,[[102]],[],[2],0⟩::⟨7,[],[],[3],0⟩::⟨18,[],[],[((k+4:Nat):Int)],0⟩::ns.map ZbB
section
variable {ns:List Nd} {k:Nat}
theorem Zjo (i:Nat):(wrapN ns k)[i+4]? = (ns[i]?).map ZbB:=by show(ns.map ZbB)[i]? = _;rw[List.getElem?_map]
theorem ZfB {i:Nat} {n:Nd} (h:ns[i]? = Ya n):Zf (wrapN ns k) ((i+4:Nat):Int)=ZbB n:=Zcm (by rw[Zjo,h];rfl)
theorem Zn2 (R:RightP ns) {n:Nd} (h:ns[k]? = Ya n) (hk:ZF n.kind=true) (r:ns.length+4<=1500):RightP (wrapN ns k):=by
 have f:(wrapN ns k).length=ns.length+4:=by simp[wrapN]
 have q:=(List.getElem?_eq_some_iff.1 h).1;have s:Zp (wrapN ns k) ((k+4:Nat):Int)=n.kind:=by unfold Zp;rw[ZfB h];rfl
 refine⟨by rw[f];omega,by rw[f];exact r,rfl,fun i d hd c hc=>?_,fun i d hd=>?_⟩
 ·rw[f]
  match i,hd with
  |0,hd=>injection hd with hd;subst hd;simp at hc;omega
  |1,hd=>injection hd with hd;subst hd;simp at hc;omega
  |2,hd=>injection hd with hd;subst hd;simp at hc;omega
  |3,hd=>injection hd with hd;subst hd;simp at hc;omega
  |i+4,hd=>
   rw[Zjo,Option.map_eq_some_iff]at hd;obtain⟨e,g,rfl⟩:=hd;obtain⟨x,hx,rfl⟩:=List.mem_map.1 hc;have:=R.kids i e g x hx;omega
 ·match i,hd with
  |0,hd=>injection hd with hd;subst hd;exact⟨rfl,rfl,rfl⟩
  |1,hd=>injection hd with hd;subst hd;exact⟨by decide,rfl,rfl⟩
  |2,hd=>injection hd with hd;subst hd;exact⟨rfl,rfl,rfl⟩
  |3,hd=>
   injection hd with hd;subst hd;refine⟨rfl,rfl,?_⟩;rw[ZiF];simp[Zjf,ZcJ,Zcp];rw[show((k:Int)+4)=((k+4:Nat):Int)by omega,s];exact hk
  |i+4,hd=>
   rw[Zjo,Option.map_eq_some_iff]at hd;obtain⟨e,g,rfl⟩:=hd;obtain⟨a,b,c⟩:=R.node i e g;refine⟨a,b,?_⟩
   have j:∀x∈e.kids,Zf (wrapN ns k) (x+4)=ZbB (Zf ns x):=fun x hx=>by
    obtain⟨m,d,rfl,_,_,hd,p,_⟩:=Zd5 R g hx;rw[p];exact ZfB hd
   rw[ZiF]at c⊢;have l:(ZbB e).kids.map (Zp (wrapN ns k))=e.kids.map (Zp ns):=by unfold ZbB;rw[List.map_map];refine List.map_congr_left fun x hx=>?_;show Zp (wrapN ns k) (x+4)=_;unfold Zp;rw[j x hx];rfl
   have o:(ZbB e).kids.map (ZY (wrapN ns k))=e.kids.map (ZY ns):=by unfold ZbB;rw[List.map_map];refine List.map_congr_left fun x hx=>?_;show ZY (wrapN ns k) (x+4)=_;rw[Zli,Zli,j x hx];rfl
   rw[l,o];exact c
theorem Zgm (n:Nd):Zz (ZbB n)=Zz n:=rfl
theorem Zj1 (R:RightP ns):∀(f i:Nat) (n:Nd),ns[i]? = Ya n->ZV ns f n->ZV (wrapN ns k) f (ZbB n)/\ZO (wrapN ns k) f (ZbB n)=ZO ns f n
 |0,_,_,_,h=>h.elim
 |f+1,i,n,hn,h=>by
  have c:(wrapN ns k).length=ns.length+4:=by simp[wrapN]
  have g:∀(m:Nat) (j:Nat),n.kids[m]? = Ya (j:Int)->(ZbB n).kids[m]? = Ya ((j+4:Nat):Int)/\Zaa (wrapN ns k) (ZbB n) m=ZbB (Zaa ns n m):=fun m j a=>by
   have e:(ZbB n).kids[m]? = Ya ((j+4:Nat):Int):=by show(n.kids.map (·+4))[m]? = _;rw[List.getElem?_map,a];rfl
   obtain⟨M,H⟩:=Zci R hn (List.mem_of_getElem? a);obtain⟨q,d,F,_,_,hd,t,_⟩:=Zd5 R hn (List.mem_of_getElem? a);obtain rfl:j=q:=by omega
   refine⟨e,?_⟩;rw[Zbx e,Zbx a,ZfB hd,t]
  have l:∀(j:Nat),(j:Int)∈n.kids->ZV ns f (Zf ns j)->ZV (wrapN ns k) f (Zf (wrapN ns k) ((j+4:Nat):Int))/\ZO (wrapN ns k) f (ZbB (Zf ns j))=ZO ns f (Zf ns j):=fun j a D=>by
   obtain⟨q,d,F,_,_,hd,t,_⟩:=Zd5 R hn a;obtain rfl:j=q:=by omega
   rw[t]at D⊢;rw[ZfB hd];exact Zj1 R f j d hd D
  obtain⟨s,hk|hk|⟨hk,j,a,y,w⟩|⟨hk,j,q,a,y,w,hq,I,G⟩⟩:=h
  ·have u:n.kind=20:=hk.1;have o:(ZbB n).kind=20:=hk.1;refine⟨⟨s,.inl hk⟩,?_⟩;unfold ZO;rw[Yo o,Yo u];rfl
  ·have v:n.kind=21:=hk.1;have p:(ZbB n).kind=21:=hk.1;refine⟨⟨s,.inr (.inl hk)⟩,?_⟩;simp[ZO,v,p];rfl
  ·obtain⟨A,B⟩:=g 0 j a;obtain⟨C,r⟩:=l j (List.mem_of_getElem? a) w;have b:(ZbB n).kind=23:=hk;refine⟨⟨s,.inr (.inr (.inl ⟨b,j+4,A,by rw[c];omega,C⟩))⟩,?_⟩;rw[<-Zbx a]at r;simp[ZO,hk,b,B,Zgm,r]
  ·obtain⟨A,B⟩:=g 0 j a;obtain⟨J,K⟩:=g 1 q hq;obtain⟨C,r⟩:=l j (List.mem_of_getElem? a) w;obtain⟨L,E⟩:=l q (List.mem_of_getElem? hq) G;have b:(ZbB n).kind=22:=hk;have z:∀m,num (ZbB n) m=num n m:=fun _=>rfl;refine⟨⟨s,.inr (.inr (.inr ⟨b,j+4,q+4,A,by rw[c];omega,C,J,by rw[c];omega,L⟩))⟩,?_⟩;rw[<-Zbx a]at r;rw[<-Zbx hq]at E;simp[ZO,hk,b,B,K,Zgm,r,E,z]
theorem ZhS (R:RightP ns):∀(f i:Nat) (n:Nd) (t:Tr),ns[i]? = Ya n->Zs (wrapN ns k) f (ZbB n) t->Zs ns f n t
 |0,_,_,_,_,h=>h.elim
 |f+1,i,n,.mk kd w u p ks,hn,h=>by
  rw[Zs]at h⊢;obtain⟨b,e,g,j,l⟩:=h;refine⟨b,e,g,by rw[j];simp[ZbB],fun q t c o hc=>?_⟩;obtain⟨m,d,rfl,_,_,hd,a,_⟩:=Zd5 R hn (List.mem_of_getElem? hc)
  have:=l q t ((m+4:Nat):Int) o (by
   show(n.kids.map (·+4))[q]? = _;rw[List.getElem?_map,hc]
   rfl)
  rw[ZfB hd]at this;rw[a];exact ZhS R f m d t hd this
theorem Zf7 {f:Nat} {n:Nd} {t:Tr} {c:Int} (h:Zs ns (f+1) n t) (hc:n.kids=[c]):∃p u,t=.mk n.kind n.words n.nums p [u]/\Zs ns f (Zf ns c) u:=by
 obtain⟨e,w,u,p,d⟩:=t;rw[Zs]at h;obtain⟨rfl,rfl,rfl,a,b⟩:=h;rw[hc]at a b
 match d,a with
 |[t],_=>exact⟨p,t,rfl,b 0 t c rfl rfl⟩
end
def ZbI (ns:List Nd) (n:Nd):Txt:=[102,110,32,102,40,41,32,123,32,114,101,116,117,114,110,32]++ZH ns ns.length n++[59,32,125]
theorem Zos {ns:List Nd} (R:RightP ns) {i:Nat} {n:Nd} (d:ns[i]? = Ya n) (hk:ZF n.kind=true):∃ms:List Tok,ms.map kt=[(0,[102,110]),(0,[102]),(2,[40]),(2,[41]),(2,[123]),(0,[114,101,116,117,114,110])]++ZO ns ns.length n++[(2,[59]),(2,[125])]/\Zby (ZbI ns n) 0=.ok (ms++[(3,[],(ZbI ns n).length)]):=by
 have X:=ZmH R ns.length i n d (Zdr R ns.length i n d (by omega) hk);have l:Tx [123] [(2,[123])] Zew ZcN:=ZeV (by decide) rfl;have m:Tx [125] [(2,[125])] Zew ZcN:=ZeV (by decide) rfl;have f:Tx ([32]++[123]++[32]) ([]++[(2,[123])]++[]) Zh1 Zew:=(Zf9.app l Zdx).app Zf9 fun c=>ZhC;have g:=(((ZpA (w:=[102,110]) rfl (by decide) (by decide)).app (ZmI (w:=[102]) (by decide)) Zdx).app ZmJ ZfU).app Zlh fun c=>ZhK;have h:=((g.app f fun c=>ZhC).app (ZpA (w:=[114,101,116,117,114,110]) rfl (by decide) (by decide)) Zdx).app X Zdx;have j:=((h.semi).app Zf9 fun c=>ZhC).app m Zdx;obtain⟨ms,k,a⟩:=j.1 [] 0 (fun c r e=>nomatch e);refine⟨ms,by rw[k];simp,?_⟩;rw[List.append_nil]at a;have b:[102,110]++[32]++[102]++[40]++[41]++([32]++[123]++[32])++([114,101,116,117,114,110]++[32])++ZH ns ns.length n++[59]++[32]++[125]=ZbI ns n:=by unfold ZbI;simp
 first
  |rw[b]at a
  |(simp only[List.append_assoc,List.cons_append,List.nil_append]at a b;rw[b]at a)
 rw[a,Zh8,Nat.zero_add];rfl
theorem Zoo {ns:List Nd} (o:ZcB ns=true) (hl:ns.length<=1000) {i:Nat} {n:Nd} (a:ns[i]? = Ya n) (hk:ZF n.kind=true) (q:(ZbI ns n).length<=6000) :
  (∃p,Ze5 (ZbI ns n)=([],12,p))\/∃ms:List Nd,Ze5 (ZbI ns n)=(ms,0,0)/\4<ms.length/\Zfk ns ms 76 i 4:=by
 have R:=ZfT o;obtain⟨z,D⟩:=Zo5 o
 have G:=Zjv R D 24 i n a (by
  have:1<=z i:=by
   rcases Nat.eq_zero_or_pos i with h|h
   ·rw[h,D.root];exact Nat.le_refl _
   ·obtain⟨p,b⟩:∃p,ZbJ ns=Ya p:=by
     cases b:ZbJ ns with
     |none=>rw[Zdb b]at o;cases o
     |some p=>exact⟨p,rfl⟩
    have L:=ZeI b;have hi:=(List.getElem?_eq_some_iff.1 a).1;obtain⟨j,d,_,hd,_,hm⟩:=L.at_ i (L.each i h hi);have:=D.kid j d hd i hm;omega
  omega) hk
 have V:=Zn2 (k:=i) R a hk (by omega);obtain⟨C,Y⟩:=Zj1 (k:=i) R 24 i n a G;have B:ZO ns ns.length n=ZO ns 24 n:=by
  rcases Nat.le_total ns.length 24 with h|h
  ·exact(Zh3 R _ _ i n a (Zdr R ns.length i n a (by omega) hk) h).symm
  ·exact Zh3 R _ _ i n a G h
 obtain⟨us,W,X⟩:=Zos R a hk;obtain⟨L,H⟩:∃L:List Tok,L=us++[(3,[],(ZbI ns n).length)]:=⟨_,rfl⟩
 have s:Zee (ZbI ns n)=(L,0,0):=by rw[H];exact ZjL q X
 have l:Zf (wrapN ns i) ((i+4:Nat):Int)=ZbB n:=ZfB a;have I:Zf (wrapN ns i) 0=⟨0,[],[],[1],0⟩:=rfl;have J:Zf (wrapN ns i) 1=⟨4,[[102]],[],[2],0⟩:=rfl;have K:Zf (wrapN ns i) 2=⟨7,[],[],[3],0⟩:=rfl;have M:Zf (wrapN ns i) 3=⟨18,[],[],[((i+4:Nat):Int)],0⟩:=rfl;have g:(wrapN ns i).length=ns.length+4:=by simp[wrapN]
 have il:=(List.getElem?_eq_some_iff.1 a).1;have eW:((Zf (wrapN ns i) 0).kids.map fun c=>Zde (wrapN ns i) 25 (Zf (wrapN ns i) c)).flatten=[(0,[102,110]),(0,[102]),(2,[40]),(2,[41]),(2,[123]),(0,[114,101,116,117,114,110])]++ZO ns ns.length n++[(2,[59]),(2,[125])]:=by
  have k3:Zaa (wrapN ns i) ⟨18,[],[],[((i+4:Nat):Int)],0⟩ 0=ZbB n:=(Zbx (m:=0) rfl).trans l;have k2:Zaa (wrapN ns i) ⟨4,[[102]],[],[2],0⟩ 0=⟨7,[],[],[3],0⟩:=(Zbx (m:=0) rfl).trans K;have A:Zak (wrapN ns i) 25 ⟨18,[],[],[((i+4:Nat):Int)],0⟩=[(0,[114,101,116,117,114,110])]++ZO ns ns.length n++[(2,[59])]:=by rw[Zsq rfl,k3,Y,B]
  rw[I];simp only[List.map_cons,List.map_nil,J];unfold Zde;rw[Yn (by decide)];simp only[Yk,Yl,Nat.zero_add,Nat.sub_self,List.take_zero,List.map_nil,k2,List.map_cons,M];rw[A];simp[ZaA,Za6,word]
 have Z:L.map kt=((Zf (wrapN ns i) 0).kids.map fun c=>Zde (wrapN ns i) 25 (Zf (wrapN ns i) c)).flatten++[(3,[])]:=by rw[H,List.map_append,W,eW];rfl
 have hI:∀c∈(Zf (wrapN ns i) 0).kids,ZgY (wrapN ns i) 25 (Zf (wrapN ns i) c):=fun c hc=>by
  rw[I]at hc;obtain rfl:c=1:=by simpa using hc
  rw[J];refine .inr ⟨rfl,⟨_,rfl⟩,[],2,rfl,(fun k hk=>by simp at hk),fun c hc=>?_⟩;obtain rfl:c=2:=by simpa using hc
  refine⟨by decide,by rw[g];omega,?_⟩;rw[K];intro c hc;obtain rfl:c=3:=by simpa using hc
  refine⟨by decide,by rw[g];omega,?_⟩;rw[M];show Zcf (wrapN ns i) (24+1) _;rw[Zcf];refine .inr (.inr (.inr (.inr (.inr (.inr (.inr (.inl ⟨rfl,_,rfl,fun c hc=>?_⟩)))))));obtain rfl:c=((i+4:Nat):Int):=by simpa using hc
  exact⟨by omega,by rw[g];omega,by rw[l];exact C⟩
 obtain⟨ts,N,O⟩:=Znu V (f:=25) (by decide) hI Z;have F:(Zc2 L).2.err=0:=by rw[N];rfl
 have sh:Zs (wrapN ns i) 79 (Zf (wrapN ns i) 0) (ZcD L):=by show Zs (wrapN ns i) 79 (Zf (wrapN ns i) 0) (.mk 0 [] [] (Ze L s07) (Zc2 L).1);rw[N,Zs];exact⟨rfl,rfl,rfl,O.1,fun i t c ht hc=>O.2 i t c ht hc⟩
 obtain⟨q0,t1,P,s1⟩:=Zf7 sh (c:=1) rfl;obtain⟨q1,t2,r1,s2⟩:=Zf7 s1 (c:=2) rfl;obtain⟨q2,t3,r2,s3⟩:=Zf7 s2 (c:=3) rfl;obtain⟨q3,t4,r3,Q⟩:=Zf7 s3 (c:=((i+4:Nat):Int)) rfl;rw[l]at Q;have S:=ZhS R 75 i n t4 a Q;subst r3 r2 r1;have b:∃p,ZbJ ns=Ya p:=by
  cases b:ZbJ ns with
  |none=>rw[Zdb b]at o;cases o
  |some p=>exact⟨p,rfl⟩
 obtain⟨p,b⟩:=b;have z4:szT t4<=ns.length:=Nat.le_trans (Zpy R 74 i n t4 a S) (Zmu (ZeI b) 74 i il);have U:szT (ZcD L)=szT t4+4:=by rw[P];simp[szT,ZaD]
 have T:¬1500<(Zcz (ZcD L) []).length:=by rw[ZfM,Yl,U];omega
 by_cases E:0<=Zch (ZcD L) 1
 ·refine .inl ⟨Zch (ZcD L) 1,?_⟩;unfold Ze5;rw[s];dsimp only;rw[Yn (by simp),Yn (by simp[F]),Yn T,Yo E]
 ·refine .inr ⟨Zcz (ZcD L) [],?_,?_,?_⟩
  ·unfold Ze5;rw[s];dsimp only;rw[Yn (by simp),Yn (by simp[F]),Yn T,Yn E]
  ·rw[ZfM,Yl,U];have:=ZrF t4;omega
  ·have r:∃u v w y:Nd,Zcz (ZcD L) []=u::v::w::y::ZdU t4 4:=by rw[Zri,P,ZhJ,ZhJ,ZhJ,ZhJ];exact⟨_,_,_,_,rfl⟩
   obtain⟨u,v,w,y,r⟩:=r;have r:Zcz (ZcD L) []=[u,v,w,y]++(ZdU t4 [u,v,w,y].length++[]):=by rw[r,List.append_nil];rfl
   have e:=Zlb (ms:=Zcz (ZcD L) []) t4 [u,v,w,y] [] r;have:=Zmp (ms:=Zcz (ZcD L) []) R 75 i n t4 4 a S e;exact Zmq this
end
end Go.Proofs.YtfbepcelkijgkaaGreatDoor
