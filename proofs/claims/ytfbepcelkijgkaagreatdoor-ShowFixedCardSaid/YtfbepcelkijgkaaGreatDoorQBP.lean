import Derived.Test.YtfbepcelkijgkaaGreatDoorQAO
import Derived.Test.YtfbepcelkijgkaaGreatDoorQAW
import Derived.Test.YtfbepcelkijgkaaGreatDoorQBO
set_option maxRecDepth 100000
set_option maxHeartbeats 8000000
open Option renaming some → Ya
namespace Go.Proofs.YtfbepcelkijgkaaGreatDoor
section
open Go.RowKit
theorem ZhA:∀(r:List Int) (y:Int),y<=r.foldl max y/\∀x∈r,x<=r.foldl max y
 |[],y=>⟨Int.le_refl _,fun x h=>by simp at h⟩
 |z::r,y=>by
  obtain⟨a,b⟩:=ZhA r (max y z);rw[List.foldl_cons];refine⟨by omega,fun x hx=>?_⟩;rcases List.mem_cons.1 hx with rfl|hx
  ·omega
  ·exact b x hx
theorem Zrz {l:List Int} {x:Int} (h:x∈l):x<=Zgb l:=by
 cases l with
 |nil=>simp at h
 |cons y r=>
  rcases List.mem_cons.1 h with rfl|h
  ·exact(ZhA r _).1
  ·exact(ZhA r y).2 x h
theorem Zju {p:List Int}:∀(j k:Nat),k<j->(Zc0 p j)[k]? = Ya (if 0<=atI p k then 1+atI (Zc0 p k) (atI p k)else 1)
 |0,k,h=>absurd h (Nat.not_lt_zero _)
 |j+1,k,h=>by
  rw[Zc0];rcases Nat.lt_or_ge k j with a|a
  ·rw[List.getElem?_append_left (by rw[Zb3];exact a)];exact Zju j k a
  ·obtain rfl:k=j:=by omega
   rw[List.getElem?_append_right (by rw[Zb3];exact Nat.le_refl _),Zb3,Nat.sub_self];rfl
structure DepP (ns:List Nd) (dep:Nat->Nat):Prop where
 root:dep 0=1
 kid:∀(i:Nat) (d:Nd),ns[i]? = Ya d->∀m:Nat,(m:Int)∈d.kids->dep m=dep i+1
 top:∀i:Nat,i<ns.length->dep i<=24
theorem Zpe {ns:List Nd} (h:Zcu ns=true):∃f,DepP ns f:=by
 cases hp:Zcc ns with
 |none=>rw[ZdR hp]at h;cases h
 |some p=>
  rw[Zfi hp,Bool.and_eq_true,Bool.and_eq_true,decide_eq_true_eq]at h;obtain⟨⟨_,hm⟩,_⟩:=h;have L:=ZfJ hp;obtain⟨u,v,l,o⟩:=ZfI hp;have g:(Zb4 p).length=ns.length:=by unfold Zb4;rw[Zb3,l]
  have a:∀k:Nat,k<ns.length->atI (Zb4 p) k=if 0<=atI p k then 1+atI (Zc0 p k) (atI p k)else 1:=fun k hk=>by
   rw[ZcW];unfold Zb4;rw[Zju _ k (by rw[l];exact hk)];rfl
  have b:∀k:Nat,k<ns.length->1<=atI (Zb4 p) k/\atI (Zb4 p) k<=24:=fun k hk=>by
   obtain⟨x,hx⟩:∃x,(Zb4 p)[k]? = Ya x:=⟨_,Ym (by rw[g];exact hk)⟩
   have e:atI (Zb4 p) k=x:=by rw[ZcW,hx];rfl
   have w:=(ZgS o p.length (Nat.le_refl _) k x hx).1;have y:=Zrz (List.mem_of_getElem? hx);omega
  refine⟨fun k=>(atI (Zb4 p) (k:Int)).toNat,?_,fun i d hd m hk=>?_,fun i c=>?_⟩
  ·have:=a 0 (by omega)
   have r:¬0<=atI p ((0:Nat):Int):=fun q=>by
    have:=Zi2 L q;omega
   rw[Yn r]at this;rw[this];rfl
  ·obtain⟨s,t,j⟩:=ZfU L hd hk;have c:i<ns.length:=(List.getElem?_eq_some_iff.1 hd).1;have e1:=a m (by omega);rw[Yo (by rw[j];omega),j]at e1;have n:atI (Zc0 p m) (i:Int)=atI (Zb4 p) (i:Int):=by rw[a i c,ZcW,Zju m i (by omega)];rfl
   have:=(b i c).1;have:=(b m (by omega)).1;rw[e1,n];omega
  ·have:=b i c;omega
theorem Zcr {ns:List Nd} {a:Nat->Nat} (R:RightP ns) (D:DepP ns a) {i:Nat} {d:Nd} (hd:ns[i]? = Ya d) {c:List Int} (hs:∀k∈c,k∈d.kids) {P:Nd->Prop} (h:∀(m:Nat) (e:Nd),a m=a i+1->ns[m]? = Ya e->(m:Int)∈c->ZJ ns m=e.kind->P e):Zaa ns c P:=
 ZbT R hd hs fun m e _ f b hk=>h m e (D.kid i d hd m (hs _ b)) f b hk
theorem Zhs {ns:List Nd} {l:Nat->Nat} (R:RightP ns) (D:DepP ns l):∀(f i:Nat) (d:Nd),ns[i]? = Ya d->24<l i+f->Zat d.kind=true->ZS ns f d
 |0,i,d,hd,hf,_=>by have:=D.top i (List.getElem?_eq_some_iff.1 hd).1;omega
 |f+1,i,d,hd,hf,hk=>by
  obtain⟨_,z,g⟩:=R.node i d hd
  have w:∀k∈d.kids,Zat (ZJ ns k)=true->∃m:Nat,k=m/\m<ns.length/\ZS ns f (Za ns k):=fun k n p=>by
   obtain⟨m,e,e1,_,A,B,C,E⟩:=Zf6 R hd n;have J:=D.kid i d hd m (by rw[<-e1];exact n);refine⟨m,e1,A,?_⟩;rw[C];exact Zhs R D f m e B (by omega) (by rw[<-E];exact p)
  have hc:d.kind=20\/d.kind=21\/d.kind=22\/d.kind=23:=by unfold Zat at hk;rw[Bool.and_eq_true,decide_eq_true_eq,decide_eq_true_eq]at hk;omega
  rw[ZS];rcases hc with e|e|e|e
  ·simp[Zm,e]at g;obtain⟨y,o⟩:=Zab g.1;obtain⟨v,hv⟩:=Zcb o;have:=ZaR z (x:=v) (by rw[hv];simp);unfold ZaH at this;exact⟨fun h=>by rw[e]at h;exact absurd h (by decide),.inl ⟨e,v,[],hv,by omega,by omega⟩⟩
  ·simp[Zm,e]at g;obtain⟨y,o⟩:=Zab g.1;obtain⟨s,hs⟩:=Zcb y;exact⟨fun h=>by rw[e]at h;exact absurd h (by decide),.inr (.inl ⟨e,s,[],hs⟩)⟩
  ·simp[Zm,e]at g;obtain⟨⟨n,p⟩,F⟩:=g;obtain⟨y,o⟩:=Zab n;obtain⟨v,hv⟩:=Zcb o;have:=ZaR z (x:=v) (by rw[hv];simp);unfold ZaH at this;have q:v<=5:=by simpa[num,hv]using p
   obtain⟨j,k,c,a,b⟩:=ZfY F;obtain⟨G,rfl,H,I⟩:=w j (by rw[c];simp) a;obtain⟨r,rfl,t,u⟩:=w k (by rw[c];simp) b;exact⟨fun _=>⟨v,[],hv,this.1,q⟩,.inr (.inr (.inr ⟨e,G,r,by rw[c];rfl,H,I,by rw[c];rfl,t,u⟩))⟩
  ·simp[Zm,e]at g;obtain⟨k,c,a⟩:=Zes g.2;obtain⟨r,rfl,t,u⟩:=w k (by rw[c];simp) a;exact⟨fun h=>by rw[e]at h;exact absurd h (by decide),.inr (.inr (.inl ⟨e,r,by rw[c];rfl,t,u⟩))⟩
theorem Zkj {ns:List Nd} {A:Nat->Nat} (R:RightP ns) (D:DepP ns A):∀(f i:Nat) (d:Nd),ns[i]? = Ya d->24<A i+f->ZcJ d.kind=true->Zbj ns f d
 |0,i,d,hd,hf,_=>by have:=D.top i (List.getElem?_eq_some_iff.1 hd).1;omega
 |f+1,i,d,hd,hf,hk=>by
  obtain⟨U,M,v⟩:=R.node i d hd
  have K:∀(m:Nat) (e:Nd),A i<A m->ns[m]? = Ya e->e.kind=7->Zch ns (fun x=>Zbj ns f x) e:=fun m e hm J O=>by
   obtain⟨_,_,v⟩:=R.node m e J;simp[Zm,O]at v;refine Zcr R D J (fun k hk=>hk) fun q g hq C o t=>Zkj R D f q g C (by omega) (by rw[<-t];exact Zce v.2 o)
  have H:∀k,k∈d.kids->Zat (ZJ ns k)=true->Zaa ns [k] (ZS ns f):=fun k I E=>
   Zcr R D hd (fun y w=>by rw[List.mem_singleton.1 w];exact I) fun m e hm J o t=>Zhs R D f m e J (by omega) (by rw[<-t];rw[List.mem_singleton.1 o];exact E)
  have G:∀k,k∈d.kids->ZJ ns k=7->Zaa ns [k] (Zch ns fun x=>Zbj ns f x):=fun k I E=>
   Zcr R D hd (fun y w=>by rw[List.mem_singleton.1 w];exact I) fun m e hm J o t=>K m e (by omega) J (by rw[<-t];rw[List.mem_singleton.1 o];exact E)
  have hc:d.kind=8\/d.kind=9\/d.kind=10\/d.kind=11\/d.kind=13\/d.kind=14\/d.kind=16\/d.kind=17\/d.kind=18\/d.kind=19:=by unfold ZcJ at hk;simp at hk;omega
  rw[Zbj];rcases hc with e|e|e|e|e|e|e|e|e|e
  ·simp[Zm,e]at v;obtain⟨k,n,a⟩:=Zes v.2;exact .inl ⟨.inl e,Zcb (Zab v.1).1,k,n,H k (by rw[n];simp) a⟩
  ·simp[Zm,e]at v;obtain⟨k,n,a⟩:=Zes v.2;exact .inl ⟨.inr e,Zcb (Zab v.1).1,k,n,H k (by rw[n];simp) a⟩
  ·simp[Zm,e]at v;obtain⟨j,k,n,a,b⟩:=ZfY v.2;refine .inr (.inl ⟨e,Zff (Zab v.1).1,⟨j,k,n⟩,fun y w=>?_⟩);have F:ZJ ns y=7:=by
    rw[n]at w;rcases List.mem_cons.1 w with rfl|w
    ·exact ZbB a
    ·rw[List.mem_singleton.1 w];exact ZbB b
   exact G y w F y (by simp)
  ·simp[Zm,e]at v;refine .inr (.inr (.inl ⟨e,Zff (Zab v.1).1,Zcr R D hd (fun k hk=>hk) fun m g hm C o t=>?_⟩));have N:g.kind=12:=by rw[<-t];exact ZbB (Zce v.2 o)
   obtain⟨_,_,z⟩:=R.node m g C;simp[Zm,N]at z;obtain⟨k,n,a⟩:=Zes z.2;obtain⟨s,hs⟩:=Zcb (Zab z.1).1;exact⟨⟨s,[],hs⟩,k,n,Zcr R D C (fun y w=>by rw[List.mem_singleton.1 w,n];simp) fun q u hq M o t=>K q u (by omega) M (by rw[<-t];rw[List.mem_singleton.1 o];exact ZbB a)⟩
  ·simp[Zm,e]at v;obtain⟨I,E⟩:=v;obtain⟨p,q,r,hn⟩:=ZhW (Zab I).2;have Q:=ZaR M (x:=p) (by rw[hn];simp);have nq:=ZaR M (x:=q) (by rw[hn];simp);have S:=ZaR M (x:=r) (by rw[hn];simp);unfold Zep at E;simp at E;obtain⟨⟨⟨_,P⟩,_⟩,L⟩:=E;have T:p<=4:=by simpa[num,hn]using P
   refine .inr (.inr (.inr (.inl ⟨e,Zff (Zab I).1,⟨p,q,r,hn,Q.1,T,nq,S⟩,?_⟩)));rcases L with L|⟨L,_⟩
   ·obtain⟨k,n,a⟩:=Zes L;exact⟨[],k,n,(fun y w=>nomatch w),G k (by rw[n];simp) (ZbB a)⟩
   ·obtain⟨j,k,n,a,b⟩:=ZfY L;exact⟨[j],k,n,Zcr R D hd (fun y w=>by rw[List.mem_singleton.1 w,n];simp) fun m g hm C o t=>Zfg R C (by rw[<-t];rw[List.mem_singleton.1 o];exact ZbB a),G k (by rw[n];simp) (ZbB b)⟩
  ·simp[Zm,e]at v;refine .inr (.inr (.inr (.inr (.inl ⟨e,?_,Zcr R D hd (fun k hk=>hk) fun m g hm C o t=>?_⟩))))
   ·rcases v.1 with h|h
    ·exact .inl (Zcb (Zab h).1)
    ·exact .inr (Zff (Zab h).1)
   ·have ha:=Zce v.2 o;rw[t]at ha;unfold Zed at ha;by_cases B:g.kind=15
    ·obtain⟨_,_,z⟩:=R.node m g C;simp[Zm,B]at z;obtain⟨s,hs⟩:=Zcb (Zab z.1).1;exact .inl ⟨B,s,[],hs⟩
    ·exact .inr ⟨B,Zhs R D f m g C (by omega) (by simpa[B]using ha)⟩
  ·simp[Zm,e]at v;refine .inr (.inr (.inr (.inr (.inr (.inl ⟨e,?_⟩)))));rcases v.2 with h|h
   ·obtain⟨j,k,n,a,b⟩:=ZfY h;exact⟨j,[k],n,by simp,H j (by rw[n];simp) a,G k (by rw[n];simp) (ZbB b)⟩
   ·obtain⟨j,k,l,n,a,b,c⟩:=Zr1 h;refine⟨j,[k,l],n,by simp,H j (by rw[n];simp) a,fun y w=>?_⟩;have F:ZJ ns y=7:=by
     rcases List.mem_cons.1 w with rfl|w
     ·exact ZbB b
     ·rw[List.mem_singleton.1 w];exact ZbB c
    exact G y (by rw[n];exact List.mem_cons_of_mem _ w) F y (by simp)
  ·simp[Zm,e]at v;obtain⟨j,k,n,a,b⟩:=ZfY v.2;exact .inr (.inr (.inr (.inr (.inr (.inr (.inl ⟨e,j,k,n,H j (by rw[n];simp) a,G k (by rw[n];simp) (ZbB b)⟩))))))
  ·simp[Zm,e]at v;obtain⟨k,n,a⟩:=Zes v.2;exact .inr (.inr (.inr (.inr (.inr (.inr (.inr (.inl ⟨e,k,n,H k (by rw[n];simp) a⟩)))))))
  ·exact .inr (.inr (.inr (.inr (.inr (.inr (.inr (.inr e)))))))
theorem ZoG {ns:List Nd} {F:Nat->Nat} (R:RightP ns) (D:DepP ns F):Zaa ns (Za ns 0).kids (Zfl ns 24):=by
 have E:ns[0]? = Ya (ns[0]'R.some_):=Ym R.some_;have J:=ZbX (k:=0) E;have M:=Zgk (k:=0) E;rw[show((0:Nat):Int)=0 from rfl]at J M;obtain⟨_,_,L⟩:=R.node 0 _ E;have z:(ns[0]'R.some_).kind=0:=by rw[<-M];exact R.root
 simp[Zm,z]at L;rw[J];refine Zcr R D E (fun k hk=>hk) fun m d hm hd i f=>?_;obtain⟨_,hu,t⟩:=R.node m d hd;rcases ZiV (Zce L.2 i)with e|e
 ·rw[f]at e;simp[Zm,e]at t;refine .inl ⟨e,Zcb (Zab t.1).1,Zcr R D hd (fun k hk=>hk) fun q g hq C i f=>?_⟩;obtain⟨_,u,c⟩:=R.node q g C;rcases ZiV (Zce t.2 i)with A|A
  ·rw[f]at A;simp[Zm,A]at c;obtain⟨⟨j,B⟩,_⟩:=c;obtain⟨v,hv⟩:=Zcb (Zab j).2;have:=ZaR u (x:=v) (by rw[hv];simp);exact .inr ⟨A,Zcb (Zab j).1,v,hv,this.1,by simpa[num,hv]using B⟩
  ·rw[f]at A;simp[Zm,A]at c;obtain⟨⟨⟨j,B⟩,_⟩,_⟩:=c
   match hg2:g.words with
   |[]=>rw[hg2]at j;simp at j
   |[_]=>rw[hg2]at j;simp at j
   |a::b::r=>exact .inl ⟨A,a,b,r,hg2,by rw[hg2]at B;simp at B;omega,by rw[hg2]at j;simp at j;omega⟩
 ·rw[f]at e;simp[Zm,e]at t;obtain⟨⟨j,B⟩,U⟩:=t;obtain⟨k,w,a⟩:=Zes U;have G:d.kids≠[]:=fun q=>by rw[q]at w;simp at w
  obtain⟨l,X,o⟩:=ZoN d.kids G;have Q:d.kids.take (d.kids.length-1)=l:=by rw[o];simp
  have P:k=X:=by rw[o]at w;simpa using w.symm
  rw[Q]at B;subst P;refine .inr ⟨e,Zcb (Zab j).1,l,k,o,Zcr R D hd (fun y I=>by rw[o];simp[I]) fun q g hq C i f=>?_,Zcr R D hd (fun y I=>by rw[o,List.mem_singleton.1 I];simp) fun q g hq C i f=>?_⟩
  ·have S:g.kind=5:=by rw[<-f];exact ZbB (Zce B i)
   obtain⟨_,u,c⟩:=R.node q g C;simp[Zm,S]at c;rcases c with h|⟨h,hc⟩
   ·exact .inl (Zcb (Zab h.1).1)
   ·obtain⟨p,N,r,hn⟩:=ZhW (Zab h).2;have Y:=ZaR u (x:=p) (by rw[hn];simp);have nq:=ZaR u (x:=N) (by rw[hn];simp);have Z:=ZaR u (x:=r) (by rw[hn];simp);unfold ZcI at hc;simp at hc;obtain⟨⟨⟨V,_⟩,W⟩,_⟩:=hc;refine .inr ⟨Zff (Zab h).1,⟨p,N,r,hn,Y.1,by simpa[num,hn]using V,nq,Z⟩,Zcr R D C (fun k hk=>hk) fun O K H hg2 n s=>Zfg R hg2 (by rw[<-s];exact ZbB (Zce W n))⟩
  ·have T:g.kind=7:=by rw[<-f,List.mem_singleton.1 i];exact ZbB a
   obtain⟨_,_,c⟩:=R.node q g C;simp[Zm,T]at c;exact Zcr R D C (fun k hk=>hk) fun O K H hg2 n s=>Zkj R D 24 O K hg2 (by omega) (by rw[<-s];exact Zce c.2 n)
end
section
open Go.RowKit
mutual
def Zgt (ms:List Nd):Tr->Nat->Prop
 |.mk k ws us _ ks,a=>∃x:Nd,ms[a]? = Ya x/\x.kind=k/\x.words=ws/\x.nums=us/\ZeN ms ks x.kids
def ZeN (ms:List Nd):List Tr->List Int->Prop
 |[],c=>c=[]
 |t::r,c=>∃(b:Nat) (a:List Int),c=(b:Int)::a/\Zgt ms t b/\ZeN ms r a
end
theorem Zk4 (ts:List Tr) (a:Nat) (b:List Nd):b.length<=(ZcC ts a b).length:=by rw[Zhz];omega
theorem Zry (t:Tr) (a:List Nd):a.length<=(Zcf t a).length:=by rw[ZdZ];omega
mutual
theorem ZjS:∀(t:Tr) (a ms:List Nd),(∀j,a.length<=j->j<(Zcf t a).length->ms[j]? = (Zcf t a)[j]?)->Zgt ms t a.length
 |.mk k ws us p ks,a,ms,h=>by
  rw[Zcf]at h;have hx:(a++[(⟨k,ws,us,[],p⟩:Nd)])[a.length]? = Ya ⟨k,ws,us,[],p⟩:=by simp
  obtain⟨g,b,c⟩:=ZiZ ks a.length (a++[⟨k,ws,us,[],p⟩]) _ hx;have d:=Zk4 ks a.length (a++[⟨k,ws,us,[],p⟩]);rw[Yj,List.length_singleton]at d;rw[Zgt];refine⟨_,(h a.length (Nat.le_refl _) (by omega)).trans b,rfl,rfl,rfl,?_⟩;dsimp only;rw[List.nil_append];exact c ms fun j e f=>h j (by rw[Yj,List.length_singleton]at e;omega) f
theorem ZiZ:∀(ts:List Tr) (a:Nat) (b:List Nd) (x:Nd),b[a]? = Ya x->∃cs:List Int,(ZcC ts a b)[a]? = Ya ⟨x.kind,x.words,x.nums,x.kids++cs,x.pos⟩/\∀ms:List Nd,(∀j,b.length<=j->j<(ZcC ts a b).length->ms[j]? = (ZcC ts a b)[j]?)->ZeN ms ts cs
 |[],a,b,x,hx=>⟨[],by rw[ZcC,hx,List.append_nil],fun ms _=>by rw[ZeN]⟩
 |t::r,a,b,x,hx=>by
  have ha:=(List.getElem?_eq_some_iff.1 hx).1;have e1:(Zcf t (Zer b a (b.length:Int)))[a]? = Ya ⟨x.kind,x.words,x.nums,x.kids++[(b.length:Int)],x.pos⟩:=by rw[Zhy t _ a (by rw[ZdD];exact ha),Zmi hx]
  obtain⟨cs,f,g⟩:=ZiZ r a _ _ e1;have h:=Zry t (Zer b a (b.length:Int));have hg2:=Zk4 r a (Zcf t (Zer b a (b.length:Int)));rw[ZdD]at h;refine⟨(b.length:Int)::cs,by rw[ZcC,f];simp,fun ms c=>?_⟩;rw[ZcC]at c;rw[ZeN];refine⟨b.length,cs,rfl,?_,g ms fun j d e=>c j (by omega) e⟩
  have:=ZjS t (Zer b a (b.length:Int)) ms fun j d e=>by
   rw[ZdD]at d;rw[c j d (by omega),ZgZ r a _ j e (by omega)]
  rw[ZdD]at this;exact this
end
theorem Zk1 (t:Tr):Zgt (Zcf t []) t 0:=ZjS t [] _ fun _ _ _=>rfl
theorem Zk2 (ms:List Nd):∀(ts:List Tr) (cs:List Int),ZeN ms ts cs->cs.length=ts.length/\∀(q:Nat) (t:Tr) (c:Int),ts[q]? = Ya t->cs[q]? = Ya c->∃b:Nat,c=b/\Zgt ms t b
 |[],cs,h=>by
  rw[ZeN]at h;subst h;exact⟨rfl,fun q t c h=>by simp at h⟩
 |t::r,cs,h=>by
  rw[ZeN]at h;obtain⟨b,d,rfl,e,f⟩:=h;obtain⟨g,i2⟩:=Zk2 ms r d f;refine⟨by simp[g],fun q u c a hc=>?_⟩;cases q with
  |zero=>
   injection a with a;injection hc with hc;subst a hc;exact⟨b,rfl,e⟩
  |succ q=>exact i2 q u c a hc
def ZiC (ns ms:List Nd):Nat->Int->Int->Prop
 |0,_,_=>False
 |f+1,i,k=>∃(a b:Nat) (x y:Nd),i=a/\k=b/\ns[a]? = Ya x/\ms[b]? = Ya y/\x.kind=y.kind/\x.words=y.words/\x.nums=y.nums/\x.kids.length=y.kids.length ∧
  ∀(q:Nat) (c e:Int),x.kids[q]? = Ya c->y.kids[q]? = Ya e->ZiC ns ms f c e
theorem ZmE {ns ms:List Nd} (R:RightP ns):∀(f a:Nat) (n:Nd) (t:Tr) (b:Nat),ns[a]? = Ya n->Zs ns f n t->Zgt ms t b->ZiC ns ms f a b
 |0,_,_,_,_,_,h,_=>h.elim
 |f+1,a,n,.mk k w u p ks,b,hn,h,hl=>by
  rw[Zs]at h;rw[Zgt]at hl;obtain⟨A,B,C,D,E⟩:=h;obtain⟨y,e1,o,r,s,v⟩:=hl;obtain⟨j,G⟩:=Zk2 ms ks y.kids v;rw[ZiC];refine⟨a,b,n,y,rfl,rfl,hn,e1,by rw[o,A],by rw[r,B],by rw[s,C],by rw[j,D],fun q c e hc g=>?_⟩;have hq:q<ks.length:=by rw[<-j];exact(List.getElem?_eq_some_iff.1 g).1
  have i:ks[q]? = Ya ks[q]:=Ym hq;obtain⟨l,rfl,F⟩:=G q _ e i g;obtain⟨m,d,rfl,_,_,hd,z,_⟩:=Zf6 R hn (List.mem_of_getElem? hc);have hs:=E q _ _ i hc;rw[z]at hs;exact ZmE R f m d _ l hd hs F
theorem ZmV {ns:List Nd} {f:Nat}:∀(a:List Tr) (cs:List Int),a.length=cs.length->(∀(i:Nat) (t:Tr) (c:Int),a[i]? = Ya t->cs[i]? = Ya c->szT t<=(Zd3 ns f c).length)->Zaq a<=(cs.flatMap (Zd3 ns f)).length
 |[],cs,_,_=>by rw[Zaq];exact Nat.zero_le _
 |t::r,[],h,_=>by simp at h
 |t::r,c::cs,h,g=>by
  have d:=ZmV (ns:=ns) (f:=f) r cs (by simpa using h) fun i t c b hc=>g (i+1) t c b hc;have i2:=g 0 t c rfl rfl;rw[Zaq,List.flatMap_cons,Yj];omega
theorem ZpB {ns:List Nd} (R:RightP ns):∀(f a:Nat) (n:Nd) (t:Tr),ns[a]? = Ya n->Zs ns (f+1) n t->szT t<=(Zd3 ns f (a:Int)).length
 |0,a,n,.mk k w u p ks,hn,h=>by
  rw[Zs]at h;obtain⟨_,_,_,b,e⟩:=h;cases ks with
  |nil=>rw[szT,Zaq,Zd3];exact Nat.le_refl _
  |cons t r=>
   cases hc:n.kids with
   |nil=>rw[hc]at b;simp at b
   |cons c l=>exact(e 0 t c rfl (by rw[hc];rfl)).elim
 |f+1,a,n,.mk k w u p ks,hn,h=>by
  rw[Zs]at h;obtain⟨_,_,_,b,e⟩:=h;rw[szT,Zd3,ZbX hn,Yk]
  have:=ZmV (ns:=ns) (f:=f) ks n.kids b fun i t c j hc=>by
   obtain⟨m,d,rfl,_,_,hd,g,_⟩:=Zf6 R hn (List.mem_of_getElem? hc);have hs:=e i t _ j hc;rw[g]at hs;exact ZpB R f m d t hd hs
  omega
theorem Zh3:∀(b:List Tr) (a:Int),(∀t∈b,ZbG t a=-1)->ZdO b a=-1
 |[],a,_=>by rw[ZdO]
 |t::r,a,h=>by
  rw[ZdO,Yn (by rw[h t List.mem_cons_self];decide)];exact Zh3 r a fun u c=>h u (List.mem_cons_of_mem _ c)
theorem ZiH {ns:List Nd} {b:Nat->Nat} (R:RightP ns) (D:DepP ns b):∀(f a:Nat) (n:Nd) (t:Tr),ns[a]? = Ya n->Zs ns f n t->ZbG t (b a:Nat)=-1
 |0,_,_,_,_,h=>h.elim
 |f+1,a,n,.mk k w u p ks,hn,h=>by
  rw[Zs]at h;obtain⟨_,_,_,o,q⟩:=h;have:=D.top a (List.getElem?_eq_some_iff.1 hn).1;rw[ZbG,Yn (by omega)];refine Zh3 ks _ fun t r=>?_;obtain⟨i,j⟩:=List.mem_iff_getElem?.1 r;have g:=(List.getElem?_eq_some_iff.1 j).1;obtain⟨c,hc⟩:∃c,n.kids[i]? = Ya c:=⟨_,Ym (by rw[<-o];exact g)⟩
  obtain⟨m,d,rfl,_,_,hd,l,_⟩:=Zf6 R hn (List.mem_of_getElem? hc);have hs:=q i t _ j hc;rw[l]at hs;have e:=ZiH R D f m d t hd hs;rw[D.kid a n hn m (List.mem_of_getElem? hc)]at e;rw[<-e]
  congr 1
end
section
theorem Zlt {ns:List Nd} (R:RightP ns):∀(f g i:Nat) (n:Nd),ns[i]? = Ya n->Zbj ns f n->f<=g->ZL ns g n=ZL ns f n
 |0,_,_,_,_,h,_=>h.elim
 |_+1,0,_,_,_,_,hg=>absurd hg (by omega)
 |f+1,g+1,i,n,hn,h,hg=>by
  have E:∀k∈n.kids,ZS ns f (Za ns k)->ZR ns g (Za ns k)=ZR ns f (Za ns k):=fun k hk d=>by
   obtain⟨j,q⟩:=ZaA R hn hk;exact ZkO R f g j _ q d (by omega)
  have s:∀(m:Nd) (j:Nat),ns[j]? = Ya m->Zch ns (fun x=>Zbj ns f x) m->(m.kids.map fun c=>ZL ns g (Za ns c))=m.kids.map fun c=>ZL ns f (Za ns c):=fun m j q b=>List.map_congr_left fun c hc=>by
   obtain⟨C,v⟩:=ZaA R q hc;exact Zlt R f g C _ v (b c hc).2.2 (by omega)
  have B:∀k∈n.kids,Zch ns (fun x=>Zbj ns f x) (Za ns k)->((Za ns k).kids.map fun c=>ZL ns g (Za ns c))=(Za ns k).kids.map fun c=>ZL ns f (Za ns c):=fun k hk b=>by
   obtain⟨j,q⟩:=ZaA R hn hk;exact s _ j q b
  rcases h with⟨hk,-,k,a,d⟩|⟨hk,-,-,b⟩|⟨hk,-,A⟩|⟨hk,-,-,l,k,a,-,b⟩|⟨hk,-,z⟩|⟨hk,k,r,a,-,d,b⟩|⟨hk,j,k,a,d,b⟩|⟨hk,k,a,d⟩|hk
  ·have o:Zv ns n 0=Za ns k:=Za1 (by rw[a];rfl);have e:=E k (by rw[a];simp) (d k (by simp)).2.2;rcases hk with hk|hk
   ·rw[ks8 hk,ks8 hk,o,e]
   ·rw[ks9 hk,ks9 hk,o,e]
  ·rw[Zns hk,Zns hk,List.map_congr_left fun c hc=>by rw[B c hc (b c hc).2.2]]
  ·have e:(n.kids.map fun k=>[((0:Nat),word (Za ns k) 0)]++Zaw ((Zv ns (Za ns k) 0).kids.map fun k=>ZL ns g (Za ns k)))=n.kids.map fun k=>[((0:Nat),word (Za ns k) 0)]++Zaw ((Zv ns (Za ns k) 0).kids.map fun k=>ZL ns f (Za ns k)):=List.map_congr_left fun c hc=>by
    obtain⟨j,q⟩:=ZaA R hn hc;obtain⟨-,k,t,b⟩:=(A c hc).2.2;have o:Zv ns (Za ns c) 0=Za ns k:=Za1 (by rw[t];rfl);obtain⟨D,w⟩:=ZaA R q (k:=k) (by rw[t];simp);rw[o,s _ D w (b k (by simp)).2.2]
   rw[ZkY hk,ZkY hk,e]
  ·have u:Zv ns n (n.kids.length-1)=Za ns k:=Za1 (by rw[a];simp);rw[Znt hk,Znt hk,u,B k (by rw[a];simp) (b k (by simp)).2.2]
  ·have e:(n.kids.map fun k=>Zee ns g (Za ns k))=n.kids.map fun k=>Zee ns f (Za ns k):=List.map_congr_left fun c hc=>by
    rcases(z c hc).2.2 with⟨p,-⟩|⟨p,d⟩
    ·simp[Zee,p]
    ·simp[Zee,p,E c hc d]
   rw[ZkZ hk,ZkZ hk,e]
  ·have o:Zv ns n 0=Za ns k:=Za1 (by rw[a];rfl)
   have e:((n.kids.drop 1).map fun k=>Zaw ((Za ns k).kids.map fun k=>ZL ns g (Za ns k)))=(n.kids.drop 1).map fun k=>Zaw ((Za ns k).kids.map fun k=>ZL ns f (Za ns k)):=List.map_congr_left fun c hc=>by
    rw[B c (List.mem_of_mem_drop hc) (b c (by rw[a]at hc;simpa using hc)).2.2]
   rw[Zk0 hk,Zk0 hk,o,e,E k (by rw[a];simp) (d k (by simp)).2.2]
  ·have o:Zv ns n 0=Za ns j:=Za1 (by rw[a];rfl);have y:Zv ns n 1=Za ns k:=Za1 (by rw[a];rfl);rw[Zqf hk,Zqf hk,o,y,E j (by rw[a];simp) (d j (by simp)).2.2,B k (by rw[a];simp) (b k (by simp)).2.2]
  ·have o:Zv ns n 0=Za ns k:=Za1 (by rw[a];rfl);rw[Zqg hk,Zqg hk,o,E k (by rw[a];simp) (d k (by simp)).2.2]
  ·rw[Zqh hk,Zqh hk]
theorem ZkU {ns:List Nd} (R:RightP ns) {f g i:Nat} {n:Nd} (hn:ns[i]? = Ya n) (h:Zfl ns f n) (o:f<=g):ZcB ns g n=ZcB ns f n:=by
 rcases h with⟨hk,-⟩|⟨hk,-,l,k,b,-,m⟩
 ·simp[ZcB,hk]
 ·have a:Zv ns n (n.kids.length-1)=Za ns k:=Za1 (by rw[b];simp);obtain⟨j,p⟩:=ZaA R hn (k:=k) (by rw[b];simp)
  have e:((Za ns k).kids.map fun c=>ZL ns g (Za ns c))=(Za ns k).kids.map fun c=>ZL ns f (Za ns c):=List.map_congr_left fun c hc=>by
   obtain⟨q,d⟩:=ZaA R p hc;exact Zlt R f g q _ d ((m k (by simp)).2.2 c hc).2.2 o
  unfold ZcB;rw[a,e]
end
section
open Go.RowKit
theorem Zn4 {ns:List Nd} (l:Zcu ns=true) (d:(ZbC ns).length<=6000):∃t:Tr,ZdP (ZbC ns)=(Zcf t [],0,0)/\Zs ns 76 (Za ns 0) t:=by
 have R:=Zew l;obtain⟨w,D⟩:=Zpe l;have n:=ZoG R D;have b:ns[0]? = Ya (Za ns 0):=by have b:ns[0]? = Ya (ns[0]'R.some_):=Ym R.some_;rw[b,<-ZbX (k:=0) b];rfl
 have A:Zn3 ns=((Za ns 0).kids.map fun c=>ZcB ns 24 (Za ns c)).flatten:=by
  unfold Zn3
  congr 1
  refine List.map_congr_left fun c hc=>?_;obtain⟨j,q⟩:=ZaA R b hc;rcases Nat.le_total ns.length 24 with h|h
  ·exact(ZkU R q (ZfH R c hc).2.2 h).symm
  ·exact ZkU R q (n c hc).2.2 h
 obtain⟨I,e1,z⟩:=Zpt l;obtain⟨L,o⟩:∃L:List Tok,L=I++[(3,[],(ZbC ns).length)]:=⟨_,rfl⟩
 have B:L.map kt=((Za ns 0).kids.map fun c=>ZcB ns 24 (Za ns c)).flatten++[(3,[])]:=by rw[o,List.map_append,e1,A];rfl
 obtain⟨N,u,v⟩:=ZnN R (f:=24) (by decide) (fun c hc=>(n c hc).2.2) B;have m:Zeq (ZbC ns)=(L,0,0):=by rw[o];exact ZhH d z
 have E:(Zc8 L).2.err=0:=by rw[u];rfl
 have s:(Za ns 0).kind=0:=R.root;have r:=(R.node 0 _ b).2.2;have C:Zm ns (Za ns 0)=(ZF (Za ns 0) 0 0&&ZbJ ns (Za ns 0).kids (isB [1,4])):=by simp[Zm,s]
 rw[C,Bool.and_eq_true]at r;obtain⟨J,H⟩:=ZaL r.1;have a:Zs ns 76 (Za ns 0) (Zde L):=by show Zs ns 76 (Za ns 0) (.mk 0 [] [] (Ze L s07) (Zc8 L).1);rw[u,Zs];exact⟨s.symm,(List.length_eq_zero_iff.1 J).symm,(List.length_eq_zero_iff.1 H).symm,v.1,fun i t c F hc=>v.2 i t c F hc⟩
 have G:¬1500<(Zcf (Zde L) []).length:=by
  have K:=ZpB R 75 0 _ _ b a;rw[ZdZ,Yl,Nat.zero_add];have g:∃p,Zcc ns=Ya p:=by
   cases g:Zcc ns with
   |none=>rw[ZdR g]at l;cases l
   |some p=>exact⟨p,rfl⟩
  obtain⟨p,g⟩:=g;have M:=ZmI (ZfJ g) 75 0 R.some_;have:=R.len;omega
 have y:¬0<=ZbG (Zde L) 1:=by have e:=ZiH R D 76 0 _ _ b a;rw[D.root]at e;rw[show(1:Int)=((1:Nat):Int)from rfl,e];decide
 refine⟨Zde L,?_,a⟩;unfold ZdP;rw[m];dsimp only;rw[Yn (by simp),Yn (by simp[E]),Yn G,Yn y]
end
end Go.Proofs.YtfbepcelkijgkaaGreatDoor
