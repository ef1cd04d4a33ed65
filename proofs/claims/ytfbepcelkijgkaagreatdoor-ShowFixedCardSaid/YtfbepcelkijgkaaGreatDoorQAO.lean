import Derived.Test.YtfbepcelkijgkaaGreatDoorQAG
import Derived.Test.YtfbepcelkijgkaaGreatDoorQAH
import Derived.Test.YtfbepcelkijgkaaGreatDoorQAN
set_option maxRecDepth 100000
set_option maxHeartbeats 8000000
open Option renaming some → Ya
namespace Go.Proofs.YtfbepcelkijgkaaGreatDoor
section
open Go.RowKit
def Zaa (ns:List Nd) (a:List Int) (P:Nd->Prop):Prop:=∀k∈a,0<=k/\k<(ns.length:Int)/\P (Za ns k)
theorem Zaa.mono {ns:List Nd} {a:List Int} {P Q:Nd->Prop} (h:Zaa ns a P) (g:∀n,P n->Q n):Zaa ns a Q:=fun k hk=>⟨(h k hk).1,(h k hk).2.1,g _ (h k hk).2.2⟩
def Zez (n:Nd):Prop:=0<n.words.length/\∃g r,n.nums=g::r/\0<=g/\g<=2
def ZaH (x:Int):Prop:=0<=x/\x<1000000000000000000
def ZfD (ns:List Nd) (f:Nat) (n:Nd):Prop:=(n.kind=15/\∃s r,n.words=s::r)\/(n.kind≠15/\ZS ns f n)
def Zch (ns:List Nd) (P:Nd->Prop) (m:Nd):Prop:=Zaa ns m.kids P
def CaseOk (ns:List Nd) (P:Nd->Prop) (n:Nd):Prop:=(∃s r,n.words=s::r)/\∃k,n.kids=[k]/\Zaa ns [k] (Zch ns P)
def Zbj (ns:List Nd):Nat->Nd->Prop
 |0,_=>False
 |f+1,n=>
  ((n.kind=8\/n.kind=9)/\(∃s,n.words=[s])/\∃k,n.kids=[k]/\Zaa ns [k] (ZS ns f)) ∨
  (n.kind=10/\(∃a b,n.words=[a,b])/\(∃j k,n.kids=[j,k])/\Zaa ns n.kids (Zch ns fun x=>Zbj ns f x)) ∨
  (n.kind=11/\(∃a b,n.words=[a,b])/\Zaa ns n.kids (CaseOk ns fun x=>Zbj ns f x)) ∨
  (n.kind=13/\(∃a b,n.words=[a,b])/\(∃p q r,n.nums=[p,q,r]/\0<=p/\p<=4/\ZaH q/\ZaH r)/\∃l k,n.kids=l++[k]/\Zaa ns l Zez/\Zaa ns [k] (Zch ns fun x=>Zbj ns f x)) ∨
  (n.kind=14/\((∃a,n.words=[a])\/∃a b,n.words=[a,b])/\Zaa ns n.kids (ZfD ns f)) ∨
  (n.kind=16/\∃k r,n.kids=k::r/\r≠[]/\Zaa ns [k] (ZS ns f)/\Zaa ns r (Zch ns fun x=>Zbj ns f x)) ∨
  (n.kind=17/\∃j k,n.kids=[j,k]/\Zaa ns [j] (ZS ns f)/\Zaa ns [k] (Zch ns fun x=>Zbj ns f x)) ∨
  (n.kind=18/\∃k,n.kids=[k]/\Zaa ns [k] (ZS ns f)) ∨
  n.kind=19
def Zfm (n:Nd):Prop:=(n.kind=3/\∃a b r,n.words=a::b::r/\r.length % 2=0/\2<=r.length)\/(n.kind=2/\(∃s,n.words=[s])/\∃x,n.nums=[x]/\0<=x/\x<=1)
def Zgx (ns:List Nd) (n:Nd):Prop:=(∃s,n.words=[s])\/((∃a b,n.words=[a,b])/\(∃p q r,n.nums=[p,q,r]/\0<=p/\p<=4/\ZaH q/\ZaH r)/\Zaa ns n.kids Zez)
def Zfl (ns:List Nd) (f:Nat) (n:Nd):Prop:=
 (n.kind=1/\(∃s,n.words=[s])/\Zaa ns n.kids Zfm)\/(n.kind=4/\(∃s,n.words=[s])/\∃l k,n.kids=l++[k]/\Zaa ns l (Zgx ns)/\Zaa ns [k] (Zch ns fun x=>Zbj ns f x))
structure RightP (ns:List Nd):Prop where
 some_:0<ns.length
 len:ns.length<=1500
 root:ZJ ns 0=0
 kids:∀(i:Nat) (d:Nd),ns[i]? = Ya d->∀k∈d.kids,(i:Int)<k/\k<(ns.length:Int)
 node:∀(i:Nat) (d:Nd),ns[i]? = Ya d->ZcD d.words=true/\ZbR d.nums=true/\Zm ns d=true
theorem Zew {ns:List Nd} (h:Zcu ns=true):RightP ns:=by
 cases hp:Zcc ns with
 |none=>rw[ZdR hp]at h;cases h
 |some p=>
  rw[Zfi hp,Bool.and_eq_true,Bool.and_eq_true]at h;obtain⟨⟨b,_⟩,hv⟩:=h;have a:0<ns.length/\ns.length<=1500:=by
   unfold Zcc at hp
   split at hp
   ·cases hp
   ·omega
  refine⟨a.1,a.2,by simpa using b,fun i d hd=>ZmH hp hd,fun i d hd=>?_⟩;have:=List.all_eq_true.mp hv d (List.mem_of_getElem? hd);unfold Zc3 at this;rw[Bool.and_eq_true,Bool.and_eq_true]at this;exact⟨this.1.1,this.1.2,this.2⟩
theorem Zf6 {ns:List Nd} {i:Nat} {d:Nd} (R:RightP ns) (hd:ns[i]? = Ya d) {k:Int} (hk:k∈d.kids):∃(m:Nat) (e:Nd),k=m/\i<m/\m<ns.length/\ns[m]? = Ya e/\Za ns k=e/\ZJ ns k=e.kind:=by
 obtain⟨a,b⟩:=R.kids i d hd k hk;obtain⟨m,rfl⟩:∃m:Nat,k=m:=⟨k.toNat,by omega⟩
 have hm:m<ns.length:=by omega
 have c:ns[m]? = Ya ns[m]:=Ym hm;exact⟨m,ns[m],rfl,by omega,hm,c,ZbX c,Zgk c⟩
theorem Zab {n:Nd} {a b:Nat} (h:ZF n a b=true):n.words.length=a/\n.nums.length=b:=by unfold ZF at h;rw[Bool.and_eq_true,decide_eq_true_eq,decide_eq_true_eq]at h;exact h
theorem Zcb {b:Type} {l:List b} (h:l.length=1):∃a,l=[a]:=by
 match l,h with
 |[a],_=>exact⟨a,rfl⟩
theorem Zff {c:Type} {l:List c} (h:l.length=2):∃a b,l=[a,b]:=by
 match l,h with
 |[a,b],_=>exact⟨a,b,rfl⟩
theorem ZhW {d:Type} {l:List d} (h:l.length=3):∃a b c,l=[a,b,c]:=by
 match l,h with
 |[a,b,c],_=>exact⟨a,b,c,rfl⟩
theorem Zhj {ns:List Nd} {b:List Int} (h:Zp ns b []=true):b=[]:=by
 cases b with
 |nil=>rfl
 |cons a r=>simp[Zp]at h
theorem Zes {ns:List Nd} {a:List Int} {f:Int->Bool} (h:Zp ns a [f]=true):∃k,a=[k]/\f (ZJ ns k)=true:=by
 match a,h with
 |[],h=>simp[Zp]at h
 |[k],h=>exact⟨k,rfl,by simpa[Zp]using h⟩
 |_::_::_,h=>simp[Zp]at h
theorem ZfY {ns:List Nd} {a:List Int} {f g:Int->Bool} (h:Zp ns a [f,g]=true):∃j k,a=[j,k]/\f (ZJ ns j)=true/\g (ZJ ns k)=true:=by
 match a,h with
 |[],h=>simp[Zp]at h
 |[_],h=>simp[Zp]at h
 |[j,k],h=>exact⟨j,k,rfl,by simpa[Zp]using h⟩
 |_::_::_::_,h=>simp[Zp]at h
theorem Zr1 {ns:List Nd} {a:List Int} {f g e:Int->Bool} (h:Zp ns a [f,g,e]=true):∃j k l,a=[j,k,l]/\f (ZJ ns j)=true/\g (ZJ ns k)=true/\e (ZJ ns l)=true:=by
 match a,h with
 |[],h=>simp[Zp]at h
 |[_],h=>simp[Zp]at h
 |[_,_],h=>simp[Zp]at h
 |[j,k,l],h=>exact⟨j,k,l,rfl,by simpa[Zp,and_assoc]using h⟩
 |_::_::_::_::_,h=>simp[Zp]at h
theorem Zce {ns:List Nd} {a:List Int} {f:Int->Bool} (h:ZbJ ns a f=true) {k:Int} (hk:k∈a):f (ZJ ns k)=true:=by unfold ZbJ at h;exact List.all_eq_true.mp h k hk
theorem ZbB {k a:Int} (h:isB [a] k=true):k=a:=by simpa[isB]using h
theorem ZiV {k a b:Int} (h:isB [a,b] k=true):k=a\/k=b:=by simpa[isB]using h
theorem ZaR {l:List Int} (h:ZbR l=true) {x:Int} (hx:x∈l):ZaH x:=by have:=List.all_eq_true.mp h x hx;simpa[ZaH]using this
theorem ZoN {c:Type} (l:List c) (h:l≠[]):∃a b,l=a++[b]:=⟨l.dropLast,l.getLast h,(List.dropLast_concat_getLast h).symm⟩
theorem ZgV {ns:List Nd} (R:RightP ns):∀(f i:Nat) (d:Nd),ns[i]? = Ya d->ns.length<=i+f->Zat d.kind=true->ZS ns f d
 |0,i,d,hd,hf,_=>by have:=(List.getElem?_eq_some_iff.1 hd).1;omega
 |f+1,i,d,hd,hf,hk=>by
  obtain⟨_,y,g⟩:=R.node i d hd
  have u:∀k∈d.kids,Zat (ZJ ns k)=true->∃m:Nat,k=m/\m<ns.length/\ZS ns f (Za ns k):=fun k n o=>by
   obtain⟨m,e,e1,H,z,A,B,C⟩:=Zf6 R hd n;refine⟨m,e1,z,?_⟩;rw[B];exact ZgV R f m e A (by omega) (by rw[<-C];exact o)
  have hc:d.kind=20\/d.kind=21\/d.kind=22\/d.kind=23:=by unfold Zat at hk;rw[Bool.and_eq_true,decide_eq_true_eq,decide_eq_true_eq]at hk;omega
  rw[ZS];rcases hc with e|e|e|e
  ·simp[Zm,e]at g;obtain⟨w,l⟩:=Zab g.1;obtain⟨v,hv⟩:=Zcb l;have:=ZaR y (x:=v) (by rw[hv];simp);unfold ZaH at this;exact⟨fun h=>by rw[e]at h;exact absurd h (by decide),.inl ⟨e,v,[],hv,by omega,by omega⟩⟩
  ·simp[Zm,e]at g;obtain⟨w,l⟩:=Zab g.1;obtain⟨s,hs⟩:=Zcb w;exact⟨fun h=>by rw[e]at h;exact absurd h (by decide),.inr (.inl ⟨e,s,[],hs⟩)⟩
  ·simp[Zm,e]at g;obtain⟨⟨n,o⟩,D⟩:=g;obtain⟨w,l⟩:=Zab n;obtain⟨v,hv⟩:=Zcb l;have:=ZaR y (x:=v) (by rw[hv];simp);unfold ZaH at this;have p:v<=5:=by simpa[num,hv]using o
   obtain⟨j,k,c,a,b⟩:=ZfY D;obtain⟨E,rfl,F,G⟩:=u j (by rw[c];simp) a;obtain⟨q,rfl,r,t⟩:=u k (by rw[c];simp) b;exact⟨fun _=>⟨v,[],hv,this.1,p⟩,.inr (.inr (.inr ⟨e,E,q,by rw[c];rfl,F,G,by rw[c];rfl,r,t⟩))⟩
  ·simp[Zm,e]at g;obtain⟨k,c,a⟩:=Zes g.2;obtain⟨q,rfl,r,t⟩:=u k (by rw[c];simp) a;exact⟨fun h=>by rw[e]at h;exact absurd h (by decide),.inr (.inr (.inl ⟨e,q,by rw[c];rfl,r,t⟩))⟩
theorem Zfg {ns:List Nd} (R:RightP ns) {i:Nat} {d:Nd} (hd:ns[i]? = Ya d) (e:d.kind=6):Zez d:=by obtain⟨_,f,a⟩:=R.node i d hd;simp[Zm,e]at a;obtain⟨⟨⟨h,b⟩,c⟩,_⟩:=a;obtain⟨_,g⟩:=Zab b;obtain⟨v,hv⟩:=Zcb g;have:=ZaR f (x:=v) (by rw[hv];simp);exact⟨by omega,v,[],hv,this.1,by simpa[num,hv]using c⟩
theorem ZbT {ns:List Nd} (R:RightP ns) {i:Nat} {d:Nd} (hd:ns[i]? = Ya d) {a:List Int} (hs:∀k∈a,k∈d.kids) {P:Nd->Prop} (h:∀(m:Nat) (e:Nd),i<m->ns[m]? = Ya e->(m:Int)∈a->ZJ ns m=e.kind->P e):Zaa ns a P:=fun k hk=>by
 obtain⟨m,e,rfl,b,j,c,f,g⟩:=Zf6 R hd (hs k hk);refine⟨by omega,by omega,?_⟩;rw[f];exact h m e b c hk g
theorem Zjk {ns:List Nd} (R:RightP ns):∀(f i:Nat) (d:Nd),ns[i]? = Ya d->ns.length<=i+f->ZcJ d.kind=true->Zbj ns f d
 |0,i,d,hd,hf,_=>by have:=(List.getElem?_eq_some_iff.1 hd).1;omega
 |f+1,i,d,hd,hf,hk=>by
  obtain⟨S,K,v⟩:=R.node i d hd
  have I:∀(m:Nat) (e:Nd),i<m->ns[m]? = Ya e->e.kind=7->Zch ns (fun x=>Zbj ns f x) e:=fun m e hm H M=>by
   obtain⟨_,_,v⟩:=R.node m e H;simp[Zm,M]at v;refine ZbT R H (fun k hk=>hk) fun q g hq B o t=>Zjk R f q g B (by omega) (by rw[<-t];exact Zce v.2 o)
  have F:∀k,k∈d.kids->Zat (ZJ ns k)=true->Zaa ns [k] (ZS ns f):=fun k G C=>
   ZbT R hd (fun y w=>by rw[List.mem_singleton.1 w];exact G) fun m e hm H o t=>ZgV R f m e H (by omega) (by rw[<-t];rw[List.mem_singleton.1 o];exact C)
  have E:∀k,k∈d.kids->ZJ ns k=7->Zaa ns [k] (Zch ns fun x=>Zbj ns f x):=fun k G C=>
   ZbT R hd (fun y w=>by rw[List.mem_singleton.1 w];exact G) fun m e hm H o t=>I m e hm H (by rw[<-t];rw[List.mem_singleton.1 o];exact C)
  have hc:d.kind=8\/d.kind=9\/d.kind=10\/d.kind=11\/d.kind=13\/d.kind=14\/d.kind=16\/d.kind=17\/d.kind=18\/d.kind=19:=by unfold ZcJ at hk;simp at hk;omega
  rw[Zbj];rcases hc with e|e|e|e|e|e|e|e|e|e
  ·simp[Zm,e]at v;obtain⟨k,n,a⟩:=Zes v.2;exact .inl ⟨.inl e,Zcb (Zab v.1).1,k,n,F k (by rw[n];simp) a⟩
  ·simp[Zm,e]at v;obtain⟨k,n,a⟩:=Zes v.2;exact .inl ⟨.inr e,Zcb (Zab v.1).1,k,n,F k (by rw[n];simp) a⟩
  ·simp[Zm,e]at v;obtain⟨j,k,n,a,b⟩:=ZfY v.2;refine .inr (.inl ⟨e,Zff (Zab v.1).1,⟨j,k,n⟩,fun y w=>?_⟩);have D:ZJ ns y=7:=by
    rw[n]at w;rcases List.mem_cons.1 w with rfl|w
    ·exact ZbB a
    ·rw[List.mem_singleton.1 w];exact ZbB b
   exact E y w D y (by simp)
  ·simp[Zm,e]at v;refine .inr (.inr (.inl ⟨e,Zff (Zab v.1).1,ZbT R hd (fun k hk=>hk) fun m g hm B o t=>?_⟩));have L:g.kind=12:=by rw[<-t];exact ZbB (Zce v.2 o)
   obtain⟨_,_,z⟩:=R.node m g B;simp[Zm,L]at z;obtain⟨k,n,a⟩:=Zes z.2;obtain⟨s,hs⟩:=Zcb (Zab z.1).1;exact⟨⟨s,[],hs⟩,k,n,ZbT R B (fun y w=>by rw[List.mem_singleton.1 w,n];simp) fun q u hq K o t=>I q u (by omega) K (by rw[<-t];rw[List.mem_singleton.1 o];exact ZbB a)⟩
  ·simp[Zm,e]at v;obtain⟨G,C⟩:=v;obtain⟨p,q,r,hn⟩:=ZhW (Zab G).2;have O:=ZaR K (x:=p) (by rw[hn];simp);have nq:=ZaR K (x:=q) (by rw[hn];simp);have P:=ZaR K (x:=r) (by rw[hn];simp);unfold Zep at C;simp at C;obtain⟨⟨⟨_,N⟩,_⟩,J⟩:=C;have Q:p<=4:=by simpa[num,hn]using N
   refine .inr (.inr (.inr (.inl ⟨e,Zff (Zab G).1,⟨p,q,r,hn,O.1,Q,nq,P⟩,?_⟩)));rcases J with J|⟨J,_⟩
   ·obtain⟨k,n,a⟩:=Zes J;exact⟨[],k,n,(fun y w=>nomatch w),E k (by rw[n];simp) (ZbB a)⟩
   ·obtain⟨j,k,n,a,b⟩:=ZfY J;exact⟨[j],k,n,ZbT R hd (fun y w=>by rw[List.mem_singleton.1 w,n];simp) fun m g hm B o t=>Zfg R B (by rw[<-t];rw[List.mem_singleton.1 o];exact ZbB a),E k (by rw[n];simp) (ZbB b)⟩
  ·simp[Zm,e]at v;refine .inr (.inr (.inr (.inr (.inl ⟨e,?_,ZbT R hd (fun k hk=>hk) fun m g hm B o t=>?_⟩))))
   ·rcases v.1 with h|h
    ·exact .inl (Zcb (Zab h).1)
    ·exact .inr (Zff (Zab h).1)
   ·have ha:=Zce v.2 o;rw[t]at ha;unfold Zed at ha;by_cases A:g.kind=15
    ·obtain⟨_,_,z⟩:=R.node m g B;simp[Zm,A]at z;obtain⟨s,hs⟩:=Zcb (Zab z.1).1;exact .inl ⟨A,s,[],hs⟩
    ·exact .inr ⟨A,ZgV R f m g B (by omega) (by simpa[A]using ha)⟩
  ·simp[Zm,e]at v;refine .inr (.inr (.inr (.inr (.inr (.inl ⟨e,?_⟩)))));rcases v.2 with h|h
   ·obtain⟨j,k,n,a,b⟩:=ZfY h;exact⟨j,[k],n,by simp,F j (by rw[n];simp) a,E k (by rw[n];simp) (ZbB b)⟩
   ·obtain⟨j,k,l,n,a,b,c⟩:=Zr1 h;refine⟨j,[k,l],n,by simp,F j (by rw[n];simp) a,fun y w=>?_⟩;have D:ZJ ns y=7:=by
     rcases List.mem_cons.1 w with rfl|w
     ·exact ZbB b
     ·rw[List.mem_singleton.1 w];exact ZbB c
    exact E y (by rw[n];exact List.mem_cons_of_mem _ w) D y (by simp)
  ·simp[Zm,e]at v;obtain⟨j,k,n,a,b⟩:=ZfY v.2;exact .inr (.inr (.inr (.inr (.inr (.inr (.inl ⟨e,j,k,n,F j (by rw[n];simp) a,E k (by rw[n];simp) (ZbB b)⟩))))))
  ·simp[Zm,e]at v;obtain⟨k,n,a⟩:=Zes v.2;exact .inr (.inr (.inr (.inr (.inr (.inr (.inr (.inl ⟨e,k,n,F k (by rw[n];simp) a⟩)))))))
  ·exact .inr (.inr (.inr (.inr (.inr (.inr (.inr (.inr e)))))))
theorem ZfH {ns:List Nd} (R:RightP ns):Zaa ns (Za ns 0).kids (Zfl ns ns.length):=by
 have D:ns[0]? = Ya (ns[0]'R.some_):=Ym R.some_;have H:=ZbX (k:=0) D;have K:=Zgk (k:=0) D;rw[show((0:Nat):Int)=0 from rfl]at H K;obtain⟨_,_,J⟩:=R.node 0 _ D;have z:(ns[0]'R.some_).kind=0:=by rw[<-K];exact R.root
 simp[Zm,z]at J;rw[H];refine ZbT R D (fun k hk=>hk) fun m d hm hd i f=>?_;obtain⟨_,Y,t⟩:=R.node m d hd;rcases ZiV (Zce J.2 i)with e|e
 ·rw[f]at e;simp[Zm,e]at t;refine .inl ⟨e,Zcb (Zab t.1).1,ZbT R hd (fun k hk=>hk) fun q g hq C i f=>?_⟩;obtain⟨_,u,c⟩:=R.node q g C;rcases ZiV (Zce t.2 i)with A|A
  ·rw[f]at A;simp[Zm,A]at c;obtain⟨⟨j,B⟩,_⟩:=c;obtain⟨v,hv⟩:=Zcb (Zab j).2;have:=ZaR u (x:=v) (by rw[hv];simp);exact .inr ⟨A,Zcb (Zab j).1,v,hv,this.1,by simpa[num,hv]using B⟩
  ·rw[f]at A;simp[Zm,A]at c;obtain⟨⟨⟨j,B⟩,_⟩,_⟩:=c
   match hg2:g.words with
   |[]=>rw[hg2]at j;simp at j
   |[_]=>rw[hg2]at j;simp at j
   |a::b::r=>exact .inl ⟨A,a,b,r,hg2,by rw[hg2]at B;simp at B;omega,by rw[hg2]at j;simp at j;omega⟩
 ·rw[f]at e;simp[Zm,e]at t;obtain⟨⟨j,B⟩,S⟩:=t;obtain⟨k,w,a⟩:=Zes S;have E:d.kids≠[]:=fun q=>by rw[q]at w;simp at w
  obtain⟨l,V,o⟩:=ZoN d.kids E;have O:d.kids.take (d.kids.length-1)=l:=by rw[o];simp
  have N:k=V:=by rw[o]at w;simpa using w.symm
  rw[O]at B;subst N;refine .inr ⟨e,Zcb (Zab j).1,l,k,o,ZbT R hd (fun y G=>by rw[o];simp[G]) fun q g hq C i f=>?_,ZbT R hd (fun y G=>by rw[o,List.mem_singleton.1 G];simp) fun q g hq C i f=>?_⟩
  ·have P:g.kind=5:=by rw[<-f];exact ZbB (Zce B i)
   obtain⟨_,u,c⟩:=R.node q g C;simp[Zm,P]at c;rcases c with h|⟨h,hc⟩
   ·exact .inl (Zcb (Zab h.1).1)
   ·obtain⟨p,L,r,hn⟩:=ZhW (Zab h).2;have W:=ZaR u (x:=p) (by rw[hn];simp);have nq:=ZaR u (x:=L) (by rw[hn];simp);have X:=ZaR u (x:=r) (by rw[hn];simp);unfold ZcI at hc;simp at hc;obtain⟨⟨⟨T,_⟩,U⟩,_⟩:=hc;refine .inr ⟨Zff (Zab h).1,⟨p,L,r,hn,W.1,by simpa[num,hn]using T,nq,X⟩,ZbT R C (fun k hk=>hk) fun M I F hg2 n s=>Zfg R hg2 (by rw[<-s];exact ZbB (Zce U n))⟩
  ·have Q:g.kind=7:=by rw[<-f,List.mem_singleton.1 i];exact ZbB a
   obtain⟨_,_,c⟩:=R.node q g C;simp[Zm,Q]at c;exact ZbT R C (fun k hk=>hk) fun M I F hg2 n s=>Zjk R _ M I hg2 (by omega) (by rw[<-s];exact Zce c.2 n)
end
section
open Go.RowKit
theorem ZlO (d:Nat) (l:List Txt) (x:Txt):Zbo d (l++[x])=Zbo d l++(Zdf d++x++[10]):=by unfold Zbo;rw[List.map_append,List.flatten_append];simp
theorem ZjV (d:Nat) (l:List Txt) (k:Nat) (x:Txt) (h:l[k]? = Ya x):Zbo d (l.take (k+1))=Zbo d (l.take k)++(Zdf d++x++[10]):=by rw[List.take_add_one,h];exact ZlO d _ x
theorem ZoT (d:Nat) (l:List Txt) (k:Nat):(Zbo d (l.take k)).length<=(Zbo d l).length:=by
 have e:Zbo d l=Zbo d (l.take k)++Zbo d (l.drop k):=by unfold Zbo;rw[<-List.flatten_append,<-List.map_append,List.take_append_drop]
 rw[e,Yj];omega
def Enters (F:Nat):Prop:=∀(args:Array Value) (w:World),Sem.run Tryz.prog (callFunc F args) w=.ok (.enter F args) w
def ZcZ (F:Nat) (b:World) (ns:List Nd) (d:Nat) (g:Nd->Prop) (T:Nd->Txt):Prop:=
 ∀(w:World) (a:Nat) (t:Txt) (c:Value) (x:NdV×Nd),PrS b w a t d c->Zu b c ns->Za5 b x->g x.2->t.length+(T x.2).length+10000<=140737488355328 ->
  Calls Tryz.prog F #[.pointer (Ya ⟨a,0,none⟩),ndX x] w fun e f=>e=.returned (.tuple #[])/\PrS b f a (t++T x.2) d c/\Fr w f a
theorem ZjW (F:Nat) (hF:Enters F) (j w:World) (d b:Nat) (t:Txt) (Z:Value) (ns:List Nd) (A:Option Addr) (c:Nat) (a:List Int) (Ok:Nd->Prop) (T:Nd->Txt) (h:PrS j w d t b Z) (U:Zu j Z ns) (hd:b<=4000)
  (hK:ZM j j.heap.size 1 A a.length (a.map (Value.int .i64))) (J:a.length<=maxLen) (K:Zaa ns a Ok) (hE:ZcZ F j ns b Ok T) (hl:t.length+(Zbo b (a.map fun k=>T (Za ns k))).length+10000<=140737488355328) :
  Calls Tryz.prog 17 #[.pointer (Ya ⟨d,0,none⟩),.slice A a.length c,.func (.func F) #[.pointer (Ya ⟨d,0,none⟩)] #[]] w fun e w'=>e=.returned (.tuple #[])/\PrS j w' d (t++Zbo b (a.map fun k=>T (Za ns k))) b Z/\Fr w w' d:=by
 obtain⟨An,cn,rs,rfl,_,I,hm,hR,H⟩:=id U;generalize hL:(a.map fun k=>T (Za ns k))=L at *;have i:=zh (zi h (zi U (zi hd (zi hK (zi J (zi K (zi hE (zi hl hL))))))));have P:=zh (zi I (zi hm (zi hR H)));clear h U hd hK J K hE hl hL I hm hR H;go_enter Tryz.func17,Tryz.ntmps17;go_wp2_with fail;go_loopg [10] a.length (fun g Y wr=>∃k:Nat,Y=.int .i64 k/\k<=a.length/\g=a.length-k/\PrS j wr d (t++Zbo b (L.take k)) b (.slice An ns.length cn)/\Fr w wr d)
 case atStart=>exact⟨0,rfl,Nat.zero_le _,rfl,by simpa[Zbo]using i.out.1,Fr.refl _ _⟩
 case round=>
  obtain⟨k,rfl,hk,V,B,hF⟩:=hrel;by_cases q:k=a.length
  ·have j1:decide (k<a.length)=false:=decide_eq_false (by omega);have j2:¬((k:Int)<(a.length:Int)):=by omega
   have S:=zh (zi (show PrS j wr d (t++Zbo b L) b (.slice An ns.length cn)by rw[show L.take k=L by rw[<-i.out.2.2.2.2.2.2.2.2,q,List.take_of_length_le];rw[List.length_map];exact Nat.le_refl _]at B;exact B) hF);clear hk V B hF q;go_wp2_with fail;go_end0;exact⟨rfl,S.out⟩
  ·have s:k<a.length:=by omega
   obtain⟨y,Q⟩:∃y,a[k]? = Ya y:=⟨_,Ym s⟩
   obtain⟨M,W,N⟩:=i.out.2.2.2.2.2.1 y (List.mem_of_getElem? Q);obtain⟨n,rfl⟩:=Int.eq_ofNat_of_zero_le M;have u:n<ns.length:=by omega
   obtain⟨r,hr⟩:∃r,rs[n]? = Ya r:=⟨_,Ym (by rw[<-P.out.2.1,List.length_map]at u;exact u)⟩
   have z:ns[n]? = Ya r.2:=by rw[<-P.out.2.1,List.getElem?_map,hr];rfl
   have p:L[k]? = Ya (T r.2):=by rw[<-i.out.2.2.2.2.2.2.2.2,List.getElem?_map,Q];exact congrArg Ya (congrArg T (Zb2 z))
   obtain⟨ak,rfl,q0⟩:=ints_at i.out.2.2.2.1 B.below Q (by omega);have j1:(k:Int)<(a.length:Int):=by omega
   have j0:(0:Int)<=(k:Int):=by omega
   have wk:IntKind.i64.wrap ((k:Int)+1)=(k:Int)+1:=IntWalk.i64_in _ (by have:=i.out.2.2.2.2.1;have e:maxLen=9223372036854775807:=rfl;omega);have i0:(0:Int)<=(n:Int):=by omega
   have i1:(n:Int)<(ns.length:Int):=by omega
   have m:t.length+(Zbo b (L.take k)).length+(Zdf b).length+(T r.2).length+1+10000<=140737488355328:=by have e1:=ZjV b L k _ p;have e2:=ZoT b L (k+1);have e3:=i.out.2.2.2.2.2.2.2.1;rw[e1]at e2;simp only[Yj,Yk,Yl]at e2;omega
   have IN:=zh (ZiT j wr d b _ _ B i.out.2.2.1 (by rw[Yj];omega));have f:=zh (zi s (zi V (zi hF (zi hr (zi p (zi m ((Zb2 z)▸N)))))));clear q s hk V hF B Q M W N u z p m;obtain⟨⟨yw,yu,yk⟩,au,bb,X,av,a6⟩:=r;have HY:=zh (P.out.2.2.2 _ (List.mem_of_getElem? f.out.2.2.2.1));obtain⟨D,E,G⟩:=HY.out;dsimp only at D E G;obtain⟨Bw,dw,rfl,_⟩:=D;obtain⟨Bu,du,rfl,_⟩:=E;obtain⟨Bk,dk,rfl,_⟩:=G;go_upto_region 4 with(go_at_call 35;(refine IN.out.mono ?_);rintro e w1 ⟨rfl,o,l⟩;have O:=zh (zi o l);clear o l)
   obtain⟨an,rfl,n0,n1,n2,n3,n4⟩:=Zby P.out.2.2.1 O.out.1.below f.out.2.2.2.1 (by omega);dsimp only at n0 n1 n2 n3 n4;obtain⟨v,hv,_⟩:=O.out.1.box;have c2:=hv.blk.cell 2;simp only[List.getElem?_toArray,List.getElem?_cons_zero,List.getElem?_cons_succ]at c2;clear hv;have R:=zh (i.out.2.2.2.2.2.2.1 w1 d _ _ _ O.out.1 i.out.2.1 HY.out f.out.2.2.2.2.2.2 (by have:=f.out.2.2.2.2.2.1;simp only[Yj];omega));unfold ndX at R;dsimp only at R;have C:=hF;unfold Enters at C;go_upto_region 5 with(with_reducible refine R.out.mono ?_;rintro e w2 ⟨rfl,o,l⟩;have H2:=zh (zi o l);clear o l)
   have AD:=zh (Zap j w2 d b _ _ [10] H2.out.1 (by have:=f.out.2.2.2.2.2.1;simp only[Yj,Yk,Yl];omega));go_wp2_with (go_at_call 36;(refine AD.out.mono ?_);rintro e w3 ⟨rfl,o,l⟩;have H3:=zh (zi o l);clear o l);go_roundg (a.length-(k+1))
   case measure=>have:=f.out.1;have:=f.out.2.1;omega
   case rel=>
    refine⟨k+1,by push_cast;rfl,f.out.1,rfl,?_,((f.out.2.2.1.trans O.out.2).trans H2.out.2).trans H3.out.2⟩;rw[ZjV b L k _ f.out.2.2.2.2.1];have:=H3.out.1;simp only[List.append_assoc]at this⊢;exact this
end
end Go.Proofs.YtfbepcelkijgkaaGreatDoor
