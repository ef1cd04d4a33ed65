import Derived.Test.YtfbepcelkijgkaaGreatDoorQAJ
import Derived.Test.YtfbepcelkijgkaaGreatDoorQAM
import Derived.Test.YtfbepcelkijgkaaGreatDoorQAN
set_option maxRecDepth 100000
set_option maxHeartbeats 8000000
open Option renaming some → Ya
namespace Go.Proofs.YtfbepcelkijgkaaGreatDoor
section
open Go.RowKit
def Zax (ns:List Nd) (a:List Int) (P:Nd->Prop):Prop:=∀k∈a,0<=k/\k<(ns.length:Int)/\P (Zf ns k)
theorem Zax.mono {ns:List Nd} {a:List Int} {P Q:Nd->Prop} (h:Zax ns a P) (g:∀n,P n->Q n):Zax ns a Q:=fun k hk=>⟨(h k hk).1,(h k hk).2.1,g _ (h k hk).2.2⟩
def ZeP (n:Nd):Prop:=0<n.words.length/\∃g r,n.nums=g::r/\0<=g/\g<=2
def Zbp (x:Int):Prop:=0<=x/\x<1000000000000000000
def Zgo (ns:List Nd) (f:Nat) (n:Nd):Prop:=(n.kind=15/\∃s r,n.words=s::r)\/(n.kind≠15/\ZV ns f n)
def Zdh (ns:List Nd) (P:Nd->Prop) (m:Nd):Prop:=Zax ns m.kids P
def CaseOk (ns:List Nd) (P:Nd->Prop) (n:Nd):Prop:=(∃s r,n.words=s::r)/\∃k,n.kids=[k]/\Zax ns [k] (Zdh ns P)
def Zcf (ns:List Nd):Nat->Nd->Prop
 |0,_=>False
 |f+1,n=>
  ((n.kind=8\/n.kind=9)/\(∃s,n.words=[s])/\∃k,n.kids=[k]/\Zax ns [k] (ZV ns f)) ∨
  (n.kind=10/\(∃a b,n.words=[a,b])/\(∃j k,n.kids=[j,k])/\Zax ns n.kids (Zdh ns fun x=>Zcf ns f x)) ∨
  (n.kind=11/\(∃a b,n.words=[a,b])/\Zax ns n.kids (CaseOk ns fun x=>Zcf ns f x)) ∨
  (n.kind=13/\(∃a b,n.words=[a,b])/\(∃p q r,n.nums=[p,q,r]/\0<=p/\p<=4/\Zbp q/\Zbp r)/\∃l k,n.kids=l++[k]/\Zax ns l ZeP/\Zax ns [k] (Zdh ns fun x=>Zcf ns f x)) ∨
  (n.kind=14/\((∃a,n.words=[a])\/∃a b,n.words=[a,b])/\Zax ns n.kids (Zgo ns f)) ∨
  (n.kind=16/\∃k r,n.kids=k::r/\r≠[]/\Zax ns [k] (ZV ns f)/\Zax ns r (Zdh ns fun x=>Zcf ns f x)) ∨
  (n.kind=17/\∃j k,n.kids=[j,k]/\Zax ns [j] (ZV ns f)/\Zax ns [k] (Zdh ns fun x=>Zcf ns f x)) ∨
  (n.kind=18/\∃k,n.kids=[k]/\Zax ns [k] (ZV ns f)) ∨
  n.kind=19
def ZfD (n:Nd):Prop:=(n.kind=3/\∃a b r,n.words=a::b::r/\r.length % 2=0/\2<=r.length)\/(n.kind=2/\(∃s,n.words=[s])/\∃x,n.nums=[x]/\0<=x/\x<=1)
def ZhA (ns:List Nd) (n:Nd):Prop:=(∃s,n.words=[s])\/((∃a b,n.words=[a,b])/\(∃p q r,n.nums=[p,q,r]/\0<=p/\p<=4/\Zbp q/\Zbp r)/\Zax ns n.kids ZeP)
def ZgY (ns:List Nd) (f:Nat) (n:Nd):Prop:=
 (n.kind=1/\(∃s,n.words=[s])/\Zax ns n.kids ZfD)\/(n.kind=4/\(∃s,n.words=[s])/\∃l k,n.kids=l++[k]/\Zax ns l (ZhA ns)/\Zax ns [k] (Zdh ns fun x=>Zcf ns f x))
structure RightP (ns:List Nd):Prop where
 some_:0<ns.length
 len:ns.length<=1500
 root:Zp ns 0=0
 kids:∀(i:Nat) (d:Nd),ns[i]? = Ya d->∀k∈d.kids,(i:Int)<k/\k<(ns.length:Int)
 node:∀(i:Nat) (d:Nd),ns[i]? = Ya d->Zdz d.words=true/\Zb6 d.nums=true/\Zr ns d=true
theorem ZfT {ns:List Nd} (h:ZcB ns=true):RightP ns:=by
 cases hp:ZbJ ns with
 |none=>rw[Zdb hp]at h;cases h
 |some p=>
  rw[ZeZ hp,Bool.and_eq_true,Bool.and_eq_true]at h;obtain⟨⟨b,_⟩,c⟩:=h;have a:0<ns.length/\ns.length<=1500:=by
   unfold ZbJ at hp
   split at hp
   ·cases hp
   ·omega
  refine⟨a.1,a.2,by simpa using b,fun i d hd=>Zmt hp hd,fun i d hd=>?_⟩;have:=List.all_eq_true.mp c d (List.mem_of_getElem? hd);unfold ZD at this;rw[Bool.and_eq_true,Bool.and_eq_true]at this;exact⟨this.1.1,this.1.2,this.2⟩
theorem Zd5 {ns:List Nd} {i:Nat} {d:Nd} (R:RightP ns) (hd:ns[i]? = Ya d) {k:Int} (hk:k∈d.kids):∃(m:Nat) (e:Nd),k=m/\i<m/\m<ns.length/\ns[m]? = Ya e/\Zf ns k=e/\Zp ns k=e.kind:=by
 obtain⟨a,b⟩:=R.kids i d hd k hk;obtain⟨m,rfl⟩:∃m:Nat,k=m:=⟨k.toNat,by omega⟩
 have hm:m<ns.length:=by omega
 have c:ns[m]? = Ya ns[m]:=Ym hm;exact⟨m,ns[m],rfl,by omega,hm,c,Zcm c,Zdk c⟩
theorem Za7 {n:Nd} {a b:Nat} (h:Zq n a b=true):n.words.length=a/\n.nums.length=b:=by unfold Zq at h;rw[Bool.and_eq_true,decide_eq_true_eq,decide_eq_true_eq]at h;exact h
theorem ZcX {b:Type} {l:List b} (h:l.length=1):∃a,l=[a]:=by
 match l,h with
 |[a],_=>exact⟨a,rfl⟩
theorem ZiC {c:Type} {l:List c} (h:l.length=2):∃a b,l=[a,b]:=by
 match l,h with
 |[a,b],_=>exact⟨a,b,rfl⟩
theorem Zmo {d:Type} {l:List d} (h:l.length=3):∃a b c,l=[a,b,c]:=by
 match l,h with
 |[a,b,c],_=>exact⟨a,b,c,rfl⟩
theorem Zg0 {ns:List Nd} {b:List Int} (h:Zj ns b []=true):b=[]:=by
 cases b with
 |nil=>rfl
 |cons a r=>simp[Zj]at h
theorem Zgr {ns:List Nd} {a:List Int} {f:Int->Bool} (h:Zj ns a [f]=true):∃k,a=[k]/\f (Zp ns k)=true:=by
 match a,h with
 |[],h=>simp[Zj]at h
 |[k],h=>exact⟨k,rfl,by simpa[Zj]using h⟩
 |_::_::_,h=>simp[Zj]at h
theorem ZhZ {ns:List Nd} {a:List Int} {f g:Int->Bool} (h:Zj ns a [f,g]=true):∃j k,a=[j,k]/\f (Zp ns j)=true/\g (Zp ns k)=true:=by
 match a,h with
 |[],h=>simp[Zj]at h
 |[_],h=>simp[Zj]at h
 |[j,k],h=>exact⟨j,k,rfl,by simpa[Zj]using h⟩
 |_::_::_::_,h=>simp[Zj]at h
theorem Zsn {ns:List Nd} {a:List Int} {f g e:Int->Bool} (h:Zj ns a [f,g,e]=true):∃j k l,a=[j,k,l]/\f (Zp ns j)=true/\g (Zp ns k)=true/\e (Zp ns l)=true:=by
 match a,h with
 |[],h=>simp[Zj]at h
 |[_],h=>simp[Zj]at h
 |[_,_],h=>simp[Zj]at h
 |[j,k,l],h=>exact⟨j,k,l,rfl,by simpa[Zj,and_assoc]using h⟩
 |_::_::_::_::_,h=>simp[Zj]at h
theorem ZdL {ns:List Nd} {a:List Int} {f:Int->Bool} (h:Zam ns a f=true) {k:Int} (hk:k∈a):f (Zp ns k)=true:=by unfold Zam at h;exact List.all_eq_true.mp h k hk
theorem ZcW {k a:Int} (h:isB [a] k=true):k=a:=by simpa[isB]using h
theorem ZoC {k a b:Int} (h:isB [a,b] k=true):k=a\/k=b:=by simpa[isB]using h
theorem Zbn {l:List Int} (h:Zb6 l=true) {x:Int} (hx:x∈l):Zbp x:=by have:=List.all_eq_true.mp h x hx;simpa[Zbp]using this
theorem Zr0 {c:Type} (l:List c) (h:l≠[]):∃a b,l=a++[b]:=⟨l.dropLast,l.getLast h,(List.dropLast_concat_getLast h).symm⟩
theorem Zdr {ns:List Nd} (R:RightP ns):∀(f i:Nat) (d:Nd),ns[i]? = Ya d->ns.length<=i+f->ZF d.kind=true->ZV ns f d
 |0,i,d,hd,hf,_=>by have:=(List.getElem?_eq_some_iff.1 hd).1;omega
 |f+1,i,d,hd,hf,hk=>by
  obtain⟨_,z,g⟩:=R.node i d hd
  have w:∀k∈d.kids,ZF (Zp ns k)=true->∃m:Nat,k=m/\m<ns.length/\ZV ns f (Zf ns k):=fun k o p=>by
   obtain⟨m,e,A,K,B,C,D,E⟩:=Zd5 R hd o;refine⟨m,A,B,?_⟩;rw[D];exact Zdr R f m e C (by omega) (by rw[<-E];exact p)
  have hc:d.kind=20\/d.kind=21\/d.kind=22\/d.kind=23:=by unfold ZF at hk;rw[Bool.and_eq_true,decide_eq_true_eq,decide_eq_true_eq]at hk;omega
  rw[ZV];rcases hc with e|e|e|e
  ·simp[Zr,e]at g;obtain⟨y,n⟩:=Za7 g.1;obtain⟨v,l⟩:=ZcX n;have:=Zbn z (x:=v) (by rw[l];simp);unfold Zbp at this;exact⟨fun h=>by rw[e]at h;exact absurd h (by decide),.inl ⟨e,v,[],l,by omega,by omega⟩⟩
  ·simp[Zr,e]at g;obtain⟨y,n⟩:=Za7 g.1;obtain⟨s,G⟩:=ZcX y;exact⟨fun h=>by rw[e]at h;exact absurd h (by decide),.inr (.inl ⟨e,s,[],G⟩)⟩
  ·simp[Zr,e]at g;obtain⟨⟨o,p⟩,F⟩:=g;obtain⟨y,n⟩:=Za7 o;obtain⟨v,l⟩:=ZcX n;have:=Zbn z (x:=v) (by rw[l];simp);unfold Zbp at this;have q:v<=5:=by simpa[num,l]using p
   obtain⟨j,k,c,a,b⟩:=ZhZ F;obtain⟨H,rfl,I,J⟩:=w j (by rw[c];simp) a;obtain⟨r,rfl,t,u⟩:=w k (by rw[c];simp) b;exact⟨fun _=>⟨v,[],l,this.1,q⟩,.inr (.inr (.inr ⟨e,H,r,by rw[c];rfl,I,J,by rw[c];rfl,t,u⟩))⟩
  ·simp[Zr,e]at g;obtain⟨k,c,a⟩:=Zgr g.2;obtain⟨r,rfl,t,u⟩:=w k (by rw[c];simp) a;exact⟨fun h=>by rw[e]at h;exact absurd h (by decide),.inr (.inr (.inl ⟨e,r,by rw[c];rfl,t,u⟩))⟩
theorem ZhQ {ns:List Nd} (R:RightP ns) {i:Nat} {d:Nd} (hd:ns[i]? = Ya d) (e:d.kind=6):ZeP d:=by obtain⟨_,g,b⟩:=R.node i d hd;simp[Zr,e]at b;obtain⟨⟨⟨j,c⟩,f⟩,_⟩:=b;obtain⟨_,h⟩:=Za7 c;obtain⟨v,a⟩:=ZcX h;have:=Zbn g (x:=v) (by rw[a];simp);exact⟨by omega,v,[],a,this.1,by simpa[num,a]using f⟩
theorem ZbW {ns:List Nd} (R:RightP ns) {i:Nat} {d:Nd} (hd:ns[i]? = Ya d) {a:List Int} (j:∀k∈a,k∈d.kids) {P:Nd->Prop} (h:∀(m:Nat) (e:Nd),i<m->ns[m]? = Ya e->(m:Int)∈a->Zp ns m=e.kind->P e):Zax ns a P:=fun k hk=>by
 obtain⟨m,e,rfl,b,l,c,f,g⟩:=Zd5 R hd (j k hk);refine⟨by omega,by omega,?_⟩;rw[f];exact h m e b c hk g
theorem ZiW {ns:List Nd} (R:RightP ns):∀(f i:Nat) (d:Nd),ns[i]? = Ya d->ns.length<=i+f->ZcE d.kind=true->Zcf ns f d
 |0,i,d,hd,hf,_=>by have:=(List.getElem?_eq_some_iff.1 hd).1;omega
 |f+1,i,d,hd,hf,hk=>by
  obtain⟨U,L,v⟩:=R.node i d hd
  have I:∀(m:Nat) (e:Nd),i<m->ns[m]? = Ya e->e.kind=7->Zdh ns (fun x=>Zcf ns f x) e:=fun m e hm H O=>by
   obtain⟨_,_,v⟩:=R.node m e H;simp[Zr,O]at v;refine ZbW R H (fun k hk=>hk) fun q g hq B o t=>ZiW R f q g B (by omega) (by rw[<-t];exact ZdL v.2 o)
  have F:∀k,k∈d.kids->ZF (Zp ns k)=true->Zax ns [k] (ZV ns f):=fun k G C=>
   ZbW R hd (fun y w=>by rw[List.mem_singleton.1 w];exact G) fun m e hm H o t=>Zdr R f m e H (by omega) (by rw[<-t];rw[List.mem_singleton.1 o];exact C)
  have E:∀k,k∈d.kids->Zp ns k=7->Zax ns [k] (Zdh ns fun x=>Zcf ns f x):=fun k G C=>
   ZbW R hd (fun y w=>by rw[List.mem_singleton.1 w];exact G) fun m e hm H o t=>I m e hm H (by rw[<-t];rw[List.mem_singleton.1 o];exact C)
  have hc:d.kind=8\/d.kind=9\/d.kind=10\/d.kind=11\/d.kind=13\/d.kind=14\/d.kind=16\/d.kind=17\/d.kind=18\/d.kind=19:=by unfold ZcE at hk;simp at hk;omega
  rw[Zcf];rcases hc with e|e|e|e|e|e|e|e|e|e
  ·simp[Zr,e]at v;obtain⟨k,n,a⟩:=Zgr v.2;exact .inl ⟨.inl e,ZcX (Za7 v.1).1,k,n,F k (by rw[n];simp) a⟩
  ·simp[Zr,e]at v;obtain⟨k,n,a⟩:=Zgr v.2;exact .inl ⟨.inr e,ZcX (Za7 v.1).1,k,n,F k (by rw[n];simp) a⟩
  ·simp[Zr,e]at v;obtain⟨j,k,n,a,b⟩:=ZhZ v.2;refine .inr (.inl ⟨e,ZiC (Za7 v.1).1,⟨j,k,n⟩,fun y w=>?_⟩);have D:Zp ns y=7:=by
    rw[n]at w;rcases List.mem_cons.1 w with rfl|w
    ·exact ZcW a
    ·rw[List.mem_singleton.1 w];exact ZcW b
   exact E y w D y (by simp)
  ·simp[Zr,e]at v;refine .inr (.inr (.inl ⟨e,ZiC (Za7 v.1).1,ZbW R hd (fun k hk=>hk) fun m g hm B o t=>?_⟩));have M:g.kind=12:=by rw[<-t];exact ZcW (ZdL v.2 o)
   obtain⟨_,_,z⟩:=R.node m g B;simp[Zr,M]at z;obtain⟨k,n,a⟩:=Zgr z.2;obtain⟨s,N⟩:=ZcX (Za7 z.1).1;exact⟨⟨s,[],N⟩,k,n,ZbW R B (fun y w=>by rw[List.mem_singleton.1 w,n];simp) fun q u hq L o t=>I q u (by omega) L (by rw[<-t];rw[List.mem_singleton.1 o];exact ZcW a)⟩
  ·simp[Zr,e]at v;obtain⟨G,C⟩:=v;obtain⟨p,q,r,K⟩:=Zmo (Za7 G).2;have Q:=Zbn L (x:=p) (by rw[K];simp);have nq:=Zbn L (x:=q) (by rw[K];simp);have S:=Zbn L (x:=r) (by rw[K];simp);unfold ZeJ at C;simp at C;obtain⟨⟨⟨_,P⟩,_⟩,J⟩:=C;have T:p<=4:=by simpa[num,K]using P
   refine .inr (.inr (.inr (.inl ⟨e,ZiC (Za7 G).1,⟨p,q,r,K,Q.1,T,nq,S⟩,?_⟩)));rcases J with J|⟨J,_⟩
   ·obtain⟨k,n,a⟩:=Zgr J;exact⟨[],k,n,(fun y w=>nomatch w),E k (by rw[n];simp) (ZcW a)⟩
   ·obtain⟨j,k,n,a,b⟩:=ZhZ J;exact⟨[j],k,n,ZbW R hd (fun y w=>by rw[List.mem_singleton.1 w,n];simp) fun m g hm B o t=>ZhQ R B (by rw[<-t];rw[List.mem_singleton.1 o];exact ZcW a),E k (by rw[n];simp) (ZcW b)⟩
  ·simp[Zr,e]at v;refine .inr (.inr (.inr (.inr (.inl ⟨e,?_,ZbW R hd (fun k hk=>hk) fun m g hm B o t=>?_⟩))))
   ·rcases v.1 with h|h
    ·exact .inl (ZcX (Za7 h).1)
    ·exact .inr (ZiC (Za7 h).1)
   ·have ha:=ZdL v.2 o;rw[t]at ha;unfold Zdp at ha;by_cases A:g.kind=15
    ·obtain⟨_,_,z⟩:=R.node m g B;simp[Zr,A]at z;obtain⟨s,N⟩:=ZcX (Za7 z.1).1;exact .inl ⟨A,s,[],N⟩
    ·exact .inr ⟨A,Zdr R f m g B (by omega) (by simpa[A]using ha)⟩
  ·simp[Zr,e]at v;refine .inr (.inr (.inr (.inr (.inr (.inl ⟨e,?_⟩)))));rcases v.2 with h|h
   ·obtain⟨j,k,n,a,b⟩:=ZhZ h;exact⟨j,[k],n,by simp,F j (by rw[n];simp) a,E k (by rw[n];simp) (ZcW b)⟩
   ·obtain⟨j,k,l,n,a,b,c⟩:=Zsn h;refine⟨j,[k,l],n,by simp,F j (by rw[n];simp) a,fun y w=>?_⟩;have D:Zp ns y=7:=by
     rcases List.mem_cons.1 w with rfl|w
     ·exact ZcW b
     ·rw[List.mem_singleton.1 w];exact ZcW c
    exact E y (by rw[n];exact List.mem_cons_of_mem _ w) D y (by simp)
  ·simp[Zr,e]at v;obtain⟨j,k,n,a,b⟩:=ZhZ v.2;exact .inr (.inr (.inr (.inr (.inr (.inr (.inl ⟨e,j,k,n,F j (by rw[n];simp) a,E k (by rw[n];simp) (ZcW b)⟩))))))
  ·simp[Zr,e]at v;obtain⟨k,n,a⟩:=Zgr v.2;exact .inr (.inr (.inr (.inr (.inr (.inr (.inr (.inl ⟨e,k,n,F k (by rw[n];simp) a⟩)))))))
  ·exact .inr (.inr (.inr (.inr (.inr (.inr (.inr (.inr e)))))))
theorem Zm8 {ns:List Nd} (R:RightP ns):Zax ns (Zf ns 0).kids (ZgY ns ns.length):=by
 have E:ns[0]? = Ya (ns[0]'R.some_):=Ym R.some_;have J:=Zcm (k:=0) E;have M:=Zdk (k:=0) E;rw[show((0:Nat):Int)=0 from rfl]at J M;obtain⟨_,_,L⟩:=R.node 0 _ E;have z:(ns[0]'R.some_).kind=0:=by rw[<-M];exact R.root
 simp[Zr,z]at L;rw[J];refine ZbW R E (fun k hk=>hk) fun m d hm hd i f=>?_;obtain⟨_,hu,t⟩:=R.node m d hd;rcases ZoC (ZdL L.2 i)with e|e
 ·rw[f]at e;simp[Zr,e]at t;refine .inl ⟨e,ZcX (Za7 t.1).1,ZbW R hd (fun k hk=>hk) fun q g hq C i f=>?_⟩;obtain⟨_,u,c⟩:=R.node q g C;rcases ZoC (ZdL t.2 i)with A|A
  ·rw[f]at A;simp[Zr,A]at c;obtain⟨⟨j,B⟩,_⟩:=c;obtain⟨v,H⟩:=ZcX (Za7 j).2;have:=Zbn u (x:=v) (by rw[H];simp);exact .inr ⟨A,ZcX (Za7 j).1,v,H,this.1,by simpa[num,H]using B⟩
  ·rw[f]at A;simp[Zr,A]at c;obtain⟨⟨⟨j,B⟩,_⟩,_⟩:=c
   match hg2:g.words with
   |[]=>rw[hg2]at j;simp at j
   |[_]=>rw[hg2]at j;simp at j
   |a::b::r=>exact .inl ⟨A,a,b,r,hg2,by rw[hg2]at B;simp at B;omega,by rw[hg2]at j;simp at j;omega⟩
 ·rw[f]at e;simp[Zr,e]at t;obtain⟨⟨j,B⟩,U⟩:=t;obtain⟨k,w,a⟩:=Zgr U;have F:d.kids≠[]:=fun q=>by rw[q]at w;simp at w
  obtain⟨l,X,o⟩:=Zr0 d.kids F;have Q:d.kids.take (d.kids.length-1)=l:=by rw[o];simp
  have P:k=X:=by rw[o]at w;simpa using w.symm
  rw[Q]at B;subst P;refine .inr ⟨e,ZcX (Za7 j).1,l,k,o,ZbW R hd (fun y I=>by rw[o];simp[I]) fun q g hq C i f=>?_,ZbW R hd (fun y I=>by rw[o,List.mem_singleton.1 I];simp) fun q g hq C i f=>?_⟩
  ·have S:g.kind=5:=by rw[<-f];exact ZcW (ZdL B i)
   obtain⟨_,u,c⟩:=R.node q g C;simp[Zr,S]at c;rcases c with h|⟨h,hc⟩
   ·exact .inl (ZcX (Za7 h.1).1)
   ·obtain⟨p,N,r,D⟩:=Zmo (Za7 h).2;have Y:=Zbn u (x:=p) (by rw[D];simp);have nq:=Zbn u (x:=N) (by rw[D];simp);have Z:=Zbn u (x:=r) (by rw[D];simp);unfold Zcn at hc;simp at hc;obtain⟨⟨⟨V,_⟩,W⟩,_⟩:=hc;refine .inr ⟨ZiC (Za7 h).1,⟨p,N,r,D,Y.1,by simpa[num,D]using V,nq,Z⟩,ZbW R C (fun k hk=>hk) fun O K G hg2 n s=>ZhQ R hg2 (by rw[<-s];exact ZcW (ZdL W n))⟩
  ·have T:g.kind=7:=by rw[<-f,List.mem_singleton.1 i];exact ZcW a
   obtain⟨_,_,c⟩:=R.node q g C;simp[Zr,T]at c;exact ZbW R C (fun k hk=>hk) fun O K G hg2 n s=>ZiW R _ O K hg2 (by omega) (by rw[<-s];exact ZdL c.2 n)
end
section
open Go.RowKit
theorem Zlu (d:Nat) (l:List Txt) (x:Txt):Zb1 d (l++[x])=Zb1 d l++(ZeA d++x++[10]):=by unfold Zb1;rw[List.map_append,List.flatten_append];simp
theorem ZjB (d:Nat) (l:List Txt) (k:Nat) (x:Txt) (h:l[k]? = Ya x):Zb1 d (l.take (k+1))=Zb1 d (l.take k)++(ZeA d++x++[10]):=by rw[List.take_add_one,h];exact Zlu d _ x
theorem ZoL (d:Nat) (l:List Txt) (k:Nat):(Zb1 d (l.take k)).length<=(Zb1 d l).length:=by
 have e:Zb1 d l=Zb1 d (l.take k)++Zb1 d (l.drop k):=by unfold Zb1;rw[<-List.flatten_append,<-List.map_append,List.take_append_drop]
 rw[e,Yj];omega
def Enters (F:Nat):Prop:=∀(args:Array Value) (w:World),Sem.run Tryz.prog (callFunc F args) w=.ok (.enter F args) w
def ZcF (F:Nat) (b:World) (ns:List Nd) (d:Nat) (g:Nd->Prop) (T:Nd->Txt):Prop:=
 ∀(w:World) (a:Nat) (t:Txt) (c:Value) (x:NdV×Nd),PrS b w a t d c->Zi b c ns->ZS b x->g x.2->t.length+(T x.2).length+10000<=140737488355328 ->
  Calls Tryz.prog F #[.pointer (Ya ⟨a,0,none⟩),ndX x] w fun e f=>e=.returned (.tuple #[])/\PrS b f a (t++T x.2) d c/\Fr w f a
theorem ZjC (F:Nat) (hF:Enters F) (j w:World) (d b:Nat) (t:Txt) (Z:Value) (ns:List Nd) (A:Option Addr) (c:Nat) (a:List Int) (Ok:Nd->Prop) (T:Nd->Txt) (h:PrS j w d t b Z) (U:Zi j Z ns) (hd:b<=4000)
  (hK:ZM j j.heap.size 1 A a.length (a.map (Value.int .i64))) (J:a.length<=maxLen) (K:Zax ns a Ok) (hE:ZcF F j ns b Ok T) (hl:t.length+(Zb1 b (a.map fun k=>T (Zf ns k))).length+10000<=140737488355328) :
  Calls Tryz.prog 17 #[.pointer (Ya ⟨d,0,none⟩),.slice A a.length c,.func (.func F) #[.pointer (Ya ⟨d,0,none⟩)] #[]] w fun e w'=>e=.returned (.tuple #[])/\PrS j w' d (t++Zb1 b (a.map fun k=>T (Zf ns k))) b Z/\Fr w w' d:=by
 obtain⟨An,cn,rs,rfl,_,I,hm,hR,H⟩:=id U;generalize hL:(a.map fun k=>T (Zf ns k))=L at *;have i:=zh (zi h (zi U (zi hd (zi hK (zi J (zi K (zi hE (zi hl hL))))))));have P:=zh (zi I (zi hm (zi hR H)));clear h U hd hK J K hE hl hL I hm hR H;go_enter Tryz.func17,Tryz.ntmps17;go_wp2_with fail;go_loopg [10] a.length (fun g Y wr=>∃k:Nat,Y=.int .i64 k/\k<=a.length/\g=a.length-k/\PrS j wr d (t++Zb1 b (L.take k)) b (.slice An ns.length cn)/\Fr w wr d)
 case atStart=>exact⟨0,rfl,Nat.zero_le _,rfl,by simpa[Zb1]using i.out.1,Fr.refl _ _⟩
 case round=>
  obtain⟨k,rfl,hk,V,B,hF⟩:=hrel;by_cases q:k=a.length
  ·have j1:decide (k<a.length)=false:=decide_eq_false (by omega);have j2:¬((k:Int)<(a.length:Int)):=by omega
   have S:=zh (zi (show PrS j wr d (t++Zb1 b L) b (.slice An ns.length cn)by rw[show L.take k=L by rw[<-i.out.2.2.2.2.2.2.2.2,q,List.take_of_length_le];rw[List.length_map];exact Nat.le_refl _]at B;exact B) hF);clear hk V B hF q;go_wp2_with fail;go_end0;exact⟨rfl,S.out⟩
  ·have s:k<a.length:=by omega
   obtain⟨y,Q⟩:∃y,a[k]? = Ya y:=⟨_,Ym s⟩
   obtain⟨M,W,N⟩:=i.out.2.2.2.2.2.1 y (List.mem_of_getElem? Q);obtain⟨n,rfl⟩:=Int.eq_ofNat_of_zero_le M;have u:n<ns.length:=by omega
   obtain⟨r,hr⟩:∃r,rs[n]? = Ya r:=⟨_,Ym (by rw[<-P.out.2.1,List.length_map]at u;exact u)⟩
   have z:ns[n]? = Ya r.2:=by rw[<-P.out.2.1,List.getElem?_map,hr];rfl
   have p:L[k]? = Ya (T r.2):=by rw[<-i.out.2.2.2.2.2.2.2.2,List.getElem?_map,Q];exact congrArg Ya (congrArg T (ZbP z))
   obtain⟨ak,rfl,q0⟩:=ints_at i.out.2.2.2.1 B.below Q (by omega);have j1:(k:Int)<(a.length:Int):=by omega
   have j0:(0:Int)<=(k:Int):=by omega
   have wk:IntKind.i64.wrap ((k:Int)+1)=(k:Int)+1:=IntWalk.i64_in _ (by have:=i.out.2.2.2.2.1;have e:maxLen=9223372036854775807:=rfl;omega);have i0:(0:Int)<=(n:Int):=by omega
   have i1:(n:Int)<(ns.length:Int):=by omega
   have m:t.length+(Zb1 b (L.take k)).length+(ZeA b).length+(T r.2).length+1+10000<=140737488355328:=by have e1:=ZjB b L k _ p;have e2:=ZoL b L (k+1);have e3:=i.out.2.2.2.2.2.2.2.1;rw[e1]at e2;simp only[Yj,Yk,Yl]at e2;omega
   have IN:=zh (Zix j wr d b _ _ B i.out.2.2.1 (by rw[Yj];omega));have f:=zh (zi s (zi V (zi hF (zi hr (zi p (zi m ((ZbP z)▸N)))))));clear q s hk V hF B Q M W N u z p m;obtain⟨⟨yw,yu,yk⟩,aw,bd,X,ax,a8⟩:=r;have HY:=zh (P.out.2.2.2 _ (List.mem_of_getElem? f.out.2.2.2.1));obtain⟨D,E,G⟩:=HY.out;dsimp only at D E G;obtain⟨Bw,dw,rfl,_⟩:=D;obtain⟨Bu,du,rfl,_⟩:=E;obtain⟨Bk,dk,rfl,_⟩:=G;go_upto_region 4 with(go_at_call 35;(refine IN.out.mono ?_);rintro e w1 ⟨rfl,o,l⟩;have O:=zh (zi o l);clear o l)
   obtain⟨an,rfl,n0,n1,n2,n3,n4⟩:=Zan P.out.2.2.1 O.out.1.below f.out.2.2.2.1 (by omega);dsimp only at n0 n1 n2 n3 n4;obtain⟨v,hv,_⟩:=O.out.1.box;have c2:=hv.blk.cell 2;simp only[List.getElem?_toArray,List.getElem?_cons_zero,List.getElem?_cons_succ]at c2;clear hv;have R:=zh (i.out.2.2.2.2.2.2.1 w1 d _ _ _ O.out.1 i.out.2.1 HY.out f.out.2.2.2.2.2.2 (by have:=f.out.2.2.2.2.2.1;simp only[Yj];omega));unfold ndX at R;dsimp only at R;have C:=hF;unfold Enters at C;go_upto_region 5 with(with_reducible refine R.out.mono ?_;rintro e w2 ⟨rfl,o,l⟩;have H2:=zh (zi o l);clear o l)
   have AD:=zh (Zao j w2 d b _ _ [10] H2.out.1 (by have:=f.out.2.2.2.2.2.1;simp only[Yj,Yk,Yl];omega));go_wp2_with (go_at_call 36;(refine AD.out.mono ?_);rintro e w3 ⟨rfl,o,l⟩;have H3:=zh (zi o l);clear o l);go_roundg (a.length-(k+1))
   case measure=>have:=f.out.1;have:=f.out.2.1;omega
   case rel=>
    refine⟨k+1,by push_cast;rfl,f.out.1,rfl,?_,((f.out.2.2.1.trans O.out.2).trans H2.out.2).trans H3.out.2⟩;rw[ZjB b L k _ f.out.2.2.2.2.1];have:=H3.out.1;simp only[List.append_assoc]at this⊢;exact this
end
end Go.Proofs.YtfbepcelkijgkaaGreatDoor
