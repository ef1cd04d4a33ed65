import Derived.Deep.DeepFit
import Derived.Test.YtdkegpkfjgloeaaGreatDoorQAC
import Derived.Test.YtdkegpkfjgloeaaGreatDoorQAG
import Derived.Test.YtdkegpkfjgloeaaGreatDoorQAI
set_option maxRecDepth 100000
set_option maxHeartbeats 8000000
open Option renaming some → Ya
open Go.Value renaming slice → Yc, int → Yd
open Go.IntKind renaming i64 → Yf
open Go.Obj renaming cells → Yg
namespace Go.Proofs.YtdkegpkfjgloeaaGreatDoor
section
open Go.RowKit
theorem Zjr:∀{l:List Nat} {i a:Nat},l[i]? = Ya a->a<=l.sum
 |x::r,0,a,h=>by
  obtain rfl:x=a:=by simpa using h
  rw[List.sum_cons];omega
 |x::r,i+1,a,h=>by
  have:=Zjr (l:=r) (by simpa using h);rw[List.sum_cons];omega
theorem ZmK:∀{l:List Nat} {i j a b:Nat},i<j->l[i]? = Ya a->l[j]? = Ya b->a+b<=l.sum
 |x::r,0,j+1,a,b,_,h,k=>by
  obtain rfl:x=a:=by simpa using h
  have:=Zjr (l:=r) (by simpa using k);rw[List.sum_cons];omega
 |x::r,i+1,j+1,a,b,hlt,h,k=>by
  have:=ZmK (l:=r) (i:=i) (j:=j) (by omega) (by simpa using h) (by simpa using k);rw[List.sum_cons];omega
theorem ZmJ:∀{l:List Nat},0<l.sum->∃i a:Nat,l[i]? = Ya a/\0<a
 |[],h=>by simp at h
 |x::r,h=>by
  rw[List.sum_cons]at h;by_cases q:0<x
  ·exact⟨0,x,rfl,q⟩
  ·obtain⟨i,a,b,c⟩:=ZmJ (l:=r) (by omega);exact⟨i+1,a,by simpa using b,c⟩
def Zfq (ns:List Nd) (k:Int):Nat:=(ns.map fun d=>d.kids.count k).sum
def ZeV (ns:List Nd):Prop:=0<ns.length/\∀(i:Nat) (d:Nd),ns[i]? = Ya d->Zfq ns i=(if i=0 then 0 else 1)/\∀k∈d.kids,(i:Int)<k/\k<(ns.length:Int)
theorem Zrr {ns:List Nd} {k:Int} {i j:Nat} {d e:Nd} (a:i<j) (hd:ns[i]? = Ya d) (b:ns[j]? = Ya e):d.kids.count k+e.kids.count k<=Zfq ns k:=
 ZmK a (by rw[List.getElem?_map,hd];rfl) (by rw[List.getElem?_map,b];rfl)
theorem Zrq {ns:List Nd} {k:Int} {i:Nat} {d:Nd} (hd:ns[i]? = Ya d):d.kids.count k<=Zfq ns k:=Zjr (i:=i) (by rw[List.getElem?_map,hd];rfl)
theorem Zrp {ns:List Nd} {k:Int} (h:0<Zfq ns k):∃(i:Nat) (d:Nd),ns[i]? = Ya d/\k∈d.kids:=by
 obtain⟨i,a,b,c⟩:=ZmJ h;rw[List.getElem?_map]at b;cases hd:ns[i]? with
 |none=>rw[hd]at b;simp at b
 |some d=>
  rw[hd]at b;obtain rfl:d.kids.count k=a:=by simpa using b
  exact⟨i,d,hd,List.count_pos_iff.mp c⟩
theorem ZkD (n a:Nat):∀(x:List Int) (p:List Int),p.length=n->x.Nodup->(∀k∈x,(a:Int)<k/\k<(n:Int)/\atI p k<0)->∃q,ZbY n a x p=Ya q
 |[],p,_,_,_=>⟨p,by rw[ZbY]⟩
 |k::r,p,hn,hd,h=>by
  obtain⟨l,o,s⟩:=h k List.mem_cons_self;obtain⟨m,rfl⟩:∃m:Nat,k=m:=⟨k.toNat,by omega⟩
  obtain⟨b,c⟩:=List.nodup_cons.mp hd;rw[ZbY,Yn (by omega),Int.toNat_natCast];refine ZkD n a r _ (by rw[List.length_set];exact hn) c (fun y d=>?_);obtain⟨g,i,j⟩:=h y (List.mem_cons_of_mem _ d);obtain⟨f,rfl⟩:∃f:Nat,y=f:=⟨y.toNat,by omega⟩
  exact⟨g,i,by rw[Zfg _ (fun e=>b (by rw[e];exact d))];exact j⟩
theorem ZmA {ns:List Nd} (h:ZeV ns):∀j,j<=ns.length->∃p,Zcx ns j=Ya p
 |0,_=>⟨_,rfl⟩
 |j+1,hj=>by
  obtain⟨p,l⟩:=ZmA h j (by omega);have L:=ZgW ns j p (by omega) l;have hd:ns[j]? = Ya ns[j]:=Ym (by omega);obtain⟨c,r⟩:=h.2 j _ hd;rw[Zcx,l,Option.bind_some,Zcg hd]
  have n:¬(0<j/\atI p (j:Int)<0):=fun⟨a,b⟩=>by
   rw[Yn (by omega)]at c;obtain⟨i,d,f,hm⟩:=Zrp (ns:=ns) (k:=(j:Int)) (by omega);have:=(h.2 i d f).2 _ hm;have:=((L.of i d (by omega) f).2 _ hm).2.2;omega
  rw[Yn n]
  have e:∀k∈ns[j].kids,Zfq ns k<=1:=fun k hk=>by
   obtain⟨a,b⟩:=r k hk;obtain⟨m,rfl⟩:∃m:Nat,k=m:=⟨k.toNat,by omega⟩
   obtain⟨c,_⟩:=h.2 m _ (Ym (by omega));rw[c];split<;>omega
  refine ZkD _ _ _ _ L.len (List.nodup_iff_count.mpr fun k=>?_) (fun k hk=>⟨(r k hk).1,(r k hk).2,?_⟩)
  ·by_cases hk:k∈ns[j].kids
   ·exact Nat.le_trans (Zrq hd) (e k hk)
   ·rw[List.count_eq_zero_of_not_mem hk];omega
  ·refine Int.not_le.mp fun q=>?_;obtain⟨a,b⟩:=r k hk;obtain⟨m,rfl⟩:∃m:Nat,k=m:=⟨k.toNat,by omega⟩
   obtain⟨i,d,f,g,_,hm⟩:=L.at_ m q;have:=Zrr (k:=(m:Int)) f g hd;have:=e _ hk;have:=List.count_pos_iff.mpr hm;have:=List.count_pos_iff.mpr hk;omega
theorem ZrJ {ns:List Nd} (h:ZeV ns) (a:ns.length<=1500):∃p,Zb7 ns=Ya p:=by have:=h.1;unfold Zb7;rw[Yn (by omega)];exact ZmA h _ (Nat.le_refl _)
def Zjk (l:List Int):Int:=l.foldl max 0
theorem ZgM:∀(l:List Int) (a x:Int),x<=a->x<=l.foldl max a
 |[],a,x,h=>h
 |y::r,a,x,h=>ZgM r (max a y) x (by omega)
theorem ZjA:∀(l:List Int) (a x:Int),x∈l->x<=l.foldl max a
 |y::r,a,x,h=>by
  rcases List.mem_cons.mp h with rfl|h
  ·exact ZgM r _ _ (by omega)
  ·exact ZjA r _ _ h
theorem ZgN:∀(l:List Int) (a b:Int),a<=b->(∀x∈l,x<=b)->l.foldl max a<=b
 |[],a,b,h,_=>h
 |y::r,a,b,h,k=>ZgN r (max a y) b (by have:=k y List.mem_cons_self;omega) (fun x hx=>k x (List.mem_cons_of_mem _ hx))
def htF (ns:List Nd):Nat->Int->Int
 |0,_=>1
 |d+1,k=>Zjk ((Zb ns k).kids.map (htF ns d))+1
theorem Zjd (ns:List Nd):∀d k,1<=htF ns d k
 |0,_=>Int.le_refl _
 |d+1,k=>by
  rw[htF];have:=ZgM ((Zb ns k).kids.map (htF ns d)) 0 0 (Int.le_refl _);unfold Zjk;omega
theorem ZrA {ns:List Nd} {i:Nat} {d:Nd} (hd:ns[i]? = Ya d) {k:Int} (hk:k∈d.kids) (f:Nat):htF ns f k+1<=htF ns (f+1) i:=by rw[htF,Zcg hd];have:=ZjA (d.kids.map (htF ns f)) 0 _ (List.mem_map.mpr ⟨k,hk,rfl⟩);unfold Zjk;omega
section
variable {ns:List Nd} {p:List Int}
theorem Ze6 (p:List Int):∀(j:Nat) (k:Nat),k<j->(Zc0 p j)[k]? = (Zc0 p (k+1))[k]?
 |j+1,k,h=>by
  by_cases e:k=j
  ·subst e;rfl
  ·rw[Zc0,List.getElem?_append_left (by rw[Zb0];omega)];exact Ze6 p j k (by omega)
theorem Zrt {k:Nat} (hk:k<p.length):atI (Zb1 p) k=if 0<=atI p k then 1+atI (Zc0 p k) (atI p k)else 1:=by rw[ZdP];unfold Zb1;rw[Ze6 p _ k hk,Zc0,List.getElem?_append_right (by rw[Zb0];omega),Zb0,Nat.sub_self];rfl
theorem Zqb {j k:Nat} (a:j<=p.length) (hk:k<j):atI (Zc0 p j) (k:Int)=atI (Zb1 p) k:=by rw[ZdP,ZdP];unfold Zb1;rw[Ze6 p _ k hk,Ze6 p p.length k (by omega)]
theorem Zsh (L:Links ns ns.length p):∀(x:Nat),x<ns.length->1<=atI (Zb1 p) x/\atI (Zb1 p) x<=(x:Int)+1/\∃f:Nat,(f:Int)+atI (Zb1 p) x=(ns.length:Int)+1/\atI (Zb1 p) x+htF ns f x<=1+htF ns ns.length 0:=by
 intro x
 induction x using Nat.strongRecOn with
 |ind x c=>
  intro hx;rw[Zrt (by rw[L.len];exact hx)];by_cases a:0<=atI p x
  ·rw[Yo a];obtain⟨i,d,b,hd,e,hm⟩:=L.at_ x a;have h:=ZiP L a;rw[e]at h⊢;obtain⟨j,a2,f,a3,a4⟩:=c i (by omega) b;rw[Zqb (by rw[L.len];omega) (by omega)];obtain⟨g,rfl⟩:∃g,f=g+1:=⟨f-1,by omega⟩
   have:=ZrA hd hm g;exact⟨by omega,by omega,g,by omega,by omega⟩
  ·rw[Yn a];have:x=0:=Classical.byContradiction fun q=>a (L.each x (by omega) hx);subst this;exact⟨Int.le_refl _,by omega,ns.length,by omega,Int.le_refl _⟩
theorem Zsi (L:Links ns ns.length p):Zf2 (Zb1 p)<=htF ns ns.length 0:=by
 have b:∀y∈Zb1 p,y<=htF ns ns.length 0:=fun y d=>by
  obtain⟨k,hk⟩:=List.mem_iff_getElem?.mp d;have c:k<ns.length:=by have:=(List.getElem?_eq_some_iff.mp hk).1;unfold Zb1 at this;rw[Zb0,L.len]at this;exact this
  have e:atI (Zb1 p) k=y:=Zcp hk;obtain⟨_,_,f,_,h⟩:=Zsh L k c;have:=Zjd ns f k;omega
 cases h:Zb1 p with
 |nil=>exact Int.le_trans (by decide) (Zjd ns ns.length 0)
 |cons a r=>
  rw[h]at b;exact ZgN r a _ (b a List.mem_cons_self) (fun x hx=>b x (List.mem_cons_of_mem _ hx))
end
theorem ZqK {ns:List Nd} (h:ZeV ns) (c:ns.length<=1500) (b:Zs ns 0=0) (hd:htF ns ns.length 0<=24) (hv:∀d∈ns,ZE ns d=true):Zb9 ns=true:=by obtain⟨p,a⟩:=ZrJ h c;unfold Zb9;rw[a];dsimp only;have:=Zsi (ZfG a);rw[b,decide_eq_true (by omega),List.all_eq_true.mpr hv];rfl
end
section
open Go.RowKit
def ZA (n:Nd) (a b:Int):Bool:=ZdM n.words&&decide (a<=(n.words.length:Int))&&decide ((n.words.length:Int)<=b)
def Zan (n:Nd):Bool:=decide (n.nums.length=0)
def Zdc (n:Nd):Bool:=decide (1<=num n 1)&&decide (num n 1<1000000000000000000)&&decide (1<=num n 2)&&decide (num n 2<1000000000000000000)
def kdR (ns:List Nd) (n:Nd) (i:Nat):Int:=Zs ns (atI n.kids i)
theorem Zdm (w:World) (k:Int):Calls Tryz.prog 24 #[Yd Yf k] w fun e w'=>e=.returned (.bool (ZR k))/\w=w':=by
 unfold ZR;by_cases q:20<=k
 ·by_cases a:k<=23
  ·have Q:=zh (zi q a);go_enter Tryz.func24,Tryz.ntmps24;go_wp2_with fail;go_ret;exact⟨by first|rfl|(have:=Q.out;simp;omega)|(have:=Q.out;simp;intros;omega)|(have:=Q.out;simp_all),rfl⟩
  ·have b:23<k:=by omega
   have Q:=zh (zi q a);go_enter Tryz.func24,Tryz.ntmps24;go_wp2_with fail;go_ret;exact⟨by first|rfl|(have:=Q.out;simp;omega)|(have:=Q.out;simp;intros;omega)|(have:=Q.out;simp_all),rfl⟩
 ·have c:k<20:=by omega
  have Q:=zh q;go_enter Tryz.func24,Tryz.ntmps24;go_wp2_with fail;go_ret;exact⟨by first|rfl|(have:=Q.out;simp;omega)|(have:=Q.out;simp;intros;omega)|(have:=Q.out;simp_all),rfl⟩
theorem ZpD (w:World) (k:Int):Calls Tryz.prog 50 #[Yd Yf k] w fun e w'=>e=.returned (.bool (ZcT k))/\w=w':=by
 unfold ZcT;by_cases q:8<=k
 ·by_cases a:k<=19
  ·cases q3:(k==12)
   ·have b:(k != 12)=true:=by rw[bne,q3];rfl
    cases q4:(k==15)
    ·have c:(k != 15)=true:=by rw[bne,q4];rfl
     have Q:=zh (zi q a);go_enter Tryz.func50,Tryz.ntmps50;go_wp2_with fail;go_ret;exact⟨by first|rfl|(rw[decide_eq_true Q.out.1,decide_eq_true Q.out.2];rfl)|(have:=Q.out;simp;intros;omega)|(have:=Q.out;simp_all),rfl⟩
    ·have c:(k != 15)=false:=by rw[bne,q4];rfl
     have Q:=zh (zi q a);go_enter Tryz.func50,Tryz.ntmps50;go_wp2_with fail;go_ret;exact⟨by first|rfl|(rw[decide_eq_true Q.out.1,decide_eq_true Q.out.2];rfl)|(have:=Q.out;simp;intros;omega)|(have:=Q.out;simp_all),rfl⟩
   ·have b:(k != 12)=false:=by rw[bne,q3];rfl
    have Q:=zh (zi q a);go_enter Tryz.func50,Tryz.ntmps50;go_wp2_with fail;go_ret;exact⟨by first|rfl|(rw[decide_eq_true Q.out.1,decide_eq_true Q.out.2];rfl)|(have:=Q.out;simp;intros;omega)|(have:=Q.out;simp_all),rfl⟩
  ·have d:19<k:=by omega
   have Q:=zh (zi q a);go_enter Tryz.func50,Tryz.ntmps50;go_wp2_with fail;go_ret;exact⟨by first|rfl|(rw[decide_eq_true Q.out.1,decide_eq_false Q.out.2];rfl)|(have:=Q.out;simp;intros;omega)|(have:=Q.out;simp_all),rfl⟩
 ·have f:k<8:=by omega
  have Q:=zh q;go_enter Tryz.func50,Tryz.ntmps50;go_wp2_with fail;go_ret;exact⟨by first|rfl|(rw[decide_eq_false Q.out];rfl)|(have:=Q.out;simp;intros;omega)|(have:=Q.out;simp_all),rfl⟩
theorem ZkZ (w:World) (v:Value) (ns:List Nd) (x:NdV×Nd) (i:Nat) (N:Zi w v ns) (h:ZU w x) (hk:ZaB x.2.kids ns.length) (m:i<x.2.kids.length) :
  Calls Tryz.prog 25 #[v,ndV x,Yd Yf i] w fun e w'=>e=.returned (Yd Yf (kdR ns x.2 i))/\Below w.heap.size w w':=by
 obtain⟨⟨D,H,e1,_⟩,⟨E,I,r,_⟩,F,J,s,t,O,p⟩:=h;obtain⟨A,c,P,rfl,K,L,k,l,M⟩:=N;obtain⟨⟨V,v2,v3⟩,u,C,a,j,B⟩:=x;dsimp only at e1 r s t p m hk;subst e1 r s;obtain⟨z,g⟩:∃z,j[i]? = Ya z:=⟨_,Ym m⟩
 have d:=hk z (List.mem_of_getElem? g);obtain⟨q,rfl⟩:∃q:Nat,z=q:=⟨z.toNat,by omega⟩
 have f:=below_alloc1 w (Yg #[Yd Yf u,Yc D C.length H,Yc E a.length I,Yc F j.length J,Yd Yf B] 36);obtain⟨y,o⟩:∃y,P[q]? = Ya y:=⟨_,Ym (by have:=congrArg List.length k;rw[List.length_map]at this;omega)⟩
 have hd:ns[q]? = Ya y.2:=by rw[<-k,List.getElem?_map,o];rfl
 obtain⟨n,hn⟩:∃n,n=ns.length:=⟨_,rfl⟩
 rw[<-hn]at l d;obtain⟨Q,rfl,S,_⟩:=ZaG l f o (by omega);obtain⟨R,rfl,T⟩:=ints_at p f g (by omega)
 have b:=zh (show y.2.kind=kdR ns ⟨u,C,a,j,B⟩ i from by
  unfold kdR;dsimp only
  rw[Zcp g,Zde hd])
 rw[<-b.out];have G:=zh f;unfold ndV;dsimp only;rw[<-hn];have U:(i:Int)<(j.length:Int):=by omega
 have i2:(0:Int)<=(i:Int):=by omega
 have i3:(q:Int)<(n:Int):=by omega
 have i4:(0:Int)<=(q:Int):=by omega
 clear K L k l M t O p o g hd d hk m hn f b;go_enter Tryz.func25,Tryz.ntmps25;go_wp2_with fail;go_ret;exact⟨rfl,G.out⟩
theorem Zpz (w:World) (x:NdV×Nd) (h:ZU w x) :
  Calls Tryz.prog 23 #[ndV x] w fun e w'=>e=.returned (.bool (Zan x.2))/\Below w.heap.size w w':=by
 obtain⟨⟨f,j,e1,_⟩,⟨g,k,c,_⟩,i,l,d,_⟩:=h;obtain⟨⟨r,v2,v3⟩,m,p,a,n,o⟩:=x;dsimp only at e1 c d;subst e1 c d;have b:=zh (below_alloc1 w (Yg #[Yd Yf m,.slice f p.length j,.slice g a.length k,.slice i n.length l,Yd Yf o] 36));unfold ndV Zan;dsimp only;by_cases q:a.length=0
 ·have t:((a.length:Int)==0)=true:=by rw[q];rfl
  have Q:=zh (decide_eq_true q);clear q;go_enter Tryz.func23,Tryz.ntmps23;go_wp2_with fail;go_ret;exact⟨by first|(rw[Q.out];rfl)|(have:=Q.out;simp_all),b.out⟩
 ·have t:((a.length:Int)==0)=false:=by simpa using fun e=>q (by simpa using e)
  have Q:=zh (decide_eq_false q);clear q;go_enter Tryz.func23,Tryz.ntmps23;go_wp2_with fail;go_ret;exact⟨by first|(rw[Q.out];rfl)|(have:=Q.out;simp_all),b.out⟩
theorem Zpj (w:World) (x:NdV×Nd) (h:ZU w x) (D:x.2.nums.length=3) :
  Calls Tryz.prog 52 #[ndV x] w fun e w'=>e=.returned (.bool (Zdc x.2))/\Below w.heap.size w w':=by
 obtain⟨⟨A,c,e1,_⟩,⟨F,J,v,B,C,j⟩,G,K,z,_⟩:=h;obtain⟨⟨P,v2,v3⟩,q,u,g,r,s⟩:=x;dsimp only at e1 v z D B C j;subst e1 v z;obtain⟨o,a⟩:∃y,g[1]? = Ya y:=⟨_,Ym (by omega)⟩
 obtain⟨p,b⟩:∃y,g[2]? = Ya y:=⟨_,Ym (by omega)⟩
 unfold Zdc;rw[Zdw (n:=(⟨q,u,g,r,s⟩:Nd)) a,Zdw (n:=(⟨q,u,g,r,s⟩:Nd)) b];have l:=below_alloc1 w (Yg #[Yd Yf q,Yc A u.length c,Yc F g.length J,Yc G r.length K,Yd Yf s] 36);obtain⟨d,rfl,H⟩:=ints_at (k:=1) j l a (by omega);obtain⟨I,ea,a2⟩:=ints_at (k:=2) j l b (by omega);injection ea with ea;subst ea;rw[show d.add 1=⟨d.block,d.off+1,none⟩by unfold Addr.add;simp]at H;rw[show d.add 2=⟨d.block,d.off+2,none⟩by unfold Addr.add;simp]at a2;have f:=zh l;unfold ndV;dsimp only;rw[D]at *;clear B C j a b l;by_cases i:1<=o
 ·by_cases m:o<1000000000000000000
  ·by_cases t:1<=p
   ·by_cases E:p<1000000000000000000
    ·rw[decide_eq_true i,decide_eq_true m,decide_eq_true t,decide_eq_true E];go_enter Tryz.func52,Tryz.ntmps52;go_wp2_with fail;go_ret;exact⟨rfl,f.out⟩
    ·have O:1000000000000000000<=p:=by omega
     rw[decide_eq_true i,decide_eq_true m,decide_eq_true t,decide_eq_false E];go_enter Tryz.func52,Tryz.ntmps52;go_wp2_with fail;go_ret;exact⟨rfl,f.out⟩
   ·have N:p<1:=by omega
    rw[decide_eq_true i,decide_eq_true m,decide_eq_false t];go_enter Tryz.func52,Tryz.ntmps52;go_wp2_with fail;go_ret;exact⟨rfl,f.out⟩
  ·have M:1000000000000000000<=o:=by omega
   rw[decide_eq_true i,decide_eq_false m];go_enter Tryz.func52,Tryz.ntmps52;go_wp2_with fail;go_ret;exact⟨rfl,f.out⟩
 ·have L:o<1:=by omega
  rw[decide_eq_false i];go_enter Tryz.func52,Tryz.ntmps52;go_wp2_with fail;go_ret;exact⟨rfl,f.out⟩
end
section
open Go.RowKit
theorem ZnZ (w:World) (x:NdV×Nd) (a b:Int) (h:ZU w x) :
  Calls Tryz.prog 22 #[ndV x,Yd Yf a,Yd Yf b] w fun e w'=>e=.returned (.bool (ZA x.2 a b))/\Below w.heap.size w w':=by
 obtain⟨⟨u,C,e1,U,V,F,M⟩,⟨v,D,S,_⟩,y,E,T,_⟩:=h;obtain⟨⟨v1,v2,v3⟩,G,l,f,H,J⟩:=x;dsimp only at e1 S T U F M;subst e1 S T;have m:=Blk.start w #[Yd Yf G,.slice u l.length C,.slice v f.length D,.slice y H.length E,Yd Yf J] 36;have j:=below_alloc1 w (Yg #[Yd Yf G,.slice u l.length C,.slice v f.length D,.slice y H.length E,Yd Yf J] 36);unfold ndV ZA;dsimp only;obtain⟨n,hn⟩:∃n,n=l.length:=⟨_,rfl⟩
 have s:n<=9223372036854775807:=by unfold maxLen at V;omega
 rw[<-hn]at F m j⊢;have A:=zh (zi hn (zi s M));have Y:=zh F;have K:=zh (zi m j);clear hn s U V F M m j;go_enter Tryz.func22,Tryz.ntmps22;go_wp2_with fail;generalize w.alloc (Yg #[Yd Yf G,.slice u n C,.slice v f.length D,.slice y H.length E,Yd Yf J] 36)=X at *;go_loopg [7] n (fun g v7 wr=>∃k:Nat,v7=Yd Yf k/\k<=n/\g=n-k/\ZdM (l.take k)=true/\Blk wr w.heap.size #[Yd Yf G,.slice u n C,.slice v f.length D,.slice y H.length E,Yd Yf J]/\Below w.heap.size w wr)
 case atStart=>exact⟨0,rfl,Nat.zero_le _,rfl,rfl,K.out.1,K.out.2⟩
 case round=>
  clear K;obtain⟨k,rfl,hk,N,d,m,j⟩:=hrel;have L:=m.cell 1;simp only[List.getElem?_toArray,List.getElem?_cons_zero,List.getElem?_cons_succ]at L;by_cases p:k=n
  ·have e:l.take k=l:=by rw[p,A.out.1];exact List.take_length
   rw[e]at d;have c:=zh (zi d j);subst p;clear hk N d e m j;by_cases O:a<=(k:Int)
   ·by_cases W:(k:Int)<=b
    ·have Q:=zh (zi (decide_eq_true O) (decide_eq_true W));go_wp2_with fail;go_ret;exact⟨by first|(rw[c.out.1,Q.out.1,Q.out.2];rfl)|(rw[c.out.1,Q.out.2];rfl)|(rw[c.out.1,Q.out.1];rfl)|(rw[c.out.1];rfl),c.out.2⟩
    ·have aa:b<(k:Int):=by omega
     have Q:=zh (zi (decide_eq_true O) (decide_eq_false W));go_wp2_with fail;go_ret;exact⟨by first|(rw[c.out.1,Q.out.1,Q.out.2];rfl)|(rw[c.out.1,Q.out.2];rfl)|(rw[c.out.1,Q.out.1];rfl)|(rw[c.out.1];rfl),c.out.2⟩
   ·have Z:(k:Int)<a:=by omega
    have Q:=zh (decide_eq_false O);go_wp2_with fail;go_ret;exact⟨by first|(rw[c.out.1,Q.out];rfl)|(rw[c.out.1];rfl),c.out.2⟩
  ·have r:k<n:=by omega
   obtain⟨x,hx⟩:∃x,l[k]? = Ya x:=⟨_,Ym (by have:=A.out.1;omega)⟩
   obtain⟨ad,rfl,d0⟩:=ZbR Y.out j hx (by omega);have t:ZdM (l.take (k+1))=ZQ x:=ZcJ hx d;have q:ZQ x=false->ZdM l=false:=ZhK hx;have I:=ZjS ⟨x.toArray⟩ wr (by show x.toArray.size<=maxLen;simpa using A.out.2.2 x (List.mem_of_getElem? hx));have I:Calls Tryz.prog 49 #[txt x] wr (fun e w'=>e=.returned (.bool (ZQ x))/\Below wr.heap.size wr w'):=by simpa using I
   have i1:(k:Int)<(n:Int):=by omega
   have i2:(0:Int)<=(k:Int):=by omega
   have wk:IntKind.i64.wrap ((k:Int)+1)=(k:Int)+1:=IntWalk.i64_in _ (by have:=A.out.2.1;omega);have o:=zh (zi r (zi N (zi m j)));have R:=zh (zi t q);have P:=zh I;clear t q hx p r hk N d I m j;generalize ZQ x=B at *;cases B
   ·have c:=zh (R.out.2 rfl);go_wp2_with (go_at_call 49;go_fit P.out;rintro e1 X ⟨rfl,i⟩;have z:=zh (o.out.2.2.2.trans (i.mono o.out.2.2.2.size));clear i);go_ret;exact⟨by rw[c.out];rfl,z.out⟩
   ·go_wp2_with (go_at_call 49;go_fit P.out;rintro e1 X ⟨rfl,i⟩;have z:=zh (zi (o.out.2.2.1.keep i) (o.out.2.2.2.trans (i.mono o.out.2.2.2.size)));clear i);go_roundg (n-(k+1))
    case measure=>have:=o.out;omega
    case rel=>exact⟨k+1,by push_cast;rfl,by have:=o.out;omega,rfl,R.out.1,z.out.1,z.out.2⟩
def ZbH (ns:List Nd) (n:Nd) (f:Nat) (a b:Int):Bool:=Zat ns (n.kids.drop f) (isB [7])&&decide (a<=(n.kids.length:Int)-f)&&decide ((n.kids.length:Int)-f<=b)
theorem Zox {l:List Int} {f i:Nat} {x:Int} {t:Int->Bool} (ns:List Nd) (a:f<=i) (hx:l[i]? = Ya x) (h:Zat ns ((l.take i).drop f) t=true):Zat ns ((l.take (i+1)).drop f) t=t (Zs ns x):=by have b:=(List.getElem?_eq_some_iff.mp hx).1;rw[List.take_add_one,hx,List.drop_append,show f-(List.take i l).length=0 by rw[List.length_take];omega];unfold Zat at h⊢;rw[List.all_append,h,Bool.true_and];simp
theorem Zqf {l:List Int} {f i:Nat} {x:Int} {t:Int->Bool} (ns:List Nd) (a:f<=i) (hx:l[i]? = Ya x) (h:t (Zs ns x)=false):Zat ns (l.drop f) t=false:=by unfold Zat;rw[List.all_eq_false];refine⟨x,List.mem_iff_getElem?.mpr ⟨i-f,?_⟩,by rw[h];decide⟩;rw[List.getElem?_drop,show f+(i-f)=i by omega];exact hx
theorem ZlP (w:World) (v:Value) (ns:List Nd) (x:NdV×Nd) (f:Nat) (a b:Int) (hN:Zi w v ns) (h:ZU w x) (hk:ZaB x.2.kids ns.length) (V:f<=x.2.kids.length) (A:f<=1) :
  Calls Tryz.prog 51 #[v,ndV x,Yd Yf f,Yd Yf a,Yd Yf b] w fun e w'=>e=.returned (.bool (ZbH ns x.2 f a b))/\Below w.heap.size w w':=by
 have K:=zh (fun(wr:World) (o:Below w.heap.size w wr) (i:Nat) (hi:i<x.2.kids.length)=>ZkZ wr v ns x i (hN.below o) (h.below o) hk hi);obtain⟨⟨G,L,e1,_⟩,⟨H,M,e2,_⟩,I,N,e3,O,P,R⟩:=h;obtain⟨⟨v1,v2,v3⟩,C,F,l,d,E⟩:=x;dsimp only at e1 e2 e3 O R V hk K;subst e1 e2 e3;have n:=Blk.start w #[Yd Yf C,Yc G F.length L,Yc H l.length M,Yc I d.length N,Yd Yf E] 36;have o:=below_alloc1 w (Yg #[Yd Yf C,Yc G F.length L,Yc H l.length M,Yc I d.length N,Yd Yf E] 36);unfold ndV at K⊢;unfold ZbH;dsimp only at K⊢;have B:d.length<=9223372036854775807:=by unfold maxLen at P;omega
 have HN:=zh (zi V (zi B A));have T:=zh (zi n o);have u0:IntKind.i64.wrap ((d.length:Int)-(f:Int))=(d.length:Int)-(f:Int):=IntWalk.i64_in _ (by omega);clear B O P R n o V A hk hN;go_enter Tryz.func51,Tryz.ntmps51;go_wp2_with fail;generalize w.alloc (Yg #[Yd Yf C,Yc G F.length L,Yc H l.length M,Yc I d.length N,Yd Yf E] 36)=w1 at *;go_loopg [12] (d.length-f) (fun g Y wr=>∃k:Nat,Y=Yd Yf k/\f<=k/\k<=d.length/\g=d.length-k/\Zat ns ((d.take k).drop f) (isB [7])=true/\Blk wr w.heap.size #[Yd Yf C,Yc G F.length L,Yc H l.length M,Yc I d.length N,Yd Yf E]/\Below w.heap.size w wr)
 case atStart=>exact⟨f,rfl,Nat.le_refl _,HN.out.1,rfl,by rw[List.drop_of_length_le (by rw[List.length_take];omega)];rfl,T.out.1,T.out.2⟩
 case round=>
  clear T;obtain⟨k,rfl,p,hk,W,j,n,o⟩:=hrel;have g0:=n.cell 0;have O:=n.cell 1;have P:=n.cell 2;have R:=n.cell 3;have g4:=n.cell 4;simp only[List.getElem?_toArray,List.getElem?_cons_zero,List.getElem?_cons_succ]at g0 O P R g4;by_cases u:k=d.length
  ·have e:d.take k=d:=by rw[u];exact List.take_length
   rw[e]at j;have c:=zh (zi j o);subst u;clear hk W j e n o p;by_cases X:a<=(d.length:Int)-(f:Int)
   ·by_cases qb:(d.length:Int)-(f:Int)<=b
    ·have Q:=zh (zi (decide_eq_true X) (decide_eq_true qb));go_wp2_with fail;go_ret;exact⟨by first|(rw[c.out.1,Q.out.1,Q.out.2];rfl)|(rw[c.out.1,Q.out.2];rfl)|(rw[c.out.1,Q.out.1];rfl)|(rw[c.out.1];rfl),c.out.2⟩
    ·have ao:b<(d.length:Int)-(f:Int):=by omega
     have Q:=zh (zi (decide_eq_true X) (decide_eq_false qb));go_wp2_with fail;go_ret;exact⟨by first|(rw[c.out.1,Q.out.1,Q.out.2];rfl)|(rw[c.out.1,Q.out.2];rfl)|(rw[c.out.1,Q.out.1];rfl)|(rw[c.out.1];rfl),c.out.2⟩
   ·have an:(d.length:Int)-(f:Int)<a:=by omega
    have Q:=zh (decide_eq_false X);go_wp2_with fail;go_ret;exact⟨by first|(rw[c.out.1,Q.out];rfl)|(rw[c.out.1];rfl),c.out.2⟩
  ·have r:k<d.length:=by omega
   obtain⟨y,S⟩:∃y,d[k]? = Ya y:=⟨_,Ym r⟩
   have D:=Zox (t:=isB [7]) ns p S j;have z:=Zqf (t:=isB [7]) ns p S;have kk:kdR ns ⟨C,F,l,d,E⟩ k=Zs ns y:=by unfold kdR;dsimp only;rw[Zcp S]
   have U:=zh (K.out wr o k r);rw[kk]at U;have i1:(k:Int)<(d.length:Int):=by omega
   have i2:(0:Int)<=(k:Int):=by omega
   have wk:IntKind.i64.wrap ((k:Int)+1)=(k:Int)+1:=IntWalk.i64_in _ (by have:=HN.out.2.1;omega);have s:=zh (zi r (zi W (zi n (zi o p))));have NX:=zh (zi D z);clear D z S u r hk W j n o p kk;generalize Zs ns y=Z at *;cases q:(Z==7)
   ·have q':(Z != 7)=true:=by rw[bne,q];rfl
    have c:=zh (NX.out.2 (by unfold isB;rw[List.contains_cons,q];rfl));go_wp2_with (go_at_call 25;go_fit U.out;rintro e1 w1 ⟨rfl,m⟩;have J:=zh (s.out.2.2.2.1.trans (m.mono s.out.2.2.2.1.size));clear m);go_ret;exact⟨by rw[c.out];rfl,J.out⟩
   ·have q':(Z != 7)=false:=by rw[bne,q];rfl
    have NY:=zh (NX.out.1.trans (by unfold isB;rw[List.contains_cons,q];rfl:_=true));go_wp2_with (go_at_call 25;go_fit U.out;rintro e1 w1 ⟨rfl,m⟩;have J:=zh (zi (s.out.2.2.1.keep m) (s.out.2.2.2.1.trans (m.mono s.out.2.2.2.1.size)));clear m);go_roundg (d.length-(k+1))
    case measure=>have:=s.out;omega
    case rel=>exact⟨k+1,by push_cast;rfl,by have:=s.out;omega,by have:=s.out;omega,rfl,NY.out,J.out.1,J.out.2⟩
end
section
open Go.RowKit
def OkB (P:Prop) (e:Ending):Prop:=∃b:Bool,e=.returned (.bool b)/\(b=true->P)
theorem Zh {P:Prop}:OkB P (.returned (.bool false)):=⟨false,rfl,fun h=>Bool.noConfusion h⟩
theorem Zbm {P:Prop} {b:Bool} (h:P):OkB P (.returned (.bool b)):=⟨b,rfl,fun _=>h⟩
theorem ZbN {ns:List Nd} {n:Nd} (a:ZdM n.words=true) (b:Zcm n.nums=true) (c:Zo ns n=true):ZE ns n=true:=by unfold ZE;rw[a,b,c];rfl
theorem Zbu {e g:Int} {d:List (List UInt8)} {c f:List Int} {a b:Int} (h:ZA ⟨e,d,c,f,g⟩ a b=true):ZdM d=true/\a<=(d.length:Int)/\(d.length:Int)<=b:=by unfold ZA at h;rw[Bool.and_eq_true,Bool.and_eq_true,decide_eq_true_eq,decide_eq_true_eq]at h;exact⟨h.1.1,h.1.2,h.2⟩
theorem ZbA {b d:Int} {e:List (List UInt8)} {a c:List Int} (h:Zan ⟨b,e,a,c,d⟩=true):a=[]:=List.length_eq_zero_iff.mp (of_decide_eq_true h)
theorem ZbI {n:Nd} {a b:Nat} (c:n.words.length=a) (d:n.nums.length=b):Zr n a b=true:=by unfold Zr;rw[decide_eq_true c,decide_eq_true d];rfl
theorem ZdQ {ns:List Nd} {e g:Int} {i:List (List UInt8)} {c d:List Int} {f:Nat} {a b:Int} (h:ZbH ns ⟨e,i,c,d,g⟩ f a b=true):Zat ns (d.drop f) (isB [7])=true/\a<=(d.length:Int)-f/\(d.length:Int)-f<=b:=by unfold ZbH at h;rw[Bool.and_eq_true,Bool.and_eq_true,decide_eq_true_eq,decide_eq_true_eq]at h;exact⟨h.1.1,h.1.2,h.2⟩
section
variable {ns:List Nd} {ws:List (List UInt8)} {nums ks:List Int} {ps:Int}
theorem ZeX {k:Int} {f:Int->Bool} (h:f (Zs ns k)=true):Zj ns [k] [f]=true:=by simp[Zj,h]
theorem Zgr {k l:Int} {f g:Int->Bool} (h:f (Zs ns k)=true) (a:g (Zs ns l)=true):Zj ns [k,l] [f,g]=true:=by simp[Zj,h,a]
theorem Zoj {k l m:Int} {f g e:Int->Bool} (h:f (Zs ns k)=true) (a:g (Zs ns l)=true) (b:e (Zs ns m)=true):Zj ns [k,l,m] [f,g,e]=true:=by simp[Zj,h,a,b]
theorem all_cons {k:Int} {r:List Int} {f:Int->Bool} (h:Zat ns (k::r) f=true):f (Zs ns k)=true/\Zat ns r f=true:=by unfold Zat at h⊢;rwa[List.all_cons,Bool.and_eq_true]at h
theorem Zgt {l:List Int} (h:l.length=2):∃a b,l=[a,b]:=by
 match l,h with
 |[a,b],_=>exact⟨a,b,rfl⟩
theorem Zhr {l:List Int} (h:l.length=3):∃a b c,l=[a,b,c]:=by
 match l,h with
 |[a,b,c],_=>exact⟨a,b,c,rfl⟩
theorem Zmc (h:Zat ns ks (isB [1,4])=true) (d:ZA ⟨0,ws,nums,ks,ps⟩ 0 0=true) (hn:Zan ⟨0,ws,nums,ks,ps⟩=true):ZE ns ⟨0,ws,nums,ks,ps⟩=true:=by obtain⟨a,b,c⟩:=Zbu d;obtain rfl:nums=[]:=ZbA hn;refine ZbN a rfl ?_;show(Zr _ 0 0&&Zat ns ks (isB [1,4]))=true;rw[h,ZbI (a:=0) (b:=0) (by show ws.length=0;omega) rfl];rfl
theorem ZpV (h:Zat ns ks (isB [2,3])=true) (d:ZA ⟨1,ws,nums,ks,ps⟩ 1 1=true) (hn:Zan ⟨1,ws,nums,ks,ps⟩=true):ZE ns ⟨1,ws,nums,ks,ps⟩=true:=by obtain⟨a,b,c⟩:=Zbu d;obtain rfl:nums=[]:=ZbA hn;refine ZbN a rfl ?_;show(Zr _ 1 0&&Zat ns ks (isB [2,3]))=true;rw[h,ZbI (a:=1) (b:=0) (by show ws.length=1;omega) rfl];rfl
theorem ZhQ {y:Int} (a:0<=y) (b:y<1000000000000000000):Zcm [y]=true:=by simp[Zcm,a,b]
theorem Zj0 {y:Int} (d:ZA ⟨2,ws,nums,ks,ps⟩ 1 1=true) (e:nums=[y]) (h:y=0\/y=1) (hk:ks.length=0):ZE ns ⟨2,ws,nums,ks,ps⟩=true:=by obtain⟨a,b,c⟩:=Zbu d;obtain rfl:=List.length_eq_zero_iff.mp hk;subst e;refine ZbN a (ZhQ (by omega) (by omega)) ?_;show(Zr _ 1 1&&decide (y<=1)&&Zj ns [] [])=true;rw[ZbI (a:=1) (b:=1) (by show ws.length=1;omega) rfl,decide_eq_true (by omega)];rfl
theorem ZsD (e:ZA ⟨3,ws,nums,ks,ps⟩ 4 1500=true) (d:ws.length % 2=0) (hn:Zan ⟨3,ws,nums,ks,ps⟩=true) (hk:ks.length=0):ZE ns ⟨3,ws,nums,ks,ps⟩=true:=by obtain⟨a,b,c⟩:=Zbu e;obtain rfl:=List.length_eq_zero_iff.mp hk;obtain rfl:nums=[]:=ZbA hn;refine ZbN a rfl ?_;show(decide (4<=ws.length)&&decide (ws.length % 2=0)&&Zr _ ws.length 0&&Zj ns [] [])=true;rw[ZbI (a:=ws.length) (b:=0) rfl rfl,decide_eq_true d,decide_eq_true (by omega)];rfl
theorem ZsB {k:Int} {r:List Int} (d:ks=r++[k]) (h:Zat ns r (isB [5])=true) (g:ZA ⟨4,ws,nums,ks,ps⟩ 1 1=true) (hn:Zan ⟨4,ws,nums,ks,ps⟩=true) (f:Zs ns k=7):ZE ns ⟨4,ws,nums,ks,ps⟩=true:=by
 obtain⟨a,b,c⟩:=Zbu g;obtain rfl:nums=[]:=ZbA hn;refine ZbN a rfl ?_;show(Zr _ 1 0&&Zat ns (ks.take (ks.length-1)) (isB [5])&&Zj ns (ks.drop (ks.length-1)) [isB [7]])=true;have e:ks.length-1=r.length:=by rw[d];simp
 rw[e,d,List.take_left',List.drop_left',h,ZeX (by rw[f];rfl),ZbI (a:=1) (b:=0) (by show ws.length=1;omega) rfl]<;>rfl
theorem ZpU {y:Int} (f:ZA ⟨6,ws,nums,ks,ps⟩ 1 1500=true) (g:nums=[y]) (d:0<=y) (e:y<=2) (hk:ks.length=0):ZE ns ⟨6,ws,nums,ks,ps⟩=true:=by obtain⟨a,b,c⟩:=Zbu f;obtain rfl:=List.length_eq_zero_iff.mp hk;subst g;refine ZbN a (ZhQ d (by omega)) ?_;show(decide (1<=ws.length)&&Zr _ ws.length 1&&decide (y<=2)&&Zj ns [] [])=true;rw[ZbI (a:=ws.length) (b:=1) rfl rfl,decide_eq_true e,decide_eq_true (by omega)];rfl
theorem ZpT (h:Zat ns ks ZcT=true) (hn:Zan ⟨7,ws,nums,ks,ps⟩=true) (d:ZA ⟨7,ws,nums,ks,ps⟩ 0 0=true):ZE ns ⟨7,ws,nums,ks,ps⟩=true:=by obtain⟨a,b,c⟩:=Zbu d;obtain rfl:nums=[]:=ZbA hn;refine ZbN a rfl ?_;show(Zr _ 0 0&&Zat ns ks ZcT)=true;rw[h,ZbI (a:=0) (b:=0) (by show ws.length=0;omega) rfl];rfl
theorem ZsA (h:Zat ns ks (isB [12])=true) (hn:Zan ⟨11,ws,nums,ks,ps⟩=true) (d:ZA ⟨11,ws,nums,ks,ps⟩ 2 2=true):ZE ns ⟨11,ws,nums,ks,ps⟩=true:=by obtain⟨a,b,c⟩:=Zbu d;obtain rfl:nums=[]:=ZbA hn;refine ZbN a rfl ?_;show(Zr _ 2 0&&Zat ns ks (isB [12]))=true;rw[h,ZbI (a:=2) (b:=0) (by show ws.length=2;omega) rfl];rfl
theorem Zr9 (e:ZA ⟨8,ws,nums,ks,ps⟩ 1 1=true) (hn:Zan ⟨8,ws,nums,ks,ps⟩=true) (hk:ks.length=1) (d:ZR (kdR ns ⟨8,ws,nums,ks,ps⟩ 0)=true):ZE ns ⟨8,ws,nums,ks,ps⟩=true:=by obtain⟨a,b,c⟩:=Zbu e;obtain rfl:nums=[]:=ZbA hn;obtain⟨k,rfl⟩:=List.length_eq_one_iff.mp hk;refine ZbN a rfl ?_;show(Zr _ 1 0&&Zj ns [k] [ZR])=true;rw[ZbI (a:=1) (b:=0) (by show ws.length=1;omega) rfl,ZeX (k:=k) d];rfl
theorem Zsc (e:ZA ⟨9,ws,nums,ks,ps⟩ 1 1=true) (hn:Zan ⟨9,ws,nums,ks,ps⟩=true) (hk:ks.length=1) (d:ZR (kdR ns ⟨9,ws,nums,ks,ps⟩ 0)=true):ZE ns ⟨9,ws,nums,ks,ps⟩=true:=by obtain⟨a,b,c⟩:=Zbu e;obtain rfl:nums=[]:=ZbA hn;obtain⟨k,rfl⟩:=List.length_eq_one_iff.mp hk;refine ZbN a rfl ?_;show(Zr _ 1 0&&Zj ns [k] [ZR])=true;rw[ZbI (a:=1) (b:=0) (by show ws.length=1;omega) rfl,ZeX (k:=k) d];rfl
theorem Zq5 (j:ZA ⟨10,ws,nums,ks,ps⟩ 2 2=true) (hn:Zan ⟨10,ws,nums,ks,ps⟩=true) (i:ZbH ns ⟨10,ws,nums,ks,ps⟩ 0 2 2=true):ZE ns ⟨10,ws,nums,ks,ps⟩=true:=by obtain⟨a,b,c⟩:=Zbu j;obtain rfl:nums=[]:=ZbA hn;obtain⟨d,e,f⟩:=ZdQ i;obtain⟨x,y,rfl⟩:=Zgt (l:=ks) (by omega);obtain⟨g,h⟩:=all_cons d;refine ZbN a rfl ?_;show(Zr _ 2 0&&Zj ns [x,y] [isB [7],isB [7]])=true;rw[ZbI (a:=2) (b:=0) (by show ws.length=2;omega) rfl,Zgr g (all_cons h).1];rfl
theorem Zq3 (h:ZA ⟨12,ws,nums,ks,ps⟩ 1 1=true) (hn:Zan ⟨12,ws,nums,ks,ps⟩=true) (g:ZbH ns ⟨12,ws,nums,ks,ps⟩ 0 1 1=true):ZE ns ⟨12,ws,nums,ks,ps⟩=true:=by obtain⟨a,b,c⟩:=Zbu h;obtain rfl:nums=[]:=ZbA hn;obtain⟨d,e,f⟩:=ZdQ g;obtain⟨x,rfl⟩:=List.length_eq_one_iff.mp (show ks.length=1 by omega);refine ZbN a rfl ?_;show(Zr _ 1 0&&Zj ns [x] [isB [7]])=true;rw[ZbI (a:=1) (b:=0) (by show ws.length=1;omega) rfl,ZeX (all_cons d).1];rfl
theorem Zq2 (h:Zat ns ks ZdE=true) (d:ZA ⟨14,ws,nums,ks,ps⟩ 1 2=true) (hn:Zan ⟨14,ws,nums,ks,ps⟩=true):ZE ns ⟨14,ws,nums,ks,ps⟩=true:=by
 obtain⟨a,b,c⟩:=Zbu d;obtain rfl:nums=[]:=ZbA hn;refine ZbN a rfl ?_;show((Zr _ 1 0||Zr _ 2 0)&&Zat ns ks ZdE)=true;rw[h];by_cases q:ws.length=1
 ·rw[ZbI (a:=1) (b:=0) q rfl];rfl
 ·rw[ZbI (a:=2) (b:=0) (show ws.length=2 by omega) rfl,Bool.or_true];rfl
theorem ZsC (i:ZA ⟨16,ws,nums,ks,ps⟩ 0 0=true) (hn:Zan ⟨16,ws,nums,ks,ps⟩=true) (hk:0<ks.length) (g:ZR (kdR ns ⟨16,ws,nums,ks,ps⟩ 0)=true) (h:ZbH ns ⟨16,ws,nums,ks,ps⟩ 1 1 2=true):ZE ns ⟨16,ws,nums,ks,ps⟩=true:=by
 obtain⟨a,b,c⟩:=Zbu i;obtain rfl:nums=[]:=ZbA hn;obtain⟨d,e,f⟩:=ZdQ h;refine ZbN a rfl ?_;show(Zr _ 0 0&&(Zj ns ks [ZR,isB [7]]||Zj ns ks [ZR,isB [7],isB [7]]))=true;rw[ZbI (a:=0) (b:=0) (by show ws.length=0;omega) rfl];by_cases q:ks.length=2
 ·obtain⟨x,y,rfl⟩:=Zgt q;rw[Zgr (k:=x) (l:=y) g (all_cons d).1];rfl
 ·obtain⟨x,y,z,rfl⟩:=Zhr (l:=ks) (by omega);rw[Zoj (k:=x) (l:=y) (m:=z) g (all_cons d).1 (all_cons (all_cons d).2).1,Bool.or_true];rfl
theorem ZpW (i:ZA ⟨17,ws,nums,ks,ps⟩ 0 0=true) (hn:Zan ⟨17,ws,nums,ks,ps⟩=true) (hk:0<ks.length) (h:ZR (kdR ns ⟨17,ws,nums,ks,ps⟩ 0)=true) (g:ZbH ns ⟨17,ws,nums,ks,ps⟩ 1 1 1=true):ZE ns ⟨17,ws,nums,ks,ps⟩=true:=by obtain⟨a,b,c⟩:=Zbu i;obtain rfl:nums=[]:=ZbA hn;obtain⟨d,e,f⟩:=ZdQ g;refine ZbN a rfl ?_;show(Zr _ 0 0&&Zj ns ks [ZR,isB [7]])=true;rw[ZbI (a:=0) (b:=0) (by show ws.length=0;omega) rfl];obtain⟨x,y,rfl⟩:=Zgt (l:=ks) (by omega);rw[Zgr (k:=x) (l:=y) h (all_cons d).1];rfl
theorem Zob (e:ZA ⟨18,ws,nums,ks,ps⟩ 0 0=true) (hn:Zan ⟨18,ws,nums,ks,ps⟩=true) (hk:ks.length=1) (d:ZR (kdR ns ⟨18,ws,nums,ks,ps⟩ 0)=true):ZE ns ⟨18,ws,nums,ks,ps⟩=true:=by obtain⟨a,b,c⟩:=Zbu e;obtain rfl:nums=[]:=ZbA hn;obtain⟨k,rfl⟩:=List.length_eq_one_iff.mp hk;refine ZbN a rfl ?_;show(Zr _ 0 0&&Zj ns [k] [ZR])=true;rw[ZbI (a:=0) (b:=0) (by show ws.length=0;omega) rfl,ZeX (k:=k) d];rfl
theorem Zsa (e:ZA ⟨23,ws,nums,ks,ps⟩ 0 0=true) (hn:Zan ⟨23,ws,nums,ks,ps⟩=true) (hk:ks.length=1) (d:ZR (kdR ns ⟨23,ws,nums,ks,ps⟩ 0)=true):ZE ns ⟨23,ws,nums,ks,ps⟩=true:=by obtain⟨a,b,c⟩:=Zbu e;obtain rfl:nums=[]:=ZbA hn;obtain⟨k,rfl⟩:=List.length_eq_one_iff.mp hk;refine ZbN a rfl ?_;show(Zr _ 0 0&&Zj ns [k] [ZR])=true;rw[ZbI (a:=0) (b:=0) (by show ws.length=0;omega) rfl,ZeX (k:=k) d];rfl
theorem Zq4 (d:ZA ⟨19,ws,nums,ks,ps⟩ 0 0=true) (hn:Zan ⟨19,ws,nums,ks,ps⟩=true) (hk:ks.length=0):ZE ns ⟨19,ws,nums,ks,ps⟩=true:=by obtain⟨a,b,c⟩:=Zbu d;obtain rfl:nums=[]:=ZbA hn;obtain rfl:=List.length_eq_zero_iff.mp hk;refine ZbN a rfl ?_;show(Zr _ 0 0&&Zj ns [] [])=true;rw[ZbI (a:=0) (b:=0) (by show ws.length=0;omega) rfl];rfl
theorem Zn9 (d:ZA ⟨15,ws,nums,ks,ps⟩ 1 1=true) (hn:Zan ⟨15,ws,nums,ks,ps⟩=true) (hk:ks.length=0):ZE ns ⟨15,ws,nums,ks,ps⟩=true:=by obtain⟨a,b,c⟩:=Zbu d;obtain rfl:nums=[]:=ZbA hn;obtain rfl:=List.length_eq_zero_iff.mp hk;refine ZbN a rfl ?_;show(Zr _ 1 0&&Zj ns [] [])=true;rw[ZbI (a:=1) (b:=0) (by show ws.length=1;omega) rfl];rfl
theorem Zsd (d:ZA ⟨21,ws,nums,ks,ps⟩ 1 1=true) (hn:Zan ⟨21,ws,nums,ks,ps⟩=true) (hk:ks.length=0):ZE ns ⟨21,ws,nums,ks,ps⟩=true:=by obtain⟨a,b,c⟩:=Zbu d;obtain rfl:nums=[]:=ZbA hn;obtain rfl:=List.length_eq_zero_iff.mp hk;refine ZbN a rfl ?_;show(Zr _ 1 0&&Zj ns [] [])=true;rw[ZbI (a:=1) (b:=0) (by show ws.length=1;omega) rfl];rfl
theorem Zsb {y:Int} (f:ZA ⟨20,ws,nums,ks,ps⟩ 0 0=true) (g:nums=[y]) (d:0<=y) (e:y<1000000000000000000) (hk:ks.length=0):ZE ns ⟨20,ws,nums,ks,ps⟩=true:=by obtain⟨a,b,c⟩:=Zbu f;obtain rfl:=List.length_eq_zero_iff.mp hk;subst g;refine ZbN a (ZhQ d e) ?_;show(Zr _ 0 1&&Zj ns [] [])=true;rw[ZbI (a:=0) (b:=1) (by show ws.length=0;omega) rfl];rfl
theorem Zr7 {y:Int} (h:ZA ⟨22,ws,nums,ks,ps⟩ 0 0=true) (i:nums=[y]) (d:0<=y) (e:y<=5) (hk:ks.length=2) (f:ZR (kdR ns ⟨22,ws,nums,ks,ps⟩ 0)=true) (g:ZR (kdR ns ⟨22,ws,nums,ks,ps⟩ 1)=true):ZE ns ⟨22,ws,nums,ks,ps⟩=true:=by obtain⟨a,b,c⟩:=Zbu h;obtain⟨x,z,rfl⟩:=Zgt hk;subst i;refine ZbN a (ZhQ d (by omega)) ?_;show(Zr _ 0 1&&decide (y<=5)&&Zj ns [x,z] [ZR,ZR])=true;rw[ZbI (a:=0) (b:=1) (by show ws.length=0;omega) rfl,decide_eq_true e,Zgr (k:=x) (l:=z) f g];rfl
end
end
end Go.Proofs.YtdkegpkfjgloeaaGreatDoor
