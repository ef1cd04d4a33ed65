import Derived.Test.YtfbepcelkijgkaaGreatDoorQAM
set_option maxRecDepth 100000
set_option maxHeartbeats 8000000
open Option renaming some → Ya
namespace Go.Proofs.YtfbepcelkijgkaaGreatDoor
section
open Go.RowKit
theorem ZcW (p:List Int) (m:Nat):atI p (m:Int)=(p[m]?).getD (-1):=by unfold atI;rw[Int.toNat_natCast]
theorem Zfn {p:List Int} {j m:Nat} (a:Int) (h:j≠m):atI (p.set j a) (m:Int)=atI p m:=by rw[ZcW,ZcW,List.getElem?_set_ne h]
theorem Zoe {p:List Int} {m:Nat} (a:Int) (h:m<p.length):atI (p.set m a) (m:Int)=a:=by rw[ZcW,List.getElem?_set_self h];rfl
theorem ZiW (n a:Nat):∀(x:List Int) (p q:List Int),p.length=n->Zb1 n a x p=Ya q ->
  (∀m:Nat,0<=atI p m->atI q m=atI p m)/\(∀k∈x,atI p k<0/\atI q k=a)/\x.Nodup/\(∀m:Nat,(m:Int) ∉ x->atI q m=atI p m)
 |[],p,q,hn,h=>by
  rw[Zb1]at h;injection h with h;subst h;exact⟨fun _ _=>rfl,(fun k hk=>absurd hk List.not_mem_nil),List.nodup_nil,fun _ _=>rfl⟩
 |k::r,p,q,hn,h=>by
  rw[Zb1]at h
  split at h
  ·cases h
  ·rename_i v
   obtain⟨m,rfl⟩:∃m:Nat,k=m:=⟨k.toNat,by omega⟩
   rw[Int.toNat_natCast]at h;have hm:m<p.length:=by omega
   obtain⟨i,i2,i3,i4⟩:=ZiW n a r (p.set m a) q (by rw[List.length_set];exact hn) h;have d:atI (p.set m a) (m:Int)=a:=Zoe _ hm;have s:atI q (m:Int)=a:=by rw[i m (by rw[d];omega),d]
   have l:(m:Int) ∉ r:=fun t=>by have:=(i2 _ t).1;rw[d]at this;omega
   have f:=ZgY n a _ _ _ h;refine⟨fun j c=>?_,fun y u=>?_,List.nodup_cons.mpr ⟨l,i3⟩,fun j c=>?_⟩
   ·have b:m≠j:=fun e=>by subst e;omega
    rw[i j (by rw[Zfn _ b];exact c),Zfn _ b]
   ·rcases List.mem_cons.mp u with e|e
    ·subst e;exact⟨by omega,s⟩
    ·obtain⟨g,rfl⟩:∃g:Nat,y=g:=⟨y.toNat,by have:=f y e;omega⟩
     have:=i2 _ e;refine⟨?_,this.2⟩;have b:m≠g:=fun o=>l (by rw[o];exact e);rw[Zfn _ b]at this;exact this.1
   ·have b:m≠j:=fun e=>c (by rw[e];exact List.mem_cons_self);rw[i4 j (fun e=>c (List.mem_cons_of_mem _ e)),Zfn _ b]
structure Links (ns:List Nd) (j:Nat) (p:List Int):Prop where
 len:p.length=ns.length
 of:∀(i:Nat) (d:Nd),i<j->ns[i]? = Ya d->d.kids.Nodup/\∀k∈d.kids,(i:Int)<k/\k<(ns.length:Int)/\atI p k=i
 at_:∀m:Nat,0<=atI p m->∃(i:Nat) (d:Nd),i<j/\ns[i]? = Ya d/\atI p m=i/\(m:Int)∈d.kids
 each:∀m:Nat,0<m->m<j->0<=atI p m
theorem Zg5 (ns:List Nd):∀(j:Nat) (p:List Int),j<=ns.length->Zcy ns j=Ya p->Links ns j p
 |0,p,hj,h=>by
  rw[Zcy]at h;injection h with h;subst h;refine⟨List.length_replicate,fun i d r=>absurd r (Nat.not_lt_zero _),fun m hm=>?_,fun m _ h=>absurd h (Nat.not_lt_zero _)⟩;rw[ZcW,List.getElem?_replicate]at hm
  split at hm<;>simp at hm
 |j+1,p,hj,h=>by
  rw[Zcy]at h;cases hq:Zcy ns j with
  |none=>rw[hq]at h;cases h
  |some q=>
   rw[hq,Option.bind_some]at h;have L:=Zg5 ns j q (by omega) hq
   split at h
   ·cases h
   ·rename_i z
    obtain⟨d,hd⟩:∃d,ns[j]? = Ya d:=⟨_,Ym (by omega)⟩
    rw[ZbX hd]at h;obtain⟨l,i2,i3,i4⟩:=ZiW _ _ _ _ _ L.len h;have g:=ZgY _ _ _ _ _ h;refine⟨(Zgj _ _ _ _ _ h).trans L.len,fun i e r o=>?_,fun m hm=>?_,fun m w y=>?_⟩
    ·by_cases f:i=j
     ·subst f;obtain rfl:d=e:=Option.some.inj (hd.symm.trans o);exact⟨i3,fun k hk=>⟨(g k hk).1,(g k hk).2,(i2 k hk).2⟩⟩
     ·obtain⟨a,b⟩:=L.of i e (by omega) o;refine⟨a,fun k hk=>?_⟩;obtain⟨s,t,u⟩:=b k hk;obtain⟨n,rfl⟩:∃n:Nat,k=n:=⟨k.toNat,by omega⟩
      exact⟨s,t,by rw[l n (by omega)];exact u⟩
    ·by_cases f:(m:Int)∈d.kids
     ·exact⟨j,d,by omega,hd,(i2 _ f).2,f⟩
     ·rw[i4 m f]at hm⊢;obtain⟨i,v,a,b,c⟩:=L.at_ m hm;exact⟨i,v,by omega,b,c⟩
    ·by_cases f:m=j
     ·have:0<=atI q (j:Int):=by omega
      rw[f,l j this];exact this
     ·have:=L.each m w (by omega);rw[l m this];exact this
theorem ZfJ {ns:List Nd} {p:List Int} (h:Zcc ns=Ya p):Links ns ns.length p:=by
 unfold Zcc at h
 split at h
 ·cases h
 ·exact Zg5 ns _ p (Nat.le_refl _) h
def up (p:List Int):Nat->Int->Int
 |0,x=>x
 |j+1,x=>up p j (atI p x)
theorem up_add (p:List Int):∀(a b:Nat) (x:Int),up p (a+b) x=up p b (up p a x)
 |0,b,x=>by rw[Nat.zero_add];rfl
 |a+1,b,x=>by rw[show a+1+b=(a+b)+1 by omega];exact up_add p a b (atI p x)
section
variable {ns:List Nd} {p:List Int}
theorem ZfU (L:Links ns ns.length p) {i:Nat} {d:Nd} (hd:ns[i]? = Ya d) {k:Int} (hk:k∈d.kids):(i:Int)<k/\k<(ns.length:Int)/\atI p k=i:=
 (L.of i d (List.getElem?_eq_some_iff.mp hd).1 hd).2 k hk
theorem ZhF (L:Links ns ns.length p):∀(d k:Nat),k<ns.length->∀x∈Zd3 ns d (k:Int),(k:Int)<=x/\x<(ns.length:Int)/\∃j,up p j x=(k:Int)
 |0,k,hk,x,hx=>by
  rw[Zd3]at hx;obtain rfl:x=k:=by simpa using hx
  exact⟨Int.le_refl _,by omega,0,rfl⟩
 |d+1,k,hk,x,hx=>by
  rw[Zd3]at hx;rcases List.mem_cons.mp hx with e|e
  ·subst e;exact⟨Int.le_refl _,by omega,0,rfl⟩
  ·obtain⟨c,hc,hx⟩:=List.mem_flatMap.mp e;have hd:ns[k]? = Ya ns[k]:=Ym hk;rw[ZbX hd]at hc;obtain⟨g,h,b⟩:=ZfU L hd hc;obtain⟨a,rfl⟩:∃a:Nat,c=a:=⟨c.toNat,by omega⟩
   obtain⟨f,a2,j,a3⟩:=ZhF L d a (by omega) x hx;refine⟨by omega,a2,j+1,?_⟩;rw[up_add,a3];exact b
theorem Zi2 (L:Links ns ns.length p) {m:Nat} (h:0<=atI p m):atI p m<(m:Int):=by obtain⟨i,d,a,hd,e,hm⟩:=L.at_ m h;have:=ZfU L hd hm;omega
theorem Zq1 (L:Links ns ns.length p):∀(j:Nat) (x:Nat),0<=up p j x->up p j x<=(x:Int)
 |0,x,h=>Int.le_refl _
 |j+1,x,h=>by
  show up p j (atI p x)<=(x:Int)
  by_cases hx:0<=atI p x
  ·obtain⟨y,b⟩:∃y:Nat,atI p x=y:=⟨(atI p x).toNat,by omega⟩
   have c:=Zi2 L hx;have a:0<=up p j (atI p x):=h;rw[b]at a c⊢;have:=Zq1 L j y a;omega
  ·exact absurd h (by
    show ¬0<=up p j (atI p x)
    exact up_neg L j _ (by omega))
where
 up_neg (L:Links ns ns.length p):∀(j:Nat) (x:Int),x<0->¬0<=up p j x
  |0,x,h=>by show ¬0<=x;omega
  |j+1,x,h=>by
   show ¬0<=up p j (atI p x);have e:atI p x=atI p ((0:Nat):Int):=by unfold atI;rw[show x.toNat=0 by omega];rfl
   have:atI p ((0:Nat):Int)<0:=Int.not_le.mp fun q=>by
    have:=Zi2 L q;omega
   exact up_neg L j _ (by omega)
theorem Znp (L:Links ns ns.length p) {i:Nat} {d:Nd} (hd:ns[i]? = Ya d) {a b:Int} (k:a∈d.kids) (l:b∈d.kids) {x:Int} {c e:Nat} (j:up p c x=a) (f:up p e x=b):a=b:=by
 have g:∀(a b:Int) (c e:Nat),a∈d.kids->b∈d.kids->up p c x=a->up p e x=b->c<e->False:=fun a b c e k l j f n=>by
  obtain⟨m,rfl⟩:∃m,e=c+(m+1):=⟨e-c-1,by omega⟩
  obtain⟨o,_,a3⟩:=ZfU L hd k;obtain⟨q,_,r⟩:=ZfU L hd l;rw[up_add,j]at f;have f:up p m (atI p a)=b:=f;rw[a3]at f;have:=Zq1 L m i (by omega);omega
 rcases Nat.lt_trichotomy c e with h|h|h
 ·exact(g _ _ _ _ k l j f h).elim
 ·subst h;exact j.symm.trans f
 ·exact(g _ _ _ _ l k f j h).elim
theorem Zj5 (L:Links ns ns.length p):∀(d k:Nat),k<ns.length->(Zd3 ns d (k:Int)).Nodup
 |0,k,hk=>by rw[Zd3];exact List.nodup_cons.mpr ⟨by simp,List.nodup_nil⟩
 |d+1,k,hk=>by
  rw[Zd3];have hd:ns[k]? = Ya ns[k]:=Ym hk;rw[ZbX hd]
  have f:∀c∈ns[k].kids,∃g:Nat,c=g/\g<ns.length/\(k:Int)<c:=fun c hc=>by
   have:=ZfU L hd hc;exact⟨c.toNat,by omega,by omega,by omega⟩
  refine List.nodup_cons.mpr ⟨fun hx=>?_,?_⟩
  ·obtain⟨c,hc,hx⟩:=List.mem_flatMap.mp hx;obtain⟨g,rfl,h,i⟩:=f c hc;have:=(ZhF L d g h _ hx).1;omega
  ·refine List.pairwise_flatMap.mpr ⟨fun c hc=>?_,?_⟩
   ·obtain⟨g,rfl,h,i⟩:=f c hc;exact Zj5 L d g h
   ·refine List.Pairwise.imp_of_mem (R:=fun a b=>a≠b) (fun {a b} ha hb hne x hx y hy e=>hne ?_) (L.of k _ hk hd).1;obtain⟨j,rfl,h,_⟩:=f a ha;obtain⟨l,rfl,i,_⟩:=f b hb;subst e;obtain⟨_,_,o,m⟩:=ZhF L d j h x hx;obtain⟨_,_,q,n⟩:=ZhF L d l i x hy;exact Znp L hd ha hb m n
theorem ZmI (L:Links ns ns.length p) (d k:Nat) (hk:k<ns.length):(Zd3 ns d (k:Int)).length<=ns.length:=by
 have:=List.Nodup.length_le_of_subset (l₂:=(List.range ns.length).map (fun i:Nat=>(i:Int))) (Zj5 L d k hk) (fun x hx=>by
  obtain⟨a,b,_⟩:=ZhF L d k hk x hx
  exact List.mem_map.mpr ⟨x.toNat,List.mem_range.mpr (by omega),by omega⟩)
 simpa using this
end
end
section
open Go.RowKit
theorem ZjJ:∀{l:List Nat} {i a:Nat},l[i]? = Ya a->a<=l.sum
 |x::r,0,a,h=>by
  obtain rfl:x=a:=by simpa using h
  rw[List.sum_cons];omega
 |x::r,i+1,a,h=>by
  have:=ZjJ (l:=r) (by simpa using h);rw[List.sum_cons];omega
theorem ZmS:∀{l:List Nat} {i j a b:Nat},i<j->l[i]? = Ya a->l[j]? = Ya b->a+b<=l.sum
 |x::r,0,j+1,a,b,_,h,k=>by
  obtain rfl:x=a:=by simpa using h
  have:=ZjJ (l:=r) (by simpa using k);rw[List.sum_cons];omega
 |x::r,i+1,j+1,a,b,hlt,h,k=>by
  have:=ZmS (l:=r) (i:=i) (j:=j) (by omega) (by simpa using h) (by simpa using k);rw[List.sum_cons];omega
theorem ZmR:∀{l:List Nat},0<l.sum->∃i a:Nat,l[i]? = Ya a/\0<a
 |[],h=>by simp at h
 |x::r,h=>by
  rw[List.sum_cons]at h;by_cases q:0<x
  ·exact⟨0,x,rfl,q⟩
  ·obtain⟨i,a,b,c⟩:=ZmR (l:=r) (by omega);exact⟨i+1,a,by simpa using b,c⟩
def ZeR (ns:List Nd) (k:Int):Nat:=(ns.map fun d=>d.kids.count k).sum
def ZhV (ns:List Nd):Prop:=0<ns.length/\∀(i:Nat) (d:Nd),ns[i]? = Ya d->ZeR ns i=(if i=0 then 0 else 1)/\∀k∈d.kids,(i:Int)<k/\k<(ns.length:Int)
theorem Zrh {ns:List Nd} {k:Int} {i j:Nat} {d e:Nd} (a:i<j) (hd:ns[i]? = Ya d) (b:ns[j]? = Ya e):d.kids.count k+e.kids.count k<=ZeR ns k:=
 ZmS a (by rw[List.getElem?_map,hd];rfl) (by rw[List.getElem?_map,b];rfl)
theorem Zrg {ns:List Nd} {k:Int} {i:Nat} {d:Nd} (hd:ns[i]? = Ya d):d.kids.count k<=ZeR ns k:=ZjJ (i:=i) (by rw[List.getElem?_map,hd];rfl)
theorem Zrf {ns:List Nd} {k:Int} (h:0<ZeR ns k):∃(i:Nat) (d:Nd),ns[i]? = Ya d/\k∈d.kids:=by
 obtain⟨i,a,b,c⟩:=ZmR h;rw[List.getElem?_map]at b;cases hd:ns[i]? with
 |none=>rw[hd]at b;simp at b
 |some d=>
  rw[hd]at b;obtain rfl:d.kids.count k=a:=by simpa using b
  exact⟨i,d,hd,List.count_pos_iff.mp c⟩
theorem ZkW (n a:Nat):∀(x:List Int) (p:List Int),p.length=n->x.Nodup->(∀k∈x,(a:Int)<k/\k<(n:Int)/\atI p k<0)->∃q,Zb1 n a x p=Ya q
 |[],p,_,_,_=>⟨p,by rw[Zb1]⟩
 |k::r,p,hn,hd,h=>by
  obtain⟨l,o,s⟩:=h k List.mem_cons_self;obtain⟨m,rfl⟩:∃m:Nat,k=m:=⟨k.toNat,by omega⟩
  obtain⟨b,c⟩:=List.nodup_cons.mp hd;rw[Zb1,Yn (by omega),Int.toNat_natCast];refine ZkW n a r _ (by rw[List.length_set];exact hn) c (fun y d=>?_);obtain⟨g,i,j⟩:=h y (List.mem_cons_of_mem _ d);obtain⟨f,rfl⟩:∃f:Nat,y=f:=⟨y.toNat,by omega⟩
  exact⟨g,i,by rw[Zfn _ (fun e=>b (by rw[e];exact d))];exact j⟩
theorem ZmG {ns:List Nd} (h:ZhV ns):∀j,j<=ns.length->∃p,Zcy ns j=Ya p
 |0,_=>⟨_,rfl⟩
 |j+1,hj=>by
  obtain⟨p,l⟩:=ZmG h j (by omega);have L:=Zg5 ns j p (by omega) l;have hd:ns[j]? = Ya ns[j]:=Ym (by omega);obtain⟨c,r⟩:=h.2 j _ hd;rw[Zcy,l,Option.bind_some,ZbX hd]
  have n:¬(0<j/\atI p (j:Int)<0):=fun⟨a,b⟩=>by
   rw[Yn (by omega)]at c;obtain⟨i,d,f,hm⟩:=Zrf (ns:=ns) (k:=(j:Int)) (by omega);have:=(h.2 i d f).2 _ hm;have:=((L.of i d (by omega) f).2 _ hm).2.2;omega
  rw[Yn n]
  have e:∀k∈ns[j].kids,ZeR ns k<=1:=fun k hk=>by
   obtain⟨a,b⟩:=r k hk;obtain⟨m,rfl⟩:∃m:Nat,k=m:=⟨k.toNat,by omega⟩
   obtain⟨c,_⟩:=h.2 m _ (Ym (by omega));rw[c];split<;>omega
  refine ZkW _ _ _ _ L.len (List.nodup_iff_count.mpr fun k=>?_) (fun k hk=>⟨(r k hk).1,(r k hk).2,?_⟩)
  ·by_cases hk:k∈ns[j].kids
   ·exact Nat.le_trans (Zrg hd) (e k hk)
   ·rw[List.count_eq_zero_of_not_mem hk];omega
  ·refine Int.not_le.mp fun q=>?_;obtain⟨a,b⟩:=r k hk;obtain⟨m,rfl⟩:∃m:Nat,k=m:=⟨k.toNat,by omega⟩
   obtain⟨i,d,f,g,_,hm⟩:=L.at_ m q;have:=Zrh (k:=(m:Int)) f g hd;have:=e _ hk;have:=List.count_pos_iff.mpr hm;have:=List.count_pos_iff.mpr hk;omega
theorem ZrB {ns:List Nd} (h:ZhV ns) (a:ns.length<=1500):∃p,Zcc ns=Ya p:=by have:=h.1;unfold Zcc;rw[Yn (by omega)];exact ZmG h _ (Nat.le_refl _)
def Zk9 (l:List Int):Int:=l.foldl max 0
theorem Zik:∀(l:List Int) (a x:Int),x<=a->x<=l.foldl max a
 |[],a,x,h=>h
 |y::r,a,x,h=>Zik r (max a y) x (by omega)
theorem ZjQ:∀(l:List Int) (a x:Int),x∈l->x<=l.foldl max a
 |y::r,a,x,h=>by
  rcases List.mem_cons.mp h with rfl|h
  ·exact Zik r _ _ (by omega)
  ·exact ZjQ r _ _ h
theorem Zil:∀(l:List Int) (a b:Int),a<=b->(∀x∈l,x<=b)->l.foldl max a<=b
 |[],a,b,h,_=>h
 |y::r,a,b,h,k=>Zil r (max a y) b (by have:=k y List.mem_cons_self;omega) (fun x hx=>k x (List.mem_cons_of_mem _ hx))
def htF (ns:List Nd):Nat->Int->Int
 |0,_=>1
 |d+1,k=>Zk9 ((Za ns k).kids.map (htF ns d))+1
theorem Zmx (ns:List Nd):∀d k,1<=htF ns d k
 |0,_=>Int.le_refl _
 |d+1,k=>by
  rw[htF];have:=Zik ((Za ns k).kids.map (htF ns d)) 0 0 (Int.le_refl _);unfold Zk9;omega
theorem Zrs {ns:List Nd} {i:Nat} {d:Nd} (hd:ns[i]? = Ya d) {k:Int} (hk:k∈d.kids) (f:Nat):htF ns f k+1<=htF ns (f+1) i:=by rw[htF,ZbX hd];have:=ZjQ (d.kids.map (htF ns f)) 0 _ (List.mem_map.mpr ⟨k,hk,rfl⟩);unfold Zk9;omega
section
variable {ns:List Nd} {p:List Int}
theorem Zfe (p:List Int):∀(j:Nat) (k:Nat),k<j->(Zc0 p j)[k]? = (Zc0 p (k+1))[k]?
 |j+1,k,h=>by
  by_cases e:k=j
  ·subst e;rfl
  ·rw[Zc0,List.getElem?_append_left (by rw[Zb3];omega)];exact Zfe p j k (by omega)
theorem Zrj {k:Nat} (hk:k<p.length):atI (Zb4 p) k=if 0<=atI p k then 1+atI (Zc0 p k) (atI p k)else 1:=by rw[ZcW];unfold Zb4;rw[Zfe p _ k hk,Zc0,List.getElem?_append_right (by rw[Zb3];omega),Zb3,Nat.sub_self];rfl
theorem ZpW {j k:Nat} (a:j<=p.length) (hk:k<j):atI (Zc0 p j) (k:Int)=atI (Zb4 p) k:=by rw[ZcW,ZcW];unfold Zb4;rw[Zfe p _ k hk,Zfe p p.length k (by omega)]
theorem Zr5 (L:Links ns ns.length p):∀(x:Nat),x<ns.length->1<=atI (Zb4 p) x/\atI (Zb4 p) x<=(x:Int)+1/\∃f:Nat,(f:Int)+atI (Zb4 p) x=(ns.length:Int)+1/\atI (Zb4 p) x+htF ns f x<=1+htF ns ns.length 0:=by
 intro x
 induction x using Nat.strongRecOn with
 |ind x c=>
  intro hx;rw[Zrj (by rw[L.len];exact hx)];by_cases a:0<=atI p x
  ·rw[Yo a];obtain⟨i,d,b,hd,e,hm⟩:=L.at_ x a;have h:=Zi2 L a;rw[e]at h⊢;obtain⟨j,a2,f,a3,a4⟩:=c i (by omega) b;rw[ZpW (by rw[L.len];omega) (by omega)];obtain⟨g,rfl⟩:∃g,f=g+1:=⟨f-1,by omega⟩
   have:=Zrs hd hm g;exact⟨by omega,by omega,g,by omega,by omega⟩
  ·rw[Yn a];have:x=0:=Classical.byContradiction fun q=>a (L.each x (by omega) hx);subst this;exact⟨Int.le_refl _,by omega,ns.length,by omega,Int.le_refl _⟩
theorem Zr6 (L:Links ns ns.length p):Zgb (Zb4 p)<=htF ns ns.length 0:=by
 have b:∀y∈Zb4 p,y<=htF ns ns.length 0:=fun y d=>by
  obtain⟨k,hk⟩:=List.mem_iff_getElem?.mp d;have c:k<ns.length:=by have:=(List.getElem?_eq_some_iff.mp hk).1;unfold Zb4 at this;rw[Zb3,L.len]at this;exact this
  have e:atI (Zb4 p) k=y:=Zeg hk;obtain⟨_,_,f,_,h⟩:=Zr5 L k c;have:=Zmx ns f k;omega
 cases h:Zb4 p with
 |nil=>exact Int.le_trans (by decide) (Zmx ns ns.length 0)
 |cons a r=>
  rw[h]at b;exact Zil r a _ (b a List.mem_cons_self) (fun x hx=>b x (List.mem_cons_of_mem _ hx))
end
theorem Zqy {ns:List Nd} (h:ZhV ns) (c:ns.length<=1500) (b:ZJ ns 0=0) (hd:htF ns ns.length 0<=24) (hv:∀d∈ns,Zc3 ns d=true):Zcu ns=true:=by obtain⟨p,a⟩:=ZrB h c;unfold Zcu;rw[a];dsimp only;have:=Zr6 (ZfJ a);rw[b,decide_eq_true (by omega),List.all_eq_true.mpr hv];rfl
end
end Go.Proofs.YtfbepcelkijgkaaGreatDoor
