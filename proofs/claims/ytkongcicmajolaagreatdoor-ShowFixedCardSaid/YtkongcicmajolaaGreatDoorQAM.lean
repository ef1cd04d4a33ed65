import Derived.Test.YtkongcicmajolaaGreatDoorQAL
set_option maxRecDepth 100000
set_option maxHeartbeats 8000000
namespace Go.Proofs.YtkongcicmajolaaGreatDoor
section
open Go.RowKit
theorem ZcY (p:List Int) (m:Nat):atI p (m:Int)=(p[m]?).getD (-1):=by unfold atI;rw [Int.toNat_natCast]
theorem Zfp {p:List Int} {j m:Nat} (a:Int) (h:j≠m):atI (p.set j a) (m:Int)=atI p m:=by
 rw [ZcY,ZcY,List.getElem?_set_ne h]
theorem Zoe {p:List Int} {m:Nat} (a:Int) (h:m<p.length):atI (p.set m a) (m:Int)=a:=by
 rw [ZcY,List.getElem?_set_self h];rfl
theorem ZiW (n a:Nat):∀ (x:List Int) (p q:List Int),p.length=n->Zb6 n a x p=some q ->
  (∀ m:Nat,0<=atI p m->atI q m=atI p m)/\(∀ k∈x,atI p k<0/\atI q k=a)/\x.Nodup/\(∀ m:Nat,(m:Int) ∉ x->atI q m=atI p m)
 | [],p,q,hn,h=>by
  rw [Zb6] at h
  injection h with h
  subst h
  exact ⟨fun _ _=>rfl,(fun k hk=>absurd hk List.not_mem_nil),List.nodup_nil,fun _ _=>rfl⟩
 | k::r,p,q,hn,h=>by
  rw [Zb6] at h
  split at h
  ·cases h
  ·rename_i hb
   obtain ⟨m,rfl⟩:∃ m:Nat,k=m:=⟨k.toNat,by omega⟩
   rw [Int.toNat_natCast] at h
   have hm:m<p.length:=by omega
   obtain ⟨i1,i2,i3,i4⟩:=ZiW n a r (p.set m a) q (by rw [List.length_set];exact hn) h
   have ea:atI (p.set m a) (m:Int)=a:=Zoe _ hm
   have eq:atI q (m:Int)=a:=by rw [i1 m (by rw [ea];omega),ea]
   have nr:(m:Int) ∉ r:=fun hr=>by have:=(i2 _ hr).1;rw [ea] at this;omega
   have hin:=Zg0 n a _ _ _ h
   refine ⟨fun j hj=>?_,fun y hy=>?_,List.nodup_cons.mpr ⟨nr,i3⟩,fun j hj=>?_⟩
   ·have ne:m≠j:=fun e=>by subst e;omega
    rw [i1 j (by rw [Zfp _ ne];exact hj),Zfp _ ne]
   ·rcases List.mem_cons.mp hy with e | e
    ·subst e
     exact ⟨by omega,eq⟩
    ·obtain ⟨y',rfl⟩:∃ y':Nat,y=y':=⟨y.toNat,by have:=hin y e;omega⟩
     have:=i2 _ e
     refine ⟨?_,this.2⟩
     have ne:m≠y':=fun e'=>nr (by rw [e'];exact e)
     rw [Zfp _ ne] at this
     exact this.1
   ·have ne:m≠j:=fun e=>hj (by rw [e];exact List.mem_cons_self)
    rw [i4 j (fun e=>hj (List.mem_cons_of_mem _ e)),Zfp _ ne]
structure Links (ns:List Nd) (j:Nat) (p:List Int):Prop where
 len:p.length=ns.length
 of:∀ (i:Nat) (d:Nd),i<j->ns[i]? = some d->d.kids.Nodup/\∀ k∈d.kids,(i:Int)<k/\k<(ns.length:Int)/\atI p k=i
 at_:∀ m:Nat,0<=atI p m->∃ (i:Nat) (d:Nd),i<j/\ns[i]? = some d/\atI p m=i/\(m:Int)∈d.kids
 each:∀ m:Nat,0<m->m<j->0<=atI p m
theorem Zg7 (ns:List Nd):∀ (j:Nat) (p:List Int),j<=ns.length->ZcA ns j=some p->Links ns j p
 | 0,p,hj,h=>by
  rw [ZcA] at h
  injection h with h
  subst h
  refine ⟨List.length_replicate,fun i d hi=>absurd hi (Nat.not_lt_zero _),fun m hm=>?_,fun m _ h=>absurd h (Nat.not_lt_zero _)⟩
  rw [ZcY,List.getElem?_replicate] at hm
  split at hm<;>simp at hm
 | j+1,p,hj,h=>by
  rw [ZcA] at h
  cases hq:ZcA ns j with
  | none=>rw [hq] at h;cases h
  | some q=>
   rw [hq,Option.bind_some] at h
   have L:=Zg7 ns j q (by omega) hq
   split at h
   ·cases h
   ·rename_i hz
    obtain ⟨d,hd⟩:∃ d,ns[j]? = some d:=⟨_,List.getElem?_eq_getElem (by omega)⟩
    rw [Zb2 hd] at h
    obtain ⟨i1,i2,i3,i4⟩:=ZiW _ _ _ _ _ L.len h
    have hin:=Zg0 _ _ _ _ _ h
    refine ⟨(Zgl _ _ _ _ _ h).trans L.len,fun i e hi he=>?_,fun m hm=>?_,fun m h0 h1=>?_⟩
    ·by_cases e':i=j
     ·subst e'
      obtain rfl:d=e:=Option.some.inj (hd.symm.trans he)
      exact ⟨i3,fun k hk=>⟨(hin k hk).1,(hin k hk).2,(i2 k hk).2⟩⟩
     ·obtain ⟨a,b⟩:=L.of i e (by omega) he
      refine ⟨a,fun k hk=>?_⟩
      obtain ⟨b1,b2,b3⟩:=b k hk
      obtain ⟨k',rfl⟩:∃ k':Nat,k=k':=⟨k.toNat,by omega⟩
      exact ⟨b1,b2,by rw [i1 k' (by omega)];exact b3⟩
    ·by_cases e':(m:Int)∈d.kids
     ·exact ⟨j,d,by omega,hd,(i2 _ e').2,e'⟩
     ·rw [i4 m e'] at hm ⊢
      obtain ⟨i,d',a,b,c⟩:=L.at_ m hm
      exact ⟨i,d',by omega,b,c⟩
    ·by_cases e':m=j
     ·have:0<=atI q (j:Int):=by omega
      rw [e',i1 j this]
      exact this
     ·have:=L.each m h0 (by omega)
      rw [i1 m this]
      exact this
theorem ZfL {ns:List Nd} {p:List Int} (h:Zcg ns=some p):Links ns ns.length p:=by
 unfold Zcg at h
 split at h
 ·cases h
 ·exact Zg7 ns _ p (Nat.le_refl _) h
def up (p:List Int):Nat->Int->Int
 | 0,x=>x
 | j+1,x=>up p j (atI p x)
theorem up_add (p:List Int):∀ (a b:Nat) (x:Int),up p (a+b) x=up p b (up p a x)
 | 0,b,x=>by rw [Nat.zero_add];rfl
 | a+1,b,x=>by rw [show a+1+b=(a+b)+1 by omega];exact up_add p a b (atI p x)
section
variable {ns:List Nd} {p:List Int}
theorem ZfW (L:Links ns ns.length p) {i:Nat} {d:Nd} (hd:ns[i]? = some d) {k:Int} (hk:k∈d.kids):(i:Int)<k/\k<(ns.length:Int)/\atI p k=i:=
 (L.of i d (List.getElem?_eq_some_iff.mp hd).1 hd).2 k hk
theorem ZhH (L:Links ns ns.length p):∀ (d k:Nat),k<ns.length->∀ x∈Zd4 ns d (k:Int),(k:Int)<=x/\x<(ns.length:Int)/\∃ j,up p j x=(k:Int)
 | 0,k,hk,x,hx=>by
  rw [Zd4] at hx
  obtain rfl:x=k:=by simpa using hx
  exact ⟨Int.le_refl _,by omega,0,rfl⟩
 | d+1,k,hk,x,hx=>by
  rw [Zd4] at hx
  rcases List.mem_cons.mp hx with e | e
  ·subst e
   exact ⟨Int.le_refl _,by omega,0,rfl⟩
  ·obtain ⟨c,hc,hx⟩:=List.mem_flatMap.mp e
   have hd:ns[k]? = some ns[k]:=List.getElem?_eq_getElem hk
   rw [Zb2 hd] at hc
   obtain ⟨b1,b2,b3⟩:=ZfW L hd hc
   obtain ⟨c',rfl⟩:∃ c':Nat,c=c':=⟨c.toNat,by omega⟩
   obtain ⟨a1,a2,j,a3⟩:=ZhH L d c' (by omega) x hx
   refine ⟨by omega,a2,j+1,?_⟩
   rw [up_add,a3]
   exact b3
theorem Zi2 (L:Links ns ns.length p) {m:Nat} (h:0<=atI p m):atI p m<(m:Int):=by
 obtain ⟨i,d,hi,hd,e,hm⟩:=L.at_ m h
 have:=ZfW L hd hm
 omega
theorem Zq4 (L:Links ns ns.length p):∀ (j:Nat) (x:Nat),0<=up p j x->up p j x<=(x:Int)
 | 0,x,h=>Int.le_refl _
 | j+1,x,h=>by
  show up p j (atI p x)<=(x:Int)
  by_cases hx:0<=atI p x
  ·obtain ⟨y,hy⟩:∃ y:Nat,atI p x=y:=⟨(atI p x).toNat,by omega⟩
   have l1:=Zi2 L hx
   have h':0<=up p j (atI p x):=h
   rw [hy] at h' l1 ⊢
   have:=Zq4 L j y h'
   omega
  ·exact absurd h (by
    show ¬ 0<=up p j (atI p x)
    exact up_neg L j _ (by omega))
where
 up_neg (L:Links ns ns.length p):∀ (j:Nat) (x:Int),x<0->¬ 0<=up p j x
  | 0,x,h=>by show ¬ 0<=x;omega
  | j+1,x,h=>by
   show ¬ 0<=up p j (atI p x)
   have e:atI p x=atI p ((0:Nat):Int):=by unfold atI;rw [show x.toNat=0 by omega];rfl
   have:atI p ((0:Nat):Int)<0:=Int.not_le.mp fun q=>by
    have:=Zi2 L q
    omega
   exact up_neg L j _ (by omega)
theorem Znp (L:Links ns ns.length p) {i:Nat} {d:Nd} (hd:ns[i]? = some d) {c1 c2:Int} (h1:c1∈d.kids) (h2:c2∈d.kids) {x:Int} {j1 j2:Nat} (u1:up p j1 x=c1) (u2:up p j2 x=c2):c1=c2:=by
 have one:∀ (c1 c2:Int) (j1 j2:Nat),c1∈d.kids->c2∈d.kids->up p j1 x=c1->up p j2 x=c2->j1<j2->False:=fun c1 c2 j1 j2 h1 h2 u1 u2 hlt=>by
  obtain ⟨m,rfl⟩:∃ m,j2=j1+(m+1):=⟨j2-j1-1,by omega⟩
  obtain ⟨a1,_,a3⟩:=ZfW L hd h1
  obtain ⟨b1,_,b3⟩:=ZfW L hd h2
  rw [up_add,u1] at u2
  have u2:up p m (atI p c1)=c2:=u2
  rw [a3] at u2
  have:=Zq4 L m i (by omega)
  omega
 rcases Nat.lt_trichotomy j1 j2 with h | h | h
 ·exact (one _ _ _ _ h1 h2 u1 u2 h).elim
 ·subst h
  exact u1.symm.trans u2
 ·exact (one _ _ _ _ h2 h1 u2 u1 h).elim
theorem Zj5 (L:Links ns ns.length p):∀ (d k:Nat),k<ns.length->(Zd4 ns d (k:Int)).Nodup
 | 0,k,hk=>by rw [Zd4];exact List.nodup_cons.mpr ⟨by simp,List.nodup_nil⟩
 | d+1,k,hk=>by
  rw [Zd4]
  have hd:ns[k]? = some ns[k]:=List.getElem?_eq_getElem hk
  rw [Zb2 hd]
  have nat:∀ c∈ns[k].kids,∃ c':Nat,c=c'/\c'<ns.length/\(k:Int)<c:=fun c hc=>by
   have:=ZfW L hd hc
   exact ⟨c.toNat,by omega,by omega,by omega⟩
  refine List.nodup_cons.mpr ⟨fun hx=>?_,?_⟩
  ·obtain ⟨c,hc,hx⟩:=List.mem_flatMap.mp hx
   obtain ⟨c',rfl,h1,h2⟩:=nat c hc
   have:=(ZhH L d c' h1 _ hx).1
   omega
  ·refine List.pairwise_flatMap.mpr ⟨fun c hc=>?_,?_⟩
   ·obtain ⟨c',rfl,h1,h2⟩:=nat c hc
    exact Zj5 L d c' h1
   ·refine List.Pairwise.imp_of_mem (R:=fun a b=>a≠b) (fun {a b} ha hb hne x hx y hy e=>hne ?_) (L.of k _ hk hd).1
    obtain ⟨a',rfl,h1,_⟩:=nat a ha
    obtain ⟨b',rfl,h2,_⟩:=nat b hb
    subst e
    obtain ⟨_,_,j1,u1⟩:=ZhH L d a' h1 x hx
    obtain ⟨_,_,j2,u2⟩:=ZhH L d b' h2 x hy
    exact Znp L hd ha hb u1 u2
theorem ZmI (L:Links ns ns.length p) (d k:Nat) (hk:k<ns.length):(Zd4 ns d (k:Int)).length<=ns.length:=by
 have:=List.Nodup.length_le_of_subset (l₂:=(List.range ns.length).map (fun i:Nat=>(i:Int))) (Zj5 L d k hk) (fun x hx=>by
  obtain ⟨a,b,_⟩:=ZhH L d k hk x hx
  exact List.mem_map.mpr ⟨x.toNat,List.mem_range.mpr (by omega),by omega⟩)
 simpa using this
end
end
section
open Go.RowKit
theorem ZjJ:∀ {l:List Nat} {i a:Nat},l[i]? = some a->a<=l.sum
 | x::r,0,a,h=>by
  obtain rfl:x=a:=by simpa using h
  rw [List.sum_cons];omega
 | x::r,i+1,a,h=>by
  have:=ZjJ (l:=r) (by simpa using h)
  rw [List.sum_cons];omega
theorem ZmS:∀ {l:List Nat} {i j a b:Nat},i<j->l[i]? = some a->l[j]? = some b->a+b<=l.sum
 | x::r,0,j+1,a,b,_,h,k=>by
  obtain rfl:x=a:=by simpa using h
  have:=ZjJ (l:=r) (by simpa using k)
  rw [List.sum_cons];omega
 | x::r,i+1,j+1,a,b,hlt,h,k=>by
  have:=ZmS (l:=r) (i:=i) (j:=j) (by omega) (by simpa using h) (by simpa using k)
  rw [List.sum_cons];omega
theorem ZmR:∀ {l:List Nat},0<l.sum->∃ i a:Nat,l[i]? = some a/\0<a
 | [],h=>by simp at h
 | x::r,h=>by
  rw [List.sum_cons] at h
  by_cases q:0<x
  ·exact ⟨0,x,rfl,q⟩
  ·obtain ⟨i,a,h1,h2⟩:=ZmR (l:=r) (by omega)
   exact ⟨i+1,a,by simpa using h1,h2⟩
def ZeU (ns:List Nd) (k:Int):Nat:=(ns.map fun d=>d.kids.count k).sum
def ZhV (ns:List Nd):Prop:=0<ns.length/\∀ (i:Nat) (d:Nd),ns[i]? = some d->ZeU ns i=(if i=0 then 0 else 1)/\∀ k∈d.kids,(i:Int)<k/\k<(ns.length:Int)
theorem Zrk {ns:List Nd} {k:Int} {i j:Nat} {d e:Nd} (hlt:i<j) (hd:ns[i]? = some d) (he:ns[j]? = some e):d.kids.count k+e.kids.count k<=ZeU ns k:=
 ZmS hlt (by rw [List.getElem?_map,hd];rfl) (by rw [List.getElem?_map,he];rfl)
theorem Zrj {ns:List Nd} {k:Int} {i:Nat} {d:Nd} (hd:ns[i]? = some d):d.kids.count k<=ZeU ns k:=ZjJ (i:=i) (by rw [List.getElem?_map,hd];rfl)
theorem Zri {ns:List Nd} {k:Int} (h:0<ZeU ns k):∃ (i:Nat) (d:Nd),ns[i]? = some d/\k∈d.kids:=by
 obtain ⟨i,a,h1,h2⟩:=ZmR h
 rw [List.getElem?_map] at h1
 cases hd:ns[i]? with
 | none=>rw [hd] at h1;simp at h1
 | some d=>
  rw [hd] at h1
  obtain rfl:d.kids.count k=a:=by simpa using h1
  exact ⟨i,d,hd,List.count_pos_iff.mp h2⟩
theorem ZkW (n a:Nat):∀ (x:List Int) (p:List Int),p.length=n->x.Nodup->(∀ k∈x,(a:Int)<k/\k<(n:Int)/\atI p k<0)->∃ q,Zb6 n a x p=some q
 | [],p,_,_,_=>⟨p,by rw [Zb6]⟩
 | k::r,p,hn,hd,h=>by
  obtain ⟨h1,h2,h3⟩:=h k List.mem_cons_self
  obtain ⟨m,rfl⟩:∃ m:Nat,k=m:=⟨k.toNat,by omega⟩
  obtain ⟨hd1,hd2⟩:=List.nodup_cons.mp hd
  rw [Zb6,if_neg (by omega),Int.toNat_natCast]
  refine ZkW n a r _ (by rw [List.length_set];exact hn) hd2 (fun y hy=>?_)
  obtain ⟨b1,b2,b3⟩:=h y (List.mem_cons_of_mem _ hy)
  obtain ⟨y',rfl⟩:∃ y':Nat,y=y':=⟨y.toNat,by omega⟩
  exact ⟨b1,b2,by rw [Zfp _ (fun e=>hd1 (by rw [e];exact hy))];exact b3⟩
theorem ZmG {ns:List Nd} (h:ZhV ns):∀ j,j<=ns.length->∃ p,ZcA ns j=some p
 | 0,_=>⟨_,rfl⟩
 | j+1,hj=>by
  obtain ⟨p,hp⟩:=ZmG h j (by omega)
  have L:=Zg7 ns j p (by omega) hp
  have hd:ns[j]? = some ns[j]:=List.getElem?_eq_getElem (by omega)
  obtain ⟨c,r⟩:=h.2 j _ hd
  rw [ZcA,hp,Option.bind_some,Zb2 hd]
  have ne:¬ (0<j/\atI p (j:Int)<0):=fun ⟨a,b⟩=>by
   rw [if_neg (by omega)] at c
   obtain ⟨i,d,hi,hm⟩:=Zri (ns:=ns) (k:=(j:Int)) (by omega)
   have:=(h.2 i d hi).2 _ hm
   have:=((L.of i d (by omega) hi).2 _ hm).2.2
   omega
  rw [if_neg ne]
  have one:∀ k∈ns[j].kids,ZeU ns k<=1:=fun k hk=>by
   obtain ⟨a,b⟩:=r k hk
   obtain ⟨m,rfl⟩:∃ m:Nat,k=m:=⟨k.toNat,by omega⟩
   obtain ⟨c,_⟩:=h.2 m _ (List.getElem?_eq_getElem (by omega))
   rw [c];split<;>omega
  refine ZkW _ _ _ _ L.len (List.nodup_iff_count.mpr fun k=>?_) (fun k hk=>⟨(r k hk).1,(r k hk).2,?_⟩)
  ·by_cases hk:k∈ns[j].kids
   ·exact Nat.le_trans (Zrj hd) (one k hk)
   ·rw [List.count_eq_zero_of_not_mem hk];omega
  ·refine Int.not_le.mp fun q=>?_
   obtain ⟨a,b⟩:=r k hk
   obtain ⟨m,rfl⟩:∃ m:Nat,k=m:=⟨k.toNat,by omega⟩
   obtain ⟨i,d,hi,hdi,_,hm⟩:=L.at_ m q
   have:=Zrk (k:=(m:Int)) hi hdi hd
   have:=one _ hk
   have:=List.count_pos_iff.mpr hm
   have:=List.count_pos_iff.mpr hk
   omega
theorem ZrE {ns:List Nd} (h:ZhV ns) (hl:ns.length<=1500):∃ p,Zcg ns=some p:=by
 have:=h.1
 unfold Zcg
 rw [if_neg (by omega)]
 exact ZmG h _ (Nat.le_refl _)
def Zk9 (l:List Int):Int:=l.foldl max 0
theorem Zik:∀ (l:List Int) (a x:Int),x<=a->x<=l.foldl max a
 | [],a,x,h=>h
 | y::r,a,x,h=>Zik r (max a y) x (by omega)
theorem ZjQ:∀ (l:List Int) (a x:Int),x∈l->x<=l.foldl max a
 | y::r,a,x,h=>by
  rcases List.mem_cons.mp h with rfl | h
  ·exact Zik r _ _ (by omega)
  ·exact ZjQ r _ _ h
theorem Zil:∀ (l:List Int) (a b:Int),a<=b->(∀ x∈l,x<=b)->l.foldl max a<=b
 | [],a,b,h,_=>h
 | y::r,a,b,h,k=>Zil r (max a y) b (by have:=k y List.mem_cons_self;omega) (fun x hx=>k x (List.mem_cons_of_mem _ hx))
def htF (ns:List Nd):Nat->Int->Int
 | 0,_=>1
 | d+1,k=>Zk9 ((Za ns k).kids.map (htF ns d))+1
theorem Zmx (ns:List Nd):∀ d k,1<=htF ns d k
 | 0,_=>Int.le_refl _
 | d+1,k=>by
  rw [htF]
  have:=Zik ((Za ns k).kids.map (htF ns d)) 0 0 (Int.le_refl _)
  unfold Zk9
  omega
theorem Zrv {ns:List Nd} {i:Nat} {d:Nd} (hd:ns[i]? = some d) {k:Int} (hk:k∈d.kids) (f:Nat):htF ns f k+1<=htF ns (f+1) i:=by
 rw [htF,Zb2 hd]
 have:=ZjQ (d.kids.map (htF ns f)) 0 _ (List.mem_map.mpr ⟨k,hk,rfl⟩)
 unfold Zk9
 omega
section
variable {ns:List Nd} {p:List Int}
theorem Zfg (p:List Int):∀ (j:Nat) (k:Nat),k<j->(Zc2 p j)[k]? = (Zc2 p (k+1))[k]?
 | j+1,k,h=>by
  by_cases e:k=j
  ·subst e;rfl
  ·rw [Zc2,List.getElem?_append_left (by rw [Zb7];omega)]
   exact Zfg p j k (by omega)
theorem Zrm {k:Nat} (hk:k<p.length):atI (Zb8 p) k=if 0<=atI p k then 1+atI (Zc2 p k) (atI p k) else 1:=by
 rw [ZcY]
 unfold Zb8
 rw [Zfg p _ k hk,Zc2,List.getElem?_append_right (by rw [Zb7];omega),Zb7,Nat.sub_self]
 rfl
theorem ZpZ {j k:Nat} (hj:j<=p.length) (hk:k<j):atI (Zc2 p j) (k:Int)=atI (Zb8 p) k:=by
 rw [ZcY,ZcY]
 unfold Zb8
 rw [Zfg p _ k hk,Zfg p p.length k (by omega)]
theorem Zr8 (L:Links ns ns.length p):∀ (x:Nat),x<ns.length->1<=atI (Zb8 p) x/\atI (Zb8 p) x<=(x:Int)+1/\∃ f:Nat,(f:Int)+atI (Zb8 p) x=(ns.length:Int)+1/\atI (Zb8 p) x+htF ns f x<=1+htF ns ns.length 0:=by
 intro x
 induction x using Nat.strongRecOn with
 | ind x ih=>
  intro hx
  rw [Zrm (by rw [L.len];exact hx)]
  by_cases hp:0<=atI p x
  ·rw [if_pos hp]
   obtain ⟨i,d,hi,hd,e,hm⟩:=L.at_ x hp
   have lt:=Zi2 L hp
   rw [e] at lt ⊢
   obtain ⟨a1,a2,f,a3,a4⟩:=ih i (by omega) hi
   rw [ZpZ (by rw [L.len];omega) (by omega)]
   obtain ⟨g,rfl⟩:∃ g,f=g+1:=⟨f-1,by omega⟩
   have:=Zrv hd hm g
   exact ⟨by omega,by omega,g,by omega,by omega⟩
  ·rw [if_neg hp]
   have:x=0:=Classical.byContradiction fun q=>hp (L.each x (by omega) hx)
   subst this
   exact ⟨Int.le_refl _,by omega,ns.length,by omega,Int.le_refl _⟩
theorem Zr9 (L:Links ns ns.length p):Zgd (Zb8 p)<=htF ns ns.length 0:=by
 have all:∀ y∈Zb8 p,y<=htF ns ns.length 0:=fun y hy=>by
  obtain ⟨k,hk⟩:=List.mem_iff_getElem?.mp hy
  have hlt:k<ns.length:=by
   have:=(List.getElem?_eq_some_iff.mp hk).1
   unfold Zb8 at this
   rw [Zb7,L.len] at this
   exact this
  have e:atI (Zb8 p) k=y:=Zei hk
  obtain ⟨_,_,f,_,h⟩:=Zr8 L k hlt
  have:=Zmx ns f k
  omega
 cases h:Zb8 p with
 | nil=>exact Int.le_trans (by decide) (Zmx ns ns.length 0)
 | cons a r=>
  rw [h] at all
  exact Zil r a _ (all a List.mem_cons_self) (fun x hx=>all x (List.mem_cons_of_mem _ hx))
end
theorem ZqB {ns:List Nd} (h:ZhV ns) (hl:ns.length<=1500) (h0:ZJ ns 0=0) (hd:htF ns ns.length 0<=24) (hv:∀ d∈ns,Zc5 ns d=true):Zcw ns=true:=by
 obtain ⟨p,hp⟩:=ZrE h hl
 unfold Zcw
 rw [hp]
 dsimp only
 have:=Zr9 (ZfL hp)
 rw [h0,decide_eq_true (by omega),List.all_eq_true.mpr hv]
 rfl
end
end Go.Proofs.YtkongcicmajolaaGreatDoor
