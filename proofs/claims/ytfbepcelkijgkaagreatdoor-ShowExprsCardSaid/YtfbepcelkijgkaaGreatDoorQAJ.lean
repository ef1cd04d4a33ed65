import Derived.Test.YtfbepcelkijgkaaGreatDoorQAI
set_option maxRecDepth 100000
set_option maxHeartbeats 8000000
namespace Go.Proofs.YtfbepcelkijgkaaGreatDoor
section
open Go.RowKit
theorem ZdD (p:List Int) (m:Nat):atI p (m:Int)=(p[m]?).getD (-1):=by unfold atI;rw[Int.toNat_natCast]
theorem Ze2 {p:List Int} {j m:Nat} (a:Int) (h:j≠m):atI (p.set j a) (m:Int)=atI p m:=by rw[ZdD,ZdD,List.getElem?_set_ne h]
theorem Zn8 {p:List Int} {m:Nat} (a:Int) (h:m<p.length):atI (p.set m a) (m:Int)=a:=by rw[ZdD,List.getElem?_set_self h];rfl
theorem Ziz (n a:Nat):∀(x:List Int) (p q:List Int),p.length=n->ZbO n a x p=some q ->
  (∀m:Nat,0<=atI p m->atI q m=atI p m)/\(∀k∈x,atI p k<0/\atI q k=a)/\x.Nodup/\(∀m:Nat,(m:Int) ∉ x->atI q m=atI p m)
 |[],p,q,hn,h=>by
  rw[ZbO]at h;injection h with h;subst h;exact⟨fun _ _=>rfl,(fun k hk=>absurd hk List.not_mem_nil),List.nodup_nil,fun _ _=>rfl⟩
 |k::r,p,q,hn,h=>by
  rw[ZbO]at h
  split at h
  ·cases h
  ·rename_i u
   obtain⟨m,rfl⟩:∃m:Nat,k=m:=⟨k.toNat,by omega⟩
   rw[Int.toNat_natCast]at h;have hm:m<p.length:=by omega
   obtain⟨g,i2,i3,i4⟩:=Ziz n a r (p.set m a) q (by rw[List.length_set];exact hn) h;have ea:atI (p.set m a) (m:Int)=a:=Zn8 _ hm;have o:atI q (m:Int)=a:=by rw[g m (by rw[ea];omega),ea]
   have i:(m:Int) ∉ r:=fun s=>by have:=(i2 _ s).1;rw[ea]at this;omega
   have d:=ZgE n a _ _ _ h;refine⟨fun j c=>?_,fun y t=>?_,List.nodup_cons.mpr ⟨i,i3⟩,fun j c=>?_⟩
   ·have b:m≠j:=fun e=>by subst e;omega
    rw[g j (by rw[Ze2 _ b];exact c),Ze2 _ b]
   ·rcases List.mem_cons.mp t with e|e
    ·subst e;exact⟨by omega,o⟩
    ·obtain⟨f,rfl⟩:∃f:Nat,y=f:=⟨y.toNat,by have:=d y e;omega⟩
     have:=i2 _ e;refine⟨?_,this.2⟩;have b:m≠f:=fun l=>i (by rw[l];exact e);rw[Ze2 _ b]at this;exact this.1
   ·have b:m≠j:=fun e=>c (by rw[e];exact List.mem_cons_self);rw[i4 j (fun e=>c (List.mem_cons_of_mem _ e)),Ze2 _ b]
structure Links (ns:List Nd) (j:Nat) (p:List Int):Prop where
 len:p.length=ns.length
 of:∀(i:Nat) (d:Nd),i<j->ns[i]? = some d->d.kids.Nodup/\∀k∈d.kids,(i:Int)<k/\k<(ns.length:Int)/\atI p k=i
 at_:∀m:Nat,0<=atI p m->∃(i:Nat) (d:Nd),i<j/\ns[i]? = some d/\atI p m=i/\(m:Int)∈d.kids
 each:∀m:Nat,0<m->m<j->0<=atI p m
theorem ZgL (ns:List Nd):∀(j:Nat) (p:List Int),j<=ns.length->Zcd ns j=some p->Links ns j p
 |0,p,hj,h=>by
  rw[Zcd]at h;injection h with h;subst h;refine⟨List.length_replicate,fun i d r=>absurd r (Nat.not_lt_zero _),fun m hm=>?_,fun m _ h=>absurd h (Nat.not_lt_zero _)⟩;rw[ZdD,List.getElem?_replicate]at hm
  split at hm<;>simp at hm
 |j+1,p,hj,h=>by
  rw[Zcd]at h;cases hq:Zcd ns j with
  |none=>rw[hq]at h;cases h
  |some q=>
   rw[hq,Option.bind_some]at h;have L:=ZgL ns j q (by omega) hq
   split at h
   ·cases h
   ·rename_i z
    obtain⟨d,hd⟩:∃d,ns[j]? = some d:=⟨_,Ym (by omega)⟩
    rw[Zcm hd]at h;obtain⟨l,i2,i3,i4⟩:=Ziz _ _ _ _ _ L.len h;have g:=ZgE _ _ _ _ _ h;refine⟨(Zf0 _ _ _ _ _ h).trans L.len,fun i e r o=>?_,fun m hm=>?_,fun m w y=>?_⟩
    ·by_cases f:i=j
     ·subst f;obtain rfl:d=e:=Option.some.inj (hd.symm.trans o);exact⟨i3,fun k hk=>⟨(g k hk).1,(g k hk).2,(i2 k hk).2⟩⟩
     ·obtain⟨a,b⟩:=L.of i e (by omega) o;refine⟨a,fun k hk=>?_⟩;obtain⟨s,t,u⟩:=b k hk;obtain⟨n,rfl⟩:∃n:Nat,k=n:=⟨k.toNat,by omega⟩
      exact⟨s,t,by rw[l n (by omega)];exact u⟩
    ·by_cases f:(m:Int)∈d.kids
     ·exact⟨j,d,by omega,hd,(i2 _ f).2,f⟩
     ·rw[i4 m f]at hm⊢;obtain⟨i,v,a,b,c⟩:=L.at_ m hm;exact⟨i,v,by omega,b,c⟩
    ·by_cases f:m=j
     ·have:0<=atI q (j:Int):=by omega
      rw[f,l j this];exact this
     ·have:=L.each m w (by omega);rw[l m this];exact this
theorem ZeI {ns:List Nd} {p:List Int} (h:ZbJ ns=some p):Links ns ns.length p:=by
 unfold ZbJ at h
 split at h
 ·cases h
 ·exact ZgL ns _ p (Nat.le_refl _) h
def up (p:List Int):Nat->Int->Int
 |0,x=>x
 |j+1,x=>up p j (atI p x)
theorem up_add (p:List Int):∀(a b:Nat) (x:Int),up p (a+b) x=up p b (up p a x)
 |0,b,x=>by rw[Nat.zero_add];rfl
 |a+1,b,x=>by rw[show a+1+b=(a+b)+1 by omega];exact up_add p a b (atI p x)
section
variable {ns:List Nd} {p:List Int}
theorem Zfz (L:Links ns ns.length p) {i:Nat} {d:Nd} (hd:ns[i]? = some d) {k:Int} (hk:k∈d.kids):(i:Int)<k/\k<(ns.length:Int)/\atI p k=i:=
 (L.of i d (List.getElem?_eq_some_iff.mp hd).1 hd).2 k hk
theorem Zhl (L:Links ns ns.length p):∀(d k:Nat),k<ns.length->∀x∈ZdR ns d (k:Int),(k:Int)<=x/\x<(ns.length:Int)/\∃j,up p j x=(k:Int)
 |0,k,hk,x,hx=>by
  rw[ZdR]at hx;obtain rfl:x=k:=by simpa using hx
  exact⟨Int.le_refl _,by omega,0,rfl⟩
 |d+1,k,hk,x,hx=>by
  rw[ZdR]at hx;rcases List.mem_cons.mp hx with e|e
  ·subst e;exact⟨Int.le_refl _,by omega,0,rfl⟩
  ·obtain⟨c,hc,hx⟩:=List.mem_flatMap.mp e;have hd:ns[k]? = some ns[k]:=Ym hk;rw[Zcm hd]at hc;obtain⟨g,h,b⟩:=Zfz L hd hc;obtain⟨a,rfl⟩:∃a:Nat,c=a:=⟨c.toNat,by omega⟩
   obtain⟨f,a2,j,a3⟩:=Zhl L d a (by omega) x hx;refine⟨by omega,a2,j+1,?_⟩;rw[up_add,a3];exact b
theorem ZiI (L:Links ns ns.length p) {m:Nat} (h:0<=atI p m):atI p m<(m:Int):=by obtain⟨i,d,a,hd,e,hm⟩:=L.at_ m h;have:=Zfz L hd hm;omega
theorem ZqP (L:Links ns ns.length p):∀(j:Nat) (x:Nat),0<=up p j x->up p j x<=(x:Int)
 |0,x,h=>Int.le_refl _
 |j+1,x,h=>by
  show up p j (atI p x)<=(x:Int)
  by_cases hx:0<=atI p x
  ·obtain⟨y,b⟩:∃y:Nat,atI p x=y:=⟨(atI p x).toNat,by omega⟩
   have c:=ZiI L hx;have a:0<=up p j (atI p x):=h;rw[b]at a c⊢;have:=ZqP L j y a;omega
  ·exact absurd h (by
    show ¬0<=up p j (atI p x)
    exact up_neg L j _ (by omega))
where
 up_neg (L:Links ns ns.length p):∀(j:Nat) (x:Int),x<0->¬0<=up p j x
  |0,x,h=>by show ¬0<=x;omega
  |j+1,x,h=>by
   show ¬0<=up p j (atI p x);have e:atI p x=atI p ((0:Nat):Int):=by unfold atI;rw[show x.toNat=0 by omega];rfl
   have:atI p ((0:Nat):Int)<0:=Int.not_le.mp fun q=>by
    have:=ZiI L q;omega
   exact up_neg L j _ (by omega)
theorem Zna (L:Links ns ns.length p) {i:Nat} {d:Nd} (hd:ns[i]? = some d) {a b:Int} (k:a∈d.kids) (l:b∈d.kids) {x:Int} {c e:Nat} (j:up p c x=a) (f:up p e x=b):a=b:=by
 have g:∀(a b:Int) (c e:Nat),a∈d.kids->b∈d.kids->up p c x=a->up p e x=b->c<e->False:=fun a b c e k l j f n=>by
  obtain⟨m,rfl⟩:∃m,e=c+(m+1):=⟨e-c-1,by omega⟩
  obtain⟨o,_,a3⟩:=Zfz L hd k;obtain⟨q,_,r⟩:=Zfz L hd l;rw[up_add,j]at f;have f:up p m (atI p a)=b:=f;rw[a3]at f;have:=ZqP L m i (by omega);omega
 rcases Nat.lt_trichotomy c e with h|h|h
 ·exact(g _ _ _ _ k l j f h).elim
 ·subst h;exact j.symm.trans f
 ·exact(g _ _ _ _ l k f j h).elim
theorem ZjG (L:Links ns ns.length p):∀(d k:Nat),k<ns.length->(ZdR ns d (k:Int)).Nodup
 |0,k,hk=>by rw[ZdR];exact List.nodup_cons.mpr ⟨by simp,List.nodup_nil⟩
 |d+1,k,hk=>by
  rw[ZdR];have hd:ns[k]? = some ns[k]:=Ym hk;rw[Zcm hd]
  have f:∀c∈ns[k].kids,∃g:Nat,c=g/\g<ns.length/\(k:Int)<c:=fun c hc=>by
   have:=Zfz L hd hc;exact⟨c.toNat,by omega,by omega,by omega⟩
  refine List.nodup_cons.mpr ⟨fun hx=>?_,?_⟩
  ·obtain⟨c,hc,hx⟩:=List.mem_flatMap.mp hx;obtain⟨g,rfl,h,i⟩:=f c hc;have:=(Zhl L d g h _ hx).1;omega
  ·refine List.pairwise_flatMap.mpr ⟨fun c hc=>?_,?_⟩
   ·obtain⟨g,rfl,h,i⟩:=f c hc;exact ZjG L d g h
   ·refine List.Pairwise.imp_of_mem (R:=fun a b=>a≠b) (fun {a b} ha hb hne x hx y hy e=>hne ?_) (L.of k _ hk hd).1;obtain⟨j,rfl,h,_⟩:=f a ha;obtain⟨l,rfl,i,_⟩:=f b hb;subst e;obtain⟨_,_,o,m⟩:=Zhl L d j h x hx;obtain⟨_,_,q,n⟩:=Zhl L d l i x hy;exact Zna L hd ha hb m n
theorem Zmu (L:Links ns ns.length p) (d k:Nat) (hk:k<ns.length):(ZdR ns d (k:Int)).length<=ns.length:=by
 have:=List.Nodup.length_le_of_subset (l₂:=(List.range ns.length).map (fun i:Nat=>(i:Int))) (ZjG L d k hk) (fun x hx=>by
  obtain⟨a,b,_⟩:=Zhl L d k hk x hx
  exact List.mem_map.mpr ⟨x.toNat,List.mem_range.mpr (by omega),by omega⟩)
 simpa using this
end
end
section
open Go.RowKit
theorem Zkz {w:World} {A:Option Addr} {c m:Nat} {v:Value} {l:List Int} (h:ZaX w v l) (e:v=.slice A l.length c) (hm:m<=l.length) :
  ZaX w (.slice A m c) (l.take m)/\ZaX w (.slice (if c=m then A else A.map (·.add m)) (l.length-m) (c-m)) (l.drop m):=by
 obtain⟨q,r,f,n,o,g⟩:=h;rw[e]at f;injection f with a _ b;subst a b;refine⟨⟨A,c,by rw[List.length_take,Nat.min_eq_left hm],by rw[List.length_take];omega,o,?_⟩,⟨_,c-m,by rw[List.length_drop],by rw[List.length_drop];omega,by omega,?_⟩⟩
 ·rw[List.length_take,Nat.min_eq_left hm];refine⟨by simp;omega,fun s=>?_⟩;obtain⟨i,e,p,hc⟩:=g.2 (by omega);refine⟨i,e,p,fun j u d=>hc j u ?_⟩;rw[List.map_take,List.getElem?_take]at d
  split at d
  ·exact d
  ·cases d
 ·have:=g.cut (k:=m) (cap:=c) hm n;rw[Nat.mul_one]at this;rw[List.length_drop,List.map_drop];exact this
end
section
open Go.RowKit
theorem ZoQ (w:World) (a:List (NdV×Nd)) (ty:TypeId) (hm:a.length<=maxLen) (h:∀x∈a,ZS (w.alloc (.cells (Zas a).toArray ty)) x) :
  Zi (w.alloc (.cells (Zas a).toArray ty)) (.slice (some ⟨w.heap.size,0,none⟩) a.length a.length) (a.map (·.2)):=by
 refine⟨_,a.length,a,by rw[List.length_map],by rw[List.length_map];exact Nat.le_refl _,hm,rfl,?_,h⟩;rw[List.length_map];exact⟨Zei a,fun _=>⟨_,rfl,(Blk.start w _ ty).lt,fun j u b=>Zkm w _ ty j u (by simpa using b)⟩⟩
end
end Go.Proofs.YtfbepcelkijgkaaGreatDoor
