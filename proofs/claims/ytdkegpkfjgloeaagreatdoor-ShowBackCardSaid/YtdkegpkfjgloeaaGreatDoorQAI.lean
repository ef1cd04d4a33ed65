import Derived.Test.YtdkegpkfjgloeaaGreatDoorQAE
import Derived.Test.YtdkegpkfjgloeaaGreatDoorQAH
set_option maxRecDepth 100000
set_option maxHeartbeats 8000000
open Option renaming some → Ya
open Go.Value renaming slice → Yc
namespace Go.Proofs.YtdkegpkfjgloeaaGreatDoor
section
open Go.RowKit
def ZZ (ns:List Nd):Nat->Nd->Prop
 |0,_=>False
 |f+1,n=>ZhJ n/\((n.kind=20/\∃v r,n.nums=v::r/\-9223372036854775808<=v/\v<=9223372036854775807)\/(n.kind=21/\∃s r,n.words=s::r) ∨
  (n.kind=23/\∃k:Nat,n.kids[0]? = Ya (k:Int)/\k<ns.length/\ZZ ns f (Zb ns k)) ∨
  (n.kind=22/\∃j k:Nat,n.kids[0]? = Ya (j:Int)/\j<ns.length/\ZZ ns f (Zb ns j)/\n.kids[1]? = Ya (k:Int)/\k<ns.length/\ZZ ns f (Zb ns k)))
theorem ZZ.bin {ns:List Nd} {f:Nat} {n:Nd} (h:ZZ ns f n):ZhJ n:=by
 cases f with
 |zero=>exact h.elim
 |succ f=>exact h.1
def opT (ns:List Nd) (f:Nat) (m:Nd) (a:Nat):Txt:=if a<=ZD m then ZH ns f m else [40]++ZH ns f m++[41]
theorem ZdZ {g w:World} {a c b:Nat} {t:Txt} {f:Value} {cs:Array Value} (h:PrS g w a t c f) (k:Zk w b 36 cs):b≠a:=by obtain⟨v,d,_⟩:=h.box;intro e;subst e;exact absurd (ZhF k d) (by decide)
def ZbM (b:World) (ns:List Nd) (f:Nat):Prop:=
 ∀(w:World) (a d:Nat) (t:Txt) (c:Value) (x:NdV×Nd),PrS b w a t d c->Zi b c ns->ZU b x->ZZ ns f x.2->t.length+(ZH ns f x.2).length+100<=140737488355328 ->
  Calls Tryz.prog 88 #[.pointer (Ya ⟨a,0,none⟩),ndX x] w fun e g=>e=.returned (.tuple #[])/\PrS b g a (t++ZH ns f x.2) d c/\Fr w g a
abbrev ndC (x:NdV×Nd):Array Value:=#[.int .i64 x.2.kind,x.1.1,x.1.2.1,x.1.2.2,.int .i64 x.2.pos]
theorem Zm {w:World} {b:Nat} {x:NdV×Nd} (h:Zk w b 36 (ndC x)):w.cell? ⟨b,0,none⟩=Ya (.int .i64 x.2.kind)/\w.cell? ⟨b,1,none⟩=Ya x.1.1/\w.cell? ⟨b,2,none⟩=Ya x.1.2.1/\w.cell? ⟨b,3,none⟩=Ya x.1.2.2/\w.cell? ⟨b,4,none⟩=Ya (.int .i64 x.2.pos):=by have a:=h.blk.cell 0;have c:=h.blk.cell 1;have d:=h.blk.cell 2;have e:=h.blk.cell 3;have f:=h.blk.cell 4;simp only[List.getElem?_toArray,List.getElem?_cons_zero,List.getElem?_cons_succ]at a c d e f;exact⟨a,c,d,e,f⟩
theorem Zdr (u w:World) (i H f b:Nat) (t:Txt) (y:Value) (ns:List Nd) (x:NdV×Nd) (hE:ZbM u ns f) (h:PrS u w i t H y) (hN:Zi u y ns) (hx:ZU u x) (hv:ZZ ns f x.2) (r:t.length+(opT ns f x.2 b).length+100<=140737488355328) :
  Calls Tryz.prog 116 #[.pointer (Ya ⟨i,0,none⟩),ndX x,.int .i64 (b:Nat)] w fun e w'=>e=.returned (.tuple #[])/\PrS u w' i (t++opT ns f x.2 b) H y/\Fr w w' i:=by
 have hq:=hx;have o:=hv.bin;obtain⟨⟨vw,vu,vk⟩,m,g,a,d,n⟩:=x;obtain⟨hw,hu,J⟩:=hx;dsimp only at hw hu J hv r o⊢;obtain⟨B,G,rfl,_⟩:=hw;obtain⟨A,F,rfl,_⟩:=hu;obtain⟨z,E,rfl,_⟩:=J;have P:=below_alloc1 w (.cells #[.int .i64 m,Yc B g.length G,Yc A a.length F,.slice z d.length E,.int .i64 n] 36);have N:Zk _ _ _ _:=Zk.start w #[.int .i64 m,Yc B g.length G,Yc A a.length F,.slice z d.length E,.int .i64 n] 36;obtain⟨c0,c1,c2,c3,c4⟩:=Zm (x:=((Yc B g.length G,Yc A a.length F,.slice z d.length E),⟨m,g,a,d,n⟩)) N;dsimp only at c0 c1 c2 c3 c4;have V:=h.keep P;have L:=zh (ZeS u _ _ hq V.below o);generalize M:ZD ⟨m,g,a,d,n⟩=s at L;have c:=zh (zi V (zi N (zi P (zi hN (zi hq (zi hv hE))))));have HP:=zh h;clear V N P hN hq hv hE h o;generalize K:w.alloc (.cells #[.int .i64 m,Yc B g.length G,Yc A a.length F,.slice z d.length E,.int .i64 n] 36)=w1 at L c c0 c1 c2 c3 c4;by_cases p:b<=s
 ·have e1:opT ns f ⟨m,g,a,d,n⟩ b=ZH ns f ⟨m,g,a,d,n⟩:=by unfold opT;rw[M,Yo p]
  rw[e1]at r⊢;have j:(b:Int)<=(s:Int):=by omega
  have I:=zh r;clear r e1 M p;go_enter Tryz.func116,Tryz.ntmps116;go_upto_region 2 with(go_at_call 117;(refine L.out.mono ?_);rintro e W ⟨rfl,o⟩;have q:=zh o;clear o)
  have D:=c.out.2.1.keep q.out;obtain⟨Q,R,S,T,U⟩:=Zm (x:=((Yc B g.length G,Yc A a.length F,.slice z d.length E),⟨m,g,a,d,n⟩)) D;dsimp only at Q R S T U;have O:=zh (c.out.2.2.2.2.2.2 W i H t y _ (c.out.1.keep q.out) c.out.2.2.2.1 c.out.2.2.2.2.1 c.out.2.2.2.2.2.1 I.out);clear D;go_wp2_with (go_at_call 88;(refine O.out.mono ?_);rintro e w3 ⟨rfl,l,k⟩;have C:=zh (zi l k);clear l k);refine bodyPost_ret (v:=.tuple #[]) (results_none (by kernel_rfl) _ _ _) rfl ⟨rfl,C.out.1,((Fr.of_below i (K▸c.out.2.2.1)).trans (Fr.of_below i q.out)).trans C.out.2⟩
 ·have e1:opT ns f ⟨m,g,a,d,n⟩ b=[40]++ZH ns f ⟨m,g,a,d,n⟩++[41]:=by unfold opT;rw[M,Yn p]
  rw[e1]at r⊢;simp only[Yj,Yk,Yl]at r;have j:¬((b:Int)<=(s:Int)):=by omega
  have I:=zh r;clear r e1 M p;go_enter Tryz.func116,Tryz.ntmps116;go_upto_region 3 with(go_at_call 117;(refine L.out.mono ?_);rintro e W ⟨rfl,o⟩;have q:=zh o;clear o)
  have A2:=zh (Zas u W i H t y [40] (c.out.1.keep q.out) (by have:=I.out;simp only[Yk,Yl];omega));go_upto_region 4 with(go_at_call 32;(refine A2.out.mono ?_);rintro e w3 ⟨rfl,l,k⟩;have C:=zh (zi l k);clear l k)
  have D:=c.out.2.1.keep q.out;have Z:=C.out.2.at_ _ _ _ (ZdZ (c.out.1.keep q.out) D) (by decide) D;obtain⟨Q,R,S,T,U⟩:=Zm (x:=((Yc B g.length G,Yc A a.length F,.slice z d.length E),⟨m,g,a,d,n⟩)) Z;dsimp only at Q R S T U;have O:=zh (c.out.2.2.2.2.2.2 w3 i H _ y _ C.out.1 c.out.2.2.2.1 c.out.2.2.2.2.1 c.out.2.2.2.2.2.1 (by have:=I.out;simp only[Yj,Yk,Yl];omega));clear D Z;go_upto_region 5 with(go_at_call 88;(refine O.out.mono ?_);rintro e w4 ⟨rfl,l,k⟩;have X:=zh (zi l k);clear l k)
  have A4:=zh (Zas u w4 i H _ y [41] X.out.1 (by have:=I.out;simp only[Yj,Yk,Yl];omega));go_wp2_with (go_at_call 32;(refine A4.out.mono ?_);rintro e w5 ⟨rfl,l,k⟩;have Y:=zh (zi l k);clear l k);go_end0;refine⟨rfl,?_,((((Fr.of_below i (K▸c.out.2.2.1)).trans (Fr.of_below i q.out)).trans C.out.2).trans X.out.2).trans Y.out.2⟩;have:=Y.out.1;simp only[List.append_assoc]at this⊢;exact this
end
section
open Go.RowKit
theorem ZdP (p:List Int) (m:Nat):atI p (m:Int)=(p[m]?).getD (-1):=by unfold atI;rw[Int.toNat_natCast]
theorem Zfg {p:List Int} {j m:Nat} (a:Int) (h:j≠m):atI (p.set j a) (m:Int)=atI p m:=by rw[ZdP,ZdP,List.getElem?_set_ne h]
theorem Zok {p:List Int} {m:Nat} (a:Int) (h:m<p.length):atI (p.set m a) (m:Int)=a:=by rw[ZdP,List.getElem?_set_self h];rfl
theorem ZiI (n a:Nat):∀(x:List Int) (p q:List Int),p.length=n->ZbY n a x p=Ya q ->
  (∀m:Nat,0<=atI p m->atI q m=atI p m)/\(∀k∈x,atI p k<0/\atI q k=a)/\x.Nodup/\(∀m:Nat,(m:Int) ∉ x->atI q m=atI p m)
 |[],p,q,hn,h=>by
  rw[ZbY]at h;injection h with h;subst h;exact⟨fun _ _=>rfl,(fun k hk=>absurd hk List.not_mem_nil),List.nodup_nil,fun _ _=>rfl⟩
 |k::r,p,q,hn,h=>by
  rw[ZbY]at h
  split at h
  ·cases h
  ·rename_i u
   obtain⟨m,rfl⟩:∃m:Nat,k=m:=⟨k.toNat,by omega⟩
   rw[Int.toNat_natCast]at h;have hm:m<p.length:=by omega
   obtain⟨g,i2,i3,i4⟩:=ZiI n a r (p.set m a) q (by rw[List.length_set];exact hn) h;have ea:atI (p.set m a) (m:Int)=a:=Zok _ hm;have o:atI q (m:Int)=a:=by rw[g m (by rw[ea];omega),ea]
   have i:(m:Int) ∉ r:=fun s=>by have:=(i2 _ s).1;rw[ea]at this;omega
   have d:=ZgO n a _ _ _ h;refine⟨fun j c=>?_,fun y t=>?_,List.nodup_cons.mpr ⟨i,i3⟩,fun j c=>?_⟩
   ·have b:m≠j:=fun e=>by subst e;omega
    rw[g j (by rw[Zfg _ b];exact c),Zfg _ b]
   ·rcases List.mem_cons.mp t with e|e
    ·subst e;exact⟨by omega,o⟩
    ·obtain⟨f,rfl⟩:∃f:Nat,y=f:=⟨y.toNat,by have:=d y e;omega⟩
     have:=i2 _ e;refine⟨?_,this.2⟩;have b:m≠f:=fun l=>i (by rw[l];exact e);rw[Zfg _ b]at this;exact this.1
   ·have b:m≠j:=fun e=>c (by rw[e];exact List.mem_cons_self);rw[i4 j (fun e=>c (List.mem_cons_of_mem _ e)),Zfg _ b]
structure Links (ns:List Nd) (j:Nat) (p:List Int):Prop where
 len:p.length=ns.length
 of:∀(i:Nat) (d:Nd),i<j->ns[i]? = Ya d->d.kids.Nodup/\∀k∈d.kids,(i:Int)<k/\k<(ns.length:Int)/\atI p k=i
 at_:∀m:Nat,0<=atI p m->∃(i:Nat) (d:Nd),i<j/\ns[i]? = Ya d/\atI p m=i/\(m:Int)∈d.kids
 each:∀m:Nat,0<m->m<j->0<=atI p m
theorem ZgW (ns:List Nd):∀(j:Nat) (p:List Int),j<=ns.length->Zcx ns j=Ya p->Links ns j p
 |0,p,hj,h=>by
  rw[Zcx]at h;injection h with h;subst h;refine⟨List.length_replicate,fun i d r=>absurd r (Nat.not_lt_zero _),fun m hm=>?_,fun m _ h=>absurd h (Nat.not_lt_zero _)⟩;rw[ZdP,List.getElem?_replicate]at hm
  split at hm<;>simp at hm
 |j+1,p,hj,h=>by
  rw[Zcx]at h;cases hq:Zcx ns j with
  |none=>rw[hq]at h;cases h
  |some q=>
   rw[hq,Option.bind_some]at h;have L:=ZgW ns j q (by omega) hq
   split at h
   ·cases h
   ·rename_i z
    obtain⟨d,hd⟩:∃d,ns[j]? = Ya d:=⟨_,Ym (by omega)⟩
    rw[Zcg hd]at h;obtain⟨l,i2,i3,i4⟩:=ZiI _ _ _ _ _ L.len h;have g:=ZgO _ _ _ _ _ h;refine⟨(Zgc _ _ _ _ _ h).trans L.len,fun i e r o=>?_,fun m hm=>?_,fun m w y=>?_⟩
    ·by_cases f:i=j
     ·subst f;obtain rfl:d=e:=Option.some.inj (hd.symm.trans o);exact⟨i3,fun k hk=>⟨(g k hk).1,(g k hk).2,(i2 k hk).2⟩⟩
     ·obtain⟨a,b⟩:=L.of i e (by omega) o;refine⟨a,fun k hk=>?_⟩;obtain⟨s,t,u⟩:=b k hk;obtain⟨n,rfl⟩:∃n:Nat,k=n:=⟨k.toNat,by omega⟩
      exact⟨s,t,by rw[l n (by omega)];exact u⟩
    ·by_cases f:(m:Int)∈d.kids
     ·exact⟨j,d,by omega,hd,(i2 _ f).2,f⟩
     ·rw[i4 m f]at hm⊢;obtain⟨i,v,a,b,c⟩:=L.at_ m hm;exact⟨i,v,by omega,b,c⟩
    ·by_cases f:m=j
     ·have:0<=atI q (j:Int):=by omega
      rw[f,l j this];exact this
     ·have:=L.each m w (by omega);rw[l m this];exact this
theorem ZfG {ns:List Nd} {p:List Int} (h:Zb7 ns=Ya p):Links ns ns.length p:=by
 unfold Zb7 at h
 split at h
 ·cases h
 ·exact ZgW ns _ p (Nat.le_refl _) h
def up (p:List Int):Nat->Int->Int
 |0,x=>x
 |j+1,x=>up p j (atI p x)
theorem up_add (p:List Int):∀(a b:Nat) (x:Int),up p (a+b) x=up p b (up p a x)
 |0,b,x=>by rw[Nat.zero_add];rfl
 |a+1,b,x=>by rw[show a+1+b=(a+b)+1 by omega];exact up_add p a b (atI p x)
section
variable {ns:List Nd} {p:List Int}
theorem ZfP (L:Links ns ns.length p) {i:Nat} {d:Nd} (hd:ns[i]? = Ya d) {k:Int} (hk:k∈d.kids):(i:Int)<k/\k<(ns.length:Int)/\atI p k=i:=
 (L.of i d (List.getElem?_eq_some_iff.mp hd).1 hd).2 k hk
theorem Zhx (L:Links ns ns.length p):∀(d k:Nat),k<ns.length->∀x∈Zd1 ns d (k:Int),(k:Int)<=x/\x<(ns.length:Int)/\∃j,up p j x=(k:Int)
 |0,k,hk,x,hx=>by
  rw[Zd1]at hx;obtain rfl:x=k:=by simpa using hx
  exact⟨Int.le_refl _,by omega,0,rfl⟩
 |d+1,k,hk,x,hx=>by
  rw[Zd1]at hx;rcases List.mem_cons.mp hx with e|e
  ·subst e;exact⟨Int.le_refl _,by omega,0,rfl⟩
  ·obtain⟨c,hc,hx⟩:=List.mem_flatMap.mp e;have hd:ns[k]? = Ya ns[k]:=Ym hk;rw[Zcg hd]at hc;obtain⟨g,h,b⟩:=ZfP L hd hc;obtain⟨a,rfl⟩:∃a:Nat,c=a:=⟨c.toNat,by omega⟩
   obtain⟨f,a2,j,a3⟩:=Zhx L d a (by omega) x hx;refine⟨by omega,a2,j+1,?_⟩;rw[up_add,a3];exact b
theorem ZiP (L:Links ns ns.length p) {m:Nat} (h:0<=atI p m):atI p m<(m:Int):=by obtain⟨i,d,a,hd,e,hm⟩:=L.at_ m h;have:=ZfP L hd hm;omega
theorem Zre (L:Links ns ns.length p):∀(j:Nat) (x:Nat),0<=up p j x->up p j x<=(x:Int)
 |0,x,h=>Int.le_refl _
 |j+1,x,h=>by
  show up p j (atI p x)<=(x:Int)
  by_cases hx:0<=atI p x
  ·obtain⟨y,b⟩:∃y:Nat,atI p x=y:=⟨(atI p x).toNat,by omega⟩
   have c:=ZiP L hx;have a:0<=up p j (atI p x):=h;rw[b]at a c⊢;have:=Zre L j y a;omega
  ·exact absurd h (by
    show ¬0<=up p j (atI p x)
    exact up_neg L j _ (by omega))
where
 up_neg (L:Links ns ns.length p):∀(j:Nat) (x:Int),x<0->¬0<=up p j x
  |0,x,h=>by show ¬0<=x;omega
  |j+1,x,h=>by
   show ¬0<=up p j (atI p x);have e:atI p x=atI p ((0:Nat):Int):=by unfold atI;rw[show x.toNat=0 by omega];rfl
   have:atI p ((0:Nat):Int)<0:=Int.not_le.mp fun q=>by
    have:=ZiP L q;omega
   exact up_neg L j _ (by omega)
theorem Zng (L:Links ns ns.length p) {i:Nat} {d:Nd} (hd:ns[i]? = Ya d) {a b:Int} (k:a∈d.kids) (l:b∈d.kids) {x:Int} {c e:Nat} (j:up p c x=a) (f:up p e x=b):a=b:=by
 have g:∀(a b:Int) (c e:Nat),a∈d.kids->b∈d.kids->up p c x=a->up p e x=b->c<e->False:=fun a b c e k l j f n=>by
  obtain⟨m,rfl⟩:∃m,e=c+(m+1):=⟨e-c-1,by omega⟩
  obtain⟨o,_,a3⟩:=ZfP L hd k;obtain⟨q,_,r⟩:=ZfP L hd l;rw[up_add,j]at f;have f:up p m (atI p a)=b:=f;rw[a3]at f;have:=Zre L m i (by omega);omega
 rcases Nat.lt_trichotomy c e with h|h|h
 ·exact(g _ _ _ _ k l j f h).elim
 ·subst h;exact j.symm.trans f
 ·exact(g _ _ _ _ l k f j h).elim
theorem ZjK (L:Links ns ns.length p):∀(d k:Nat),k<ns.length->(Zd1 ns d (k:Int)).Nodup
 |0,k,hk=>by rw[Zd1];exact List.nodup_cons.mpr ⟨by simp,List.nodup_nil⟩
 |d+1,k,hk=>by
  rw[Zd1];have hd:ns[k]? = Ya ns[k]:=Ym hk;rw[Zcg hd]
  have f:∀c∈ns[k].kids,∃g:Nat,c=g/\g<ns.length/\(k:Int)<c:=fun c hc=>by
   have:=ZfP L hd hc;exact⟨c.toNat,by omega,by omega,by omega⟩
  refine List.nodup_cons.mpr ⟨fun hx=>?_,?_⟩
  ·obtain⟨c,hc,hx⟩:=List.mem_flatMap.mp hx;obtain⟨g,rfl,h,i⟩:=f c hc;have:=(Zhx L d g h _ hx).1;omega
  ·refine List.pairwise_flatMap.mpr ⟨fun c hc=>?_,?_⟩
   ·obtain⟨g,rfl,h,i⟩:=f c hc;exact ZjK L d g h
   ·refine List.Pairwise.imp_of_mem (R:=fun a b=>a≠b) (fun {a b} ha hb hne x hx y hy e=>hne ?_) (L.of k _ hk hd).1;obtain⟨j,rfl,h,_⟩:=f a ha;obtain⟨l,rfl,i,_⟩:=f b hb;subst e;obtain⟨_,_,o,m⟩:=Zhx L d j h x hx;obtain⟨_,_,q,n⟩:=Zhx L d l i x hy;exact Zng L hd ha hb m n
theorem ZmC (L:Links ns ns.length p) (d k:Nat) (hk:k<ns.length):(Zd1 ns d (k:Int)).length<=ns.length:=by
 have:=List.Nodup.length_le_of_subset (l₂:=(List.range ns.length).map (fun i:Nat=>(i:Int))) (ZjK L d k hk) (fun x hx=>by
  obtain⟨a,b,_⟩:=Zhx L d k hk x hx
  exact List.mem_map.mpr ⟨x.toNat,List.mem_range.mpr (by omega),by omega⟩)
 simpa using this
end
end
section
open Go.RowKit
def Zae (ns:List Nd) (a:List Int) (P:Nd->Prop):Prop:=∀k∈a,0<=k/\k<(ns.length:Int)/\P (Zb ns k)
theorem Zae.mono {ns:List Nd} {a:List Int} {P Q:Nd->Prop} (h:Zae ns a P) (g:∀n,P n->Q n):Zae ns a Q:=fun k hk=>⟨(h k hk).1,(h k hk).2.1,g _ (h k hk).2.2⟩
def Zex (n:Nd):Prop:=0<n.words.length/\∃g r,n.nums=g::r/\0<=g/\g<=2
def Zbf (x:Int):Prop:=0<=x/\x<1000000000000000000
def Zfx (ns:List Nd) (f:Nat) (n:Nd):Prop:=(n.kind=15/\∃s r,n.words=s::r)\/(n.kind≠15/\ZZ ns f n)
def Zce (ns:List Nd) (P:Nd->Prop) (m:Nd):Prop:=Zae ns m.kids P
def CaseOk (ns:List Nd) (P:Nd->Prop) (n:Nd):Prop:=(∃s r,n.words=s::r)/\∃k,n.kids=[k]/\Zae ns [k] (Zce ns P)
def Zbp (ns:List Nd):Nat->Nd->Prop
 |0,_=>False
 |f+1,n=>
  ((n.kind=8\/n.kind=9)/\(∃s,n.words=[s])/\∃k,n.kids=[k]/\Zae ns [k] (ZZ ns f)) ∨
  (n.kind=10/\(∃a b,n.words=[a,b])/\(∃j k,n.kids=[j,k])/\Zae ns n.kids (Zce ns fun x=>Zbp ns f x)) ∨
  (n.kind=11/\(∃a b,n.words=[a,b])/\Zae ns n.kids (CaseOk ns fun x=>Zbp ns f x)) ∨
  (n.kind=13/\(∃a b,n.words=[a,b])/\(∃p q r,n.nums=[p,q,r]/\0<=p/\p<=4/\Zbf q/\Zbf r)/\∃l k,n.kids=l++[k]/\Zae ns l Zex/\Zae ns [k] (Zce ns fun x=>Zbp ns f x)) ∨
  (n.kind=14/\((∃a,n.words=[a])\/∃a b,n.words=[a,b])/\Zae ns n.kids (Zfx ns f)) ∨
  (n.kind=16/\∃k r,n.kids=k::r/\r≠[]/\Zae ns [k] (ZZ ns f)/\Zae ns r (Zce ns fun x=>Zbp ns f x)) ∨
  (n.kind=17/\∃j k,n.kids=[j,k]/\Zae ns [j] (ZZ ns f)/\Zae ns [k] (Zce ns fun x=>Zbp ns f x)) ∨
  (n.kind=18/\∃k,n.kids=[k]/\Zae ns [k] (ZZ ns f)) ∨
  n.kind=19
def Zff (n:Nd):Prop:=(n.kind=3/\∃a b r,n.words=a::b::r/\r.length % 2=0/\2<=r.length)\/(n.kind=2/\(∃s,n.words=[s])/\∃x,n.nums=[x]/\0<=x/\x<=1)
def Zgp (ns:List Nd) (n:Nd):Prop:=(∃s,n.words=[s])\/((∃a b,n.words=[a,b])/\(∃p q r,n.nums=[p,q,r]/\0<=p/\p<=4/\Zbf q/\Zbf r)/\Zae ns n.kids Zex)
def Zfe (ns:List Nd) (f:Nat) (n:Nd):Prop:=
 (n.kind=1/\(∃s,n.words=[s])/\Zae ns n.kids Zff)\/(n.kind=4/\(∃s,n.words=[s])/\∃l k,n.kids=l++[k]/\Zae ns l (Zgp ns)/\Zae ns [k] (Zce ns fun x=>Zbp ns f x))
structure RightP (ns:List Nd):Prop where
 some_:0<ns.length
 len:ns.length<=1500
 root:Zs ns 0=0
 kids:∀(i:Nat) (d:Nd),ns[i]? = Ya d->∀k∈d.kids,(i:Int)<k/\k<(ns.length:Int)
 node:∀(i:Nat) (d:Nd),ns[i]? = Ya d->ZdM d.words=true/\Zcm d.nums=true/\Zo ns d=true
theorem Zf7 {ns:List Nd} (h:Zb9 ns=true):RightP ns:=by
 cases hp:Zb7 ns with
 |none=>rw[ZdR hp]at h;cases h
 |some p=>
  rw[Zfb hp,Bool.and_eq_true,Bool.and_eq_true]at h;obtain⟨⟨b,_⟩,hv⟩:=h;have a:0<ns.length/\ns.length<=1500:=by
   unfold Zb7 at hp
   split at hp
   ·cases hp
   ·omega
  refine⟨a.1,a.2,by simpa using b,fun i d hd=>ZmB hp hd,fun i d hd=>?_⟩;have:=List.all_eq_true.mp hv d (List.mem_of_getElem? hd);unfold ZE at this;rw[Bool.and_eq_true,Bool.and_eq_true]at this;exact⟨this.1.1,this.1.2,this.2⟩
theorem ZfX {ns:List Nd} {i:Nat} {d:Nd} (R:RightP ns) (hd:ns[i]? = Ya d) {k:Int} (hk:k∈d.kids):∃(m:Nat) (e:Nd),k=m/\i<m/\m<ns.length/\ns[m]? = Ya e/\Zb ns k=e/\Zs ns k=e.kind:=by
 obtain⟨a,b⟩:=R.kids i d hd k hk;obtain⟨m,rfl⟩:∃m:Nat,k=m:=⟨k.toNat,by omega⟩
 have hm:m<ns.length:=by omega
 have c:ns[m]? = Ya ns[m]:=Ym hm;exact⟨m,ns[m],rfl,by omega,hm,c,Zcg c,Zde c⟩
theorem Zaf {n:Nd} {a b:Nat} (h:Zr n a b=true):n.words.length=a/\n.nums.length=b:=by unfold Zr at h;rw[Bool.and_eq_true,decide_eq_true_eq,decide_eq_true_eq]at h;exact h
theorem Zb6 {b:Type} {l:List b} (h:l.length=1):∃a,l=[a]:=by
 match l,h with
 |[a],_=>exact⟨a,rfl⟩
theorem Ze7 {c:Type} {l:List c} (h:l.length=2):∃a b,l=[a,b]:=by
 match l,h with
 |[a,b],_=>exact⟨a,b,rfl⟩
theorem ZhN {d:Type} {l:List d} (h:l.length=3):∃a b c,l=[a,b,c]:=by
 match l,h with
 |[a,b,c],_=>exact⟨a,b,c,rfl⟩
theorem Zha {ns:List Nd} {b:List Int} (h:Zj ns b []=true):b=[]:=by
 cases b with
 |nil=>rfl
 |cons a r=>simp[Zj]at h
theorem Zeq {ns:List Nd} {a:List Int} {f:Int->Bool} (h:Zj ns a [f]=true):∃k,a=[k]/\f (Zs ns k)=true:=by
 match a,h with
 |[],h=>simp[Zj]at h
 |[k],h=>exact⟨k,rfl,by simpa[Zj]using h⟩
 |_::_::_,h=>simp[Zj]at h
theorem ZfS {ns:List Nd} {a:List Int} {f g:Int->Bool} (h:Zj ns a [f,g]=true):∃j k,a=[j,k]/\f (Zs ns j)=true/\g (Zs ns k)=true:=by
 match a,h with
 |[],h=>simp[Zj]at h
 |[_],h=>simp[Zj]at h
 |[j,k],h=>exact⟨j,k,rfl,by simpa[Zj]using h⟩
 |_::_::_::_,h=>simp[Zj]at h
theorem Zse {ns:List Nd} {a:List Int} {f g e:Int->Bool} (h:Zj ns a [f,g,e]=true):∃j k l,a=[j,k,l]/\f (Zs ns j)=true/\g (Zs ns k)=true/\e (Zs ns l)=true:=by
 match a,h with
 |[],h=>simp[Zj]at h
 |[_],h=>simp[Zj]at h
 |[_,_],h=>simp[Zj]at h
 |[j,k,l],h=>exact⟨j,k,l,rfl,by simpa[Zj,and_assoc]using h⟩
 |_::_::_::_::_,h=>simp[Zj]at h
theorem Zca {ns:List Nd} {a:List Int} {f:Int->Bool} (h:Zat ns a f=true) {k:Int} (hk:k∈a):f (Zs ns k)=true:=by unfold Zat at h;exact List.all_eq_true.mp h k hk
theorem ZbE {k a:Int} (h:isB [a] k=true):k=a:=by simpa[isB]using h
theorem ZiH {k a b:Int} (h:isB [a,b] k=true):k=a\/k=b:=by simpa[isB]using h
theorem ZaY {l:List Int} (h:Zcm l=true) {x:Int} (hx:x∈l):Zbf x:=by have:=List.all_eq_true.mp h x hx;simpa[Zbf]using this
theorem ZoS {c:Type} (l:List c) (h:l≠[]):∃a b,l=a++[b]:=⟨l.dropLast,l.getLast h,(List.dropLast_concat_getLast h).symm⟩
theorem ZgK {ns:List Nd} (R:RightP ns):∀(f i:Nat) (d:Nd),ns[i]? = Ya d->ns.length<=i+f->ZR d.kind=true->ZZ ns f d
 |0,i,d,hd,hf,_=>by have:=(List.getElem?_eq_some_iff.1 hd).1;omega
 |f+1,i,d,hd,hf,hk=>by
  obtain⟨_,y,g⟩:=R.node i d hd
  have u:∀k∈d.kids,ZR (Zs ns k)=true->∃m:Nat,k=m/\m<ns.length/\ZZ ns f (Zb ns k):=fun k n o=>by
   obtain⟨m,e,e1,I,z,A,B,C⟩:=ZfX R hd n;refine⟨m,e1,z,?_⟩;rw[B];exact ZgK R f m e A (by omega) (by rw[<-C];exact o)
  have hc:d.kind=20\/d.kind=21\/d.kind=22\/d.kind=23:=by unfold ZR at hk;rw[Bool.and_eq_true,decide_eq_true_eq,decide_eq_true_eq]at hk;omega
  rw[ZZ];rcases hc with e|e|e|e
  ·simp[Zo,e]at g;obtain⟨w,l⟩:=Zaf g.1;obtain⟨v,hv⟩:=Zb6 l;have:=ZaY y (x:=v) (by rw[hv];simp);unfold Zbf at this;exact⟨fun h=>by rw[e]at h;exact absurd h (by decide),.inl ⟨e,v,[],hv,by omega,by omega⟩⟩
  ·simp[Zo,e]at g;obtain⟨w,l⟩:=Zaf g.1;obtain⟨s,E⟩:=Zb6 w;exact⟨fun h=>by rw[e]at h;exact absurd h (by decide),.inr (.inl ⟨e,s,[],E⟩)⟩
  ·simp[Zo,e]at g;obtain⟨⟨n,o⟩,D⟩:=g;obtain⟨w,l⟩:=Zaf n;obtain⟨v,hv⟩:=Zb6 l;have:=ZaY y (x:=v) (by rw[hv];simp);unfold Zbf at this;have p:v<=5:=by simpa[num,hv]using o
   obtain⟨j,k,c,a,b⟩:=ZfS D;obtain⟨F,rfl,G,H⟩:=u j (by rw[c];simp) a;obtain⟨q,rfl,r,t⟩:=u k (by rw[c];simp) b;exact⟨fun _=>⟨v,[],hv,this.1,p⟩,.inr (.inr (.inr ⟨e,F,q,by rw[c];rfl,G,H,by rw[c];rfl,r,t⟩))⟩
  ·simp[Zo,e]at g;obtain⟨k,c,a⟩:=Zeq g.2;obtain⟨q,rfl,r,t⟩:=u k (by rw[c];simp) a;exact⟨fun h=>by rw[e]at h;exact absurd h (by decide),.inr (.inr (.inl ⟨e,q,by rw[c];rfl,r,t⟩))⟩
theorem Ze8 {ns:List Nd} (R:RightP ns) {i:Nat} {d:Nd} (hd:ns[i]? = Ya d) (e:d.kind=6):Zex d:=by obtain⟨_,f,a⟩:=R.node i d hd;simp[Zo,e]at a;obtain⟨⟨⟨h,b⟩,c⟩,_⟩:=a;obtain⟨_,g⟩:=Zaf b;obtain⟨v,hv⟩:=Zb6 g;have:=ZaY f (x:=v) (by rw[hv];simp);exact⟨by omega,v,[],hv,this.1,by simpa[num,hv]using c⟩
theorem ZbU {ns:List Nd} (R:RightP ns) {i:Nat} {d:Nd} (hd:ns[i]? = Ya d) {a:List Int} (j:∀k∈a,k∈d.kids) {P:Nd->Prop} (h:∀(m:Nat) (e:Nd),i<m->ns[m]? = Ya e->(m:Int)∈a->Zs ns m=e.kind->P e):Zae ns a P:=fun k hk=>by
 obtain⟨m,e,rfl,b,l,c,f,g⟩:=ZfX R hd (j k hk);refine⟨by omega,by omega,?_⟩;rw[f];exact h m e b c hk g
theorem Zi0 {ns:List Nd} (R:RightP ns):∀(f i:Nat) (d:Nd),ns[i]? = Ya d->ns.length<=i+f->ZcT d.kind=true->Zbp ns f d
 |0,i,d,hd,hf,_=>by have:=(List.getElem?_eq_some_iff.1 hd).1;omega
 |f+1,i,d,hd,hf,hk=>by
  obtain⟨T,K,v⟩:=R.node i d hd
  have I:∀(m:Nat) (e:Nd),i<m->ns[m]? = Ya e->e.kind=7->Zce ns (fun x=>Zbp ns f x) e:=fun m e hm H N=>by
   obtain⟨_,_,v⟩:=R.node m e H;simp[Zo,N]at v;refine ZbU R H (fun k hk=>hk) fun q g hq B o t=>Zi0 R f q g B (by omega) (by rw[<-t];exact Zca v.2 o)
  have F:∀k,k∈d.kids->ZR (Zs ns k)=true->Zae ns [k] (ZZ ns f):=fun k G C=>
   ZbU R hd (fun y w=>by rw[List.mem_singleton.1 w];exact G) fun m e hm H o t=>ZgK R f m e H (by omega) (by rw[<-t];rw[List.mem_singleton.1 o];exact C)
  have E:∀k,k∈d.kids->Zs ns k=7->Zae ns [k] (Zce ns fun x=>Zbp ns f x):=fun k G C=>
   ZbU R hd (fun y w=>by rw[List.mem_singleton.1 w];exact G) fun m e hm H o t=>I m e hm H (by rw[<-t];rw[List.mem_singleton.1 o];exact C)
  have hc:d.kind=8\/d.kind=9\/d.kind=10\/d.kind=11\/d.kind=13\/d.kind=14\/d.kind=16\/d.kind=17\/d.kind=18\/d.kind=19:=by unfold ZcT at hk;simp at hk;omega
  rw[Zbp];rcases hc with e|e|e|e|e|e|e|e|e|e
  ·simp[Zo,e]at v;obtain⟨k,n,a⟩:=Zeq v.2;exact .inl ⟨.inl e,Zb6 (Zaf v.1).1,k,n,F k (by rw[n];simp) a⟩
  ·simp[Zo,e]at v;obtain⟨k,n,a⟩:=Zeq v.2;exact .inl ⟨.inr e,Zb6 (Zaf v.1).1,k,n,F k (by rw[n];simp) a⟩
  ·simp[Zo,e]at v;obtain⟨j,k,n,a,b⟩:=ZfS v.2;refine .inr (.inl ⟨e,Ze7 (Zaf v.1).1,⟨j,k,n⟩,fun y w=>?_⟩);have D:Zs ns y=7:=by
    rw[n]at w;rcases List.mem_cons.1 w with rfl|w
    ·exact ZbE a
    ·rw[List.mem_singleton.1 w];exact ZbE b
   exact E y w D y (by simp)
  ·simp[Zo,e]at v;refine .inr (.inr (.inl ⟨e,Ze7 (Zaf v.1).1,ZbU R hd (fun k hk=>hk) fun m g hm B o t=>?_⟩));have L:g.kind=12:=by rw[<-t];exact ZbE (Zca v.2 o)
   obtain⟨_,_,z⟩:=R.node m g B;simp[Zo,L]at z;obtain⟨k,n,a⟩:=Zeq z.2;obtain⟨s,M⟩:=Zb6 (Zaf z.1).1;exact⟨⟨s,[],M⟩,k,n,ZbU R B (fun y w=>by rw[List.mem_singleton.1 w,n];simp) fun q u hq K o t=>I q u (by omega) K (by rw[<-t];rw[List.mem_singleton.1 o];exact ZbE a)⟩
  ·simp[Zo,e]at v;obtain⟨G,C⟩:=v;obtain⟨p,q,r,hn⟩:=ZhN (Zaf G).2;have P:=ZaY K (x:=p) (by rw[hn];simp);have nq:=ZaY K (x:=q) (by rw[hn];simp);have Q:=ZaY K (x:=r) (by rw[hn];simp);unfold Zfa at C;simp at C;obtain⟨⟨⟨_,O⟩,_⟩,J⟩:=C;have S:p<=4:=by simpa[num,hn]using O
   refine .inr (.inr (.inr (.inl ⟨e,Ze7 (Zaf G).1,⟨p,q,r,hn,P.1,S,nq,Q⟩,?_⟩)));rcases J with J|⟨J,_⟩
   ·obtain⟨k,n,a⟩:=Zeq J;exact⟨[],k,n,(fun y w=>nomatch w),E k (by rw[n];simp) (ZbE a)⟩
   ·obtain⟨j,k,n,a,b⟩:=ZfS J;exact⟨[j],k,n,ZbU R hd (fun y w=>by rw[List.mem_singleton.1 w,n];simp) fun m g hm B o t=>Ze8 R B (by rw[<-t];rw[List.mem_singleton.1 o];exact ZbE a),E k (by rw[n];simp) (ZbE b)⟩
  ·simp[Zo,e]at v;refine .inr (.inr (.inr (.inr (.inl ⟨e,?_,ZbU R hd (fun k hk=>hk) fun m g hm B o t=>?_⟩))))
   ·rcases v.1 with h|h
    ·exact .inl (Zb6 (Zaf h).1)
    ·exact .inr (Ze7 (Zaf h).1)
   ·have ha:=Zca v.2 o;rw[t]at ha;unfold ZdE at ha;by_cases A:g.kind=15
    ·obtain⟨_,_,z⟩:=R.node m g B;simp[Zo,A]at z;obtain⟨s,M⟩:=Zb6 (Zaf z.1).1;exact .inl ⟨A,s,[],M⟩
    ·exact .inr ⟨A,ZgK R f m g B (by omega) (by simpa[A]using ha)⟩
  ·simp[Zo,e]at v;refine .inr (.inr (.inr (.inr (.inr (.inl ⟨e,?_⟩)))));rcases v.2 with h|h
   ·obtain⟨j,k,n,a,b⟩:=ZfS h;exact⟨j,[k],n,by simp,F j (by rw[n];simp) a,E k (by rw[n];simp) (ZbE b)⟩
   ·obtain⟨j,k,l,n,a,b,c⟩:=Zse h;refine⟨j,[k,l],n,by simp,F j (by rw[n];simp) a,fun y w=>?_⟩;have D:Zs ns y=7:=by
     rcases List.mem_cons.1 w with rfl|w
     ·exact ZbE b
     ·rw[List.mem_singleton.1 w];exact ZbE c
    exact E y (by rw[n];exact List.mem_cons_of_mem _ w) D y (by simp)
  ·simp[Zo,e]at v;obtain⟨j,k,n,a,b⟩:=ZfS v.2;exact .inr (.inr (.inr (.inr (.inr (.inr (.inl ⟨e,j,k,n,F j (by rw[n];simp) a,E k (by rw[n];simp) (ZbE b)⟩))))))
  ·simp[Zo,e]at v;obtain⟨k,n,a⟩:=Zeq v.2;exact .inr (.inr (.inr (.inr (.inr (.inr (.inr (.inl ⟨e,k,n,F k (by rw[n];simp) a⟩)))))))
  ·exact .inr (.inr (.inr (.inr (.inr (.inr (.inr (.inr e)))))))
theorem ZfD {ns:List Nd} (R:RightP ns):Zae ns (Zb ns 0).kids (Zfe ns ns.length):=by
 have D:ns[0]? = Ya (ns[0]'R.some_):=Ym R.some_;have H:=Zcg (k:=0) D;have K:=Zde (k:=0) D;rw[show((0:Nat):Int)=0 from rfl]at H K;obtain⟨_,_,J⟩:=R.node 0 _ D;have z:(ns[0]'R.some_).kind=0:=by rw[<-K];exact R.root
 simp[Zo,z]at J;rw[H];refine ZbU R D (fun k hk=>hk) fun m d hm hd i f=>?_;obtain⟨_,Y,t⟩:=R.node m d hd;rcases ZiH (Zca J.2 i)with e|e
 ·rw[f]at e;simp[Zo,e]at t;refine .inl ⟨e,Zb6 (Zaf t.1).1,ZbU R hd (fun k hk=>hk) fun q g hq C i f=>?_⟩;obtain⟨_,u,c⟩:=R.node q g C;rcases ZiH (Zca t.2 i)with A|A
  ·rw[f]at A;simp[Zo,A]at c;obtain⟨⟨j,B⟩,_⟩:=c;obtain⟨v,hv⟩:=Zb6 (Zaf j).2;have:=ZaY u (x:=v) (by rw[hv];simp);exact .inr ⟨A,Zb6 (Zaf j).1,v,hv,this.1,by simpa[num,hv]using B⟩
  ·rw[f]at A;simp[Zo,A]at c;obtain⟨⟨⟨j,B⟩,_⟩,_⟩:=c
   match hg2:g.words with
   |[]=>rw[hg2]at j;simp at j
   |[_]=>rw[hg2]at j;simp at j
   |a::b::r=>exact .inl ⟨A,a,b,r,hg2,by rw[hg2]at B;simp at B;omega,by rw[hg2]at j;simp at j;omega⟩
 ·rw[f]at e;simp[Zo,e]at t;obtain⟨⟨j,B⟩,S⟩:=t;obtain⟨k,w,a⟩:=Zeq S;have E:d.kids≠[]:=fun q=>by rw[q]at w;simp at w
  obtain⟨l,V,o⟩:=ZoS d.kids E;have O:d.kids.take (d.kids.length-1)=l:=by rw[o];simp
  have N:k=V:=by rw[o]at w;simpa using w.symm
  rw[O]at B;subst N;refine .inr ⟨e,Zb6 (Zaf j).1,l,k,o,ZbU R hd (fun y G=>by rw[o];simp[G]) fun q g hq C i f=>?_,ZbU R hd (fun y G=>by rw[o,List.mem_singleton.1 G];simp) fun q g hq C i f=>?_⟩
  ·have P:g.kind=5:=by rw[<-f];exact ZbE (Zca B i)
   obtain⟨_,u,c⟩:=R.node q g C;simp[Zo,P]at c;rcases c with h|⟨h,hc⟩
   ·exact .inl (Zb6 (Zaf h.1).1)
   ·obtain⟨p,L,r,hn⟩:=ZhN (Zaf h).2;have W:=ZaY u (x:=p) (by rw[hn];simp);have nq:=ZaY u (x:=L) (by rw[hn];simp);have X:=ZaY u (x:=r) (by rw[hn];simp);unfold ZcU at hc;simp at hc;obtain⟨⟨⟨T,_⟩,U⟩,_⟩:=hc;refine .inr ⟨Ze7 (Zaf h).1,⟨p,L,r,hn,W.1,by simpa[num,hn]using T,nq,X⟩,ZbU R C (fun k hk=>hk) fun M I F hg2 n s=>Ze8 R hg2 (by rw[<-s];exact ZbE (Zca U n))⟩
  ·have Q:g.kind=7:=by rw[<-f,List.mem_singleton.1 i];exact ZbE a
   obtain⟨_,_,c⟩:=R.node q g C;simp[Zo,Q]at c;exact ZbU R C (fun k hk=>hk) fun M I F hg2 n s=>Zi0 R _ M I hg2 (by omega) (by rw[<-s];exact Zca c.2 n)
end
section
open Go.RowKit
theorem Zkz {w:World} {A:Option Addr} {c m:Nat} {v:Value} {l:List Int} (h:Za7 w v l) (e:v=Yc A l.length c) (hm:m<=l.length) :
  Za7 w (Yc A m c) (l.take m)/\Za7 w (.slice (if c=m then A else A.map (·.add m)) (l.length-m) (c-m)) (l.drop m):=by
 obtain⟨q,r,f,n,o,g⟩:=h;rw[e]at f;injection f with a _ b;subst a b;refine⟨⟨A,c,by rw[List.length_take,Nat.min_eq_left hm],by rw[List.length_take];omega,o,?_⟩,⟨_,c-m,by rw[List.length_drop],by rw[List.length_drop];omega,by omega,?_⟩⟩
 ·rw[List.length_take,Nat.min_eq_left hm];refine⟨by simp;omega,fun hn=>?_⟩;obtain⟨i,e,p,hc⟩:=g.2 (by omega);refine⟨i,e,p,fun j u d=>hc j u ?_⟩;rw[List.map_take,List.getElem?_take]at d
  split at d
  ·exact d
  ·cases d
 ·have:=g.cut (k:=m) (cap:=c) hm n;rw[Nat.mul_one]at this;rw[List.length_drop,List.map_drop];exact this
end
section
open Go.RowKit
theorem Zo4 (w:World) (a:List (NdV×Nd)) (ty:TypeId) (hm:a.length<=maxLen) (h:∀x∈a,ZU (w.alloc (.cells (Zax a).toArray ty)) x) :
  Zi (w.alloc (.cells (Zax a).toArray ty)) (Yc (Ya ⟨w.heap.size,0,none⟩) a.length a.length) (a.map (·.2)):=by
 refine⟨_,a.length,a,by rw[List.length_map],by rw[List.length_map];exact Nat.le_refl _,hm,rfl,?_,h⟩;rw[List.length_map];exact⟨Zet a,fun _=>⟨_,rfl,(Blk.start w _ ty).lt,fun j u b=>Zkn w _ ty j u (by simpa using b)⟩⟩
end
end Go.Proofs.YtdkegpkfjgloeaaGreatDoor
