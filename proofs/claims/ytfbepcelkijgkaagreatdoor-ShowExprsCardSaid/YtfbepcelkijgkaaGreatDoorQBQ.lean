import Derived.RegionTactic
import Derived.BigQuiet
import Derived.Deep.CutRange
import Derived.Test.YtfbepcelkijgkaaGreatDoorQAL
import Derived.Test.YtfbepcelkijgkaaGreatDoorQAO
import Derived.Test.YtfbepcelkijgkaaGreatDoorQBP
set_option maxRecDepth 100000
set_option maxHeartbeats 8000000
open Option renaming some → Ya
open Go.Value renaming slice → Yc, int → Yd
open Go.IntKind renaming i64 → Yf
open Go renaming World → Yh
namespace Go.Proofs.YtfbepcelkijgkaaGreatDoor
section
open Go.RowKit
theorem Zhg:∀(r:List Int) (y:Int),y<=r.foldl max y/\∀x∈r,x<=r.foldl max y
 |[],y=>⟨Int.le_refl _,fun x h=>by simp at h⟩
 |z::r,y=>by
  obtain⟨a,b⟩:=Zhg r (max y z);rw[List.foldl_cons];refine⟨by omega,fun x hx=>?_⟩;rcases List.mem_cons.1 hx with rfl|hx
  ·omega
  ·exact b x hx
theorem Zrj {l:List Int} {x:Int} (h:x∈l):x<=ZfP l:=by
 cases l with
 |nil=>simp at h
 |cons y r=>
  rcases List.mem_cons.1 h with rfl|h
  ·exact(Zhg r _).1
  ·exact(Zhg r y).2 x h
theorem Zi6 {p:List Int}:∀(j k:Nat),k<j->(ZcG p j)[k]? = Ya (if 0<=atI p k then 1+atI (ZcG p k) (atI p k)else 1)
 |0,k,h=>absurd h (Nat.not_lt_zero _)
 |j+1,k,h=>by
  rw[ZcG];rcases Nat.lt_or_ge k j with a|a
  ·rw[List.getElem?_append_left (by rw[ZbQ];exact a)];exact Zi6 j k a
  ·obtain rfl:k=j:=by omega
   rw[List.getElem?_append_right (by rw[ZbQ];exact Nat.le_refl _),ZbQ,Nat.sub_self];rfl
structure DepP (ns:List Nd) (dep:Nat->Nat):Prop where
 root:dep 0=1
 kid:∀(i:Nat) (d:Nd),ns[i]? = Ya d->∀m:Nat,(m:Int)∈d.kids->dep m=dep i+1
 top:∀i:Nat,i<ns.length->dep i<=24
theorem Zo5 {ns:List Nd} (h:ZcB ns=true):∃f,DepP ns f:=by
 cases hp:ZbJ ns with
 |none=>rw[Zdb hp]at h;cases h
 |some p=>
  rw[ZeZ hp,Bool.and_eq_true,Bool.and_eq_true,decide_eq_true_eq]at h;obtain⟨⟨_,hm⟩,_⟩:=h;have L:=ZeI hp;obtain⟨v,w,n,r⟩:=Zfq hp;have g:(ZbR p).length=ns.length:=by unfold ZbR;rw[ZbQ,n]
  have a:∀k:Nat,k<ns.length->atI (ZbR p) k=if 0<=atI p k then 1+atI (ZcG p k) (atI p k)else 1:=fun k hk=>by
   rw[ZdD];unfold ZbR;rw[Zi6 _ k (by rw[n];exact hk)];rfl
  have b:∀k:Nat,k<ns.length->1<=atI (ZbR p) k/\atI (ZbR p) k<=24:=fun k hk=>by
   obtain⟨x,hx⟩:∃x,(ZbR p)[k]? = Ya x:=⟨_,Ym (by rw[g];exact hk)⟩
   have e:atI (ZbR p) k=x:=by rw[ZdD,hx];rfl
   have y:=(Zgz r p.length (Nat.le_refl _) k x hx).1;have z:=Zrj (List.mem_of_getElem? hx);omega
  refine⟨fun k=>(atI (ZbR p) (k:Int)).toNat,?_,fun i d hd m hk=>?_,fun i c=>?_⟩
  ·have:=a 0 (by omega)
   have s:¬0<=atI p ((0:Nat):Int):=fun q=>by
    have:=ZiI L q;omega
   rw[Yn s]at this;rw[this];rfl
  ·obtain⟨t,u,j⟩:=Zfz L hd hk;have c:i<ns.length:=(List.getElem?_eq_some_iff.1 hd).1;have l:=a m (by omega);rw[Yo (by rw[j];omega),j]at l;have o:atI (ZcG p m) (i:Int)=atI (ZbR p) (i:Int):=by rw[a i c,ZdD,Zi6 m i (by omega)];rfl
   have:=(b i c).1;have:=(b m (by omega)).1;rw[l,o];omega
  ·have:=b i c;omega
theorem Zjv {ns:List Nd} {n:Nat->Nat} (R:RightP ns) (D:DepP ns n):∀(f i:Nat) (d:Nd),ns[i]? = Ya d->24<n i+f->ZF d.kind=true->ZV ns f d
 |0,i,d,hd,hf,_=>by have:=D.top i (List.getElem?_eq_some_iff.1 hd).1;omega
 |f+1,i,d,hd,hf,hk=>by
  obtain⟨_,B,g⟩:=R.node i d hd
  have y:∀k∈d.kids,ZF (Zp ns k)=true->∃m:Nat,k=m/\m<ns.length/\ZV ns f (Zf ns k):=fun k o q=>by
   obtain⟨m,e,A,_,C,E,F,G⟩:=Zd5 R hd o;have M:=D.kid i d hd m (by rw[<-A];exact o);refine⟨m,A,C,?_⟩;rw[F];exact Zjv R D f m e E (by omega) (by rw[<-G];exact q)
  have hc:d.kind=20\/d.kind=21\/d.kind=22\/d.kind=23:=by unfold ZF at hk;rw[Bool.and_eq_true,decide_eq_true_eq,decide_eq_true_eq]at hk;omega
  rw[ZV];rcases hc with e|e|e|e
  ·simp[Zr,e]at g;obtain⟨z,p⟩:=Za7 g.1;obtain⟨v,l⟩:=ZcX p;have:=Zbn B (x:=v) (by rw[l];simp);unfold Zbp at this;exact⟨fun h=>by rw[e]at h;exact absurd h (by decide),.inl ⟨e,v,[],l,by omega,by omega⟩⟩
  ·simp[Zr,e]at g;obtain⟨z,p⟩:=Za7 g.1;obtain⟨s,I⟩:=ZcX z;exact⟨fun h=>by rw[e]at h;exact absurd h (by decide),.inr (.inl ⟨e,s,[],I⟩)⟩
  ·simp[Zr,e]at g;obtain⟨⟨o,q⟩,H⟩:=g;obtain⟨z,p⟩:=Za7 o;obtain⟨v,l⟩:=ZcX p;have:=Zbn B (x:=v) (by rw[l];simp);unfold Zbp at this;have r:v<=5:=by simpa[num,l]using q
   obtain⟨j,k,c,a,b⟩:=ZhZ H;obtain⟨J,rfl,K,L⟩:=y j (by rw[c];simp) a;obtain⟨t,rfl,u,w⟩:=y k (by rw[c];simp) b;exact⟨fun _=>⟨v,[],l,this.1,r⟩,.inr (.inr (.inr ⟨e,J,t,by rw[c];rfl,K,L,by rw[c];rfl,u,w⟩))⟩
  ·simp[Zr,e]at g;obtain⟨k,c,a⟩:=Zgr g.2;obtain⟨t,rfl,u,w⟩:=y k (by rw[c];simp) a;exact⟨fun h=>by rw[e]at h;exact absurd h (by decide),.inr (.inr (.inl ⟨e,t,by rw[c];rfl,u,w⟩))⟩
end
section
open Go.RowKit
mutual
def Zi1 (ms:List Nd):Tr->Nat->Prop
 |.mk k ws us _ ks,a=>∃x:Nd,ms[a]? = Ya x/\x.kind=k/\x.words=ws/\x.nums=us/\ZfX ms ks x.kids
def ZfX (ms:List Nd):List Tr->List Int->Prop
 |[],c=>c=[]
 |t::r,c=>∃(b:Nat) (a:List Int),c=(b:Int)::a/\Zi1 ms t b/\ZfX ms r a
end
end
theorem ZkD (ms:List Nd):∀(ts:List Tr) (cs:List Int),ZfX ms ts cs->cs.length=ts.length/\∀(q:Nat) (t:Tr) (c:Int),ts[q]? = Ya t->cs[q]? = Ya c->∃b:Nat,c=b/\Zi1 ms t b
 |[],cs,h=>by
  rw[ZfX]at h;subst h;exact⟨rfl,fun q t c h=>by simp at h⟩
 |t::r,cs,h=>by
  rw[ZfX]at h;obtain⟨b,d,rfl,e,f⟩:=h;obtain⟨g,i2⟩:=ZkD ms r d f;refine⟨by simp[g],fun q u c a hc=>?_⟩;cases q with
  |zero=>
   injection a with a;injection hc with hc;subst a hc;exact⟨b,rfl,e⟩
  |succ q=>exact i2 q u c a hc
def Zfk (ns ms:List Nd):Nat->Int->Int->Prop
 |0,_,_=>False
 |f+1,i,k=>∃(a b:Nat) (x y:Nd),i=a/\k=b/\ns[a]? = Ya x/\ms[b]? = Ya y/\x.kind=y.kind/\x.words=y.words/\x.nums=y.nums/\x.kids.length=y.kids.length ∧
  ∀(q:Nat) (c e:Int),x.kids[q]? = Ya c->y.kids[q]? = Ya e->Zfk ns ms f c e
theorem Zmq {ns ms:List Nd}:∀{f:Nat} {i k:Int},Zfk ns ms f i k->Zfk ns ms (f+1) i k
 |0,_,_,h=>h.elim
 |f+1,i,k,h=>by
  rw[Zfk]at h⊢;obtain⟨a,b,x,y,d,g,j,l,m,n,o,p,r⟩:=h;exact⟨a,b,x,y,d,g,j,l,m,n,o,p,fun q c e hc s=>Zmq (r q c e hc s)⟩
theorem Zmp {ns ms:List Nd} (R:RightP ns):∀(f a:Nat) (n:Nd) (t:Tr) (b:Nat),ns[a]? = Ya n->Zs ns f n t->Zi1 ms t b->Zfk ns ms f a b
 |0,_,_,_,_,_,h,_=>h.elim
 |f+1,a,n,.mk k w u p ks,b,hn,h,hl=>by
  rw[Zs]at h;rw[Zi1]at hl;obtain⟨C,D,E,F,G⟩:=h;obtain⟨y,r,s,v,z,A⟩:=hl;obtain⟨l,I⟩:=ZkD ms ks y.kids A;rw[Zfk];refine⟨a,b,n,y,rfl,rfl,hn,r,by rw[s,C],by rw[v,D],by rw[z,E],by rw[l,F],fun q c e hc g=>?_⟩;have hq:q<ks.length:=by rw[<-l];exact(List.getElem?_eq_some_iff.1 g).1
  have j:ks[q]? = Ya ks[q]:=Ym hq;obtain⟨o,rfl,H⟩:=I q _ e j g;obtain⟨m,d,rfl,_,_,hd,B,_⟩:=Zd5 R hn (List.mem_of_getElem? hc);have i:=G q _ _ j hc;rw[B]at i;exact Zmp R f m d _ o hd i H
theorem ZmE {ns:List Nd} {f:Nat}:∀(a:List Tr) (cs:List Int),a.length=cs.length->(∀(i:Nat) (t:Tr) (c:Int),a[i]? = Ya t->cs[i]? = Ya c->szT t<=(ZdR ns f c).length)->ZaD a<=(cs.flatMap (ZdR ns f)).length
 |[],cs,_,_=>by rw[ZaD];exact Nat.zero_le _
 |t::r,[],h,_=>by simp at h
 |t::r,c::cs,h,g=>by
  have d:=ZmE (ns:=ns) (f:=f) r cs (by simpa using h) fun i t c b hc=>g (i+1) t c b hc;have i2:=g 0 t c rfl rfl;rw[ZaD,List.flatMap_cons,Yj];omega
theorem Zpy {ns:List Nd} (R:RightP ns):∀(f a:Nat) (n:Nd) (t:Tr),ns[a]? = Ya n->Zs ns (f+1) n t->szT t<=(ZdR ns f (a:Int)).length
 |0,a,n,.mk k w u p ks,hn,h=>by
  rw[Zs]at h;obtain⟨_,_,_,b,e⟩:=h;cases ks with
  |nil=>rw[szT,ZaD,ZdR];exact Nat.le_refl _
  |cons t r=>
   cases hc:n.kids with
   |nil=>rw[hc]at b;simp at b
   |cons c o=>exact(e 0 t c rfl (by rw[hc];rfl)).elim
 |f+1,a,n,.mk k w u p ks,hn,h=>by
  rw[Zs]at h;obtain⟨_,_,_,b,e⟩:=h;rw[szT,ZdR,Zcm hn,Yk]
  have:=ZmE (ns:=ns) (f:=f) ks n.kids b fun i t c l hc=>by
   obtain⟨m,d,rfl,_,_,hd,j,_⟩:=Zd5 R hn (List.mem_of_getElem? hc);have g:=e i t _ l hc;rw[j]at g;exact Zpy R f m d t hd g
  omega
section
open Go.RowKit
theorem Zhk (w:Yh) (n:Nat):Below w.heap.size w (w.drewN n):=⟨rfl,rfl,rfl,Nat.le_refl _,fun _ _=>rfl⟩
def Zgq (w a:Yh) (d e:Nat) (b c:Array Value):Prop:=Blk a d b/\Blk a e c/\Below w.heap.size w a
theorem Zgq.keep {w b g:Yh} {e f:Nat} {c d:Array Value} (h:Zgq w b e f c d) (a:Below b.heap.size b g):Zgq w g e f c d:=⟨h.1.keep a,h.2.1.keep a,h.2.2.trans (a.mono h.2.2.size)⟩
theorem ZjX (w:Yh) (a b:Array Value) (t:TypeId):Zgq w (((w.alloc (.cells a t)).alloc (.cells b t)).drew) w.heap.size (w.heap.size+1) a b:=by have c:=below_alloc1 w (.cells a t);have a2:=below_alloc1 (w.alloc (.cells a t)) (.cells b t);have d:=Blk.start (w.alloc (.cells a t)) b t;rw[World.size_alloc]at d;exact⟨((Blk.start w a t).keep a2).keep (Zfm _),d.keep (Zfm _),(c.trans (a2.mono c.size)).drew⟩
theorem ZnV (w:Yh) (d e:Array Value) (t:TypeId):Zgq w (((w.alloc (.cells e t)).alloc (.cells d t)).drew) (w.heap.size+1) w.heap.size d e:=by obtain⟨a,b,c⟩:=ZjX w e d t;exact⟨b,a,c⟩
theorem ZjP {ns ms:List Nd}:∀(f:Nat) (w:Yh) (va vb:Value) (i k:Int),Zi w va ns->Zi w vb ms->Zfk ns ms f i k ->
  Calls Tryz.prog 11 #[va,Yd Yf i,vb,Yd Yf k] w fun e w'=>e=.returned (.bool true)/\Below w.heap.size w w'
 |0,_,_,_,_,_,_,_,h=>h.elim
 |f+1,w,va,vb,i,k,hA,hB,h=>by
  rw[Zfk]at h;obtain⟨a,b,x,y,rfl,rfl,hx,hy,e1,e2,e3,e4,e5⟩:=h;have IH:=zh (fun(wr:Yh) (E:Below w.heap.size w wr) (q:Nat) (c e:Int) (hc:x.kids[q]? = Ya c) (he:y.kids[q]? = Ya e)=>ZjP f wr va vb c e (hA.below E) (hB.below E) (e5 q c e hc he));obtain⟨A,cA,rs,rfl,a1,a2,a3,a4,a5⟩:=hA;obtain⟨B,cB,ss,rfl,b1,b2,b3,b4,b5⟩:=hB;have cb:=(List.getElem?_eq_some_iff.1 hx).1;have cc:=(List.getElem?_eq_some_iff.1 hy).1;obtain⟨X,hX⟩:∃X,rs[a]? = Ya X:=⟨_,Ym (by have:=congrArg List.length a3;rw[List.length_map]at this;omega)⟩
  obtain⟨Y,hY⟩:∃Y,ss[b]? = Ya Y:=⟨_,Ym (by have:=congrArg List.length b3;rw[List.length_map]at this;omega)⟩
  obtain rfl:X.2=x:=by
   have:ns[a]? = Ya X.2:=by rw[<-a3,List.getElem?_map,hX];rfl
   exact Option.some.inj (this.symm.trans hx)
  obtain rfl:Y.2=y:=by
   have:ms[b]? = Ya Y.2:=by rw[<-b3,List.getElem?_map,hY];rfl
   exact Option.some.inj (this.symm.trans hy)
  obtain⟨ao,ap,aq⟩:=a5 X (List.mem_of_getElem? hX);obtain⟨ar,au,av⟩:=b5 Y (List.mem_of_getElem? hY);have CA:=zh (fun(wr:Yh) (E:Below w.heap.size w wr)=>Zan a4 E hX (by omega));have CB:=zh (fun(wr:Yh) (E:Below w.heap.size w wr)=>Zan b4 E hY (by omega));obtain⟨⟨xw,xu,xk⟩,F,u,d,ks,ps⟩:=X;obtain⟨⟨yw,yu,yk⟩,dn,dy,ch,W,K⟩:=Y;dsimp only at e1 e2 e3 e4 ao ap aq ar au av CA CB IH;subst e1 e2 e3;obtain⟨P1,p1,rfl,l1,ce,ac,_⟩:=ao;obtain⟨P2,p2,rfl,l2,cf,ae⟩:=ap;obtain⟨P3,p3,rfl,l3,cg,U⟩:=aq;obtain⟨Q1,q1,rfl,_,_,af,_⟩:=ar;obtain⟨Q2,q2,rfl,_,_,ag⟩:=au;obtain⟨Q3,q3,rfl,_,_,ah⟩:=av;have LM:u.length<=maxLen/\d.length<=maxLen/\W.length<=maxLen:=⟨by omega,by omega,by omega⟩
  rw[e4]at CA U;generalize hn:W.length=n at *;obtain⟨P,rfl,d0,d1,d2,d3,d4⟩:=CA.out w (Below.refl _ _);obtain⟨Q,rfl,f0,f1,f2,f3,f4⟩:=CB.out w (Below.refl _ _);have l:∀o,Below w.heap.size w (w.alloc o):=fun o=>below_alloc1 w o;have p:∀o t,Below w.heap.size w ((w.alloc o).alloc t):=fun o t=>(l o).trans ((below_alloc1 (w.alloc o) t).mono (l o).size)
  have r:∀wr,Below w.heap.size w wr->wr.cell? (P.add (a*5))=Ya (Yd Yf F)/\wr.cell? ⟨(P.add (a*5)).block,(P.add (a*5)).off+1,none⟩=Ya (Yc P1 u.length p1)/\wr.cell? ⟨(P.add (a*5)).block,(P.add (a*5)).off+2,none⟩=Ya (Yc P2 d.length p2)/\wr.cell? ⟨(P.add (a*5)).block,(P.add (a*5)).off+3,none⟩=Ya (Yc P3 n p3)/\wr.cell? ⟨(P.add (a*5)).block,(P.add (a*5)).off+4,none⟩=Ya (Yd Yf ps):=fun wr E=>by
   obtain⟨N,j,r'⟩:=CA.out wr E;injection j with j;subst j;exact r'
  have bk:=fun o=>(r _ (l o)).1;have bp:=fun o t=>(r _ (p o t)).1;have bl:=fun o=>(r _ (l o)).2.1;have bq:=fun o t=>(r _ (p o t)).2.1;have bm:=fun o=>(r _ (l o)).2.2.1;have br:=fun o t=>(r _ (p o t)).2.2.1;have bn:=fun o=>(r _ (l o)).2.2.2.1;have bs:=fun o t=>(r _ (p o t)).2.2.2.1;have bo:=fun o=>(r _ (l o)).2.2.2.2;have bt:=fun o t=>(r _ (p o t)).2.2.2.2
  have s:∀wr,Below w.heap.size w wr->wr.cell? (Q.add (b*5))=Ya (Yd Yf F)/\wr.cell? ⟨(Q.add (b*5)).block,(Q.add (b*5)).off+1,none⟩=Ya (Yc Q1 u.length q1)/\wr.cell? ⟨(Q.add (b*5)).block,(Q.add (b*5)).off+2,none⟩=Ya (Yc Q2 d.length q2)/\wr.cell? ⟨(Q.add (b*5)).block,(Q.add (b*5)).off+3,none⟩=Ya (Yc Q3 n q3)/\wr.cell? ⟨(Q.add (b*5)).block,(Q.add (b*5)).off+4,none⟩=Ya (Yd Yf K):=fun wr E=>by
   obtain⟨N,j,r'⟩:=CB.out wr E;injection j with j;subst j;exact r'
  have bv:=fun o=>(s _ (l o)).1;have b6:=fun o t=>(s _ (p o t)).1;have bw:=fun o=>(s _ (l o)).2.1;have b7:=fun o t=>(s _ (p o t)).2.1;have bx:=fun o=>(s _ (l o)).2.2.1;have b8:=fun o t=>(s _ (p o t)).2.2.1;have bz:=fun o=>(s _ (l o)).2.2.2.1;have b9:=fun o t=>(s _ (p o t)).2.2.2.1;have b0:=fun o=>(s _ (l o)).2.2.2.2;have ca:=fun o t=>(s _ (p o t)).2.2.2.2;have AB:=zh (zi l p);clear r s l p;have R:(a:Int)<(ns.length:Int):=by omega
  have j2:(0:Int)<=(a:Int):=by omega
  have j3:(b:Int)<(ms.length:Int):=by omega
  have j4:(0:Int)<=(b:Int):=by omega
  have G:=zh (zi ac (zi ae (zi U (zi af (zi ag (zi ah (zi e4 (zi hn LM))))))));clear ac ae U af ag ah hX hY hx hy a1 a2 a3 a4 a5 b1 b2 b3 b4 b5 cb cc e5 e4 hn l1 ce l2 cf l3 cg LM;go_enter Tryz.func11,Tryz.ntmps11;go_upto_region 1 with fail;go_cut [9,10]from 14 to 21 (fun v9 cj wx=>∃Z g2:Nat,v9=.pointer (Ya ⟨Z,0,none⟩)/\cj=.pointer (Ya ⟨g2,0,none⟩)/\Zgq w wx Z g2 #[Yd Yf F,Yc P1 u.length p1,Yc P2 d.length p2,Yc P3 n p3,Yd Yf ps] #[Yd Yf F,Yc Q1 u.length q1,Yc Q2 d.length q2,Yc Q3 n q3,Yd Yf K])
  case first=>
   go_region
   ·go_wp2_with fail;go_meet;exact⟨_,_,rfl,rfl,ZjX w _ _ _⟩
   ·go_wp2_with fail;go_meet;exact⟨_,_,rfl,rfl,ZnV w _ _ _⟩
  case rest=>
   obtain⟨Z,g2,rfl,rfl,O⟩:=hcut;clear bk bl bm bn bo bp bq br bs bt bv bw bx bz b0 b6 b7 b8 b9 ca d0 d1 d2 d3 d4 f0 f1 f2 f3 f4 CA CB AB;have HT:=zh O;have aw:=O.1.cell 0;have I:=O.1.cell 1;have J:=O.1.cell 2;have S:=O.1.cell 3;have a7:=O.2.1.cell 0;have L:=O.2.1.cell 1;have M:=O.2.1.cell 2;have T:=O.2.1.cell 3;simp only[List.getElem?_toArray,List.getElem?_cons_zero,List.getElem?_cons_succ]at aw I J S a7 L M T;have t0:(F != F)=false:=by simp
   have t1:((u.length:Int) != (u.length:Int))=false:=by simp
   have t2:((d.length:Int) != (d.length:Int))=false:=by simp
   have t3:((n:Int) != (n:Int))=false:=by simp
   clear O R j2 j3 j4;go_wp2_with fail;clear aw I J S a7 L M T t0 t1 t2 t3;go_loopg [11] u.length (fun g v wr=>∃q:Nat,v=Yd Yf q/\q<=u.length/\g=u.length-q/\Zgq w wr Z g2 #[Yd Yf F,Yc P1 u.length p1,Yc P2 d.length p2,Yc P3 n p3,Yd Yf ps] #[Yd Yf F,Yc Q1 u.length q1,Yc Q2 d.length q2,Yc Q3 n q3,Yd Yf K])
   case atStart=>exact⟨0,rfl,Nat.zero_le _,rfl,HT.out⟩
   case round=>
    clear HT;obtain⟨q,rfl,hq,H,m⟩:=hrel;have I:=m.1.cell 1;have L:=m.2.1.cell 1;simp only[List.getElem?_toArray,List.getElem?_cons_zero,List.getElem?_cons_succ]at I L;by_cases C:q=u.length
    ·have R:decide (q<u.length)=false:=decide_eq_false (by omega);have S1:=zh m;clear hq H m C;go_wp2_with fail;clear I L R;generalize wr=dw at *;go_loopg [12] d.length (fun g v wr=>∃q:Nat,v=Yd Yf q/\q<=d.length/\g=d.length-q/\Zgq w wr Z g2 #[Yd Yf F,Yc P1 u.length p1,Yc P2 d.length p2,Yc P3 n p3,Yd Yf ps] #[Yd Yf F,Yc Q1 u.length q1,Yc Q2 d.length q2,Yc Q3 n q3,Yd Yf K])
     case atStart=>exact⟨0,rfl,Nat.zero_le _,rfl,S1.out⟩
     case round=>
      clear S1;obtain⟨q,rfl,hq,H,m⟩:=hrel;have J:=m.1.cell 2;have M:=m.2.1.cell 2;simp only[List.getElem?_toArray,List.getElem?_cons_zero,List.getElem?_cons_succ]at J M;by_cases C:q=d.length
      ·have R:decide (q<d.length)=false:=decide_eq_false (by omega);have S2:=zh m;clear hq H m C;go_wp2_with fail;clear J M R;generalize wr=dx at *;go_loopg [13] n (fun g v wr=>∃q:Nat,v=Yd Yf q/\q<=n/\g=n-q/\Zgq w wr Z g2 #[Yd Yf F,Yc P1 u.length p1,Yc P2 d.length p2,Yc P3 n p3,Yd Yf ps] #[Yd Yf F,Yc Q1 u.length q1,Yc Q2 d.length q2,Yc Q3 n q3,Yd Yf K])
       case atStart=>exact⟨0,rfl,Nat.zero_le _,rfl,S2.out⟩
       case round=>
        clear S2;obtain⟨q,rfl,hq,H,m⟩:=hrel;have S:=m.1.cell 3;have T:=m.2.1.cell 3;simp only[List.getElem?_toArray,List.getElem?_cons_zero,List.getElem?_cons_succ]at S T;by_cases C:q=n
        ·have R:decide (q<n)=false:=decide_eq_false (by omega);have S3:=zh m;clear hq H m C;go_wp2_with fail;go_ret;exact⟨rfl,S3.out.2.2⟩
        ·have z:q<n:=by omega
         have R:(q:Int)<(n:Int):=by omega
         have j2:(0:Int)<=(q:Int):=by omega
         have wq:IntKind.i64.wrap ((q:Int)+1)=(q:Int)+1:=IntWalk.i64_in _ (by have:=G.out.2.2.2.2.2.2.2.2;unfold maxLen at this;omega);obtain⟨N,j⟩:∃N,ks[q]? = Ya N:=⟨_,Ym (by have:=G.out.2.2.2.2.2.2.1;omega)⟩
         obtain⟨y',V⟩:∃y',W[q]? = Ya y':=⟨_,Ym (by have:=G.out.2.2.2.2.2.2.2.1;omega)⟩
         obtain⟨xd,rfl,xc⟩:=ints_at G.out.2.2.1 m.2.2 j (by omega);obtain⟨yd,rfl,yc⟩:=ints_at G.out.2.2.2.2.2.1 m.2.2 V (by omega);have CT:=zh (IH.out _ m.2.2.drew q N y' j V);have D:=zh (zi z (zi H m));clear C z hq H j V m;go_wp2_with fail;go_region_with (go_at_call 11;(with_reducible refine CT.out.mono ?_);rintro e w3 ⟨rfl,E⟩;have B3:=zh E;clear E)
         all_goals
          go_wp2_with fail;go_roundg (n-(q+1))
          case measure=>have:=D.out.1;have:=D.out.2.1;omega
          case rel=>exact⟨q+1,by push_cast;rfl,D.out.1,rfl,(D.out.2.2.keep (Zfm _)).keep B3.out⟩
      ·have z:q<d.length:=by omega
       have R:(q:Int)<(d.length:Int):=by omega
       have j2:(0:Int)<=(q:Int):=by omega
       have wq:IntKind.i64.wrap ((q:Int)+1)=(q:Int)+1:=IntWalk.i64_in _ (by have:=G.out.2.2.2.2.2.2.2.2;unfold maxLen at this;omega);obtain⟨N,j⟩:∃N,d[q]? = Ya N:=⟨_,Ym z⟩
       obtain⟨xd,rfl,xc⟩:=ints_at G.out.2.1 m.2.2 j (by omega);obtain⟨yd,rfl,yc⟩:=ints_at G.out.2.2.2.2.1 m.2.2 j (by omega);have D:=zh (zi z (zi H m));clear C z hq H j m;go_wp2_with fail;go_quiet (fail);go_wp2_with fail;go_roundg (d.length-(q+1))
       case measure=>have:=D.out.1;have:=D.out.2.1;omega
       case rel=>exact⟨q+1,by push_cast;rfl,D.out.1,rfl,D.out.2.2.keep (Zhk _ _)⟩
    ·have z:q<u.length:=by omega
     have R:(q:Int)<(u.length:Int):=by omega
     have j2:(0:Int)<=(q:Int):=by omega
     have wq:IntKind.i64.wrap ((q:Int)+1)=(q:Int)+1:=IntWalk.i64_in _ (by have:=G.out.2.2.2.2.2.2.2.2;unfold maxLen at this;omega);obtain⟨N,j⟩:∃N,u[q]? = Ya N:=⟨_,Ym z⟩
     obtain⟨xd,rfl,xc⟩:=ZbH G.out.1 m.2.2 j (by omega);obtain⟨yd,rfl,yc⟩:=ZbH G.out.2.2.2.1 m.2.2 j (by omega);have D:=zh (zi z (zi H m));clear C z hq H j m;go_wp2_with fail;go_quiet (fail);go_wp2_with fail;go_roundg (u.length-(q+1))
     case measure=>have:=D.out.1;have:=D.out.2.1;omega
     case rel=>exact⟨q+1,by push_cast;rfl,D.out.1,rfl,D.out.2.2.keep (Zhk _ _)⟩
end
end Go.Proofs.YtfbepcelkijgkaaGreatDoor
