import Derived.Test.YtfbepcelkijgkaaGreatDoorQAS
set_option maxRecDepth 100000
set_option maxHeartbeats 8000000
namespace Go.Proofs.YtfbepcelkijgkaaGreatDoor
section
section
variable {L:List Tok}
def opK (ns:List Nd) (f:Nat) (m:Nd) (a:Nat):TS:=if a<=ZB m then ZR ns f m else [(2,[40])]++ZR ns f m++[(2,[41])]
theorem ER.less {d e:Int} {o:PS->Tr×PS} {f:Nat} {us:TS} {T n:Tr->Prop} (h:ER L d o f us T) (hd:d<=e) (g:∀t,T t->n t):ER L e o f us n where
 p hs:=(h.p hs).less hd (fun _ h=>h) g
 q hs:=fun s u K i e1 l m j=>by
  obtain⟨t,k,a,b,c⟩:=h.q hs s u K i (by omega) l m j;exact⟨t,k,a,b,g t c⟩
 s hs:=fun s u K i e1 l m j=>by
  obtain⟨t,k,a,b,c⟩:=h.s hs s u K i (by omega) l m j;exact⟨t,k,a,b,g t c⟩
 x:=h.x.less hd (fun _ h=>h) g
theorem Zpr {ns:List Nd} {f:Nat} {n:Nd} {o:Int} {j k:Int} (hk:n.kind=22) (m:n.words=[]) (l:n.nums=[o]) (e:n.kids=[j,k]) {t:Tr} (h:∃a b,Zs ns f (Za ns j) a/\Zs ns f (Za ns k) b/\t=ZaZ o a b):Zs ns (f+1) n t:=by
 obtain⟨a,b,ha,g,rfl⟩:=h;refine⟨hk.symm,m.symm,l.symm,by rw[e];rfl,fun i t c d hc=>?_⟩;rw[e]at hc
 match i,d,hc with
 |0,d,hc=>injection d with d;injection hc with hc;subst d hc;exact ha
 |1,d,hc=>injection d with d;injection hc with hc;subst d hc;exact g
 |i+2,d,hc=>simp at d
theorem ZiO {ns:List Nd} (R:RightP ns):∀(f i:Nat) (n:Nd) (g:Nat),ns[i]? = some n->ZS ns f n->2*f<=g->ER L (2*f:Nat) (ZE L g) (ZB n) (ZR ns f n) (Zs ns f n)
 |0,_,_,_,_,h,_=>h.elim
 |f+1,i,n,g,hn,h,hg=>by
  obtain⟨g,rfl⟩:∃y,g=y+2:=⟨g-2,by omega⟩
  have C:∀(c:Int),c∈n.kids->ZS ns f (Za ns c)->∀y,2*f<=y->ER L (2*f:Nat) (ZE L y) (ZB (Za ns c)) (ZR ns f (Za ns c)) (Zs ns f (Za ns c)):=fun c hc hv y A=>by
   obtain⟨q,hq⟩:=ZaA R hn hc;exact ZiO R f q _ y hq hv A
  have F:∀(c:Int),c∈n.kids->ZS ns f (Za ns c)->∀y,2*f<=y->ZZ L ((2*f:Nat)+1) (ZE L (y+1)) ([(2,[40])]++ZR ns f (Za ns c)++[(2,[41])]) gP (Zs ns f (Za ns c)):=fun c hc hv y A=>Znh (C c hc hv y A).x (by omega)
  have S:∀(c:Int),c∈n.kids->ZS ns f (Za ns c)->∀y,2*f<=y->ZZ L ((2*f:Nat)+1) (ZE L (y+1)) (opK ns f (Za ns c) 3) gP (Zs ns f (Za ns c)):=fun c hc hv y A=>by
   unfold opK
   split
   ·rename_i hs;exact((C c hc hv (y+1) (by omega)).p hs).less (by omega) (fun _ h=>h) fun _ h=>h
   ·exact F c hc hv y A
  have N:∀(c:Int),c∈n.kids->ZS ns f (Za ns c)->Zel L ((2*f:Nat)+1) (ZE L (g+2)) [42] [47] 4 5 (opK ns f (Za ns c) 2) gP (Zs ns f (Za ns c)):=fun c hc hv=>by
   unfold opK
   split
   ·rename_i hs;exact((C c hc hv (g+2) (by omega)).less (e:=(2*f:Nat)+1) (by omega) fun _ h=>h).q hs
   ·exact Zeb (F c hc hv (g+1) (by omega))
  have J:∀(c:Int),c∈n.kids->ZS ns f (Za ns c)->Zel L ((2*f:Nat)+1) (Zai L (ZE L (g+2))) [43] [45] 2 3 (opK ns f (Za ns c) 1) gQ (Zs ns f (Za ns c)):=fun c hc hv=>by
   unfold opK
   split
   ·rename_i hs;exact((C c hc hv (g+2) (by omega)).less (e:=(2*f:Nat)+1) (by omega) fun _ h=>h).s hs
   ·exact Zeb (ZdY (Zeb (F c hc hv (g+1) (by omega))))
  rcases ZiM R hn h with⟨hk,M,l,v,hv,r⟩|⟨hk,D,l,s,hs,Q⟩|⟨hk,M,D,k,l,hv⟩|⟨hk,M,o,j,k,D,T,U,l,hv,r⟩
  ·have E:ZR ns (f+1) n=[(1,ZbM v)]:=by simp[ZR,hk,ZcG (n:=n) (k:=0) (z:=v) (by rw[hv];rfl)]
   rw[E];refine ER.piece fun s u O e1 P D=>⟨_,Zo7 O P.left.head (ZeB r) r.1,hk.symm,M.symm,hv.symm,by rw[l];rfl,fun i t c B=>?_⟩;simp at B
  ·have E:ZR ns (f+1) n=[(0,s)]:=by simp[ZR,hk,Zm5 (n:=n) (k:=0) (s:=s) (by rw[hs];rfl)]
   rw[E];refine ER.piece fun s u O e1 P _=>⟨_,ZnK O P.left.head Q,hk.symm,hs.symm,D.symm,by rw[l];rfl,fun i t c B=>?_⟩;simp at B
  ·have E:ZR ns (f+1) n=[(2,[45])]++opK ns f (Za ns k) 3:=by simp[ZR,hk,opK,Za1 (ns:=ns) (d:=n) (m:=0) (k:=k) (by rw[l];rfl)]
   rw[E];refine ER.piece ((Zng (S k (by rw[l];simp) hv g (by omega)) (by omega)).less (by omega) (fun _ h=>h) ?_);rintro t ⟨a,p,ha,rfl⟩;refine⟨hk.symm,M.symm,D.symm,by rw[l];rfl,fun i t c B hc=>?_⟩;rw[l]at hc
   match i,B,hc with
   |0,B,hc=>injection B with B;injection hc with hc;subst B hc;exact ha
   |i+1,B,hc=>simp at B
  ·have H:j∈n.kids:=by rw[l];simp
   have I:k∈n.kids:=by rw[l];simp
   have E:ZR ns (f+1) n=opK ns f (Za ns j) (max (ZB n) 1)++ZhZ o++opK ns f (Za ns k) (ZB n+1):=by simp[ZR,hk,opK,Za1 (ns:=ns) (d:=n) (m:=0) (k:=j) (by rw[l];rfl),Za1 (ns:=ns) (d:=n) (m:=1) (k:=k) (by rw[l];rfl),ZcG (n:=n) (k:=0) (z:=o) (by rw[D];rfl)]
   have K:∀t,(∃a b,Zs ns f (Za ns j) a/\Zs ns f (Za ns k) b/\t=ZaZ o a b)->Zs ns (f+1) n t:=fun t h=>Zpr hk M D l h;have w:ZB n=if o<=1 then 0 else if o<=3 then 1 else 2:=by simp[ZB,hk,ZcG (n:=n) (k:=0) (z:=o) (by rw[D];rfl)]
   rw[E];have G:(((2*f:Nat):Int)+1)<=((2*(f+1):Nat):Int):=by omega
   have:o=0\/o=1\/o=2\/o=3\/o=4\/o=5:=by omega
   rcases this with rfl|rfl|rfl|rfl|rfl|rfl
   ·have w:ZB n=0:=w;rw[w];exact ER.less (ER.cmp (Zhr (z:=[60]) (Zet (J j H hv)) (Zet (J k I r)) (.inl ⟨rfl,rfl⟩)) (by omega)) G K
   ·have w:ZB n=0:=w;rw[w];exact ER.less (ER.cmp (Zhr (z:=[61,61]) (Zet (J j H hv)) (Zet (J k I r)) (.inr ⟨rfl,rfl⟩)) (by omega)) G K
   ·have w:ZB n=1:=w;rw[w];exact ER.less (ER.sum (ZfN (z:=[43]) (J j H hv) (ZdY (N k I r)) (by refine⟨trivial,?_,?_⟩<;>decide) (.inl ⟨rfl,rfl⟩)) (by omega)) G K
   ·have w:ZB n=1:=w;rw[w];exact ER.less (ER.sum (ZfN (z:=[45]) (J j H hv) (ZdY (N k I r)) (by refine⟨trivial,?_,?_⟩<;>decide) (.inr ⟨rfl,rfl,by decide⟩)) (by omega)) G K
   ·have w:ZB n=2:=w;rw[w];exact ER.less (ER.prod (ZfN (z:=[42]) (N j H hv) (S k I r (g+1) (by omega)) trivial (.inl ⟨rfl,rfl⟩)) (by omega)) G K
   ·have w:ZB n=2:=w;rw[w];exact ER.less (ER.prod (ZfN (z:=[47]) (N j H hv) (S k I r (g+1) (by omega)) trivial (.inr ⟨rfl,rfl,by decide⟩)) (by omega)) G K
end
end
section
section
variable {L:List Tok}
def Za4 {c:Type} (P:c->Tr->Prop) (a:List c) (ts:List Tr):Prop:=ts.length=a.length/\∀(i:Nat) (t:Tr) (b:c),ts[i]? = some t->a[i]? = some b->P b t
theorem Za4.nil {a:Type} (P:a->Tr->Prop):Za4 P [] []:=⟨rfl,fun i t b h=>by simp at h⟩
theorem Za4.cons {d:Type} {P:d->Tr->Prop} {b:d} {r:List d} {t:Tr} {ts:List Tr} (h:P b t) (e:Za4 P r ts):Za4 P (b::r) (t::ts):=⟨by simp[e.1],fun i g f c a=>by
 cases i with
 |zero=>injection c with c;injection a with a;subst c a;exact h
 |succ i=>exact e.2 i g f c a⟩
def ZbK (L:List Tok) (g:Nat×Txt->Prop) (x:Txt) (us:TS):Prop:=∃u r,us=u::r/\g u/\∀s:PS,s.err=0->kt (Zg L s.at_)=u->isM L x s=false
theorem ZZ.at' {d:Int} {m:PS->Tr×PS} {us vs:TS} {g:Nat×Txt->Prop} {T:Tr->Prop} (h:ZZ L d m us g T) {s:PS} {u:Nat×Txt} (b:s.err=0) (e1:s.deep+d<=200) (a:Zam L s.at_ (us++u::vs)) (c:g u):∃t,m s=(t,Zc s us.length)/\T t:=by refine h s u b e1 ?_ c;rw[<-List.singleton_append,<-List.append_assoc]at a;exact a.left
theorem Zfk {j:Type} {d:Int} {e:PS->Tr×PS} {x:Txt} {U:j->TS} {P:j->Tr->Prop} {g:Nat×Txt->Prop} (hx:g (2,x)):∀(a:List j) (K:Nat) (l:List Tr) (s:PS),s.err=0->s.deep+d<=200->Zam L s.at_ ((a.map U).flatten++[(2,x)])->a.length<K->(∀b∈a,ZZ L d e (U b) g (P b)/\ZbK L g x (U b)) ->
  ∃ts,ZaP L e x K l s=(l++ts,Zc s ((a.map U).flatten.length+1))/\Za4 P a ts
 |[],K,l,s,e0,e1,hh,hK,_=>by
  obtain⟨K,rfl⟩:∃k,K=k+1:=⟨K-1,by simp at hK;omega⟩
  refine⟨[],?_,Za4.nil P⟩;simp[ZaP,e0,ZcM e0 hh.head,Zag]
 |b::r,K,l,s,e0,e1,hh,hK,hb=>by
  obtain⟨K,rfl⟩:∃k,K=k+1:=⟨K-1,by simp at hK;omega⟩
  obtain⟨hd,u,q,p,z,hn⟩:=hb b (by simp);rw[List.map_cons,List.flatten_cons,List.append_assoc]at hh;have h:isM L x s=false:=hn s e0 (by rw[p]at hh;exact hh.head);have y:∃v w,(r.map U).flatten++[(2,x)]=v::w/\g v:=by
   cases r with
   |nil=>exact⟨_,_,rfl,hx⟩
   |cons c r=>
    obtain⟨_,v,w,hv,f,_⟩:=hb c (by simp);exact⟨v,w++(r.map U).flatten++[(2,x)],by rw[List.map_cons,List.flatten_cons,hv];simp,f⟩
  obtain⟨v,w,hv,f⟩:=y;obtain⟨t,m,o⟩:=hd.at' e0 e1 (by rw[hv]at hh;exact hh) f;obtain⟨ts,n,i⟩:=Zfk hx r K (l++[t]) (Zc s (U b).length) e0 e1 hh.right (by simp at hK;omega) fun c hc=>hb c (List.mem_cons_of_mem _ hc);refine⟨t::ts,?_,Za4.cons o i⟩;simp only[ZaP,e0,h,m,if_true];rw[Yn (by decide),n,Zj];simp[Nat.add_assoc]
theorem ZeJ (s:TS) (x:TS):∀r:List TS,Zaj s (x::r)=x++(r.map fun y=>s++y).flatten
 |[]=>by simp[Zaj]
 |y::r=>by
  have:=ZeJ s y r;rw[Zaj,this];simp
theorem ZjO {j:Type} {d:Int} {e:PS->Tr×PS} {U:j->TS} {P:j->Tr->Prop} {g:Nat×Txt->Prop} (m:g (2,[44])) (n:g (2,[41])):∀(a:List j) (K:Nat) (l:List Tr) (s:PS),s.err=0->s.deep+d<=200->Zam L s.at_ ((a.map fun b=>[(2,[44])]++U b).flatten++[(2,[41])])->a.length<K->(∀b∈a,ZZ L d e (U b) g (P b)) ->
  ∃ts,ZT L e K false l s=(l++ts,Zc s ((a.map fun b=>[(2,[44])]++U b).flatten.length+1))/\Za4 P a ts
 |[],K,l,s,e0,e1,hh,hK,_=>by
  obtain⟨K,rfl⟩:∃k,K=k+1:=⟨K-1,by simp at hK;omega⟩
  refine⟨[],?_,Za4.nil P⟩;simp[ZT,e0,ZcM e0 hh.head,Zag]
 |b::r,K,l,s,e0,e1,hh,hK,hb=>by
  obtain⟨K,rfl⟩:∃k,K=k+1:=⟨K-1,by simp at hK;omega⟩
  rw[List.map_cons,List.flatten_cons,List.append_assoc,List.append_assoc]at hh;have o:kt (Zg L s.at_)=(2,[44]):=hh.left.head;have h:isM L [41] s=false:=ZH e0 o (by decide);have f:=hh.right;have z:∃v w,(r.map fun b=>[(2,[44])]++U b).flatten++[(2,[41])]=v::w/\g v:=by
   cases r with
   |nil=>exact⟨_,_,rfl,n⟩
   |cons c r=>exact⟨(2,[44]),U c++(r.map fun b=>[(2,[44])]++U b).flatten++[(2,[41])],by simp,m⟩
  obtain⟨v,w,hv,u⟩:=z;obtain⟨t,p,y⟩:=(hb b (by simp)).at' (s:=Zc s 1) e0 e1 (by rw[hv]at f;exact f) u;obtain⟨ts,q,i⟩:=ZjO m n r K (l++[t]) (Zc (Zc s 1) (U b).length) e0 e1 f.right (by simp at hK;omega) fun c hc=>hb c (List.mem_cons_of_mem _ hc);refine⟨t::ts,?_,Za4.cons y i⟩;simp only[ZT,e0,h,if_true];rw[Yn (by decide),Yn (by decide),Zba e0 o,p,q,Zj,Zj];simp[Nat.add_comm,Nat.add_left_comm]
theorem Zho {l:Type} {d:Int} {e:PS->Tr×PS} {U:l->TS} {P:l->Tr->Prop} {g:Nat×Txt->Prop} (m:g (2,[44])) (n:g (2,[41])) (a:List l) (K:Nat) (s:PS) (h:s.err=0) (e1:s.deep+d<=200) (f:Zam L s.at_ (Zaj [(2,[44])] (a.map U)++[(2,[41])])) (B:a.length<K) (o:∀b∈a,ZZ L d e (U b) g (P b)/\ZbK L (fun _=>True) [41] (U b)) :
  ∃ts,ZT L e K true [] s=(ts,Zc s ((Zaj [(2,[44])] (a.map U)).length+1))/\Za4 P a ts:=by
 obtain⟨K,rfl⟩:∃k,K=k+1:=⟨K-1,by omega⟩
 cases a with
 |nil=>
  refine⟨[],?_,Za4.nil P⟩;have E:kt (Zg L s.at_)=(2,[41]):=f.head;simp[ZT,h,ZcM h E,Zag,Zaj]
 |cons b r=>
  rw[List.map_cons,ZeJ,List.map_map,List.append_assoc]at f;obtain⟨hd,u,q,D,_,hn⟩:=o b (by simp);have i:isM L [41] s=false:=hn s h (by rw[D]at f;exact f.head);have F:∃v w,(r.map ((fun y=>[(2,[44])]++y) ∘ U)).flatten++[(2,[41])]=v::w/\g v:=by
   cases r with
   |nil=>exact⟨_,_,rfl,n⟩
   |cons c r=>exact⟨(2,[44]),U c++(r.map ((fun y=>[(2,[44])]++y) ∘ U)).flatten++[(2,[41])],by simp,m⟩
  obtain⟨v,w,hv,A⟩:=F;obtain⟨t,p,C⟩:=hd.at' h e1 (by rw[hv]at f;exact f) A;obtain⟨ts,z,j⟩:=ZjO (U:=U) m n r K ([]++[t]) (Zc s (U b).length) h e1 f.right (by simp at B;omega) fun c hc=>(o c (List.mem_cons_of_mem _ hc)).1;refine⟨t::ts,?_,Za4.cons C j⟩;rw[List.map_cons,ZeJ,List.map_map];simp only[ZT,h,i,if_true];rw[Yn (by decide),p,z,Zj];simp[Nat.add_assoc,Function.comp_def]
end
end
section
section
variable {L:List Tok}
theorem ZdG {d:Type} {U:d->TS}:∀a:List d,(∀b∈a,U b≠[])->a.length<=((a.map U).flatten).length
 |[],_=>Nat.zero_le _
 |b::r,h=>by
  have e:=ZdG r fun c hc=>h c (List.mem_cons_of_mem _ hc);have f:0<(U b).length:=List.length_pos_iff.2 (h b (by simp));rw[List.map_cons,List.flatten_cons,Yj,Yk];omega
theorem ZbK.some_ {g:Nat×Txt->Prop} {x:Txt} {us:TS} (h:ZbK L g x us):us≠[]:=by obtain⟨u,r,rfl,_⟩:=h;simp
theorem ZlG {h:Type} {d:Int} {st:PS->Tr×PS} {U:h->TS} {P:h->Tr->Prop} {g:Nat×Txt->Prop} (hx:g (2,[125])) (hd:0<=d) (a:List h) (j:∀b∈a,ZZ L d st (U b) g (P b)/\ZbK L g [125] (U b)) :
  ZZ L (d+1) (Zaf L st) (Zaw (a.map U)) (fun _=>True) fun t=>∃ts p,Za4 P a ts/\t=.mk 7 [] [] p ts:=fun s u i e1 n _=>by
 have c:Zam L s.at_ ([(2,[123])]++((a.map U).flatten++[(2,[125])])):=by have:=n.left;unfold Zaw at this;rw[List.append_assoc]at this;exact this
 have o:kt (Zg L s.at_)=(2,[123]):=c.left.head;have m:a.length<L.length+1:=by have q:=ZdG (U:=U) a fun b e=>(j b e).2.some_;have l:=c.right.1;rw[Yj]at l;omega
 obtain⟨ts,k,f⟩:=Zfk (U:=U) hx a (L.length+1) [] (ZfF (Zc s 1)) i (by show s.deep+1+d<=200;omega) c.right m j;refine⟨.mk 7 [] [] (Ze L s) ts,?_,ts,_,f,rfl⟩;unfold Zaf;simp only;rw[Zba i o,Zjy (s:=Zc s 1) (by show s.deep+1<=200;omega),k];show(_,ZdU (Zc (ZfF (Zc s 1)) _))=_;rw[Zir,Zj];simp[Zaw,Nat.add_comm]
theorem ZiE:∀(r:List Txt) (K:Nat) (l:List Txt) (s:PS) (u:Nat×Txt),s.err=0->Zam L s.at_ ((r.map fun w=>[((2:Nat),([124]:Txt)),(0,w)]).flatten++[u])->u.2≠[124]->r.length<=K->(∀w∈r,ZN w=true)->Zdd L K l s=(l++r,Zc s (2*r.length))
 |[],K,l,s,u,e0,hh,hu,_,_=>by
  have a:kt (Zg L s.at_)=(u.1,u.2):=hh.head;cases K with
  |zero=>simp[Zdd,Zc]
  |succ K=>simp[Zdd,ZH e0 a hu,Zc]
 |w::r,K,l,s,u,e0,hh,hu,hK,hn=>by
  obtain⟨K,rfl⟩:∃k,K=k+1:=⟨K-1,by simp at hK;omega⟩
  rw[List.map_cons,List.flatten_cons,List.append_assoc]at hh;have a:kt (Zg L s.at_)=(2,[124]):=hh.left.head;have d:kt (Zg L (Zc s 1).at_)=(0,w):=hh.left.tail.head;have b:=ZiE r K (l++[w]) (Zc (Zc s 1) 1) u e0 hh.right hu (by simp at hK;omega) fun c hc=>hn c (List.mem_cons_of_mem _ hc);simp only[Zdd,ZcM e0 a,if_true,Zag];rw[Zal (s:=Zc s 1) e0 d (hn w (by simp)),b,Zj,Zj,show 1+(1+2*r.length)=2*(w::r).length by simp only[Yk];omega];simp
theorem ZkD:∀r:List Txt,((r.map fun w=>[((2:Nat),([124]:Txt)),(0,w)]).flatten).length=2*r.length
 |[]=>rfl
 |b::r=>by
  rw[List.map_cons,List.flatten_cons,Yj,ZkD r];simp only[Yk,Yl];omega
theorem ZlQ {w a:Txt} {r:List Txt} {which:Int} {s:PS} {u:Nat×Txt} (d:s.err=0) (i:isKey w=true) (b:Zam L s.at_ ([(0,w)]++Zaj [(2,[124])] ((a::r).map fun x=>[(0,x)])++[u])) (h:u.2≠[124]) (hn:∀x∈a::r,ZN x=true) :
  ∃p,Zz L w which s=([.mk 6 (a::r) [which] p []],Zc s (1+(Zaj [(2,[124])] ((a::r).map fun x=>[((0:Nat),x)])).length)):=by
 have f:Zaj [(2,[124])] ((a::r).map fun x=>[((0:Nat),x)])=[(0,a)]++(r.map fun w=>[((2:Nat),([124]:Txt)),(0,w)]).flatten:=by rw[List.map_cons,ZeJ,List.map_map];rfl
 have e:=ZkD r;rw[f]at b⊢;rw[List.append_assoc,List.append_assoc]at b;have k:kt (Zg L s.at_)=(0,w):=b.left.head;have l:kt (Zg L (Zc s 1).at_)=(0,a):=b.right.left.head;have g:r.length<=L.length:=by have:=b.1;simp only[Yj,e]at this;omega
 have j:=ZiE r L.length [a] (Zc (Zc s 1) 1) u d b.right.right h g fun c hc=>hn c (List.mem_cons_of_mem _ hc);refine⟨Ze L s,?_⟩;unfold Zz;rw[Zca d k i,Yo rfl,Zag];simp only;rw[Zal (s:=Zc s 1) d l (hn a (by simp)),j,Zj,Zj,Yj,e];simp
end
end
section
section
variable {L:List Tok}
theorem ZiX {k:Int} {a:Nat} {s:PS} (f:a=0\/a=1) (g:(a:Int)<=k) (i:k<=4) (d:s.err=0) (h:kt (Zg L s.at_)=(0,Zax k)):ZC L (Zr a) s=(k,Zc s 1):=by
 have c:∀j,Zax k≠Zax j->isM L (Zax j) s=false:=fun j e=>ZH d h e;have b:isKey (Zax k)=true->isM L (Zax k) s=true:=fun hk=>Zca d h hk;have:k=0\/k=1\/k=2\/k=3\/k=4:=by omega
 rcases f with rfl|rfl
 ·rcases this with rfl|rfl|rfl|rfl|rfl
  ·simp only[Zr,List.drop,ZC,b (by decide),if_true,Zag]
  ·simp[Zr,ZC,c 0 (by decide),b (by decide),Zag]
  ·simp[Zr,ZC,c 0 (by decide),c 1 (by decide),b (by decide),Zag]
  ·simp[Zr,ZC,c 0 (by decide),c 1 (by decide),c 2 (by decide),b (by decide),Zag]
  ·simp[Zr,ZC,c 0 (by decide),c 1 (by decide),c 2 (by decide),c 3 (by decide),b (by decide),Zag]
 ·rcases this with rfl|rfl|rfl|rfl|rfl
  ·omega
  ·simp[Zr,ZC,b (by decide),Zag]
  ·simp[Zr,ZC,c 1 (by decide),b (by decide),Zag]
  ·simp[Zr,ZC,c 1 (by decide),c 2 (by decide),b (by decide),Zag]
  ·simp[Zr,ZC,c 1 (by decide),c 2 (by decide),c 3 (by decide),b (by decide),Zag]
theorem Zh9:∀(l:List Txt) (K:Nat) (e:List Txt) (s:PS) (u:Nat×Txt),s.err=0->Zam L s.at_ (Zaj [(2,[44])] (Zct l)++[u])->u.2≠[44]->l.length<=K->l.length % 2=0->2<=l.length->(∀w∈l,ZN w=true)->Zcw L K e s=(e++l,Zc s (Zaj [(2,[44])] (Zct l)).length)
 |[],_,_,_,_,_,_,_,_,_,h,_=>by simp at h
 |[_],_,_,_,_,_,_,_,_,h,_,_=>by simp at h
 |[a,b],K,e,s,u,e0,hh,hu,hK,_,_,hn=>by
  obtain⟨K,rfl⟩:∃k,K=k+1:=⟨K-1,by simp at hK;omega⟩
  have f:kt (Zg L s.at_)=(0,a):=hh.head;have g:kt (Zg L (Zc s 1).at_)=(0,b):=hh.tail.head;have i:kt (Zg L (Zc (Zc s 1) 1).at_)=(u.1,u.2):=hh.tail.tail.head;have j:=ZH (s:=Zc (Zc s 1) 1) e0 i hu;simp only[Zcw,e0,if_true,Zal e0 f (hn a (by simp)),Zal (s:=Zc s 1) e0 g (hn b (by simp)),j];simp[Zct,Zaj,Zj]
 |[a,b,c],_,_,_,_,_,_,_,_,h,_,_=>by simp at h
 |a::b::c::d::r,K,e,s,u,e0,hh,hu,hK,he,_,hn=>by
  obtain⟨K,rfl⟩:∃k,K=k+1:=⟨K-1,by simp at hK;omega⟩
  have n:Zaj [(2,[44])] (Zct (a::b::c::d::r))=[(0,a),(0,b),(2,[44])]++Zaj [(2,[44])] (Zct (c::d::r)):=by simp[Zct,Zaj]
  rw[n,List.append_assoc]at hh;rw[n];have f:kt (Zg L s.at_)=(0,a):=hh.head;have g:kt (Zg L (Zc s 1).at_)=(0,b):=hh.tail.head;have i:kt (Zg L (Zc (Zc s 1) 1).at_)=(2,[44]):=hh.tail.tail.head;have j:=ZcM (s:=Zc (Zc s 1) 1) e0 i;have p:=Zh9 (c::d::r) K (e++[a,b]) (Zc (Zc (Zc s 1) 1) 1) u e0 hh.right hu (by simp at hK⊢;omega) (by simp only[Yk]at he⊢;omega) (by simp) fun w o=>hn w (List.mem_cons_of_mem _ (List.mem_cons_of_mem _ o));simp only[Zcw,e0,if_true,Zal e0 f (hn a (by simp)),Zal (s:=Zc s 1) e0 g (hn b (by simp)),j,Zag];rw[p,Zj,Zj,Zj,Yj,show ∀m,1+(1+(1+m))=[((0:Nat),a),(0,b),(2,[44])].length+m from fun m=>by simp only[Yk,Yl];omega];simp
end
end
section
section
variable {L:List Tok}
theorem Zdi {ns:List Nd} {f:Nat} {n:Nd} {k:Int} {w:List Txt} {u:List Int} {p:Int} (hk:n.kind=k) (e:n.words=w) (d:n.nums=u) (a:n.kids=[]):Zs ns (f+1) n (.mk k w u p []):=
 ⟨hk.symm,e.symm,d.symm,by rw[a];rfl,fun i t c b=>by simp at b⟩
theorem ZiY:∀r:List Txt,r.length % 2=0->2<=r.length->r.length<=(Zaj [(2,[44])] (Zct r)).length
 |[],_,h=>by simp at h
 |[_],h,_=>by simp at h
 |[a,b],_,_=>by simp[Zct,Zaj]
 |[a,b,c],h,_=>by simp at h
 |a::b::c::d::r,he,_=>by
  have e:Zaj [(2,[44])] (Zct (a::b::c::d::r))=[(0,a),(0,b),(2,[44])]++Zaj [(2,[44])] (Zct (c::d::r)):=by simp[Zct,Zaj]
  have f:=ZiY (c::d::r) (by simp only[Yk]at he⊢;omega) (by simp);rw[e,Yj];simp only[Yk,Yl]at f⊢;omega
theorem ZnJ {ns:List Nd} (R:RightP ns) {f i:Nat} {n:Nd} (hn:ns[i]? = some n) (h:Zfm n):ZZ L 0 (Zbn L) (ZcR n) (fun _=>True) (Zs ns (f+1) n):=fun s v c _ l _=>by
 obtain⟨H,M,j⟩:=R.node i n hn;rcases h with⟨hk,a,b,r,hs,o,G⟩|⟨hk,⟨x,hs⟩,z,hm,Q,S⟩
 ·have A:Zm ns n=(decide (4<=n.words.length)&&decide (n.words.length % 2=0)&&ZF n n.words.length 0&&Zp ns n.kids []):=by simp[Zm,hk]
  rw[A,Bool.and_eq_true,Bool.and_eq_true]at j;have C:n.nums=[]:=List.length_eq_zero_iff.1 (ZaL j.1.2).2;have e:=Zhj j.2;have F:∀w∈n.words,ZN w=true:=fun w hx=>List.all_eq_true.mp H w hx;have m:ZcR n=[(0,[111,112]),(0,a),(0,b),(2,[45,62])]++(Zaj [(2,[44])] (Zct r)++[(2,[59])]):=by simp[ZcR,hk,word,hs]
  rw[m]at l⊢;have d:=l.left;have g:kt (Zg L s.at_)=(0,[111,112]):=d.head;have q:kt (Zg L (Zc s 1).at_)=(0,a):=d.tail.head;have t:kt (Zg L (Zc (Zc s 1) 1).at_)=(0,b):=d.tail.tail.head;have N:kt (Zg L (Zc (Zc (Zc s 1) 1) 1).at_)=(2,[45,62]):=d.tail.tail.tail.head;have B:=d.right;have K:r.length<=L.length+1:=by have T:=ZiY r o G;have J:=B.1;rw[Yj]at J;omega
  have I:=Zh9 r (L.length+1) [a,b] (Zc s 4) (2,[59]) c B (by decide) K o G fun w hx=>F w (by rw[hs];simp[hx]);have O:kt (Zg L (Zc (Zc s 4) (Zaj [(2,[44])] (Zct r)).length).at_)=(2,[59]):=B.right.head;refine⟨_,?_,Zdi (p:=Ze L s) hk hs C e⟩;have E:isM L [115,116,97,116,101] s=false:=ZH c g (by decide);have P:isM L [102,105,110,97,108] s=false:=ZH c g (by decide);simp only[Zbn,E,P,Zfv c g (by decide),Zal (s:=Zc s 1) c q (F a (by rw[hs];simp)),Zal (s:=Zc (Zc s 1) 1) c t (F b (by rw[hs];simp)),Zba (s:=Zc (Zc (Zc s 1) 1) 1) c N];rw[Yn (by decide),Yn (by decide),Zj,Zj,Zj,I,Zba (s:=Zc (Zc s 4) _) c O,Zj,Zj];simp only[List.cons_append,List.nil_append,Yk,Yj,Yl,Prod.mk.injEq,true_and]
  congr 1
  omega
 ·have A:Zm ns n=(ZF n 1 1&&decide (num n 0<=1)&&Zp ns n.kids []):=by simp[Zm,hk]
  rw[A,Bool.and_eq_true,Bool.and_eq_true]at j;have e:=Zhj j.2;obtain⟨y,u⟩:=ZeH (ZaL j.1.1).2;have D:num n 0=y:=ZcG (k:=0) (z:=y) (by rw[u];rfl);have hx:ZN x=true:=List.all_eq_true.mp H x (by rw[hs];simp);have U:0<=y:=(ZaR M (x:=y) (by rw[u];simp)).1;have V:y<=1:=by have:=j.1.2;rw[D,decide_eq_true_eq]at this;exact this
  have:y=0\/y=1:=by omega
  rcases this with rfl|rfl
  ·have m:ZcR n=[(0,[115,116,97,116,101]),(0,x),(2,[59])]:=by simp[ZcR,hk,word,hs,D]
   rw[m]at l⊢;have d:=l.left;have g:kt (Zg L s.at_)=(0,[115,116,97,116,101]):=d.head;have q:kt (Zg L (Zc s 1).at_)=(0,x):=d.tail.head;have t:kt (Zg L (Zc (Zc s 1) 1).at_)=(2,[59]):=d.tail.tail.head;refine⟨_,?_,Zdi (p:=Ze L s) hk hs u e⟩;simp only[Zbn,Zca c g (by decide),if_true,Zag,Zal (s:=Zc s 1) c q hx];rw[Zba (s:=Zc (Zc s 1) 1) c t];rfl
  ·have m:ZcR n=[(0,[102,105,110,97,108]),(0,x),(2,[59])]:=by simp[ZcR,hk,word,hs,D]
   rw[m]at l⊢;have d:=l.left;have g:kt (Zg L s.at_)=(0,[102,105,110,97,108]):=d.head;have q:kt (Zg L (Zc s 1).at_)=(0,x):=d.tail.head;have t:kt (Zg L (Zc (Zc s 1) 1).at_)=(2,[59]):=d.tail.tail.head;have E:isM L [115,116,97,116,101] s=false:=ZH c g (by decide);refine⟨_,?_,Zdi (p:=Ze L s) hk hs u e⟩;simp only[Zbn,E,Zca c g (by decide),if_true,Zag,Zal (s:=Zc s 1) c q hx];rw[Yn (by decide),Zba (s:=Zc (Zc s 1) 1) c t];rfl
end
end
section
section
variable {L:List Tok}
theorem Zcv {ns:List Nd} {f:Nat} {n:Nd} {k:Int} {w:List Txt} {u:List Int} {p:Int} {ts:List Tr} (hk:n.kind=k) (d:n.words=w) (b:n.nums=u) (h:Za4 (fun c=>Zs ns f (Za ns c)) n.kids ts):Zs ns (f+1) n (.mk k w u p ts):=
 ⟨hk.symm,d.symm,b.symm,h.1,fun i t c a hc=>h.2 i t c a hc⟩
theorem ZlT {n:Nd} (h:Zfm n):ZbK L (fun _=>True) [125] (ZcR n):=by
 rcases h with⟨hk,_⟩|⟨hk,_⟩
 ·have b:∃r,ZcR n=(0,[111,112])::r:=⟨_,by simp[ZcR,hk];rfl⟩
  obtain⟨r,d⟩:=b;exact⟨_,r,d,trivial,fun s a h=>ZH a h (by decide)⟩
 ·have b:∃c r,ZcR n=(0,c)::r/\c≠[125]:=by
   have e:¬n.kind=3:=by rw[hk];decide
   unfold ZcR;rw[Yn e]
   split
   ·exact⟨_,_,rfl,by decide⟩
   ·exact⟨_,_,rfl,by decide⟩
  obtain⟨c,r,d,hc⟩:=b;exact⟨_,r,d,trivial,fun s a h=>ZH a h hc⟩
theorem ZlZ {ns:List Nd} (R:RightP ns) {f g i:Nat} {n:Nd} (hn:ns[i]? = some n) (hk:n.kind=1) {x:Txt} (hs:n.words=[x]) (r:Zaa ns n.kids Zfm):ZZ L 0 (ZbI L) (ZcB ns g n) (fun _=>True) (Zs ns (f+2) n):=fun s v e e1 m _=>by
 obtain⟨A,F,o⟩:=R.node i n hn;have w:Zm ns n=(ZF n 1 0&&ZbJ ns n.kids (isB [2,3])):=by simp[Zm,hk]
 rw[w,Bool.and_eq_true]at o;have j:n.nums=[]:=List.length_eq_zero_iff.1 (ZaL o.1).2;have hx:ZN x=true:=List.all_eq_true.mp A x (by rw[hs];simp);have u:ZcB ns g n=[(0,[112,114,111,116,111]),(0,x),(2,[123])]++((n.kids.map fun k=>ZcR (Za ns k)).flatten++[(2,[125])]):=by simp[ZcB,hk,word,hs,Zaw]
 rw[u]at m⊢;have d:=m.left;have B:kt (Zg L s.at_)=(0,[112,114,111,116,111]):=d.head;have C:kt (Zg L (Zc s 1).at_)=(0,x):=d.tail.head;have D:kt (Zg L (Zc (Zc s 1) 1).at_)=(2,[123]):=d.tail.tail.head
 have a:∀b∈n.kids,ZZ L 0 (Zbn L) (ZcR (Za ns b)) (fun _=>True) (Zs ns (f+1) (Za ns b))/\ZbK L (fun _=>True) [125] (ZcR (Za ns b)):=fun b a=>by
  obtain⟨q,hq⟩:=ZaA R hn a;exact⟨ZnJ R hq (r b a).2.2,ZlT (r b a).2.2⟩
 have z:n.kids.length<L.length+1:=by have E:=ZdG (U:=fun k=>ZcR (Za ns k)) n.kids fun b h=>(a b h).2.some_;have y:=d.right.1;rw[Yj]at y;omega
 obtain⟨G,t,l⟩:=Zfk (U:=fun k=>ZcR (Za ns k)) (P:=fun c=>Zs ns (f+1) (Za ns c)) (x:=[125]) trivial n.kids (L.length+1) [] (Zc (Zc (Zc s 1) 1) 1) e e1 d.right z a;refine⟨_,?_,Zcv (p:=Ze L s) hk hs j l⟩;unfold ZbI;simp only;rw[Zfv e B (by decide),Zal (s:=Zc s 1) e C hx];simp only;rw[Zba (s:=Zc (Zc s 1) 1) e D,t,Zj,Zj,Zj];simp only[List.nil_append,List.cons_append,Yk,Yj,Yl,Prod.mk.injEq,true_and]
 congr 1
 omega
end
end
end Go.Proofs.YtfbepcelkijgkaaGreatDoor
