import Derived.Test.YtdkegpkfjgloeaaGreatDoorQAR
set_option maxRecDepth 100000
set_option maxHeartbeats 8000000
namespace Go.Proofs.YtdkegpkfjgloeaaGreatDoor
section
section
variable {L:List Tok}
def opK (ns:List Nd) (f:Nat) (m:Nd) (a:Nat):TS:=if a<=ZD m then ZY ns f m else [(2,[40])]++ZY ns f m++[(2,[41])]
theorem ER.less {d e:Int} {o:PS->Tr×PS} {f:Nat} {us:TS} {T n:Tr->Prop} (h:ER L d o f us T) (hd:d<=e) (g:∀t,T t->n t):ER L e o f us n where
 p hs:=(h.p hs).less hd (fun _ h=>h) g
 q hs:=fun s u K i e1 l m j=>by
  obtain⟨t,k,a,b,c⟩:=h.q hs s u K i (by omega) l m j;exact⟨t,k,a,b,g t c⟩
 s hs:=fun s u K i e1 l m j=>by
  obtain⟨t,k,a,b,c⟩:=h.s hs s u K i (by omega) l m j;exact⟨t,k,a,b,g t c⟩
 x:=h.x.less hd (fun _ h=>h) g
theorem ZpH {ns:List Nd} {f:Nat} {n:Nd} {o:Int} {j k:Int} (hk:n.kind=22) (m:n.words=[]) (l:n.nums=[o]) (e:n.kids=[j,k]) {t:Tr} (h:∃a b,Zv ns f (Zb ns j) a/\Zv ns f (Zb ns k) b/\t=Zbd o a b):Zv ns (f+1) n t:=by
 obtain⟨a,b,ha,g,rfl⟩:=h;refine⟨hk.symm,m.symm,l.symm,by rw[e];rfl,fun i t c d hc=>?_⟩;rw[e]at hc
 match i,d,hc with
 |0,d,hc=>injection d with d;injection hc with hc;subst d hc;exact ha
 |1,d,hc=>injection d with d;injection hc with hc;subst d hc;exact g
 |i+2,d,hc=>simp at d
theorem ZiA {ns:List Nd} (R:RightP ns):∀(f i:Nat) (n:Nd) (g:Nat),ns[i]? = some n->ZZ ns f n->2*f<=g->ER L (2*f:Nat) (ZK L g) (ZD n) (ZY ns f n) (Zv ns f n)
 |0,_,_,_,_,h,_=>h.elim
 |f+1,i,n,g,hn,h,hg=>by
  obtain⟨g,rfl⟩:∃y,g=y+2:=⟨g-2,by omega⟩
  have C:∀(c:Int),c∈n.kids->ZZ ns f (Zb ns c)->∀y,2*f<=y->ER L (2*f:Nat) (ZK L y) (ZD (Zb ns c)) (ZY ns f (Zb ns c)) (Zv ns f (Zb ns c)):=fun c hc hv y A=>by
   obtain⟨q,hq⟩:=ZaI R hn hc;exact ZiA R f q _ y hq hv A
  have G:∀(c:Int),c∈n.kids->ZZ ns f (Zb ns c)->∀y,2*f<=y->Zad L ((2*f:Nat)+1) (ZK L (y+1)) ([(2,[40])]++ZY ns f (Zb ns c)++[(2,[41])]) gP (Zv ns f (Zb ns c)):=fun c hc hv y A=>Zm7 (C c hc hv y A).x (by omega)
  have T:∀(c:Int),c∈n.kids->ZZ ns f (Zb ns c)->∀y,2*f<=y->Zad L ((2*f:Nat)+1) (ZK L (y+1)) (opK ns f (Zb ns c) 3) gP (Zv ns f (Zb ns c)):=fun c hc hv y A=>by
   unfold opK
   split
   ·rename_i D;exact((C c hc hv (y+1) (by omega)).p D).less (by omega) (fun _ h=>h) fun _ h=>h
   ·exact G c hc hv y A
  have O:∀(c:Int),c∈n.kids->ZZ ns f (Zb ns c)->Zel L ((2*f:Nat)+1) (ZK L (g+2)) [42] [47] 4 5 (opK ns f (Zb ns c) 2) gP (Zv ns f (Zb ns c)):=fun c hc hv=>by
   unfold opK
   split
   ·rename_i D;exact((C c hc hv (g+2) (by omega)).less (e:=(2*f:Nat)+1) (by omega) fun _ h=>h).q D
   ·exact Zea (G c hc hv (g+1) (by omega))
  have K:∀(c:Int),c∈n.kids->ZZ ns f (Zb ns c)->Zel L ((2*f:Nat)+1) (Zay L (ZK L (g+2))) [43] [45] 2 3 (opK ns f (Zb ns c) 1) gQ (Zv ns f (Zb ns c)):=fun c hc hv=>by
   unfold opK
   split
   ·rename_i D;exact((C c hc hv (g+2) (by omega)).less (e:=(2*f:Nat)+1) (by omega) fun _ h=>h).s D
   ·exact Zea (ZdX (Zea (G c hc hv (g+1) (by omega))))
  rcases Ziy R hn h with⟨hk,N,l,v,hv,r⟩|⟨hk,E,l,s,D,S⟩|⟨hk,N,E,k,l,hv⟩|⟨hk,N,o,j,k,E,U,V,l,hv,r⟩
  ·have F:ZY ns (f+1) n=[(1,ZbP v)]:=by simp[ZY,hk,ZcF (n:=n) (k:=0) (z:=v) (by rw[hv];rfl)]
   rw[F];refine ER.piece fun s u P e1 Q E=>⟨_,Zpc P Q.left.head (Zez r) r.1,hk.symm,N.symm,hv.symm,by rw[l];rfl,fun i t c B=>?_⟩;simp at B
  ·have F:ZY ns (f+1) n=[(0,s)]:=by simp[ZY,hk,ZmV (n:=n) (k:=0) (s:=s) (by rw[D];rfl)]
   rw[F];refine ER.piece fun s u P e1 Q _=>⟨_,ZnA P Q.left.head S,hk.symm,D.symm,E.symm,by rw[l];rfl,fun i t c B=>?_⟩;simp at B
  ·have F:ZY ns (f+1) n=[(2,[45])]++opK ns f (Zb ns k) 3:=by simp[ZY,hk,opK,Za2 (ns:=ns) (d:=n) (m:=0) (k:=k) (by rw[l];rfl)]
   rw[F];refine ER.piece ((Zm6 (T k (by rw[l];simp) hv g (by omega)) (by omega)).less (by omega) (fun _ h=>h) ?_);rintro t ⟨a,p,ha,rfl⟩;refine⟨hk.symm,N.symm,E.symm,by rw[l];rfl,fun i t c B hc=>?_⟩;rw[l]at hc
   match i,B,hc with
   |0,B,hc=>injection B with B;injection hc with hc;subst B hc;exact ha
   |i+1,B,hc=>simp at B
  ·have I:j∈n.kids:=by rw[l];simp
   have J:k∈n.kids:=by rw[l];simp
   have F:ZY ns (f+1) n=opK ns f (Zb ns j) (max (ZD n) 1)++ZhR o++opK ns f (Zb ns k) (ZD n+1):=by simp[ZY,hk,opK,Za2 (ns:=ns) (d:=n) (m:=0) (k:=j) (by rw[l];rfl),Za2 (ns:=ns) (d:=n) (m:=1) (k:=k) (by rw[l];rfl),ZcF (n:=n) (k:=0) (z:=o) (by rw[E];rfl)]
   have M:∀t,(∃a b,Zv ns f (Zb ns j) a/\Zv ns f (Zb ns k) b/\t=Zbd o a b)->Zv ns (f+1) n t:=fun t h=>ZpH hk N E l h;have w:ZD n=if o<=1 then 0 else if o<=3 then 1 else 2:=by simp[ZD,hk,ZcF (n:=n) (k:=0) (z:=o) (by rw[E];rfl)]
   rw[F];have H:(((2*f:Nat):Int)+1)<=((2*(f+1):Nat):Int):=by omega
   have:o=0\/o=1\/o=2\/o=3\/o=4\/o=5:=by omega
   rcases this with rfl|rfl|rfl|rfl|rfl|rfl
   ·have w:ZD n=0:=w;rw[w];exact ER.less (ER.cmp (Zhg (z:=[60]) (Zer (K j I hv)) (Zer (K k J r)) (.inl ⟨rfl,rfl⟩)) (by omega)) H M
   ·have w:ZD n=0:=w;rw[w];exact ER.less (ER.cmp (Zhg (z:=[61,61]) (Zer (K j I hv)) (Zer (K k J r)) (.inr ⟨rfl,rfl⟩)) (by omega)) H M
   ·have w:ZD n=1:=w;rw[w];exact ER.less (ER.sum (ZfJ (z:=[43]) (K j I hv) (ZdX (O k J r)) (by refine⟨trivial,?_,?_⟩<;>decide) (.inl ⟨rfl,rfl⟩)) (by omega)) H M
   ·have w:ZD n=1:=w;rw[w];exact ER.less (ER.sum (ZfJ (z:=[45]) (K j I hv) (ZdX (O k J r)) (by refine⟨trivial,?_,?_⟩<;>decide) (.inr ⟨rfl,rfl,by decide⟩)) (by omega)) H M
   ·have w:ZD n=2:=w;rw[w];exact ER.less (ER.prod (ZfJ (z:=[42]) (O j I hv) (T k J r (g+1) (by omega)) trivial (.inl ⟨rfl,rfl⟩)) (by omega)) H M
   ·have w:ZD n=2:=w;rw[w];exact ER.less (ER.prod (ZfJ (z:=[47]) (O j I hv) (T k J r (g+1) (by omega)) trivial (.inr ⟨rfl,rfl,by decide⟩)) (by omega)) H M
end
end
section
section
variable {L:List Tok}
def Za6 {c:Type} (P:c->Tr->Prop) (a:List c) (ts:List Tr):Prop:=ts.length=a.length/\∀(i:Nat) (t:Tr) (b:c),ts[i]? = some t->a[i]? = some b->P b t
theorem Za6.nil {a:Type} (P:a->Tr->Prop):Za6 P [] []:=⟨rfl,fun i t b h=>by simp at h⟩
theorem Za6.cons {d:Type} {P:d->Tr->Prop} {b:d} {r:List d} {t:Tr} {ts:List Tr} (h:P b t) (e:Za6 P r ts):Za6 P (b::r) (t::ts):=⟨by simp[e.1],fun i g f c a=>by
 cases i with
 |zero=>injection c with c;injection a with a;subst c a;exact h
 |succ i=>exact e.2 i g f c a⟩
def ZbO (L:List Tok) (g:Nat×Txt->Prop) (x:Txt) (us:TS):Prop:=∃u r,us=u::r/\g u/\∀s:PS,s.err=0->kt (Zl L s.at_)=u->isM L x s=false
theorem Zad.at' {d:Int} {m:PS->Tr×PS} {us vs:TS} {g:Nat×Txt->Prop} {T:Tr->Prop} (h:Zad L d m us g T) {s:PS} {u:Nat×Txt} (b:s.err=0) (e1:s.deep+d<=200) (a:Zar L s.at_ (us++u::vs)) (c:g u):∃t,m s=(t,Zd s us.length)/\T t:=by refine h s u b e1 ?_ c;rw[<-List.singleton_append,<-List.append_assoc]at a;exact a.left
theorem Zfd {j:Type} {d:Int} {e:PS->Tr×PS} {x:Txt} {U:j->TS} {P:j->Tr->Prop} {g:Nat×Txt->Prop} (hx:g (2,x)):∀(a:List j) (K:Nat) (l:List Tr) (s:PS),s.err=0->s.deep+d<=200->Zar L s.at_ ((a.map U).flatten++[(2,x)])->a.length<K->(∀b∈a,Zad L d e (U b) g (P b)/\ZbO L g x (U b)) ->
  ∃ts,Zbc L e x K l s=(l++ts,Zd s ((a.map U).flatten.length+1))/\Za6 P a ts
 |[],K,l,s,e0,e1,hh,hK,_=>by
  obtain⟨K,rfl⟩:∃k,K=k+1:=⟨K-1,by simp at hK;omega⟩
  refine⟨[],?_,Za6.nil P⟩;simp[Zbc,e0,ZcL e0 hh.head,Zak]
 |b::r,K,l,s,e0,e1,hh,hK,hb=>by
  obtain⟨K,rfl⟩:∃k,K=k+1:=⟨K-1,by simp at hK;omega⟩
  obtain⟨hd,u,q,p,z,hn⟩:=hb b (by simp);rw[List.map_cons,List.flatten_cons,List.append_assoc]at hh;have h:isM L x s=false:=hn s e0 (by rw[p]at hh;exact hh.head);have y:∃v w,(r.map U).flatten++[(2,x)]=v::w/\g v:=by
   cases r with
   |nil=>exact⟨_,_,rfl,hx⟩
   |cons c r=>
    obtain⟨_,v,w,hv,f,_⟩:=hb c (by simp);exact⟨v,w++(r.map U).flatten++[(2,x)],by rw[List.map_cons,List.flatten_cons,hv];simp,f⟩
  obtain⟨v,w,hv,f⟩:=y;obtain⟨t,m,o⟩:=hd.at' e0 e1 (by rw[hv]at hh;exact hh) f;obtain⟨ts,n,i⟩:=Zfd hx r K (l++[t]) (Zd s (U b).length) e0 e1 hh.right (by simp at hK;omega) fun c hc=>hb c (List.mem_cons_of_mem _ hc);refine⟨t::ts,?_,Za6.cons o i⟩;simp only[Zbc,e0,h,m,if_true];rw[Yn (by decide),n,Zn];simp[Nat.add_assoc]
theorem ZeE (s:TS) (x:TS):∀r:List TS,Zao s (x::r)=x++(r.map fun y=>s++y).flatten
 |[]=>by simp[Zao]
 |y::r=>by
  have:=ZeE s y r;rw[Zao,this];simp
theorem Zjx {j:Type} {d:Int} {e:PS->Tr×PS} {U:j->TS} {P:j->Tr->Prop} {g:Nat×Txt->Prop} (m:g (2,[44])) (n:g (2,[41])):∀(a:List j) (K:Nat) (l:List Tr) (s:PS),s.err=0->s.deep+d<=200->Zar L s.at_ ((a.map fun b=>[(2,[44])]++U b).flatten++[(2,[41])])->a.length<K->(∀b∈a,Zad L d e (U b) g (P b)) ->
  ∃ts,Zal L e K false l s=(l++ts,Zd s ((a.map fun b=>[(2,[44])]++U b).flatten.length+1))/\Za6 P a ts
 |[],K,l,s,e0,e1,hh,hK,_=>by
  obtain⟨K,rfl⟩:∃k,K=k+1:=⟨K-1,by simp at hK;omega⟩
  refine⟨[],?_,Za6.nil P⟩;simp[Zal,e0,ZcL e0 hh.head,Zak]
 |b::r,K,l,s,e0,e1,hh,hK,hb=>by
  obtain⟨K,rfl⟩:∃k,K=k+1:=⟨K-1,by simp at hK;omega⟩
  rw[List.map_cons,List.flatten_cons,List.append_assoc,List.append_assoc]at hh;have o:kt (Zl L s.at_)=(2,[44]):=hh.left.head;have h:isM L [41] s=false:=ZJ e0 o (by decide);have f:=hh.right;have z:∃v w,(r.map fun b=>[(2,[44])]++U b).flatten++[(2,[41])]=v::w/\g v:=by
   cases r with
   |nil=>exact⟨_,_,rfl,n⟩
   |cons c r=>exact⟨(2,[44]),U c++(r.map fun b=>[(2,[44])]++U b).flatten++[(2,[41])],by simp,m⟩
  obtain⟨v,w,hv,u⟩:=z;obtain⟨t,p,y⟩:=(hb b (by simp)).at' (s:=Zd s 1) e0 e1 (by rw[hv]at f;exact f) u;obtain⟨ts,q,i⟩:=Zjx m n r K (l++[t]) (Zd (Zd s 1) (U b).length) e0 e1 f.right (by simp at hK;omega) fun c hc=>hb c (List.mem_cons_of_mem _ hc);refine⟨t::ts,?_,Za6.cons y i⟩;simp only[Zal,e0,h,if_true];rw[Yn (by decide),Yn (by decide),Zbe e0 o,p,q,Zn,Zn];simp[Nat.add_comm,Nat.add_left_comm]
theorem Zhe {l:Type} {d:Int} {e:PS->Tr×PS} {U:l->TS} {P:l->Tr->Prop} {g:Nat×Txt->Prop} (m:g (2,[44])) (n:g (2,[41])) (a:List l) (K:Nat) (s:PS) (h:s.err=0) (e1:s.deep+d<=200) (f:Zar L s.at_ (Zao [(2,[44])] (a.map U)++[(2,[41])])) (B:a.length<K) (o:∀b∈a,Zad L d e (U b) g (P b)/\ZbO L (fun _=>True) [41] (U b)) :
  ∃ts,Zal L e K true [] s=(ts,Zd s ((Zao [(2,[44])] (a.map U)).length+1))/\Za6 P a ts:=by
 obtain⟨K,rfl⟩:∃k,K=k+1:=⟨K-1,by omega⟩
 cases a with
 |nil=>
  refine⟨[],?_,Za6.nil P⟩;have E:kt (Zl L s.at_)=(2,[41]):=f.head;simp[Zal,h,ZcL h E,Zak,Zao]
 |cons b r=>
  rw[List.map_cons,ZeE,List.map_map,List.append_assoc]at f;obtain⟨hd,u,q,D,_,hn⟩:=o b (by simp);have i:isM L [41] s=false:=hn s h (by rw[D]at f;exact f.head);have F:∃v w,(r.map ((fun y=>[(2,[44])]++y) ∘ U)).flatten++[(2,[41])]=v::w/\g v:=by
   cases r with
   |nil=>exact⟨_,_,rfl,n⟩
   |cons c r=>exact⟨(2,[44]),U c++(r.map ((fun y=>[(2,[44])]++y) ∘ U)).flatten++[(2,[41])],by simp,m⟩
  obtain⟨v,w,hv,A⟩:=F;obtain⟨t,p,C⟩:=hd.at' h e1 (by rw[hv]at f;exact f) A;obtain⟨ts,z,j⟩:=Zjx (U:=U) m n r K ([]++[t]) (Zd s (U b).length) h e1 f.right (by simp at B;omega) fun c hc=>(o c (List.mem_cons_of_mem _ hc)).1;refine⟨t::ts,?_,Za6.cons C j⟩;rw[List.map_cons,ZeE,List.map_map];simp only[Zal,h,i,if_true];rw[Yn (by decide),p,z,Zn];simp[Nat.add_assoc,Function.comp_def]
end
end
section
section
variable {L:List Tok}
theorem ZdG {d:Type} {U:d->TS}:∀a:List d,(∀b∈a,U b≠[])->a.length<=((a.map U).flatten).length
 |[],_=>Nat.zero_le _
 |b::r,h=>by
  have e:=ZdG r fun c hc=>h c (List.mem_cons_of_mem _ hc);have f:0<(U b).length:=List.length_pos_iff.2 (h b (by simp));rw[List.map_cons,List.flatten_cons,Yj,Yk];omega
theorem ZbO.some_ {g:Nat×Txt->Prop} {x:Txt} {us:TS} (h:ZbO L g x us):us≠[]:=by obtain⟨u,r,rfl,_⟩:=h;simp
theorem Zlu {h:Type} {d:Int} {st:PS->Tr×PS} {U:h->TS} {P:h->Tr->Prop} {g:Nat×Txt->Prop} (hx:g (2,[125])) (hd:0<=d) (a:List h) (j:∀b∈a,Zad L d st (U b) g (P b)/\ZbO L g [125] (U b)) :
  Zad L (d+1) (Zaz L st) (ZaE (a.map U)) (fun _=>True) fun t=>∃ts p,Za6 P a ts/\t=.mk 7 [] [] p ts:=fun s u i e1 n _=>by
 have c:Zar L s.at_ ([(2,[123])]++((a.map U).flatten++[(2,[125])])):=by have:=n.left;unfold ZaE at this;rw[List.append_assoc]at this;exact this
 have o:kt (Zl L s.at_)=(2,[123]):=c.left.head;have m:a.length<L.length+1:=by have q:=ZdG (U:=U) a fun b e=>(j b e).2.some_;have l:=c.right.1;rw[Yj]at l;omega
 obtain⟨ts,k,f⟩:=Zfd (U:=U) hx a (L.length+1) [] (ZfA (Zd s 1)) i (by show s.deep+1+d<=200;omega) c.right m j;refine⟨.mk 7 [] [] (Zf L s) ts,?_,ts,_,f,rfl⟩;unfold Zaz;simp only;rw[Zbe i o,Zje (s:=Zd s 1) (by show s.deep+1<=200;omega),k];show(_,Zd0 (Zd (ZfA (Zd s 1)) _))=_;rw[Zih,Zn];simp[ZaE,Nat.add_comm]
theorem Zis:∀(r:List Txt) (K:Nat) (l:List Txt) (s:PS) (u:Nat×Txt),s.err=0->Zar L s.at_ ((r.map fun w=>[((2:Nat),([124]:Txt)),(0,w)]).flatten++[u])->u.2≠[124]->r.length<=K->(∀w∈r,ZQ w=true)->Zd5 L K l s=(l++r,Zd s (2*r.length))
 |[],K,l,s,u,e0,hh,hu,_,_=>by
  have a:kt (Zl L s.at_)=(u.1,u.2):=hh.head;cases K with
  |zero=>simp[Zd5,Zd]
  |succ K=>simp[Zd5,ZJ e0 a hu,Zd]
 |w::r,K,l,s,u,e0,hh,hu,hK,hn=>by
  obtain⟨K,rfl⟩:∃k,K=k+1:=⟨K-1,by simp at hK;omega⟩
  rw[List.map_cons,List.flatten_cons,List.append_assoc]at hh;have a:kt (Zl L s.at_)=(2,[124]):=hh.left.head;have d:kt (Zl L (Zd s 1).at_)=(0,w):=hh.left.tail.head;have b:=Zis r K (l++[w]) (Zd (Zd s 1) 1) u e0 hh.right hu (by simp at hK;omega) fun c hc=>hn c (List.mem_cons_of_mem _ hc);simp only[Zd5,ZcL e0 a,if_true,Zak];rw[Zaq (s:=Zd s 1) e0 d (hn w (by simp)),b,Zn,Zn,show 1+(1+2*r.length)=2*(w::r).length by simp only[Yk];omega];simp
theorem Zkk:∀r:List Txt,((r.map fun w=>[((2:Nat),([124]:Txt)),(0,w)]).flatten).length=2*r.length
 |[]=>rfl
 |b::r=>by
  rw[List.map_cons,List.flatten_cons,Yj,Zkk r];simp only[Yk,Yl];omega
theorem ZlE {w a:Txt} {r:List Txt} {which:Int} {s:PS} {u:Nat×Txt} (d:s.err=0) (i:isKey w=true) (b:Zar L s.at_ ([(0,w)]++Zao [(2,[124])] ((a::r).map fun x=>[(0,x)])++[u])) (h:u.2≠[124]) (hn:∀x∈a::r,ZQ x=true) :
  ∃p,ZL L w which s=([.mk 6 (a::r) [which] p []],Zd s (1+(Zao [(2,[124])] ((a::r).map fun x=>[((0:Nat),x)])).length)):=by
 have f:Zao [(2,[124])] ((a::r).map fun x=>[((0:Nat),x)])=[(0,a)]++(r.map fun w=>[((2:Nat),([124]:Txt)),(0,w)]).flatten:=by rw[List.map_cons,ZeE,List.map_map];rfl
 have e:=Zkk r;rw[f]at b⊢;rw[List.append_assoc,List.append_assoc]at b;have k:kt (Zl L s.at_)=(0,w):=b.left.head;have l:kt (Zl L (Zd s 1).at_)=(0,a):=b.right.left.head;have g:r.length<=L.length:=by have:=b.1;simp only[Yj,e]at this;omega
 have j:=Zis r L.length [a] (Zd (Zd s 1) 1) u d b.right.right h g fun c hc=>hn c (List.mem_cons_of_mem _ hc);refine⟨Zf L s,?_⟩;unfold ZL;rw[Zb5 d k i,Yo rfl,Zak];simp only;rw[Zaq (s:=Zd s 1) d l (hn a (by simp)),j,Zn,Zn,Yj,e];simp
end
end
section
section
variable {L:List Tok}
theorem ZiJ {k:Int} {a:Nat} {s:PS} (f:a=0\/a=1) (g:(a:Int)<=k) (i:k<=4) (d:s.err=0) (h:kt (Zl L s.at_)=(0,ZaH k)):ZP L (Zz a) s=(k,Zd s 1):=by
 have c:∀j,ZaH k≠ZaH j->isM L (ZaH j) s=false:=fun j e=>ZJ d h e;have b:isKey (ZaH k)=true->isM L (ZaH k) s=true:=fun hk=>Zb5 d h hk;have:k=0\/k=1\/k=2\/k=3\/k=4:=by omega
 rcases f with rfl|rfl
 ·rcases this with rfl|rfl|rfl|rfl|rfl
  ·simp only[Zz,List.drop,ZP,b (by decide),if_true,Zak]
  ·simp[Zz,ZP,c 0 (by decide),b (by decide),Zak]
  ·simp[Zz,ZP,c 0 (by decide),c 1 (by decide),b (by decide),Zak]
  ·simp[Zz,ZP,c 0 (by decide),c 1 (by decide),c 2 (by decide),b (by decide),Zak]
  ·simp[Zz,ZP,c 0 (by decide),c 1 (by decide),c 2 (by decide),c 3 (by decide),b (by decide),Zak]
 ·rcases this with rfl|rfl|rfl|rfl|rfl
  ·omega
  ·simp[Zz,ZP,b (by decide),Zak]
  ·simp[Zz,ZP,c 1 (by decide),b (by decide),Zak]
  ·simp[Zz,ZP,c 1 (by decide),c 2 (by decide),b (by decide),Zak]
  ·simp[Zz,ZP,c 1 (by decide),c 2 (by decide),c 3 (by decide),b (by decide),Zak]
theorem Zh3:∀(l:List Txt) (K:Nat) (e:List Txt) (s:PS) (u:Nat×Txt),s.err=0->Zar L s.at_ (Zao [(2,[44])] (Zcs l)++[u])->u.2≠[44]->l.length<=K->l.length % 2=0->2<=l.length->(∀w∈l,ZQ w=true)->ZdO L K e s=(e++l,Zd s (Zao [(2,[44])] (Zcs l)).length)
 |[],_,_,_,_,_,_,_,_,_,h,_=>by simp at h
 |[_],_,_,_,_,_,_,_,_,h,_,_=>by simp at h
 |[a,b],K,e,s,u,e0,hh,hu,hK,_,_,hn=>by
  obtain⟨K,rfl⟩:∃k,K=k+1:=⟨K-1,by simp at hK;omega⟩
  have f:kt (Zl L s.at_)=(0,a):=hh.head;have g:kt (Zl L (Zd s 1).at_)=(0,b):=hh.tail.head;have i:kt (Zl L (Zd (Zd s 1) 1).at_)=(u.1,u.2):=hh.tail.tail.head;have j:=ZJ (s:=Zd (Zd s 1) 1) e0 i hu;simp only[ZdO,e0,if_true,Zaq e0 f (hn a (by simp)),Zaq (s:=Zd s 1) e0 g (hn b (by simp)),j];simp[Zcs,Zao,Zn]
 |[a,b,c],_,_,_,_,_,_,_,_,h,_,_=>by simp at h
 |a::b::c::d::r,K,e,s,u,e0,hh,hu,hK,he,_,hn=>by
  obtain⟨K,rfl⟩:∃k,K=k+1:=⟨K-1,by simp at hK;omega⟩
  have n:Zao [(2,[44])] (Zcs (a::b::c::d::r))=[(0,a),(0,b),(2,[44])]++Zao [(2,[44])] (Zcs (c::d::r)):=by simp[Zcs,Zao]
  rw[n,List.append_assoc]at hh;rw[n];have f:kt (Zl L s.at_)=(0,a):=hh.head;have g:kt (Zl L (Zd s 1).at_)=(0,b):=hh.tail.head;have i:kt (Zl L (Zd (Zd s 1) 1).at_)=(2,[44]):=hh.tail.tail.head;have j:=ZcL (s:=Zd (Zd s 1) 1) e0 i;have p:=Zh3 (c::d::r) K (e++[a,b]) (Zd (Zd (Zd s 1) 1) 1) u e0 hh.right hu (by simp at hK⊢;omega) (by simp only[Yk]at he⊢;omega) (by simp) fun w o=>hn w (List.mem_cons_of_mem _ (List.mem_cons_of_mem _ o));simp only[ZdO,e0,if_true,Zaq e0 f (hn a (by simp)),Zaq (s:=Zd s 1) e0 g (hn b (by simp)),j,Zak];rw[p,Zn,Zn,Zn,Yj,show ∀m,1+(1+(1+m))=[((0:Nat),a),(0,b),(2,[44])].length+m from fun m=>by simp only[Yk,Yl];omega];simp
end
end
section
section
variable {L:List Tok}
theorem Zdf {ns:List Nd} {f:Nat} {n:Nd} {k:Int} {w:List Txt} {u:List Int} {p:Int} (hk:n.kind=k) (e:n.words=w) (d:n.nums=u) (a:n.kids=[]):Zv ns (f+1) n (.mk k w u p []):=
 ⟨hk.symm,e.symm,d.symm,by rw[a];rfl,fun i t c b=>by simp at b⟩
theorem ZiK:∀r:List Txt,r.length % 2=0->2<=r.length->r.length<=(Zao [(2,[44])] (Zcs r)).length
 |[],_,h=>by simp at h
 |[_],h,_=>by simp at h
 |[a,b],_,_=>by simp[Zcs,Zao]
 |[a,b,c],h,_=>by simp at h
 |a::b::c::d::r,he,_=>by
  have e:Zao [(2,[44])] (Zcs (a::b::c::d::r))=[(0,a),(0,b),(2,[44])]++Zao [(2,[44])] (Zcs (c::d::r)):=by simp[Zcs,Zao]
  have f:=ZiK (c::d::r) (by simp only[Yk]at he⊢;omega) (by simp);rw[e,Yj];simp only[Yk,Yl]at f⊢;omega
theorem Znz {ns:List Nd} (R:RightP ns) {f i:Nat} {n:Nd} (hn:ns[i]? = some n) (h:Zff n):Zad L 0 (ZbF L) (ZcP n) (fun _=>True) (Zv ns (f+1) n):=fun s v c _ m _=>by
 obtain⟨I,N,l⟩:=R.node i n hn;rcases h with⟨hk,a,b,r,e,q,H⟩|⟨hk,⟨x,e⟩,z,hm,S,T⟩
 ·have B:Zo ns n=(decide (4<=n.words.length)&&decide (n.words.length % 2=0)&&Zr n n.words.length 0&&Zj ns n.kids []):=by simp[Zo,hk]
  rw[B,Bool.and_eq_true,Bool.and_eq_true]at l;have D:n.nums=[]:=List.length_eq_zero_iff.1 (ZaR l.1.2).2;have g:=Zha l.2;have G:∀w∈n.words,ZQ w=true:=fun w hx=>List.all_eq_true.mp I w hx;have o:ZcP n=[(0,[111,112]),(0,a),(0,b),(2,[45,62])]++(Zao [(2,[44])] (Zcs r)++[(2,[59])]):=by simp[ZcP,hk,word,e]
  rw[o]at m⊢;have d:=m.left;have j:kt (Zl L s.at_)=(0,[111,112]):=d.head;have t:kt (Zl L (Zd s 1).at_)=(0,a):=d.tail.head;have u:kt (Zl L (Zd (Zd s 1) 1).at_)=(0,b):=d.tail.tail.head;have O:kt (Zl L (Zd (Zd (Zd s 1) 1) 1).at_)=(2,[45,62]):=d.tail.tail.tail.head;have C:=d.right;have M:r.length<=L.length+1:=by have U:=ZiK r q H;have K:=C.1;rw[Yj]at K;omega
  have J:=Zh3 r (L.length+1) [a,b] (Zd s 4) (2,[59]) c C (by decide) M q H fun w hx=>G w (by rw[e];simp[hx]);have P:kt (Zl L (Zd (Zd s 4) (Zao [(2,[44])] (Zcs r)).length).at_)=(2,[59]):=C.right.head;refine⟨_,?_,Zdf (p:=Zf L s) hk e D g⟩;have F:isM L [115,116,97,116,101] s=false:=ZJ c j (by decide);have Q:isM L [102,105,110,97,108] s=false:=ZJ c j (by decide);simp only[ZbF,F,Q,Zfp c j (by decide),Zaq (s:=Zd s 1) c t (G a (by rw[e];simp)),Zaq (s:=Zd (Zd s 1) 1) c u (G b (by rw[e];simp)),Zbe (s:=Zd (Zd (Zd s 1) 1) 1) c O];rw[Yn (by decide),Yn (by decide),Zn,Zn,Zn,J,Zbe (s:=Zd (Zd s 4) _) c P,Zn,Zn];simp only[List.cons_append,List.nil_append,Yk,Yj,Yl,Prod.mk.injEq,true_and]
  congr 1
  omega
 ·have B:Zo ns n=(Zr n 1 1&&decide (num n 0<=1)&&Zj ns n.kids []):=by simp[Zo,hk]
  rw[B,Bool.and_eq_true,Bool.and_eq_true]at l;have g:=Zha l.2;obtain⟨y,A⟩:=ZeC (ZaR l.1.1).2;have E:num n 0=y:=ZcF (k:=0) (z:=y) (by rw[A];rfl);have hx:ZQ x=true:=List.all_eq_true.mp I x (by rw[e];simp);have V:0<=y:=(ZaY N (x:=y) (by rw[A];simp)).1;have W:y<=1:=by have:=l.1.2;rw[E,decide_eq_true_eq]at this;exact this
  have:y=0\/y=1:=by omega
  rcases this with rfl|rfl
  ·have o:ZcP n=[(0,[115,116,97,116,101]),(0,x),(2,[59])]:=by simp[ZcP,hk,word,e,E]
   rw[o]at m⊢;have d:=m.left;have j:kt (Zl L s.at_)=(0,[115,116,97,116,101]):=d.head;have t:kt (Zl L (Zd s 1).at_)=(0,x):=d.tail.head;have u:kt (Zl L (Zd (Zd s 1) 1).at_)=(2,[59]):=d.tail.tail.head;refine⟨_,?_,Zdf (p:=Zf L s) hk e A g⟩;simp only[ZbF,Zb5 c j (by decide),if_true,Zak,Zaq (s:=Zd s 1) c t hx];rw[Zbe (s:=Zd (Zd s 1) 1) c u];rfl
  ·have o:ZcP n=[(0,[102,105,110,97,108]),(0,x),(2,[59])]:=by simp[ZcP,hk,word,e,E]
   rw[o]at m⊢;have d:=m.left;have j:kt (Zl L s.at_)=(0,[102,105,110,97,108]):=d.head;have t:kt (Zl L (Zd s 1).at_)=(0,x):=d.tail.head;have u:kt (Zl L (Zd (Zd s 1) 1).at_)=(2,[59]):=d.tail.tail.head;have F:isM L [115,116,97,116,101] s=false:=ZJ c j (by decide);refine⟨_,?_,Zdf (p:=Zf L s) hk e A g⟩;simp only[ZbF,F,Zb5 c j (by decide),if_true,Zak,Zaq (s:=Zd s 1) c t hx];rw[Yn (by decide),Zbe (s:=Zd (Zd s 1) 1) c u];rfl
end
end
section
section
variable {L:List Tok}
theorem Zcu {ns:List Nd} {f:Nat} {n:Nd} {k:Int} {w:List Txt} {u:List Int} {p:Int} {ts:List Tr} (hk:n.kind=k) (d:n.words=w) (b:n.nums=u) (h:Za6 (fun c=>Zv ns f (Zb ns c)) n.kids ts):Zv ns (f+1) n (.mk k w u p ts):=
 ⟨hk.symm,d.symm,b.symm,h.1,fun i t c a hc=>h.2 i t c a hc⟩
theorem ZlI {n:Nd} (h:Zff n):ZbO L (fun _=>True) [125] (ZcP n):=by
 rcases h with⟨hk,_⟩|⟨hk,_⟩
 ·have b:∃r,ZcP n=(0,[111,112])::r:=⟨_,by simp[ZcP,hk];rfl⟩
  obtain⟨r,d⟩:=b;exact⟨_,r,d,trivial,fun s a h=>ZJ a h (by decide)⟩
 ·have b:∃c r,ZcP n=(0,c)::r/\c≠[125]:=by
   have e:¬n.kind=3:=by rw[hk];decide
   unfold ZcP;rw[Yn e]
   split
   ·exact⟨_,_,rfl,by decide⟩
   ·exact⟨_,_,rfl,by decide⟩
  obtain⟨c,r,d,hc⟩:=b;exact⟨_,r,d,trivial,fun s a h=>ZJ a h hc⟩
theorem ZlO {ns:List Nd} (R:RightP ns) {f g i:Nat} {n:Nd} (hn:ns[i]? = some n) (hk:n.kind=1) {x:Txt} (l:n.words=[x]) (t:Zae ns n.kids Zff):Zad L 0 (Zb8 L) (ZcB ns g n) (fun _=>True) (Zv ns (f+2) n):=fun s v e e1 o _=>by
 obtain⟨B,G,r⟩:=R.node i n hn;have y:Zo ns n=(Zr n 1 0&&Zat ns n.kids (isB [2,3])):=by simp[Zo,hk]
 rw[y,Bool.and_eq_true]at r;have j:n.nums=[]:=List.length_eq_zero_iff.1 (ZaR r.1).2;have hx:ZQ x=true:=List.all_eq_true.mp B x (by rw[l];simp);have w:ZcB ns g n=[(0,[112,114,111,116,111]),(0,x),(2,[123])]++((n.kids.map fun k=>ZcP (Zb ns k)).flatten++[(2,[125])]):=by simp[ZcB,hk,word,l,ZaE]
 rw[w]at o⊢;have d:=o.left;have C:kt (Zl L s.at_)=(0,[112,114,111,116,111]):=d.head;have D:kt (Zl L (Zd s 1).at_)=(0,x):=d.tail.head;have E:kt (Zl L (Zd (Zd s 1) 1).at_)=(2,[123]):=d.tail.tail.head
 have a:∀b∈n.kids,Zad L 0 (ZbF L) (ZcP (Zb ns b)) (fun _=>True) (Zv ns (f+1) (Zb ns b))/\ZbO L (fun _=>True) [125] (ZcP (Zb ns b)):=fun b a=>by
  obtain⟨q,hq⟩:=ZaI R hn a;exact⟨Znz R hq (t b a).2.2,ZlI (t b a).2.2⟩
 have A:n.kids.length<L.length+1:=by have F:=ZdG (U:=fun k=>ZcP (Zb ns k)) n.kids fun b h=>(a b h).2.some_;have z:=d.right.1;rw[Yj]at z;omega
 obtain⟨H,u,m⟩:=Zfd (U:=fun k=>ZcP (Zb ns k)) (P:=fun c=>Zv ns (f+1) (Zb ns c)) (x:=[125]) trivial n.kids (L.length+1) [] (Zd (Zd (Zd s 1) 1) 1) e e1 d.right A a;refine⟨_,?_,Zcu (p:=Zf L s) hk l j m⟩;unfold Zb8;simp only;rw[Zfp e C (by decide),Zaq (s:=Zd s 1) e D hx];simp only;rw[Zbe (s:=Zd (Zd s 1) 1) e E,u,Zn,Zn,Zn];simp only[List.nil_append,List.cons_append,Yk,Yj,Yl,Prod.mk.injEq,true_and]
 congr 1
 omega
end
end
end Go.Proofs.YtdkegpkfjgloeaaGreatDoor
