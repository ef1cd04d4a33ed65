import Derived.Test.YtfbepcelkijgkaaGreatDoorQBL
set_option maxRecDepth 100000
set_option maxHeartbeats 8000000
namespace Go.Proofs.YtfbepcelkijgkaaGreatDoor
section
section
variable {L:List Tok}
def opK (ns:List Nd) (f:Nat) (m:Nd) (a:Nat):TS:=if a<=Zz m then ZO ns f m else [(2,[40])]++ZO ns f m++[(2,[41])]
theorem ER.less {d e:Int} {o:PS->Tr×PS} {f:Nat} {us:TS} {T n:Tr->Prop} (h:ER L d o f us T) (hd:d<=e) (g:∀t,T t->n t):ER L e o f us n where
 p hs:=(h.p hs).less hd (fun _ h=>h) g
 q hs:=fun s u K i r l m j=>by
  obtain⟨t,k,a,b,c⟩:=h.q hs s u K i (by omega) l m j;exact⟨t,k,a,b,g t c⟩
 s hs:=fun s u K i r l m j=>by
  obtain⟨t,k,a,b,c⟩:=h.s hs s u K i (by omega) l m j;exact⟨t,k,a,b,g t c⟩
 x:=h.x.less hd (fun _ h=>h) g
theorem Zpr {ns:List Nd} {f:Nat} {n:Nd} {o:Int} {j k:Int} (hk:n.kind=22) (m:n.words=[]) (l:n.nums=[o]) (e:n.kids=[j,k]) {t:Tr} (h:∃a b,Zs ns f (Zf ns j) a/\Zs ns f (Zf ns k) b/\t=Za2 o a b):Zs ns (f+1) n t:=by
 obtain⟨a,b,ha,g,rfl⟩:=h;refine⟨hk.symm,m.symm,l.symm,by rw[e];rfl,fun i t c d hc=>?_⟩;rw[e]at hc
 match i,d,hc with
 |0,d,hc=>injection d with d;injection hc with hc;subst d hc;exact ha
 |1,d,hc=>injection d with d;injection hc with hc;subst d hc;exact g
 |i+2,d,hc=>simp at d
theorem Zis {ns:List Nd} (R:RightP ns):∀(f i:Nat) (n:Nd) (g:Nat),ns[i]? = some n->ZV ns f n->2*f<=g->ER L (2*f:Nat) (ZJ L g) (Zz n) (ZO ns f n) (Zs ns f n)
 |0,_,_,_,_,h,_=>h.elim
 |f+1,i,n,g,hn,h,hg=>by
  obtain⟨g,rfl⟩:∃A,g=A+2:=⟨g-2,by omega⟩
  have D:∀(c:Int),c∈n.kids->ZV ns f (Zf ns c)->∀A,2*f<=A->ER L (2*f:Nat) (ZJ L A) (Zz (Zf ns c)) (ZO ns f (Zf ns c)) (Zs ns f (Zf ns c)):=fun c hc r A B=>by
   obtain⟨q,hq⟩:=Zci R hn hc;exact Zis R f q _ A hq r B
  have H:∀(c:Int),c∈n.kids->ZV ns f (Zf ns c)->∀A,2*f<=A->ZZ L ((2*f:Nat)+1) (ZJ L (A+1)) ([(2,[40])]++ZO ns f (Zf ns c)++[(2,[41])]) gP (Zs ns f (Zf ns c)):=fun c hc r A B=>ZmY (D c hc r A B).x (by omega)
  have U:∀(c:Int),c∈n.kids->ZV ns f (Zf ns c)->∀A,2*f<=A->ZZ L ((2*f:Nat)+1) (ZJ L (A+1)) (opK ns f (Zf ns c) 3) gP (Zs ns f (Zf ns c)):=fun c hc r A B=>by
   unfold opK
   split
   ·rename_i E;exact((D c hc r (A+1) (by omega)).p E).less (by omega) (fun _ h=>h) fun _ h=>h
   ·exact H c hc r A B
  have P:∀(c:Int),c∈n.kids->ZV ns f (Zf ns c)->Zeb L ((2*f:Nat)+1) (ZJ L (g+2)) [42] [47] 4 5 (opK ns f (Zf ns c) 2) gP (Zs ns f (Zf ns c)):=fun c hc r=>by
   unfold opK
   split
   ·rename_i E;exact((D c hc r (g+2) (by omega)).less (e:=(2*f:Nat)+1) (by omega) fun _ h=>h).q E
   ·exact Zd1 (H c hc r (g+1) (by omega))
  have M:∀(c:Int),c∈n.kids->ZV ns f (Zf ns c)->Zeb L ((2*f:Nat)+1) (Zat L (ZJ L (g+2))) [43] [45] 2 3 (opK ns f (Zf ns c) 1) gQ (Zs ns f (Zf ns c)):=fun c hc r=>by
   unfold opK
   split
   ·rename_i E;exact((D c hc r (g+2) (by omega)).less (e:=(2*f:Nat)+1) (by omega) fun _ h=>h).s E
   ·exact Zd1 (ZdN (Zd1 (H c hc r (g+1) (by omega))))
  rcases Ziq R hn h with⟨hk,O,l,v,r,w⟩|⟨hk,F,l,s,E,T⟩|⟨hk,O,F,k,l,r⟩|⟨hk,O,o,j,k,F,W,X,l,r,w⟩
  ·have G:ZO ns (f+1) n=[(1,ZbE v)]:=by simp[ZO,hk,ZcT (n:=n) (k:=0) (z:=v) (by rw[r];rfl)]
   rw[G];refine ER.piece fun s u Q V S F=>⟨_,ZoX Q S.left.head (Zem w) w.1,hk.symm,O.symm,r.symm,by rw[l];rfl,fun i t c C=>?_⟩;simp at C
  ·have G:ZO ns (f+1) n=[(0,s)]:=by simp[ZO,hk,ZrO (n:=n) (k:=0) (s:=s) (by rw[E];rfl)]
   rw[G];refine ER.piece fun s u Q V S _=>⟨_,Zns Q S.left.head T,hk.symm,E.symm,F.symm,by rw[l];rfl,fun i t c C=>?_⟩;simp at C
  ·have G:ZO ns (f+1) n=[(2,[45])]++opK ns f (Zf ns k) 3:=by simp[ZO,hk,opK,Zbx (ns:=ns) (d:=n) (m:=0) (k:=k) (by rw[l];rfl)]
   rw[G];refine ER.piece ((ZmX (U k (by rw[l];simp) r g (by omega)) (by omega)).less (by omega) (fun _ h=>h) ?_);rintro t ⟨a,p,ha,rfl⟩;refine⟨hk.symm,O.symm,F.symm,by rw[l];rfl,fun i t c C hc=>?_⟩;rw[l]at hc
   match i,C,hc with
   |0,C,hc=>injection C with C;injection hc with hc;subst C hc;exact ha
   |i+1,C,hc=>simp at C
  ·have J:j∈n.kids:=by rw[l];simp
   have K:k∈n.kids:=by rw[l];simp
   have G:ZO ns (f+1) n=opK ns f (Zf ns j) (max (Zz n) 1)++ZhL o++opK ns f (Zf ns k) (Zz n+1):=by simp[ZO,hk,opK,Zbx (ns:=ns) (d:=n) (m:=0) (k:=j) (by rw[l];rfl),Zbx (ns:=ns) (d:=n) (m:=1) (k:=k) (by rw[l];rfl),ZcT (n:=n) (k:=0) (z:=o) (by rw[F];rfl)]
   have N:∀t,(∃a b,Zs ns f (Zf ns j) a/\Zs ns f (Zf ns k) b/\t=Za2 o a b)->Zs ns (f+1) n t:=fun t h=>Zpr hk O F l h;have y:Zz n=if o<=1 then 0 else if o<=3 then 1 else 2:=by simp[Zz,hk,ZcT (n:=n) (k:=0) (z:=o) (by rw[F];rfl)]
   rw[G];have I:(((2*f:Nat):Int)+1)<=((2*(f+1):Nat):Int):=by omega
   have:o=0\/o=1\/o=2\/o=3\/o=4\/o=5:=by omega
   rcases this with rfl|rfl|rfl|rfl|rfl|rfl
   ·have y:Zz n=0:=y;rw[y];exact ER.less (ER.cmp (Zg7 (z:=[60]) (Zeg (M j J r)) (Zeg (M k K w)) (.inl ⟨rfl,rfl⟩)) (by omega)) I N
   ·have y:Zz n=0:=y;rw[y];exact ER.less (ER.cmp (Zg7 (z:=[61,61]) (Zeg (M j J r)) (Zeg (M k K w)) (.inr ⟨rfl,rfl⟩)) (by omega)) I N
   ·have y:Zz n=1:=y;rw[y];exact ER.less (ER.sum (Zft (z:=[43]) (M j J r) (ZdN (P k K w)) (by refine⟨trivial,?_,?_⟩<;>decide) (.inl ⟨rfl,rfl⟩)) (by omega)) I N
   ·have y:Zz n=1:=y;rw[y];exact ER.less (ER.sum (Zft (z:=[45]) (M j J r) (ZdN (P k K w)) (by refine⟨trivial,?_,?_⟩<;>decide) (.inr ⟨rfl,rfl,by decide⟩)) (by omega)) I N
   ·have y:Zz n=2:=y;rw[y];exact ER.less (ER.prod (Zft (z:=[42]) (P j J r) (U k K w (g+1) (by omega)) trivial (.inl ⟨rfl,rfl⟩)) (by omega)) I N
   ·have y:Zz n=2:=y;rw[y];exact ER.less (ER.prod (Zft (z:=[47]) (P j J r) (U k K w (g+1) (by omega)) trivial (.inr ⟨rfl,rfl,by decide⟩)) (by omega)) I N
end
end
section
section
variable {L:List Tok}
def ZaV {c:Type} (P:c->Tr->Prop) (a:List c) (ts:List Tr):Prop:=ts.length=a.length/\∀(i:Nat) (t:Tr) (b:c),ts[i]? = some t->a[i]? = some b->P b t
theorem ZaV.nil {a:Type} (P:a->Tr->Prop):ZaV P [] []:=⟨rfl,fun i t b h=>by simp at h⟩
theorem ZaV.cons {d:Type} {P:d->Tr->Prop} {b:d} {r:List d} {t:Tr} {ts:List Tr} (h:P b t) (e:ZaV P r ts):ZaV P (b::r) (t::ts):=⟨by simp[e.1],fun i g f c a=>by
 cases i with
 |zero=>injection c with c;injection a with a;subst c a;exact h
 |succ i=>exact e.2 i g f c a⟩
def ZbD (L:List Tok) (g:Nat×Txt->Prop) (x:Txt) (us:TS):Prop:=∃u r,us=u::r/\g u/\∀s:PS,s.err=0->kt (Zl L s.at_)=u->isM L x s=false
theorem ZZ.at' {d:Int} {m:PS->Tr×PS} {us vs:TS} {g:Nat×Txt->Prop} {T:Tr->Prop} (h:ZZ L d m us g T) {s:PS} {u:Nat×Txt} (b:s.err=0) (c:s.deep+d<=200) (a:Zal L s.at_ (us++u::vs)) (e:g u):∃t,m s=(t,Zc s us.length)/\T t:=by refine h s u b c ?_ e;rw[<-List.singleton_append,<-List.append_assoc]at a;exact a.left
theorem Ze1 {m:Type} {d:Int} {e:PS->Tr×PS} {x:Txt} {U:m->TS} {P:m->Tr->Prop} {g:Nat×Txt->Prop} (hx:g (2,x)):∀(a:List m) (K:Nat) (l:List Tr) (s:PS),s.err=0->s.deep+d<=200->Zal L s.at_ ((a.map U).flatten++[(2,x)])->a.length<K->(∀b∈a,ZZ L d e (U b) g (P b)/\ZbD L g x (U b)) ->
  ∃ts,Za1 L e x K l s=(l++ts,Zc s ((a.map U).flatten.length+1))/\ZaV P a ts
 |[],K,l,s,e0,e1,hh,hK,_=>by
  obtain⟨K,rfl⟩:∃k,K=k+1:=⟨K-1,by simp at hK;omega⟩
  refine⟨[],?_,ZaV.nil P⟩;simp[Za1,e0,Zct e0 hh.head,Zaf]
 |b::r,K,l,s,e0,e1,hh,hK,hb=>by
  obtain⟨K,rfl⟩:∃k,K=k+1:=⟨K-1,by simp at hK;omega⟩
  obtain⟨hd,u,q,z,B,p⟩:=hb b (by simp);rw[List.map_cons,List.flatten_cons,List.append_assoc]at hh;have h:isM L x s=false:=p s e0 (by rw[z]at hh;exact hh.head);have A:∃v w,(r.map U).flatten++[(2,x)]=v::w/\g v:=by
   cases r with
   |nil=>exact⟨_,_,rfl,hx⟩
   |cons c r=>
    obtain⟨_,v,w,j,f,_⟩:=hb c (by simp);exact⟨v,w++(r.map U).flatten++[(2,x)],by rw[List.map_cons,List.flatten_cons,j];simp,f⟩
  obtain⟨v,w,j,f⟩:=A;obtain⟨t,n,y⟩:=hd.at' e0 e1 (by rw[j]at hh;exact hh) f;obtain⟨ts,o,i⟩:=Ze1 hx r K (l++[t]) (Zc s (U b).length) e0 e1 hh.right (by simp at hK;omega) fun c hc=>hb c (List.mem_cons_of_mem _ hc);refine⟨t::ts,?_,ZaV.cons y i⟩;simp only[Za1,e0,h,n,if_true];rw[Yn (by decide),o,Zn];simp[Nat.add_assoc]
theorem Zer (s:TS) (x:TS):∀r:List TS,ZaA s (x::r)=x++(r.map fun y=>s++y).flatten
 |[]=>by simp[ZaA]
 |y::r=>by
  have:=Zer s y r;rw[ZaA,this];simp
theorem Zjs {j:Type} {d:Int} {e:PS->Tr×PS} {U:j->TS} {P:j->Tr->Prop} {g:Nat×Txt->Prop} (m:g (2,[44])) (n:g (2,[41])):∀(a:List j) (K:Nat) (l:List Tr) (s:PS),s.err=0->s.deep+d<=200->Zal L s.at_ ((a.map fun b=>[(2,[44])]++U b).flatten++[(2,[41])])->a.length<K->(∀b∈a,ZZ L d e (U b) g (P b)) ->
  ∃ts,Zag L e K false l s=(l++ts,Zc s ((a.map fun b=>[(2,[44])]++U b).flatten.length+1))/\ZaV P a ts
 |[],K,l,s,e0,e1,hh,hK,_=>by
  obtain⟨K,rfl⟩:∃k,K=k+1:=⟨K-1,by simp at hK;omega⟩
  refine⟨[],?_,ZaV.nil P⟩;simp[Zag,e0,Zct e0 hh.head,Zaf]
 |b::r,K,l,s,e0,e1,hh,hK,hb=>by
  obtain⟨K,rfl⟩:∃k,K=k+1:=⟨K-1,by simp at hK;omega⟩
  rw[List.map_cons,List.flatten_cons,List.append_assoc,List.append_assoc]at hh;have o:kt (Zl L s.at_)=(2,[44]):=hh.left.head;have h:isM L [41] s=false:=ZI e0 o (by decide);have f:=hh.right;have A:∃v w,(r.map fun b=>[(2,[44])]++U b).flatten++[(2,[41])]=v::w/\g v:=by
   cases r with
   |nil=>exact⟨_,_,rfl,n⟩
   |cons c r=>exact⟨(2,[44]),U c++(r.map fun b=>[(2,[44])]++U b).flatten++[(2,[41])],by simp,m⟩
  obtain⟨v,w,z,u⟩:=A;obtain⟨t,p,y⟩:=(hb b (by simp)).at' (s:=Zc s 1) e0 e1 (by rw[z]at f;exact f) u;obtain⟨ts,q,i⟩:=Zjs m n r K (l++[t]) (Zc (Zc s 1) (U b).length) e0 e1 f.right (by simp at hK;omega) fun c hc=>hb c (List.mem_cons_of_mem _ hc);refine⟨t::ts,?_,ZaV.cons y i⟩;simp only[Zag,e0,h,if_true];rw[Yn (by decide),Yn (by decide),Za3 e0 o,p,q,Zn,Zn];simp[Nat.add_comm,Nat.add_left_comm]
theorem Zg5 {l:Type} {d:Int} {e:PS->Tr×PS} {U:l->TS} {P:l->Tr->Prop} {g:Nat×Txt->Prop} (n:g (2,[44])) (o:g (2,[41])) (a:List l) (K:Nat) (s:PS) (h:s.err=0) (m:s.deep+d<=200) (f:Zal L s.at_ (ZaA [(2,[44])] (a.map U)++[(2,[41])])) (C:a.length<K) (p:∀b∈a,ZZ L d e (U b) g (P b)/\ZbD L (fun _=>True) [41] (U b)) :
  ∃ts,Zag L e K true [] s=(ts,Zc s ((ZaA [(2,[44])] (a.map U)).length+1))/\ZaV P a ts:=by
 obtain⟨K,rfl⟩:∃k,K=k+1:=⟨K-1,by omega⟩
 cases a with
 |nil=>
  refine⟨[],?_,ZaV.nil P⟩;have H:kt (Zl L s.at_)=(2,[41]):=f.head;simp[Zag,h,Zct h H,Zaf,ZaA]
 |cons b r=>
  rw[List.map_cons,Zer,List.map_map,List.append_assoc]at f;obtain⟨hd,u,q,F,_,D⟩:=p b (by simp);have i:isM L [41] s=false:=D s h (by rw[F]at f;exact f.head);have I:∃v w,(r.map ((fun y=>[(2,[44])]++y) ∘ U)).flatten++[(2,[41])]=v::w/\g v:=by
   cases r with
   |nil=>exact⟨_,_,rfl,o⟩
   |cons c r=>exact⟨(2,[44]),U c++(r.map ((fun y=>[(2,[44])]++y) ∘ U)).flatten++[(2,[41])],by simp,n⟩
  obtain⟨v,w,G,B⟩:=I;obtain⟨t,z,E⟩:=hd.at' h m (by rw[G]at f;exact f) B;obtain⟨ts,A,j⟩:=Zjs (U:=U) n o r K ([]++[t]) (Zc s (U b).length) h m f.right (by simp at C;omega) fun c hc=>(p c (List.mem_cons_of_mem _ hc)).1;refine⟨t::ts,?_,ZaV.cons E j⟩;rw[List.map_cons,Zer,List.map_map];simp only[Zag,h,i,if_true];rw[Yn (by decide),z,A,Zn];simp[Nat.add_assoc,Function.comp_def]
end
end
section
section
variable {L:List Tok}
theorem Zds {d:Type} {U:d->TS}:∀a:List d,(∀b∈a,U b≠[])->a.length<=((a.map U).flatten).length
 |[],_=>Nat.zero_le _
 |b::r,h=>by
  have e:=Zds r fun c hc=>h c (List.mem_cons_of_mem _ hc);have f:0<(U b).length:=List.length_pos_iff.2 (h b (by simp));rw[List.map_cons,List.flatten_cons,Yj,Yk];omega
theorem ZbD.some_ {g:Nat×Txt->Prop} {x:Txt} {us:TS} (h:ZbD L g x us):us≠[]:=by obtain⟨u,r,rfl,_⟩:=h;simp
theorem Zlm {h:Type} {d:Int} {st:PS->Tr×PS} {U:h->TS} {P:h->Tr->Prop} {g:Nat×Txt->Prop} (hx:g (2,[125])) (hd:0<=d) (a:List h) (j:∀b∈a,ZZ L d st (U b) g (P b)/\ZbD L g [125] (U b)) :
  ZZ L (d+1) (Zau L st) (Za6 (a.map U)) (fun _=>True) fun t=>∃ts p,ZaV P a ts/\t=.mk 7 [] [] p ts:=fun s u i q n _=>by
 have c:Zal L s.at_ ([(2,[123])]++((a.map U).flatten++[(2,[125])])):=by have:=n.left;unfold Za6 at this;rw[List.append_assoc]at this;exact this
 have o:kt (Zl L s.at_)=(2,[123]):=c.left.head;have m:a.length<L.length+1:=by have r:=Zds (U:=U) a fun b e=>(j b e).2.some_;have l:=c.right.1;rw[Yj]at l;omega
 obtain⟨ts,k,f⟩:=Ze1 (U:=U) hx a (L.length+1) [] (Zfn (Zc s 1)) i (by show s.deep+1+d<=200;omega) c.right m j;refine⟨.mk 7 [] [] (Ze L s) ts,?_,ts,_,f,rfl⟩;unfold Zau;simp only;rw[Za3 i o,Zjb (s:=Zc s 1) (by show s.deep+1<=200;omega),k];show(_,ZdQ (Zc (Zfn (Zc s 1)) _))=_;rw[Zia,Zn];simp[Za6,Nat.add_comm]
theorem Zil:∀(r:List Txt) (K:Nat) (l:List Txt) (s:PS) (u:Nat×Txt),s.err=0->Zal L s.at_ ((r.map fun w=>[((2:Nat),([124]:Txt)),(0,w)]).flatten++[u])->u.2≠[124]->r.length<=K->(∀w∈r,ZQ w=true)->ZdW L K l s=(l++r,Zc s (2*r.length))
 |[],K,l,s,u,e0,hh,hu,_,_=>by
  have a:kt (Zl L s.at_)=(u.1,u.2):=hh.head;cases K with
  |zero=>simp[ZdW,Zc]
  |succ K=>simp[ZdW,ZI e0 a hu,Zc]
 |w::r,K,l,s,u,e0,hh,hu,hK,hn=>by
  obtain⟨K,rfl⟩:∃k,K=k+1:=⟨K-1,by simp at hK;omega⟩
  rw[List.map_cons,List.flatten_cons,List.append_assoc]at hh;have a:kt (Zl L s.at_)=(2,[124]):=hh.left.head;have d:kt (Zl L (Zc s 1).at_)=(0,w):=hh.left.tail.head;have b:=Zil r K (l++[w]) (Zc (Zc s 1) 1) u e0 hh.right hu (by simp at hK;omega) fun c hc=>hn c (List.mem_cons_of_mem _ hc);simp only[ZdW,Zct e0 a,if_true,Zaf];rw[Zaj (s:=Zc s 1) e0 d (hn w (by simp)),b,Zn,Zn,show 1+(1+2*r.length)=2*(w::r).length by simp only[Yk];omega];simp
theorem Zkj:∀r:List Txt,((r.map fun w=>[((2:Nat),([124]:Txt)),(0,w)]).flatten).length=2*r.length
 |[]=>rfl
 |b::r=>by
  rw[List.map_cons,List.flatten_cons,Yj,Zkj r];simp only[Yk,Yl];omega
theorem Zlw {w a:Txt} {r:List Txt} {which:Int} {s:PS} {u:Nat×Txt} (d:s.err=0) (j:isKey w=true) (b:Zal L s.at_ ([(0,w)]++ZaA [(2,[124])] ((a::r).map fun x=>[(0,x)])++[u])) (i:u.2≠[124]) (f:∀x∈a::r,ZQ x=true) :
  ∃p,ZK L w which s=([.mk 6 (a::r) [which] p []],Zc s (1+(ZaA [(2,[124])] ((a::r).map fun x=>[((0:Nat),x)])).length)):=by
 have g:ZaA [(2,[124])] ((a::r).map fun x=>[((0:Nat),x)])=[(0,a)]++(r.map fun w=>[((2:Nat),([124]:Txt)),(0,w)]).flatten:=by rw[List.map_cons,Zer,List.map_map];rfl
 have e:=Zkj r;rw[g]at b⊢;rw[List.append_assoc,List.append_assoc]at b;have l:kt (Zl L s.at_)=(0,w):=b.left.head;have m:kt (Zl L (Zc s 1).at_)=(0,a):=b.right.left.head;have h:r.length<=L.length:=by have:=b.1;simp only[Yj,e]at this;omega
 have k:=Zil r L.length [a] (Zc (Zc s 1) 1) u d b.right.right i h fun c hc=>f c (List.mem_cons_of_mem _ hc);refine⟨Ze L s,?_⟩;unfold ZK;rw[ZbV d l j,Yo rfl,Zaf];simp only;rw[Zaj (s:=Zc s 1) d m (f a (by simp)),k,Zn,Zn,Yj,e];simp
end
end
section
section
variable {L:List Tok}
theorem ZiA {k:Int} {a:Nat} {s:PS} (f:a=0\/a=1) (g:(a:Int)<=k) (i:k<=4) (d:s.err=0) (h:kt (Zl L s.at_)=(0,ZaR k)):ZN L (Zx a) s=(k,Zc s 1):=by
 have c:∀j,ZaR k≠ZaR j->isM L (ZaR j) s=false:=fun j e=>ZI d h e;have b:isKey (ZaR k)=true->isM L (ZaR k) s=true:=fun hk=>ZbV d h hk;have:k=0\/k=1\/k=2\/k=3\/k=4:=by omega
 rcases f with rfl|rfl
 ·rcases this with rfl|rfl|rfl|rfl|rfl
  ·simp only[Zx,List.drop,ZN,b (by decide),if_true,Zaf]
  ·simp[Zx,ZN,c 0 (by decide),b (by decide),Zaf]
  ·simp[Zx,ZN,c 0 (by decide),c 1 (by decide),b (by decide),Zaf]
  ·simp[Zx,ZN,c 0 (by decide),c 1 (by decide),c 2 (by decide),b (by decide),Zaf]
  ·simp[Zx,ZN,c 0 (by decide),c 1 (by decide),c 2 (by decide),c 3 (by decide),b (by decide),Zaf]
 ·rcases this with rfl|rfl|rfl|rfl|rfl
  ·omega
  ·simp[Zx,ZN,b (by decide),Zaf]
  ·simp[Zx,ZN,c 1 (by decide),b (by decide),Zaf]
  ·simp[Zx,ZN,c 1 (by decide),c 2 (by decide),b (by decide),Zaf]
  ·simp[Zx,ZN,c 1 (by decide),c 2 (by decide),c 3 (by decide),b (by decide),Zaf]
theorem ZhV:∀(l:List Txt) (K:Nat) (e:List Txt) (s:PS) (u:Nat×Txt),s.err=0->Zal L s.at_ (ZaA [(2,[44])] (ZcQ l)++[u])->u.2≠[44]->l.length<=K->l.length % 2=0->2<=l.length->(∀w∈l,ZQ w=true)->ZdC L K e s=(e++l,Zc s (ZaA [(2,[44])] (ZcQ l)).length)
 |[],_,_,_,_,_,_,_,_,_,h,_=>by simp at h
 |[_],_,_,_,_,_,_,_,_,h,_,_=>by simp at h
 |[a,b],K,e,s,u,e0,hh,hu,hK,_,_,hn=>by
  obtain⟨K,rfl⟩:∃k,K=k+1:=⟨K-1,by simp at hK;omega⟩
  have f:kt (Zl L s.at_)=(0,a):=hh.head;have g:kt (Zl L (Zc s 1).at_)=(0,b):=hh.tail.head;have i:kt (Zl L (Zc (Zc s 1) 1).at_)=(u.1,u.2):=hh.tail.tail.head;have j:=ZI (s:=Zc (Zc s 1) 1) e0 i hu;simp only[ZdC,e0,if_true,Zaj e0 f (hn a (by simp)),Zaj (s:=Zc s 1) e0 g (hn b (by simp)),j];simp[ZcQ,ZaA,Zn]
 |[a,b,c],_,_,_,_,_,_,_,_,h,_,_=>by simp at h
 |a::b::c::d::r,K,e,s,u,e0,hh,hu,hK,he,_,hn=>by
  obtain⟨K,rfl⟩:∃k,K=k+1:=⟨K-1,by simp at hK;omega⟩
  have n:ZaA [(2,[44])] (ZcQ (a::b::c::d::r))=[(0,a),(0,b),(2,[44])]++ZaA [(2,[44])] (ZcQ (c::d::r)):=by simp[ZcQ,ZaA]
  rw[n,List.append_assoc]at hh;rw[n];have f:kt (Zl L s.at_)=(0,a):=hh.head;have g:kt (Zl L (Zc s 1).at_)=(0,b):=hh.tail.head;have i:kt (Zl L (Zc (Zc s 1) 1).at_)=(2,[44]):=hh.tail.tail.head;have j:=Zct (s:=Zc (Zc s 1) 1) e0 i;have p:=ZhV (c::d::r) K (e++[a,b]) (Zc (Zc (Zc s 1) 1) 1) u e0 hh.right hu (by simp at hK⊢;omega) (by simp only[Yk]at he⊢;omega) (by simp) fun w o=>hn w (List.mem_cons_of_mem _ (List.mem_cons_of_mem _ o));simp only[ZdC,e0,if_true,Zaj e0 f (hn a (by simp)),Zaj (s:=Zc s 1) e0 g (hn b (by simp)),j,Zaf];rw[p,Zn,Zn,Zn,Yj,show ∀m,1+(1+(1+m))=[((0:Nat),a),(0,b),(2,[44])].length+m from fun m=>by simp only[Yk,Yl];omega];simp
end
end
section
section
variable {L:List Tok}
theorem ZcY {ns:List Nd} {f:Nat} {n:Nd} {k:Int} {w:List Txt} {u:List Int} {p:Int} (hk:n.kind=k) (e:n.words=w) (d:n.nums=u) (a:n.kids=[]):Zs ns (f+1) n (.mk k w u p []):=
 ⟨hk.symm,e.symm,d.symm,by rw[a];rfl,fun i t c b=>by simp at b⟩
theorem ZiB:∀r:List Txt,r.length % 2=0->2<=r.length->r.length<=(ZaA [(2,[44])] (ZcQ r)).length
 |[],_,h=>by simp at h
 |[_],h,_=>by simp at h
 |[a,b],_,_=>by simp[ZcQ,ZaA]
 |[a,b,c],h,_=>by simp at h
 |a::b::c::d::r,he,_=>by
  have e:ZaA [(2,[44])] (ZcQ (a::b::c::d::r))=[(0,a),(0,b),(2,[44])]++ZaA [(2,[44])] (ZcQ (c::d::r)):=by simp[ZcQ,ZaA]
  have f:=ZiB (c::d::r) (by simp only[Yk]at he⊢;omega) (by simp);rw[e,Yj];simp only[Yk,Yl]at f⊢;omega
theorem Znr {ns:List Nd} (R:RightP ns) {f i:Nat} {n:Nd} (N:ns[i]? = some n) (h:ZfD n):ZZ L 0 (Zbs L) (ZcR n) (fun _=>True) (Zs ns (f+1) n):=fun s v c _ m _=>by
 obtain⟨I,O,l⟩:=R.node i n N;rcases h with⟨hk,a,b,r,e,q,H⟩|⟨hk,⟨x,e⟩,z,hm,T,U⟩
 ·have B:Zr ns n=(decide (4<=n.words.length)&&decide (n.words.length % 2=0)&&Zq n n.words.length 0&&Zj ns n.kids []):=by simp[Zr,hk]
  rw[B,Bool.and_eq_true,Bool.and_eq_true]at l;have D:n.nums=[]:=List.length_eq_zero_iff.1 (ZaP l.1.2).2;have g:=Zg0 l.2;have G:∀w∈n.words,ZQ w=true:=fun w hx=>List.all_eq_true.mp I w hx;have o:ZcR n=[(0,[111,112]),(0,a),(0,b),(2,[45,62])]++(ZaA [(2,[44])] (ZcQ r)++[(2,[59])]):=by simp[ZcR,hk,word,e]
  rw[o]at m⊢;have d:=m.left;have j:kt (Zl L s.at_)=(0,[111,112]):=d.head;have t:kt (Zl L (Zc s 1).at_)=(0,a):=d.tail.head;have u:kt (Zl L (Zc (Zc s 1) 1).at_)=(0,b):=d.tail.tail.head;have P:kt (Zl L (Zc (Zc (Zc s 1) 1) 1).at_)=(2,[45,62]):=d.tail.tail.tail.head;have C:=d.right;have M:r.length<=L.length+1:=by have V:=ZiB r q H;have K:=C.1;rw[Yj]at K;omega
  have J:=ZhV r (L.length+1) [a,b] (Zc s 4) (2,[59]) c C (by decide) M q H fun w hx=>G w (by rw[e];simp[hx]);have Q:kt (Zl L (Zc (Zc s 4) (ZaA [(2,[44])] (ZcQ r)).length).at_)=(2,[59]):=C.right.head;refine⟨_,?_,ZcY (p:=Ze L s) hk e D g⟩;have F:isM L [115,116,97,116,101] s=false:=ZI c j (by decide);have S:isM L [102,105,110,97,108] s=false:=ZI c j (by decide);simp only[Zbs,F,S,Zfd c j (by decide),Zaj (s:=Zc s 1) c t (G a (by rw[e];simp)),Zaj (s:=Zc (Zc s 1) 1) c u (G b (by rw[e];simp)),Za3 (s:=Zc (Zc (Zc s 1) 1) 1) c P];rw[Yn (by decide),Yn (by decide),Zn,Zn,Zn,J,Za3 (s:=Zc (Zc s 4) _) c Q,Zn,Zn];simp only[List.cons_append,List.nil_append,Yk,Yj,Yl,Prod.mk.injEq,true_and]
  congr 1
  omega
 ·have B:Zr ns n=(Zq n 1 1&&decide (num n 0<=1)&&Zj ns n.kids []):=by simp[Zr,hk]
  rw[B,Bool.and_eq_true,Bool.and_eq_true]at l;have g:=Zg0 l.2;obtain⟨y,A⟩:=Zep (ZaP l.1.1).2;have E:num n 0=y:=ZcT (k:=0) (z:=y) (by rw[A];rfl);have hx:ZQ x=true:=List.all_eq_true.mp I x (by rw[e];simp);have W:0<=y:=(Zbn O (x:=y) (by rw[A];simp)).1;have X:y<=1:=by have:=l.1.2;rw[E,decide_eq_true_eq]at this;exact this
  have:y=0\/y=1:=by omega
  rcases this with rfl|rfl
  ·have o:ZcR n=[(0,[115,116,97,116,101]),(0,x),(2,[59])]:=by simp[ZcR,hk,word,e,E]
   rw[o]at m⊢;have d:=m.left;have j:kt (Zl L s.at_)=(0,[115,116,97,116,101]):=d.head;have t:kt (Zl L (Zc s 1).at_)=(0,x):=d.tail.head;have u:kt (Zl L (Zc (Zc s 1) 1).at_)=(2,[59]):=d.tail.tail.head;refine⟨_,?_,ZcY (p:=Ze L s) hk e A g⟩;simp only[Zbs,ZbV c j (by decide),if_true,Zaf,Zaj (s:=Zc s 1) c t hx];rw[Za3 (s:=Zc (Zc s 1) 1) c u];rfl
  ·have o:ZcR n=[(0,[102,105,110,97,108]),(0,x),(2,[59])]:=by simp[ZcR,hk,word,e,E]
   rw[o]at m⊢;have d:=m.left;have j:kt (Zl L s.at_)=(0,[102,105,110,97,108]):=d.head;have t:kt (Zl L (Zc s 1).at_)=(0,x):=d.tail.head;have u:kt (Zl L (Zc (Zc s 1) 1).at_)=(2,[59]):=d.tail.tail.head;have F:isM L [115,116,97,116,101] s=false:=ZI c j (by decide);refine⟨_,?_,ZcY (p:=Ze L s) hk e A g⟩;simp only[Zbs,F,ZbV c j (by decide),if_true,Zaf,Zaj (s:=Zc s 1) c t hx];rw[Yn (by decide),Za3 (s:=Zc (Zc s 1) 1) c u];rfl
end
end
section
section
variable {L:List Tok}
theorem Zcb {ns:List Nd} {f:Nat} {n:Nd} {k:Int} {w:List Txt} {u:List Int} {p:Int} {ts:List Tr} (hk:n.kind=k) (d:n.words=w) (b:n.nums=u) (h:ZaV (fun c=>Zs ns f (Zf ns c)) n.kids ts):Zs ns (f+1) n (.mk k w u p ts):=
 ⟨hk.symm,d.symm,b.symm,h.1,fun i t c a hc=>h.2 i t c a hc⟩
theorem ZlA {n:Nd} (h:ZfD n):ZbD L (fun _=>True) [125] (ZcR n):=by
 rcases h with⟨hk,_⟩|⟨hk,_⟩
 ·have b:∃r,ZcR n=(0,[111,112])::r:=⟨_,by simp[ZcR,hk];rfl⟩
  obtain⟨r,d⟩:=b;exact⟨_,r,d,trivial,fun s a h=>ZI a h (by decide)⟩
 ·have b:∃c r,ZcR n=(0,c)::r/\c≠[125]:=by
   have e:¬n.kind=3:=by rw[hk];decide
   unfold ZcR;rw[Yn e]
   split
   ·exact⟨_,_,rfl,by decide⟩
   ·exact⟨_,_,rfl,by decide⟩
  obtain⟨c,r,d,hc⟩:=b;exact⟨_,r,d,trivial,fun s a h=>ZI a h hc⟩
theorem ZlG {ns:List Nd} (R:RightP ns) {f g i:Nat} {n:Nd} (t:ns[i]? = some n) (hk:n.kind=1) {x:Txt} (l:n.words=[x]) (u:Zax ns n.kids ZfD):ZZ L 0 (ZbX L) (Zde ns g n) (fun _=>True) (Zs ns (f+2) n):=fun s v e w o _=>by
 obtain⟨D,I,r⟩:=R.node i n t;have A:Zr ns n=(Zq n 1 0&&Zam ns n.kids (isB [2,3])):=by simp[Zr,hk]
 rw[A,Bool.and_eq_true]at r;have j:n.nums=[]:=List.length_eq_zero_iff.1 (ZaP r.1).2;have hx:ZQ x=true:=List.all_eq_true.mp D x (by rw[l];simp);have z:Zde ns g n=[(0,[112,114,111,116,111]),(0,x),(2,[123])]++((n.kids.map fun k=>ZcR (Zf ns k)).flatten++[(2,[125])]):=by simp[Zde,hk,word,l,Za6]
 rw[z]at o⊢;have d:=o.left;have E:kt (Zl L s.at_)=(0,[112,114,111,116,111]):=d.head;have F:kt (Zl L (Zc s 1).at_)=(0,x):=d.tail.head;have G:kt (Zl L (Zc (Zc s 1) 1).at_)=(2,[123]):=d.tail.tail.head
 have a:∀b∈n.kids,ZZ L 0 (Zbs L) (ZcR (Zf ns b)) (fun _=>True) (Zs ns (f+1) (Zf ns b))/\ZbD L (fun _=>True) [125] (ZcR (Zf ns b)):=fun b a=>by
  obtain⟨q,hq⟩:=Zci R t a;exact⟨Znr R hq (u b a).2.2,ZlA (u b a).2.2⟩
 have C:n.kids.length<L.length+1:=by have H:=Zds (U:=fun k=>ZcR (Zf ns k)) n.kids fun b h=>(a b h).2.some_;have B:=d.right.1;rw[Yj]at B;omega
 obtain⟨J,y,m⟩:=Ze1 (U:=fun k=>ZcR (Zf ns k)) (P:=fun c=>Zs ns (f+1) (Zf ns c)) (x:=[125]) trivial n.kids (L.length+1) [] (Zc (Zc (Zc s 1) 1) 1) e w d.right C a;refine⟨_,?_,Zcb (p:=Ze L s) hk l j m⟩;unfold ZbX;simp only;rw[Zfd e E (by decide),Zaj (s:=Zc s 1) e F hx];simp only;rw[Za3 (s:=Zc (Zc s 1) 1) e G,y,Zn,Zn,Zn];simp only[List.nil_append,List.cons_append,Yk,Yj,Yl,Prod.mk.injEq,true_and]
 congr 1
 omega
end
end
end Go.Proofs.YtfbepcelkijgkaaGreatDoor
