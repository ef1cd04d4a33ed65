import Derived.Test.YtkongcicmajolaaGreatDoorQAT
set_option maxRecDepth 100000
set_option maxHeartbeats 8000000
namespace Go.Proofs.YtkongcicmajolaaGreatDoor
section
section
variable {L:List Tok}
def opK (ns:List Nd) (f:Nat) (m:Nd) (least:Nat):TS:=if least<=Zu m then ZS ns f m else [(2,[40])]++ZS ns f m++[(2,[41])]
theorem ER.less {d e:Int} {pc:PS->Tr×PS} {str:Nat} {us:TS} {T T':Tr->Prop} (h:ER L d pc str us T) (hd:d<=e) (hT:∀ t,T t->T' t):ER L e pc str us T' where
 p hs:=(h.p hs).less hd (fun _ h=>h) hT
 q hs:=fun s u K e0 e1 hh hu hK=>by
  obtain ⟨t,k,a,b,c⟩:=h.q hs s u K e0 (by omega) hh hu hK
  exact ⟨t,k,a,b,hT t c⟩
 s hs:=fun s u K e0 e1 hh hu hK=>by
  obtain ⟨t,k,a,b,c⟩:=h.s hs s u K e0 (by omega) hh hu hK
  exact ⟨t,k,a,b,hT t c⟩
 x:=h.x.less hd (fun _ h=>h) hT
theorem Zpu {ns:List Nd} {f:Nat} {n:Nd} {o:Int} {j k:Int} (hk:n.kind=22) (hw:n.words=[]) (hu:n.nums=[o]) (hks:n.kids=[j,k]) {t:Tr} (h:∃ a b,Zt ns f (Za ns j) a/\Zt ns f (Za ns k) b/\t=Za0 o a b):Zt ns (f+1) n t:=by
 obtain ⟨a,b,ha,hb,rfl⟩:=h
 refine ⟨hk.symm,hw.symm,hu.symm,by rw [hks];rfl,fun i t c ht hc=>?_⟩
 rw [hks] at hc
 match i,ht,hc with
 | 0,ht,hc=>injection ht with ht;injection hc with hc;subst ht hc;exact ha
 | 1,ht,hc=>injection ht with ht;injection hc with hc;subst ht hc;exact hb
 | i+2,ht,hc=>simp at ht
theorem ZiO {ns:List Nd} (R:RightP ns):∀ (f i:Nat) (n:Nd) (g:Nat),ns[i]? = some n->ZP ns f n->2*f<=g->ER L (2*f:Nat) (ZE L g) (Zu n) (ZS ns f n) (Zt ns f n)
 | 0,_,_,_,_,h,_=>h.elim
 | f+1,i,n,g,hn,h,hg=>by
  obtain ⟨g,rfl⟩:∃ g',g=g'+2:=⟨g-2,by omega⟩
  have kid:∀ (c:Int),c∈n.kids->ZP ns f (Za ns c)->∀ g',2*f<=g'->ER L (2*f:Nat) (ZE L g') (Zu (Za ns c)) (ZS ns f (Za ns c)) (Zt ns f (Za ns c)):=fun c hc hv g' hg'=>by
   obtain ⟨q,hq⟩:=ZaB R hn hc
   exact ZiO R f q _ g' hq hv hg'
  have par:∀ (c:Int),c∈n.kids->ZP ns f (Za ns c)->∀ g',2*f<=g'->ZZ L ((2*f:Nat)+1) (ZE L (g'+1)) ([(2,[40])]++ZS ns f (Za ns c)++[(2,[41])]) gPq (Zt ns f (Za ns c)):=fun c hc hv g' hg'=>Znh (kid c hc hv g' hg').x (by omega)
  have o3:∀ (c:Int),c∈n.kids->ZP ns f (Za ns c)->∀ g',2*f<=g'->ZZ L ((2*f:Nat)+1) (ZE L (g'+1)) (opK ns f (Za ns c) 3) gPq (Zt ns f (Za ns c)):=fun c hc hv g' hg'=>by
   unfold opK
   split
   ·rename_i hs;exact ((kid c hc hv (g'+1) (by omega)).p hs).less (by omega) (fun _ h=>h) fun _ h=>h
   ·exact par c hc hv g' hg'
  have o2:∀ (c:Int),c∈n.kids->ZP ns f (Za ns c)->Zen L ((2*f:Nat)+1) (ZE L (g+2)) [42] [47] 4 5 (opK ns f (Za ns c) 2) gPq (Zt ns f (Za ns c)):=fun c hc hv=>by
   unfold opK
   split
   ·rename_i hs;exact ((kid c hc hv (g+2) (by omega)).less (e:=(2*f:Nat)+1) (by omega) fun _ h=>h).q hs
   ·exact Zed (par c hc hv (g+1) (by omega))
  have o1:∀ (c:Int),c∈n.kids->ZP ns f (Za ns c)->Zen L ((2*f:Nat)+1) (Zaj L (ZE L (g+2))) [43] [45] 2 3 (opK ns f (Za ns c) 1) gQ (Zt ns f (Za ns c)):=fun c hc hv=>by
   unfold opK
   split
   ·rename_i hs;exact ((kid c hc hv (g+2) (by omega)).less (e:=(2*f:Nat)+1) (by omega) fun _ h=>h).s hs
   ·exact Zed (Zd0 (Zed (par c hc hv (g+1) (by omega))))
  rcases ZiM R hn h with ⟨hk,hw,hks,v,hv,hv2⟩ | ⟨hk,hu,hks,s,hs,hs2⟩ | ⟨hk,hw,hu,k,hks,hv⟩ | ⟨hk,hw,o,j,k,hu,h0,h5,hks,hv,hv2⟩
  ·have e2:ZS ns (f+1) n=[(1,ZbP v)]:=by simp [ZS,hk,ZcI (n:=n) (k:=0) (z:=v) (by rw [hv];rfl)]
   rw [e2]
   refine ER.piece fun s u e0 e1 hh hu=>⟨_,Zpa e0 hh.left.head (ZeD hv2) hv2.1,hk.symm,hw.symm,hv.symm,by rw [hks];rfl,fun i t c ht=>?_⟩
   simp at ht
  ·have e2:ZS ns (f+1) n=[(0,s)]:=by simp [ZS,hk,Zm5 (n:=n) (k:=0) (s:=s) (by rw [hs];rfl)]
   rw [e2]
   refine ER.piece fun s u e0 e1 hh _=>⟨_,ZnK e0 hh.left.head hs2,hk.symm,hs.symm,hu.symm,by rw [hks];rfl,fun i t c ht=>?_⟩
   simp at ht
  ·have e2:ZS ns (f+1) n=[(2,[45])]++opK ns f (Za ns k) 3:=by simp [ZS,hk,opK,Za2 (ns:=ns) (d:=n) (m:=0) (k:=k) (by rw [hks];rfl)]
   rw [e2]
   refine ER.piece ((Zng (o3 k (by rw [hks];simp) hv g (by omega)) (by omega)).less (by omega) (fun _ h=>h) ?_)
   rintro t ⟨a,p,ha,rfl⟩
   refine ⟨hk.symm,hw.symm,hu.symm,by rw [hks];rfl,fun i t c ht hc=>?_⟩
   rw [hks] at hc
   match i,ht,hc with
   | 0,ht,hc=>injection ht with ht;injection hc with hc;subst ht hc;exact ha
   | i+1,ht,hc=>simp at ht
  ·have jn:j∈n.kids:=by rw [hks];simp
   have kn:k∈n.kids:=by rw [hks];simp
   have e2:ZS ns (f+1) n=opK ns f (Za ns j) (max (Zu n) 1)++ZhZ o++opK ns f (Za ns k) (Zu n+1):=by
    simp [ZS,hk,opK,Za2 (ns:=ns) (d:=n) (m:=0) (k:=j) (by rw [hks];rfl),Za2 (ns:=ns) (d:=n) (m:=1) (k:=k) (by rw [hks];rfl),ZcI (n:=n) (k:=0) (z:=o) (by rw [hu];rfl)]
   have sh:∀ t,(∃ a b,Zt ns f (Za ns j) a/\Zt ns f (Za ns k) b/\t=Za0 o a b)->Zt ns (f+1) n t:=fun t h=>Zpu hk hw hu hks h
   have es:Zu n=if o<=1 then 0 else if o<=3 then 1 else 2:=by simp [Zu,hk,ZcI (n:=n) (k:=0) (z:=o) (by rw [hu];rfl)]
   rw [e2]
   have dd:(((2*f:Nat):Int)+1)<=((2*(f+1):Nat):Int):=by omega
   have:o=0\/o=1\/o=2\/o=3\/o=4\/o=5:=by omega
   rcases this with rfl | rfl | rfl | rfl | rfl | rfl
   ·have es:Zu n=0:=es
    rw [es]
    exact ER.less (ER.cmp (Zht (z:=[60]) (Zev (o1 j jn hv)) (Zev (o1 k kn hv2)) (.inl ⟨rfl,rfl⟩)) (by omega)) dd sh
   ·have es:Zu n=0:=es
    rw [es]
    exact ER.less (ER.cmp (Zht (z:=[61,61]) (Zev (o1 j jn hv)) (Zev (o1 k kn hv2)) (.inr ⟨rfl,rfl⟩)) (by omega)) dd sh
   ·have es:Zu n=1:=es
    rw [es]
    exact ER.less (ER.sum (ZfP (z:=[43]) (o1 j jn hv) (Zd0 (o2 k kn hv2)) (by refine ⟨trivial,?_,?_⟩<;>decide) (.inl ⟨rfl,rfl⟩)) (by omega)) dd sh
   ·have es:Zu n=1:=es
    rw [es]
    exact ER.less (ER.sum (ZfP (z:=[45]) (o1 j jn hv) (Zd0 (o2 k kn hv2)) (by refine ⟨trivial,?_,?_⟩<;>decide) (.inr ⟨rfl,rfl,by decide⟩)) (by omega)) dd sh
   ·have es:Zu n=2:=es
    rw [es]
    exact ER.less (ER.prod (ZfP (z:=[42]) (o2 j jn hv) (o3 k kn hv2 (g+1) (by omega)) trivial (.inl ⟨rfl,rfl⟩)) (by omega)) dd sh
   ·have es:Zu n=2:=es
    rw [es]
    exact ER.less (ER.prod (ZfP (z:=[47]) (o2 j jn hv) (o3 k kn hv2 (g+1) (by omega)) trivial (.inr ⟨rfl,rfl,by decide⟩)) (by omega)) dd sh
end
end
section
section
variable {L:List Tok}
def Za5 {β:Type} (P:β->Tr->Prop) (items:List β) (ts:List Tr):Prop:=ts.length=items.length/\∀ (i:Nat) (t:Tr) (b:β),ts[i]? = some t->items[i]? = some b->P b t
theorem Za5.nil {β:Type} (P:β->Tr->Prop):Za5 P [] []:=⟨rfl,fun i t b h=>by simp at h⟩
theorem Za5.cons {β:Type} {P:β->Tr->Prop} {b:β} {r:List β} {t:Tr} {ts:List Tr} (h:P b t) (hr:Za5 P r ts):Za5 P (b::r) (t::ts):=⟨by simp [hr.1],fun i t' b' ht hb=>by
 cases i with
 | zero=>injection ht with ht;injection hb with hb;subst ht hb;exact h
 | succ i=>exact hr.2 i t' b' ht hb⟩
def ZbN (L:List Tok) (g:Nat×Txt->Prop) (x:Txt) (us:TS):Prop:=∃ u r,us=u::r/\g u/\∀ s:PS,s.err=0->kt (Zi L s.at_)=u->isM L x s=false
theorem ZZ.at' {d:Int} {m:PS->Tr×PS} {us vs:TS} {g:Nat×Txt->Prop} {T:Tr->Prop} (h:ZZ L d m us g T) {s:PS} {u:Nat×Txt} (e0:s.err=0) (e1:s.deep+d<=200) (hh:Zan L s.at_ (us++u::vs)) (hg:g u):∃ t,m s=(t,Zc s us.length)/\T t:=by
 refine h s u e0 e1 ?_ hg
 rw [<- List.singleton_append,<- List.append_assoc] at hh
 exact hh.left
theorem Zfm {β:Type} {d:Int} {each:PS->Tr×PS} {x:Txt} {U:β->TS} {P:β->Tr->Prop} {g:Nat×Txt->Prop} (hx:g (2,x)):∀ (items:List β) (K:Nat) (l:List Tr) (s:PS),s.err=0->s.deep+d<=200->Zan L s.at_ ((items.map U).flatten++[(2,x)])->items.length<K->(∀ b∈items,ZZ L d each (U b) g (P b)/\ZbN L g x (U b)) ->
  ∃ ts,ZaP L each x K l s=(l++ts,Zc s ((items.map U).flatten.length+1))/\Za5 P items ts
 | [],K,l,s,e0,e1,hh,hK,_=>by
  obtain ⟨K,rfl⟩:∃ k,K=k+1:=⟨K-1,by simp at hK;omega⟩
  refine ⟨[],?_,Za5.nil P⟩
  simp [ZaP,e0,ZcO e0 hh.head,Zah]
 | b::r,K,l,s,e0,e1,hh,hK,hb=>by
  obtain ⟨K,rfl⟩:∃ k,K=k+1:=⟨K-1,by simp at hK;omega⟩
  obtain ⟨hd,u,q,hu,gu,hn⟩:=hb b (by simp)
  rw [List.map_cons,List.flatten_cons,List.append_assoc] at hh
  have hnx:isM L x s=false:=hn s e0 (by rw [hu] at hh;exact hh.head)
  have nx:∃ v w,(r.map U).flatten++[(2,x)]=v::w/\g v:=by
   cases r with
   | nil=>exact ⟨_,_,rfl,hx⟩
   | cons c r=>
    obtain ⟨_,v,w,hv,gv,_⟩:=hb c (by simp)
    exact ⟨v,w++(r.map U).flatten++[(2,x)],by rw [List.map_cons,List.flatten_cons,hv];simp,gv⟩
  obtain ⟨v,w,hv,gv⟩:=nx
  obtain ⟨t,e2,ht⟩:=hd.at' e0 e1 (by rw [hv] at hh;exact hh) gv
  obtain ⟨ts,e3,hts⟩:=Zfm hx r K (l++[t]) (Zc s (U b).length) e0 e1 hh.right (by simp at hK;omega) fun c hc=>hb c (List.mem_cons_of_mem _ hc)
  refine ⟨t::ts,?_,Za5.cons ht hts⟩
  simp only [ZaP,e0,hnx,e2,if_true]
  rw [if_neg (by decide),e3,Zk]
  simp [Nat.add_assoc]
theorem ZeL (s:TS) (x:TS):∀ r:List TS,Zak s (x::r)=x++(r.map fun y=>s++y).flatten
 | []=>by simp [Zak]
 | y::r=>by
  have:=ZeL s y r
  rw [Zak,this]
  simp
theorem ZjO {β:Type} {d:Int} {each:PS->Tr×PS} {U:β->TS} {P:β->Tr->Prop} {g:Nat×Txt->Prop} (h1:g (2,[44])) (h2:g (2,[41])):∀ (items:List β) (K:Nat) (l:List Tr) (s:PS),s.err=0->s.deep+d<=200->Zan L s.at_ ((items.map fun b=>[(2,[44])]++U b).flatten++[(2,[41])])->items.length<K->(∀ b∈items,ZZ L d each (U b) g (P b)) ->
  ∃ ts,ZT L each K false l s=(l++ts,Zc s ((items.map fun b=>[(2,[44])]++U b).flatten.length+1))/\Za5 P items ts
 | [],K,l,s,e0,e1,hh,hK,_=>by
  obtain ⟨K,rfl⟩:∃ k,K=k+1:=⟨K-1,by simp at hK;omega⟩
  refine ⟨[],?_,Za5.nil P⟩
  simp [ZT,e0,ZcO e0 hh.head,Zah]
 | b::r,K,l,s,e0,e1,hh,hK,hb=>by
  obtain ⟨K,rfl⟩:∃ k,K=k+1:=⟨K-1,by simp at hK;omega⟩
  rw [List.map_cons,List.flatten_cons,List.append_assoc,List.append_assoc] at hh
  have k0:kt (Zi L s.at_)=(2,[44]):=hh.left.head
  have hnx:isM L [41] s=false:=ZH e0 k0 (by decide)
  have h3:=hh.right
  have nx:∃ v w,(r.map fun b=>[(2,[44])]++U b).flatten++[(2,[41])]=v::w/\g v:=by
   cases r with
   | nil=>exact ⟨_,_,rfl,h2⟩
   | cons c r=>exact ⟨(2,[44]),U c++(r.map fun b=>[(2,[44])]++U b).flatten++[(2,[41])],by simp,h1⟩
  obtain ⟨v,w,hv,gv⟩:=nx
  obtain ⟨t,e2,ht⟩:=(hb b (by simp)).at' (s:=Zc s 1) e0 e1 (by rw [hv] at h3;exact h3) gv
  obtain ⟨ts,e3,hts⟩:=ZjO h1 h2 r K (l++[t]) (Zc (Zc s 1) (U b).length) e0 e1 h3.right (by simp at hK;omega) fun c hc=>hb c (List.mem_cons_of_mem _ hc)
  refine ⟨t::ts,?_,Za5.cons ht hts⟩
  simp only [ZT,e0,hnx,if_true]
  rw [if_neg (by decide),if_neg (by decide),Zba e0 k0,e2,e3,Zk,Zk]
  simp [Nat.add_comm,Nat.add_left_comm]
theorem Zhq {β:Type} {d:Int} {each:PS->Tr×PS} {U:β->TS} {P:β->Tr->Prop} {g:Nat×Txt->Prop} (h1:g (2,[44])) (h2:g (2,[41])) (items:List β) (K:Nat) (s:PS) (e0:s.err=0) (e1:s.deep+d<=200) (hh:Zan L s.at_ (Zak [(2,[44])] (items.map U)++[(2,[41])])) (hK:items.length<K) (hb:∀ b∈items,ZZ L d each (U b) g (P b)/\ZbN L (fun _=>True) [41] (U b)) :
  ∃ ts,ZT L each K true [] s=(ts,Zc s ((Zak [(2,[44])] (items.map U)).length+1))/\Za5 P items ts:=by
 obtain ⟨K,rfl⟩:∃ k,K=k+1:=⟨K-1,by omega⟩
 cases items with
 | nil=>
  refine ⟨[],?_,Za5.nil P⟩
  have k0:kt (Zi L s.at_)=(2,[41]):=hh.head
  simp [ZT,e0,ZcO e0 k0,Zah,Zak]
 | cons b r=>
  rw [List.map_cons,ZeL,List.map_map,List.append_assoc] at hh
  obtain ⟨hd,u,q,hu,_,hn⟩:=hb b (by simp)
  have hnx:isM L [41] s=false:=hn s e0 (by rw [hu] at hh;exact hh.head)
  have nx:∃ v w,(r.map ((fun y=>[(2,[44])]++y) ∘ U)).flatten++[(2,[41])]=v::w/\g v:=by
   cases r with
   | nil=>exact ⟨_,_,rfl,h2⟩
   | cons c r=>exact ⟨(2,[44]),U c++(r.map ((fun y=>[(2,[44])]++y) ∘ U)).flatten++[(2,[41])],by simp,h1⟩
  obtain ⟨v,w,hv,gv⟩:=nx
  obtain ⟨t,e2,ht⟩:=hd.at' e0 e1 (by rw [hv] at hh;exact hh) gv
  obtain ⟨ts,e3,hts⟩:=ZjO (U:=U) h1 h2 r K ([]++[t]) (Zc s (U b).length) e0 e1 hh.right (by simp at hK;omega) fun c hc=>(hb c (List.mem_cons_of_mem _ hc)).1
  refine ⟨t::ts,?_,Za5.cons ht hts⟩
  rw [List.map_cons,ZeL,List.map_map]
  simp only [ZT,e0,hnx,if_true]
  rw [if_neg (by decide),e2,e3,Zk]
  simp [Nat.add_assoc,Function.comp_def]
end
end
section
section
variable {L:List Tok}
theorem ZdI {β:Type} {U:β->TS}:∀ items:List β,(∀ b∈items,U b≠[])->items.length<=((items.map U).flatten).length
 | [],_=>Nat.zero_le _
 | b::r,h=>by
  have h1:=ZdI r fun c hc=>h c (List.mem_cons_of_mem _ hc)
  have h2:0<(U b).length:=List.length_pos_iff.2 (h b (by simp))
  rw [List.map_cons,List.flatten_cons,List.length_append,List.length_cons]
  omega
theorem ZbN.some_ {g:Nat×Txt->Prop} {x:Txt} {us:TS} (h:ZbN L g x us):us≠[]:=by
 obtain ⟨u,r,rfl,_⟩:=h
 simp
theorem ZlG {β:Type} {d:Int} {st:PS->Tr×PS} {U:β->TS} {P:β->Tr->Prop} {g:Nat×Txt->Prop} (hx:g (2,[125])) (hd:0<=d) (items:List β) (hb:∀ b∈items,ZZ L d st (U b) g (P b)/\ZbN L g [125] (U b)) :
  ZZ L (d+1) (Zag L st) (Zaw (items.map U)) (fun _=>True) fun t=>∃ ts p,Za5 P items ts/\t=.mk 7 [] [] p ts:=fun s u e0 e1 hh _=>by
 have h3:Zan L s.at_ ([(2,[123])]++((items.map U).flatten++[(2,[125])])):=by
  have:=hh.left
  unfold Zaw at this
  rw [List.append_assoc] at this
  exact this
 have k0:kt (Zi L s.at_)=(2,[123]):=h3.left.head
 have hK:items.length<L.length+1:=by
  have h1:=ZdI (U:=U) items fun b hb'=>(hb b hb').2.some_
  have h2:=h3.right.1
  rw [List.length_append] at h2
  omega
 obtain ⟨ts,e2,hts⟩:=Zfm (U:=U) hx items (L.length+1) [] (ZfH (Zc s 1)) e0 (by show s.deep+1+d<=200;omega) h3.right hK hb
 refine ⟨.mk 7 [] [] (Ze L s) ts,?_,ts,_,hts,rfl⟩
 unfold Zag
 simp only
 rw [Zba e0 k0,Zjy (s:=Zc s 1) (by show s.deep+1<=200;omega),e2]
 show (_,ZdW (Zc (ZfH (Zc s 1)) _))=_
 rw [Zir,Zk]
 simp [Zaw,Nat.add_comm]
theorem ZiE:∀ (r:List Txt) (K:Nat) (l:List Txt) (s:PS) (u:Nat×Txt),s.err=0->Zan L s.at_ ((r.map fun w=>[((2:Nat),([124]:Txt)),(0,w)]).flatten++[u])->u.2≠[124]->r.length<=K->(∀ w∈r,ZN w=true)->Zdg L K l s=(l++r,Zc s (2*r.length))
 | [],K,l,s,u,e0,hh,hu,_,_=>by
  have k0:kt (Zi L s.at_)=(u.1,u.2):=hh.head
  cases K with
  | zero=>simp [Zdg,Zc]
  | succ K=>simp [Zdg,ZH e0 k0 hu,Zc]
 | w::r,K,l,s,u,e0,hh,hu,hK,hn=>by
  obtain ⟨K,rfl⟩:∃ k,K=k+1:=⟨K-1,by simp at hK;omega⟩
  rw [List.map_cons,List.flatten_cons,List.append_assoc] at hh
  have k0:kt (Zi L s.at_)=(2,[124]):=hh.left.head
  have k1:kt (Zi L (Zc s 1).at_)=(0,w):=hh.left.tail.head
  have ih:=ZiE r K (l++[w]) (Zc (Zc s 1) 1) u e0 hh.right hu (by simp at hK;omega) fun c hc=>hn c (List.mem_cons_of_mem _ hc)
  simp only [Zdg,ZcO e0 k0,if_true,Zah]
  rw [Zam (s:=Zc s 1) e0 k1 (hn w (by simp)),ih,Zk,Zk,show 1+(1+2*r.length)=2*(w::r).length by simp only [List.length_cons];omega]
  simp
theorem ZkD:∀ r:List Txt,((r.map fun w=>[((2:Nat),([124]:Txt)),(0,w)]).flatten).length=2*r.length
 | []=>rfl
 | b::r=>by
  rw [List.map_cons,List.flatten_cons,List.length_append,ZkD r]
  simp only [List.length_cons,List.length_nil]
  omega
theorem ZlQ {w a:Txt} {r:List Txt} {which:Int} {s:PS} {u:Nat×Txt} (e0:s.err=0) (hw:isKey w=true) (hh:Zan L s.at_ ([(0,w)]++Zak [(2,[124])] ((a::r).map fun x=>[(0,x)])++[u])) (hu:u.2≠[124]) (hn:∀ x∈a::r,ZN x=true) :
  ∃ p,ZB L w which s=([.mk 6 (a::r) [which] p []],Zc s (1+(Zak [(2,[124])] ((a::r).map fun x=>[((0:Nat),x)])).length)):=by
 have es:Zak [(2,[124])] ((a::r).map fun x=>[((0:Nat),x)])=[(0,a)]++(r.map fun w=>[((2:Nat),([124]:Txt)),(0,w)]).flatten:=by
  rw [List.map_cons,ZeL,List.map_map]
  rfl
 have hl:=ZkD r
 rw [es] at hh ⊢
 rw [List.append_assoc,List.append_assoc] at hh
 have k0:kt (Zi L s.at_)=(0,w):=hh.left.head
 have k1:kt (Zi L (Zc s 1).at_)=(0,a):=hh.right.left.head
 have hK:r.length<=L.length:=by
  have:=hh.1
  simp only [List.length_append,hl] at this
  omega
 have ih:=ZiE r L.length [a] (Zc (Zc s 1) 1) u e0 hh.right.right hu hK fun c hc=>hn c (List.mem_cons_of_mem _ hc)
 refine ⟨Ze L s,?_⟩
 unfold ZB
 rw [Zce e0 k0 hw,if_pos rfl,Zah]
 simp only
 rw [Zam (s:=Zc s 1) e0 k1 (hn a (by simp)),ih,Zk,Zk,List.length_append,hl]
 simp
end
end
section
section
variable {L:List Tok}
theorem ZiX {k:Int} {least:Nat} {s:PS} (hl:least=0\/least=1) (h0:(least:Int)<=k) (h4:k<=4) (e0:s.err=0) (h:kt (Zi L s.at_)=(0,Zax k)):ZD L (Zr least) s=(k,Zc s 1):=by
 have no:∀ j,Zax k≠Zax j->isM L (Zax j) s=false:=fun j hj=>ZH e0 h hj
 have yes:isKey (Zax k)=true->isM L (Zax k) s=true:=fun hk=>Zce e0 h hk
 have:k=0\/k=1\/k=2\/k=3\/k=4:=by omega
 rcases hl with rfl | rfl
 ·rcases this with rfl | rfl | rfl | rfl | rfl
  ·simp only [Zr,List.drop,ZD,yes (by decide),if_true,Zah]
  ·simp [Zr,ZD,no 0 (by decide),yes (by decide),Zah]
  ·simp [Zr,ZD,no 0 (by decide),no 1 (by decide),yes (by decide),Zah]
  ·simp [Zr,ZD,no 0 (by decide),no 1 (by decide),no 2 (by decide),yes (by decide),Zah]
  ·simp [Zr,ZD,no 0 (by decide),no 1 (by decide),no 2 (by decide),no 3 (by decide),yes (by decide),Zah]
 ·rcases this with rfl | rfl | rfl | rfl | rfl
  ·omega
  ·simp [Zr,ZD,yes (by decide),Zah]
  ·simp [Zr,ZD,no 1 (by decide),yes (by decide),Zah]
  ·simp [Zr,ZD,no 1 (by decide),no 2 (by decide),yes (by decide),Zah]
  ·simp [Zr,ZD,no 1 (by decide),no 2 (by decide),no 3 (by decide),yes (by decide),Zah]
theorem Zh9:∀ (l:List Txt) (K:Nat) (acc:List Txt) (s:PS) (u:Nat×Txt),s.err=0->Zan L s.at_ (Zak [(2,[44])] (Zcv l)++[u])->u.2≠[44]->l.length<=K->l.length % 2=0->2<=l.length->(∀ w∈l,ZN w=true)->Zcy L K acc s=(acc++l,Zc s (Zak [(2,[44])] (Zcv l)).length)
 | [],_,_,_,_,_,_,_,_,_,h,_=>by simp at h
 | [_],_,_,_,_,_,_,_,_,h,_,_=>by simp at h
 | [a,b],K,acc,s,u,e0,hh,hu,hK,_,_,hn=>by
  obtain ⟨K,rfl⟩:∃ k,K=k+1:=⟨K-1,by simp at hK;omega⟩
  have k0:kt (Zi L s.at_)=(0,a):=hh.head
  have k1:kt (Zi L (Zc s 1).at_)=(0,b):=hh.tail.head
  have k2:kt (Zi L (Zc (Zc s 1) 1).at_)=(u.1,u.2):=hh.tail.tail.head
  have n2:=ZH (s:=Zc (Zc s 1) 1) e0 k2 hu
  simp only [Zcy,e0,if_true,Zam e0 k0 (hn a (by simp)),Zam (s:=Zc s 1) e0 k1 (hn b (by simp)),n2]
  simp [Zcv,Zak,Zk]
 | [a,b,c],_,_,_,_,_,_,_,_,h,_,_=>by simp at h
 | a::b::c::d::r,K,acc,s,u,e0,hh,hu,hK,he,_,hn=>by
  obtain ⟨K,rfl⟩:∃ k,K=k+1:=⟨K-1,by simp at hK;omega⟩
  have e2:Zak [(2,[44])] (Zcv (a::b::c::d::r))=[(0,a),(0,b),(2,[44])]++Zak [(2,[44])] (Zcv (c::d::r)):=by simp [Zcv,Zak]
  rw [e2,List.append_assoc] at hh
  rw [e2]
  have k0:kt (Zi L s.at_)=(0,a):=hh.head
  have k1:kt (Zi L (Zc s 1).at_)=(0,b):=hh.tail.head
  have k2:kt (Zi L (Zc (Zc s 1) 1).at_)=(2,[44]):=hh.tail.tail.head
  have n2:=ZcO (s:=Zc (Zc s 1) 1) e0 k2
  have ih:=Zh9 (c::d::r) K (acc++[a,b]) (Zc (Zc (Zc s 1) 1) 1) u e0 hh.right hu (by simp at hK ⊢;omega) (by simp only [List.length_cons] at he ⊢;omega) (by simp) fun w hw=>hn w (List.mem_cons_of_mem _ (List.mem_cons_of_mem _ hw))
  simp only [Zcy,e0,if_true,Zam e0 k0 (hn a (by simp)),Zam (s:=Zc s 1) e0 k1 (hn b (by simp)),n2,Zah]
  rw [ih,Zk,Zk,Zk,List.length_append,show ∀ m,1+(1+(1+m))=[((0:Nat),a),(0,b),(2,[44])].length+m from fun m=>by simp only [List.length_cons,List.length_nil];omega]
  simp
end
end
section
section
variable {L:List Tok}
theorem Zdl {ns:List Nd} {f:Nat} {n:Nd} {k:Int} {w:List Txt} {u:List Int} {p:Int} (hk:n.kind=k) (hw:n.words=w) (hu:n.nums=u) (hks:n.kids=[]):Zt ns (f+1) n (.mk k w u p []):=
 ⟨hk.symm,hw.symm,hu.symm,by rw [hks];rfl,fun i t c ht=>by simp at ht⟩
theorem ZiY:∀ r:List Txt,r.length % 2=0->2<=r.length->r.length<=(Zak [(2,[44])] (Zcv r)).length
 | [],_,h=>by simp at h
 | [_],h,_=>by simp at h
 | [a,b],_,_=>by simp [Zcv,Zak]
 | [a,b,c],h,_=>by simp at h
 | a::b::c::d::r,he,_=>by
  have e2:Zak [(2,[44])] (Zcv (a::b::c::d::r))=[(0,a),(0,b),(2,[44])]++Zak [(2,[44])] (Zcv (c::d::r)):=by simp [Zcv,Zak]
  have ih:=ZiY (c::d::r) (by simp only [List.length_cons] at he ⊢;omega) (by simp)
  rw [e2,List.length_append]
  simp only [List.length_cons,List.length_nil] at ih ⊢
  omega
theorem ZnJ {ns:List Nd} (R:RightP ns) {f i:Nat} {n:Nd} (hn:ns[i]? = some n) (h:Zfo n):ZZ L 0 (Zbo L) (ZcS n) (fun _=>True) (Zt ns (f+1) n):=fun s v e0 _ hh _=>by
 obtain ⟨hw,hu,hl⟩:=R.node i n hn
 rcases h with ⟨hk,a,b,r,hs,hev,h2⟩ | ⟨hk,⟨x,hs⟩,z,hm,h0,h1⟩
 ·have el:Zn ns n=(decide (4<=n.words.length)&&decide (n.words.length % 2=0)&&ZF n n.words.length 0&&Zp ns n.kids []):=by simp [Zn,hk]
  rw [el,Bool.and_eq_true,Bool.and_eq_true] at hl
  have hnu:n.nums=[]:=List.length_eq_zero_iff.1 (ZaL hl.1.2).2
  have hks:=Zhl hl.2
  have nm:∀ w∈n.words,ZN w=true:=fun w hx=>List.all_eq_true.mp hw w hx
  have ek:ZcS n=[(0,[111,112]),(0,a),(0,b),(2,[45,62])]++(Zak [(2,[44])] (Zcv r)++[(2,[59])]):=by simp [ZcS,hk,word,hs]
  rw [ek] at hh ⊢
  have h3:=hh.left
  have k0:kt (Zi L s.at_)=(0,[111,112]):=h3.head
  have k1:kt (Zi L (Zc s 1).at_)=(0,a):=h3.tail.head
  have k2:kt (Zi L (Zc (Zc s 1) 1).at_)=(0,b):=h3.tail.tail.head
  have k3:kt (Zi L (Zc (Zc (Zc s 1) 1) 1).at_)=(2,[45,62]):=h3.tail.tail.tail.head
  have h4:=h3.right
  have hK:r.length<=L.length+1:=by
   have h5:=ZiY r hev h2
   have h6:=h4.1
   rw [List.length_append] at h6
   omega
  have ew:=Zh9 r (L.length+1) [a,b] (Zc s 4) (2,[59]) e0 h4 (by decide) hK hev h2 fun w hx=>nm w (by rw [hs];simp [hx])
  have k5:kt (Zi L (Zc (Zc s 4) (Zak [(2,[44])] (Zcv r)).length).at_)=(2,[59]):=h4.right.head
  refine ⟨_,?_,Zdl (p:=Ze L s) hk hs hnu hks⟩
  have n1:isM L [115,116,97,116,101] s=false:=ZH e0 k0 (by decide)
  have n2:isM L [102,105,110,97,108] s=false:=ZH e0 k0 (by decide)
  simp only [Zbo,n1,n2,Zfw e0 k0 (by decide),Zam (s:=Zc s 1) e0 k1 (nm a (by rw [hs];simp)),Zam (s:=Zc (Zc s 1) 1) e0 k2 (nm b (by rw [hs];simp)),Zba (s:=Zc (Zc (Zc s 1) 1) 1) e0 k3]
  rw [if_neg (by decide),if_neg (by decide),Zk,Zk,Zk,ew,Zba (s:=Zc (Zc s 4) _) e0 k5,Zk,Zk]
  simp only [List.cons_append,List.nil_append,List.length_cons,List.length_append,List.length_nil,Prod.mk.injEq,true_and]
  congr 1
  omega
 ·have el:Zn ns n=(ZF n 1 1&&decide (num n 0<=1)&&Zp ns n.kids []):=by simp [Zn,hk]
  rw [el,Bool.and_eq_true,Bool.and_eq_true] at hl
  have hks:=Zhl hl.2
  obtain ⟨y,hy⟩:=ZeJ (ZaL hl.1.1).2
  have hz:num n 0=y:=ZcI (k:=0) (z:=y) (by rw [hy];rfl)
  have hx:ZN x=true:=List.all_eq_true.mp hw x (by rw [hs];simp)
  have y0:0<=y:=(ZaR hu (x:=y) (by rw [hy];simp)).1
  have y1:y<=1:=by have:=hl.1.2;rw [hz,decide_eq_true_eq] at this;exact this
  have:y=0\/y=1:=by omega
  rcases this with rfl | rfl
  ·have ek:ZcS n=[(0,[115,116,97,116,101]),(0,x),(2,[59])]:=by simp [ZcS,hk,word,hs,hz]
   rw [ek] at hh ⊢
   have h3:=hh.left
   have k0:kt (Zi L s.at_)=(0,[115,116,97,116,101]):=h3.head
   have k1:kt (Zi L (Zc s 1).at_)=(0,x):=h3.tail.head
   have k2:kt (Zi L (Zc (Zc s 1) 1).at_)=(2,[59]):=h3.tail.tail.head
   refine ⟨_,?_,Zdl (p:=Ze L s) hk hs hy hks⟩
   simp only [Zbo,Zce e0 k0 (by decide),if_true,Zah,Zam (s:=Zc s 1) e0 k1 hx]
   rw [Zba (s:=Zc (Zc s 1) 1) e0 k2]
   rfl
  ·have ek:ZcS n=[(0,[102,105,110,97,108]),(0,x),(2,[59])]:=by simp [ZcS,hk,word,hs,hz]
   rw [ek] at hh ⊢
   have h3:=hh.left
   have k0:kt (Zi L s.at_)=(0,[102,105,110,97,108]):=h3.head
   have k1:kt (Zi L (Zc s 1).at_)=(0,x):=h3.tail.head
   have k2:kt (Zi L (Zc (Zc s 1) 1).at_)=(2,[59]):=h3.tail.tail.head
   have n1:isM L [115,116,97,116,101] s=false:=ZH e0 k0 (by decide)
   refine ⟨_,?_,Zdl (p:=Ze L s) hk hs hy hks⟩
   simp only [Zbo,n1,Zce e0 k0 (by decide),if_true,Zah,Zam (s:=Zc s 1) e0 k1 hx]
   rw [if_neg (by decide),Zba (s:=Zc (Zc s 1) 1) e0 k2]
   rfl
end
end
section
section
variable {L:List Tok}
theorem Zcx {ns:List Nd} {f:Nat} {n:Nd} {k:Int} {w:List Txt} {u:List Int} {p:Int} {ts:List Tr} (hk:n.kind=k) (hw:n.words=w) (hu:n.nums=u) (h:Za5 (fun c=>Zt ns f (Za ns c)) n.kids ts):Zt ns (f+1) n (.mk k w u p ts):=
 ⟨hk.symm,hw.symm,hu.symm,h.1,fun i t c ht hc=>h.2 i t c ht hc⟩
theorem ZlT {n:Nd} (h:Zfo n):ZbN L (fun _=>True) [125] (ZcS n):=by
 rcases h with ⟨hk,_⟩ | ⟨hk,_⟩
 ·have ek:∃ r,ZcS n=(0,[111,112])::r:=⟨_,by simp [ZcS,hk];rfl⟩
  obtain ⟨r,hr⟩:=ek
  exact ⟨_,r,hr,trivial,fun s e0 h=>ZH e0 h (by decide)⟩
 ·have ek:∃ c r,ZcS n=(0,c)::r/\c≠[125]:=by
   have n3:¬ n.kind=3:=by rw [hk];decide
   unfold ZcS
   rw [if_neg n3]
   split
   ·exact ⟨_,_,rfl,by decide⟩
   ·exact ⟨_,_,rfl,by decide⟩
  obtain ⟨c,r,hr,hc⟩:=ek
  exact ⟨_,r,hr,trivial,fun s e0 h=>ZH e0 h hc⟩
theorem ZlZ {ns:List Nd} (R:RightP ns) {f g i:Nat} {n:Nd} (hn:ns[i]? = some n) (hk:n.kind=1) {x:Txt} (hs:n.words=[x]) (hp:Zaa ns n.kids Zfo):ZZ L 0 (ZbL L) (ZcD ns g n) (fun _=>True) (Zt ns (f+2) n):=fun s v e0 e1 hh _=>by
 obtain ⟨hw,hu,hl⟩:=R.node i n hn
 have el:Zn ns n=(ZF n 1 0&&ZbM ns n.kids (isB [2,3])):=by simp [Zn,hk]
 rw [el,Bool.and_eq_true] at hl
 have hnu:n.nums=[]:=List.length_eq_zero_iff.1 (ZaL hl.1).2
 have hx:ZN x=true:=List.all_eq_true.mp hw x (by rw [hs];simp)
 have ek:ZcD ns g n=[(0,[112,114,111,116,111]),(0,x),(2,[123])]++((n.kids.map fun k=>ZcS (Za ns k)).flatten++[(2,[125])]):=by simp [ZcD,hk,word,hs,Zaw]
 rw [ek] at hh ⊢
 have h3:=hh.left
 have k0:kt (Zi L s.at_)=(0,[112,114,111,116,111]):=h3.head
 have k1:kt (Zi L (Zc s 1).at_)=(0,x):=h3.tail.head
 have k2:kt (Zi L (Zc (Zc s 1) 1).at_)=(2,[123]):=h3.tail.tail.head
 have hb:∀ b∈n.kids,ZZ L 0 (Zbo L) (ZcS (Za ns b)) (fun _=>True) (Zt ns (f+1) (Za ns b))/\ZbN L (fun _=>True) [125] (ZcS (Za ns b)):=fun b hb=>by
  obtain ⟨q,hq⟩:=ZaB R hn hb
  exact ⟨ZnJ R hq (hp b hb).2.2,ZlT (hp b hb).2.2⟩
 have hK:n.kids.length<L.length+1:=by
  have h1:=ZdI (U:=fun k=>ZcS (Za ns k)) n.kids fun b hb'=>(hb b hb').2.some_
  have h2:=h3.right.1
  rw [List.length_append] at h2
  omega
 obtain ⟨ts,e2,hts⟩:=Zfm (U:=fun k=>ZcS (Za ns k)) (P:=fun c=>Zt ns (f+1) (Za ns c)) (x:=[125]) trivial n.kids (L.length+1) [] (Zc (Zc (Zc s 1) 1) 1) e0 e1 h3.right hK hb
 refine ⟨_,?_,Zcx (p:=Ze L s) hk hs hnu hts⟩
 unfold ZbL
 simp only
 rw [Zfw e0 k0 (by decide),Zam (s:=Zc s 1) e0 k1 hx]
 simp only
 rw [Zba (s:=Zc (Zc s 1) 1) e0 k2,e2,Zk,Zk,Zk]
 simp only [List.nil_append,List.cons_append,List.length_cons,List.length_append,List.length_nil,Prod.mk.injEq,true_and]
 congr 1
 omega
end
end
end Go.Proofs.YtkongcicmajolaaGreatDoor
