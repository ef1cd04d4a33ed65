import Derived.Test.YtfbepcelkijgkaaGreatDoorQAV
set_option maxRecDepth 100000
set_option maxHeartbeats 8000000
namespace Go.Proofs.YtfbepcelkijgkaaGreatDoor
section
section
variable {L:List Tok}
theorem ZZ.to {d e:Int} {m:PS->Tr×PS} {us vs:TS} {g:Nat×Txt->Prop} {T a:Tr->Prop} (h:ZZ L d m us g T) (hd:d<=e) (hv:vs=us) (b:∀t,T t->a t):ZZ L e m vs g a:=by subst hv;exact h.less hd (fun _ k=>k) b
theorem Zha {ns:List Nd} (R:RightP ns) {F:Nat} {ex:PS->Tr×PS} (aa:∀(f i:Nat) (n:Nd),f<=F->ns[i]? = some n->ZS ns f n->ZZ L (2*f:Nat) ex (ZR ns f n) gX (Zs ns f n)):∀(f i:Nat) (n:Nd) (g:Nat),f<=F->ns[i]? = some n->Zbj ns f n->f<=g->ZZ L (2*f:Nat) (Zt L ex g) (ZL ns f n) gT (Zs ns (3*f) n)
 |0,_,_,_,_,_,h,_=>h.elim
 |_+1,_,_,0,_,_,_,hg=>absurd hg (by omega)
 |f+1,i,n,g+1,hF,hn,h,hg=>by
  obtain⟨hw,hu,s⟩:=R.node i n hn
  have G:∀k∈n.kids,(Za ns k).kind=7->Zch ns (fun x=>Zbj ns f x) (Za ns k)->Ze3 L ns (3*f+2) ((2*f:Nat)+1) (Zt L ex g) ((2,[123])::(((Za ns k).kids.map fun c=>ZL ns f (Za ns c)).flatten++[(2,[125])])) k:=fun k hk J B=>by
   obtain⟨j,M⟩:=ZaA R hn hk
   have:=Zhm (L:=L) (f:=3*f) (st:=Zt L ex g) (d:=(2*f:Nat)) (U:=fun c=>ZL ns f (Za ns c)) R (by omega) M J fun c hc=>by
    obtain⟨j',P⟩:=ZaA R M hc;exact⟨Zha R aa f j' _ g (by omega) P (B c hc).2.2 (by omega),Zgv R P (B c hc).2.2⟩
   exact ZZ.to this (Int.le_refl _) rfl fun t h=>h.up (by omega)
  have E:∀k∈n.kids,ZS ns f (Za ns k)->ZZ L ((2*f:Nat)+1) ex (ZR ns f (Za ns k)) gX (Zs ns (3*f+2) (Za ns k)):=fun k hk K=>by
   obtain⟨j,M⟩:=ZaA R hn hk;exact(aa f j _ (by omega) M K).to (by omega) rfl fun t h=>h.up (by omega)
  have I:((2*f:Nat):Int)+1<=((2*(f+1):Nat):Int):=by omega
  have Q:∀w∈n.words,ZN w=true:=fun w hx=>List.all_eq_true.mp hw w hx;rcases h with⟨hk,⟨a,ha⟩,k,e,K⟩|⟨hk,⟨a,b,o⟩,⟨j,k,e⟩,B⟩|⟨hk,⟨a,b,o⟩,hC⟩|⟨hk,⟨a,b,o⟩,⟨p,q,r,H,-⟩,l,k,e,-,B⟩|⟨hk,au,hA⟩|⟨hk,k,r,e,hr,K,B⟩|⟨hk,j,k,e,K,B⟩|⟨hk,k,e,K⟩|hk
  ·have C:Zm ns n=(ZF n 1 0&&Zp ns n.kids [Zat]):=by rcases hk with hk|hk<;>simp[Zm,hk]
   rw[C,Bool.and_eq_true]at s;have A:n.nums=[]:=List.length_eq_zero_iff.1 (ZaL s.1).2;have hx:=Q a (by rw[ha];simp);have e1:word n 0=a:=by simp[word,ha]
   have Y:Zv ns n 0=Za ns k:=Za1 (by rw[e];rfl);have O:=E k (by rw[e];simp) (K k (by simp)).2.2;rcases hk with hk|hk
   ·exact(ZoQ hk ha A e hx O).to I (by rw[ks8 hk,e1,Y]) fun t h=>h
   ·exact(Zpq hk ha A e hx O).to I (by rw[ks9 hk,e1,Y]) fun t h=>h
  ·have C:Zm ns n=(ZF n 2 0&&Zp ns n.kids [isB [7],isB [7]]):=by simp[Zm,hk]
   rw[C,Bool.and_eq_true,e]at s;have A:n.nums=[]:=List.length_eq_zero_iff.1 (ZaL s.1).2;have J:(Za ns j).kind=7/\(Za ns k).kind=7:=by simpa[Zp,isB,ZJ]using s.2
   have B1:=G j (by rw[e];simp) J.1 (B j (by rw[e];simp)).2.2;have S:=G k (by rw[e];simp) J.2 (B k (by rw[e];simp)).2.2;exact(ZnC hk o A e (Q a (by rw[o];simp)) (Q b (by rw[o];simp)) B1 S).to I (by rw[Zns hk,e];simp[word,o,Zaj,Zaw,Zem]) fun t h=>h
  ·have C:Zm ns n=(ZF n 2 0&&ZbJ ns n.kids (isB [12])):=by simp[Zm,hk]
   rw[C,Bool.and_eq_true]at s;have A:n.nums=[]:=List.length_eq_zero_iff.1 (ZaL s.1).2;have ha:=Q a (by rw[o];simp);have hb:=Q b (by rw[o];simp);by_cases e:n.kids=[]
   ·exact(ZpZ (d:=(2*f:Nat)+1) (f:=3*f+2) hk o A e ha hb).to I (by rw[ZkY hk,e];simp[word,o]) fun t h=>h
   ·have T:∀c∈n.kids,ZZ L ((2*f:Nat)+1) (ZcQ L (Zt L ex g)) ([(0,word (Za ns c) 0)]++((2,[123])::(((Zv ns (Za ns c) 0).kids.map fun k=>ZL ns f (Za ns k)).flatten++[(2,[125])]))) (fun _=>True) (Zs ns (3*f+2) (Za ns c))/\ZbK L (fun _=>True) [125] ([(0,word (Za ns c) 0)]++((2,[123])::(((Zv ns (Za ns c) 0).kids.map fun k=>ZL ns f (Za ns k)).flatten++[(2,[125])]))):=fun c hc=>by
     obtain⟨j,M⟩:=ZaA R hn hc;obtain⟨ab,ar,v⟩:=R.node j _ M;have ad:(Za ns c).kind=12:=by have:=List.all_eq_true.mp s.2 c hc;simpa[isB,ZJ]using this
     have Z:Zm ns (Za ns c)=(ZF (Za ns c) 1 0&&Zp ns (Za ns c).kids [isB [7]]):=by simp[Zm,ad]
     rw[Z,Bool.and_eq_true]at v;obtain⟨x,hx⟩:=ZeH (ZaL v.1).1;obtain⟨-,k,W,B⟩:=(hC c hc).2.2;rw[W]at v;have J:(Za ns k).kind=7:=by simpa[Zp,isB,ZJ]using v.2
     obtain⟨j2,V⟩:=ZaA R M (k:=k) (by rw[W];simp)
     have S:=Zhm (L:=L) (f:=3*f) (st:=Zt L ex g) (d:=(2*f:Nat)) (U:=fun c=>ZL ns f (Za ns c)) R (by omega) V J fun c hc=>by
      obtain⟨j',P⟩:=ZaA R V hc;exact⟨Zha R aa f j' _ g (by omega) P ((B k (by simp)).2.2 c hc).2.2 (by omega),Zgv R P ((B k (by simp)).2.2 c hc).2.2⟩
     have e1:word (Za ns c) 0=x:=by simp[word,hx]
     have Y:Zv ns (Za ns c) 0=Za ns k:=Za1 (by rw[W];rfl);rw[e1,Y];exact Znd ad hx (List.length_eq_zero_iff.1 (ZaL v.1).2) W (List.all_eq_true.mp ab x (by rw[hx];simp)) S
    exact(Zko hk o A ha hb T).to I (by rw[ZkY hk,Yn e];simp[word,o,Zaw]) fun t h=>h
  ·have C:Zm ns n=(ZF n 2 3&&Zep ns n):=by simp[Zm,hk]
   rw[C,Bool.and_eq_true]at s;have n0:num n 0=p:=ZcG (by rw[H];rfl);have n1:num n 1=q:=ZcG (by rw[H];rfl);have n2:num n 2=r:=ZcG (by rw[H];rfl);have hp:=ZaR hu (x:=p) (by rw[H];simp);have hq:=ZaR hu (x:=q) (by rw[H];simp);have hr:=ZaR hu (x:=r) (by rw[H];simp);have hP:=s.2;unfold Zep ZdW at hP;rw[n0,n1,n2,Bool.and_eq_true,Bool.and_eq_true,Bool.and_eq_true,Bool.and_eq_true,decide_eq_true_eq,decide_eq_true_eq,decide_eq_true_eq]at hP;obtain⟨⟨⟨aj,al⟩,am,an⟩,D⟩:=hP;have ak:1<=p:=by
    have h3:p≠0:=by simpa using aj
    have h4:=hp.1;omega
   have bb:(n.kids.drop (n.kids.length-1))=[k]:=by rw[e];simp
   have ae:Zv ns n (n.kids.length-1)=Za ns k:=Za1 (by rw[e];simp);have ap:n.kids.take (n.kids.length-1)=l:=by rw[e];simp
   have X:(l=[]\/∃x,l=[x]/\(Za ns x).kind=6/\ZaC ns x=2)/\(Za ns k).kind=7:=by
    rw[Bool.or_eq_true,e]at D
    match l,D with
    |[],D=>exact⟨.inl rfl,by simpa[Zp,isB,ZJ]using D⟩
    |[x],D=>
     have h9:((Za ns x).kind=6/\(Za ns k).kind=7)/\ZaC ns x=2:=by simpa[Zp,isB,ZJ,atI]using D
     exact⟨.inr ⟨x,rfl,h9.1.1,h9.2⟩,h9.1.2⟩
    |x::y::z,D=>cases z<;>simp[Zp]at D
   have hN:∀c∈l,ZgJ ns c:=fun c hc=>by
    obtain⟨j,M⟩:=ZaA R hn (k:=c) (by rw[e];simp[hc]);rcases X.1 with h|⟨x,h,h6,-⟩
    ·rw[h]at hc;simp at hc
    ·rw[h]at hc;have:c=x:=by simpa using hc
     subst this;exact ZoW R M h6
   have ao:Zbl ns l=true:=by
    rcases X.1 with h|⟨x,h,-⟩<;>rw[h]<;>rfl
   have V:∀c∈l,2<=ZaC ns c:=fun c hc=>by
    rcases X.1 with h|⟨x,h,-,h2⟩
    ·rw[h]at hc;simp at hc
    ·rw[h]at hc;have:c=x:=by simpa using hc
     subst this;omega
   have S:=G k (by rw[e];simp) X.2 (B k (by simp)).2.2;exact(Zmc (f:=3*f+1) hk o H e (Q a (by rw[o];simp)) (Q b (by rw[o];simp)) ak al hq hr am an hN ao V S).to I (by rw[Znt hk,ae,ap,n0,n1,n2];simp[word,o,Zaw,ZfG]) fun t h=>h
  ·have C:Zm ns n=((ZF n 1 0||ZF n 2 0)&&ZbJ ns n.kids Zed):=by simp[Zm,hk]
   rw[C,Bool.and_eq_true]at s;have A:n.nums=[]:=by
    have:=s.1;rw[Bool.or_eq_true]at this;rcases this with h|h<;>exact List.length_eq_zero_iff.1 (ZaL h).2
   have T:∀c∈n.kids,ZZ L ((2*f:Nat)+1) (ZaS L ex) (Zee ns f (Za ns c)) gX (Zs ns (3*f+2) (Za ns c))/\ZbK L (fun _=>True) [41] (Zee ns f (Za ns c)):=fun c hc=>by
    obtain⟨j,M⟩:=ZaA R hn hc;obtain⟨ab,ar,v⟩:=R.node j _ M;rcases(hA c hc).2.2 with⟨N,-⟩|⟨N,K⟩
    ·have Z:Zm ns (Za ns c)=(ZF (Za ns c) 1 0&&Zp ns (Za ns c).kids []):=by simp[Zm,N]
     rw[Z,Bool.and_eq_true]at v;obtain⟨x,hx⟩:=ZeH (ZaL v.1).1;have ek:Zee ns f (Za ns c)=[(2,[38]),(0,x)]:=by simp[Zee,N,word,hx]
     rw[ek];exact ZkQ (f:=3*f+1) N hx (List.length_eq_zero_iff.1 (ZaL v.1).2) (Zhj v.2) (List.all_eq_true.mp ab x (by rw[hx];simp))
    ·have ek:Zee ns f (Za ns c)=ZR ns f (Za ns c):=by simp[Zee,N]
     rw[ek];have hS:=ZlK (L:=L) R M K;exact⟨Zmf (E c hc K) hS.1,hS.2⟩
   rcases au with⟨a,ha⟩|⟨b,a,o⟩
   ·exact(Znc hk ha A (Q a (by rw[ha];simp)) T).to I (by rw[ZkZ hk,ha];simp[word,ha]) fun t h=>h
   ·exact(ZkF hk o A (Q a (by rw[o];simp)) (Q b (by rw[o];simp)) T).to I (by rw[ZkZ hk,o];simp[word,o]) fun t h=>h
  ·have C:Zm ns n=(ZF n 0 0&&(Zp ns n.kids [Zat,isB [7]]||Zp ns n.kids [Zat,isB [7],isB [7]])):=by simp[Zm,hk]
   rw[C,Bool.and_eq_true,e]at s;have u:=ZaL s.1;have O:=E k (by rw[e];simp) (K k (by simp)).2.2;have Y:Zv ns n 0=Za ns k:=Za1 (by rw[e];rfl)
   match r,hr,B,e,s with
   |[b],_,B,e,s=>
    have J:(Za ns b).kind=7:=by have:=s.2;simp only[Zp,isB,ZJ,Bool.and_eq_true,Bool.or_eq_true,Bool.and_false,Bool.false_eq_true,or_false,Bool.and_true]at this;simpa using this.2
    have B1:=G b (by rw[e];simp) J (B b (by simp)).2.2;exact(Zqa hk (List.length_eq_zero_iff.1 u.1) (List.length_eq_zero_iff.1 u.2) e O B1).to I (by rw[Zk0 hk,e,Y];simp[Zaj,Zaw]) fun t h=>h
   |[b,c],_,B,e,s=>
    have J:(Za ns b).kind=7/\(Za ns c).kind=7:=by have:=s.2;simp only[Zp,isB,ZJ,Bool.and_eq_true,Bool.or_eq_true,Bool.and_false,Bool.false_eq_true,false_or,Bool.and_true]at this;simpa using this.2
    have B1:=G b (by rw[e];simp) J.1 (B b (by simp)).2.2;have S:=G c (by rw[e];simp) J.2 (B c (by simp)).2.2;exact(ZkR hk (List.length_eq_zero_iff.1 u.1) (List.length_eq_zero_iff.1 u.2) e O B1 S).to I (by rw[Zk0 hk,e,Y];simp[Zaj,Zaw,Zem]) fun t h=>h
   |[],hr,_,_,_=>exact absurd rfl hr
   |_::_::_::_,_,_,_,s=>simp[Zp]at s
  ·have C:Zm ns n=(ZF n 0 0&&Zp ns n.kids [Zat,isB [7]]):=by simp[Zm,hk]
   rw[C,Bool.and_eq_true,e]at s;have u:=ZaL s.1;have J:(Za ns k).kind=7:=by have:=s.2;simp only[Zp,isB,ZJ,Bool.and_eq_true]at this;simpa using this.2
   have S:=G k (by rw[e];simp) J (B k (by simp)).2.2;exact(Zmh hk (List.length_eq_zero_iff.1 u.1) (List.length_eq_zero_iff.1 u.2) e (E j (by rw[e];simp) (K j (by simp)).2.2) rfl rfl S).to I (by simp[ZL,hk,Zaw,Za1 (ns:=ns) (d:=n) (m:=0) (k:=j) (by rw[e];rfl),Za1 (ns:=ns) (d:=n) (m:=1) (k:=k) (by rw[e];rfl)]) fun t h=>h
  ·have C:Zm ns n=(ZF n 0 0&&Zp ns n.kids [Zat]):=by simp[Zm,hk]
   rw[C,Bool.and_eq_true]at s;have u:=ZaL s.1;exact(Zle hk (List.length_eq_zero_iff.1 u.1) (List.length_eq_zero_iff.1 u.2) e (E k (by rw[e];simp) (K k (by simp)).2.2)).to I (by simp[ZL,hk,Za1 (ns:=ns) (d:=n) (m:=0) (k:=k) (by rw[e];rfl)]) fun t h=>h
  ·have C:Zm ns n=(ZF n 0 0&&Zp ns n.kids []):=by simp[Zm,hk]
   rw[C,Bool.and_eq_true]at s;have u:=ZaL s.1;exact(Zni (d:=(2*f:Nat)+1) (f:=3*f+2) hk (List.length_eq_zero_iff.1 u.1) (List.length_eq_zero_iff.1 u.2) (Zhj s.2)).to I (by simp[ZL,hk]) fun t h=>h
end
end
section
section
variable {L:List Tok}
def Zm6 (L:List Tok) (d:Int) (ex st:PS->Tr×PS) (us:TS) (P:Tr->Prop):Prop:=
 ((∃r,us=(0,[112,114,111,116,111])::r)/\ZZ L d (ZbI L) us (fun _=>True) P)\/((∃r,us=(0,[102,110])::r)/\ZZ L d (fnM L ex st) us (fun _=>True) P)
theorem Zfz {q:Type} {d:Int} {ex st:PS->Tr×PS} {U:q->TS} {P:q->Tr->Prop}:∀(a:List q) (K:Nat) (l:List Tr) (s:PS),s.err=0->s.deep+d<=200->Zam L s.at_ ((a.map U).flatten++[(3,[])])->a.length<K->(∀b∈a,Zm6 L d ex st (U b) (P b)) ->
  ∃ts,Zay L ex st K l s=(l++ts,Zc s (a.map U).flatten.length)/\Za4 P a ts
 |[],K,l,s,e0,_,hh,hK,_=>by
  obtain⟨K,rfl⟩:∃k,K=k+1:=⟨K-1,by simp at hK;omega⟩
  have e:kt (Zg L s.at_)=(3,[]):=hh.head;refine⟨[],?_,Za4.nil P⟩;unfold Zay;rw[Yn (by rw[(Zdk e0 e).1];simp),List.append_nil];rfl
 |b::r,K,l,s,e0,e1,hh,hK,hb=>by
  obtain⟨K,rfl⟩:∃k,K=k+1:=⟨K-1,by simp at hK;omega⟩
  rw[List.map_cons,List.flatten_cons,List.append_assoc]at hh;have f:∃v g,(r.map U).flatten++[((3:Nat),([]:Txt))]=v::g:=by
   cases h:(r.map U).flatten with
   |nil=>exact⟨_,_,rfl⟩
   |cons v g=>exact⟨v,g++[(3,[])],rfl⟩
  obtain⟨v,g,w⟩:=f;have i:=hh;rw[w]at i;have u:Zam L (Zc s (U b).length).at_ ((r.map U).flatten++[(3,[])]):=hh.right;rcases hb b List.mem_cons_self with⟨⟨y,j⟩,hD⟩|⟨⟨y,j⟩,hD⟩
  ·have e:kt (Zg L s.at_)=(0,[112,114,111,116,111]):=by rw[j]at hh;exact hh.left.head
   obtain⟨t,m,n⟩:=hD.at' e0 e1 i trivial;obtain⟨ts,o,p⟩:=Zfz r K (l++[t]) (Zc s (U b).length) e0 e1 u (by simp at hK;omega) fun c hc=>hb c (List.mem_cons_of_mem _ hc);refine⟨t::ts,?_,Za4.cons n p⟩;rw[Zay,Yo ⟨e0,by rw[(Zdk e0 e).1];decide⟩,Zca e0 e (by decide),Yo rfl,m];simp only;rw[o,Zj];simp
  ·have e:kt (Zg L s.at_)=(0,[102,110]):=by rw[j]at hh;exact hh.left.head
   obtain⟨t,m,n⟩:=hD.at' e0 e1 i trivial;obtain⟨ts,o,p⟩:=Zfz r K (l++[t]) (Zc s (U b).length) e0 e1 u (by simp at hK;omega) fun c hc=>hb c (List.mem_cons_of_mem _ hc);refine⟨t::ts,?_,Za4.cons n p⟩;rw[Zay,Yo ⟨e0,by rw[(Zdk e0 e).1];decide⟩,ZH e0 e (by decide),Yn (by decide),Zca e0 e (by decide),Yo rfl,m];simp only;rw[o,Zj];simp
end
end
section
section
variable {L:List Tok}
theorem Znn {ns:List Nd} (R:RightP ns) {F f i g:Nat} {n:Nd} {ex:PS->Tr×PS} (u:∀(f i:Nat) (n:Nd),f<=F->ns[i]? = some n->ZS ns f n->ZZ L (2*f:Nat) ex (ZR ns f n) gX (Zs ns f n)) (hF:f<=F) (O:f<=g) (hn:ns[i]? = some n) (h:Zfl ns f n) :
  Zm6 L ((2*f:Nat)+1) ex (Zt L ex g) (ZcB ns f n) (Zs ns (3*f+3) n):=by
 obtain⟨Q,S,r⟩:=R.node i n hn;rcases h with⟨hk,⟨x,hs⟩,P⟩|⟨hk,⟨a,ha⟩,l,k,b,N,B⟩
 ·have hD:ZZ L ((2*f:Nat)+1) (ZbI L) (ZcB ns f n) (fun _=>True) (Zs ns (3*f+3) n):=(ZlZ (f:=0) R hn hk hs P).to (by omega) rfl fun t h=>h.up (by omega);exact .inl ⟨⟨_,by simp[ZcB,hk];rfl⟩,hD⟩
 ·have I:Zm ns n=(ZF n 1 0&&ZbJ ns (n.kids.take (n.kids.length-1)) (isB [5])&&Zp ns (n.kids.drop (n.kids.length-1)) [isB [7]]):=by simp[Zm,hk]
  have o:n.kids.take (n.kids.length-1)=l:=by rw[b];simp
  have v:n.kids.drop (n.kids.length-1)=[k]:=by rw[b];simp
  have m:Zv ns n (n.kids.length-1)=Za ns k:=Za1 (by rw[b];simp);rw[I,Bool.and_eq_true,Bool.and_eq_true,o,v]at r;have w:n.nums=[]:=List.length_eq_zero_iff.1 (ZaL r.1.1).2;have K:(Za ns k).kind=7:=by simpa[Zp,isB,ZJ]using r.2
  have hx:ZN a=true:=List.all_eq_true.mp Q a (by rw[ha];simp);obtain⟨j,C⟩:=ZaA R hn (k:=k) (by rw[b];simp)
  have G:=Zhm (L:=L) (f:=3*f) (st:=Zt L ex g) (d:=(2*f:Nat)) (U:=fun c=>ZL ns f (Za ns c)) R (by omega) C K fun c hc=>by
   obtain⟨E,e⟩:=ZaA R C hc;exact⟨Zha R u f E _ g hF e ((B k (by simp)).2.2 c hc).2.2 O,Zgv R e ((B k (by simp)).2.2 c hc).2.2⟩
  have H:Ze3 L ns (3*f+2) ((2*f:Nat)+1) (Zt L ex g) ((2,[123])::(((Za ns k).kids.map fun c=>ZL ns f (Za ns c)).flatten++[(2,[125])])) k:=ZZ.to G (Int.le_refl _) rfl fun t h=>h.up (by omega)
  have M:∀c∈l,ZZ L 0 (ZaB L) (Zdy ns (Za ns c)) Zef (Zs ns (3*f+2) (Za ns c))/\ZbK L (fun _=>True) [41] (Zdy ns (Za ns c)):=fun c hc=>by
   obtain⟨E,e⟩:=ZaA R hn (k:=c) (by rw[b];simp[hc]);have J:(Za ns c).kind=5:=by have:=List.all_eq_true.mp r.1.2 c hc;simpa[isB,ZJ]using this
   refine⟨(ZlS (f:=0) R e J).to (Int.le_refl _) rfl fun t h=>h.up (by omega),?_⟩;have z:∃y,(Za ns c).words[0]? = some y:=by
    rcases(N c hc).2.2 with⟨s,hs⟩|⟨⟨p,q,hs⟩,_⟩
    ·exact⟨s,by rw[hs];rfl⟩
    ·exact⟨p,by rw[hs];rfl⟩
   obtain⟨y,D⟩:=z;have e1:word (Za ns c) 0=y:=by unfold word;rw[D];rfl
   unfold Zdy;rw[e1];exact ZlP (ZgD R e D) (by decide)
  have A:ZcB ns f n=[(0,[102,110]),(0,a),(2,[40])]++(Zaj [(2,[44])] (l.map fun c=>Zdy ns (Za ns c))++([(2,[41])]++((2,[123])::(((Za ns k).kids.map fun c=>ZL ns f (Za ns c)).flatten++[(2,[125])])))):=by unfold ZcB;rw[Yn (by rw[hk];decide),o,m];simp[word,ha,Zaw]
  have hD:=Zp5 (ex:=ex) (by omega) hk ha w b hx M H;rw[<-A]at hD;exact .inr ⟨⟨_,by rw[A];rfl⟩,hD⟩
end
end
section
theorem ZkO {ns:List Nd} (R:RightP ns):∀(f g i:Nat) (n:Nd),ns[i]? = some n->ZS ns f n->f<=g->ZR ns g n=ZR ns f n
 |0,_,_,_,_,h,_=>h.elim
 |_+1,0,_,_,_,_,hg=>absurd hg (by omega)
 |f+1,g+1,i,n,hn,h,hg=>by
  have c:∀k∈n.kids,ZS ns f (Za ns k)->ZR ns g (Za ns k)=ZR ns f (Za ns k):=fun k hk b=>by
   obtain⟨j,r⟩:=ZaA R hn hk;exact ZkO R f g j _ r b (by omega)
  rcases ZiM R hn h with⟨hk,-⟩|⟨hk,-⟩|⟨hk,-,-,k,a,b⟩|⟨hk,-,o,j,k,-,-,-,a,p,q⟩
  ·simp[ZR,hk]
  ·simp[ZR,hk]
  ·have e:=c k (by rw[a];simp) b;simp[ZR,hk,Za1 (ns:=ns) (d:=n) (m:=0) (k:=k) (by rw[a];rfl),e]
  ·have e:=c j (by rw[a];simp) p;have l:=c k (by rw[a];simp) q;simp[ZR,hk,Za1 (ns:=ns) (d:=n) (m:=0) (k:=j) (by rw[a];rfl),Za1 (ns:=ns) (d:=n) (m:=1) (k:=k) (by rw[a];rfl),e,l]
end
end Go.Proofs.YtfbepcelkijgkaaGreatDoor
