import Derived.Test.YtfbepcelkijgkaaGreatDoorQBK
import Derived.Test.YtfbepcelkijgkaaGreatDoorQBO
set_option maxRecDepth 100000
set_option maxHeartbeats 8000000
namespace Go.Proofs.YtfbepcelkijgkaaGreatDoor
section
section
variable {L:List Tok}
theorem ZZ.to {d e:Int} {m:PS->Tr×PS} {us vs:TS} {g:Nat×Txt->Prop} {T a:Tr->Prop} (h:ZZ L d m us g T) (hd:d<=e) (c:vs=us) (b:∀t,T t->a t):ZZ L e m vs g a:=by subst c;exact h.less hd (fun _ k=>k) b
theorem ZgQ {ns:List Nd} (R:RightP ns) {F:Nat} {ex:PS->Tr×PS} (aa:∀(f i:Nat) (n:Nd),f<=F->ns[i]? = some n->ZV ns f n->ZZ L (2*f:Nat) ex (ZO ns f n) gX (Zs ns f n)):∀(f i:Nat) (n:Nd) (g:Nat),f<=F->ns[i]? = some n->Zcf ns f n->f<=g->ZZ L (2*f:Nat) (Zu L ex g) (Zak ns f n) gT (Zs ns (3*f) n)
 |0,_,_,_,_,_,h,_=>h.elim
 |_+1,_,_,0,_,_,_,hg=>absurd hg (by omega)
 |f+1,i,n,g+1,hF,hn,h,hg=>by
  obtain⟨hw,hu,s⟩:=R.node i n hn
  have G:∀k∈n.kids,(Zf ns k).kind=7->Zdh ns (fun x=>Zcf ns f x) (Zf ns k)->ZeN L ns (3*f+2) ((2*f:Nat)+1) (Zu L ex g) ((2,[123])::(((Zf ns k).kids.map fun c=>Zak ns f (Zf ns c)).flatten++[(2,[125])])) k:=fun k hk J B=>by
   obtain⟨j,M⟩:=Zci R hn hk
   have:=Zg3 (L:=L) (f:=3*f) (st:=Zu L ex g) (d:=(2*f:Nat)) (U:=fun c=>Zak ns f (Zf ns c)) R (by omega) M J fun c hc=>by
    obtain⟨j',P⟩:=Zci R M hc;exact⟨ZgQ R aa f j' _ g (by omega) P (B c hc).2.2 (by omega),Zgd R P (B c hc).2.2⟩
   exact ZZ.to this (Int.le_refl _) rfl fun t h=>h.up (by omega)
  have E:∀k∈n.kids,ZV ns f (Zf ns k)->ZZ L ((2*f:Nat)+1) ex (ZO ns f (Zf ns k)) gX (Zs ns (3*f+2) (Zf ns k)):=fun k hk K=>by
   obtain⟨j,M⟩:=Zci R hn hk;exact(aa f j _ (by omega) M K).to (by omega) rfl fun t h=>h.up (by omega)
  have I:((2*f:Nat):Int)+1<=((2*(f+1):Nat):Int):=by omega
  have Q:∀w∈n.words,ZQ w=true:=fun w hx=>List.all_eq_true.mp hw w hx;rcases h with⟨hk,⟨a,ha⟩,k,e,K⟩|⟨hk,⟨a,b,o⟩,⟨j,k,e⟩,B⟩|⟨hk,⟨a,b,o⟩,hC⟩|⟨hk,⟨a,b,o⟩,⟨p,q,r,H,-⟩,l,k,e,-,B⟩|⟨hk,av,hA⟩|⟨hk,k,r,e,hr,K,B⟩|⟨hk,j,k,e,K,B⟩|⟨hk,k,e,K⟩|hk
  ·have C:Zr ns n=(Zq n 1 0&&Zj ns n.kids [ZF]):=by rcases hk with hk|hk<;>simp[Zr,hk]
   rw[C,Bool.and_eq_true]at s;have A:n.nums=[]:=List.length_eq_zero_iff.1 (ZaP s.1).2;have hx:=Q a (by rw[ha];simp);have e1:word n 0=a:=by simp[word,ha]
   have Y:Zaa ns n 0=Zf ns k:=Zbx (by rw[e];rfl);have O:=E k (by rw[e];simp) (K k (by simp)).2.2;rcases hk with hk|hk
   ·exact(ZoJ hk ha A e hx O).to I (by rw[ks8 hk,e1,Y]) fun t h=>h
   ·exact(Zpq hk ha A e hx O).to I (by rw[ks9 hk,e1,Y]) fun t h=>h
  ·have C:Zr ns n=(Zq n 2 0&&Zj ns n.kids [isB [7],isB [7]]):=by simp[Zr,hk]
   rw[C,Bool.and_eq_true,e]at s;have A:n.nums=[]:=List.length_eq_zero_iff.1 (ZaP s.1).2;have J:(Zf ns j).kind=7/\(Zf ns k).kind=7:=by simpa[Zj,isB,Zp]using s.2
   have B1:=G j (by rw[e];simp) J.1 (B j (by rw[e];simp)).2.2;have S:=G k (by rw[e];simp) J.2 (B k (by rw[e];simp)).2.2;exact(Znl hk o A e (Q a (by rw[o];simp)) (Q b (by rw[o];simp)) B1 S).to I (by rw[Zso hk,e];simp[word,o,ZaA,Za6,Zec]) fun t h=>h
  ·have C:Zr ns n=(Zq n 2 0&&Zam ns n.kids (isB [12])):=by simp[Zr,hk]
   rw[C,Bool.and_eq_true]at s;have A:n.nums=[]:=List.length_eq_zero_iff.1 (ZaP s.1).2;have ha:=Q a (by rw[o];simp);have hb:=Q b (by rw[o];simp);by_cases e:n.kids=[]
   ·exact(ZpX (d:=(2*f:Nat)+1) (f:=3*f+2) hk o A e ha hb).to I (by rw[ZrX hk,e];simp[word,o]) fun t h=>h
   ·have T:∀c∈n.kids,ZZ L ((2*f:Nat)+1) (ZcU L (Zu L ex g)) ([(0,word (Zf ns c) 0)]++((2,[123])::(((Zaa ns (Zf ns c) 0).kids.map fun k=>Zak ns f (Zf ns k)).flatten++[(2,[125])]))) (fun _=>True) (Zs ns (3*f+2) (Zf ns c))/\ZbD L (fun _=>True) [125] ([(0,word (Zf ns c) 0)]++((2,[123])::(((Zaa ns (Zf ns c) 0).kids.map fun k=>Zak ns f (Zf ns k)).flatten++[(2,[125])]))):=fun c hc=>by
     obtain⟨j,M⟩:=Zci R hn hc;obtain⟨ab,au,v⟩:=R.node j _ M;have ad:(Zf ns c).kind=12:=by have:=List.all_eq_true.mp s.2 c hc;simpa[isB,Zp]using this
     have Z:Zr ns (Zf ns c)=(Zq (Zf ns c) 1 0&&Zj ns (Zf ns c).kids [isB [7]]):=by simp[Zr,ad]
     rw[Z,Bool.and_eq_true]at v;obtain⟨x,hx⟩:=Zep (ZaP v.1).1;obtain⟨-,k,W,B⟩:=(hC c hc).2.2;rw[W]at v;have J:(Zf ns k).kind=7:=by simpa[Zj,isB,Zp]using v.2
     obtain⟨j2,V⟩:=Zci R M (k:=k) (by rw[W];simp)
     have S:=Zg3 (L:=L) (f:=3*f) (st:=Zu L ex g) (d:=(2*f:Nat)) (U:=fun c=>Zak ns f (Zf ns c)) R (by omega) V J fun c hc=>by
      obtain⟨j',P⟩:=Zci R V hc;exact⟨ZgQ R aa f j' _ g (by omega) P ((B k (by simp)).2.2 c hc).2.2 (by omega),Zgd R P ((B k (by simp)).2.2 c hc).2.2⟩
     have e1:word (Zf ns c) 0=x:=by simp[word,hx]
     have Y:Zaa ns (Zf ns c) 0=Zf ns k:=Zbx (by rw[W];rfl);rw[e1,Y];exact ZmT ad hx (List.length_eq_zero_iff.1 (ZaP v.1).2) W (List.all_eq_true.mp ab x (by rw[hx];simp)) S
    exact(Zj3 hk o A ha hb T).to I (by rw[ZrX hk,Yn e];simp[word,o,Za6]) fun t h=>h
  ·have C:Zr ns n=(Zq n 2 3&&ZeJ ns n):=by simp[Zr,hk]
   rw[C,Bool.and_eq_true]at s;have n0:num n 0=p:=ZcT (by rw[H];rfl);have n1:num n 1=q:=ZcT (by rw[H];rfl);have n2:num n 2=r:=ZcT (by rw[H];rfl);have hp:=Zbn hu (x:=p) (by rw[H];simp);have hq:=Zbn hu (x:=q) (by rw[H];simp);have hr:=Zbn hu (x:=r) (by rw[H];simp);have hP:=s.2;unfold ZeJ ZdJ at hP;rw[n0,n1,n2,Bool.and_eq_true,Bool.and_eq_true,Bool.and_eq_true,Bool.and_eq_true,decide_eq_true_eq,decide_eq_true_eq,decide_eq_true_eq]at hP;obtain⟨⟨⟨ak,am⟩,an,ao⟩,D⟩:=hP;have al:1<=p:=by
    have h3:p≠0:=by simpa using ak
    have h4:=hp.1;omega
   have bc:(n.kids.drop (n.kids.length-1))=[k]:=by rw[e];simp
   have ae:Zaa ns n (n.kids.length-1)=Zf ns k:=Zbx (by rw[e];simp);have aq:n.kids.take (n.kids.length-1)=l:=by rw[e];simp
   have X:(l=[]\/∃x,l=[x]/\(Zf ns x).kind=6/\ZY ns x=2)/\(Zf ns k).kind=7:=by
    rw[Bool.or_eq_true,e]at D
    match l,D with
    |[],D=>exact⟨.inl rfl,by simpa[Zj,isB,Zp]using D⟩
    |[x],D=>
     have h9:((Zf ns x).kind=6/\(Zf ns k).kind=7)/\ZY ns x=2:=by simpa[Zj,isB,Zp,atI]using D
     exact⟨.inr ⟨x,rfl,h9.1.1,h9.2⟩,h9.1.2⟩
    |x::y::z,D=>cases z<;>simp[Zj]at D
   have hN:∀c∈l,Zgp ns c:=fun c hc=>by
    obtain⟨j,M⟩:=Zci R hn (k:=c) (by rw[e];simp[hc]);rcases X.1 with h|⟨x,h,h6,-⟩
    ·rw[h]at hc;simp at hc
    ·rw[h]at hc;have:c=x:=by simpa using hc
     subst this;exact ZoO R M h6
   have ap:ZaC ns l=true:=by
    rcases X.1 with h|⟨x,h,-⟩<;>rw[h]<;>rfl
   have V:∀c∈l,2<=ZY ns c:=fun c hc=>by
    rcases X.1 with h|⟨x,h,-,h2⟩
    ·rw[h]at hc;simp at hc
    ·rw[h]at hc;have:c=x:=by simpa using hc
     subst this;omega
   have S:=G k (by rw[e];simp) X.2 (B k (by simp)).2.2;exact(Zl1 (f:=3*f+1) hk o H e (Q a (by rw[o];simp)) (Q b (by rw[o];simp)) al am hq hr an ao hN ap V S).to I (by rw[Zsp hk,ae,aq,n0,n1,n2];simp[word,o,Za6,ZfZ]) fun t h=>h
  ·have C:Zr ns n=((Zq n 1 0||Zq n 2 0)&&Zam ns n.kids Zdp):=by simp[Zr,hk]
   rw[C,Bool.and_eq_true]at s;have A:n.nums=[]:=by
    have:=s.1;rw[Bool.or_eq_true]at this;rcases this with h|h<;>exact List.length_eq_zero_iff.1 (ZaP h).2
   have T:∀c∈n.kids,ZZ L ((2*f:Nat)+1) (Za4 L ex) (Zg1 ns f (Zf ns c)) gX (Zs ns (3*f+2) (Zf ns c))/\ZbD L (fun _=>True) [41] (Zg1 ns f (Zf ns c)):=fun c hc=>by
    obtain⟨j,M⟩:=Zci R hn hc;obtain⟨ab,au,v⟩:=R.node j _ M;rcases(hA c hc).2.2 with⟨N,-⟩|⟨N,K⟩
    ·have Z:Zr ns (Zf ns c)=(Zq (Zf ns c) 1 0&&Zj ns (Zf ns c).kids []):=by simp[Zr,N]
     rw[Z,Bool.and_eq_true]at v;obtain⟨x,hx⟩:=Zep (ZaP v.1).1;have ek:Zg1 ns f (Zf ns c)=[(2,[38]),(0,x)]:=by simp[Zg1,N,word,hx]
     rw[ek];exact Zkx (f:=3*f+1) N hx (List.length_eq_zero_iff.1 (ZaP v.1).2) (Zg0 v.2) (List.all_eq_true.mp ab x (by rw[hx];simp))
    ·have ek:Zg1 ns f (Zf ns c)=ZO ns f (Zf ns c):=by simp[Zg1,N]
     rw[ek];have hS:=Zlq (L:=L) R M K;exact⟨Zl5 (E c hc K) hS.1,hS.2⟩
   rcases av with⟨a,ha⟩|⟨b,a,o⟩
   ·exact(ZmS hk ha A (Q a (by rw[ha];simp)) T).to I (by rw[ZrY hk,ha];simp[word,ha]) fun t h=>h
   ·exact(Zkl hk o A (Q a (by rw[o];simp)) (Q b (by rw[o];simp)) T).to I (by rw[ZrY hk,o];simp[word,o]) fun t h=>h
  ·have C:Zr ns n=(Zq n 0 0&&(Zj ns n.kids [ZF,isB [7]]||Zj ns n.kids [ZF,isB [7],isB [7]])):=by simp[Zr,hk]
   rw[C,Bool.and_eq_true,e]at s;have u:=ZaP s.1;have O:=E k (by rw[e];simp) (K k (by simp)).2.2;have Y:Zaa ns n 0=Zf ns k:=Zbx (by rw[e];rfl)
   match r,hr,B,e,s with
   |[b],_,B,e,s=>
    have J:(Zf ns b).kind=7:=by have:=s.2;simp only[Zj,isB,Zp,Bool.and_eq_true,Bool.or_eq_true,Bool.and_false,Bool.false_eq_true,or_false,Bool.and_true]at this;simpa using this.2
    have B1:=G b (by rw[e];simp) J (B b (by simp)).2.2;exact(Zp7 hk (List.length_eq_zero_iff.1 u.1) (List.length_eq_zero_iff.1 u.2) e O B1).to I (by rw[ZrZ hk,e,Y];simp[ZaA,Za6]) fun t h=>h
   |[b,c],_,B,e,s=>
    have J:(Zf ns b).kind=7/\(Zf ns c).kind=7:=by have:=s.2;simp only[Zj,isB,Zp,Bool.and_eq_true,Bool.or_eq_true,Bool.and_false,Bool.false_eq_true,false_or,Bool.and_true]at this;simpa using this.2
    have B1:=G b (by rw[e];simp) J.1 (B b (by simp)).2.2;have S:=G c (by rw[e];simp) J.2 (B c (by simp)).2.2;exact(Zky hk (List.length_eq_zero_iff.1 u.1) (List.length_eq_zero_iff.1 u.2) e O B1 S).to I (by rw[ZrZ hk,e,Y];simp[ZaA,Za6,Zec]) fun t h=>h
   |[],hr,_,_,_=>exact absurd rfl hr
   |_::_::_::_,_,_,_,s=>simp[Zj]at s
  ·have C:Zr ns n=(Zq n 0 0&&Zj ns n.kids [ZF,isB [7]]):=by simp[Zr,hk]
   rw[C,Bool.and_eq_true,e]at s;have u:=ZaP s.1;have J:(Zf ns k).kind=7:=by have:=s.2;simp only[Zj,isB,Zp,Bool.and_eq_true]at this;simpa using this.2
   have S:=G k (by rw[e];simp) J (B k (by simp)).2.2;exact(Zl6 hk (List.length_eq_zero_iff.1 u.1) (List.length_eq_zero_iff.1 u.2) e (E j (by rw[e];simp) (K j (by simp)).2.2) rfl rfl S).to I (by simp[Zak,hk,Za6,Zbx (ns:=ns) (d:=n) (m:=0) (k:=j) (by rw[e];rfl),Zbx (ns:=ns) (d:=n) (m:=1) (k:=k) (by rw[e];rfl)]) fun t h=>h
  ·have C:Zr ns n=(Zq n 0 0&&Zj ns n.kids [ZF]):=by simp[Zr,hk]
   rw[C,Bool.and_eq_true]at s;have u:=ZaP s.1;exact(ZkO hk (List.length_eq_zero_iff.1 u.1) (List.length_eq_zero_iff.1 u.2) e (E k (by rw[e];simp) (K k (by simp)).2.2)).to I (by simp[Zak,hk,Zbx (ns:=ns) (d:=n) (m:=0) (k:=k) (by rw[e];rfl)]) fun t h=>h
  ·have C:Zr ns n=(Zq n 0 0&&Zj ns n.kids []):=by simp[Zr,hk]
   rw[C,Bool.and_eq_true]at s;have u:=ZaP s.1;exact(ZmZ (d:=(2*f:Nat)+1) (f:=3*f+2) hk (List.length_eq_zero_iff.1 u.1) (List.length_eq_zero_iff.1 u.2) (Zg0 s.2)).to I (by simp[Zak,hk]) fun t h=>h
end
end
section
section
variable {L:List Tok}
def ZmN (L:List Tok) (d:Int) (ex st:PS->Tr×PS) (us:TS) (P:Tr->Prop):Prop:=
 ((∃r,us=(0,[112,114,111,116,111])::r)/\ZZ L d (ZbX L) us (fun _=>True) P)\/((∃r,us=(0,[102,110])::r)/\ZZ L d (fnM L ex st) us (fun _=>True) P)
theorem Zfg {q:Type} {d:Int} {ex st:PS->Tr×PS} {U:q->TS} {P:q->Tr->Prop}:∀(a:List q) (K:Nat) (l:List Tr) (s:PS),s.err=0->s.deep+d<=200->Zal L s.at_ ((a.map U).flatten++[(3,[])])->a.length<K->(∀b∈a,ZmN L d ex st (U b) (P b)) ->
  ∃ts,ZaM L ex st K l s=(l++ts,Zc s (a.map U).flatten.length)/\ZaV P a ts
 |[],K,l,s,e0,_,hh,hK,_=>by
  obtain⟨K,rfl⟩:∃k,K=k+1:=⟨K-1,by simp at hK;omega⟩
  have e:kt (Zl L s.at_)=(3,[]):=hh.head;refine⟨[],?_,ZaV.nil P⟩;unfold ZaM;rw[Yn (by rw[(Zc1 e0 e).1];simp),List.append_nil];rfl
 |b::r,K,l,s,e0,e1,hh,hK,hb=>by
  obtain⟨K,rfl⟩:∃k,K=k+1:=⟨K-1,by simp at hK;omega⟩
  rw[List.map_cons,List.flatten_cons,List.append_assoc]at hh;have f:∃v g,(r.map U).flatten++[((3:Nat),([]:Txt))]=v::g:=by
   cases h:(r.map U).flatten with
   |nil=>exact⟨_,_,rfl⟩
   |cons v g=>exact⟨v,g++[(3,[])],rfl⟩
  obtain⟨v,g,w⟩:=f;have i:=hh;rw[w]at i;have u:Zal L (Zc s (U b).length).at_ ((r.map U).flatten++[(3,[])]):=hh.right;rcases hb b List.mem_cons_self with⟨⟨y,j⟩,hD⟩|⟨⟨y,j⟩,hD⟩
  ·have e:kt (Zl L s.at_)=(0,[112,114,111,116,111]):=by rw[j]at hh;exact hh.left.head
   obtain⟨t,m,n⟩:=hD.at' e0 e1 i trivial;obtain⟨ts,o,p⟩:=Zfg r K (l++[t]) (Zc s (U b).length) e0 e1 u (by simp at hK;omega) fun c hc=>hb c (List.mem_cons_of_mem _ hc);refine⟨t::ts,?_,ZaV.cons n p⟩;rw[ZaM,Yo ⟨e0,by rw[(Zc1 e0 e).1];decide⟩,ZbV e0 e (by decide),Yo rfl,m];simp only;rw[o,Zn];simp
  ·have e:kt (Zl L s.at_)=(0,[102,110]):=by rw[j]at hh;exact hh.left.head
   obtain⟨t,m,n⟩:=hD.at' e0 e1 i trivial;obtain⟨ts,o,p⟩:=Zfg r K (l++[t]) (Zc s (U b).length) e0 e1 u (by simp at hK;omega) fun c hc=>hb c (List.mem_cons_of_mem _ hc);refine⟨t::ts,?_,ZaV.cons n p⟩;rw[ZaM,Yo ⟨e0,by rw[(Zc1 e0 e).1];decide⟩,ZI e0 e (by decide),Yn (by decide),ZbV e0 e (by decide),Yo rfl,m];simp only;rw[o,Zn];simp
end
end
section
section
variable {L:List Tok}
theorem Zm7 {ns:List Nd} (R:RightP ns) {F f i g:Nat} {n:Nd} {ex:PS->Tr×PS} (w:∀(f i:Nat) (n:Nd),f<=F->ns[i]? = some n->ZV ns f n->ZZ L (2*f:Nat) ex (ZO ns f n) gX (Zs ns f n)) (hF:f<=F) (S:f<=g) (v:ns[i]? = some n) (h:ZgY ns f n) :
  ZmN L ((2*f:Nat)+1) ex (Zu L ex g) (Zde ns f n) (Zs ns (3*f+3) n):=by
 obtain⟨V,W,u⟩:=R.node i n v;rcases h with⟨hk,⟨x,o⟩,T⟩|⟨hk,⟨a,ha⟩,l,k,b,Q,D⟩
 ·have hD:ZZ L ((2*f:Nat)+1) (ZbX L) (Zde ns f n) (fun _=>True) (Zs ns (3*f+3) n):=(ZlG (f:=0) R v hk o T).to (by omega) rfl fun t h=>h.up (by omega);exact .inl ⟨⟨_,by simp[Zde,hk];rfl⟩,hD⟩
 ·have M:Zr ns n=(Zq n 1 0&&Zam ns (n.kids.take (n.kids.length-1)) (isB [5])&&Zj ns (n.kids.drop (n.kids.length-1)) [isB [7]]):=by simp[Zr,hk]
  have r:n.kids.take (n.kids.length-1)=l:=by rw[b];simp
  have z:n.kids.drop (n.kids.length-1)=[k]:=by rw[b];simp
  have m:Zaa ns n (n.kids.length-1)=Zf ns k:=Zbx (by rw[b];simp);rw[M,Bool.and_eq_true,Bool.and_eq_true,r,z]at u;have A:n.nums=[]:=List.length_eq_zero_iff.1 (ZaP u.1.1).2;have O:(Zf ns k).kind=7:=by simpa[Zj,isB,Zp]using u.2
  have hx:ZQ a=true:=List.all_eq_true.mp V a (by rw[ha];simp);obtain⟨j,E⟩:=Zci R v (k:=k) (by rw[b];simp)
  have I:=Zg3 (L:=L) (f:=3*f) (st:=Zu L ex g) (d:=(2*f:Nat)) (U:=fun c=>Zak ns f (Zf ns c)) R (by omega) E O fun c hc=>by
   obtain⟨H,e⟩:=Zci R E hc;exact⟨ZgQ R w f H _ g hF e ((D k (by simp)).2.2 c hc).2.2 S,Zgd R e ((D k (by simp)).2.2 c hc).2.2⟩
  have J:ZeN L ns (3*f+2) ((2*f:Nat)+1) (Zu L ex g) ((2,[123])::(((Zf ns k).kids.map fun c=>Zak ns f (Zf ns c)).flatten++[(2,[125])])) k:=ZZ.to I (Int.le_refl _) rfl fun t h=>h.up (by omega)
  have P:∀c∈l,ZZ L 0 (ZaO L) (Zd7 ns (Zf ns c)) Zd3 (Zs ns (3*f+2) (Zf ns c))/\ZbD L (fun _=>True) [41] (Zd7 ns (Zf ns c)):=fun c hc=>by
   obtain⟨H,e⟩:=Zci R v (k:=c) (by rw[b];simp[hc]);have N:(Zf ns c).kind=5:=by have:=List.all_eq_true.mp u.1.2 c hc;simpa[isB,Zp]using this
   refine⟨(Zlz (f:=0) R e N).to (Int.le_refl _) rfl fun t h=>h.up (by omega),?_⟩;have B:∃y,(Zf ns c).words[0]? = some y:=by
    rcases(Q c hc).2.2 with⟨s,o⟩|⟨⟨p,q,o⟩,_⟩
    ·exact⟨s,by rw[o];rfl⟩
    ·exact⟨p,by rw[o];rfl⟩
   obtain⟨y,G⟩:=B;have K:word (Zf ns c) 0=y:=by unfold word;rw[G];rfl
   unfold Zd7;rw[K];exact Zlv (ZhF R e G) (by decide)
  have C:Zde ns f n=[(0,[102,110]),(0,a),(2,[40])]++(ZaA [(2,[44])] (l.map fun c=>Zd7 ns (Zf ns c))++([(2,[41])]++((2,[123])::(((Zf ns k).kids.map fun c=>Zak ns f (Zf ns c)).flatten++[(2,[125])])))):=by unfold Zde;rw[Yn (by rw[hk];decide),r,m];simp[word,ha,Za6]
  have hD:=Zp3 (ex:=ex) (by omega) hk ha A b hx P J;rw[<-C]at hD;exact .inr ⟨⟨_,by rw[C];rfl⟩,hD⟩
end
end
section
theorem Zrb {L:List Tok} {us:TS} (h:L.map kt=us):Zal L 0 us:=by subst h;refine⟨by simp,fun i u a=>?_⟩;rw[List.getElem?_map,Option.map_eq_some_iff]at a;obtain⟨t,b,rfl⟩:=a;rw[Nat.zero_add,Zl,b];rfl
theorem Znu {ns:List Nd} (R:RightP ns) {f:Nat} (u:f<=90) (q:∀c∈(Zf ns 0).kids,ZgY ns f (Zf ns c)) {L:List Tok} (t:L.map kt=((Zf ns 0).kids.map fun c=>Zde ns f (Zf ns c)).flatten++[(3,[])]) :
  ∃ts,Zc2 L=(ts,Zc s07 (((Zf ns 0).kids.map fun c=>Zde ns f (Zf ns c)).flatten).length)/\ZaV (fun c=>Zs ns (3*f+3) (Zf ns c)) (Zf ns 0).kids ts:=by
 have l:=Zrb t
 have o:∃i:Nat,ns[i]? = some (Zf ns 0):=⟨0,by
  have:=R.some_;unfold Zf;rw[show(0:Int).toNat=0 from rfl,Ym this]
  rfl⟩
 obtain⟨i0,e⟩:=o
 have k:∀c∈(Zf ns 0).kids,ZmN L ((2*f:Nat)+1) (ex7 L) (st7 L) (Zde ns f (Zf ns c)) (Zs ns (3*f+3) (Zf ns c)):=fun c hc=>by
  obtain⟨j,w⟩:=Zci R e hc;exact Zm7 (F:=90) R (fun m i n v y p=>(Zis R m i n 201 y p (by omega)).x) u (by omega) w (q c hc)
 have s:(Zf ns 0).kids.length<L.length+1:=by
  have g:=Zds (U:=fun c=>Zde ns f (Zf ns c)) (Zf ns 0).kids fun b d=>by
   rcases k b d with⟨⟨r,h⟩,-⟩|⟨⟨r,h⟩,-⟩<;>rw[h]<;>exact List.cons_ne_nil _ _
  have a:=l.1;rw[Yj]at a;omega
 obtain⟨ts,g,a⟩:=Zfg (U:=fun c=>Zde ns f (Zf ns c)) (Zf ns 0).kids (L.length+1) [] s07 rfl (by show(0:Int)+_<=200;omega) l s k;exact⟨ts,by rw[show Zc2 L=ZaM L (ex7 L) (st7 L) (L.length+1) [] s07 from rfl,g,List.nil_append],a⟩
end
end Go.Proofs.YtfbepcelkijgkaaGreatDoor
