import Derived.Test.YtdkegpkfjgloeaaGreatDoorQAU
set_option maxRecDepth 100000
set_option maxHeartbeats 8000000
namespace Go.Proofs.YtdkegpkfjgloeaaGreatDoor
section
section
variable {L:List Tok}
theorem Zad.to {d e:Int} {m:PS->Tr×PS} {us vs:TS} {g:Nat×Txt->Prop} {T a:Tr->Prop} (h:Zad L d m us g T) (hd:d<=e) (hv:vs=us) (b:∀t,T t->a t):Zad L e m vs g a:=by subst hv;exact h.less hd (fun _ k=>k) b
theorem Zg0 {ns:List Nd} (R:RightP ns) {F:Nat} {ex:PS->Tr×PS} (aa:∀(f i:Nat) (n:Nd),f<=F->ns[i]? = some n->ZZ ns f n->Zad L (2*f:Nat) ex (ZY ns f n) gX (Zv ns f n)):∀(f i:Nat) (n:Nd) (g:Nat),f<=F->ns[i]? = some n->Zbp ns f n->f<=g->Zad L (2*f:Nat) (Zu L ex g) (ZM ns f n) gT (Zv ns (3*f) n)
 |0,_,_,_,_,_,h,_=>h.elim
 |_+1,_,_,0,_,_,_,hg=>absurd hg (by omega)
 |f+1,i,n,g+1,hF,hn,h,hg=>by
  obtain⟨hw,hu,s⟩:=R.node i n hn
  have G:∀k∈n.kids,(Zb ns k).kind=7->Zce ns (fun x=>Zbp ns f x) (Zb ns k)->ZeU L ns (3*f+2) ((2*f:Nat)+1) (Zu L ex g) ((2,[123])::(((Zb ns k).kids.map fun c=>ZM ns f (Zb ns c)).flatten++[(2,[125])])) k:=fun k hk J B=>by
   obtain⟨j,M⟩:=ZaI R hn hk
   have:=Zhc (L:=L) (f:=3*f) (st:=Zu L ex g) (d:=(2*f:Nat)) (U:=fun c=>ZM ns f (Zb ns c)) R (by omega) M J fun c hc=>by
    obtain⟨j',P⟩:=ZaI R M hc;exact⟨Zg0 R aa f j' _ g (by omega) P (B c hc).2.2 (by omega),Zgn R P (B c hc).2.2⟩
   exact Zad.to this (Int.le_refl _) rfl fun t h=>h.up (by omega)
  have E:∀k∈n.kids,ZZ ns f (Zb ns k)->Zad L ((2*f:Nat)+1) ex (ZY ns f (Zb ns k)) gX (Zv ns (3*f+2) (Zb ns k)):=fun k hk K=>by
   obtain⟨j,M⟩:=ZaI R hn hk;exact(aa f j _ (by omega) M K).to (by omega) rfl fun t h=>h.up (by omega)
  have I:((2*f:Nat):Int)+1<=((2*(f+1):Nat):Int):=by omega
  have Q:∀w∈n.words,ZQ w=true:=fun w hx=>List.all_eq_true.mp hw w hx;rcases h with⟨hk,⟨a,ha⟩,k,e,K⟩|⟨hk,⟨a,b,o⟩,⟨j,k,e⟩,B⟩|⟨hk,⟨a,b,o⟩,hC⟩|⟨hk,⟨a,b,o⟩,⟨p,q,r,H,-⟩,l,k,e,-,B⟩|⟨hk,au,hA⟩|⟨hk,k,r,e,hr,K,B⟩|⟨hk,j,k,e,K,B⟩|⟨hk,k,e,K⟩|hk
  ·have C:Zo ns n=(Zr n 1 0&&Zj ns n.kids [ZR]):=by rcases hk with hk|hk<;>simp[Zo,hk]
   rw[C,Bool.and_eq_true]at s;have A:n.nums=[]:=List.length_eq_zero_iff.1 (ZaR s.1).2;have hx:=Q a (by rw[ha];simp);have e1:word n 0=a:=by simp[word,ha]
   have Y:Zx ns n 0=Zb ns k:=Za2 (by rw[e];rfl);have O:=E k (by rw[e];simp) (K k (by simp)).2.2;rcases hk with hk|hk
   ·exact(ZoV hk ha A e hx O).to I (by rw[ks8 hk,e1,Y]) fun t h=>h
   ·exact(ZpG hk ha A e hx O).to I (by rw[ks9 hk,e1,Y]) fun t h=>h
  ·have C:Zo ns n=(Zr n 2 0&&Zj ns n.kids [isB [7],isB [7]]):=by simp[Zo,hk]
   rw[C,Bool.and_eq_true,e]at s;have A:n.nums=[]:=List.length_eq_zero_iff.1 (ZaR s.1).2;have J:(Zb ns j).kind=7/\(Zb ns k).kind=7:=by simpa[Zj,isB,Zs]using s.2
   have B1:=G j (by rw[e];simp) J.1 (B j (by rw[e];simp)).2.2;have S:=G k (by rw[e];simp) J.2 (B k (by rw[e];simp)).2.2;exact(Znt hk o A e (Q a (by rw[o];simp)) (Q b (by rw[o];simp)) B1 S).to I (by rw[Znj hk,e];simp[word,o,Zao,ZaE,Zem]) fun t h=>h
  ·have C:Zo ns n=(Zr n 2 0&&Zat ns n.kids (isB [12])):=by simp[Zo,hk]
   rw[C,Bool.and_eq_true]at s;have A:n.nums=[]:=List.length_eq_zero_iff.1 (ZaR s.1).2;have ha:=Q a (by rw[o];simp);have hb:=Q b (by rw[o];simp);by_cases e:n.kids=[]
   ·exact(Zqe (d:=(2*f:Nat)+1) (f:=3*f+2) hk o A e ha hb).to I (by rw[ZkF hk,e];simp[word,o]) fun t h=>h
   ·have T:∀c∈n.kids,Zad L ((2*f:Nat)+1) (Zdb L (Zu L ex g)) ([(0,word (Zb ns c) 0)]++((2,[123])::(((Zx ns (Zb ns c) 0).kids.map fun k=>ZM ns f (Zb ns k)).flatten++[(2,[125])]))) (fun _=>True) (Zv ns (3*f+2) (Zb ns c))/\ZbO L (fun _=>True) [125] ([(0,word (Zb ns c) 0)]++((2,[123])::(((Zx ns (Zb ns c) 0).kids.map fun k=>ZM ns f (Zb ns k)).flatten++[(2,[125])]))):=fun c hc=>by
     obtain⟨j,M⟩:=ZaI R hn hc;obtain⟨ab,ar,v⟩:=R.node j _ M;have ad:(Zb ns c).kind=12:=by have:=List.all_eq_true.mp s.2 c hc;simpa[isB,Zs]using this
     have Z:Zo ns (Zb ns c)=(Zr (Zb ns c) 1 0&&Zj ns (Zb ns c).kids [isB [7]]):=by simp[Zo,ad]
     rw[Z,Bool.and_eq_true]at v;obtain⟨x,hx⟩:=ZeC (ZaR v.1).1;obtain⟨-,k,W,B⟩:=(hC c hc).2.2;rw[W]at v;have J:(Zb ns k).kind=7:=by simpa[Zj,isB,Zs]using v.2
     obtain⟨j2,V⟩:=ZaI R M (k:=k) (by rw[W];simp)
     have S:=Zhc (L:=L) (f:=3*f) (st:=Zu L ex g) (d:=(2*f:Nat)) (U:=fun c=>ZM ns f (Zb ns c)) R (by omega) V J fun c hc=>by
      obtain⟨j',P⟩:=ZaI R V hc;exact⟨Zg0 R aa f j' _ g (by omega) P ((B k (by simp)).2.2 c hc).2.2 (by omega),Zgn R P ((B k (by simp)).2.2 c hc).2.2⟩
     have e1:word (Zb ns c) 0=x:=by simp[word,hx]
     have Y:Zx ns (Zb ns c) 0=Zb ns k:=Za2 (by rw[W];rfl);rw[e1,Y];exact Zm2 ad hx (List.length_eq_zero_iff.1 (ZaR v.1).2) W (List.all_eq_true.mp ab x (by rw[hx];simp)) S
    exact(Zj4 hk o A ha hb T).to I (by rw[ZkF hk,Yn e];simp[word,o,ZaE]) fun t h=>h
  ·have C:Zo ns n=(Zr n 2 3&&Zfa ns n):=by simp[Zo,hk]
   rw[C,Bool.and_eq_true]at s;have n0:num n 0=p:=ZcF (by rw[H];rfl);have n1:num n 1=q:=ZcF (by rw[H];rfl);have n2:num n 2=r:=ZcF (by rw[H];rfl);have hp:=ZaY hu (x:=p) (by rw[H];simp);have hq:=ZaY hu (x:=q) (by rw[H];simp);have hr:=ZaY hu (x:=r) (by rw[H];simp);have hP:=s.2;unfold Zfa Zen at hP;rw[n0,n1,n2,Bool.and_eq_true,Bool.and_eq_true,Bool.and_eq_true,Bool.and_eq_true,decide_eq_true_eq,decide_eq_true_eq,decide_eq_true_eq]at hP;obtain⟨⟨⟨aj,al⟩,am,an⟩,D⟩:=hP;have ak:1<=p:=by
    have h3:p≠0:=by simpa using aj
    have h4:=hp.1;omega
   have bb:(n.kids.drop (n.kids.length-1))=[k]:=by rw[e];simp
   have ae:Zx ns n (n.kids.length-1)=Zb ns k:=Za2 (by rw[e];simp);have ap:n.kids.take (n.kids.length-1)=l:=by rw[e];simp
   have X:(l=[]\/∃x,l=[x]/\(Zb ns x).kind=6/\ZaC ns x=2)/\(Zb ns k).kind=7:=by
    rw[Bool.or_eq_true,e]at D
    match l,D with
    |[],D=>exact⟨.inl rfl,by simpa[Zj,isB,Zs]using D⟩
    |[x],D=>
     have h9:((Zb ns x).kind=6/\(Zb ns k).kind=7)/\ZaC ns x=2:=by simpa[Zj,isB,Zs,atI]using D
     exact⟨.inr ⟨x,rfl,h9.1.1,h9.2⟩,h9.1.2⟩
    |x::y::z,D=>cases z<;>simp[Zj]at D
   have hN:∀c∈l,ZgA ns c:=fun c hc=>by
    obtain⟨j,M⟩:=ZaI R hn (k:=c) (by rw[e];simp[hc]);rcases X.1 with h|⟨x,h,h6,-⟩
    ·rw[h]at hc;simp at hc
    ·rw[h]at hc;have:c=x:=by simpa using hc
     subst this;exact Zo1 R M h6
   have ao:ZaN ns l=true:=by
    rcases X.1 with h|⟨x,h,-⟩<;>rw[h]<;>rfl
   have V:∀c∈l,2<=ZaC ns c:=fun c hc=>by
    rcases X.1 with h|⟨x,h,-,h2⟩
    ·rw[h]at hc;simp at hc
    ·rw[h]at hc;have:c=x:=by simpa using hc
     subst this;omega
   have S:=G k (by rw[e];simp) X.2 (B k (by simp)).2.2;exact(Zl9 (f:=3*f+1) hk o H e (Q a (by rw[o];simp)) (Q b (by rw[o];simp)) ak al hq hr am an hN ao V S).to I (by rw[Znk hk,ae,ap,n0,n1,n2];simp[word,o,ZaE,ZfB]) fun t h=>h
  ·have C:Zo ns n=((Zr n 1 0||Zr n 2 0)&&Zat ns n.kids ZdE):=by simp[Zo,hk]
   rw[C,Bool.and_eq_true]at s;have A:n.nums=[]:=by
    have:=s.1;rw[Bool.or_eq_true]at this;rcases this with h|h<;>exact List.length_eq_zero_iff.1 (ZaR h).2
   have T:∀c∈n.kids,Zad L ((2*f:Nat)+1) (Zbg L ex) (Zec ns f (Zb ns c)) gX (Zv ns (3*f+2) (Zb ns c))/\ZbO L (fun _=>True) [41] (Zec ns f (Zb ns c)):=fun c hc=>by
    obtain⟨j,M⟩:=ZaI R hn hc;obtain⟨ab,ar,v⟩:=R.node j _ M;rcases(hA c hc).2.2 with⟨N,-⟩|⟨N,K⟩
    ·have Z:Zo ns (Zb ns c)=(Zr (Zb ns c) 1 0&&Zj ns (Zb ns c).kids []):=by simp[Zo,N]
     rw[Z,Bool.and_eq_true]at v;obtain⟨x,hx⟩:=ZeC (ZaR v.1).1;have ek:Zec ns f (Zb ns c)=[(2,[38]),(0,x)]:=by simp[Zec,N,word,hx]
     rw[ek];exact Zkx (f:=3*f+1) N hx (List.length_eq_zero_iff.1 (ZaR v.1).2) (Zha v.2) (List.all_eq_true.mp ab x (by rw[hx];simp))
    ·have ek:Zec ns f (Zb ns c)=ZY ns f (Zb ns c):=by simp[Zec,N]
     rw[ek];have hS:=Zly (L:=L) R M K;exact⟨Zmd (E c hc K) hS.1,hS.2⟩
   rcases au with⟨a,ha⟩|⟨b,a,o⟩
   ·exact(Zm1 hk ha A (Q a (by rw[ha];simp)) T).to I (by rw[ZkG hk,ha];simp[word,ha]) fun t h=>h
   ·exact(Zkm hk o A (Q a (by rw[o];simp)) (Q b (by rw[o];simp)) T).to I (by rw[ZkG hk,o];simp[word,o]) fun t h=>h
  ·have C:Zo ns n=(Zr n 0 0&&(Zj ns n.kids [ZR,isB [7]]||Zj ns n.kids [ZR,isB [7],isB [7]])):=by simp[Zo,hk]
   rw[C,Bool.and_eq_true,e]at s;have u:=ZaR s.1;have O:=E k (by rw[e];simp) (K k (by simp)).2.2;have Y:Zx ns n 0=Zb ns k:=Za2 (by rw[e];rfl)
   match r,hr,B,e,s with
   |[b],_,B,e,s=>
    have J:(Zb ns b).kind=7:=by have:=s.2;simp only[Zj,isB,Zs,Bool.and_eq_true,Bool.or_eq_true,Bool.and_false,Bool.false_eq_true,or_false,Bool.and_true]at this;simpa using this.2
    have B1:=G b (by rw[e];simp) J (B b (by simp)).2.2;exact(Zqq hk (List.length_eq_zero_iff.1 u.1) (List.length_eq_zero_iff.1 u.2) e O B1).to I (by rw[ZkH hk,e,Y];simp[Zao,ZaE]) fun t h=>h
   |[b,c],_,B,e,s=>
    have J:(Zb ns b).kind=7/\(Zb ns c).kind=7:=by have:=s.2;simp only[Zj,isB,Zs,Bool.and_eq_true,Bool.or_eq_true,Bool.and_false,Bool.false_eq_true,false_or,Bool.and_true]at this;simpa using this.2
    have B1:=G b (by rw[e];simp) J.1 (B b (by simp)).2.2;have S:=G c (by rw[e];simp) J.2 (B c (by simp)).2.2;exact(Zky hk (List.length_eq_zero_iff.1 u.1) (List.length_eq_zero_iff.1 u.2) e O B1 S).to I (by rw[ZkH hk,e,Y];simp[Zao,ZaE,Zem]) fun t h=>h
   |[],hr,_,_,_=>exact absurd rfl hr
   |_::_::_::_,_,_,_,s=>simp[Zj]at s
  ·have C:Zo ns n=(Zr n 0 0&&Zj ns n.kids [ZR,isB [7]]):=by simp[Zo,hk]
   rw[C,Bool.and_eq_true,e]at s;have u:=ZaR s.1;have J:(Zb ns k).kind=7:=by have:=s.2;simp only[Zj,isB,Zs,Bool.and_eq_true]at this;simpa using this.2
   have S:=G k (by rw[e];simp) J (B k (by simp)).2.2;exact(Zme hk (List.length_eq_zero_iff.1 u.1) (List.length_eq_zero_iff.1 u.2) e (E j (by rw[e];simp) (K j (by simp)).2.2) rfl rfl S).to I (by simp[ZM,hk,ZaE,Za2 (ns:=ns) (d:=n) (m:=0) (k:=j) (by rw[e];rfl),Za2 (ns:=ns) (d:=n) (m:=1) (k:=k) (by rw[e];rfl)]) fun t h=>h
  ·have C:Zo ns n=(Zr n 0 0&&Zj ns n.kids [ZR]):=by simp[Zo,hk]
   rw[C,Bool.and_eq_true]at s;have u:=ZaR s.1;exact(ZkS hk (List.length_eq_zero_iff.1 u.1) (List.length_eq_zero_iff.1 u.2) e (E k (by rw[e];simp) (K k (by simp)).2.2)).to I (by simp[ZM,hk,Za2 (ns:=ns) (d:=n) (m:=0) (k:=k) (by rw[e];rfl)]) fun t h=>h
  ·have C:Zo ns n=(Zr n 0 0&&Zj ns n.kids []):=by simp[Zo,hk]
   rw[C,Bool.and_eq_true]at s;have u:=ZaR s.1;exact(Zm8 (d:=(2*f:Nat)+1) (f:=3*f+2) hk (List.length_eq_zero_iff.1 u.1) (List.length_eq_zero_iff.1 u.2) (Zha s.2)).to I (by simp[ZM,hk]) fun t h=>h
end
end
section
section
variable {L:List Tok}
def ZmW (L:List Tok) (d:Int) (ex st:PS->Tr×PS) (us:TS) (P:Tr->Prop):Prop:=
 ((∃r,us=(0,[112,114,111,116,111])::r)/\Zad L d (Zb8 L) us (fun _=>True) P)\/((∃r,us=(0,[102,110])::r)/\Zad L d (fnM L ex st) us (fun _=>True) P)
theorem Zfs {q:Type} {d:Int} {ex st:PS->Tr×PS} {U:q->TS} {P:q->Tr->Prop}:∀(a:List q) (K:Nat) (l:List Tr) (s:PS),s.err=0->s.deep+d<=200->Zar L s.at_ ((a.map U).flatten++[(3,[])])->a.length<K->(∀b∈a,ZmW L d ex st (U b) (P b)) ->
  ∃ts,ZaU L ex st K l s=(l++ts,Zd s (a.map U).flatten.length)/\Za6 P a ts
 |[],K,l,s,e0,_,hh,hK,_=>by
  obtain⟨K,rfl⟩:∃k,K=k+1:=⟨K-1,by simp at hK;omega⟩
  have e:kt (Zl L s.at_)=(3,[]):=hh.head;refine⟨[],?_,Za6.nil P⟩;unfold ZaU;rw[Yn (by rw[(Zdi e0 e).1];simp),List.append_nil];rfl
 |b::r,K,l,s,e0,e1,hh,hK,hb=>by
  obtain⟨K,rfl⟩:∃k,K=k+1:=⟨K-1,by simp at hK;omega⟩
  rw[List.map_cons,List.flatten_cons,List.append_assoc]at hh;have f:∃v g,(r.map U).flatten++[((3:Nat),([]:Txt))]=v::g:=by
   cases h:(r.map U).flatten with
   |nil=>exact⟨_,_,rfl⟩
   |cons v g=>exact⟨v,g++[(3,[])],rfl⟩
  obtain⟨v,g,w⟩:=f;have i:=hh;rw[w]at i;have u:Zar L (Zd s (U b).length).at_ ((r.map U).flatten++[(3,[])]):=hh.right;rcases hb b List.mem_cons_self with⟨⟨y,j⟩,hD⟩|⟨⟨y,j⟩,hD⟩
  ·have e:kt (Zl L s.at_)=(0,[112,114,111,116,111]):=by rw[j]at hh;exact hh.left.head
   obtain⟨t,m,n⟩:=hD.at' e0 e1 i trivial;obtain⟨ts,o,p⟩:=Zfs r K (l++[t]) (Zd s (U b).length) e0 e1 u (by simp at hK;omega) fun c hc=>hb c (List.mem_cons_of_mem _ hc);refine⟨t::ts,?_,Za6.cons n p⟩;rw[ZaU,Yo ⟨e0,by rw[(Zdi e0 e).1];decide⟩,Zb5 e0 e (by decide),Yo rfl,m];simp only;rw[o,Zn];simp
  ·have e:kt (Zl L s.at_)=(0,[102,110]):=by rw[j]at hh;exact hh.left.head
   obtain⟨t,m,n⟩:=hD.at' e0 e1 i trivial;obtain⟨ts,o,p⟩:=Zfs r K (l++[t]) (Zd s (U b).length) e0 e1 u (by simp at hK;omega) fun c hc=>hb c (List.mem_cons_of_mem _ hc);refine⟨t::ts,?_,Za6.cons n p⟩;rw[ZaU,Yo ⟨e0,by rw[(Zdi e0 e).1];decide⟩,ZJ e0 e (by decide),Yn (by decide),Zb5 e0 e (by decide),Yo rfl,m];simp only;rw[o,Zn];simp
end
end
section
section
variable {L:List Tok}
theorem Zne {ns:List Nd} (R:RightP ns) {F f i g:Nat} {n:Nd} {ex:PS->Tr×PS} (v:∀(f i:Nat) (n:Nd),f<=F->ns[i]? = some n->ZZ ns f n->Zad L (2*f:Nat) ex (ZY ns f n) gX (Zv ns f n)) (hF:f<=F) (P:f<=g) (hn:ns[i]? = some n) (h:Zfe ns f n) :
  ZmW L ((2*f:Nat)+1) ex (Zu L ex g) (ZcB ns f n) (Zv ns (3*f+3) n):=by
 obtain⟨S,T,u⟩:=R.node i n hn;rcases h with⟨hk,⟨x,o⟩,Q⟩|⟨hk,⟨a,ha⟩,l,k,b,O,C⟩
 ·have hD:Zad L ((2*f:Nat)+1) (Zb8 L) (ZcB ns f n) (fun _=>True) (Zv ns (3*f+3) n):=(ZlO (f:=0) R hn hk o Q).to (by omega) rfl fun t h=>h.up (by omega);exact .inl ⟨⟨_,by simp[ZcB,hk];rfl⟩,hD⟩
 ·have J:Zo ns n=(Zr n 1 0&&Zat ns (n.kids.take (n.kids.length-1)) (isB [5])&&Zj ns (n.kids.drop (n.kids.length-1)) [isB [7]]):=by simp[Zo,hk]
  have r:n.kids.take (n.kids.length-1)=l:=by rw[b];simp
  have w:n.kids.drop (n.kids.length-1)=[k]:=by rw[b];simp
  have m:Zx ns n (n.kids.length-1)=Zb ns k:=Za2 (by rw[b];simp);rw[J,Bool.and_eq_true,Bool.and_eq_true,r,w]at u;have z:n.nums=[]:=List.length_eq_zero_iff.1 (ZaR u.1.1).2;have M:(Zb ns k).kind=7:=by simpa[Zj,isB,Zs]using u.2
  have hx:ZQ a=true:=List.all_eq_true.mp S a (by rw[ha];simp);obtain⟨j,D⟩:=ZaI R hn (k:=k) (by rw[b];simp)
  have H:=Zhc (L:=L) (f:=3*f) (st:=Zu L ex g) (d:=(2*f:Nat)) (U:=fun c=>ZM ns f (Zb ns c)) R (by omega) D M fun c hc=>by
   obtain⟨G,e⟩:=ZaI R D hc;exact⟨Zg0 R v f G _ g hF e ((C k (by simp)).2.2 c hc).2.2 P,Zgn R e ((C k (by simp)).2.2 c hc).2.2⟩
  have I:ZeU L ns (3*f+2) ((2*f:Nat)+1) (Zu L ex g) ((2,[123])::(((Zb ns k).kids.map fun c=>ZM ns f (Zb ns c)).flatten++[(2,[125])])) k:=Zad.to H (Int.le_refl _) rfl fun t h=>h.up (by omega)
  have N:∀c∈l,Zad L 0 (ZaW L) (Zdx ns (Zb ns c)) Zed (Zv ns (3*f+2) (Zb ns c))/\ZbO L (fun _=>True) [41] (Zdx ns (Zb ns c)):=fun c hc=>by
   obtain⟨G,e⟩:=ZaI R hn (k:=c) (by rw[b];simp[hc]);have K:(Zb ns c).kind=5:=by have:=List.all_eq_true.mp u.1.2 c hc;simpa[isB,Zs]using this
   refine⟨(ZlH (f:=0) R e K).to (Int.le_refl _) rfl fun t h=>h.up (by omega),?_⟩;have A:∃y,(Zb ns c).words[0]? = some y:=by
    rcases(O c hc).2.2 with⟨s,o⟩|⟨⟨p,q,o⟩,_⟩
    ·exact⟨s,by rw[o];rfl⟩
    ·exact⟨p,by rw[o];rfl⟩
   obtain⟨y,E⟩:=A;have e1:word (Zb ns c) 0=y:=by unfold word;rw[E];rfl
   unfold Zdx;rw[e1];exact ZlD (Zgv R e E) (by decide)
  have B:ZcB ns f n=[(0,[102,110]),(0,a),(2,[40])]++(Zao [(2,[44])] (l.map fun c=>Zdx ns (Zb ns c))++([(2,[41])]++((2,[123])::(((Zb ns k).kids.map fun c=>ZM ns f (Zb ns c)).flatten++[(2,[125])])))):=by unfold ZcB;rw[Yn (by rw[hk];decide),r,m];simp[word,ha,ZaE]
  have hD:=Zql (ex:=ex) (by omega) hk ha z b hx N I;rw[<-B]at hD;exact .inr ⟨⟨_,by rw[B];rfl⟩,hD⟩
end
end
section
theorem Zku {ns:List Nd} (R:RightP ns):∀(f g i:Nat) (n:Nd),ns[i]? = some n->ZZ ns f n->f<=g->ZY ns g n=ZY ns f n
 |0,_,_,_,_,h,_=>h.elim
 |_+1,0,_,_,_,_,hg=>absurd hg (by omega)
 |f+1,g+1,i,n,hn,h,hg=>by
  have c:∀k∈n.kids,ZZ ns f (Zb ns k)->ZY ns g (Zb ns k)=ZY ns f (Zb ns k):=fun k hk b=>by
   obtain⟨j,r⟩:=ZaI R hn hk;exact Zku R f g j _ r b (by omega)
  rcases Ziy R hn h with⟨hk,-⟩|⟨hk,-⟩|⟨hk,-,-,k,a,b⟩|⟨hk,-,o,j,k,-,-,-,a,p,q⟩
  ·simp[ZY,hk]
  ·simp[ZY,hk]
  ·have e:=c k (by rw[a];simp) b;simp[ZY,hk,Za2 (ns:=ns) (d:=n) (m:=0) (k:=k) (by rw[a];rfl),e]
  ·have e:=c j (by rw[a];simp) p;have l:=c k (by rw[a];simp) q;simp[ZY,hk,Za2 (ns:=ns) (d:=n) (m:=0) (k:=j) (by rw[a];rfl),Za2 (ns:=ns) (d:=n) (m:=1) (k:=k) (by rw[a];rfl),e,l]
end
end Go.Proofs.YtdkegpkfjgloeaaGreatDoor
