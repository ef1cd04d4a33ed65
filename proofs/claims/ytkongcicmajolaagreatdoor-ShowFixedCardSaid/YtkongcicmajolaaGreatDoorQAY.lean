import Derived.Test.YtkongcicmajolaaGreatDoorQAX
set_option maxRecDepth 100000
set_option maxHeartbeats 8000000
namespace Go.Proofs.YtkongcicmajolaaGreatDoor
section
section
variable {L:List Tok}
theorem ZZ.to {d e:Int} {m:PS->Tr×PS} {us vs:TS} {g:Nat×Txt->Prop} {T T':Tr->Prop} (h:ZZ L d m us g T) (hd:d<=e) (hv:vs=us) (hT:∀ t,T t->T' t):ZZ L e m vs g T':=by
 subst hv
 exact h.less hd (fun _ k=>k) hT
theorem Zhc {ns:List Nd} (R:RightP ns) {F:Nat} {ex:PS->Tr×PS} (hEx:∀ (f i:Nat) (n:Nd),f<=F->ns[i]? = some n->ZP ns f n->ZZ L (2*f:Nat) ex (ZS ns f n) gX (Zt ns f n)):∀ (f i:Nat) (n:Nd) (g:Nat),f<=F->ns[i]? = some n->Zbk ns f n->f<=g->ZZ L (2*f:Nat) (Zv L ex g) (ZL ns f n) gTq (Zt ns (3*f) n)
 | 0,_,_,_,_,_,h,_=>h.elim
 | _+1,_,_,0,_,_,_,hg=>absurd hg (by omega)
 | f+1,i,n,g+1,hF,hn,h,hg=>by
  obtain ⟨hw,hu,hl⟩:=R.node i n hn
  have blk:∀ k∈n.kids,(Za ns k).kind=7->Zck ns (fun x=>Zbk ns f x) (Za ns k)->Ze5 L ns (3*f+2) ((2*f:Nat)+1) (Zv L ex g) ((2,[123])::(((Za ns k).kids.map fun c=>ZL ns f (Za ns c)).flatten++[(2,[125])])) k:=fun k hk h7 hB=>by
   obtain ⟨j,hj⟩:=ZaB R hn hk
   have:=Zho (L:=L) (f:=3*f) (st:=Zv L ex g) (d:=(2*f:Nat)) (U:=fun c=>ZL ns f (Za ns c)) R (by omega) hj h7 fun c hc=>by
    obtain ⟨j',hj'⟩:=ZaB R hj hc
    exact ⟨Zhc R hEx f j' _ g (by omega) hj' (hB c hc).2.2 (by omega),Zgx R hj' (hB c hc).2.2⟩
   exact ZZ.to this (Int.le_refl _) rfl fun t h=>h.up (by omega)
  have E:∀ k∈n.kids,ZP ns f (Za ns k)->ZZ L ((2*f:Nat)+1) ex (ZS ns f (Za ns k)) gX (Zt ns (3*f+2) (Za ns k)):=fun k hk hE=>by
   obtain ⟨j,hj⟩:=ZaB R hn hk
   exact (hEx f j _ (by omega) hj hE).to (by omega) rfl fun t h=>h.up (by omega)
  have D1:((2*f:Nat):Int)+1<=((2*(f+1):Nat):Int):=by omega
  have nm:∀ w∈n.words,ZN w=true:=fun w hx=>List.all_eq_true.mp hw w hx
  rcases h with ⟨hk,⟨a,ha⟩,k,hks,hE⟩ | ⟨hk,⟨a,b,hab⟩,⟨j,k,hks⟩,hB⟩ | ⟨hk,⟨a,b,hab⟩,hC⟩ | ⟨hk,⟨a,b,hab⟩,⟨p,q,r,hpq,-⟩,l,k,hks,-,hB⟩ | ⟨hk,hws,hA⟩ | ⟨hk,k,r,hks,hr,hE,hB⟩ | ⟨hk,j,k,hks,hE,hB⟩ | ⟨hk,k,hks,hE⟩ | hk
  ·have el:Zn ns n=(ZF n 1 0&&Zp ns n.kids [Zat]):=by rcases hk with hk | hk<;>simp [Zn,hk]
   rw [el,Bool.and_eq_true] at hl
   have hnu:n.nums=[]:=List.length_eq_zero_iff.1 (ZaL hl.1).2
   have hx:=nm a (by rw [ha];simp)
   have e1:word n 0=a:=by simp [word,ha]
   have e2:Zw ns n 0=Za ns k:=Za2 (by rw [hks];rfl)
   have hE':=E k (by rw [hks];simp) (hE k (by simp)).2.2
   rcases hk with hk | hk
   ·exact (ZoT hk ha hnu hks hx hE').to D1 (by rw [ks8 hk,e1,e2]) fun t h=>h
   ·exact (Zpt hk ha hnu hks hx hE').to D1 (by rw [ks9 hk,e1,e2]) fun t h=>h
  ·have el:Zn ns n=(ZF n 2 0&&Zp ns n.kids [isB [7],isB [7]]):=by simp [Zn,hk]
   rw [el,Bool.and_eq_true,hks] at hl
   have hnu:n.nums=[]:=List.length_eq_zero_iff.1 (ZaL hl.1).2
   have h7:(Za ns j).kind=7/\(Za ns k).kind=7:=by simpa [Zp,isB,ZJ] using hl.2
   have B1:=blk j (by rw [hks];simp) h7.1 (hB j (by rw [hks];simp)).2.2
   have B2:=blk k (by rw [hks];simp) h7.2 (hB k (by rw [hks];simp)).2.2
   exact (ZnC hk hab hnu hks (nm a (by rw [hab];simp)) (nm b (by rw [hab];simp)) B1 B2).to D1 (by rw [Zns hk,hks];simp [word,hab,Zak,Zaw,Zeo]) fun t h=>h
  ·have el:Zn ns n=(ZF n 2 0&&ZbM ns n.kids (isB [12])):=by simp [Zn,hk]
   rw [el,Bool.and_eq_true] at hl
   have hnu:n.nums=[]:=List.length_eq_zero_iff.1 (ZaL hl.1).2
   have ha:=nm a (by rw [hab];simp)
   have hb:=nm b (by rw [hab];simp)
   by_cases hks:n.kids=[]
   ·exact (Zp2 (d:=(2*f:Nat)+1) (f:=3*f+2) hk hab hnu hks ha hb).to D1 (by rw [ZkY hk,hks];simp [word,hab]) fun t h=>h
   ·have hcs:∀ c∈n.kids,ZZ L ((2*f:Nat)+1) (ZcR L (Zv L ex g)) ([(0,word (Za ns c) 0)]++((2,[123])::(((Zw ns (Za ns c) 0).kids.map fun k=>ZL ns f (Za ns k)).flatten++[(2,[125])]))) (fun _=>True) (Zt ns (3*f+2) (Za ns c))/\ZbN L (fun _=>True) [125] ([(0,word (Za ns c) 0)]++((2,[123])::(((Zw ns (Za ns c) 0).kids.map fun k=>ZL ns f (Za ns k)).flatten++[(2,[125])]))):=fun c hc=>by
     obtain ⟨j,hj⟩:=ZaB R hn hc
     obtain ⟨hw2,hu2,hl2⟩:=R.node j _ hj
     have h12:(Za ns c).kind=12:=by have:=List.all_eq_true.mp hl.2 c hc;simpa [isB,ZJ] using this
     have el2:Zn ns (Za ns c)=(ZF (Za ns c) 1 0&&Zp ns (Za ns c).kids [isB [7]]):=by simp [Zn,h12]
     rw [el2,Bool.and_eq_true] at hl2
     obtain ⟨x,hx⟩:=ZeJ (ZaL hl2.1).1
     obtain ⟨-,k,hk1,hB⟩:=(hC c hc).2.2
     rw [hk1] at hl2
     have h7:(Za ns k).kind=7:=by simpa [Zp,isB,ZJ] using hl2.2
     obtain ⟨j2,hj2⟩:=ZaB R hj (k:=k) (by rw [hk1];simp)
     have B2:=Zho (L:=L) (f:=3*f) (st:=Zv L ex g) (d:=(2*f:Nat)) (U:=fun c=>ZL ns f (Za ns c)) R (by omega) hj2 h7 fun c hc=>by
      obtain ⟨j',hj'⟩:=ZaB R hj2 hc
      exact ⟨Zhc R hEx f j' _ g (by omega) hj' ((hB k (by simp)).2.2 c hc).2.2 (by omega),Zgx R hj' ((hB k (by simp)).2.2 c hc).2.2⟩
     have e1:word (Za ns c) 0=x:=by simp [word,hx]
     have e2:Zw ns (Za ns c) 0=Za ns k:=Za2 (by rw [hk1];rfl)
     rw [e1,e2]
     exact Znd h12 hx (List.length_eq_zero_iff.1 (ZaL hl2.1).2) hk1 (List.all_eq_true.mp hw2 x (by rw [hx];simp)) B2
    exact (Zko hk hab hnu ha hb hcs).to D1 (by rw [ZkY hk,if_neg hks];simp [word,hab,Zaw]) fun t h=>h
  ·have el:Zn ns n=(ZF n 2 3&&Zer ns n):=by simp [Zn,hk]
   rw [el,Bool.and_eq_true] at hl
   have n0:num n 0=p:=ZcI (by rw [hpq];rfl)
   have n1:num n 1=q:=ZcI (by rw [hpq];rfl)
   have n2:num n 2=r:=ZcI (by rw [hpq];rfl)
   have hp:=ZaR hu (x:=p) (by rw [hpq];simp)
   have hq:=ZaR hu (x:=q) (by rw [hpq];simp)
   have hr:=ZaR hu (x:=r) (by rw [hpq];simp)
   have hP:=hl.2
   unfold Zer ZdY at hP
   rw [n0,n1,n2,Bool.and_eq_true,Bool.and_eq_true,Bool.and_eq_true,Bool.and_eq_true,decide_eq_true_eq,decide_eq_true_eq,decide_eq_true_eq] at hP
   obtain ⟨⟨⟨hp0,hp4⟩,hq1,hr1⟩,hkd⟩:=hP
   have hp1:1<=p:=by
    have h3:p≠0:=by simpa using hp0
    have h4:=hp.1
    omega
   have hd1:(n.kids.drop (n.kids.length-1))=[k]:=by rw [hks];simp
   have hkid:Zw ns n (n.kids.length-1)=Za ns k:=Za2 (by rw [hks];simp)
   have htk:n.kids.take (n.kids.length-1)=l:=by rw [hks];simp
   have hl6:(l=[]\/∃ x,l=[x]/\(Za ns x).kind=6/\ZaD ns x=2)/\(Za ns k).kind=7:=by
    rw [Bool.or_eq_true,hks] at hkd
    match l,hkd with
    | [],hkd=>exact ⟨.inl rfl,by simpa [Zp,isB,ZJ] using hkd⟩
    | [x],hkd=>
     have h9:((Za ns x).kind=6/\(Za ns k).kind=7)/\ZaD ns x=2:=by simpa [Zp,isB,ZJ,atI] using hkd
     exact ⟨.inr ⟨x,rfl,h9.1.1,h9.2⟩,h9.1.2⟩
    | x::y::z,hkd=>cases z<;>simp [Zp] at hkd
   have hN:∀ c∈l,ZgL ns c:=fun c hc=>by
    obtain ⟨j,hj⟩:=ZaB R hn (k:=c) (by rw [hks];simp [hc])
    rcases hl6.1 with h | ⟨x,h,h6,-⟩
    ·rw [h] at hc;simp at hc
    ·rw [h] at hc
     have:c=x:=by simpa using hc
     subst this
     exact ZoZ R hj h6
   have hri:Zbm ns l=true:=by
    rcases hl6.1 with h | ⟨x,h,-⟩<;>rw [h]<;>rfl
   have hj2:∀ c∈l,2<=ZaD ns c:=fun c hc=>by
    rcases hl6.1 with h | ⟨x,h,-,h2⟩
    ·rw [h] at hc;simp at hc
    ·rw [h] at hc
     have:c=x:=by simpa using hc
     subst this
     omega
   have B2:=blk k (by rw [hks];simp) hl6.2 (hB k (by simp)).2.2
   exact (Zmc (f:=3*f+1) hk hab hpq hks (nm a (by rw [hab];simp)) (nm b (by rw [hab];simp)) hp1 hp4 hq hr hq1 hr1 hN hri hj2 B2).to D1 (by rw [Znt hk,hkid,htk,n0,n1,n2];simp [word,hab,Zaw,ZfI]) fun t h=>h
  ·have el:Zn ns n=((ZF n 1 0||ZF n 2 0)&&ZbM ns n.kids Zef):=by simp [Zn,hk]
   rw [el,Bool.and_eq_true] at hl
   have hnu:n.nums=[]:=by
    have:=hl.1
    rw [Bool.or_eq_true] at this
    rcases this with h | h<;>exact List.length_eq_zero_iff.1 (ZaL h).2
   have hcs:∀ c∈n.kids,ZZ L ((2*f:Nat)+1) (ZaS L ex) (Zeg ns f (Za ns c)) gX (Zt ns (3*f+2) (Za ns c))/\ZbN L (fun _=>True) [41] (Zeg ns f (Za ns c)):=fun c hc=>by
    obtain ⟨j,hj⟩:=ZaB R hn hc
    obtain ⟨hw2,hu2,hl2⟩:=R.node j _ hj
    rcases (hA c hc).2.2 with ⟨h15,-⟩ | ⟨h15,hE⟩
    ·have el2:Zn ns (Za ns c)=(ZF (Za ns c) 1 0&&Zp ns (Za ns c).kids []):=by simp [Zn,h15]
     rw [el2,Bool.and_eq_true] at hl2
     obtain ⟨x,hx⟩:=ZeJ (ZaL hl2.1).1
     have ek:Zeg ns f (Za ns c)=[(2,[38]),(0,x)]:=by simp [Zeg,h15,word,hx]
     rw [ek]
     exact ZkQ (f:=3*f+1) h15 hx (List.length_eq_zero_iff.1 (ZaL hl2.1).2) (Zhl hl2.2) (List.all_eq_true.mp hw2 x (by rw [hx];simp))
    ·have ek:Zeg ns f (Za ns c)=ZS ns f (Za ns c):=by simp [Zeg,h15]
     rw [ek]
     have hS:=ZlK (L:=L) R hj hE
     exact ⟨Zmf (E c hc hE) hS.1,hS.2⟩
   rcases hws with ⟨a,ha⟩ | ⟨b,a,hab⟩
   ·exact (Znc hk ha hnu (nm a (by rw [ha];simp)) hcs).to D1 (by rw [ZkZ hk,ha];simp [word,ha]) fun t h=>h
   ·exact (ZkF hk hab hnu (nm a (by rw [hab];simp)) (nm b (by rw [hab];simp)) hcs).to D1 (by rw [ZkZ hk,hab];simp [word,hab]) fun t h=>h
  ·have el:Zn ns n=(ZF n 0 0&&(Zp ns n.kids [Zat,isB [7]]||Zp ns n.kids [Zat,isB [7],isB [7]])):=by simp [Zn,hk]
   rw [el,Bool.and_eq_true,hks] at hl
   have hl0:=ZaL hl.1
   have hE':=E k (by rw [hks];simp) (hE k (by simp)).2.2
   have e2:Zw ns n 0=Za ns k:=Za2 (by rw [hks];rfl)
   match r,hr,hB,hks,hl with
   | [b],_,hB,hks,hl=>
    have h7:(Za ns b).kind=7:=by
     have:=hl.2
     simp only [Zp,isB,ZJ,Bool.and_eq_true,Bool.or_eq_true,Bool.and_false,Bool.false_eq_true,or_false,Bool.and_true] at this
     simpa using this.2
    have B1:=blk b (by rw [hks];simp) h7 (hB b (by simp)).2.2
    exact (Zqd hk (List.length_eq_zero_iff.1 hl0.1) (List.length_eq_zero_iff.1 hl0.2) hks hE' B1).to D1 (by rw [Zk0 hk,hks,e2];simp [Zak,Zaw]) fun t h=>h
   | [b,c],_,hB,hks,hl=>
    have h7:(Za ns b).kind=7/\(Za ns c).kind=7:=by
     have:=hl.2
     simp only [Zp,isB,ZJ,Bool.and_eq_true,Bool.or_eq_true,Bool.and_false,Bool.false_eq_true,false_or,Bool.and_true] at this
     simpa using this.2
    have B1:=blk b (by rw [hks];simp) h7.1 (hB b (by simp)).2.2
    have B2:=blk c (by rw [hks];simp) h7.2 (hB c (by simp)).2.2
    exact (ZkR hk (List.length_eq_zero_iff.1 hl0.1) (List.length_eq_zero_iff.1 hl0.2) hks hE' B1 B2).to D1 (by rw [Zk0 hk,hks,e2];simp [Zak,Zaw,Zeo]) fun t h=>h
   | [],hr,_,_,_=>exact absurd rfl hr
   | _::_::_::_,_,_,_,hl=>simp [Zp] at hl
  ·have el:Zn ns n=(ZF n 0 0&&Zp ns n.kids [Zat,isB [7]]):=by simp [Zn,hk]
   rw [el,Bool.and_eq_true,hks] at hl
   have hl0:=ZaL hl.1
   have h7:(Za ns k).kind=7:=by have:=hl.2;simp only [Zp,isB,ZJ,Bool.and_eq_true] at this;simpa using this.2
   have B2:=blk k (by rw [hks];simp) h7 (hB k (by simp)).2.2
   exact (Zmh hk (List.length_eq_zero_iff.1 hl0.1) (List.length_eq_zero_iff.1 hl0.2) hks (E j (by rw [hks];simp) (hE j (by simp)).2.2) rfl rfl B2).to D1 (by simp [ZL,hk,Zaw,Za2 (ns:=ns) (d:=n) (m:=0) (k:=j) (by rw [hks];rfl),Za2 (ns:=ns) (d:=n) (m:=1) (k:=k) (by rw [hks];rfl)]) fun t h=>h
  ·have el:Zn ns n=(ZF n 0 0&&Zp ns n.kids [Zat]):=by simp [Zn,hk]
   rw [el,Bool.and_eq_true] at hl
   have hl0:=ZaL hl.1
   exact (Zle hk (List.length_eq_zero_iff.1 hl0.1) (List.length_eq_zero_iff.1 hl0.2) hks (E k (by rw [hks];simp) (hE k (by simp)).2.2)).to D1 (by simp [ZL,hk,Za2 (ns:=ns) (d:=n) (m:=0) (k:=k) (by rw [hks];rfl)]) fun t h=>h
  ·have el:Zn ns n=(ZF n 0 0&&Zp ns n.kids []):=by simp [Zn,hk]
   rw [el,Bool.and_eq_true] at hl
   have hl0:=ZaL hl.1
   exact (Zni (d:=(2*f:Nat)+1) (f:=3*f+2) hk (List.length_eq_zero_iff.1 hl0.1) (List.length_eq_zero_iff.1 hl0.2) (Zhl hl.2)).to D1 (by simp [ZL,hk]) fun t h=>h
end
end
section
section
variable {L:List Tok}
def Zm6 (L:List Tok) (d:Int) (ex st:PS->Tr×PS) (us:TS) (P:Tr->Prop):Prop:=
 ((∃ r,us=(0,[112,114,111,116,111])::r)/\ZZ L d (ZbL L) us (fun _=>True) P)\/((∃ r,us=(0,[102,110])::r)/\ZZ L d (fnM L ex st) us (fun _=>True) P)
theorem ZfA {β:Type} {d:Int} {ex st:PS->Tr×PS} {U:β->TS} {P:β->Tr->Prop}:∀ (items:List β) (K:Nat) (l:List Tr) (s:PS),s.err=0->s.deep+d<=200->Zan L s.at_ ((items.map U).flatten++[(3,[])])->items.length<K->(∀ b∈items,Zm6 L d ex st (U b) (P b)) ->
  ∃ ts,Zaz L ex st K l s=(l++ts,Zc s (items.map U).flatten.length)/\Za5 P items ts
 | [],K,l,s,e0,_,hh,hK,_=>by
  obtain ⟨K,rfl⟩:∃ k,K=k+1:=⟨K-1,by simp at hK;omega⟩
  have k0:kt (Zi L s.at_)=(3,[]):=hh.head
  refine ⟨[],?_,Za5.nil P⟩
  unfold Zaz
  rw [if_neg (by rw [(Zdn e0 k0).1];simp),List.append_nil]
  rfl
 | b::r,K,l,s,e0,e1,hh,hK,hb=>by
  obtain ⟨K,rfl⟩:∃ k,K=k+1:=⟨K-1,by simp at hK;omega⟩
  rw [List.map_cons,List.flatten_cons,List.append_assoc] at hh
  have hnext:∃ v vs,(r.map U).flatten++[((3:Nat),([]:Txt))]=v::vs:=by
   cases h:(r.map U).flatten with
   | nil=>exact ⟨_,_,rfl⟩
   | cons v vs=>exact ⟨v,vs++[(3,[])],rfl⟩
  obtain ⟨v,vs,ev⟩:=hnext
  have h1:=hh
  rw [ev] at h1
  have h2:Zan L (Zc s (U b).length).at_ ((r.map U).flatten++[(3,[])]):=hh.right
  rcases hb b List.mem_cons_self with ⟨⟨us,hu⟩,hD⟩ | ⟨⟨us,hu⟩,hD⟩
  ·have k0:kt (Zi L s.at_)=(0,[112,114,111,116,111]):=by rw [hu] at hh;exact hh.left.head
   obtain ⟨t,x1,x2⟩:=hD.at' e0 e1 h1 trivial
   obtain ⟨ts,y1,y2⟩:=ZfA r K (l++[t]) (Zc s (U b).length) e0 e1 h2 (by simp at hK;omega) fun c hc=>hb c (List.mem_cons_of_mem _ hc)
   refine ⟨t::ts,?_,Za5.cons x2 y2⟩
   rw [Zaz,if_pos ⟨e0,by rw [(Zdn e0 k0).1];decide⟩,Zce e0 k0 (by decide),if_pos rfl,x1]
   simp only
   rw [y1,Zk]
   simp
  ·have k0:kt (Zi L s.at_)=(0,[102,110]):=by rw [hu] at hh;exact hh.left.head
   obtain ⟨t,x1,x2⟩:=hD.at' e0 e1 h1 trivial
   obtain ⟨ts,y1,y2⟩:=ZfA r K (l++[t]) (Zc s (U b).length) e0 e1 h2 (by simp at hK;omega) fun c hc=>hb c (List.mem_cons_of_mem _ hc)
   refine ⟨t::ts,?_,Za5.cons x2 y2⟩
   rw [Zaz,if_pos ⟨e0,by rw [(Zdn e0 k0).1];decide⟩,ZH e0 k0 (by decide),if_neg (by decide),Zce e0 k0 (by decide),if_pos rfl,x1]
   simp only
   rw [y1,Zk]
   simp
end
end
section
section
variable {L:List Tok}
theorem Znn {ns:List Nd} (R:RightP ns) {F f i g:Nat} {n:Nd} {ex:PS->Tr×PS} (hEx:∀ (f i:Nat) (n:Nd),f<=F->ns[i]? = some n->ZP ns f n->ZZ L (2*f:Nat) ex (ZS ns f n) gX (Zt ns f n)) (hF:f<=F) (hg:f<=g) (hn:ns[i]? = some n) (h:Zfn ns f n) :
  Zm6 L ((2*f:Nat)+1) ex (Zv L ex g) (ZcD ns f n) (Zt ns (3*f+3) n):=by
 obtain ⟨hw,hu,hl⟩:=R.node i n hn
 rcases h with ⟨hk,⟨x,hs⟩,hp⟩ | ⟨hk,⟨a,ha⟩,l,k,hks,hP,hB⟩
 ·have hD:ZZ L ((2*f:Nat)+1) (ZbL L) (ZcD ns f n) (fun _=>True) (Zt ns (3*f+3) n):=(ZlZ (f:=0) R hn hk hs hp).to (by omega) rfl fun t h=>h.up (by omega)
  exact .inl ⟨⟨_,by simp [ZcD,hk];rfl⟩,hD⟩
 ·have el:Zn ns n=(ZF n 1 0&&ZbM ns (n.kids.take (n.kids.length-1)) (isB [5])&&Zp ns (n.kids.drop (n.kids.length-1)) [isB [7]]):=by simp [Zn,hk]
  have htk:n.kids.take (n.kids.length-1)=l:=by rw [hks];simp
  have hdk:n.kids.drop (n.kids.length-1)=[k]:=by rw [hks];simp
  have hkid:Zw ns n (n.kids.length-1)=Za ns k:=Za2 (by rw [hks];simp)
  rw [el,Bool.and_eq_true,Bool.and_eq_true,htk,hdk] at hl
  have hnu:n.nums=[]:=List.length_eq_zero_iff.1 (ZaL hl.1.1).2
  have h7:(Za ns k).kind=7:=by simpa [Zp,isB,ZJ] using hl.2
  have hx:ZN a=true:=List.all_eq_true.mp hw a (by rw [ha];simp)
  obtain ⟨j,hj⟩:=ZaB R hn (k:=k) (by rw [hks];simp)
  have B1:=Zho (L:=L) (f:=3*f) (st:=Zv L ex g) (d:=(2*f:Nat)) (U:=fun c=>ZL ns f (Za ns c)) R (by omega) hj h7 fun c hc=>by
   obtain ⟨j',hj'⟩:=ZaB R hj hc
   exact ⟨Zhc R hEx f j' _ g hF hj' ((hB k (by simp)).2.2 c hc).2.2 hg,Zgx R hj' ((hB k (by simp)).2.2 c hc).2.2⟩
  have B2:Ze5 L ns (3*f+2) ((2*f:Nat)+1) (Zv L ex g) ((2,[123])::(((Za ns k).kids.map fun c=>ZL ns f (Za ns c)).flatten++[(2,[125])])) k:=ZZ.to B1 (Int.le_refl _) rfl fun t h=>h.up (by omega)
  have hC:∀ c∈l,ZZ L 0 (ZaC L) (ZdA ns (Za ns c)) Zeh (Zt ns (3*f+2) (Za ns c))/\ZbN L (fun _=>True) [41] (ZdA ns (Za ns c)):=fun c hc=>by
   obtain ⟨j',hj'⟩:=ZaB R hn (k:=c) (by rw [hks];simp [hc])
   have h5:(Za ns c).kind=5:=by have:=List.all_eq_true.mp hl.1.2 c hc;simpa [isB,ZJ] using this
   refine ⟨(ZlS (f:=0) R hj' h5).to (Int.le_refl _) rfl fun t h=>h.up (by omega),?_⟩
   have hw0:∃ y,(Za ns c).words[0]? = some y:=by
    rcases (hP c hc).2.2 with ⟨s,hs⟩ | ⟨⟨p,q,hs⟩,_⟩
    ·exact ⟨s,by rw [hs];rfl⟩
    ·exact ⟨p,by rw [hs];rfl⟩
   obtain ⟨y,hy⟩:=hw0
   have e1:word (Za ns c) 0=y:=by unfold word;rw [hy];rfl
   unfold ZdA
   rw [e1]
   exact ZlP (ZgF R hj' hy) (by decide)
  have ek:ZcD ns f n=[(0,[102,110]),(0,a),(2,[40])]++(Zak [(2,[44])] (l.map fun c=>ZdA ns (Za ns c))++([(2,[41])]++((2,[123])::(((Za ns k).kids.map fun c=>ZL ns f (Za ns c)).flatten++[(2,[125])])))):=by
   unfold ZcD
   rw [if_neg (by rw [hk];decide),htk,hkid]
   simp [word,ha,Zaw]
  have hD:=Zp8 (ex:=ex) (by omega) hk ha hnu hks hx hC B2
  rw [<- ek] at hD
  exact .inr ⟨⟨_,by rw [ek];rfl⟩,hD⟩
end
end
section
theorem ZkO {ns:List Nd} (R:RightP ns):∀ (f g i:Nat) (n:Nd),ns[i]? = some n->ZP ns f n->f<=g->ZS ns g n=ZS ns f n
 | 0,_,_,_,_,h,_=>h.elim
 | _+1,0,_,_,_,_,hg=>absurd hg (by omega)
 | f+1,g+1,i,n,hn,h,hg=>by
  have ih:∀ k∈n.kids,ZP ns f (Za ns k)->ZS ns g (Za ns k)=ZS ns f (Za ns k):=fun k hk hE=>by
   obtain ⟨j,hj⟩:=ZaB R hn hk
   exact ZkO R f g j _ hj hE (by omega)
  rcases ZiM R hn h with ⟨hk,-⟩ | ⟨hk,-⟩ | ⟨hk,-,-,k,hks,hE⟩ | ⟨hk,-,o,j,k,-,-,-,hks,hJ,hK⟩
  ·simp [ZS,hk]
  ·simp [ZS,hk]
  ·have e:=ih k (by rw [hks];simp) hE
   simp [ZS,hk,Za2 (ns:=ns) (d:=n) (m:=0) (k:=k) (by rw [hks];rfl),e]
  ·have e:=ih j (by rw [hks];simp) hJ
   have e2:=ih k (by rw [hks];simp) hK
   simp [ZS,hk,Za2 (ns:=ns) (d:=n) (m:=0) (k:=j) (by rw [hks];rfl),Za2 (ns:=ns) (d:=n) (m:=1) (k:=k) (by rw [hks];rfl),e,e2]
end
end Go.Proofs.YtkongcicmajolaaGreatDoor
