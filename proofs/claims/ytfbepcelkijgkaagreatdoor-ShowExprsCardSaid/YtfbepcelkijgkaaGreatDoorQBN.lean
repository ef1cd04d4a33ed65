import Derived.Test.YtfbepcelkijgkaaGreatDoorQBM
set_option maxRecDepth 100000
set_option maxHeartbeats 8000000
namespace Go.Proofs.YtfbepcelkijgkaaGreatDoor
section
section
variable {L:List Tok}
def Zgp (ns:List Nd) (c:Int):Prop:=∃a r z,(Zf ns c).kind=6/\(Zf ns c).words=a::r/\(Zf ns c).nums=[z]/\(Zf ns c).kids=[]/\0<=z/\z<=2/\∀x∈a::r,ZQ x=true
theorem Zgp.which {ns:List Nd} {c:Int} (h:Zgp ns c):0<=ZY ns c/\ZY ns c<=2:=by obtain⟨a,r,z,-,-,e,-,b,d,-⟩:=h;unfold ZY;rw[e];exact⟨b,d⟩
def ZcK (j:Int):Txt:=if j=0 then [97,116]else if j=1 then [116,111]else [105,110]
theorem Zra (j:Int):Zm4 j=[(0,ZcK j)]:=by
 unfold Zm4 ZcK
 split
 ·rfl
 ·split<;>rfl
theorem Zoy {j:Int} (a:0<=j) (b:j<=2):isKey (ZcK j)=true:=by
 have:j=0\/j=1\/j=2:=by omega
 rcases this with rfl|rfl|rfl<;>decide
theorem Zp6 {i j:Int} (a:0<=i) (b:i<j) (c:j<=2):ZcK j≠ZcK i:=by
 have:(i=0/\j=1)\/(i=0/\j=2)\/(i=1/\j=2):=by omega
 rcases this with⟨rfl,rfl⟩|⟨rfl,rfl⟩|⟨rfl,rfl⟩<;>decide
theorem Zox {j:Int}:ZcK j≠[124]:=by
 unfold ZcK
 split
 ·decide
 ·split<;>decide
def Zd3 (u:Nat×Txt):Prop:=u.2=[44]\/u.2=[41]
theorem Zd3.not {u:Nat×Txt} (h:Zd3 u) {x:Txt} (a:x≠[44]) (b:x≠[41]):u.2≠x:=by
 rcases h with h|h
 ·rw[h];exact fun e=>a e.symm
 ·rw[h];exact fun e=>b e.symm
theorem Zd3.head {u:Nat×Txt} (h:Zd3 u) (j:Int):u.2≠ZcK j:=by
 apply h.not
 ·unfold ZcK
  split
  ·decide
  ·split<;>decide
 ·unfold ZcK
  split
  ·decide
  ·split<;>decide
def ZgZ (u:Nat×Txt):Prop:=u.2≠[124]/\∀j,u.2≠ZcK j
theorem Zd3.noHead {u:Nat×Txt} (h:Zd3 u):ZgZ u:=⟨h.not (by decide) (by decide),h.head⟩
theorem ZgZ.open_:ZgZ (2,[123]):=⟨by decide,fun j=>by
 unfold ZcK
 split
 ·decide
 ·split<;>decide⟩
theorem ZiN {ns:List Nd}:∀(l:List Int) (a:Int),ZaC ns (a::l)=true->(∀c∈l,ZY ns a<ZY ns c)/\ZaC ns l=true
 |[],_,_=>⟨fun c h=>by simp at h,rfl⟩
 |b::r,a,h=>by
  rw[ZaC,Bool.and_eq_true,decide_eq_true_eq]at h;have d:=ZiN r b h.2;refine⟨fun c hc=>?_,h.2⟩;rcases List.mem_cons.1 hc with rfl|hc
  ·exact h.1
  ·exact Int.lt_trans h.1 (d.1 c hc)
theorem Zhi {ns:List Nd} {c:Int} (h:Zgp ns c):∃a r,(Zf ns c).words=a::r/\(∀x∈a::r,ZQ x=true)/\ZbG (Zf ns c)=[(0,ZcK (ZY ns c))]++ZaA [(2,[124])] ((a::r).map fun w=>[(0,w)]):=by
 obtain⟨a,r,z,-,b,f,-,-,-,d⟩:=h;refine⟨a,r,b,d,?_⟩;have e:num (Zf ns c) 0=ZY ns c:=by unfold num ZY;rw[f];rfl
 unfold ZbG;rw[e,Zra,b]
theorem Zf4 {ns:List Nd} {f:Nat} {j:Int} (G:0<=j) (T:j<=2) (l:List Int) {s:PS} {u:Nat×Txt} (t:∀c∈l,Zgp ns c) (H:ZaC ns l=true) (W:∀c∈l,j<=ZY ns c) (A:s.err=0) (b:Zal L s.at_ ((l.map fun k=>ZbG (Zf ns k)).flatten++[u])) (I:ZgZ u) :
  ∃ts y o,l=y++o/\ZK L (ZcK j) j s=(ts,Zc s ((y.map fun k=>ZbG (Zf ns k)).flatten).length)/\ZaV (fun c=>Zs ns (f+1) (Zf ns c)) y ts/\ZaC ns o=true/\(∀c∈o,Zgp ns c)/\(∀c∈o,j+1<=ZY ns c)/\Zal L (Zc s ((y.map fun k=>ZbG (Zf ns k)).flatten).length).at_ ((o.map fun k=>ZbG (Zf ns k)).flatten++[u]):=by
 cases l with
 |nil=>
  have E:kt (Zl L s.at_)=(u.1,u.2):=b.head;refine⟨[],[],[],rfl,?_,ZaV.nil _,rfl,fun c h=>by simp at h,fun c h=>by simp at h,b⟩;unfold ZK;rw[ZI A E (I.2 j),Yn (by decide)];rfl
 |cons c r=>
  have hc:=t c List.mem_cons_self;obtain⟨n,D⟩:=ZiN r c H;obtain⟨a,q,J,X,B⟩:=Zhi hc;have V:=W c List.mem_cons_self;by_cases g:ZY ns c=j
  ·rw[List.map_cons,List.flatten_cons,List.append_assoc]at b;have e:∃v K,(r.map fun k=>ZbG (Zf ns k)).flatten++[u]=v::K/\v.2≠[124]:=by
    cases r with
    |nil=>exact⟨u,[],rfl,I.1⟩
    |cons d r'=>
     obtain⟨M,q',-,-,N⟩:=Zhi (t d (by simp));exact⟨(0,ZcK (ZY ns d)),ZaA [(2,[124])] ((M::q').map fun w=>[(0,w)])++(r'.map fun k=>ZbG (Zf ns k)).flatten++[u],by rw[List.map_cons,List.flatten_cons,N];simp only[List.append_assoc,List.cons_append,List.nil_append],Zox⟩
   obtain⟨v,K,O,Z⟩:=e;have i:=b;rw[O,<-List.singleton_append,<-List.append_assoc]at i;have m:=i.left;rw[B,g]at m;obtain⟨p,Y⟩:=Zlw (which:=j) A (Zoy G T) m Z X;refine⟨[.mk 6 (a::q) [j] p []],[c],r,rfl,?_,ZaV.cons ?_ (ZaV.nil _),D,fun d hd=>t d (List.mem_cons_of_mem _ hd),fun d hd=>?_,?_⟩
   ·rw[Y];simp only[List.map_cons,List.map_nil,List.flatten_cons,List.flatten_nil,List.append_nil,B,Yj,Yk,Yl,Nat.zero_add]
   ·obtain⟨a2,q2,z,Q,R,F,S,-,-,-⟩:=hc;have P:z=j:=by rw[<-g];unfold ZY;rw[F]
    rw[J]at R;exact ZcY Q J (by rw[F,P]) S
   ·have:=n d hd;omega
   ·have U:=b.right;simpa only[List.map_cons,List.map_nil,List.flatten_cons,List.flatten_nil,List.append_nil,Zgj]using U
  ·refine⟨[],[],c::r,rfl,?_,ZaV.nil _,H,t,fun d hd=>?_,b⟩
   ·have C:j<ZY ns c:=by omega
    rw[List.map_cons,List.flatten_cons,B]at b;have E:kt (Zl L s.at_)=(0,ZcK (ZY ns c)):=b.head;unfold ZK;rw[ZI A E (Zp6 G C hc.which.2),Yn (by decide)];rfl
   ·rcases List.mem_cons.1 hd with rfl|hd
    ·omega
    ·have:=n d hd;omega
end
end
section
section
variable {L:List Tok}
theorem ZaV.two {c:Type} {P:c->Tr->Prop}:∀{a b:List c} {ts us:List Tr},ZaV P a ts->ZaV P b us->ZaV P (a++b) (ts++us)
 |[],b,[],us,_,h=>h
 |[],_,_::_,_,h,_=>nomatch h.1
 |_::_,_,[],_,h,_=>nomatch h.1
 |x::a,b,t::ts,us,h,g=>ZaV.cons (h.2 0 t x rfl rfl) (ZaV.two (a:=a) (ts:=ts) ⟨by have:=h.1;simpa using this,fun i j d f e=>h.2 (i+1) j d f e⟩ g)
theorem ZoO {ns:List Nd} (R:RightP ns) {i:Nat} {c:Int} (h:ns[i]? = some (Zf ns c)) (hk:(Zf ns c).kind=6):Zgp ns c:=by
 obtain⟨l,j,b⟩:=R.node i _ h;have e:Zr ns (Zf ns c)=(decide (1<=(Zf ns c).words.length)&&Zq (Zf ns c) (Zf ns c).words.length 1&&decide (num (Zf ns c) 0<=2)&&Zj ns (Zf ns c).kids []):=by simp[Zr,hk]
 rw[e,Bool.and_eq_true,Bool.and_eq_true,Bool.and_eq_true,decide_eq_true_eq,decide_eq_true_eq]at b;obtain⟨z,d⟩:=Zep (ZaP b.1.1.2).2;have g:z<=2:=by have:=b.1.2;rw[ZcT (k:=0) (z:=z) (by rw[d];rfl)]at this;exact this
 have f:0<=z:=(Zbn j (x:=z) (by rw[d];simp)).1;cases hws:(Zf ns c).words with
 |nil=>have:=b.1.1.1;rw[hws]at this;simp at this
 |cons a r=>exact⟨a,r,z,hk,hws,d,Zg0 b.2,f,g,fun x hx=>List.all_eq_true.mp l x (by rw[hws];exact hx)⟩
def Zd6:Txt:=[108,101,97,115,116]
theorem Zls (j:Int):ZcK j≠Zd6:=by
 unfold ZcK
 split
 ·decide
 ·split<;>decide
theorem Zlt {q r:Int} (hq:Zbp q) (i:Zbp r) (h:q=0/\r=0\/1<=q/\1<=r) {s:PS} {v:Nat×Txt} {vs:TS} (b:s.err=0) (a:Zal L s.at_ ((if 0<r then [((0:Nat),Zd6)]++ZfZ q r else [])++v::vs)) (j:v.2≠Zd6) :
  (if isM L Zd6 s then(let n:=Zaz L 1 (Zd s);let d:=Zaz L 1 (Zg L [47] n.2);([n.1,d.1],d.2))else([0,0],s))=(([q,r],Zc s (if 0<r then [((0:Nat),Zd6)]++ZfZ q r else []).length):List Int×PS):=by
 rcases h with⟨rfl,rfl⟩|⟨f,g⟩
 ·rw[Yn (show ¬(0:Int)<0 by decide)]at a;rw[Yn (show ¬(0:Int)<0 by decide)];have e:kt (Zl L s.at_)=(v.1,v.2):=a.head;rw[ZI b e j,Yn (by decide)];rfl
 ·have c:(0:Int)<r:=by omega
  rw[Yo c]at a;rw[Yo c];have e:kt (Zl L s.at_)=(0,Zd6):=a.head;have k:kt (Zl L (Zc s 1).at_)=(1,ZbE q):=a.tail.head;have l:kt (Zl L (Zc (Zc s 1) 1).at_)=(2,[47]):=a.tail.tail.head;have m:kt (Zl L (Zc (Zc (Zc s 1) 1) 1).at_)=(1,ZbE r):=a.tail.tail.tail.head;rw[ZbV b e (by decide),Yo rfl,Zaf];simp only;rw[Ze4 (s:=Zc s 1) (v:=q) b k (Zem hq) f];simp only;rw[Za3 (s:=Zc (Zc s 1) 1) b l,Ze4 (s:=Zc (Zc (Zc s 1) 1) 1) (v:=r) b m (Zem i) g,Zn,Zn,Zn];rfl
theorem Zlz {ns:List Nd} (R:RightP ns) {f i:Nat} {n:Nd} (Y:ns[i]? = some n) (hk:n.kind=5):ZZ L 0 (ZaO L) (Zd7 ns n) Zd3 (Zs ns (f+2) n):=fun s u g _ h B=>by
 obtain⟨M,K,X⟩:=R.node i n Y;have el:Zr ns n=(Zq n 1 0&&Zj ns n.kids []||Zq n 2 3&&Zcn ns n):=by simp[Zr,hk]
 rw[el,Bool.or_eq_true,Bool.and_eq_true,Bool.and_eq_true]at X;rcases X with⟨D,A⟩|⟨D,A⟩
 ·obtain⟨a,ha⟩:=Zep (ZaP D).1;have I:n.nums=[]:=List.length_eq_zero_iff.1 (ZaP D).2;have t:=Zg0 A;have E:Zd7 ns n=[(0,a)]:=by simp[Zd7,ha,word]
  rw[E]at h⊢;have N:kt (Zl L s.at_)=(0,a):=h.head;have O:kt (Zl L (Zc s 1).at_)=(u.1,u.2):=h.tail.head;have hx:ZQ a=true:=List.all_eq_true.mp M a (by rw[ha];simp);refine⟨.mk 5 [a] [] (Ze L s) [],?_,ZcY hk ha I t⟩;unfold ZaO;simp only;rw[Zaj g N hx];simp only;rw[ZI (s:=Zc s 1) g O (B.not (by decide) (by decide)),Yn (by decide)];rfl
 ·unfold Zcn at A;rw[Bool.and_eq_true,Bool.and_eq_true,Bool.and_eq_true,decide_eq_true_eq]at A;obtain⟨⟨⟨C,z⟩,H⟩,J⟩:=A;obtain⟨lw,ln⟩:=ZaP D;obtain⟨a,b,l⟩:∃a b,n.words=[a,b]:=by
   match hws:n.words,lw with
   |[a,b],_=>exact⟨a,b,rfl⟩
  obtain⟨p,q,r,e⟩:∃p q r,n.nums=[p,q,r]:=by
   match hws:n.nums,ln with
   |[a,b,c],_=>exact⟨a,b,c,rfl⟩
  have n0:num n 0=p:=ZcT (by rw[e];rfl);have n1:num n 1=q:=ZcT (by rw[e];rfl);have n2:num n 2=r:=ZcT (by rw[e];rfl);have hp:=Zbn K (x:=p) (by rw[e];simp);have hq:=Zbn K (x:=q) (by rw[e];simp);have hr:=Zbn K (x:=r) (by rw[e];simp);have G:q=0/\r=0\/1<=q/\1<=r:=by unfold ZdJ at z;rw[n1,n2]at z;simpa using z
  rw[n0]at C
  have F:∀c∈n.kids,Zgp ns c:=fun c hc=>by
   obtain⟨j,hj⟩:=Zci R Y hc;have:=List.all_eq_true.mp H c hc;exact ZoO R hj (by simpa[isB,Zp]using this)
  have E:Zd7 ns n=[(0,a),(2,[58]),(0,b),(0,ZaR p)]++((if 0<r then [((0:Nat),Zd6)]++ZfZ q r else [])++(n.kids.map fun k=>ZbG (Zf ns k)).flatten):=by simp[Zd7,l,word,n0,n1,n2,Zd6]
  rw[E]at h⊢;rw[List.append_assoc,List.append_assoc]at h;have N:kt (Zl L s.at_)=(0,a):=h.head;have O:kt (Zl L (Zc s 1).at_)=(2,[58]):=h.tail.head;have k2:kt (Zl L (Zc (Zc s 1) 1).at_)=(0,b):=h.tail.tail.head;have k3:kt (Zl L (Zc (Zc (Zc s 1) 1) 1).at_)=(0,ZaR p):=h.tail.tail.tail.head;have U:Zal L (Zc s 4).at_ _:=h.right;have y:∃v vs,(n.kids.map fun k=>ZbG (Zf ns k)).flatten++[u]=v::vs/\v.2≠Zd6:=by
   cases t:n.kids with
   |nil=>exact⟨u,[],rfl,B.not (by decide) (by decide)⟩
   |cons d r'=>
    obtain⟨a',q',-,-,ed⟩:=Zhi (F d (by rw[t];simp));exact⟨(0,ZcK (ZY ns d)),ZaA [(2,[124])] ((a'::q').map fun w=>[(0,w)])++(r'.map fun k=>ZbG (Zf ns k)).flatten++[u],by rw[List.map_cons,List.flatten_cons,ed];simp only[List.append_assoc,List.cons_append,List.nil_append],Zls _⟩
  obtain⟨v,vs,ev,hv⟩:=y;have V:=U;rw[ev]at V;have Q:=Zlt hq hr G (s:=Zc s 4) g V hv;have W:=U.right;obtain⟨m,hm⟩:∃m,m=(if 0<r then [((0:Nat),Zd6)]++ZfZ q r else []).length:=⟨_,rfl⟩
  rw[<-hm]at Q W;have h7:Zal L (Zc (Zc s 4) m).at_ ((n.kids.map fun k=>ZbG (Zf ns k)).flatten++[u]):=W;obtain⟨ts,Z,l2,S,x1,A1,r2,N2,j2,H2⟩:=Zf4 (f:=f) (j:=0) (by decide) (by decide) n.kids F J (fun c hc=>(F c hc).which.1) (s:=Zc (Zc s 4) m) g h7 B.noHead;obtain⟨us,m1,m2,e2,x2,A2,r3,N3,j3,H3⟩:=Zf4 (f:=f) (j:=1) (by decide) (by decide) l2 N2 r2 (fun c hc=>by have:=j2 c hc;omega) (s:=Zc (Zc (Zc s 4) m) ((Z.map fun k=>ZbG (Zf ns k)).flatten).length) g H2 B.noHead;obtain⟨P,o1,o2,T,x3,A3,r4,N4,j4,H4⟩:=Zf4 (f:=f) (j:=2) (by decide) (by decide) m2 N3 r3 (fun c hc=>by have:=j3 c hc;omega) (s:=Zc (Zc (Zc (Zc s 4) m) ((Z.map fun k=>ZbG (Zf ns k)).flatten).length) ((m1.map fun k=>ZbG (Zf ns k)).flatten).length) g H3 B.noHead;have e4:o2=[]:=by
   cases o2 with
   |nil=>rfl
   |cons c o=>have g1:=j4 c (by simp);have g2:=(N4 c (by simp)).which.2;omega
  subst e4;rw[List.append_nil]at T;subst T;subst e2;have ha:ZQ a=true:=List.all_eq_true.mp M a (by rw[l];simp);have hb:ZQ b=true:=List.all_eq_true.mp M b (by rw[l];simp);refine⟨.mk 5 [a,b] (p::[q,r]) (Ze L s) (ts++us++P),?_,Zcb hk l e ?_⟩
  ·unfold ZaO;simp only;rw[Zaj g N ha];simp only;rw[Zct (s:=Zc s 1) g O,Yo rfl,Zaf,Zaj (s:=Zc (Zc s 1) 1) g k2 hb];simp only;rw[ZiA (s:=Zc (Zc (Zc s 1) 1) 1) (.inl rfl) hp.1 C g k3,Zn,Zn,Zn];simp only;erw[Q];simp only;erw[x1];simp only;erw[x2];simp only;erw[x3];simp only[Zn]
   congr 2
   rw[S];simp only[Yj,List.map_append,List.flatten_append,Yk,Yl,<-hm];omega
  ·rw[S];rw[List.append_assoc];exact A1.two (A2.two A3)
end
end
section
section
variable {L:List Tok}
def gT (u:Nat×Txt):Prop:=u.2≠[101,108,115,101]
theorem Zmi:gX (2,[59]):=by refine⟨⟨⟨trivial,?_,?_⟩,?_,?_⟩,?_,?_⟩<;>decide
theorem Zmh:gX (2,[123]):=by refine⟨⟨⟨trivial,?_,?_⟩,?_,?_⟩,?_,?_⟩<;>decide
theorem Zp5:gX (2,[44]):=by refine⟨⟨⟨trivial,?_,?_⟩,?_,?_⟩,?_,?_⟩<;>decide
theorem Zp4:gX (2,[41]):=by refine⟨⟨⟨trivial,?_,?_⟩,?_,?_⟩,?_,?_⟩<;>decide
theorem Zg2 {ex:PS->Tr×PS} {d:Int} {us vs:TS} {T:Tr->Prop} {a:Txt} (hx:ZQ a=true) (i:ZZ L d ex us gX T) {s:PS} (b:s.err=0) (f:s.deep+d<=200) (c:Zal L s.at_ ([(0,a),(2,[61])]++(us++(2,[59])::vs))) :
  Zb L s=(a,Zc s 1)/\∃t,ex (Zg L [61] (Zc s 1))=(t,Zc s (2+us.length))/\T t/\Zg L [59] (Zc s (2+us.length))=Zc s (3+us.length):=by
 have j:kt (Zl L s.at_)=(0,a):=c.left.head;have k:kt (Zl L (Zc s 1).at_)=(2,[61]):=c.left.tail.head;have e:Zal L (Zc s 2).at_ (us++(2,[59])::vs):=c.right;obtain⟨t,g,h⟩:=i.at' (s:=Zc s 2) b f e Zmi;have l:kt (Zl L (Zc (Zc s 2) us.length).at_)=(2,[59]):=e.right.head;refine⟨Zaj b j hx,t,?_,h,?_⟩
 ·rw[Za3 (s:=Zc s 1) b k,Zn,g,Zn]
 ·rw[<-Zn,Za3 (s:=Zc (Zc s 2) us.length) b l,Zn,Zn]
  congr 1
  omega
theorem Zf3 {ns:List Nd} {f:Nat} {n:Nd} {k:Int} {w:List Txt} {u:List Int} {p:Int} {c:Int} {t:Tr} (hk:n.kind=k) (d:n.words=w) (b:n.nums=u) (a:n.kids=[c]) (h:Zs ns f (Zf ns c) t):Zs ns (f+1) n (.mk k w u p [t]):=
 Zcb hk d b (by rw[a];exact ZaV.cons h (ZaV.nil _))
theorem ZoJ {ns:List Nd} {f g:Nat} {n:Nd} {c:Int} {a:Txt} {d:Int} {ex:PS->Tr×PS} {us:TS} (hk:n.kind=8) (v:n.words=[a]) (r:n.nums=[]) (e:n.kids=[c]) (hx:ZQ a=true) (q:ZZ L d ex us gX (Zs ns f (Zf ns c))):ZZ L d (Zu L ex (g+1)) ([(0,[108,101,116])]++([(0,a)]++[(2,[61])]++us++[(2,[59])])) gT (Zs ns (f+1) n):=fun s u h i b _=>by
 rw[List.append_assoc]at b;have w:kt (Zl L s.at_)=(0,[108,101,116]):=b.left.head;have j:Zal L (Zc s 1).at_ ([(0,a),(2,[61])]++(us++(2,[59])::[u])):=by have p:Zal L (Zc s 1).at_ _:=b.right;simpa only[List.append_assoc,List.cons_append,List.nil_append]using p
 obtain⟨k,t,l,m,o⟩:=Zg2 hx q (s:=Zc s 1) h i j;refine⟨.mk 8 [a] [] (Ze L s) [t],?_,Zf3 hk v r e m⟩;unfold Zu;simp only;rw[ZbV h w (by decide),Yo rfl,Zaf,k];simp only;rw[l];simp only;rw[o,Zn];simp only[Yj,Yk,Yl,Prod.mk.injEq,true_and]
 congr 1
 omega
theorem Zpq {ns:List Nd} {f g:Nat} {n:Nd} {c:Int} {a:Txt} {d:Int} {ex:PS->Tr×PS} {us:TS} (hk:n.kind=9) (y:n.words=[a]) (w:n.nums=[]) (h:n.kids=[c]) (hx:ZQ a=true) (q:ZZ L d ex us gX (Zs ns f (Zf ns c))):ZZ L d (Zu L ex (g+1)) ([(0,a)]++[(2,[61])]++us++[(2,[59])]) gT (Zs ns (f+1) n):=fun s u b k r _=>by
 have i:Zal L s.at_ ([(0,a),(2,[61])]++(us++(2,[59])::[u])):=by simpa only[List.append_assoc,List.cons_append,List.nil_append]using r
 have j:kt (Zl L s.at_)=(0,a):=i.left.head;obtain⟨l,t,m,o,p⟩:=Zg2 hx q b k i;have v:a≠[108,101,116]:=fun e=>by rw[e]at hx;revert hx;decide
 refine⟨.mk 9 [a] [] (Ze L s) [t],?_,Zf3 hk y w h o⟩;unfold Zu;simp only;rw[ZI b j v,Yn (by decide),Zhh b j hx,Yo rfl,l];simp only;rw[m];simp only;rw[p];simp only[Yj,Yk,Yl,Prod.mk.injEq,true_and]
 congr 1
 omega
theorem Zfa {ex:PS->Tr×PS} {g:Nat} {s:PS} {w:Txt} (a:s.err=0) (b:kt (Zl L s.at_)=(0,w)) (i:ZQ w=false) (c:w≠[108,101,116]) (d:w≠[111,112,101,110]) (e:w≠[100,111]) (f:w≠[115,112,108,105,116]) (h:w≠[99,97,108,108]):Zu L ex (g+1) s=Zbl L ex (Zu L ex g) (Ze L s) s:=by rw[Zu];simp only;rw[ZI a b c,Yn (by decide),Zdl a b (.inr i),Yn (by decide),ZI a b d,Yn (by decide),ZI a b e,Yn (by decide),ZI a b f,Yn (by decide),ZI a b h,Yn (by decide)]
theorem ZkO {ns:List Nd} {f g:Nat} {n:Nd} {c:Int} {d:Int} {ex:PS->Tr×PS} {us:TS} (hk:n.kind=18) (q:n.words=[]) (p:n.nums=[]) (e:n.kids=[c]) (m:ZZ L d ex us gX (Zs ns f (Zf ns c))):ZZ L d (Zu L ex (g+1)) ([(0,[114,101,116,117,114,110])]++us++[(2,[59])]) gT (Zs ns (f+1) n):=fun s u a j o _=>by
 have h:Zal L s.at_ ([(0,[114,101,116,117,114,110])]++(us++(2,[59])::[u])):=by simpa only[List.append_assoc,List.cons_append,List.nil_append]using o
 have b:kt (Zl L s.at_)=(0,[114,101,116,117,114,110]):=h.left.head;have i:Zal L (Zc s 1).at_ (us++(2,[59])::[u]):=h.right;obtain⟨t,k,l⟩:=m.at' (s:=Zc s 1) a j i Zmi;have r:kt (Zl L (Zc (Zc s 1) us.length).at_)=(2,[59]):=i.right.head;refine⟨.mk 18 [] [] (Ze L s) [t],?_,Zf3 hk q p e l⟩;rw[Zfa a b (by decide) (by decide) (by decide) (by decide) (by decide) (by decide)];unfold Zbl;rw[ZI a b (by decide),Yn (by decide),ZI a b (by decide),Yn (by decide),ZbV a b (by decide),Yo rfl,Zaf,k];simp only;rw[Za3 (s:=Zc (Zc s 1) us.length) a r,Zn,Zn];simp only[Yj,Yk,Yl,Prod.mk.injEq,true_and]
 congr 1
theorem ZmZ {ns:List Nd} {f g:Nat} {n:Nd} {d:Int} {ex:PS->Tr×PS} (hk:n.kind=19) (i:n.words=[]) (h:n.nums=[]) (c:n.kids=[]):ZZ L d (Zu L ex (g+1)) ([(0,[101,120,105,116])]++[(2,[59])]) gT (Zs ns (f+1) n):=fun s u a _ e _=>by
 have b:kt (Zl L s.at_)=(0,[101,120,105,116]):=e.head;have j:kt (Zl L (Zc s 1).at_)=(2,[59]):=e.tail.head;refine⟨.mk 19 [] [] (Ze L s) [],?_,ZcY hk i h c⟩;rw[Zfa a b (by decide) (by decide) (by decide) (by decide) (by decide) (by decide)];unfold Zbl;rw[ZI a b (by decide),Yn (by decide),ZI a b (by decide),Yn (by decide),ZI a b (by decide),Yn (by decide),Zfd a b (by decide),Za3 (s:=Zc s 1) a j,Zn];rfl
def ZeN (L:List Tok) (ns:List Nd) (f:Nat) (d:Int) (st:PS->Tr×PS) (us:TS) (c:Int):Prop:=ZZ L d (Zau L st) us (fun _=>True) (Zs ns f (Zf ns c))
theorem Zl6 {ns:List Nd} {f g:Nat} {n:Nd} {c b:Int} {d:Int} {ex:PS->Tr×PS} {us vs:TS} {v0:Nat×Txt} {E:TS} (hk:n.kind=17) (D:n.words=[]) (B:n.nums=[]) (h:n.kids=[c,b]) (z:ZZ L d ex us gX (Zs ns f (Zf ns c))) (C:vs=v0::E) (i:v0=(2,[123])) (y:ZeN L ns f d (Zu L ex g) vs b):ZZ L d (Zu L ex (g+1)) ([(0,[119,104,105,108,101])]++us++vs) gT (Zs ns (f+1) n):=fun s u a k A _=>by
 have l:Zal L s.at_ ([(0,[119,104,105,108,101])]++(us++(vs++[u]))):=by simpa only[List.append_assoc]using A
 have j:kt (Zl L s.at_)=(0,[119,104,105,108,101]):=l.left.head;have m:Zal L (Zc s 1).at_ (us++(vs++[u])):=l.right;have e:=m;rw[C,List.cons_append]at e;obtain⟨t,p,q⟩:=z.at' (s:=Zc s 1) a k e (by rw[i];exact Zmh);have r:Zal L (Zc (Zc s 1) us.length).at_ (vs++[u]):=m.right;obtain⟨o,v,w⟩:=y (Zc (Zc s 1) us.length) u a k r trivial;refine⟨.mk 17 [] [] (Ze L s) [t,o],?_,Zcb hk D B (by rw[h];exact ZaV.cons q (ZaV.cons w (ZaV.nil _)))⟩;rw[Zfa a j (by decide) (by decide) (by decide) (by decide) (by decide) (by decide)];unfold Zbl;rw[ZI a j (by decide),Yn (by decide),ZbV a j (by decide),Yo rfl,Zaf,p];simp only;rw[v,Zn,Zn];simp only[Yj,Yk,Yl,Prod.mk.injEq,true_and]
 congr 1
 omega
end
end
section
section
variable {L:List Tok}
def Zec:Txt:=[101,108,115,101]
theorem Ziv {ns:List Nd} {f:Nat} {c b:Int} {d:Int} {ex st:PS->Tr×PS} {us a rest:TS} (r:ZZ L d ex us gX (Zs ns f (Zf ns c))) (q:ZeN L ns f d st ((2,[123])::a) b) {s:PS} {u:Nat×Txt} (g:s.err=0) (h:s.deep+d<=200) (e:Zal L s.at_ (us++(((2,[123])::a)++u::rest))) :
  ∃t l,ex s=(t,Zc s us.length)/\Zs ns f (Zf ns c) t/\Zau L st (Zc s us.length)=(l,Zc s (us.length+(a.length+1)))/\Zs ns f (Zf ns b) l/\Zal L (Zc s (us.length+(a.length+1))).at_ (u::rest):=by
 obtain⟨t,n,o⟩:=r.at' g h (by rw[List.cons_append]at e;exact e) Zmh;have i:Zal L (Zc s us.length).at_ (((2,[123])::a)++u::rest):=e.right;obtain⟨m,j,p⟩:=ZZ.at' q (s:=Zc s us.length) g h i trivial;have k:Zal L (Zc (Zc s us.length) ((2,[123])::a).length).at_ (u::rest):=i.right;rw[Zn]at j k;exact⟨t,m,n,o,j,p,k⟩
theorem Zp7 {ns:List Nd} {f g:Nat} {n:Nd} {c b:Int} {d:Int} {ex:PS->Tr×PS} {us a:TS} (hk:n.kind=16) (r:n.words=[]) (q:n.nums=[]) (h:n.kids=[c,b]) (m:ZZ L d ex us gX (Zs ns f (Zf ns c))) (l:ZeN L ns f d (Zu L ex g) ((2,[123])::a) b):ZZ L d (Zu L ex (g+1)) ([(0,[105,102])]++(us++((2,[123])::a))) gT (Zs ns (f+1) n):=fun s u e k p o=>by
 have i:Zal L s.at_ ([(0,[105,102])]++(us++(((2,[123])::a)++u::[]))):=by simpa only[List.append_assoc]using p
 have j:kt (Zl L s.at_)=(0,[105,102]):=i.left.head;obtain⟨t,w,y,z,A,B,C⟩:=Ziv m l (s:=Zc s 1) (u:=u) e k i.right;have v:kt (Zl L (Zc (Zc s 1) (us.length+(a.length+1))).at_)=(u.1,u.2):=C.head;refine⟨.mk 16 [] [] (Ze L s) [t,w],?_,Zcb hk r q (by rw[h];exact ZaV.cons z (ZaV.cons B (ZaV.nil _)))⟩;rw[Zfa e j (by decide) (by decide) (by decide) (by decide) (by decide) (by decide)];unfold Zbl;rw[ZbV e j (by decide),Yo rfl,Zaf,y];simp only;rw[A];simp only;rw[ZI (s:=Zc (Zc s 1) (us.length+(a.length+1))) e v o,Yn (by decide),Zn];simp only[Yj,Yk,Yl]
theorem Zky {ns:List Nd} {f g:Nat} {n:Nd} {c b e:Int} {d:Int} {ex:PS->Tr×PS} {us a wr:TS} (hk:n.kind=16) (w:n.words=[]) (v:n.nums=[]) (i:n.kids=[c,b,e]) (q:ZZ L d ex us gX (Zs ns f (Zf ns c))) (o:ZeN L ns f d (Zu L ex g) ((2,[123])::a) b) (p:ZeN L ns f d (Zu L ex g) wr e):ZZ L d (Zu L ex (g+1)) ([(0,[105,102])]++(us++(((2,[123])::a)++([(0,Zec)]++wr)))) gT (Zs ns (f+1) n):=fun s u h j r G=>by
 have k:Zal L s.at_ ([(0,[105,102])]++(us++(((2,[123])::a)++(0,Zec)::(wr++[u])))):=by simpa only[List.append_assoc,List.cons_append,List.nil_append]using r
 have l:kt (Zl L s.at_)=(0,[105,102]):=k.left.head;obtain⟨t,z,A,B,C,D,m⟩:=Ziv q o (s:=Zc s 1) (u:=(0,Zec)) h j k.right;have y:kt (Zl L (Zc (Zc s 1) (us.length+(a.length+1))).at_)=(0,Zec):=m.head;obtain⟨t2,E,F⟩:=p (Zc (Zc (Zc s 1) (us.length+(a.length+1))) 1) u h j m.tail trivial;refine⟨.mk 16 [] [] (Ze L s) [t,z,t2],?_,Zcb hk w v (by rw[i];exact ZaV.cons B (ZaV.cons D (ZaV.cons F (ZaV.nil _))))⟩;rw[Zfa h l (by decide) (by decide) (by decide) (by decide) (by decide) (by decide)];unfold Zbl;rw[ZbV h l (by decide),Yo rfl,Zaf,A];simp only;rw[C];simp only;erw[ZbV (s:=Zc (Zc s 1) (us.length+(a.length+1))) h y (by decide),Yo rfl];rw[Zaf,E,Zn,Zn,Zn];simp only[Yj,Yk,Yl,Prod.mk.injEq,true_and]
 congr 1
 omega
theorem Znl {ns:List Nd} {f g:Nat} {n:Nd} {c e:Int} {a b:Txt} {d:Int} {ex:PS->Tr×PS} {i wr:TS} (hk:n.kind=10) (z:n.words=[a,b]) (y:n.nums=[]) (k:n.kids=[c,e]) (ha:ZQ a=true) (v:ZQ b=true) (q:ZeN L ns f d (Zu L ex g) i c) (r:ZeN L ns f d (Zu L ex g) wr e):ZZ L d (Zu L ex (g+1)) ([(0,[111,112,101,110]),(0,a),(0,b)]++(i++([(0,Zec)]++wr))) gT (Zs ns (f+1) n):=fun s u h m w H=>by
 have j:Zal L s.at_ ([(0,[111,112,101,110]),(0,a),(0,b)]++(i++(0,Zec)::(wr++[u]))):=by simpa only[List.append_assoc,List.cons_append,List.nil_append]using w
 have l:kt (Zl L s.at_)=(0,[111,112,101,110]):=j.left.head;have A:kt (Zl L (Zc s 1).at_)=(0,a):=j.left.tail.head;have B:kt (Zl L (Zc (Zc s 1) 1).at_)=(0,b):=j.left.tail.tail.head;have o:Zal L (Zc s 3).at_ (i++(0,Zec)::(wr++[u])):=j.right;obtain⟨t,D,E⟩:=ZZ.at' q (s:=Zc s 3) h m o trivial;have p:Zal L (Zc (Zc s 3) i.length).at_ ((0,Zec)::(wr++[u])):=o.right;have C:kt (Zl L (Zc (Zc s 3) i.length).at_)=(0,Zec):=p.head;obtain⟨t2,F,G⟩:=r (Zc (Zc (Zc s 3) i.length) 1) u h m p.tail trivial;refine⟨.mk 10 [a,b] [] (Ze L s) [t,t2],?_,Zcb hk z y (by rw[k];exact ZaV.cons E (ZaV.cons G (ZaV.nil _)))⟩;rw[Zu];simp only;rw[ZI h l (by decide),Yn (by decide),Zdl h l (.inr (by decide)),Yn (by decide),ZbV h l (by decide),Yo rfl,Zaf,Zaj (s:=Zc s 1) h A ha];simp only;rw[Zaj (s:=Zc (Zc s 1) 1) h B v,Zn,Zn];simp only;erw[D];simp only;erw[Zfd (s:=Zc (Zc s 3) i.length) h C (by decide)];rw[F,Zn,Zn,Zn];simp only[Yj,Yk,Yl]
theorem ZmT {ns:List Nd} {f:Nat} {n:Nd} {c:Int} {a:Txt} {d:Int} {st:PS->Tr×PS} {b:TS} (hk:n.kind=12) (o:n.words=[a]) (m:n.nums=[]) (i:n.kids=[c]) (ha:ZQ a=true) (l:ZeN L ns f d st b c):ZZ L d (ZcU L st) ([(0,a)]++b) (fun _=>True) (Zs ns (f+1) n)/\ZbD L (fun _=>True) [125] ([(0,a)]++b):=by refine⟨fun s u j k g _=>?_,(0,a),b,rfl,trivial,fun s e h=>ZI e h fun e=>by rw[e]at ha;revert ha;decide⟩;rw[List.append_assoc]at g;have p:kt (Zl L s.at_)=(0,a):=g.left.head;obtain⟨t,q,r⟩:=l (Zc s 1) u j k g.right trivial;refine⟨.mk 12 [a] [] (Ze L s) [t],?_,Zf3 hk o m i r⟩;unfold ZcU;simp only;rw[Zaj j p ha];simp only;rw[q,Zn];simp only[Yj,Yk,Yl]
theorem ZpX {ns:List Nd} {f g:Nat} {n:Nd} {a b:Txt} {d:Int} {ex:PS->Tr×PS} (hk:n.kind=11) (l:n.words=[a,b]) (k:n.nums=[]) (i:n.kids=[]) (ha:ZQ a=true) (j:ZQ b=true):ZZ L d (Zu L ex (g+1)) [(0,[100,111]),(0,a),(2,[46]),(0,b),(2,[59])] gT (Zs ns (f+1) n):=fun s u c _ e _=>by
 have h:kt (Zl L s.at_)=(0,[100,111]):=e.left.head;have m:kt (Zl L (Zc s 1).at_)=(0,a):=e.left.tail.head;have o:kt (Zl L (Zc (Zc s 1) 1).at_)=(2,[46]):=e.left.tail.tail.head;have p:kt (Zl L (Zc (Zc (Zc s 1) 1) 1).at_)=(0,b):=e.left.tail.tail.tail.head;have q:kt (Zl L (Zc (Zc (Zc (Zc s 1) 1) 1) 1).at_)=(2,[59]):=e.left.tail.tail.tail.tail.head;refine⟨.mk 11 [a,b] [] (Ze L s) [],?_,ZcY hk l k i⟩;rw[Zu];simp only;rw[ZI c h (by decide),Yn (by decide),Zdl c h (.inr (by decide)),Yn (by decide),ZI c h (by decide),Yn (by decide),ZbV c h (by decide),Yo rfl,Zaf];unfold doM;rw[Zaj (s:=Zc s 1) c m ha];simp only;rw[Za3 (s:=Zc (Zc s 1) 1) c o,Zaj (s:=Zc (Zc (Zc s 1) 1) 1) c p j];simp only;rw[Zct (s:=Zc (Zc (Zc (Zc s 1) 1) 1) 1) c q,Yo rfl];rfl
theorem Zj3 {ns:List Nd} {f g:Nat} {n:Nd} {a b:Txt} {d:Int} {ex:PS->Tr×PS} {U:Int->TS} (hk:n.kind=11) (v:n.words=[a,b]) (t:n.nums=[]) (ha:ZQ a=true) (q:ZQ b=true) (l:∀c∈n.kids,ZZ L d (ZcU L (Zu L ex g)) (U c) (fun _=>True) (Zs ns f (Zf ns c))/\ZbD L (fun _=>True) [125] (U c)):ZZ L d (Zu L ex (g+1)) ([(0,[100,111]),(0,a),(2,[46]),(0,b)]++Za6 (n.kids.map U)) gT (Zs ns (f+1) n):=fun s u e o r _=>by
 have h:Zal L s.at_ ([(0,[100,111]),(0,a),(2,[46]),(0,b),(2,[123])]++((n.kids.map U).flatten++[(2,[125])])):=by have:=r.left;simpa only[Za6,List.append_assoc,List.cons_append,List.nil_append]using this
 have i:kt (Zl L s.at_)=(0,[100,111]):=h.left.head;have w:kt (Zl L (Zc s 1).at_)=(0,a):=h.left.tail.head;have y:kt (Zl L (Zc (Zc s 1) 1).at_)=(2,[46]):=h.left.tail.tail.head;have z:kt (Zl L (Zc (Zc (Zc s 1) 1) 1).at_)=(0,b):=h.left.tail.tail.tail.head;have m:kt (Zl L (Zc (Zc (Zc (Zc s 1) 1) 1) 1).at_)=(2,[123]):=h.left.tail.tail.tail.tail.head;have k:Zal L (Zc s 5).at_ ((n.kids.map U).flatten++[(2,[125])]):=h.right;have p:n.kids.length<L.length+1:=by have D:=Zds (U:=U) n.kids fun b j=>(l b j).2.some_;have h:=k.1;rw[Yj]at h;omega
 obtain⟨A,B,C⟩:=Ze1 (U:=U) (P:=fun c=>Zs ns f (Zf ns c)) (x:=[125]) trivial n.kids (L.length+1) [] (Zc s 5) e o k p l;refine⟨.mk 11 [a,b] [] (Ze L s) A,?_,Zcb hk v t C⟩;rw[Zu];simp only;rw[ZI e i (by decide),Yn (by decide),Zdl e i (.inr (by decide)),Yn (by decide),ZI e i (by decide),Yn (by decide),ZbV e i (by decide),Yo rfl,Zaf];unfold doM;rw[Zaj (s:=Zc s 1) e w ha];simp only;rw[Za3 (s:=Zc (Zc s 1) 1) e y,Zaj (s:=Zc (Zc (Zc s 1) 1) 1) e z q];simp only;rw[ZI (s:=Zc (Zc (Zc (Zc s 1) 1) 1) 1) e m (by decide),Yn (by decide),Za3 (s:=Zc (Zc (Zc (Zc s 1) 1) 1) 1) e m,Zn,Zn,Zn,Zn];erw[B];simp only[Zn,Za6,Yj,Yk,Yl,List.nil_append,Prod.mk.injEq,true_and]
 congr 1
 omega
end
end
end Go.Proofs.YtfbepcelkijgkaaGreatDoor
