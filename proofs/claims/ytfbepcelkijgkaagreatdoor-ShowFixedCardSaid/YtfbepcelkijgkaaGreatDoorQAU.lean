import Derived.Test.YtfbepcelkijgkaaGreatDoorQAT
set_option maxRecDepth 100000
set_option maxHeartbeats 8000000
namespace Go.Proofs.YtfbepcelkijgkaaGreatDoor
section
section
variable {L:List Tok}
def ZgJ (ns:List Nd) (c:Int):Prop:=∃a r z,(Za ns c).kind=6/\(Za ns c).words=a::r/\(Za ns c).nums=[z]/\(Za ns c).kids=[]/\0<=z/\z<=2/\∀x∈a::r,ZN x=true
theorem ZgJ.which {ns:List Nd} {c:Int} (h:ZgJ ns c):0<=ZaC ns c/\ZaC ns c<=2:=by obtain⟨a,r,z,-,-,e,-,b,d,-⟩:=h;unfold ZaC;rw[e];exact⟨b,d⟩
def Zc5 (j:Int):Txt:=if j=0 then [97,116]else if j=1 then [116,111]else [105,110]
theorem Zrq (j:Int):ZiQ j=[(0,Zc5 j)]:=by
 unfold ZiQ Zc5
 split
 ·rfl
 ·split<;>rfl
theorem ZoD {j:Int} (a:0<=j) (b:j<=2):isKey (Zc5 j)=true:=by
 have:j=0\/j=1\/j=2:=by omega
 rcases this with rfl|rfl|rfl<;>decide
theorem Zp8 {i j:Int} (a:0<=i) (b:i<j) (c:j<=2):Zc5 j≠Zc5 i:=by
 have:(i=0/\j=1)\/(i=0/\j=2)\/(i=1/\j=2):=by omega
 rcases this with⟨rfl,rfl⟩|⟨rfl,rfl⟩|⟨rfl,rfl⟩<;>decide
theorem ZoC {j:Int}:Zc5 j≠[124]:=by
 unfold Zc5
 split
 ·decide
 ·split<;>decide
def Zef (u:Nat×Txt):Prop:=u.2=[44]\/u.2=[41]
theorem Zef.not {u:Nat×Txt} (h:Zef u) {x:Txt} (a:x≠[44]) (b:x≠[41]):u.2≠x:=by
 rcases h with h|h
 ·rw[h];exact fun e=>a e.symm
 ·rw[h];exact fun e=>b e.symm
theorem Zef.head {u:Nat×Txt} (h:Zef u) (j:Int):u.2≠Zc5 j:=by
 apply h.not
 ·unfold Zc5
  split
  ·decide
  ·split<;>decide
 ·unfold Zc5
  split
  ·decide
  ·split<;>decide
def Zhi (u:Nat×Txt):Prop:=u.2≠[124]/\∀j,u.2≠Zc5 j
theorem Zef.noHead {u:Nat×Txt} (h:Zef u):Zhi u:=⟨h.not (by decide) (by decide),h.head⟩
theorem Zhi.open_:Zhi (2,[123]):=⟨by decide,fun j=>by
 unfold Zc5
 split
 ·decide
 ·split<;>decide⟩
theorem Zi9 {ns:List Nd}:∀(l:List Int) (a:Int),Zbl ns (a::l)=true->(∀c∈l,ZaC ns a<ZaC ns c)/\Zbl ns l=true
 |[],_,_=>⟨fun c h=>by simp at h,rfl⟩
 |b::r,a,h=>by
  rw[Zbl,Bool.and_eq_true,decide_eq_true_eq]at h;have d:=Zi9 r b h.2;refine⟨fun c hc=>?_,h.2⟩;rcases List.mem_cons.1 hc with rfl|hc
  ·exact h.1
  ·exact Int.lt_trans h.1 (d.1 c hc)
theorem ZhC {ns:List Nd} {c:Int} (h:ZgJ ns c):∃a r,(Za ns c).words=a::r/\(∀x∈a::r,ZN x=true)/\Zbp (Za ns c)=[(0,Zc5 (ZaC ns c))]++Zaj [(2,[124])] ((a::r).map fun w=>[(0,w)]):=by
 obtain⟨a,r,z,-,b,d,-,-,-,hn⟩:=h;refine⟨a,r,b,hn,?_⟩;have e:num (Za ns c) 0=ZaC ns c:=by unfold num ZaC;rw[d];rfl
 unfold Zbp;rw[e,Zrq,b]
theorem Zgn {ns:List Nd} {f:Nat} {j:Int} (G:0<=j) (T:j<=2) (l:List Int) {s:PS} {u:Nat×Txt} (t:∀c∈l,ZgJ ns c) (H:Zbl ns l=true) (W:∀c∈l,j<=ZaC ns c) (A:s.err=0) (b:Zam L s.at_ ((l.map fun k=>Zbp (Za ns k)).flatten++[u])) (I:Zhi u) :
  ∃ts y o,l=y++o/\Zz L (Zc5 j) j s=(ts,Zc s ((y.map fun k=>Zbp (Za ns k)).flatten).length)/\Za4 (fun c=>Zs ns (f+1) (Za ns c)) y ts/\Zbl ns o=true/\(∀c∈o,ZgJ ns c)/\(∀c∈o,j+1<=ZaC ns c)/\Zam L (Zc s ((y.map fun k=>Zbp (Za ns k)).flatten).length).at_ ((o.map fun k=>Zbp (Za ns k)).flatten++[u]):=by
 cases l with
 |nil=>
  have E:kt (Zg L s.at_)=(u.1,u.2):=b.head;refine⟨[],[],[],rfl,?_,Za4.nil _,rfl,fun c h=>by simp at h,fun c h=>by simp at h,b⟩;unfold Zz;rw[ZH A E (I.2 j),Yn (by decide)];rfl
 |cons c r=>
  have hc:=t c List.mem_cons_self;obtain⟨n,D⟩:=Zi9 r c H;obtain⟨a,q,J,hn,B⟩:=ZhC hc;have V:=W c List.mem_cons_self;by_cases g:ZaC ns c=j
  ·rw[List.map_cons,List.flatten_cons,List.append_assoc]at b;have e:∃v K,(r.map fun k=>Zbp (Za ns k)).flatten++[u]=v::K/\v.2≠[124]:=by
    cases r with
    |nil=>exact⟨u,[],rfl,I.1⟩
    |cons d Z=>
     obtain⟨M,Y,-,-,N⟩:=ZhC (t d (by simp));exact⟨(0,Zc5 (ZaC ns d)),Zaj [(2,[124])] ((M::Y).map fun w=>[(0,w)])++(Z.map fun k=>Zbp (Za ns k)).flatten++[u],by rw[List.map_cons,List.flatten_cons,N];simp only[List.append_assoc,List.cons_append,List.nil_append],ZoC⟩
   obtain⟨v,K,O,hv⟩:=e;have i:=b;rw[O,<-List.singleton_append,<-List.append_assoc]at i;have m:=i.left;rw[B,g]at m;obtain⟨p,X⟩:=ZlQ (which:=j) A (ZoD G T) m hv hn;refine⟨[.mk 6 (a::q) [j] p []],[c],r,rfl,?_,Za4.cons ?_ (Za4.nil _),D,fun d hd=>t d (List.mem_cons_of_mem _ hd),fun d hd=>?_,?_⟩
   ·rw[X];simp only[List.map_cons,List.map_nil,List.flatten_cons,List.flatten_nil,List.append_nil,B,Yj,Yk,Yl,Nat.zero_add]
   ·obtain⟨a2,q2,z,Q,R,F,S,-,-,-⟩:=hc;have P:z=j:=by rw[<-g];unfold ZaC;rw[F]
    rw[J]at R;exact Zdi Q J (by rw[F,P]) S
   ·have:=n d hd;omega
   ·have U:=b.right;simpa only[List.map_cons,List.map_nil,List.flatten_cons,List.flatten_nil,List.append_nil,ZgC]using U
  ·refine⟨[],[],c::r,rfl,?_,Za4.nil _,H,t,fun d hd=>?_,b⟩
   ·have C:j<ZaC ns c:=by omega
    rw[List.map_cons,List.flatten_cons,B]at b;have E:kt (Zg L s.at_)=(0,Zc5 (ZaC ns c)):=b.head;unfold Zz;rw[ZH A E (Zp8 G C hc.which.2),Yn (by decide)];rfl
   ·rcases List.mem_cons.1 hd with rfl|hd
    ·omega
    ·have:=n d hd;omega
end
end
section
section
variable {L:List Tok}
theorem Za4.two {c:Type} {P:c->Tr->Prop}:∀{a b:List c} {ts us:List Tr},Za4 P a ts->Za4 P b us->Za4 P (a++b) (ts++us)
 |[],b,[],us,_,h=>h
 |[],_,_::_,_,h,_=>nomatch h.1
 |_::_,_,[],_,h,_=>nomatch h.1
 |x::a,b,t::ts,us,h,g=>Za4.cons (h.2 0 t x rfl rfl) (Za4.two (a:=a) (ts:=ts) ⟨by have:=h.1;simpa using this,fun i j d f e=>h.2 (i+1) j d f e⟩ g)
theorem ZoW {ns:List Nd} (R:RightP ns) {i:Nat} {c:Int} (hn:ns[i]? = some (Za ns c)) (hk:(Za ns c).kind=6):ZgJ ns c:=by
 obtain⟨j,h,b⟩:=R.node i _ hn;have e:Zm ns (Za ns c)=(decide (1<=(Za ns c).words.length)&&ZF (Za ns c) (Za ns c).words.length 1&&decide (num (Za ns c) 0<=2)&&Zp ns (Za ns c).kids []):=by simp[Zm,hk]
 rw[e,Bool.and_eq_true,Bool.and_eq_true,Bool.and_eq_true,decide_eq_true_eq,decide_eq_true_eq]at b;obtain⟨z,d⟩:=ZeH (ZaL b.1.1.2).2;have g:z<=2:=by have:=b.1.2;rw[ZcG (k:=0) (z:=z) (by rw[d];rfl)]at this;exact this
 have f:0<=z:=(ZaR h (x:=z) (by rw[d];simp)).1;cases hws:(Za ns c).words with
 |nil=>have:=b.1.1.1;rw[hws]at this;simp at this
 |cons a r=>exact⟨a,r,z,hk,hws,d,Zhj b.2,f,g,fun x hx=>List.all_eq_true.mp j x (by rw[hws];exact hx)⟩
def Zeh:Txt:=[108,101,97,115,116]
theorem ZlM (j:Int):Zc5 j≠Zeh:=by
 unfold Zc5
 split
 ·decide
 ·split<;>decide
theorem ZlN {q r:Int} (hq:ZaH q) (i:ZaH r) (h:q=0/\r=0\/1<=q/\1<=r) {s:PS} {v:Nat×Txt} {vs:TS} (b:s.err=0) (a:Zam L s.at_ ((if 0<r then [((0:Nat),Zeh)]++ZfG q r else [])++v::vs)) (hv:v.2≠Zeh) :
  (if isM L Zeh s then(let n:=Zan L 1 (Zd s);let d:=Zan L 1 (Zf L [47] n.2);([n.1,d.1],d.2))else([0,0],s))=(([q,r],Zc s (if 0<r then [((0:Nat),Zeh)]++ZfG q r else []).length):List Int×PS):=by
 rcases h with⟨rfl,rfl⟩|⟨f,g⟩
 ·rw[Yn (show ¬(0:Int)<0 by decide)]at a;rw[Yn (show ¬(0:Int)<0 by decide)];have e:kt (Zg L s.at_)=(v.1,v.2):=a.head;rw[ZH b e hv,Yn (by decide)];rfl
 ·have c:(0:Int)<r:=by omega
  rw[Yo c]at a;rw[Yo c];have e:kt (Zg L s.at_)=(0,Zeh):=a.head;have j:kt (Zg L (Zc s 1).at_)=(1,ZbM q):=a.tail.head;have k:kt (Zg L (Zc (Zc s 1) 1).at_)=(2,[47]):=a.tail.tail.head;have l:kt (Zg L (Zc (Zc (Zc s 1) 1) 1).at_)=(1,ZbM r):=a.tail.tail.tail.head;rw[Zca b e (by decide),Yo rfl,Zag];simp only;rw[Zfp (s:=Zc s 1) (v:=q) b j (ZeB hq) f];simp only;rw[Zba (s:=Zc (Zc s 1) 1) b k,Zfp (s:=Zc (Zc (Zc s 1) 1) 1) (v:=r) b l (ZeB i) g,Zj,Zj,Zj];rfl
theorem ZlS {ns:List Nd} (R:RightP ns) {f i:Nat} {n:Nd} (hn:ns[i]? = some n) (hk:n.kind=5):ZZ L 0 (ZaB L) (Zdy ns n) Zef (Zs ns (f+2) n):=fun s u g _ h B=>by
 obtain⟨M,K,W⟩:=R.node i n hn;have el:Zm ns n=(ZF n 1 0&&Zp ns n.kids []||ZF n 2 3&&ZcI ns n):=by simp[Zm,hk]
 rw[el,Bool.or_eq_true,Bool.and_eq_true,Bool.and_eq_true]at W;rcases W with⟨D,A⟩|⟨D,A⟩
 ·obtain⟨a,ha⟩:=ZeH (ZaL D).1;have I:n.nums=[]:=List.length_eq_zero_iff.1 (ZaL D).2;have t:=Zhj A;have E:Zdy ns n=[(0,a)]:=by simp[Zdy,ha,word]
  rw[E]at h⊢;have N:kt (Zg L s.at_)=(0,a):=h.head;have O:kt (Zg L (Zc s 1).at_)=(u.1,u.2):=h.tail.head;have hx:ZN a=true:=List.all_eq_true.mp M a (by rw[ha];simp);refine⟨.mk 5 [a] [] (Ze L s) [],?_,Zdi hk ha I t⟩;unfold ZaB;simp only;rw[Zal g N hx];simp only;rw[ZH (s:=Zc s 1) g O (B.not (by decide) (by decide)),Yn (by decide)];rfl
 ·unfold ZcI at A;rw[Bool.and_eq_true,Bool.and_eq_true,Bool.and_eq_true,decide_eq_true_eq]at A;obtain⟨⟨⟨C,z⟩,H⟩,J⟩:=A;obtain⟨lw,ln⟩:=ZaL D;obtain⟨a,b,l⟩:∃a b,n.words=[a,b]:=by
   match hws:n.words,lw with
   |[a,b],_=>exact⟨a,b,rfl⟩
  obtain⟨p,q,r,e⟩:∃p q r,n.nums=[p,q,r]:=by
   match hws:n.nums,ln with
   |[a,b,c],_=>exact⟨a,b,c,rfl⟩
  have Y:num n 0=p:=ZcG (by rw[e];rfl);have Z:num n 1=q:=ZcG (by rw[e];rfl);have n2:num n 2=r:=ZcG (by rw[e];rfl);have hp:=ZaR K (x:=p) (by rw[e];simp);have hq:=ZaR K (x:=q) (by rw[e];simp);have hr:=ZaR K (x:=r) (by rw[e];simp);have G:q=0/\r=0\/1<=q/\1<=r:=by unfold ZdW at z;rw[Z,n2]at z;simpa using z
  rw[Y]at C
  have F:∀c∈n.kids,ZgJ ns c:=fun c hc=>by
   obtain⟨j,hj⟩:=ZaA R hn hc;have:=List.all_eq_true.mp H c hc;exact ZoW R hj (by simpa[isB,ZJ]using this)
  have E:Zdy ns n=[(0,a),(2,[58]),(0,b),(0,Zax p)]++((if 0<r then [((0:Nat),Zeh)]++ZfG q r else [])++(n.kids.map fun k=>Zbp (Za ns k)).flatten):=by simp[Zdy,l,word,Y,Z,n2,Zeh]
  rw[E]at h⊢;rw[List.append_assoc,List.append_assoc]at h;have N:kt (Zg L s.at_)=(0,a):=h.head;have O:kt (Zg L (Zc s 1).at_)=(2,[58]):=h.tail.head;have k2:kt (Zg L (Zc (Zc s 1) 1).at_)=(0,b):=h.tail.tail.head;have k3:kt (Zg L (Zc (Zc (Zc s 1) 1) 1).at_)=(0,Zax p):=h.tail.tail.tail.head;have T:Zam L (Zc s 4).at_ _:=h.right;have y:∃v vs,(n.kids.map fun k=>Zbp (Za ns k)).flatten++[u]=v::vs/\v.2≠Zeh:=by
   cases t:n.kids with
   |nil=>exact⟨u,[],rfl,B.not (by decide) (by decide)⟩
   |cons d r'=>
    obtain⟨a',q',-,-,ed⟩:=ZhC (F d (by rw[t];simp));exact⟨(0,Zc5 (ZaC ns d)),Zaj [(2,[124])] ((a'::q').map fun w=>[(0,w)])++(r'.map fun k=>Zbp (Za ns k)).flatten++[u],by rw[List.map_cons,List.flatten_cons,ed];simp only[List.append_assoc,List.cons_append,List.nil_append],ZlM _⟩
  obtain⟨v,vs,ev,hv⟩:=y;have U:=T;rw[ev]at U;have Q:=ZlN hq hr G (s:=Zc s 4) g U hv;have V:=T.right;obtain⟨m,hm⟩:∃m,m=(if 0<r then [((0:Nat),Zeh)]++ZfG q r else []).length:=⟨_,rfl⟩
  rw[<-hm]at Q V;have h7:Zam L (Zc (Zc s 4) m).at_ ((n.kids.map fun k=>Zbp (Za ns k)).flatten++[u]):=V;obtain⟨ts,X,l2,e1,x1,A1,r2,N2,j2,H2⟩:=Zgn (f:=f) (j:=0) (by decide) (by decide) n.kids F J (fun c hc=>(F c hc).which.1) (s:=Zc (Zc s 4) m) g h7 B.noHead;obtain⟨us,m1,m2,e2,x2,A2,r3,N3,j3,H3⟩:=Zgn (f:=f) (j:=1) (by decide) (by decide) l2 N2 r2 (fun c hc=>by have:=j2 c hc;omega) (s:=Zc (Zc (Zc s 4) m) ((X.map fun k=>Zbp (Za ns k)).flatten).length) g H2 B.noHead;obtain⟨P,o1,o2,S,x3,A3,r4,N4,j4,H4⟩:=Zgn (f:=f) (j:=2) (by decide) (by decide) m2 N3 r3 (fun c hc=>by have:=j3 c hc;omega) (s:=Zc (Zc (Zc (Zc s 4) m) ((X.map fun k=>Zbp (Za ns k)).flatten).length) ((m1.map fun k=>Zbp (Za ns k)).flatten).length) g H3 B.noHead;have e4:o2=[]:=by
   cases o2 with
   |nil=>rfl
   |cons c o=>have g1:=j4 c (by simp);have g2:=(N4 c (by simp)).which.2;omega
  subst e4;rw[List.append_nil]at S;subst S;subst e2;have ha:ZN a=true:=List.all_eq_true.mp M a (by rw[l];simp);have hb:ZN b=true:=List.all_eq_true.mp M b (by rw[l];simp);refine⟨.mk 5 [a,b] (p::[q,r]) (Ze L s) (ts++us++P),?_,Zcv hk l e ?_⟩
  ·unfold ZaB;simp only;rw[Zal g N ha];simp only;rw[ZcM (s:=Zc s 1) g O,Yo rfl,Zag,Zal (s:=Zc (Zc s 1) 1) g k2 hb];simp only;rw[ZiX (s:=Zc (Zc (Zc s 1) 1) 1) (.inl rfl) hp.1 C g k3,Zj,Zj,Zj];simp only;erw[Q];simp only;erw[x1];simp only;erw[x2];simp only;erw[x3];simp only[Zj]
   congr 2
   rw[e1];simp only[Yj,List.map_append,List.flatten_append,Yk,Yl,<-hm];omega
  ·rw[e1];rw[List.append_assoc];exact A1.two (A2.two A3)
end
end
section
section
variable {L:List Tok}
def gT (u:Nat×Txt):Prop:=u.2≠[101,108,115,101]
theorem Zmv:gX (2,[59]):=by refine⟨⟨⟨trivial,?_,?_⟩,?_,?_⟩,?_,?_⟩<;>decide
theorem Zmu:gX (2,[123]):=by refine⟨⟨⟨trivial,?_,?_⟩,?_,?_⟩,?_,?_⟩<;>decide
theorem Zp7:gX (2,[44]):=by refine⟨⟨⟨trivial,?_,?_⟩,?_,?_⟩,?_,?_⟩<;>decide
theorem Zp6:gX (2,[41]):=by refine⟨⟨⟨trivial,?_,?_⟩,?_,?_⟩,?_,?_⟩<;>decide
theorem Zhl {ex:PS->Tr×PS} {d:Int} {us vs:TS} {T:Tr->Prop} {a:Txt} (hx:ZN a=true) (h:ZZ L d ex us gX T) {s:PS} (b:s.err=0) (e1:s.deep+d<=200) (c:Zam L s.at_ ([(0,a),(2,[61])]++(us++(2,[59])::vs))) :
  Zb L s=(a,Zc s 1)/\∃t,ex (Zf L [61] (Zc s 1))=(t,Zc s (2+us.length))/\T t/\Zf L [59] (Zc s (2+us.length))=Zc s (3+us.length):=by
 have i:kt (Zg L s.at_)=(0,a):=c.left.head;have j:kt (Zg L (Zc s 1).at_)=(2,[61]):=c.left.tail.head;have e:Zam L (Zc s 2).at_ (us++(2,[59])::vs):=c.right;obtain⟨t,f,g⟩:=h.at' (s:=Zc s 2) b e1 e Zmv;have k:kt (Zg L (Zc (Zc s 2) us.length).at_)=(2,[59]):=e.right.head;refine⟨Zal b i hx,t,?_,g,?_⟩
 ·rw[Zba (s:=Zc s 1) b j,Zj,f,Zj]
 ·rw[<-Zj,Zba (s:=Zc (Zc s 2) us.length) b k,Zj,Zj]
  congr 1
  omega
theorem Zgm {ns:List Nd} {f:Nat} {n:Nd} {k:Int} {w:List Txt} {u:List Int} {p:Int} {c:Int} {t:Tr} (hk:n.kind=k) (d:n.words=w) (b:n.nums=u) (a:n.kids=[c]) (h:Zs ns f (Za ns c) t):Zs ns (f+1) n (.mk k w u p [t]):=
 Zcv hk d b (by rw[a];exact Za4.cons h (Za4.nil _))
theorem ZoQ {ns:List Nd} {f g:Nat} {n:Nd} {c:Int} {a:Txt} {d:Int} {ex:PS->Tr×PS} {us:TS} (hk:n.kind=8) (r:n.words=[a]) (q:n.nums=[]) (e:n.kids=[c]) (hx:ZN a=true) (p:ZZ L d ex us gX (Zs ns f (Za ns c))):ZZ L d (Zt L ex (g+1)) ([(0,[108,101,116])]++([(0,a)]++[(2,[61])]++us++[(2,[59])])) gT (Zs ns (f+1) n):=fun s u h e1 b _=>by
 rw[List.append_assoc]at b;have v:kt (Zg L s.at_)=(0,[108,101,116]):=b.left.head;have i:Zam L (Zc s 1).at_ ([(0,a),(2,[61])]++(us++(2,[59])::[u])):=by have o:Zam L (Zc s 1).at_ _:=b.right;simpa only[List.append_assoc,List.cons_append,List.nil_append]using o
 obtain⟨j,t,k,l,m⟩:=Zhl hx p (s:=Zc s 1) h e1 i;refine⟨.mk 8 [a] [] (Ze L s) [t],?_,Zgm hk r q e l⟩;unfold Zt;simp only;rw[Zca h v (by decide),Yo rfl,Zag,j];simp only;rw[k];simp only;rw[m,Zj];simp only[Yj,Yk,Yl,Prod.mk.injEq,true_and]
 congr 1
 omega
theorem Zpq {ns:List Nd} {f g:Nat} {n:Nd} {c:Int} {a:Txt} {d:Int} {ex:PS->Tr×PS} {us:TS} (hk:n.kind=9) (v:n.words=[a]) (r:n.nums=[]) (h:n.kids=[c]) (hx:ZN a=true) (p:ZZ L d ex us gX (Zs ns f (Za ns c))):ZZ L d (Zt L ex (g+1)) ([(0,a)]++[(2,[61])]++us++[(2,[59])]) gT (Zs ns (f+1) n):=fun s u b e1 q _=>by
 have i:Zam L s.at_ ([(0,a),(2,[61])]++(us++(2,[59])::[u])):=by simpa only[List.append_assoc,List.cons_append,List.nil_append]using q
 have j:kt (Zg L s.at_)=(0,a):=i.left.head;obtain⟨k,t,l,m,o⟩:=Zhl hx p b e1 i;have hn:a≠[108,101,116]:=fun e=>by rw[e]at hx;revert hx;decide
 refine⟨.mk 9 [a] [] (Ze L s) [t],?_,Zgm hk v r h m⟩;unfold Zt;simp only;rw[ZH b j hn,Yn (by decide),ZhB b j hx,Yo rfl,k];simp only;rw[l];simp only;rw[o];simp only[Yj,Yk,Yl,Prod.mk.injEq,true_and]
 congr 1
 omega
theorem Zft {ex:PS->Tr×PS} {g:Nat} {s:PS} {w:Txt} (a:s.err=0) (b:kt (Zg L s.at_)=(0,w)) (hn:ZN w=false) (c:w≠[108,101,116]) (d:w≠[111,112,101,110]) (e:w≠[100,111]) (f:w≠[115,112,108,105,116]) (h:w≠[99,97,108,108]):Zt L ex (g+1) s=Zbb L ex (Zt L ex g) (Ze L s) s:=by rw[Zt];simp only;rw[ZH a b c,Yn (by decide),ZdA a b (.inr hn),Yn (by decide),ZH a b d,Yn (by decide),ZH a b e,Yn (by decide),ZH a b f,Yn (by decide),ZH a b h,Yn (by decide)]
theorem Zle {ns:List Nd} {f g:Nat} {n:Nd} {c:Int} {d:Int} {ex:PS->Tr×PS} {us:TS} (hk:n.kind=18) (p:n.words=[]) (o:n.nums=[]) (e:n.kids=[c]) (l:ZZ L d ex us gX (Zs ns f (Za ns c))):ZZ L d (Zt L ex (g+1)) ([(0,[114,101,116,117,114,110])]++us++[(2,[59])]) gT (Zs ns (f+1) n):=fun s u a e1 m _=>by
 have h:Zam L s.at_ ([(0,[114,101,116,117,114,110])]++(us++(2,[59])::[u])):=by simpa only[List.append_assoc,List.cons_append,List.nil_append]using m
 have b:kt (Zg L s.at_)=(0,[114,101,116,117,114,110]):=h.left.head;have i:Zam L (Zc s 1).at_ (us++(2,[59])::[u]):=h.right;obtain⟨t,j,k⟩:=l.at' (s:=Zc s 1) a e1 i Zmv;have q:kt (Zg L (Zc (Zc s 1) us.length).at_)=(2,[59]):=i.right.head;refine⟨.mk 18 [] [] (Ze L s) [t],?_,Zgm hk p o e k⟩;rw[Zft a b (by decide) (by decide) (by decide) (by decide) (by decide) (by decide)];unfold Zbb;rw[ZH a b (by decide),Yn (by decide),ZH a b (by decide),Yn (by decide),Zca a b (by decide),Yo rfl,Zag,j];simp only;rw[Zba (s:=Zc (Zc s 1) us.length) a q,Zj,Zj];simp only[Yj,Yk,Yl,Prod.mk.injEq,true_and]
 congr 1
theorem Zni {ns:List Nd} {f g:Nat} {n:Nd} {d:Int} {ex:PS->Tr×PS} (hk:n.kind=19) (i:n.words=[]) (h:n.nums=[]) (c:n.kids=[]):ZZ L d (Zt L ex (g+1)) ([(0,[101,120,105,116])]++[(2,[59])]) gT (Zs ns (f+1) n):=fun s u a _ e _=>by
 have b:kt (Zg L s.at_)=(0,[101,120,105,116]):=e.head;have j:kt (Zg L (Zc s 1).at_)=(2,[59]):=e.tail.head;refine⟨.mk 19 [] [] (Ze L s) [],?_,Zdi hk i h c⟩;rw[Zft a b (by decide) (by decide) (by decide) (by decide) (by decide) (by decide)];unfold Zbb;rw[ZH a b (by decide),Yn (by decide),ZH a b (by decide),Yn (by decide),ZH a b (by decide),Yn (by decide),Zfv a b (by decide),Zba (s:=Zc s 1) a j,Zj];rfl
def Ze3 (L:List Tok) (ns:List Nd) (f:Nat) (d:Int) (st:PS->Tr×PS) (us:TS) (c:Int):Prop:=ZZ L d (Zaf L st) us (fun _=>True) (Zs ns f (Za ns c))
theorem Zmh {ns:List Nd} {f g:Nat} {n:Nd} {c b:Int} {d:Int} {ex:PS->Tr×PS} {us vs:TS} {v0:Nat×Txt} {C:TS} (hk:n.kind=17) (B:n.words=[]) (A:n.nums=[]) (h:n.kids=[c,b]) (y:ZZ L d ex us gX (Zs ns f (Za ns c))) (hv:vs=v0::C) (i:v0=(2,[123])) (w:Ze3 L ns f d (Zt L ex g) vs b):ZZ L d (Zt L ex (g+1)) ([(0,[119,104,105,108,101])]++us++vs) gT (Zs ns (f+1) n):=fun s u a e1 z _=>by
 have k:Zam L s.at_ ([(0,[119,104,105,108,101])]++(us++(vs++[u]))):=by simpa only[List.append_assoc]using z
 have j:kt (Zg L s.at_)=(0,[119,104,105,108,101]):=k.left.head;have l:Zam L (Zc s 1).at_ (us++(vs++[u])):=k.right;have e:=l;rw[hv,List.cons_append]at e;obtain⟨t,o,p⟩:=y.at' (s:=Zc s 1) a e1 e (by rw[i];exact Zmu);have q:Zam L (Zc (Zc s 1) us.length).at_ (vs++[u]):=l.right;obtain⟨m,r,v⟩:=w (Zc (Zc s 1) us.length) u a e1 q trivial;refine⟨.mk 17 [] [] (Ze L s) [t,m],?_,Zcv hk B A (by rw[h];exact Za4.cons p (Za4.cons v (Za4.nil _)))⟩;rw[Zft a j (by decide) (by decide) (by decide) (by decide) (by decide) (by decide)];unfold Zbb;rw[ZH a j (by decide),Yn (by decide),Zca a j (by decide),Yo rfl,Zag,o];simp only;rw[r,Zj,Zj];simp only[Yj,Yk,Yl,Prod.mk.injEq,true_and]
 congr 1
 omega
end
end
section
section
variable {L:List Tok}
def Zem:Txt:=[101,108,115,101]
theorem ZiR {ns:List Nd} {f:Nat} {c b:Int} {d:Int} {ex st:PS->Tr×PS} {us a rest:TS} (q:ZZ L d ex us gX (Zs ns f (Za ns c))) (p:Ze3 L ns f d st ((2,[123])::a) b) {s:PS} {u:Nat×Txt} (g:s.err=0) (e1:s.deep+d<=200) (e:Zam L s.at_ (us++(((2,[123])::a)++u::rest))) :
  ∃t k,ex s=(t,Zc s us.length)/\Zs ns f (Za ns c) t/\Zaf L st (Zc s us.length)=(k,Zc s (us.length+(a.length+1)))/\Zs ns f (Za ns b) k/\Zam L (Zc s (us.length+(a.length+1))).at_ (u::rest):=by
 obtain⟨t,m,n⟩:=q.at' g e1 (by rw[List.cons_append]at e;exact e) Zmu;have h:Zam L (Zc s us.length).at_ (((2,[123])::a)++u::rest):=e.right;obtain⟨l,i,o⟩:=ZZ.at' p (s:=Zc s us.length) g e1 h trivial;have j:Zam L (Zc (Zc s us.length) ((2,[123])::a).length).at_ (u::rest):=h.right;rw[Zj]at i j;exact⟨t,l,m,n,i,o,j⟩
theorem Zqa {ns:List Nd} {f g:Nat} {n:Nd} {c b:Int} {d:Int} {ex:PS->Tr×PS} {us a:TS} (hk:n.kind=16) (q:n.words=[]) (p:n.nums=[]) (h:n.kids=[c,b]) (l:ZZ L d ex us gX (Zs ns f (Za ns c))) (k:Ze3 L ns f d (Zt L ex g) ((2,[123])::a) b):ZZ L d (Zt L ex (g+1)) ([(0,[105,102])]++(us++((2,[123])::a))) gT (Zs ns (f+1) n):=fun s u e e1 o m=>by
 have i:Zam L s.at_ ([(0,[105,102])]++(us++(((2,[123])::a)++u::[]))):=by simpa only[List.append_assoc]using o
 have j:kt (Zg L s.at_)=(0,[105,102]):=i.left.head;obtain⟨t,v,w,y,z,A,B⟩:=ZiR l k (s:=Zc s 1) (u:=u) e e1 i.right;have r:kt (Zg L (Zc (Zc s 1) (us.length+(a.length+1))).at_)=(u.1,u.2):=B.head;refine⟨.mk 16 [] [] (Ze L s) [t,v],?_,Zcv hk q p (by rw[h];exact Za4.cons y (Za4.cons A (Za4.nil _)))⟩;rw[Zft e j (by decide) (by decide) (by decide) (by decide) (by decide) (by decide)];unfold Zbb;rw[Zca e j (by decide),Yo rfl,Zag,w];simp only;rw[z];simp only;rw[ZH (s:=Zc (Zc s 1) (us.length+(a.length+1))) e r m,Yn (by decide),Zj];simp only[Yj,Yk,Yl]
theorem ZkR {ns:List Nd} {f g:Nat} {n:Nd} {c b e:Int} {d:Int} {ex:PS->Tr×PS} {us a wr:TS} (hk:n.kind=16) (v:n.words=[]) (r:n.nums=[]) (i:n.kids=[c,b,e]) (p:ZZ L d ex us gX (Zs ns f (Za ns c))) (m:Ze3 L ns f d (Zt L ex g) ((2,[123])::a) b) (o:Ze3 L ns f d (Zt L ex g) wr e):ZZ L d (Zt L ex (g+1)) ([(0,[105,102])]++(us++(((2,[123])::a)++([(0,Zem)]++wr)))) gT (Zs ns (f+1) n):=fun s u h e1 q F=>by
 have j:Zam L s.at_ ([(0,[105,102])]++(us++(((2,[123])::a)++(0,Zem)::(wr++[u])))):=by simpa only[List.append_assoc,List.cons_append,List.nil_append]using q
 have k:kt (Zg L s.at_)=(0,[105,102]):=j.left.head;obtain⟨t,y,z,A,B,C,l⟩:=ZiR p m (s:=Zc s 1) (u:=(0,Zem)) h e1 j.right;have w:kt (Zg L (Zc (Zc s 1) (us.length+(a.length+1))).at_)=(0,Zem):=l.head;obtain⟨t2,D,E⟩:=o (Zc (Zc (Zc s 1) (us.length+(a.length+1))) 1) u h e1 l.tail trivial;refine⟨.mk 16 [] [] (Ze L s) [t,y,t2],?_,Zcv hk v r (by rw[i];exact Za4.cons A (Za4.cons C (Za4.cons E (Za4.nil _))))⟩;rw[Zft h k (by decide) (by decide) (by decide) (by decide) (by decide) (by decide)];unfold Zbb;rw[Zca h k (by decide),Yo rfl,Zag,z];simp only;rw[B];simp only;erw[Zca (s:=Zc (Zc s 1) (us.length+(a.length+1))) h w (by decide),Yo rfl];rw[Zag,D,Zj,Zj,Zj];simp only[Yj,Yk,Yl,Prod.mk.injEq,true_and]
 congr 1
 omega
theorem ZnC {ns:List Nd} {f g:Nat} {n:Nd} {c e:Int} {a b:Txt} {d:Int} {ex:PS->Tr×PS} {i wr:TS} (hk:n.kind=10) (y:n.words=[a,b]) (w:n.nums=[]) (k:n.kids=[c,e]) (ha:ZN a=true) (r:ZN b=true) (p:Ze3 L ns f d (Zt L ex g) i c) (q:Ze3 L ns f d (Zt L ex g) wr e):ZZ L d (Zt L ex (g+1)) ([(0,[111,112,101,110]),(0,a),(0,b)]++(i++([(0,Zem)]++wr))) gT (Zs ns (f+1) n):=fun s u h e1 v G=>by
 have j:Zam L s.at_ ([(0,[111,112,101,110]),(0,a),(0,b)]++(i++(0,Zem)::(wr++[u]))):=by simpa only[List.append_assoc,List.cons_append,List.nil_append]using v
 have l:kt (Zg L s.at_)=(0,[111,112,101,110]):=j.left.head;have z:kt (Zg L (Zc s 1).at_)=(0,a):=j.left.tail.head;have A:kt (Zg L (Zc (Zc s 1) 1).at_)=(0,b):=j.left.tail.tail.head;have m:Zam L (Zc s 3).at_ (i++(0,Zem)::(wr++[u])):=j.right;obtain⟨t,C,D⟩:=ZZ.at' p (s:=Zc s 3) h e1 m trivial;have o:Zam L (Zc (Zc s 3) i.length).at_ ((0,Zem)::(wr++[u])):=m.right;have B:kt (Zg L (Zc (Zc s 3) i.length).at_)=(0,Zem):=o.head;obtain⟨t2,E,F⟩:=q (Zc (Zc (Zc s 3) i.length) 1) u h e1 o.tail trivial;refine⟨.mk 10 [a,b] [] (Ze L s) [t,t2],?_,Zcv hk y w (by rw[k];exact Za4.cons D (Za4.cons F (Za4.nil _)))⟩;rw[Zt];simp only;rw[ZH h l (by decide),Yn (by decide),ZdA h l (.inr (by decide)),Yn (by decide),Zca h l (by decide),Yo rfl,Zag,Zal (s:=Zc s 1) h z ha];simp only;rw[Zal (s:=Zc (Zc s 1) 1) h A r,Zj,Zj];simp only;erw[C];simp only;erw[Zfv (s:=Zc (Zc s 3) i.length) h B (by decide)];rw[E,Zj,Zj,Zj];simp only[Yj,Yk,Yl]
theorem Znd {ns:List Nd} {f:Nat} {n:Nd} {c:Int} {a:Txt} {d:Int} {st:PS->Tr×PS} {b:TS} (hk:n.kind=12) (m:n.words=[a]) (l:n.nums=[]) (i:n.kids=[c]) (ha:ZN a=true) (k:Ze3 L ns f d st b c):ZZ L d (ZcQ L st) ([(0,a)]++b) (fun _=>True) (Zs ns (f+1) n)/\ZbK L (fun _=>True) [125] ([(0,a)]++b):=by refine⟨fun s u j e1 g _=>?_,(0,a),b,rfl,trivial,fun s e h=>ZH e h fun e=>by rw[e]at ha;revert ha;decide⟩;rw[List.append_assoc]at g;have o:kt (Zg L s.at_)=(0,a):=g.left.head;obtain⟨t,p,q⟩:=k (Zc s 1) u j e1 g.right trivial;refine⟨.mk 12 [a] [] (Ze L s) [t],?_,Zgm hk m l i q⟩;unfold ZcQ;simp only;rw[Zal j o ha];simp only;rw[p,Zj];simp only[Yj,Yk,Yl]
theorem ZpZ {ns:List Nd} {f g:Nat} {n:Nd} {a b:Txt} {d:Int} {ex:PS->Tr×PS} (hk:n.kind=11) (l:n.words=[a,b]) (k:n.nums=[]) (i:n.kids=[]) (ha:ZN a=true) (j:ZN b=true):ZZ L d (Zt L ex (g+1)) [(0,[100,111]),(0,a),(2,[46]),(0,b),(2,[59])] gT (Zs ns (f+1) n):=fun s u c _ e _=>by
 have h:kt (Zg L s.at_)=(0,[100,111]):=e.left.head;have m:kt (Zg L (Zc s 1).at_)=(0,a):=e.left.tail.head;have o:kt (Zg L (Zc (Zc s 1) 1).at_)=(2,[46]):=e.left.tail.tail.head;have p:kt (Zg L (Zc (Zc (Zc s 1) 1) 1).at_)=(0,b):=e.left.tail.tail.tail.head;have q:kt (Zg L (Zc (Zc (Zc (Zc s 1) 1) 1) 1).at_)=(2,[59]):=e.left.tail.tail.tail.tail.head;refine⟨.mk 11 [a,b] [] (Ze L s) [],?_,Zdi hk l k i⟩;rw[Zt];simp only;rw[ZH c h (by decide),Yn (by decide),ZdA c h (.inr (by decide)),Yn (by decide),ZH c h (by decide),Yn (by decide),Zca c h (by decide),Yo rfl,Zag];unfold doM;rw[Zal (s:=Zc s 1) c m ha];simp only;rw[Zba (s:=Zc (Zc s 1) 1) c o,Zal (s:=Zc (Zc (Zc s 1) 1) 1) c p j];simp only;rw[ZcM (s:=Zc (Zc (Zc (Zc s 1) 1) 1) 1) c q,Yo rfl];rfl
theorem Zko {ns:List Nd} {f g:Nat} {n:Nd} {a b:Txt} {d:Int} {ex:PS->Tr×PS} {U:Int->TS} (hk:n.kind=11) (t:n.words=[a,b]) (r:n.nums=[]) (ha:ZN a=true) (p:ZN b=true) (l:∀c∈n.kids,ZZ L d (ZcQ L (Zt L ex g)) (U c) (fun _=>True) (Zs ns f (Za ns c))/\ZbK L (fun _=>True) [125] (U c)):ZZ L d (Zt L ex (g+1)) ([(0,[100,111]),(0,a),(2,[46]),(0,b)]++Zaw (n.kids.map U)) gT (Zs ns (f+1) n):=fun s u e e1 q _=>by
 have h:Zam L s.at_ ([(0,[100,111]),(0,a),(2,[46]),(0,b),(2,[123])]++((n.kids.map U).flatten++[(2,[125])])):=by have:=q.left;simpa only[Zaw,List.append_assoc,List.cons_append,List.nil_append]using this
 have i:kt (Zg L s.at_)=(0,[100,111]):=h.left.head;have v:kt (Zg L (Zc s 1).at_)=(0,a):=h.left.tail.head;have w:kt (Zg L (Zc (Zc s 1) 1).at_)=(2,[46]):=h.left.tail.tail.head;have y:kt (Zg L (Zc (Zc (Zc s 1) 1) 1).at_)=(0,b):=h.left.tail.tail.tail.head;have m:kt (Zg L (Zc (Zc (Zc (Zc s 1) 1) 1) 1).at_)=(2,[123]):=h.left.tail.tail.tail.tail.head;have k:Zam L (Zc s 5).at_ ((n.kids.map U).flatten++[(2,[125])]):=h.right;have o:n.kids.length<L.length+1:=by have C:=ZdG (U:=U) n.kids fun b j=>(l b j).2.some_;have h:=k.1;rw[Yj]at h;omega
 obtain⟨z,A,B⟩:=Zfk (U:=U) (P:=fun c=>Zs ns f (Za ns c)) (x:=[125]) trivial n.kids (L.length+1) [] (Zc s 5) e e1 k o l;refine⟨.mk 11 [a,b] [] (Ze L s) z,?_,Zcv hk t r B⟩;rw[Zt];simp only;rw[ZH e i (by decide),Yn (by decide),ZdA e i (.inr (by decide)),Yn (by decide),ZH e i (by decide),Yn (by decide),Zca e i (by decide),Yo rfl,Zag];unfold doM;rw[Zal (s:=Zc s 1) e v ha];simp only;rw[Zba (s:=Zc (Zc s 1) 1) e w,Zal (s:=Zc (Zc (Zc s 1) 1) 1) e y p];simp only;rw[ZH (s:=Zc (Zc (Zc (Zc s 1) 1) 1) 1) e m (by decide),Yn (by decide),Zba (s:=Zc (Zc (Zc (Zc s 1) 1) 1) 1) e m,Zj,Zj,Zj,Zj];erw[A];simp only[Zj,Zaw,Yj,Yk,Yl,List.nil_append,Prod.mk.injEq,true_and]
 congr 1
 omega
end
end
end Go.Proofs.YtfbepcelkijgkaaGreatDoor
