import Derived.Test.YtdkegpkfjgloeaaGreatDoorQAS
set_option maxRecDepth 100000
set_option maxHeartbeats 8000000
namespace Go.Proofs.YtdkegpkfjgloeaaGreatDoor
section
section
variable {L:List Tok}
def ZgA (ns:List Nd) (c:Int):Prop:=∃a r z,(Zb ns c).kind=6/\(Zb ns c).words=a::r/\(Zb ns c).nums=[z]/\(Zb ns c).kids=[]/\0<=z/\z<=2/\∀x∈a::r,ZQ x=true
theorem ZgA.which {ns:List Nd} {c:Int} (h:ZgA ns c):0<=ZaC ns c/\ZaC ns c<=2:=by obtain⟨a,r,z,-,-,e,-,b,d,-⟩:=h;unfold ZaC;rw[e];exact⟨b,d⟩
def Zc3 (j:Int):Txt:=if j=0 then [97,116]else if j=1 then [116,111]else [105,110]
theorem Zry (j:Int):ZiC j=[(0,Zc3 j)]:=by
 unfold ZiC Zc3
 split
 ·rfl
 ·split<;>rfl
theorem ZoJ {j:Int} (a:0<=j) (b:j<=2):isKey (Zc3 j)=true:=by
 have:j=0\/j=1\/j=2:=by omega
 rcases this with rfl|rfl|rfl<;>decide
theorem Zqo {i j:Int} (a:0<=i) (b:i<j) (c:j<=2):Zc3 j≠Zc3 i:=by
 have:(i=0/\j=1)\/(i=0/\j=2)\/(i=1/\j=2):=by omega
 rcases this with⟨rfl,rfl⟩|⟨rfl,rfl⟩|⟨rfl,rfl⟩<;>decide
theorem ZoI {j:Int}:Zc3 j≠[124]:=by
 unfold Zc3
 split
 ·decide
 ·split<;>decide
def Zed (u:Nat×Txt):Prop:=u.2=[44]\/u.2=[41]
theorem Zed.not {u:Nat×Txt} (h:Zed u) {x:Txt} (a:x≠[44]) (b:x≠[41]):u.2≠x:=by
 rcases h with h|h
 ·rw[h];exact fun e=>a e.symm
 ·rw[h];exact fun e=>b e.symm
theorem Zed.head {u:Nat×Txt} (h:Zed u) (j:Int):u.2≠Zc3 j:=by
 apply h.not
 ·unfold Zc3
  split
  ·decide
  ·split<;>decide
 ·unfold Zc3
  split
  ·decide
  ·split<;>decide
def Zg9 (u:Nat×Txt):Prop:=u.2≠[124]/\∀j,u.2≠Zc3 j
theorem Zed.noHead {u:Nat×Txt} (h:Zed u):Zg9 u:=⟨h.not (by decide) (by decide),h.head⟩
theorem Zg9.open_:Zg9 (2,[123]):=⟨by decide,fun j=>by
 unfold Zc3
 split
 ·decide
 ·split<;>decide⟩
theorem ZiU {ns:List Nd}:∀(l:List Int) (a:Int),ZaN ns (a::l)=true->(∀c∈l,ZaC ns a<ZaC ns c)/\ZaN ns l=true
 |[],_,_=>⟨fun c h=>by simp at h,rfl⟩
 |b::r,a,h=>by
  rw[ZaN,Bool.and_eq_true,decide_eq_true_eq]at h;have d:=ZiU r b h.2;refine⟨fun c hc=>?_,h.2⟩;rcases List.mem_cons.1 hc with rfl|hc
  ·exact h.1
  ·exact Int.lt_trans h.1 (d.1 c hc)
theorem Zhu {ns:List Nd} {c:Int} (h:ZgA ns c):∃a r,(Zb ns c).words=a::r/\(∀x∈a::r,ZQ x=true)/\Zbw (Zb ns c)=[(0,Zc3 (ZaC ns c))]++Zao [(2,[124])] ((a::r).map fun w=>[(0,w)]):=by
 obtain⟨a,r,z,-,b,d,-,-,-,hn⟩:=h;refine⟨a,r,b,hn,?_⟩;have e:num (Zb ns c) 0=ZaC ns c:=by unfold num ZaC;rw[d];rfl
 unfold Zbw;rw[e,Zry,b]
theorem Zgg {ns:List Nd} {f:Nat} {j:Int} (G:0<=j) (T:j<=2) (l:List Int) {s:PS} {u:Nat×Txt} (t:∀c∈l,ZgA ns c) (H:ZaN ns l=true) (W:∀c∈l,j<=ZaC ns c) (A:s.err=0) (b:Zar L s.at_ ((l.map fun k=>Zbw (Zb ns k)).flatten++[u])) (I:Zg9 u) :
  ∃ts y o,l=y++o/\ZL L (Zc3 j) j s=(ts,Zd s ((y.map fun k=>Zbw (Zb ns k)).flatten).length)/\Za6 (fun c=>Zv ns (f+1) (Zb ns c)) y ts/\ZaN ns o=true/\(∀c∈o,ZgA ns c)/\(∀c∈o,j+1<=ZaC ns c)/\Zar L (Zd s ((y.map fun k=>Zbw (Zb ns k)).flatten).length).at_ ((o.map fun k=>Zbw (Zb ns k)).flatten++[u]):=by
 cases l with
 |nil=>
  have E:kt (Zl L s.at_)=(u.1,u.2):=b.head;refine⟨[],[],[],rfl,?_,Za6.nil _,rfl,fun c h=>by simp at h,fun c h=>by simp at h,b⟩;unfold ZL;rw[ZJ A E (I.2 j),Yn (by decide)];rfl
 |cons c r=>
  have hc:=t c List.mem_cons_self;obtain⟨n,D⟩:=ZiU r c H;obtain⟨a,q,J,hn,B⟩:=Zhu hc;have V:=W c List.mem_cons_self;by_cases g:ZaC ns c=j
  ·rw[List.map_cons,List.flatten_cons,List.append_assoc]at b;have e:∃v K,(r.map fun k=>Zbw (Zb ns k)).flatten++[u]=v::K/\v.2≠[124]:=by
    cases r with
    |nil=>exact⟨u,[],rfl,I.1⟩
    |cons d Z=>
     obtain⟨M,Y,-,-,N⟩:=Zhu (t d (by simp));exact⟨(0,Zc3 (ZaC ns d)),Zao [(2,[124])] ((M::Y).map fun w=>[(0,w)])++(Z.map fun k=>Zbw (Zb ns k)).flatten++[u],by rw[List.map_cons,List.flatten_cons,N];simp only[List.append_assoc,List.cons_append,List.nil_append],ZoI⟩
   obtain⟨v,K,O,hv⟩:=e;have i:=b;rw[O,<-List.singleton_append,<-List.append_assoc]at i;have m:=i.left;rw[B,g]at m;obtain⟨p,X⟩:=ZlE (which:=j) A (ZoJ G T) m hv hn;refine⟨[.mk 6 (a::q) [j] p []],[c],r,rfl,?_,Za6.cons ?_ (Za6.nil _),D,fun d hd=>t d (List.mem_cons_of_mem _ hd),fun d hd=>?_,?_⟩
   ·rw[X];simp only[List.map_cons,List.map_nil,List.flatten_cons,List.flatten_nil,List.append_nil,B,Yj,Yk,Yl,Nat.zero_add]
   ·obtain⟨a2,q2,z,Q,R,F,S,-,-,-⟩:=hc;have P:z=j:=by rw[<-g];unfold ZaC;rw[F]
    rw[J]at R;exact Zdf Q J (by rw[F,P]) S
   ·have:=n d hd;omega
   ·have U:=b.right;simpa only[List.map_cons,List.map_nil,List.flatten_cons,List.flatten_nil,List.append_nil,Zgu]using U
  ·refine⟨[],[],c::r,rfl,?_,Za6.nil _,H,t,fun d hd=>?_,b⟩
   ·have C:j<ZaC ns c:=by omega
    rw[List.map_cons,List.flatten_cons,B]at b;have E:kt (Zl L s.at_)=(0,Zc3 (ZaC ns c)):=b.head;unfold ZL;rw[ZJ A E (Zqo G C hc.which.2),Yn (by decide)];rfl
   ·rcases List.mem_cons.1 hd with rfl|hd
    ·omega
    ·have:=n d hd;omega
end
end
section
section
variable {L:List Tok}
theorem Za6.two {c:Type} {P:c->Tr->Prop}:∀{a b:List c} {ts us:List Tr},Za6 P a ts->Za6 P b us->Za6 P (a++b) (ts++us)
 |[],b,[],us,_,h=>h
 |[],_,_::_,_,h,_=>nomatch h.1
 |_::_,_,[],_,h,_=>nomatch h.1
 |x::a,b,t::ts,us,h,g=>Za6.cons (h.2 0 t x rfl rfl) (Za6.two (a:=a) (ts:=ts) ⟨by have:=h.1;simpa using this,fun i j d f e=>h.2 (i+1) j d f e⟩ g)
theorem Zo1 {ns:List Nd} (R:RightP ns) {i:Nat} {c:Int} (hn:ns[i]? = some (Zb ns c)) (hk:(Zb ns c).kind=6):ZgA ns c:=by
 obtain⟨j,h,b⟩:=R.node i _ hn;have e:Zo ns (Zb ns c)=(decide (1<=(Zb ns c).words.length)&&Zr (Zb ns c) (Zb ns c).words.length 1&&decide (num (Zb ns c) 0<=2)&&Zj ns (Zb ns c).kids []):=by simp[Zo,hk]
 rw[e,Bool.and_eq_true,Bool.and_eq_true,Bool.and_eq_true,decide_eq_true_eq,decide_eq_true_eq]at b;obtain⟨z,d⟩:=ZeC (ZaR b.1.1.2).2;have g:z<=2:=by have:=b.1.2;rw[ZcF (k:=0) (z:=z) (by rw[d];rfl)]at this;exact this
 have f:0<=z:=(ZaY h (x:=z) (by rw[d];simp)).1;cases hws:(Zb ns c).words with
 |nil=>have:=b.1.1.1;rw[hws]at this;simp at this
 |cons a r=>exact⟨a,r,z,hk,hws,d,Zha b.2,f,g,fun x hx=>List.all_eq_true.mp j x (by rw[hws];exact hx)⟩
def Zeg:Txt:=[108,101,97,115,116]
theorem ZlA (j:Int):Zc3 j≠Zeg:=by
 unfold Zc3
 split
 ·decide
 ·split<;>decide
theorem ZlB {q r:Int} (hq:Zbf q) (i:Zbf r) (h:q=0/\r=0\/1<=q/\1<=r) {s:PS} {v:Nat×Txt} {vs:TS} (b:s.err=0) (a:Zar L s.at_ ((if 0<r then [((0:Nat),Zeg)]++ZfB q r else [])++v::vs)) (hv:v.2≠Zeg) :
  (if isM L Zeg s then(let n:=ZaF L 1 (Ze s);let d:=ZaF L 1 (Zg L [47] n.2);([n.1,d.1],d.2))else([0,0],s))=(([q,r],Zd s (if 0<r then [((0:Nat),Zeg)]++ZfB q r else []).length):List Int×PS):=by
 rcases h with⟨rfl,rfl⟩|⟨f,g⟩
 ·rw[Yn (show ¬(0:Int)<0 by decide)]at a;rw[Yn (show ¬(0:Int)<0 by decide)];have e:kt (Zl L s.at_)=(v.1,v.2):=a.head;rw[ZJ b e hv,Yn (by decide)];rfl
 ·have c:(0:Int)<r:=by omega
  rw[Yo c]at a;rw[Yo c];have e:kt (Zl L s.at_)=(0,Zeg):=a.head;have j:kt (Zl L (Zd s 1).at_)=(1,ZbP q):=a.tail.head;have k:kt (Zl L (Zd (Zd s 1) 1).at_)=(2,[47]):=a.tail.tail.head;have l:kt (Zl L (Zd (Zd (Zd s 1) 1) 1).at_)=(1,ZbP r):=a.tail.tail.tail.head;rw[Zb5 b e (by decide),Yo rfl,Zak];simp only;rw[Zfi (s:=Zd s 1) (v:=q) b j (Zez hq) f];simp only;rw[Zbe (s:=Zd (Zd s 1) 1) b k,Zfi (s:=Zd (Zd (Zd s 1) 1) 1) (v:=r) b l (Zez i) g,Zn,Zn,Zn];rfl
theorem ZlH {ns:List Nd} (R:RightP ns) {f i:Nat} {n:Nd} (hn:ns[i]? = some n) (hk:n.kind=5):Zad L 0 (ZaW L) (Zdx ns n) Zed (Zv ns (f+2) n):=fun s u g _ h B=>by
 obtain⟨M,K,W⟩:=R.node i n hn;have el:Zo ns n=(Zr n 1 0&&Zj ns n.kids []||Zr n 2 3&&ZcU ns n):=by simp[Zo,hk]
 rw[el,Bool.or_eq_true,Bool.and_eq_true,Bool.and_eq_true]at W;rcases W with⟨D,A⟩|⟨D,A⟩
 ·obtain⟨a,ha⟩:=ZeC (ZaR D).1;have I:n.nums=[]:=List.length_eq_zero_iff.1 (ZaR D).2;have t:=Zha A;have E:Zdx ns n=[(0,a)]:=by simp[Zdx,ha,word]
  rw[E]at h⊢;have N:kt (Zl L s.at_)=(0,a):=h.head;have O:kt (Zl L (Zd s 1).at_)=(u.1,u.2):=h.tail.head;have hx:ZQ a=true:=List.all_eq_true.mp M a (by rw[ha];simp);refine⟨.mk 5 [a] [] (Zf L s) [],?_,Zdf hk ha I t⟩;unfold ZaW;simp only;rw[Zaq g N hx];simp only;rw[ZJ (s:=Zd s 1) g O (B.not (by decide) (by decide)),Yn (by decide)];rfl
 ·unfold ZcU at A;rw[Bool.and_eq_true,Bool.and_eq_true,Bool.and_eq_true,decide_eq_true_eq]at A;obtain⟨⟨⟨C,z⟩,H⟩,J⟩:=A;obtain⟨lw,ln⟩:=ZaR D;obtain⟨a,b,l⟩:∃a b,n.words=[a,b]:=by
   match hws:n.words,lw with
   |[a,b],_=>exact⟨a,b,rfl⟩
  obtain⟨p,q,r,e⟩:∃p q r,n.nums=[p,q,r]:=by
   match hws:n.nums,ln with
   |[a,b,c],_=>exact⟨a,b,c,rfl⟩
  have Y:num n 0=p:=ZcF (by rw[e];rfl);have Z:num n 1=q:=ZcF (by rw[e];rfl);have n2:num n 2=r:=ZcF (by rw[e];rfl);have hp:=ZaY K (x:=p) (by rw[e];simp);have hq:=ZaY K (x:=q) (by rw[e];simp);have hr:=ZaY K (x:=r) (by rw[e];simp);have G:q=0/\r=0\/1<=q/\1<=r:=by unfold Zen at z;rw[Z,n2]at z;simpa using z
  rw[Y]at C
  have F:∀c∈n.kids,ZgA ns c:=fun c hc=>by
   obtain⟨j,hj⟩:=ZaI R hn hc;have:=List.all_eq_true.mp H c hc;exact Zo1 R hj (by simpa[isB,Zs]using this)
  have E:Zdx ns n=[(0,a),(2,[58]),(0,b),(0,ZaH p)]++((if 0<r then [((0:Nat),Zeg)]++ZfB q r else [])++(n.kids.map fun k=>Zbw (Zb ns k)).flatten):=by simp[Zdx,l,word,Y,Z,n2,Zeg]
  rw[E]at h⊢;rw[List.append_assoc,List.append_assoc]at h;have N:kt (Zl L s.at_)=(0,a):=h.head;have O:kt (Zl L (Zd s 1).at_)=(2,[58]):=h.tail.head;have k2:kt (Zl L (Zd (Zd s 1) 1).at_)=(0,b):=h.tail.tail.head;have k3:kt (Zl L (Zd (Zd (Zd s 1) 1) 1).at_)=(0,ZaH p):=h.tail.tail.tail.head;have T:Zar L (Zd s 4).at_ _:=h.right;have y:∃v vs,(n.kids.map fun k=>Zbw (Zb ns k)).flatten++[u]=v::vs/\v.2≠Zeg:=by
   cases t:n.kids with
   |nil=>exact⟨u,[],rfl,B.not (by decide) (by decide)⟩
   |cons d r'=>
    obtain⟨a',q',-,-,ed⟩:=Zhu (F d (by rw[t];simp));exact⟨(0,Zc3 (ZaC ns d)),Zao [(2,[124])] ((a'::q').map fun w=>[(0,w)])++(r'.map fun k=>Zbw (Zb ns k)).flatten++[u],by rw[List.map_cons,List.flatten_cons,ed];simp only[List.append_assoc,List.cons_append,List.nil_append],ZlA _⟩
  obtain⟨v,vs,ev,hv⟩:=y;have U:=T;rw[ev]at U;have Q:=ZlB hq hr G (s:=Zd s 4) g U hv;have V:=T.right;obtain⟨m,hm⟩:∃m,m=(if 0<r then [((0:Nat),Zeg)]++ZfB q r else []).length:=⟨_,rfl⟩
  rw[<-hm]at Q V;have h7:Zar L (Zd (Zd s 4) m).at_ ((n.kids.map fun k=>Zbw (Zb ns k)).flatten++[u]):=V;obtain⟨ts,X,l2,e1,x1,A1,r2,N2,j2,H2⟩:=Zgg (f:=f) (j:=0) (by decide) (by decide) n.kids F J (fun c hc=>(F c hc).which.1) (s:=Zd (Zd s 4) m) g h7 B.noHead;obtain⟨us,m1,m2,e2,x2,A2,r3,N3,j3,H3⟩:=Zgg (f:=f) (j:=1) (by decide) (by decide) l2 N2 r2 (fun c hc=>by have:=j2 c hc;omega) (s:=Zd (Zd (Zd s 4) m) ((X.map fun k=>Zbw (Zb ns k)).flatten).length) g H2 B.noHead;obtain⟨P,o1,o2,S,x3,A3,r4,N4,j4,H4⟩:=Zgg (f:=f) (j:=2) (by decide) (by decide) m2 N3 r3 (fun c hc=>by have:=j3 c hc;omega) (s:=Zd (Zd (Zd (Zd s 4) m) ((X.map fun k=>Zbw (Zb ns k)).flatten).length) ((m1.map fun k=>Zbw (Zb ns k)).flatten).length) g H3 B.noHead;have e4:o2=[]:=by
   cases o2 with
   |nil=>rfl
   |cons c o=>have g1:=j4 c (by simp);have g2:=(N4 c (by simp)).which.2;omega
  subst e4;rw[List.append_nil]at S;subst S;subst e2;have ha:ZQ a=true:=List.all_eq_true.mp M a (by rw[l];simp);have hb:ZQ b=true:=List.all_eq_true.mp M b (by rw[l];simp);refine⟨.mk 5 [a,b] (p::[q,r]) (Zf L s) (ts++us++P),?_,Zcu hk l e ?_⟩
  ·unfold ZaW;simp only;rw[Zaq g N ha];simp only;rw[ZcL (s:=Zd s 1) g O,Yo rfl,Zak,Zaq (s:=Zd (Zd s 1) 1) g k2 hb];simp only;rw[ZiJ (s:=Zd (Zd (Zd s 1) 1) 1) (.inl rfl) hp.1 C g k3,Zn,Zn,Zn];simp only;erw[Q];simp only;erw[x1];simp only;erw[x2];simp only;erw[x3];simp only[Zn]
   congr 2
   rw[e1];simp only[Yj,List.map_append,List.flatten_append,Yk,Yl,<-hm];omega
  ·rw[e1];rw[List.append_assoc];exact A1.two (A2.two A3)
end
end
section
section
variable {L:List Tok}
def gT (u:Nat×Txt):Prop:=u.2≠[101,108,115,101]
theorem Zmr:gX (2,[59]):=by refine⟨⟨⟨trivial,?_,?_⟩,?_,?_⟩,?_,?_⟩<;>decide
theorem Zmq:gX (2,[123]):=by refine⟨⟨⟨trivial,?_,?_⟩,?_,?_⟩,?_,?_⟩<;>decide
theorem Zqn:gX (2,[44]):=by refine⟨⟨⟨trivial,?_,?_⟩,?_,?_⟩,?_,?_⟩<;>decide
theorem Zqm:gX (2,[41]):=by refine⟨⟨⟨trivial,?_,?_⟩,?_,?_⟩,?_,?_⟩<;>decide
theorem Zhb {ex:PS->Tr×PS} {d:Int} {us vs:TS} {T:Tr->Prop} {a:Txt} (hx:ZQ a=true) (h:Zad L d ex us gX T) {s:PS} (b:s.err=0) (e1:s.deep+d<=200) (c:Zar L s.at_ ([(0,a),(2,[61])]++(us++(2,[59])::vs))) :
  Zc L s=(a,Zd s 1)/\∃t,ex (Zg L [61] (Zd s 1))=(t,Zd s (2+us.length))/\T t/\Zg L [59] (Zd s (2+us.length))=Zd s (3+us.length):=by
 have i:kt (Zl L s.at_)=(0,a):=c.left.head;have j:kt (Zl L (Zd s 1).at_)=(2,[61]):=c.left.tail.head;have e:Zar L (Zd s 2).at_ (us++(2,[59])::vs):=c.right;obtain⟨t,f,g⟩:=h.at' (s:=Zd s 2) b e1 e Zmr;have k:kt (Zl L (Zd (Zd s 2) us.length).at_)=(2,[59]):=e.right.head;refine⟨Zaq b i hx,t,?_,g,?_⟩
 ·rw[Zbe (s:=Zd s 1) b j,Zn,f,Zn]
 ·rw[<-Zn,Zbe (s:=Zd (Zd s 2) us.length) b k,Zn,Zn]
  congr 1
  omega
theorem Zgf {ns:List Nd} {f:Nat} {n:Nd} {k:Int} {w:List Txt} {u:List Int} {p:Int} {c:Int} {t:Tr} (hk:n.kind=k) (d:n.words=w) (b:n.nums=u) (a:n.kids=[c]) (h:Zv ns f (Zb ns c) t):Zv ns (f+1) n (.mk k w u p [t]):=
 Zcu hk d b (by rw[a];exact Za6.cons h (Za6.nil _))
theorem ZoV {ns:List Nd} {f g:Nat} {n:Nd} {c:Int} {a:Txt} {d:Int} {ex:PS->Tr×PS} {us:TS} (hk:n.kind=8) (r:n.words=[a]) (q:n.nums=[]) (e:n.kids=[c]) (hx:ZQ a=true) (p:Zad L d ex us gX (Zv ns f (Zb ns c))):Zad L d (Zu L ex (g+1)) ([(0,[108,101,116])]++([(0,a)]++[(2,[61])]++us++[(2,[59])])) gT (Zv ns (f+1) n):=fun s u h e1 b _=>by
 rw[List.append_assoc]at b;have v:kt (Zl L s.at_)=(0,[108,101,116]):=b.left.head;have i:Zar L (Zd s 1).at_ ([(0,a),(2,[61])]++(us++(2,[59])::[u])):=by have o:Zar L (Zd s 1).at_ _:=b.right;simpa only[List.append_assoc,List.cons_append,List.nil_append]using o
 obtain⟨j,t,k,l,m⟩:=Zhb hx p (s:=Zd s 1) h e1 i;refine⟨.mk 8 [a] [] (Zf L s) [t],?_,Zgf hk r q e l⟩;unfold Zu;simp only;rw[Zb5 h v (by decide),Yo rfl,Zak,j];simp only;rw[k];simp only;rw[m,Zn];simp only[Yj,Yk,Yl,Prod.mk.injEq,true_and]
 congr 1
 omega
theorem ZpG {ns:List Nd} {f g:Nat} {n:Nd} {c:Int} {a:Txt} {d:Int} {ex:PS->Tr×PS} {us:TS} (hk:n.kind=9) (v:n.words=[a]) (r:n.nums=[]) (h:n.kids=[c]) (hx:ZQ a=true) (p:Zad L d ex us gX (Zv ns f (Zb ns c))):Zad L d (Zu L ex (g+1)) ([(0,a)]++[(2,[61])]++us++[(2,[59])]) gT (Zv ns (f+1) n):=fun s u b e1 q _=>by
 have i:Zar L s.at_ ([(0,a),(2,[61])]++(us++(2,[59])::[u])):=by simpa only[List.append_assoc,List.cons_append,List.nil_append]using q
 have j:kt (Zl L s.at_)=(0,a):=i.left.head;obtain⟨k,t,l,m,o⟩:=Zhb hx p b e1 i;have hn:a≠[108,101,116]:=fun e=>by rw[e]at hx;revert hx;decide
 refine⟨.mk 9 [a] [] (Zf L s) [t],?_,Zgf hk v r h m⟩;unfold Zu;simp only;rw[ZJ b j hn,Yn (by decide),Zht b j hx,Yo rfl,k];simp only;rw[l];simp only;rw[o];simp only[Yj,Yk,Yl,Prod.mk.injEq,true_and]
 congr 1
 omega
theorem Zfn {ex:PS->Tr×PS} {g:Nat} {s:PS} {w:Txt} (a:s.err=0) (b:kt (Zl L s.at_)=(0,w)) (hn:ZQ w=false) (c:w≠[108,101,116]) (d:w≠[111,112,101,110]) (e:w≠[100,111]) (f:w≠[115,112,108,105,116]) (h:w≠[99,97,108,108]):Zu L ex (g+1) s=Zbx L ex (Zu L ex g) (Zf L s) s:=by rw[Zu];simp only;rw[ZJ a b c,Yn (by decide),Zdz a b (.inr hn),Yn (by decide),ZJ a b d,Yn (by decide),ZJ a b e,Yn (by decide),ZJ a b f,Yn (by decide),ZJ a b h,Yn (by decide)]
theorem ZkS {ns:List Nd} {f g:Nat} {n:Nd} {c:Int} {d:Int} {ex:PS->Tr×PS} {us:TS} (hk:n.kind=18) (p:n.words=[]) (o:n.nums=[]) (e:n.kids=[c]) (l:Zad L d ex us gX (Zv ns f (Zb ns c))):Zad L d (Zu L ex (g+1)) ([(0,[114,101,116,117,114,110])]++us++[(2,[59])]) gT (Zv ns (f+1) n):=fun s u a e1 m _=>by
 have h:Zar L s.at_ ([(0,[114,101,116,117,114,110])]++(us++(2,[59])::[u])):=by simpa only[List.append_assoc,List.cons_append,List.nil_append]using m
 have b:kt (Zl L s.at_)=(0,[114,101,116,117,114,110]):=h.left.head;have i:Zar L (Zd s 1).at_ (us++(2,[59])::[u]):=h.right;obtain⟨t,j,k⟩:=l.at' (s:=Zd s 1) a e1 i Zmr;have q:kt (Zl L (Zd (Zd s 1) us.length).at_)=(2,[59]):=i.right.head;refine⟨.mk 18 [] [] (Zf L s) [t],?_,Zgf hk p o e k⟩;rw[Zfn a b (by decide) (by decide) (by decide) (by decide) (by decide) (by decide)];unfold Zbx;rw[ZJ a b (by decide),Yn (by decide),ZJ a b (by decide),Yn (by decide),Zb5 a b (by decide),Yo rfl,Zak,j];simp only;rw[Zbe (s:=Zd (Zd s 1) us.length) a q,Zn,Zn];simp only[Yj,Yk,Yl,Prod.mk.injEq,true_and]
 congr 1
theorem Zm8 {ns:List Nd} {f g:Nat} {n:Nd} {d:Int} {ex:PS->Tr×PS} (hk:n.kind=19) (i:n.words=[]) (h:n.nums=[]) (c:n.kids=[]):Zad L d (Zu L ex (g+1)) ([(0,[101,120,105,116])]++[(2,[59])]) gT (Zv ns (f+1) n):=fun s u a _ e _=>by
 have b:kt (Zl L s.at_)=(0,[101,120,105,116]):=e.head;have j:kt (Zl L (Zd s 1).at_)=(2,[59]):=e.tail.head;refine⟨.mk 19 [] [] (Zf L s) [],?_,Zdf hk i h c⟩;rw[Zfn a b (by decide) (by decide) (by decide) (by decide) (by decide) (by decide)];unfold Zbx;rw[ZJ a b (by decide),Yn (by decide),ZJ a b (by decide),Yn (by decide),ZJ a b (by decide),Yn (by decide),Zfp a b (by decide),Zbe (s:=Zd s 1) a j,Zn];rfl
def ZeU (L:List Tok) (ns:List Nd) (f:Nat) (d:Int) (st:PS->Tr×PS) (us:TS) (c:Int):Prop:=Zad L d (Zaz L st) us (fun _=>True) (Zv ns f (Zb ns c))
theorem Zme {ns:List Nd} {f g:Nat} {n:Nd} {c b:Int} {d:Int} {ex:PS->Tr×PS} {us vs:TS} {v0:Nat×Txt} {C:TS} (hk:n.kind=17) (B:n.words=[]) (A:n.nums=[]) (h:n.kids=[c,b]) (y:Zad L d ex us gX (Zv ns f (Zb ns c))) (hv:vs=v0::C) (i:v0=(2,[123])) (w:ZeU L ns f d (Zu L ex g) vs b):Zad L d (Zu L ex (g+1)) ([(0,[119,104,105,108,101])]++us++vs) gT (Zv ns (f+1) n):=fun s u a e1 z _=>by
 have k:Zar L s.at_ ([(0,[119,104,105,108,101])]++(us++(vs++[u]))):=by simpa only[List.append_assoc]using z
 have j:kt (Zl L s.at_)=(0,[119,104,105,108,101]):=k.left.head;have l:Zar L (Zd s 1).at_ (us++(vs++[u])):=k.right;have e:=l;rw[hv,List.cons_append]at e;obtain⟨t,o,p⟩:=y.at' (s:=Zd s 1) a e1 e (by rw[i];exact Zmq);have q:Zar L (Zd (Zd s 1) us.length).at_ (vs++[u]):=l.right;obtain⟨m,r,v⟩:=w (Zd (Zd s 1) us.length) u a e1 q trivial;refine⟨.mk 17 [] [] (Zf L s) [t,m],?_,Zcu hk B A (by rw[h];exact Za6.cons p (Za6.cons v (Za6.nil _)))⟩;rw[Zfn a j (by decide) (by decide) (by decide) (by decide) (by decide) (by decide)];unfold Zbx;rw[ZJ a j (by decide),Yn (by decide),Zb5 a j (by decide),Yo rfl,Zak,o];simp only;rw[r,Zn,Zn];simp only[Yj,Yk,Yl,Prod.mk.injEq,true_and]
 congr 1
 omega
end
end
section
section
variable {L:List Tok}
def Zem:Txt:=[101,108,115,101]
theorem ZiD {ns:List Nd} {f:Nat} {c b:Int} {d:Int} {ex st:PS->Tr×PS} {us a rest:TS} (q:Zad L d ex us gX (Zv ns f (Zb ns c))) (p:ZeU L ns f d st ((2,[123])::a) b) {s:PS} {u:Nat×Txt} (g:s.err=0) (e1:s.deep+d<=200) (e:Zar L s.at_ (us++(((2,[123])::a)++u::rest))) :
  ∃t k,ex s=(t,Zd s us.length)/\Zv ns f (Zb ns c) t/\Zaz L st (Zd s us.length)=(k,Zd s (us.length+(a.length+1)))/\Zv ns f (Zb ns b) k/\Zar L (Zd s (us.length+(a.length+1))).at_ (u::rest):=by
 obtain⟨t,m,n⟩:=q.at' g e1 (by rw[List.cons_append]at e;exact e) Zmq;have h:Zar L (Zd s us.length).at_ (((2,[123])::a)++u::rest):=e.right;obtain⟨l,i,o⟩:=Zad.at' p (s:=Zd s us.length) g e1 h trivial;have j:Zar L (Zd (Zd s us.length) ((2,[123])::a).length).at_ (u::rest):=h.right;rw[Zn]at i j;exact⟨t,l,m,n,i,o,j⟩
theorem Zqq {ns:List Nd} {f g:Nat} {n:Nd} {c b:Int} {d:Int} {ex:PS->Tr×PS} {us a:TS} (hk:n.kind=16) (q:n.words=[]) (p:n.nums=[]) (h:n.kids=[c,b]) (l:Zad L d ex us gX (Zv ns f (Zb ns c))) (k:ZeU L ns f d (Zu L ex g) ((2,[123])::a) b):Zad L d (Zu L ex (g+1)) ([(0,[105,102])]++(us++((2,[123])::a))) gT (Zv ns (f+1) n):=fun s u e e1 o m=>by
 have i:Zar L s.at_ ([(0,[105,102])]++(us++(((2,[123])::a)++u::[]))):=by simpa only[List.append_assoc]using o
 have j:kt (Zl L s.at_)=(0,[105,102]):=i.left.head;obtain⟨t,v,w,y,z,A,B⟩:=ZiD l k (s:=Zd s 1) (u:=u) e e1 i.right;have r:kt (Zl L (Zd (Zd s 1) (us.length+(a.length+1))).at_)=(u.1,u.2):=B.head;refine⟨.mk 16 [] [] (Zf L s) [t,v],?_,Zcu hk q p (by rw[h];exact Za6.cons y (Za6.cons A (Za6.nil _)))⟩;rw[Zfn e j (by decide) (by decide) (by decide) (by decide) (by decide) (by decide)];unfold Zbx;rw[Zb5 e j (by decide),Yo rfl,Zak,w];simp only;rw[z];simp only;rw[ZJ (s:=Zd (Zd s 1) (us.length+(a.length+1))) e r m,Yn (by decide),Zn];simp only[Yj,Yk,Yl]
theorem Zky {ns:List Nd} {f g:Nat} {n:Nd} {c b e:Int} {d:Int} {ex:PS->Tr×PS} {us a wr:TS} (hk:n.kind=16) (v:n.words=[]) (r:n.nums=[]) (i:n.kids=[c,b,e]) (p:Zad L d ex us gX (Zv ns f (Zb ns c))) (m:ZeU L ns f d (Zu L ex g) ((2,[123])::a) b) (o:ZeU L ns f d (Zu L ex g) wr e):Zad L d (Zu L ex (g+1)) ([(0,[105,102])]++(us++(((2,[123])::a)++([(0,Zem)]++wr)))) gT (Zv ns (f+1) n):=fun s u h e1 q F=>by
 have j:Zar L s.at_ ([(0,[105,102])]++(us++(((2,[123])::a)++(0,Zem)::(wr++[u])))):=by simpa only[List.append_assoc,List.cons_append,List.nil_append]using q
 have k:kt (Zl L s.at_)=(0,[105,102]):=j.left.head;obtain⟨t,y,z,A,B,C,l⟩:=ZiD p m (s:=Zd s 1) (u:=(0,Zem)) h e1 j.right;have w:kt (Zl L (Zd (Zd s 1) (us.length+(a.length+1))).at_)=(0,Zem):=l.head;obtain⟨t2,D,E⟩:=o (Zd (Zd (Zd s 1) (us.length+(a.length+1))) 1) u h e1 l.tail trivial;refine⟨.mk 16 [] [] (Zf L s) [t,y,t2],?_,Zcu hk v r (by rw[i];exact Za6.cons A (Za6.cons C (Za6.cons E (Za6.nil _))))⟩;rw[Zfn h k (by decide) (by decide) (by decide) (by decide) (by decide) (by decide)];unfold Zbx;rw[Zb5 h k (by decide),Yo rfl,Zak,z];simp only;rw[B];simp only;erw[Zb5 (s:=Zd (Zd s 1) (us.length+(a.length+1))) h w (by decide),Yo rfl];rw[Zak,D,Zn,Zn,Zn];simp only[Yj,Yk,Yl,Prod.mk.injEq,true_and]
 congr 1
 omega
theorem Znt {ns:List Nd} {f g:Nat} {n:Nd} {c e:Int} {a b:Txt} {d:Int} {ex:PS->Tr×PS} {i wr:TS} (hk:n.kind=10) (y:n.words=[a,b]) (w:n.nums=[]) (k:n.kids=[c,e]) (ha:ZQ a=true) (r:ZQ b=true) (p:ZeU L ns f d (Zu L ex g) i c) (q:ZeU L ns f d (Zu L ex g) wr e):Zad L d (Zu L ex (g+1)) ([(0,[111,112,101,110]),(0,a),(0,b)]++(i++([(0,Zem)]++wr))) gT (Zv ns (f+1) n):=fun s u h e1 v G=>by
 have j:Zar L s.at_ ([(0,[111,112,101,110]),(0,a),(0,b)]++(i++(0,Zem)::(wr++[u]))):=by simpa only[List.append_assoc,List.cons_append,List.nil_append]using v
 have l:kt (Zl L s.at_)=(0,[111,112,101,110]):=j.left.head;have z:kt (Zl L (Zd s 1).at_)=(0,a):=j.left.tail.head;have A:kt (Zl L (Zd (Zd s 1) 1).at_)=(0,b):=j.left.tail.tail.head;have m:Zar L (Zd s 3).at_ (i++(0,Zem)::(wr++[u])):=j.right;obtain⟨t,C,D⟩:=Zad.at' p (s:=Zd s 3) h e1 m trivial;have o:Zar L (Zd (Zd s 3) i.length).at_ ((0,Zem)::(wr++[u])):=m.right;have B:kt (Zl L (Zd (Zd s 3) i.length).at_)=(0,Zem):=o.head;obtain⟨t2,E,F⟩:=q (Zd (Zd (Zd s 3) i.length) 1) u h e1 o.tail trivial;refine⟨.mk 10 [a,b] [] (Zf L s) [t,t2],?_,Zcu hk y w (by rw[k];exact Za6.cons D (Za6.cons F (Za6.nil _)))⟩;rw[Zu];simp only;rw[ZJ h l (by decide),Yn (by decide),Zdz h l (.inr (by decide)),Yn (by decide),Zb5 h l (by decide),Yo rfl,Zak,Zaq (s:=Zd s 1) h z ha];simp only;rw[Zaq (s:=Zd (Zd s 1) 1) h A r,Zn,Zn];simp only;erw[C];simp only;erw[Zfp (s:=Zd (Zd s 3) i.length) h B (by decide)];rw[E,Zn,Zn,Zn];simp only[Yj,Yk,Yl]
theorem Zm2 {ns:List Nd} {f:Nat} {n:Nd} {c:Int} {a:Txt} {d:Int} {st:PS->Tr×PS} {b:TS} (hk:n.kind=12) (m:n.words=[a]) (l:n.nums=[]) (i:n.kids=[c]) (ha:ZQ a=true) (k:ZeU L ns f d st b c):Zad L d (Zdb L st) ([(0,a)]++b) (fun _=>True) (Zv ns (f+1) n)/\ZbO L (fun _=>True) [125] ([(0,a)]++b):=by refine⟨fun s u j e1 g _=>?_,(0,a),b,rfl,trivial,fun s e h=>ZJ e h fun e=>by rw[e]at ha;revert ha;decide⟩;rw[List.append_assoc]at g;have o:kt (Zl L s.at_)=(0,a):=g.left.head;obtain⟨t,p,q⟩:=k (Zd s 1) u j e1 g.right trivial;refine⟨.mk 12 [a] [] (Zf L s) [t],?_,Zgf hk m l i q⟩;unfold Zdb;simp only;rw[Zaq j o ha];simp only;rw[p,Zn];simp only[Yj,Yk,Yl]
theorem Zqe {ns:List Nd} {f g:Nat} {n:Nd} {a b:Txt} {d:Int} {ex:PS->Tr×PS} (hk:n.kind=11) (l:n.words=[a,b]) (k:n.nums=[]) (i:n.kids=[]) (ha:ZQ a=true) (j:ZQ b=true):Zad L d (Zu L ex (g+1)) [(0,[100,111]),(0,a),(2,[46]),(0,b),(2,[59])] gT (Zv ns (f+1) n):=fun s u c _ e _=>by
 have h:kt (Zl L s.at_)=(0,[100,111]):=e.left.head;have m:kt (Zl L (Zd s 1).at_)=(0,a):=e.left.tail.head;have o:kt (Zl L (Zd (Zd s 1) 1).at_)=(2,[46]):=e.left.tail.tail.head;have p:kt (Zl L (Zd (Zd (Zd s 1) 1) 1).at_)=(0,b):=e.left.tail.tail.tail.head;have q:kt (Zl L (Zd (Zd (Zd (Zd s 1) 1) 1) 1).at_)=(2,[59]):=e.left.tail.tail.tail.tail.head;refine⟨.mk 11 [a,b] [] (Zf L s) [],?_,Zdf hk l k i⟩;rw[Zu];simp only;rw[ZJ c h (by decide),Yn (by decide),Zdz c h (.inr (by decide)),Yn (by decide),ZJ c h (by decide),Yn (by decide),Zb5 c h (by decide),Yo rfl,Zak];unfold doM;rw[Zaq (s:=Zd s 1) c m ha];simp only;rw[Zbe (s:=Zd (Zd s 1) 1) c o,Zaq (s:=Zd (Zd (Zd s 1) 1) 1) c p j];simp only;rw[ZcL (s:=Zd (Zd (Zd (Zd s 1) 1) 1) 1) c q,Yo rfl];rfl
theorem Zj4 {ns:List Nd} {f g:Nat} {n:Nd} {a b:Txt} {d:Int} {ex:PS->Tr×PS} {U:Int->TS} (hk:n.kind=11) (t:n.words=[a,b]) (r:n.nums=[]) (ha:ZQ a=true) (p:ZQ b=true) (l:∀c∈n.kids,Zad L d (Zdb L (Zu L ex g)) (U c) (fun _=>True) (Zv ns f (Zb ns c))/\ZbO L (fun _=>True) [125] (U c)):Zad L d (Zu L ex (g+1)) ([(0,[100,111]),(0,a),(2,[46]),(0,b)]++ZaE (n.kids.map U)) gT (Zv ns (f+1) n):=fun s u e e1 q _=>by
 have h:Zar L s.at_ ([(0,[100,111]),(0,a),(2,[46]),(0,b),(2,[123])]++((n.kids.map U).flatten++[(2,[125])])):=by have:=q.left;simpa only[ZaE,List.append_assoc,List.cons_append,List.nil_append]using this
 have i:kt (Zl L s.at_)=(0,[100,111]):=h.left.head;have v:kt (Zl L (Zd s 1).at_)=(0,a):=h.left.tail.head;have w:kt (Zl L (Zd (Zd s 1) 1).at_)=(2,[46]):=h.left.tail.tail.head;have y:kt (Zl L (Zd (Zd (Zd s 1) 1) 1).at_)=(0,b):=h.left.tail.tail.tail.head;have m:kt (Zl L (Zd (Zd (Zd (Zd s 1) 1) 1) 1).at_)=(2,[123]):=h.left.tail.tail.tail.tail.head;have k:Zar L (Zd s 5).at_ ((n.kids.map U).flatten++[(2,[125])]):=h.right;have o:n.kids.length<L.length+1:=by have C:=ZdG (U:=U) n.kids fun b j=>(l b j).2.some_;have h:=k.1;rw[Yj]at h;omega
 obtain⟨z,A,B⟩:=Zfd (U:=U) (P:=fun c=>Zv ns f (Zb ns c)) (x:=[125]) trivial n.kids (L.length+1) [] (Zd s 5) e e1 k o l;refine⟨.mk 11 [a,b] [] (Zf L s) z,?_,Zcu hk t r B⟩;rw[Zu];simp only;rw[ZJ e i (by decide),Yn (by decide),Zdz e i (.inr (by decide)),Yn (by decide),ZJ e i (by decide),Yn (by decide),Zb5 e i (by decide),Yo rfl,Zak];unfold doM;rw[Zaq (s:=Zd s 1) e v ha];simp only;rw[Zbe (s:=Zd (Zd s 1) 1) e w,Zaq (s:=Zd (Zd (Zd s 1) 1) 1) e y p];simp only;rw[ZJ (s:=Zd (Zd (Zd (Zd s 1) 1) 1) 1) e m (by decide),Yn (by decide),Zbe (s:=Zd (Zd (Zd (Zd s 1) 1) 1) 1) e m,Zn,Zn,Zn,Zn];erw[A];simp only[Zn,ZaE,Yj,Yk,Yl,List.nil_append,Prod.mk.injEq,true_and]
 congr 1
 omega
end
end
end Go.Proofs.YtdkegpkfjgloeaaGreatDoor
