import Derived.Test.YtfbepcelkijgkaaGreatDoorQAR
set_option maxRecDepth 100000
set_option maxHeartbeats 8000000
namespace Go.Proofs.YtfbepcelkijgkaaGreatDoor
section
section
variable {L:List Tok}
def Zal (L:List Tok) (k:Nat) (us:TS):Prop:=k+us.length<=L.length/\∀i u,us[i]? = some u->kt (Zl L (k+i))=u
theorem Zal.left {k:Nat} {us vs:TS} (h:Zal L k (us++vs)):Zal L k us:=⟨by have:=h.1;rw[Yj]at this;omega,fun i u b=>by
 have a:i<us.length:=by
  rcases Nat.lt_or_ge i us.length with a|a
  ·exact a
  ·rw[List.getElem?_eq_none a]at b;exact nomatch b
 exact h.2 i u (by rw[List.getElem?_append_left a];exact b)⟩
theorem Zal.right {k:Nat} {us vs:TS} (h:Zal L k (us++vs)):Zal L (k+us.length) vs:=⟨by have:=h.1;rw[Yj]at this;omega,fun i u a=>by
 have:=h.2 (us.length+i) u (by rw[List.getElem?_append_right (by omega)];rw[show us.length+i-us.length=i by omega];exact a);rw[Nat.add_assoc]
 exact this⟩
theorem Zal.head {k:Nat} {u:Nat×Txt} {vs:TS} (h:Zal L k (u::vs)):kt (Zl L k)=u:=h.2 0 u rfl
theorem Zal.tail {k:Nat} {u:Nat×Txt} {vs:TS} (h:Zal L k (u::vs)):Zal L (k+1) vs:=Zal.right (us:=[u]) h
def Zc (s:PS) (n:Nat):PS:={ s with at_:=s.at_+n }
theorem Zn (s:PS) (n m:Nat):Zc (Zc s n) m=Zc s (n+m):=by simp[Zc,Nat.add_assoc]
theorem Zgj (s:PS) (n:Nat):(Zc s n).at_=s.at_+n:=rfl
theorem Zaf (s:PS):Zd s=Zc s 1:=rfl
theorem Zr4 {s:PS} (e:s.err=0):ZaT L s=Zl L s.at_:=by unfold ZaT;rw[Yn (by simp[e])]
theorem Zc1 {s:PS} {u:Nat×Txt} (e:s.err=0) (h:kt (Zl L s.at_)=u):(ZaT L s).1=u.1/\(ZaT L s).2.1=u.2:=by rw[Zr4 e,<-h];exact⟨rfl,rfl⟩
theorem Zct {s:PS} {x:Txt} (e:s.err=0) (h:kt (Zl L s.at_)=(2,x)):isM L x s=true:=by obtain⟨a,b⟩:=Zc1 e h;unfold isM;rw[a,b,e];simp
theorem ZbV {s:PS} {x:Txt} (e:s.err=0) (h:kt (Zl L s.at_)=(0,x)) (hk:isKey x=true):isM L x s=true:=by obtain⟨a,b⟩:=Zc1 e h;unfold isM;rw[a,b,e,hk];simp
theorem ZI {s:PS} {x y:Txt} {k:Nat} (e:s.err=0) (h:kt (Zl L s.at_)=(k,y)) (b:y≠x):isM L x s=false:=by obtain⟨-,a⟩:=Zc1 e h;unfold isM;rw[a];simp[b]
theorem Za3 {s:PS} {x:Txt} (e:s.err=0) (h:kt (Zl L s.at_)=(2,x)):Zg L x s=Zc s 1:=by unfold Zg;rw[Zct e h];rfl
theorem Zfd {s:PS} {x:Txt} (e:s.err=0) (h:kt (Zl L s.at_)=(0,x)) (hk:isKey x=true):Zg L x s=Zc s 1:=by unfold Zg;rw[ZbV e h hk];rfl
theorem Zhh {s:PS} {x:Txt} (e:s.err=0) (h:kt (Zl L s.at_)=(0,x)) (c:ZQ x=true):Zbb L s=true:=by obtain⟨a,b⟩:=Zc1 e h;unfold Zbb;rw[a,b,e,c];simp
theorem Zdl {s:PS} {k:Nat} {x:Txt} (e:s.err=0) (h:kt (Zl L s.at_)=(k,x)) (a:k≠0\/ZQ x=false):Zbb L s=false:=by
 obtain⟨b,c⟩:=Zc1 e h;unfold Zbb;rw[b,c,e];rcases a with a|a
 ·simp[a]
 ·simp[a]
theorem Zaj {s:PS} {x:Txt} (e:s.err=0) (h:kt (Zl L s.at_)=(0,x)) (a:ZQ x=true):Zb L s=(x,Zc s 1):=by unfold Zb;rw[Zhh e h a,Yo rfl,(Zc1 e h).2];rfl
theorem Ze4 {s:PS} {x:Txt} {a v:Int} (e:s.err=0) (h:kt (Zl L s.at_)=(1,x)) (d:ZdH x=v) (f:a<=v):Zaz L a s=(v,Zc s 1):=by obtain⟨b,c⟩:=Zc1 e h;unfold Zaz;rw[b,c,d,Yo ⟨rfl,by omega,e⟩];rfl
end
end
section
section
variable {L:List Tok}
def ZZ (L:List Tok) (d:Int) (m:PS->Tr×PS) (us:TS) (a:Nat×Txt->Prop) (T:Tr->Prop):Prop:=
 ∀s u,s.err=0->s.deep+d<=200->Zal L s.at_ (us++[u])->a u->∃t,m s=(t,Zc s us.length)/\T t
theorem ZZ.less {d e:Int} {m:PS->Tr×PS} {us:TS} {g b:Nat×Txt->Prop} {T a:Tr->Prop} (h:ZZ L d m us g T) (hd:d<=e) (k:∀u,b u->g u) (j:∀t,T t->a t):ZZ L e m us b a:=fun s u c o l n=>by
 obtain⟨t,f,i⟩:=h s u c (by omega) l (k u n);exact⟨t,f,j t i⟩
theorem ZmU {c:PS->Tr×PS} {x y:Txt} {i j:Int} {K:Nat} {a:Tr} {s:PS} (hx:isM L x s=false) (b:isM L y s=false):ZaK L c x y i j K a s=(a,s):=by
 cases K with
 |zero=>rfl
 |succ K=>simp[ZaK,hx,b]
theorem Zof {b:PS->Tr×PS} {x y:Txt} {i j:Int} {K:Nat} {a:Tr} {s:PS} (e:s.err=0) (hx:isM L x s=true):ZaK L b x y i j (K+1) a s=ZaK L b x y i j K (Za2 i a (b (Zd s)).1) (b (Zd s)).2:=by simp[ZaK,hx,e]
theorem Zog {b:PS->Tr×PS} {x y:Txt} {i j:Int} {K:Nat} {a:Tr} {s:PS} (e:s.err=0) (hx:isM L x s=false) (c:isM L y s=true):ZaK L b x y i j (K+1) a s=ZaK L b x y i j K (Za2 j a (b (Zd s)).1) (b (Zd s)).2:=by simp[ZaK,hx,c,e]
def Zeb (L:List Tok) (d:Int) (b:PS->Tr×PS) (x y:Txt) (i j:Int) (us:TS) (a:Nat×Txt->Prop) (T:Tr->Prop):Prop:=
 ∀s u K,s.err=0->s.deep+d<=200->Zal L s.at_ (us++[u])->a u->us.length<=K ->
  ∃t k,k<=us.length/\ZaK L b x y i j K (b s).1 (b s).2=ZaK L b x y i j (K-k) t (Zc s us.length)/\T t
theorem Zd1 {d:Int} {a:PS->Tr×PS} {x y:Txt} {i j:Int} {us:TS} {g:Nat×Txt->Prop} {T:Tr->Prop} (h:ZZ L d a us g T):Zeb L d a x y i j us g T:=fun s u K b c k l _=>by
 obtain⟨t,e,f⟩:=h s u b c k l;exact⟨t,0,Nat.zero_le _,by rw[e];rfl,f⟩
theorem Zft {d:Int} {l:PS->Tr×PS} {x y z:Txt} {i j o:Int} {us vs:TS} {g:Nat×Txt->Prop} {T1 v:Tr->Prop} (h:Zeb L d l x y i j us g T1) (E:ZZ L d l vs g v) (I:g (2,z)) (N:(z=x/\o=i)\/(z=y/\o=j/\x≠y)) :
  Zeb L d l x y i j (us++[(2,z)]++vs) g fun t=>∃a b,T1 a/\v b/\t=Za2 o a b:=fun s u K c w f M G=>by
 have q:(us++[(2,z)]++vs).length=us.length+1+vs.length:=by simp only[Yj,Yk,Yl]
 rw[q]at G;have B:Zal L s.at_ (us++[(2,z)]):=by rw[List.append_assoc]at f;exact f.left
 obtain⟨t,k,hk,C,J⟩:=h s (2,z) K c w B I (by omega);have n:kt (Zl L (Zc s us.length).at_)=(2,z):=B.right.head;have F:Zal L (Zc (Zc s us.length) 1).at_ (vs++[u]):=by
  have:Zal L s.at_ ((us++[(2,z)])++(vs++[u])):=by rw[List.append_assoc]at f;exact f
  have:=this.right;rw[Yj]at this;rw[Zgj,Zgj,Nat.add_assoc];exact this
 obtain⟨b,D,H⟩:=E (Zc (Zc s us.length) 1) u c w F M;have A:(l (Zd (Zc s us.length)))=(b,Zc s (us.length+1+vs.length)):=by rw[Zaf,D,Zn,Zn,Nat.add_assoc]
 obtain⟨m,p⟩:∃m,K-k=m+1:=⟨K-k-1,by omega⟩
 refine⟨Za2 o t b,k+1,by rw[q];omega,?_,t,b,J,H,rfl⟩;rw[q,show K-(k+1)=m by omega,C,p];rcases N with⟨rfl,rfl⟩|⟨rfl,rfl,r⟩
 ·rw[Zof (s:=Zc s us.length) c (Zct (s:=Zc s us.length) c n),A]
 ·rw[Zog (s:=Zc s us.length) c (ZI (s:=Zc s us.length) c n (fun e=>r e.symm)) (Zct (s:=Zc s us.length) c n),A]
theorem ZjW {d:Int} {a:PS->Tr×PS} {x y:Txt} {i j:Int} {us:TS} {g:Nat×Txt->Prop} {T:Tr->Prop} (h:Zeb L d a x y i j us g T):ZZ L d (fun s=>ZaK L a x y i j (L.length+1) (a s).1 (a s).2) us (fun u=>g u/\u.2≠x/\u.2≠y) T:=fun s u b l c e=>by
 have n:us.length<=L.length+1:=by have:=c.1;rw[Yj]at this;omega
 obtain⟨t,k,hk,m,o⟩:=h s u (L.length+1) b l c e.1 n;have f:kt (Zl L (Zc s us.length).at_)=(u.1,u.2):=c.right.head;refine⟨t,?_,o⟩;show ZaK L a x y i j (L.length+1) (a s).1 (a s).2=_;rw[m];exact ZmU (ZI (s:=Zc s us.length) b f e.2.1) (ZI (s:=Zc s us.length) b f e.2.2)
end
end
section
theorem Zkr (k:Nat) (h:k<10):(UInt8.ofNat (48+k)).toNat=48+k:=by rw[UInt8.toNat_ofNat'];omega
theorem Zju (l:Txt) (c:UInt8):ZdH (l++[c])=IntKind.i64.wrap (IntKind.i64.wrap (10*ZdH l)+((c.toNat:Int)-48) % 256):=by unfold ZdH;rw[List.foldl_append];rfl
theorem ZpW (u:Nat) (e:u<1000000000000000000):ZdH (Lib.decDigits u)=(u:Int):=by
 have w:∀x:Int,0<=x->x<9223372036854775808->IntKind.i64.wrap x=x:=fun x c d=>IntWalk.i64_in _ (by omega)
 induction u using Nat.strongRecOn with
 |ind u b=>
  rw[Lib.decDigits]
  split
  ·rename_i h
   have:=Zju [] (UInt8.ofNat (48+u));rw[List.nil_append]at this;rw[this,Zkr u h];have a:ZdH []=0:=rfl;rw[a,w (10*0) (by omega) (by omega),w _ (by omega) (by omega)];omega
  ·rename_i h
   rw[Zju,b (u / 10) (by omega) (by omega),Zkr (u % 10) (by omega),w (10*((u / 10:Nat):Int)) (by omega) (by omega),w _ (by omega) (by omega)];omega
theorem Zem {v:Int} (h:Zbp v):ZdH (ZbE v)=v:=by
 unfold Zbp at h;obtain⟨u,rfl⟩:=Int.eq_ofNat_of_zero_le h.1;have e:ZbE (u:Int)=Lib.decDigits u:=by unfold ZbE Lib.itoa;rw[Yn (by omega)];rfl
 rw[e];exact ZpW u (by omega)
def Zs (ns:List Nd):Nat->Nd->Tr->Prop
 |0,_,_=>False
 |f+1,n,.mk k w u _ ks=>k=n.kind/\w=n.words/\u=n.nums/\ks.length=n.kids.length/\∀(i:Nat) (t:Tr) (c:Int),ks[i]? = some t->n.kids[i]? = some c->Zs ns f (Zf ns c) t
theorem ZaP {n:Nd} {w m:Nat} (h:Zq n w m=true):n.words.length=w/\n.nums.length=m:=by unfold Zq at h;rw[Bool.and_eq_true,decide_eq_true_eq,decide_eq_true_eq]at h;exact h
theorem Zep {b:Type} {l:List b} (h:l.length=1):∃a,l=[a]:=by
 match l,h with
 |[a],_=>exact⟨a,rfl⟩
theorem Ziq {ns:List Nd} (R:RightP ns) {f i:Nat} {n:Nd} (A:ns[i]? = some n) (h:ZV ns (f+1) n) :
  (n.kind=20/\n.words=[]/\n.kids=[]/\∃v,n.nums=[v]/\Zbp v)\/(n.kind=21/\n.nums=[]/\n.kids=[]/\∃s,n.words=[s]/\ZQ s=true) ∨
  (n.kind=23/\n.words=[]/\n.nums=[]/\∃k,n.kids=[k]/\ZV ns f (Zf ns k))\/(n.kind=22/\n.words=[]/\∃o j k,n.nums=[o]/\0<=o/\o<=5/\n.kids=[j,k]/\ZV ns f (Zf ns j)/\ZV ns f (Zf ns k)):=by
 obtain⟨C,t,c⟩:=R.node i n A;obtain⟨F,⟨hk,v,r,l,D,E⟩|⟨hk,s,r,G⟩|⟨hk,k,d,m,l⟩|⟨hk,j,k,d,w,l,g,m,p⟩⟩:=h
 ·refine .inl ⟨hk,?_⟩;have e:Zr ns n=(Zq n 0 1&&Zj ns n.kids []):=by simp[Zr,hk]
  rw[e,Bool.and_eq_true]at c;obtain⟨a,b⟩:=ZaP c.1;obtain⟨x,hx⟩:=Zep b;exact⟨List.length_eq_zero_iff.1 a,Zg0 c.2,x,hx,Zbn t (by rw[hx];simp)⟩
 ·refine .inr (.inl ⟨hk,?_⟩);have e:Zr ns n=(Zq n 1 0&&Zj ns n.kids []):=by simp[Zr,hk]
  rw[e,Bool.and_eq_true]at c;obtain⟨a,b⟩:=ZaP c.1;obtain⟨x,hx⟩:=Zep a;exact⟨List.length_eq_zero_iff.1 b,Zg0 c.2,x,hx,List.all_eq_true.mp C x (by rw[hx];simp)⟩
 ·refine .inr (.inr (.inl ⟨hk,?_⟩));have e:Zr ns n=(Zq n 0 0&&Zj ns n.kids [ZF]):=by simp[Zr,hk]
  rw[e,Bool.and_eq_true]at c;obtain⟨a,b⟩:=ZaP c.1;obtain⟨x,hx,_⟩:=Zgr c.2;rw[hx]at d;injection d with d;subst d;exact⟨List.length_eq_zero_iff.1 a,List.length_eq_zero_iff.1 b,_,hx,l⟩
 ·refine .inr (.inr (.inr ⟨hk,?_⟩));have e:Zr ns n=(Zq n 0 1&&decide (num n 0<=5)&&Zj ns n.kids [ZF,ZF]):=by simp[Zr,hk]
  rw[e,Bool.and_eq_true,Bool.and_eq_true,decide_eq_true_eq]at c;obtain⟨a,b⟩:=ZaP c.1.1;obtain⟨x,hx⟩:=Zep b;obtain⟨y,z,u,_,_⟩:=ZhZ c.2;rw[u]at d g;injection d with d;injection g with g;subst d g;have B:Zbp x:=Zbn t (by rw[hx];simp);have q:=c.1.2;rw[ZcT (k:=0) (z:=x) (by rw[hx];rfl)]at q;exact⟨List.length_eq_zero_iff.1 a,x,_,_,hx,B.1,q,u,l,p⟩
end
section
section
variable {L:List Tok}
def Zfn (s:PS):PS:={ s with deep:=s.deep+1 }
theorem Zjb {s:PS} (h:s.deep+1<=200):inM L s=Zfn s:=by unfold inM;rw[Yn (by omega)];rfl
theorem Zia (s:PS) (n:Nat):ZdQ (Zc (Zfn s) n)=Zc s n:=by simp[ZdQ,Zc,Zfn]
theorem ZoX {s:PS} {g:Nat} {x:Txt} {v:Int} (e:s.err=0) (h:kt (Zl L s.at_)=(1,x)) (c:ZdH x=v) (a:0<=v):ZJ L (g+1) s=(.mk 20 [] [v] (Ze L s) [],Zc s 1):=by have b:=(Zc1 e h).1;simp[ZJ,e,b,Ze4 e h c a]
theorem Zns {s:PS} {g:Nat} {x:Txt} (e:s.err=0) (h:kt (Zl L s.at_)=(0,x)) (a:ZQ x=true):ZJ L (g+1) s=(.mk 21 [x] [] (Ze L s) [],Zc s 1):=by have b:=(Zc1 e h).1;simp[ZJ,e,b,Zaj e h a,Zhh e h a]
theorem ZlD {s:PS} {g:Nat} (e:s.err=0) (h:kt (Zl L s.at_)=(2,[45])):ZJ L (g+1) s=(.mk 23 [] [] (Ze L s) [(ZJ L g (inM L (Zc s 1))).1],ZdQ (ZJ L g (inM L (Zc s 1))).2):=by have a:=(Zc1 e h).1;simp[ZJ,e,a,Zdl e h (.inl (by decide)),Zct e h,Zaf]
theorem ZlE {s:PS} {g:Nat} (e:s.err=0) (h:kt (Zl L s.at_)=(2,[40])):ZJ L (g+1) s=((ZaU L (ZJ L g) (inM L (Zc s 1))).1,Zg L [41] (ZdQ (ZaU L (ZJ L g) (inM L (Zc s 1))).2)):=by have a:=(Zc1 e h).1;have b:isM L [45] s=false:=ZI e h (by decide);simp[ZJ,e,a,Zdl e h (.inl (by decide)),b,Za3 e h]
def gP (_:Nat×Txt):Prop:=True
def gQ (u:Nat×Txt):Prop:=gP u/\u.2≠[42]/\u.2≠[47]
def gS (u:Nat×Txt):Prop:=gQ u/\u.2≠[43]/\u.2≠[45]
def gX (u:Nat×Txt):Prop:=gS u/\u.2≠[60]/\u.2≠[61,61]
theorem ZmX {d:Int} {g:Nat} {us:TS} {T:Tr->Prop} (h:ZZ L d (ZJ L g) us gP T) (hd:0<=d):ZZ L (d+1) (ZJ L (g+1)) ([(2,[45])]++us) gP fun t=>∃a p,T a/\t=.mk 23 [] [] p [a]:=fun s u c j b i=>by
 rw[List.append_assoc]at b;have f:kt (Zl L s.at_)=(2,[45]):=b.left.head;obtain⟨a,e,ha⟩:=h (Zfn (Zc s 1)) u c (by show s.deep+1+d<=200;omega) b.right i;refine⟨_,?_,a,Ze L s,ha,rfl⟩;rw[ZlD c f,Zjb (s:=Zc s 1) (by show s.deep+1<=200;omega),e];show(_,ZdQ (Zc (Zfn (Zc s 1)) us.length))=_;rw[Zia,Zn];simp[Nat.add_comm]
theorem ZmY {d:Int} {g:Nat} {us:TS} {T:Tr->Prop} (h:ZZ L d (ZaU L (ZJ L g)) us gX T) (hd:0<=d):ZZ L (d+1) (ZJ L (g+1)) ([(2,[40])]++us++[(2,[41])]) gP T:=fun s u b k j l=>by
 have c:Zal L s.at_ ([(2,[40])]++(us++[(2,[41])])):=by rw[<-List.append_assoc];exact j.left
 have f:kt (Zl L s.at_)=(2,[40]):=c.left.head;obtain⟨a,e,ha⟩:=h (Zfn (Zc s 1)) (2,[41]) b (by show s.deep+1+d<=200;omega) c.right (by refine⟨⟨⟨trivial,?_,?_⟩,?_,?_⟩,?_,?_⟩<;>decide);refine⟨a,?_,ha⟩;have i:kt (Zl L (Zc (Zc s 1) us.length).at_)=(2,[41]):=c.right.right.head;rw[ZlE b f,Zjb (s:=Zc s 1) (by show s.deep+1<=200;omega),e];show(_,Zg L [41] (ZdQ (Zc (Zfn (Zc s 1)) us.length)))=_;rw[Zia,Za3 (s:=Zc (Zc s 1) us.length) b i,Zn,Zn];simp[Nat.add_comm,Nat.add_left_comm]
theorem ZdN {d:Int} {a:PS->Tr×PS} {us:TS} {T:Tr->Prop} (h:Zeb L d a [42] [47] 4 5 us gP T):ZZ L d (Zat L a) us gQ T:=ZjW h
theorem Zeg {d:Int} {a:PS->Tr×PS} {us:TS} {T:Tr->Prop} (h:Zeb L d (Zat L a) [43] [45] 2 3 us gQ T):ZZ L d (ZL L a) us gS T:=ZjW h
theorem ZgA {d:Int} {g:PS->Tr×PS} {us:TS} {T:Tr->Prop} (h:ZZ L d (ZL L g) us gS T):ZZ L d (ZaU L g) us gX T:=fun s u b i f c=>by
 obtain⟨a,j,ha⟩:=h s u b i f c.1;have e:kt (Zl L (Zc s us.length).at_)=(u.1,u.2):=f.right.head;refine⟨a,?_,ha⟩;unfold ZaU;simp only[j];rw[ZI (s:=Zc s us.length) b e c.2.1,ZI (s:=Zc s us.length) b e c.2.2];rfl
theorem Zg7 {d:Int} {i:PS->Tr×PS} {us vs:TS} {z:Txt} {o:Int} {T1 j:Tr->Prop} (h:ZZ L d (ZL L i) us gS T1) (q:ZZ L d (ZL L i) vs gS j) (n:(z=[60]/\o=0)\/(z=[61,61]/\o=1)) :
  ZZ L d (ZaU L i) (us++[(2,z)]++vs) gX fun t=>∃a b,T1 a/\j b/\t=Za2 o a b:=fun s u e k m y=>by
 have w:gS (2,z):=by rcases n with⟨rfl,-⟩|⟨rfl,-⟩<;>(refine⟨⟨trivial,?_,?_⟩,?_,?_⟩<;>decide)
 have f:Zal L s.at_ ((us++[(2,z)])++(vs++[u])):=by rw[List.append_assoc]at m;exact m
 obtain⟨a,p,ha⟩:=h s (2,z) e k f.left w;have g:kt (Zl L (Zc s us.length).at_)=(2,z):=f.left.right.head;have r:Zal L (Zc (Zc s us.length) 1).at_ (vs++[u]):=by have:=f.right;rw[Yj]at this;rw[Zgj,Zgj,Nat.add_assoc];exact this
 obtain⟨b,l,v⟩:=q (Zc (Zc s us.length) 1) u e k r y.1;refine⟨Za2 o a b,?_,a,b,ha,v,rfl⟩;simp only[Zn]at l;have c:us.length+1+vs.length=us.length+(vs.length+1):=by omega
 unfold ZaU;simp only[p,Zaf,Zn,l];rcases n with⟨rfl,rfl⟩|⟨rfl,rfl⟩
 ·rw[Zct (s:=Zc s us.length) e g];simp[c]
 ·rw[ZI (s:=Zc s us.length) (x:=[60]) e g (by decide),Zct (s:=Zc s us.length) e g];simp[c]
structure ER (L:List Tok) (d:Int) (pc:PS->Tr×PS) (str:Nat) (us:TS) (T:Tr->Prop):Prop where
 p:3<=str->ZZ L d pc us gP T
 q:2<=str->Zeb L d pc [42] [47] 4 5 us gP T
 s:1<=str->Zeb L d (Zat L pc) [43] [45] 2 3 us gQ T
 x:ZZ L d (ZaU L pc) us gX T
theorem ER.piece {d:Int} {b:PS->Tr×PS} {a:Nat} {us:TS} {T:Tr->Prop} (h:ZZ L d b us gP T):ER L d b a us T:=
 have q:=Zd1 (x:=[42]) (y:=[47]) (i:=4) (j:=5) h;have s:=Zd1 (x:=[43]) (y:=[45]) (i:=2) (j:=3) (ZdN q)
 ⟨fun _=>h,fun _=>q,fun _=>s,ZgA (Zeg s)⟩
theorem ER.prod {d:Int} {b:PS->Tr×PS} {a:Nat} {us:TS} {T:Tr->Prop} (q:Zeb L d b [42] [47] 4 5 us gP T) (c:a<3):ER L d b a us T:=
 have s:=Zd1 (x:=[43]) (y:=[45]) (i:=2) (j:=3) (ZdN q)
 ⟨fun h=>absurd h (by omega),fun _=>q,fun _=>s,ZgA (Zeg s)⟩
theorem ER.sum {d:Int} {b:PS->Tr×PS} {a:Nat} {us:TS} {T:Tr->Prop} (s:Zeb L d (Zat L b) [43] [45] 2 3 us gQ T) (c:a<2):ER L d b a us T:=
 ⟨fun h=>absurd h (by omega),fun h=>absurd h (by omega),fun _=>s,ZgA (Zeg s)⟩
theorem ER.cmp {d:Int} {b:PS->Tr×PS} {a:Nat} {us:TS} {T:Tr->Prop} (x:ZZ L d (ZaU L b) us gX T) (c:a<1):ER L d b a us T:=
 ⟨fun h=>absurd h (by omega),fun h=>absurd h (by omega),fun h=>absurd h (by omega),x⟩
end
end
end Go.Proofs.YtfbepcelkijgkaaGreatDoor
