import Derived.Test.YtdkegpkfjgloeaaGreatDoorQAQ
set_option maxRecDepth 100000
set_option maxHeartbeats 8000000
namespace Go.Proofs.YtdkegpkfjgloeaaGreatDoor
section
section
variable {L:List Tok}
def Zar (L:List Tok) (k:Nat) (us:TS):Prop:=k+us.length<=L.length/\∀i u,us[i]? = some u->kt (Zl L (k+i))=u
theorem Zar.left {k:Nat} {us vs:TS} (h:Zar L k (us++vs)):Zar L k us:=⟨by have:=h.1;rw[Yj]at this;omega,fun i u b=>by
 have a:i<us.length:=by
  rcases Nat.lt_or_ge i us.length with a|a
  ·exact a
  ·rw[List.getElem?_eq_none a]at b;exact nomatch b
 exact h.2 i u (by rw[List.getElem?_append_left a];exact b)⟩
theorem Zar.right {k:Nat} {us vs:TS} (h:Zar L k (us++vs)):Zar L (k+us.length) vs:=⟨by have:=h.1;rw[Yj]at this;omega,fun i u a=>by
 have:=h.2 (us.length+i) u (by rw[List.getElem?_append_right (by omega)];rw[show us.length+i-us.length=i by omega];exact a);rw[Nat.add_assoc]
 exact this⟩
theorem Zar.head {k:Nat} {u:Nat×Txt} {vs:TS} (h:Zar L k (u::vs)):kt (Zl L k)=u:=h.2 0 u rfl
theorem Zar.tail {k:Nat} {u:Nat×Txt} {vs:TS} (h:Zar L k (u::vs)):Zar L (k+1) vs:=Zar.right (us:=[u]) h
def Zd (s:PS) (n:Nat):PS:={ s with at_:=s.at_+n }
theorem Zn (s:PS) (n m:Nat):Zd (Zd s n) m=Zd s (n+m):=by simp[Zd,Nat.add_assoc]
theorem Zgu (s:PS) (n:Nat):(Zd s n).at_=s.at_+n:=rfl
theorem Zak (s:PS):Ze s=Zd s 1:=rfl
theorem Zsq {s:PS} (e:s.err=0):Za0 L s=Zl L s.at_:=by unfold Za0;rw[Yn (by simp[e])]
theorem Zdi {s:PS} {u:Nat×Txt} (e:s.err=0) (h:kt (Zl L s.at_)=u):(Za0 L s).1=u.1/\(Za0 L s).2.1=u.2:=by rw[Zsq e,<-h];exact⟨rfl,rfl⟩
theorem ZcL {s:PS} {x:Txt} (e:s.err=0) (h:kt (Zl L s.at_)=(2,x)):isM L x s=true:=by obtain⟨a,b⟩:=Zdi e h;unfold isM;rw[a,b,e];simp
theorem Zb5 {s:PS} {x:Txt} (e:s.err=0) (h:kt (Zl L s.at_)=(0,x)) (hk:isKey x=true):isM L x s=true:=by obtain⟨a,b⟩:=Zdi e h;unfold isM;rw[a,b,e,hk];simp
theorem ZJ {s:PS} {x y:Txt} {k:Nat} (e:s.err=0) (h:kt (Zl L s.at_)=(k,y)) (hn:y≠x):isM L x s=false:=by obtain⟨-,a⟩:=Zdi e h;unfold isM;rw[a];simp[hn]
theorem Zbe {s:PS} {x:Txt} (e:s.err=0) (h:kt (Zl L s.at_)=(2,x)):Zg L x s=Zd s 1:=by unfold Zg;rw[ZcL e h];rfl
theorem Zfp {s:PS} {x:Txt} (e:s.err=0) (h:kt (Zl L s.at_)=(0,x)) (hk:isKey x=true):Zg L x s=Zd s 1:=by unfold Zg;rw[Zb5 e h hk];rfl
theorem Zht {s:PS} {x:Txt} (e:s.err=0) (h:kt (Zl L s.at_)=(0,x)) (hn:ZQ x=true):Zbk L s=true:=by obtain⟨a,b⟩:=Zdi e h;unfold Zbk;rw[a,b,e,hn];simp
theorem Zdz {s:PS} {k:Nat} {x:Txt} (e:s.err=0) (h:kt (Zl L s.at_)=(k,x)) (hn:k≠0\/ZQ x=false):Zbk L s=false:=by
 obtain⟨a,b⟩:=Zdi e h;unfold Zbk;rw[a,b,e];rcases hn with hn|hn
 ·simp[hn]
 ·simp[hn]
theorem Zaq {s:PS} {x:Txt} (e:s.err=0) (h:kt (Zl L s.at_)=(0,x)) (hn:ZQ x=true):Zc L s=(x,Zd s 1):=by unfold Zc;rw[Zht e h hn,Yo rfl,(Zdi e h).2];rfl
theorem Zfi {s:PS} {x:Txt} {a v:Int} (e:s.err=0) (h:kt (Zl L s.at_)=(1,x)) (hv:ZdU x=v) (d:a<=v):ZaF L a s=(v,Zd s 1):=by obtain⟨b,c⟩:=Zdi e h;unfold ZaF;rw[b,c,hv,Yo ⟨rfl,by omega,e⟩];rfl
end
end
section
section
variable {L:List Tok}
def Zad (L:List Tok) (d:Int) (m:PS->Tr×PS) (us:TS) (a:Nat×Txt->Prop) (T:Tr->Prop):Prop:=
 ∀s u,s.err=0->s.deep+d<=200->Zar L s.at_ (us++[u])->a u->∃t,m s=(t,Zd s us.length)/\T t
theorem Zad.less {d e:Int} {m:PS->Tr×PS} {us:TS} {g b:Nat×Txt->Prop} {T a:Tr->Prop} (h:Zad L d m us g T) (hd:d<=e) (k:∀u,b u->g u) (j:∀t,T t->a t):Zad L e m us b a:=fun s u c e1 l n=>by
 obtain⟨t,f,i⟩:=h s u c (by omega) l (k u n);exact⟨t,f,j t i⟩
theorem Zm3 {c:PS->Tr×PS} {x y:Txt} {i j:Int} {K:Nat} {a:Tr} {s:PS} (hx:isM L x s=false) (b:isM L y s=false):ZaS L c x y i j K a s=(a,s):=by
 cases K with
 |zero=>rfl
 |succ K=>simp[ZaS,hx,b]
theorem Zor {b:PS->Tr×PS} {x y:Txt} {i j:Int} {K:Nat} {a:Tr} {s:PS} (e:s.err=0) (hx:isM L x s=true):ZaS L b x y i j (K+1) a s=ZaS L b x y i j K (Zbd i a (b (Ze s)).1) (b (Ze s)).2:=by simp[ZaS,hx,e]
theorem Zos {b:PS->Tr×PS} {x y:Txt} {i j:Int} {K:Nat} {a:Tr} {s:PS} (e:s.err=0) (hx:isM L x s=false) (c:isM L y s=true):ZaS L b x y i j (K+1) a s=ZaS L b x y i j K (Zbd j a (b (Ze s)).1) (b (Ze s)).2:=by simp[ZaS,hx,c,e]
def Zel (L:List Tok) (d:Int) (b:PS->Tr×PS) (x y:Txt) (i j:Int) (us:TS) (a:Nat×Txt->Prop) (T:Tr->Prop):Prop:=
 ∀s u K,s.err=0->s.deep+d<=200->Zar L s.at_ (us++[u])->a u->us.length<=K ->
  ∃t k,k<=us.length/\ZaS L b x y i j K (b s).1 (b s).2=ZaS L b x y i j (K-k) t (Zd s us.length)/\T t
theorem Zea {d:Int} {a:PS->Tr×PS} {x y:Txt} {i j:Int} {us:TS} {g:Nat×Txt->Prop} {T:Tr->Prop} (h:Zad L d a us g T):Zel L d a x y i j us g T:=fun s u K b e1 f k _=>by
 obtain⟨t,c,e⟩:=h s u b e1 f k;exact⟨t,0,Nat.zero_le _,by rw[c];rfl,e⟩
theorem ZfJ {d:Int} {l:PS->Tr×PS} {x y z:Txt} {i j o:Int} {us vs:TS} {g:Nat×Txt->Prop} {T1 v:Tr->Prop} (h:Zel L d l x y i j us g T1) (D:Zad L d l vs g v) (H:g (2,z)) (M:(z=x/\o=i)\/(z=y/\o=j/\x≠y)) :
  Zel L d l x y i j (us++[(2,z)]++vs) g fun t=>∃a b,T1 a/\v b/\t=Zbd o a b:=fun s u K c e1 f J F=>by
 have q:(us++[(2,z)]++vs).length=us.length+1+vs.length:=by simp only[Yj,Yk,Yl]
 rw[q]at F;have A:Zar L s.at_ (us++[(2,z)]):=by rw[List.append_assoc]at f;exact f.left
 obtain⟨t,k,hk,B,I⟩:=h s (2,z) K c e1 A H (by omega);have n:kt (Zl L (Zd s us.length).at_)=(2,z):=A.right.head;have E:Zar L (Zd (Zd s us.length) 1).at_ (vs++[u]):=by
  have:Zar L s.at_ ((us++[(2,z)])++(vs++[u])):=by rw[List.append_assoc]at f;exact f
  have:=this.right;rw[Yj]at this;rw[Zgu,Zgu,Nat.add_assoc];exact this
 obtain⟨b,C,G⟩:=D (Zd (Zd s us.length) 1) u c e1 E J;have w:(l (Ze (Zd s us.length)))=(b,Zd s (us.length+1+vs.length)):=by rw[Zak,C,Zn,Zn,Nat.add_assoc]
 obtain⟨m,p⟩:∃m,K-k=m+1:=⟨K-k-1,by omega⟩
 refine⟨Zbd o t b,k+1,by rw[q];omega,?_,t,b,I,G,rfl⟩;rw[q,show K-(k+1)=m by omega,B,p];rcases M with⟨rfl,rfl⟩|⟨rfl,rfl,r⟩
 ·rw[Zor (s:=Zd s us.length) c (ZcL (s:=Zd s us.length) c n),w]
 ·rw[Zos (s:=Zd s us.length) c (ZJ (s:=Zd s us.length) c n (fun e=>r e.symm)) (ZcL (s:=Zd s us.length) c n),w]
theorem ZjW {d:Int} {a:PS->Tr×PS} {x y:Txt} {i j:Int} {us:TS} {g:Nat×Txt->Prop} {T:Tr->Prop} (h:Zel L d a x y i j us g T):Zad L d (fun s=>ZaS L a x y i j (L.length+1) (a s).1 (a s).2) us (fun u=>g u/\u.2≠x/\u.2≠y) T:=fun s u b e1 c e=>by
 have hn:us.length<=L.length+1:=by have:=c.1;rw[Yj]at this;omega
 obtain⟨t,k,hk,l,m⟩:=h s u (L.length+1) b e1 c e.1 hn;have f:kt (Zl L (Zd s us.length).at_)=(u.1,u.2):=c.right.head;refine⟨t,?_,m⟩;show ZaS L a x y i j (L.length+1) (a s).1 (a s).2=_;rw[l];exact Zm3 (ZJ (s:=Zd s us.length) b f e.2.1) (ZJ (s:=Zd s us.length) b f e.2.2)
end
end
section
theorem Zkr (k:Nat) (h:k<10):(UInt8.ofNat (48+k)).toNat=48+k:=by rw[UInt8.toNat_ofNat'];omega
theorem Zjy (l:Txt) (c:UInt8):ZdU (l++[c])=IntKind.i64.wrap (IntKind.i64.wrap (10*ZdU l)+((c.toNat:Int)-48) % 256):=by unfold ZdU;rw[List.foldl_append];rfl
theorem Zqd (u:Nat) (e:u<1000000000000000000):ZdU (Lib.decDigits u)=(u:Int):=by
 have w:∀x:Int,0<=x->x<9223372036854775808->IntKind.i64.wrap x=x:=fun x c d=>IntWalk.i64_in _ (by omega)
 induction u using Nat.strongRecOn with
 |ind u b=>
  rw[Lib.decDigits]
  split
  ·rename_i h
   have:=Zjy [] (UInt8.ofNat (48+u));rw[List.nil_append]at this;rw[this,Zkr u h];have a:ZdU []=0:=rfl;rw[a,w (10*0) (by omega) (by omega),w _ (by omega) (by omega)];omega
  ·rename_i h
   rw[Zjy,b (u / 10) (by omega) (by omega),Zkr (u % 10) (by omega),w (10*((u / 10:Nat):Int)) (by omega) (by omega),w _ (by omega) (by omega)];omega
theorem Zez {v:Int} (h:Zbf v):ZdU (ZbP v)=v:=by
 unfold Zbf at h;obtain⟨u,rfl⟩:=Int.eq_ofNat_of_zero_le h.1;have e:ZbP (u:Int)=Lib.decDigits u:=by unfold ZbP Lib.itoa;rw[Yn (by omega)];rfl
 rw[e];exact Zqd u (by omega)
def Zv (ns:List Nd):Nat->Nd->Tr->Prop
 |0,_,_=>False
 |f+1,n,.mk k w u _ ks=>k=n.kind/\w=n.words/\u=n.nums/\ks.length=n.kids.length/\∀(i:Nat) (t:Tr) (c:Int),ks[i]? = some t->n.kids[i]? = some c->Zv ns f (Zb ns c) t
theorem ZaR {n:Nd} {w m:Nat} (h:Zr n w m=true):n.words.length=w/\n.nums.length=m:=by unfold Zr at h;rw[Bool.and_eq_true,decide_eq_true_eq,decide_eq_true_eq]at h;exact h
theorem ZeC {b:Type} {l:List b} (h:l.length=1):∃a,l=[a]:=by
 match l,h with
 |[a],_=>exact⟨a,rfl⟩
theorem Ziy {ns:List Nd} (R:RightP ns) {f i:Nat} {n:Nd} (hn:ns[i]? = some n) (h:ZZ ns (f+1) n) :
  (n.kind=20/\n.words=[]/\n.kids=[]/\∃v,n.nums=[v]/\Zbf v)\/(n.kind=21/\n.nums=[]/\n.kids=[]/\∃s,n.words=[s]/\ZQ s=true) ∨
  (n.kind=23/\n.words=[]/\n.nums=[]/\∃k,n.kids=[k]/\ZZ ns f (Zb ns k))\/(n.kind=22/\n.words=[]/\∃o j k,n.nums=[o]/\0<=o/\o<=5/\n.kids=[j,k]/\ZZ ns f (Zb ns j)/\ZZ ns f (Zb ns k)):=by
 obtain⟨A,q,c⟩:=R.node i n hn;obtain⟨D,⟨hk,v,r,hv,B,C⟩|⟨hk,s,r,E⟩|⟨hk,k,d,l,hv⟩|⟨hk,j,k,d,u,hv,g,l,m⟩⟩:=h
 ·refine .inl ⟨hk,?_⟩;have e:Zo ns n=(Zr n 0 1&&Zj ns n.kids []):=by simp[Zo,hk]
  rw[e,Bool.and_eq_true]at c;obtain⟨a,b⟩:=ZaR c.1;obtain⟨x,hx⟩:=ZeC b;exact⟨List.length_eq_zero_iff.1 a,Zha c.2,x,hx,ZaY q (by rw[hx];simp)⟩
 ·refine .inr (.inl ⟨hk,?_⟩);have e:Zo ns n=(Zr n 1 0&&Zj ns n.kids []):=by simp[Zo,hk]
  rw[e,Bool.and_eq_true]at c;obtain⟨a,b⟩:=ZaR c.1;obtain⟨x,hx⟩:=ZeC a;exact⟨List.length_eq_zero_iff.1 b,Zha c.2,x,hx,List.all_eq_true.mp A x (by rw[hx];simp)⟩
 ·refine .inr (.inr (.inl ⟨hk,?_⟩));have e:Zo ns n=(Zr n 0 0&&Zj ns n.kids [ZR]):=by simp[Zo,hk]
  rw[e,Bool.and_eq_true]at c;obtain⟨a,b⟩:=ZaR c.1;obtain⟨x,hx,_⟩:=Zeq c.2;rw[hx]at d;injection d with d;subst d;exact⟨List.length_eq_zero_iff.1 a,List.length_eq_zero_iff.1 b,_,hx,hv⟩
 ·refine .inr (.inr (.inr ⟨hk,?_⟩));have e:Zo ns n=(Zr n 0 1&&decide (num n 0<=5)&&Zj ns n.kids [ZR,ZR]):=by simp[Zo,hk]
  rw[e,Bool.and_eq_true,Bool.and_eq_true,decide_eq_true_eq]at c;obtain⟨a,b⟩:=ZaR c.1.1;obtain⟨x,hx⟩:=ZeC b;obtain⟨y,z,t,_,_⟩:=ZfS c.2;rw[t]at d g;injection d with d;injection g with g;subst d g;have w:Zbf x:=ZaY q (by rw[hx];simp);have p:=c.1.2;rw[ZcF (k:=0) (z:=x) (by rw[hx];rfl)]at p;exact⟨List.length_eq_zero_iff.1 a,x,_,_,hx,w.1,p,t,hv,m⟩
end
section
section
variable {L:List Tok}
def ZfA (s:PS):PS:={ s with deep:=s.deep+1 }
theorem Zje {s:PS} (h:s.deep+1<=200):inM L s=ZfA s:=by unfold inM;rw[Yn (by omega)];rfl
theorem Zih (s:PS) (n:Nat):Zd0 (Zd (ZfA s) n)=Zd s n:=by simp[Zd0,Zd,ZfA]
theorem Zpc {s:PS} {g:Nat} {x:Txt} {v:Int} (e:s.err=0) (h:kt (Zl L s.at_)=(1,x)) (hv:ZdU x=v) (a:0<=v):ZK L (g+1) s=(.mk 20 [] [v] (Zf L s) [],Zd s 1):=by have b:=(Zdi e h).1;simp[ZK,e,b,Zfi e h hv a]
theorem ZnA {s:PS} {g:Nat} {x:Txt} (e:s.err=0) (h:kt (Zl L s.at_)=(0,x)) (hn:ZQ x=true):ZK L (g+1) s=(.mk 21 [x] [] (Zf L s) [],Zd s 1):=by have a:=(Zdi e h).1;simp[ZK,e,a,Zaq e h hn,Zht e h hn]
theorem ZlL {s:PS} {g:Nat} (e:s.err=0) (h:kt (Zl L s.at_)=(2,[45])):ZK L (g+1) s=(.mk 23 [] [] (Zf L s) [(ZK L g (inM L (Zd s 1))).1],Zd0 (ZK L g (inM L (Zd s 1))).2):=by have a:=(Zdi e h).1;simp[ZK,e,a,Zdz e h (.inl (by decide)),ZcL e h,Zak]
theorem ZlM {s:PS} {g:Nat} (e:s.err=0) (h:kt (Zl L s.at_)=(2,[40])):ZK L (g+1) s=((Za5 L (ZK L g) (inM L (Zd s 1))).1,Zg L [41] (Zd0 (Za5 L (ZK L g) (inM L (Zd s 1))).2)):=by have a:=(Zdi e h).1;have b:isM L [45] s=false:=ZJ e h (by decide);simp[ZK,e,a,Zdz e h (.inl (by decide)),b,Zbe e h]
def gP (_:Nat×Txt):Prop:=True
def gQ (u:Nat×Txt):Prop:=gP u/\u.2≠[42]/\u.2≠[47]
def gS (u:Nat×Txt):Prop:=gQ u/\u.2≠[43]/\u.2≠[45]
def gX (u:Nat×Txt):Prop:=gS u/\u.2≠[60]/\u.2≠[61,61]
theorem Zm6 {d:Int} {g:Nat} {us:TS} {T:Tr->Prop} (h:Zad L d (ZK L g) us gP T) (hd:0<=d):Zad L (d+1) (ZK L (g+1)) ([(2,[45])]++us) gP fun t=>∃a p,T a/\t=.mk 23 [] [] p [a]:=fun s u c e1 b i=>by
 rw[List.append_assoc]at b;have f:kt (Zl L s.at_)=(2,[45]):=b.left.head;obtain⟨a,e,ha⟩:=h (ZfA (Zd s 1)) u c (by show s.deep+1+d<=200;omega) b.right i;refine⟨_,?_,a,Zf L s,ha,rfl⟩;rw[ZlL c f,Zje (s:=Zd s 1) (by show s.deep+1<=200;omega),e];show(_,Zd0 (Zd (ZfA (Zd s 1)) us.length))=_;rw[Zih,Zn];simp[Nat.add_comm]
theorem Zm7 {d:Int} {g:Nat} {us:TS} {T:Tr->Prop} (h:Zad L d (Za5 L (ZK L g)) us gX T) (hd:0<=d):Zad L (d+1) (ZK L (g+1)) ([(2,[40])]++us++[(2,[41])]) gP T:=fun s u b e1 j k=>by
 have c:Zar L s.at_ ([(2,[40])]++(us++[(2,[41])])):=by rw[<-List.append_assoc];exact j.left
 have f:kt (Zl L s.at_)=(2,[40]):=c.left.head;obtain⟨a,e,ha⟩:=h (ZfA (Zd s 1)) (2,[41]) b (by show s.deep+1+d<=200;omega) c.right (by refine⟨⟨⟨trivial,?_,?_⟩,?_,?_⟩,?_,?_⟩<;>decide);refine⟨a,?_,ha⟩;have i:kt (Zl L (Zd (Zd s 1) us.length).at_)=(2,[41]):=c.right.right.head;rw[ZlM b f,Zje (s:=Zd s 1) (by show s.deep+1<=200;omega),e];show(_,Zg L [41] (Zd0 (Zd (ZfA (Zd s 1)) us.length)))=_;rw[Zih,Zbe (s:=Zd (Zd s 1) us.length) b i,Zn,Zn];simp[Nat.add_comm,Nat.add_left_comm]
theorem ZdX {d:Int} {a:PS->Tr×PS} {us:TS} {T:Tr->Prop} (h:Zel L d a [42] [47] 4 5 us gP T):Zad L d (Zay L a) us gQ T:=ZjW h
theorem Zer {d:Int} {a:PS->Tr×PS} {us:TS} {T:Tr->Prop} (h:Zel L d (Zay L a) [43] [45] 2 3 us gQ T):Zad L d (ZN L a) us gS T:=ZjW h
theorem ZgJ {d:Int} {g:PS->Tr×PS} {us:TS} {T:Tr->Prop} (h:Zad L d (ZN L g) us gS T):Zad L d (Za5 L g) us gX T:=fun s u b e1 f c=>by
 obtain⟨a,i,ha⟩:=h s u b e1 f c.1;have e:kt (Zl L (Zd s us.length).at_)=(u.1,u.2):=f.right.head;refine⟨a,?_,ha⟩;unfold Za5;simp only[i];rw[ZJ (s:=Zd s us.length) b e c.2.1,ZJ (s:=Zd s us.length) b e c.2.2];rfl
theorem Zhg {d:Int} {i:PS->Tr×PS} {us vs:TS} {z:Txt} {o:Int} {T1 j:Tr->Prop} (h:Zad L d (ZN L i) us gS T1) (p:Zad L d (ZN L i) vs gS j) (m:(z=[60]/\o=0)\/(z=[61,61]/\o=1)) :
  Zad L d (Za5 L i) (us++[(2,z)]++vs) gX fun t=>∃a b,T1 a/\j b/\t=Zbd o a b:=fun s u e e1 l w=>by
 have v:gS (2,z):=by rcases m with⟨rfl,-⟩|⟨rfl,-⟩<;>(refine⟨⟨trivial,?_,?_⟩,?_,?_⟩<;>decide)
 have f:Zar L s.at_ ((us++[(2,z)])++(vs++[u])):=by rw[List.append_assoc]at l;exact l
 obtain⟨a,n,ha⟩:=h s (2,z) e e1 f.left v;have g:kt (Zl L (Zd s us.length).at_)=(2,z):=f.left.right.head;have q:Zar L (Zd (Zd s us.length) 1).at_ (vs++[u]):=by have:=f.right;rw[Yj]at this;rw[Zgu,Zgu,Nat.add_assoc];exact this
 obtain⟨b,k,r⟩:=p (Zd (Zd s us.length) 1) u e e1 q w.1;refine⟨Zbd o a b,?_,a,b,ha,r,rfl⟩;simp only[Zn]at k;have c:us.length+1+vs.length=us.length+(vs.length+1):=by omega
 unfold Za5;simp only[n,Zak,Zn,k];rcases m with⟨rfl,rfl⟩|⟨rfl,rfl⟩
 ·rw[ZcL (s:=Zd s us.length) e g];simp[c]
 ·rw[ZJ (s:=Zd s us.length) (x:=[60]) e g (by decide),ZcL (s:=Zd s us.length) e g];simp[c]
structure ER (L:List Tok) (d:Int) (pc:PS->Tr×PS) (str:Nat) (us:TS) (T:Tr->Prop):Prop where
 p:3<=str->Zad L d pc us gP T
 q:2<=str->Zel L d pc [42] [47] 4 5 us gP T
 s:1<=str->Zel L d (Zay L pc) [43] [45] 2 3 us gQ T
 x:Zad L d (Za5 L pc) us gX T
theorem ER.piece {d:Int} {b:PS->Tr×PS} {a:Nat} {us:TS} {T:Tr->Prop} (h:Zad L d b us gP T):ER L d b a us T:=
 have q:=Zea (x:=[42]) (y:=[47]) (i:=4) (j:=5) h;have s:=Zea (x:=[43]) (y:=[45]) (i:=2) (j:=3) (ZdX q)
 ⟨fun _=>h,fun _=>q,fun _=>s,ZgJ (Zer s)⟩
theorem ER.prod {d:Int} {b:PS->Tr×PS} {a:Nat} {us:TS} {T:Tr->Prop} (q:Zel L d b [42] [47] 4 5 us gP T) (c:a<3):ER L d b a us T:=
 have s:=Zea (x:=[43]) (y:=[45]) (i:=2) (j:=3) (ZdX q)
 ⟨fun h=>absurd h (by omega),fun _=>q,fun _=>s,ZgJ (Zer s)⟩
theorem ER.sum {d:Int} {b:PS->Tr×PS} {a:Nat} {us:TS} {T:Tr->Prop} (s:Zel L d (Zay L b) [43] [45] 2 3 us gQ T) (c:a<2):ER L d b a us T:=
 ⟨fun h=>absurd h (by omega),fun h=>absurd h (by omega),fun _=>s,ZgJ (Zer s)⟩
theorem ER.cmp {d:Int} {b:PS->Tr×PS} {a:Nat} {us:TS} {T:Tr->Prop} (x:Zad L d (Za5 L b) us gX T) (c:a<1):ER L d b a us T:=
 ⟨fun h=>absurd h (by omega),fun h=>absurd h (by omega),fun h=>absurd h (by omega),x⟩
end
end
end Go.Proofs.YtdkegpkfjgloeaaGreatDoor
