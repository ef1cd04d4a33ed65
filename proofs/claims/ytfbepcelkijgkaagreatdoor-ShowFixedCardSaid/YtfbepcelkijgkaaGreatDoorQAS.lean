import Derived.Test.YtfbepcelkijgkaaGreatDoorQAR
set_option maxRecDepth 100000
set_option maxHeartbeats 8000000
namespace Go.Proofs.YtfbepcelkijgkaaGreatDoor
section
section
variable {L:List Tok}
def Zam (L:List Tok) (k:Nat) (us:TS):Prop:=k+us.length<=L.length/\∀i u,us[i]? = some u->kt (Zg L (k+i))=u
theorem Zam.left {k:Nat} {us vs:TS} (h:Zam L k (us++vs)):Zam L k us:=⟨by have:=h.1;rw[Yj]at this;omega,fun i u b=>by
 have a:i<us.length:=by
  rcases Nat.lt_or_ge i us.length with a|a
  ·exact a
  ·rw[List.getElem?_eq_none a]at b;exact nomatch b
 exact h.2 i u (by rw[List.getElem?_append_left a];exact b)⟩
theorem Zam.right {k:Nat} {us vs:TS} (h:Zam L k (us++vs)):Zam L (k+us.length) vs:=⟨by have:=h.1;rw[Yj]at this;omega,fun i u a=>by
 have:=h.2 (us.length+i) u (by rw[List.getElem?_append_right (by omega)];rw[show us.length+i-us.length=i by omega];exact a);rw[Nat.add_assoc]
 exact this⟩
theorem Zam.head {k:Nat} {u:Nat×Txt} {vs:TS} (h:Zam L k (u::vs)):kt (Zg L k)=u:=h.2 0 u rfl
theorem Zam.tail {k:Nat} {u:Nat×Txt} {vs:TS} (h:Zam L k (u::vs)):Zam L (k+1) vs:=Zam.right (us:=[u]) h
def Zc (s:PS) (n:Nat):PS:={ s with at_:=s.at_+n }
theorem Zj (s:PS) (n m:Nat):Zc (Zc s n) m=Zc s (n+m):=by simp[Zc,Nat.add_assoc]
theorem ZgC (s:PS) (n:Nat):(Zc s n).at_=s.at_+n:=rfl
theorem Zag (s:PS):Zd s=Zc s 1:=rfl
theorem Zsd {s:PS} (e:s.err=0):ZaK L s=Zg L s.at_:=by unfold ZaK;rw[Yn (by simp[e])]
theorem Zdk {s:PS} {u:Nat×Txt} (e:s.err=0) (h:kt (Zg L s.at_)=u):(ZaK L s).1=u.1/\(ZaK L s).2.1=u.2:=by rw[Zsd e,<-h];exact⟨rfl,rfl⟩
theorem ZcM {s:PS} {x:Txt} (e:s.err=0) (h:kt (Zg L s.at_)=(2,x)):isM L x s=true:=by obtain⟨a,b⟩:=Zdk e h;unfold isM;rw[a,b,e];simp
theorem Zca {s:PS} {x:Txt} (e:s.err=0) (h:kt (Zg L s.at_)=(0,x)) (hk:isKey x=true):isM L x s=true:=by obtain⟨a,b⟩:=Zdk e h;unfold isM;rw[a,b,e,hk];simp
theorem ZH {s:PS} {x y:Txt} {k:Nat} (e:s.err=0) (h:kt (Zg L s.at_)=(k,y)) (hn:y≠x):isM L x s=false:=by obtain⟨-,a⟩:=Zdk e h;unfold isM;rw[a];simp[hn]
theorem Zba {s:PS} {x:Txt} (e:s.err=0) (h:kt (Zg L s.at_)=(2,x)):Zf L x s=Zc s 1:=by unfold Zf;rw[ZcM e h];rfl
theorem Zfv {s:PS} {x:Txt} (e:s.err=0) (h:kt (Zg L s.at_)=(0,x)) (hk:isKey x=true):Zf L x s=Zc s 1:=by unfold Zf;rw[Zca e h hk];rfl
theorem ZhB {s:PS} {x:Txt} (e:s.err=0) (h:kt (Zg L s.at_)=(0,x)) (hn:ZN x=true):ZaY L s=true:=by obtain⟨a,b⟩:=Zdk e h;unfold ZaY;rw[a,b,e,hn];simp
theorem ZdA {s:PS} {k:Nat} {x:Txt} (e:s.err=0) (h:kt (Zg L s.at_)=(k,x)) (hn:k≠0\/ZN x=false):ZaY L s=false:=by
 obtain⟨a,b⟩:=Zdk e h;unfold ZaY;rw[a,b,e];rcases hn with hn|hn
 ·simp[hn]
 ·simp[hn]
theorem Zal {s:PS} {x:Txt} (e:s.err=0) (h:kt (Zg L s.at_)=(0,x)) (hn:ZN x=true):Zb L s=(x,Zc s 1):=by unfold Zb;rw[ZhB e h hn,Yo rfl,(Zdk e h).2];rfl
theorem Zfp {s:PS} {x:Txt} {a v:Int} (e:s.err=0) (h:kt (Zg L s.at_)=(1,x)) (hv:Zdq x=v) (d:a<=v):Zan L a s=(v,Zc s 1):=by obtain⟨b,c⟩:=Zdk e h;unfold Zan;rw[b,c,hv,Yo ⟨rfl,by omega,e⟩];rfl
end
end
section
section
variable {L:List Tok}
def ZZ (L:List Tok) (d:Int) (m:PS->Tr×PS) (us:TS) (a:Nat×Txt->Prop) (T:Tr->Prop):Prop:=
 ∀s u,s.err=0->s.deep+d<=200->Zam L s.at_ (us++[u])->a u->∃t,m s=(t,Zc s us.length)/\T t
theorem ZZ.less {d e:Int} {m:PS->Tr×PS} {us:TS} {g b:Nat×Txt->Prop} {T a:Tr->Prop} (h:ZZ L d m us g T) (hd:d<=e) (k:∀u,b u->g u) (j:∀t,T t->a t):ZZ L e m us b a:=fun s u c e1 l n=>by
 obtain⟨t,f,i⟩:=h s u c (by omega) l (k u n);exact⟨t,f,j t i⟩
theorem Zne {c:PS->Tr×PS} {x y:Txt} {i j:Int} {K:Nat} {a:Tr} {s:PS} (hx:isM L x s=false) (b:isM L y s=false):Zaz L c x y i j K a s=(a,s):=by
 cases K with
 |zero=>rfl
 |succ K=>simp[Zaz,hx,b]
theorem Zol {b:PS->Tr×PS} {x y:Txt} {i j:Int} {K:Nat} {a:Tr} {s:PS} (e:s.err=0) (hx:isM L x s=true):Zaz L b x y i j (K+1) a s=Zaz L b x y i j K (ZaZ i a (b (Zd s)).1) (b (Zd s)).2:=by simp[Zaz,hx,e]
theorem Zom {b:PS->Tr×PS} {x y:Txt} {i j:Int} {K:Nat} {a:Tr} {s:PS} (e:s.err=0) (hx:isM L x s=false) (c:isM L y s=true):Zaz L b x y i j (K+1) a s=Zaz L b x y i j K (ZaZ j a (b (Zd s)).1) (b (Zd s)).2:=by simp[Zaz,hx,c,e]
def Zel (L:List Tok) (d:Int) (b:PS->Tr×PS) (x y:Txt) (i j:Int) (us:TS) (a:Nat×Txt->Prop) (T:Tr->Prop):Prop:=
 ∀s u K,s.err=0->s.deep+d<=200->Zam L s.at_ (us++[u])->a u->us.length<=K ->
  ∃t k,k<=us.length/\Zaz L b x y i j K (b s).1 (b s).2=Zaz L b x y i j (K-k) t (Zc s us.length)/\T t
theorem Zeb {d:Int} {a:PS->Tr×PS} {x y:Txt} {i j:Int} {us:TS} {g:Nat×Txt->Prop} {T:Tr->Prop} (h:ZZ L d a us g T):Zel L d a x y i j us g T:=fun s u K b e1 f k _=>by
 obtain⟨t,c,e⟩:=h s u b e1 f k;exact⟨t,0,Nat.zero_le _,by rw[c];rfl,e⟩
theorem ZfN {d:Int} {l:PS->Tr×PS} {x y z:Txt} {i j o:Int} {us vs:TS} {g:Nat×Txt->Prop} {T1 v:Tr->Prop} (h:Zel L d l x y i j us g T1) (D:ZZ L d l vs g v) (H:g (2,z)) (M:(z=x/\o=i)\/(z=y/\o=j/\x≠y)) :
  Zel L d l x y i j (us++[(2,z)]++vs) g fun t=>∃a b,T1 a/\v b/\t=ZaZ o a b:=fun s u K c e1 f J F=>by
 have q:(us++[(2,z)]++vs).length=us.length+1+vs.length:=by simp only[Yj,Yk,Yl]
 rw[q]at F;have A:Zam L s.at_ (us++[(2,z)]):=by rw[List.append_assoc]at f;exact f.left
 obtain⟨t,k,hk,B,I⟩:=h s (2,z) K c e1 A H (by omega);have n:kt (Zg L (Zc s us.length).at_)=(2,z):=A.right.head;have E:Zam L (Zc (Zc s us.length) 1).at_ (vs++[u]):=by
  have:Zam L s.at_ ((us++[(2,z)])++(vs++[u])):=by rw[List.append_assoc]at f;exact f
  have:=this.right;rw[Yj]at this;rw[ZgC,ZgC,Nat.add_assoc];exact this
 obtain⟨b,C,G⟩:=D (Zc (Zc s us.length) 1) u c e1 E J;have w:(l (Zd (Zc s us.length)))=(b,Zc s (us.length+1+vs.length)):=by rw[Zag,C,Zj,Zj,Nat.add_assoc]
 obtain⟨m,p⟩:∃m,K-k=m+1:=⟨K-k-1,by omega⟩
 refine⟨ZaZ o t b,k+1,by rw[q];omega,?_,t,b,I,G,rfl⟩;rw[q,show K-(k+1)=m by omega,B,p];rcases M with⟨rfl,rfl⟩|⟨rfl,rfl,r⟩
 ·rw[Zol (s:=Zc s us.length) c (ZcM (s:=Zc s us.length) c n),w]
 ·rw[Zom (s:=Zc s us.length) c (ZH (s:=Zc s us.length) c n (fun e=>r e.symm)) (ZcM (s:=Zc s us.length) c n),w]
theorem Zki {d:Int} {a:PS->Tr×PS} {x y:Txt} {i j:Int} {us:TS} {g:Nat×Txt->Prop} {T:Tr->Prop} (h:Zel L d a x y i j us g T):ZZ L d (fun s=>Zaz L a x y i j (L.length+1) (a s).1 (a s).2) us (fun u=>g u/\u.2≠x/\u.2≠y) T:=fun s u b e1 c e=>by
 have hn:us.length<=L.length+1:=by have:=c.1;rw[Yj]at this;omega
 obtain⟨t,k,hk,l,m⟩:=h s u (L.length+1) b e1 c e.1 hn;have f:kt (Zg L (Zc s us.length).at_)=(u.1,u.2):=c.right.head;refine⟨t,?_,m⟩;show Zaz L a x y i j (L.length+1) (a s).1 (a s).2=_;rw[l];exact Zne (ZH (s:=Zc s us.length) b f e.2.1) (ZH (s:=Zc s us.length) b f e.2.2)
end
end
section
theorem ZkM (k:Nat) (h:k<10):(UInt8.ofNat (48+k)).toNat=48+k:=by rw[UInt8.toNat_ofNat'];omega
theorem ZjP (l:Txt) (c:UInt8):Zdq (l++[c])=IntKind.i64.wrap (IntKind.i64.wrap (10*Zdq l)+((c.toNat:Int)-48) % 256):=by unfold Zdq;rw[List.foldl_append];rfl
theorem ZpY (u:Nat) (e:u<1000000000000000000):Zdq (Lib.decDigits u)=(u:Int):=by
 have w:∀x:Int,0<=x->x<9223372036854775808->IntKind.i64.wrap x=x:=fun x c d=>IntWalk.i64_in _ (by omega)
 induction u using Nat.strongRecOn with
 |ind u b=>
  rw[Lib.decDigits]
  split
  ·rename_i h
   have:=ZjP [] (UInt8.ofNat (48+u));rw[List.nil_append]at this;rw[this,ZkM u h];have a:Zdq []=0:=rfl;rw[a,w (10*0) (by omega) (by omega),w _ (by omega) (by omega)];omega
  ·rename_i h
   rw[ZjP,b (u / 10) (by omega) (by omega),ZkM (u % 10) (by omega),w (10*((u / 10:Nat):Int)) (by omega) (by omega),w _ (by omega) (by omega)];omega
theorem ZeB {v:Int} (h:ZaH v):Zdq (ZbM v)=v:=by
 unfold ZaH at h;obtain⟨u,rfl⟩:=Int.eq_ofNat_of_zero_le h.1;have e:ZbM (u:Int)=Lib.decDigits u:=by unfold ZbM Lib.itoa;rw[Yn (by omega)];rfl
 rw[e];exact ZpY u (by omega)
def Zs (ns:List Nd):Nat->Nd->Tr->Prop
 |0,_,_=>False
 |f+1,n,.mk k w u _ ks=>k=n.kind/\w=n.words/\u=n.nums/\ks.length=n.kids.length/\∀(i:Nat) (t:Tr) (c:Int),ks[i]? = some t->n.kids[i]? = some c->Zs ns f (Za ns c) t
theorem ZaL {n:Nd} {w m:Nat} (h:ZF n w m=true):n.words.length=w/\n.nums.length=m:=by unfold ZF at h;rw[Bool.and_eq_true,decide_eq_true_eq,decide_eq_true_eq]at h;exact h
theorem ZeH {b:Type} {l:List b} (h:l.length=1):∃a,l=[a]:=by
 match l,h with
 |[a],_=>exact⟨a,rfl⟩
theorem ZiM {ns:List Nd} (R:RightP ns) {f i:Nat} {n:Nd} (hn:ns[i]? = some n) (h:ZS ns (f+1) n) :
  (n.kind=20/\n.words=[]/\n.kids=[]/\∃v,n.nums=[v]/\ZaH v)\/(n.kind=21/\n.nums=[]/\n.kids=[]/\∃s,n.words=[s]/\ZN s=true) ∨
  (n.kind=23/\n.words=[]/\n.nums=[]/\∃k,n.kids=[k]/\ZS ns f (Za ns k))\/(n.kind=22/\n.words=[]/\∃o j k,n.nums=[o]/\0<=o/\o<=5/\n.kids=[j,k]/\ZS ns f (Za ns j)/\ZS ns f (Za ns k)):=by
 obtain⟨A,q,c⟩:=R.node i n hn;obtain⟨D,⟨hk,v,r,hv,B,C⟩|⟨hk,s,r,hs⟩|⟨hk,k,d,l,hv⟩|⟨hk,j,k,d,u,hv,g,l,m⟩⟩:=h
 ·refine .inl ⟨hk,?_⟩;have e:Zm ns n=(ZF n 0 1&&Zp ns n.kids []):=by simp[Zm,hk]
  rw[e,Bool.and_eq_true]at c;obtain⟨a,b⟩:=ZaL c.1;obtain⟨x,hx⟩:=ZeH b;exact⟨List.length_eq_zero_iff.1 a,Zhj c.2,x,hx,ZaR q (by rw[hx];simp)⟩
 ·refine .inr (.inl ⟨hk,?_⟩);have e:Zm ns n=(ZF n 1 0&&Zp ns n.kids []):=by simp[Zm,hk]
  rw[e,Bool.and_eq_true]at c;obtain⟨a,b⟩:=ZaL c.1;obtain⟨x,hx⟩:=ZeH a;exact⟨List.length_eq_zero_iff.1 b,Zhj c.2,x,hx,List.all_eq_true.mp A x (by rw[hx];simp)⟩
 ·refine .inr (.inr (.inl ⟨hk,?_⟩));have e:Zm ns n=(ZF n 0 0&&Zp ns n.kids [Zat]):=by simp[Zm,hk]
  rw[e,Bool.and_eq_true]at c;obtain⟨a,b⟩:=ZaL c.1;obtain⟨x,hx,_⟩:=Zes c.2;rw[hx]at d;injection d with d;subst d;exact⟨List.length_eq_zero_iff.1 a,List.length_eq_zero_iff.1 b,_,hx,hv⟩
 ·refine .inr (.inr (.inr ⟨hk,?_⟩));have e:Zm ns n=(ZF n 0 1&&decide (num n 0<=5)&&Zp ns n.kids [Zat,Zat]):=by simp[Zm,hk]
  rw[e,Bool.and_eq_true,Bool.and_eq_true,decide_eq_true_eq]at c;obtain⟨a,b⟩:=ZaL c.1.1;obtain⟨x,hx⟩:=ZeH b;obtain⟨y,z,t,_,_⟩:=ZfY c.2;rw[t]at d g;injection d with d;injection g with g;subst d g;have w:ZaH x:=ZaR q (by rw[hx];simp);have p:=c.1.2;rw[ZcG (k:=0) (z:=x) (by rw[hx];rfl)]at p;exact⟨List.length_eq_zero_iff.1 a,x,_,_,hx,w.1,p,t,hv,m⟩
end
section
section
variable {L:List Tok}
def ZfF (s:PS):PS:={ s with deep:=s.deep+1 }
theorem Zjy {s:PS} (h:s.deep+1<=200):inM L s=ZfF s:=by unfold inM;rw[Yn (by omega)];rfl
theorem Zir (s:PS) (n:Nat):ZdU (Zc (ZfF s) n)=Zc s n:=by simp[ZdU,Zc,ZfF]
theorem Zo7 {s:PS} {g:Nat} {x:Txt} {v:Int} (e:s.err=0) (h:kt (Zg L s.at_)=(1,x)) (hv:Zdq x=v) (a:0<=v):ZE L (g+1) s=(.mk 20 [] [v] (Ze L s) [],Zc s 1):=by have b:=(Zdk e h).1;simp[ZE,e,b,Zfp e h hv a]
theorem ZnK {s:PS} {g:Nat} {x:Txt} (e:s.err=0) (h:kt (Zg L s.at_)=(0,x)) (hn:ZN x=true):ZE L (g+1) s=(.mk 21 [x] [] (Ze L s) [],Zc s 1):=by have a:=(Zdk e h).1;simp[ZE,e,a,Zal e h hn,ZhB e h hn]
theorem ZlW {s:PS} {g:Nat} (e:s.err=0) (h:kt (Zg L s.at_)=(2,[45])):ZE L (g+1) s=(.mk 23 [] [] (Ze L s) [(ZE L g (inM L (Zc s 1))).1],ZdU (ZE L g (inM L (Zc s 1))).2):=by have a:=(Zdk e h).1;simp[ZE,e,a,ZdA e h (.inl (by decide)),ZcM e h,Zag]
theorem ZlX {s:PS} {g:Nat} (e:s.err=0) (h:kt (Zg L s.at_)=(2,[40])):ZE L (g+1) s=((ZaO L (ZE L g) (inM L (Zc s 1))).1,Zf L [41] (ZdU (ZaO L (ZE L g) (inM L (Zc s 1))).2)):=by have a:=(Zdk e h).1;have b:isM L [45] s=false:=ZH e h (by decide);simp[ZE,e,a,ZdA e h (.inl (by decide)),b,Zba e h]
def gP (_:Nat×Txt):Prop:=True
def gQ (u:Nat×Txt):Prop:=gP u/\u.2≠[42]/\u.2≠[47]
def gS (u:Nat×Txt):Prop:=gQ u/\u.2≠[43]/\u.2≠[45]
def gX (u:Nat×Txt):Prop:=gS u/\u.2≠[60]/\u.2≠[61,61]
theorem Zng {d:Int} {g:Nat} {us:TS} {T:Tr->Prop} (h:ZZ L d (ZE L g) us gP T) (hd:0<=d):ZZ L (d+1) (ZE L (g+1)) ([(2,[45])]++us) gP fun t=>∃a p,T a/\t=.mk 23 [] [] p [a]:=fun s u c e1 b i=>by
 rw[List.append_assoc]at b;have f:kt (Zg L s.at_)=(2,[45]):=b.left.head;obtain⟨a,e,ha⟩:=h (ZfF (Zc s 1)) u c (by show s.deep+1+d<=200;omega) b.right i;refine⟨_,?_,a,Ze L s,ha,rfl⟩;rw[ZlW c f,Zjy (s:=Zc s 1) (by show s.deep+1<=200;omega),e];show(_,ZdU (Zc (ZfF (Zc s 1)) us.length))=_;rw[Zir,Zj];simp[Nat.add_comm]
theorem Znh {d:Int} {g:Nat} {us:TS} {T:Tr->Prop} (h:ZZ L d (ZaO L (ZE L g)) us gX T) (hd:0<=d):ZZ L (d+1) (ZE L (g+1)) ([(2,[40])]++us++[(2,[41])]) gP T:=fun s u b e1 j k=>by
 have c:Zam L s.at_ ([(2,[40])]++(us++[(2,[41])])):=by rw[<-List.append_assoc];exact j.left
 have f:kt (Zg L s.at_)=(2,[40]):=c.left.head;obtain⟨a,e,ha⟩:=h (ZfF (Zc s 1)) (2,[41]) b (by show s.deep+1+d<=200;omega) c.right (by refine⟨⟨⟨trivial,?_,?_⟩,?_,?_⟩,?_,?_⟩<;>decide);refine⟨a,?_,ha⟩;have i:kt (Zg L (Zc (Zc s 1) us.length).at_)=(2,[41]):=c.right.right.head;rw[ZlX b f,Zjy (s:=Zc s 1) (by show s.deep+1<=200;omega),e];show(_,Zf L [41] (ZdU (Zc (ZfF (Zc s 1)) us.length)))=_;rw[Zir,Zba (s:=Zc (Zc s 1) us.length) b i,Zj,Zj];simp[Nat.add_comm,Nat.add_left_comm]
theorem ZdY {d:Int} {a:PS->Tr×PS} {us:TS} {T:Tr->Prop} (h:Zel L d a [42] [47] 4 5 us gP T):ZZ L d (Zai L a) us gQ T:=Zki h
theorem Zet {d:Int} {a:PS->Tr×PS} {us:TS} {T:Tr->Prop} (h:Zel L d (Zai L a) [43] [45] 2 3 us gQ T):ZZ L d (ZK L a) us gS T:=Zki h
theorem ZgT {d:Int} {g:PS->Tr×PS} {us:TS} {T:Tr->Prop} (h:ZZ L d (ZK L g) us gS T):ZZ L d (ZaO L g) us gX T:=fun s u b e1 f c=>by
 obtain⟨a,i,ha⟩:=h s u b e1 f c.1;have e:kt (Zg L (Zc s us.length).at_)=(u.1,u.2):=f.right.head;refine⟨a,?_,ha⟩;unfold ZaO;simp only[i];rw[ZH (s:=Zc s us.length) b e c.2.1,ZH (s:=Zc s us.length) b e c.2.2];rfl
theorem Zhr {d:Int} {i:PS->Tr×PS} {us vs:TS} {z:Txt} {o:Int} {T1 j:Tr->Prop} (h:ZZ L d (ZK L i) us gS T1) (p:ZZ L d (ZK L i) vs gS j) (m:(z=[60]/\o=0)\/(z=[61,61]/\o=1)) :
  ZZ L d (ZaO L i) (us++[(2,z)]++vs) gX fun t=>∃a b,T1 a/\j b/\t=ZaZ o a b:=fun s u e e1 l w=>by
 have v:gS (2,z):=by rcases m with⟨rfl,-⟩|⟨rfl,-⟩<;>(refine⟨⟨trivial,?_,?_⟩,?_,?_⟩<;>decide)
 have f:Zam L s.at_ ((us++[(2,z)])++(vs++[u])):=by rw[List.append_assoc]at l;exact l
 obtain⟨a,n,ha⟩:=h s (2,z) e e1 f.left v;have g:kt (Zg L (Zc s us.length).at_)=(2,z):=f.left.right.head;have q:Zam L (Zc (Zc s us.length) 1).at_ (vs++[u]):=by have:=f.right;rw[Yj]at this;rw[ZgC,ZgC,Nat.add_assoc];exact this
 obtain⟨b,k,r⟩:=p (Zc (Zc s us.length) 1) u e e1 q w.1;refine⟨ZaZ o a b,?_,a,b,ha,r,rfl⟩;simp only[Zj]at k;have c:us.length+1+vs.length=us.length+(vs.length+1):=by omega
 unfold ZaO;simp only[n,Zag,Zj,k];rcases m with⟨rfl,rfl⟩|⟨rfl,rfl⟩
 ·rw[ZcM (s:=Zc s us.length) e g];simp[c]
 ·rw[ZH (s:=Zc s us.length) (x:=[60]) e g (by decide),ZcM (s:=Zc s us.length) e g];simp[c]
structure ER (L:List Tok) (d:Int) (pc:PS->Tr×PS) (str:Nat) (us:TS) (T:Tr->Prop):Prop where
 p:3<=str->ZZ L d pc us gP T
 q:2<=str->Zel L d pc [42] [47] 4 5 us gP T
 s:1<=str->Zel L d (Zai L pc) [43] [45] 2 3 us gQ T
 x:ZZ L d (ZaO L pc) us gX T
theorem ER.piece {d:Int} {b:PS->Tr×PS} {a:Nat} {us:TS} {T:Tr->Prop} (h:ZZ L d b us gP T):ER L d b a us T:=
 have q:=Zeb (x:=[42]) (y:=[47]) (i:=4) (j:=5) h;have s:=Zeb (x:=[43]) (y:=[45]) (i:=2) (j:=3) (ZdY q)
 ⟨fun _=>h,fun _=>q,fun _=>s,ZgT (Zet s)⟩
theorem ER.prod {d:Int} {b:PS->Tr×PS} {a:Nat} {us:TS} {T:Tr->Prop} (q:Zel L d b [42] [47] 4 5 us gP T) (hs:a<3):ER L d b a us T:=
 have s:=Zeb (x:=[43]) (y:=[45]) (i:=2) (j:=3) (ZdY q)
 ⟨fun h=>absurd h (by omega),fun _=>q,fun _=>s,ZgT (Zet s)⟩
theorem ER.sum {d:Int} {b:PS->Tr×PS} {a:Nat} {us:TS} {T:Tr->Prop} (s:Zel L d (Zai L b) [43] [45] 2 3 us gQ T) (hs:a<2):ER L d b a us T:=
 ⟨fun h=>absurd h (by omega),fun h=>absurd h (by omega),fun _=>s,ZgT (Zet s)⟩
theorem ER.cmp {d:Int} {b:PS->Tr×PS} {a:Nat} {us:TS} {T:Tr->Prop} (x:ZZ L d (ZaO L b) us gX T) (hs:a<1):ER L d b a us T:=
 ⟨fun h=>absurd h (by omega),fun h=>absurd h (by omega),fun h=>absurd h (by omega),x⟩
end
end
end Go.Proofs.YtfbepcelkijgkaaGreatDoor
