import Derived.Test.YtkongcicmajolaaGreatDoorQAS
set_option maxRecDepth 100000
set_option maxHeartbeats 8000000
namespace Go.Proofs.YtkongcicmajolaaGreatDoor
section
section
variable {L:List Tok}
def Zan (L:List Tok) (k:Nat) (us:TS):Prop:=k+us.length<=L.length/\∀ i u,us[i]? = some u->kt (Zi L (k+i))=u
theorem Zan.left {k:Nat} {us vs:TS} (h:Zan L k (us++vs)):Zan L k us:=⟨by have:=h.1;rw [List.length_append] at this;omega,fun i u hu=>by
 have hi:i<us.length:=by
  rcases Nat.lt_or_ge i us.length with hi | hi
  ·exact hi
  ·rw [List.getElem?_eq_none hi] at hu;exact nomatch hu
 exact h.2 i u (by rw [List.getElem?_append_left hi];exact hu)⟩
theorem Zan.right {k:Nat} {us vs:TS} (h:Zan L k (us++vs)):Zan L (k+us.length) vs:=⟨by have:=h.1;rw [List.length_append] at this;omega,fun i u hu=>by
 have:=h.2 (us.length+i) u (by rw [List.getElem?_append_right (by omega)];rw [show us.length+i-us.length=i by omega];exact hu)
 rw [Nat.add_assoc]
 exact this⟩
theorem Zan.head {k:Nat} {u:Nat×Txt} {vs:TS} (h:Zan L k (u::vs)):kt (Zi L k)=u:=h.2 0 u rfl
theorem Zan.tail {k:Nat} {u:Nat×Txt} {vs:TS} (h:Zan L k (u::vs)):Zan L (k+1) vs:=Zan.right (us:=[u]) h
def Zc (s:PS) (n:Nat):PS:={ s with at_:=s.at_+n }
theorem Zk (s:PS) (n m:Nat):Zc (Zc s n) m=Zc s (n+m):=by simp [Zc,Nat.add_assoc]
theorem ZgE (s:PS) (n:Nat):(Zc s n).at_=s.at_+n:=rfl
theorem Zah (s:PS):Zd s=Zc s 1:=rfl
theorem Zsg {s:PS} (e:s.err=0):ZaK L s=Zi L s.at_:=by unfold ZaK;rw [if_neg (by simp [e])]
theorem Zdn {s:PS} {u:Nat×Txt} (e:s.err=0) (h:kt (Zi L s.at_)=u):(ZaK L s).1=u.1/\(ZaK L s).2.1=u.2:=by
 rw [Zsg e,<- h]
 exact ⟨rfl,rfl⟩
theorem ZcO {s:PS} {x:Txt} (e:s.err=0) (h:kt (Zi L s.at_)=(2,x)):isM L x s=true:=by
 obtain ⟨h1,h2⟩:=Zdn e h
 unfold isM
 rw [h1,h2,e]
 simp
theorem Zce {s:PS} {x:Txt} (e:s.err=0) (h:kt (Zi L s.at_)=(0,x)) (hk:isKey x=true):isM L x s=true:=by
 obtain ⟨h1,h2⟩:=Zdn e h
 unfold isM
 rw [h1,h2,e,hk]
 simp
theorem ZH {s:PS} {x y:Txt} {k:Nat} (e:s.err=0) (h:kt (Zi L s.at_)=(k,y)) (hn:y≠x):isM L x s=false:=by
 obtain ⟨-,h2⟩:=Zdn e h
 unfold isM
 rw [h2]
 simp [hn]
theorem Zba {s:PS} {x:Txt} (e:s.err=0) (h:kt (Zi L s.at_)=(2,x)):Zf L x s=Zc s 1:=by
 unfold Zf
 rw [ZcO e h]
 rfl
theorem Zfw {s:PS} {x:Txt} (e:s.err=0) (h:kt (Zi L s.at_)=(0,x)) (hk:isKey x=true):Zf L x s=Zc s 1:=by
 unfold Zf
 rw [Zce e h hk]
 rfl
theorem ZhD {s:PS} {x:Txt} (e:s.err=0) (h:kt (Zi L s.at_)=(0,x)) (hn:ZN x=true):ZaZ L s=true:=by
 obtain ⟨h1,h2⟩:=Zdn e h
 unfold ZaZ
 rw [h1,h2,e,hn]
 simp
theorem ZdC {s:PS} {k:Nat} {x:Txt} (e:s.err=0) (h:kt (Zi L s.at_)=(k,x)) (hn:k≠0\/ZN x=false):ZaZ L s=false:=by
 obtain ⟨h1,h2⟩:=Zdn e h
 unfold ZaZ
 rw [h1,h2,e]
 rcases hn with hn | hn
 ·simp [hn]
 ·simp [hn]
theorem Zam {s:PS} {x:Txt} (e:s.err=0) (h:kt (Zi L s.at_)=(0,x)) (hn:ZN x=true):Zb L s=(x,Zc s 1):=by
 unfold Zb
 rw [ZhD e h hn,if_pos rfl,(Zdn e h).2]
 rfl
theorem Zfr {s:PS} {x:Txt} {least v:Int} (e:s.err=0) (h:kt (Zi L s.at_)=(1,x)) (hv:Zdt x=v) (hl:least<=v):Zao L least s=(v,Zc s 1):=by
 obtain ⟨h1,h2⟩:=Zdn e h
 unfold Zao
 rw [h1,h2,hv,if_pos ⟨rfl,by omega,e⟩]
 rfl
end
end
section
section
variable {L:List Tok}
def ZZ (L:List Tok) (d:Int) (m:PS->Tr×PS) (us:TS) (good:Nat×Txt->Prop) (T:Tr->Prop):Prop:=
 ∀ s u,s.err=0->s.deep+d<=200->Zan L s.at_ (us++[u])->good u->∃ t,m s=(t,Zc s us.length)/\T t
theorem ZZ.less {d e:Int} {m:PS->Tr×PS} {us:TS} {g g':Nat×Txt->Prop} {T T':Tr->Prop} (h:ZZ L d m us g T) (hd:d<=e) (hg:∀ u,g' u->g u) (hT:∀ t,T t->T' t):ZZ L e m us g' T':=fun s u e0 e1 hh hu=>by
 obtain ⟨t,h1,h2⟩:=h s u e0 (by omega) hh (hg u hu)
 exact ⟨t,h1,hT t h2⟩
theorem Zne {pc:PS->Tr×PS} {x y:Txt} {i j:Int} {K:Nat} {a:Tr} {s:PS} (hx:isM L x s=false) (hy:isM L y s=false):ZaA L pc x y i j K a s=(a,s):=by
 cases K with
 | zero=>rfl
 | succ K=>simp [ZaA,hx,hy]
theorem Zol {pc:PS->Tr×PS} {x y:Txt} {i j:Int} {K:Nat} {a:Tr} {s:PS} (e:s.err=0) (hx:isM L x s=true):ZaA L pc x y i j (K+1) a s=ZaA L pc x y i j K (Za0 i a (pc (Zd s)).1) (pc (Zd s)).2:=by
 simp [ZaA,hx,e]
theorem Zom {pc:PS->Tr×PS} {x y:Txt} {i j:Int} {K:Nat} {a:Tr} {s:PS} (e:s.err=0) (hx:isM L x s=false) (hy:isM L y s=true):ZaA L pc x y i j (K+1) a s=ZaA L pc x y i j K (Za0 j a (pc (Zd s)).1) (pc (Zd s)).2:=by
 simp [ZaA,hx,hy,e]
def Zen (L:List Tok) (d:Int) (pc:PS->Tr×PS) (x y:Txt) (i j:Int) (us:TS) (good:Nat×Txt->Prop) (T:Tr->Prop):Prop:=
 ∀ s u K,s.err=0->s.deep+d<=200->Zan L s.at_ (us++[u])->good u->us.length<=K ->
  ∃ t k,k<=us.length/\ZaA L pc x y i j K (pc s).1 (pc s).2=ZaA L pc x y i j (K-k) t (Zc s us.length)/\T t
theorem Zed {d:Int} {pc:PS->Tr×PS} {x y:Txt} {i j:Int} {us:TS} {g:Nat×Txt->Prop} {T:Tr->Prop} (h:ZZ L d pc us g T):Zen L d pc x y i j us g T:=fun s u K e0 e1 hh hu _=>by
 obtain ⟨t,h1,h2⟩:=h s u e0 e1 hh hu
 exact ⟨t,0,Nat.zero_le _,by rw [h1];rfl,h2⟩
theorem ZfP {d:Int} {pc:PS->Tr×PS} {x y z:Txt} {i j o:Int} {us vs:TS} {g:Nat×Txt->Prop} {T1 T2:Tr->Prop} (h:Zen L d pc x y i j us g T1) (h2:ZZ L d pc vs g T2) (hg:g (2,z)) (hz:(z=x/\o=i)\/(z=y/\o=j/\x≠y)) :
  Zen L d pc x y i j (us++[(2,z)]++vs) g fun t=>∃ a b,T1 a/\T2 b/\t=Za0 o a b:=fun s u K e0 e1 hh hu hK=>by
 have hl:(us++[(2,z)]++vs).length=us.length+1+vs.length:=by simp only [List.length_append,List.length_cons,List.length_nil]
 rw [hl] at hK
 have hA:Zan L s.at_ (us++[(2,z)]):=by rw [List.append_assoc] at hh;exact hh.left
 obtain ⟨t,k,hk,e2,ht⟩:=h s (2,z) K e0 e1 hA hg (by omega)
 have hB:kt (Zi L (Zc s us.length).at_)=(2,z):=hA.right.head
 have hC:Zan L (Zc (Zc s us.length) 1).at_ (vs++[u]):=by
  have:Zan L s.at_ ((us++[(2,z)])++(vs++[u])):=by rw [List.append_assoc] at hh;exact hh
  have:=this.right
  rw [List.length_append] at this
  rw [ZgE,ZgE,Nat.add_assoc]
  exact this
 obtain ⟨b,e3,hb⟩:=h2 (Zc (Zc s us.length) 1) u e0 e1 hC hu
 have em:(pc (Zd (Zc s us.length)))=(b,Zc s (us.length+1+vs.length)):=by rw [Zah,e3,Zk,Zk,Nat.add_assoc]
 obtain ⟨K',hK'⟩:∃ K',K-k=K'+1:=⟨K-k-1,by omega⟩
 refine ⟨Za0 o t b,k+1,by rw [hl];omega,?_,t,b,ht,hb,rfl⟩
 rw [hl,show K-(k+1)=K' by omega,e2,hK']
 rcases hz with ⟨rfl,rfl⟩ | ⟨rfl,rfl,hne⟩
 ·rw [Zol (s:=Zc s us.length) e0 (ZcO (s:=Zc s us.length) e0 hB),em]
 ·rw [Zom (s:=Zc s us.length) e0 (ZH (s:=Zc s us.length) e0 hB (fun e=>hne e.symm)) (ZcO (s:=Zc s us.length) e0 hB),em]
theorem Zki {d:Int} {pc:PS->Tr×PS} {x y:Txt} {i j:Int} {us:TS} {g:Nat×Txt->Prop} {T:Tr->Prop} (h:Zen L d pc x y i j us g T):ZZ L d (fun s=>ZaA L pc x y i j (L.length+1) (pc s).1 (pc s).2) us (fun u=>g u/\u.2≠x/\u.2≠y) T:=fun s u e0 e1 hh hu=>by
 have hn:us.length<=L.length+1:=by have:=hh.1;rw [List.length_append] at this;omega
 obtain ⟨t,k,hk,e2,ht⟩:=h s u (L.length+1) e0 e1 hh hu.1 hn
 have hB:kt (Zi L (Zc s us.length).at_)=(u.1,u.2):=hh.right.head
 refine ⟨t,?_,ht⟩
 show ZaA L pc x y i j (L.length+1) (pc s).1 (pc s).2=_
 rw [e2]
 exact Zne (ZH (s:=Zc s us.length) e0 hB hu.2.1) (ZH (s:=Zc s us.length) e0 hB hu.2.2)
end
end
section
theorem ZkM (k:Nat) (h:k<10):(UInt8.ofNat (48+k)).toNat=48+k:=by
 rw [UInt8.toNat_ofNat'];omega
theorem ZjP (l:Txt) (c:UInt8):Zdt (l++[c])=IntKind.i64.wrap (IntKind.i64.wrap (10*Zdt l)+((c.toNat:Int)-48) % 256):=by
 unfold Zdt
 rw [List.foldl_append]
 rfl
theorem Zp1 (u:Nat) (hu:u<1000000000000000000):Zdt (Lib.decDigits u)=(u:Int):=by
 have w:∀ x:Int,0<=x->x<9223372036854775808->IntKind.i64.wrap x=x:=fun x h0 h1=>IntWalk.i64_in _ (by omega)
 induction u using Nat.strongRecOn with
 | ind u ih=>
  rw [Lib.decDigits]
  split
  ·rename_i h
   have:=ZjP [] (UInt8.ofNat (48+u))
   rw [List.nil_append] at this
   rw [this,ZkM u h]
   have e0:Zdt []=0:=rfl
   rw [e0,w (10*0) (by omega) (by omega),w _ (by omega) (by omega)]
   omega
  ·rename_i h
   rw [ZjP,ih (u / 10) (by omega) (by omega),ZkM (u % 10) (by omega),w (10*((u / 10:Nat):Int)) (by omega) (by omega),w _ (by omega) (by omega)]
   omega
theorem ZeD {v:Int} (h:ZaI v):Zdt (ZbP v)=v:=by
 unfold ZaI at h
 obtain ⟨u,rfl⟩:=Int.eq_ofNat_of_zero_le h.1
 have e:ZbP (u:Int)=Lib.decDigits u:=by
  unfold ZbP Lib.itoa
  rw [if_neg (by omega)]
  rfl
 rw [e]
 exact Zp1 u (by omega)
def Zt (ns:List Nd):Nat->Nd->Tr->Prop
 | 0,_,_=>False
 | f+1,n,.mk k w u _ ks=>k=n.kind/\w=n.words/\u=n.nums/\ks.length=n.kids.length/\∀ (i:Nat) (t:Tr) (c:Int),ks[i]? = some t->n.kids[i]? = some c->Zt ns f (Za ns c) t
theorem ZaL {n:Nd} {w m:Nat} (h:ZF n w m=true):n.words.length=w/\n.nums.length=m:=by
 unfold ZF at h
 rw [Bool.and_eq_true,decide_eq_true_eq,decide_eq_true_eq] at h
 exact h
theorem ZeJ {α:Type} {l:List α} (h:l.length=1):∃ a,l=[a]:=by
 match l,h with
 | [a],_=>exact ⟨a,rfl⟩
theorem ZiM {ns:List Nd} (R:RightP ns) {f i:Nat} {n:Nd} (hn:ns[i]? = some n) (h:ZP ns (f+1) n) :
  (n.kind=20/\n.words=[]/\n.kids=[]/\∃ v,n.nums=[v]/\ZaI v)\/(n.kind=21/\n.nums=[]/\n.kids=[]/\∃ s,n.words=[s]/\ZN s=true) ∨
  (n.kind=23/\n.words=[]/\n.nums=[]/\∃ k,n.kids=[k]/\ZP ns f (Za ns k))\/(n.kind=22/\n.words=[]/\∃ o j k,n.nums=[o]/\0<=o/\o<=5/\n.kids=[j,k]/\ZP ns f (Za ns j)/\ZP ns f (Za ns k)):=by
 obtain ⟨hw,hu,hl⟩:=R.node i n hn
 obtain ⟨hb,⟨hk,v,r,hv,h0,h1⟩ | ⟨hk,s,r,hs⟩ | ⟨hk,k,hi,hkn,hv⟩ | ⟨hk,j,k,hi,hjn,hv,hi2,hkn,hv2⟩⟩:=h
 ·refine .inl ⟨hk,?_⟩
  have e:Zn ns n=(ZF n 0 1&&Zp ns n.kids []):=by simp [Zn,hk]
  rw [e,Bool.and_eq_true] at hl
  obtain ⟨a,b⟩:=ZaL hl.1
  obtain ⟨x,hx⟩:=ZeJ b
  exact ⟨List.length_eq_zero_iff.1 a,Zhl hl.2,x,hx,ZaR hu (by rw [hx];simp)⟩
 ·refine .inr (.inl ⟨hk,?_⟩)
  have e:Zn ns n=(ZF n 1 0&&Zp ns n.kids []):=by simp [Zn,hk]
  rw [e,Bool.and_eq_true] at hl
  obtain ⟨a,b⟩:=ZaL hl.1
  obtain ⟨x,hx⟩:=ZeJ a
  exact ⟨List.length_eq_zero_iff.1 b,Zhl hl.2,x,hx,List.all_eq_true.mp hw x (by rw [hx];simp)⟩
 ·refine .inr (.inr (.inl ⟨hk,?_⟩))
  have e:Zn ns n=(ZF n 0 0&&Zp ns n.kids [Zat]):=by simp [Zn,hk]
  rw [e,Bool.and_eq_true] at hl
  obtain ⟨a,b⟩:=ZaL hl.1
  obtain ⟨x,hx,_⟩:=Zeu hl.2
  rw [hx] at hi
  injection hi with hi
  subst hi
  exact ⟨List.length_eq_zero_iff.1 a,List.length_eq_zero_iff.1 b,_,hx,hv⟩
 ·refine .inr (.inr (.inr ⟨hk,?_⟩))
  have e:Zn ns n=(ZF n 0 1&&decide (num n 0<=5)&&Zp ns n.kids [Zat,Zat]):=by simp [Zn,hk]
  rw [e,Bool.and_eq_true,Bool.and_eq_true,decide_eq_true_eq] at hl
  obtain ⟨a,b⟩:=ZaL hl.1.1
  obtain ⟨x,hx⟩:=ZeJ b
  obtain ⟨y,z,hz,_,_⟩:=Zf0 hl.2
  rw [hz] at hi hi2
  injection hi with hi
  injection hi2 with hi2
  subst hi hi2
  have ho:ZaI x:=ZaR hu (by rw [hx];simp)
  have h5:=hl.1.2
  rw [ZcI (k:=0) (z:=x) (by rw [hx];rfl)] at h5
  exact ⟨List.length_eq_zero_iff.1 a,x,_,_,hx,ho.1,h5,hz,hv,hv2⟩
end
section
section
variable {L:List Tok}
def ZfH (s:PS):PS:={ s with deep:=s.deep+1 }
theorem Zjy {s:PS} (h:s.deep+1<=200):inM L s=ZfH s:=by unfold inM;rw [if_neg (by omega)];rfl
theorem Zir (s:PS) (n:Nat):ZdW (Zc (ZfH s) n)=Zc s n:=by
 simp [ZdW,Zc,ZfH]
theorem Zpa {s:PS} {g:Nat} {x:Txt} {v:Int} (e:s.err=0) (h:kt (Zi L s.at_)=(1,x)) (hv:Zdt x=v) (h0:0<=v):ZE L (g+1) s=(.mk 20 [] [v] (Ze L s) [],Zc s 1):=by
 have h1:=(Zdn e h).1
 simp [ZE,e,h1,Zfr e h hv h0]
theorem ZnK {s:PS} {g:Nat} {x:Txt} (e:s.err=0) (h:kt (Zi L s.at_)=(0,x)) (hn:ZN x=true):ZE L (g+1) s=(.mk 21 [x] [] (Ze L s) [],Zc s 1):=by
 have h1:=(Zdn e h).1
 simp [ZE,e,h1,Zam e h hn,ZhD e h hn]
theorem ZlW {s:PS} {g:Nat} (e:s.err=0) (h:kt (Zi L s.at_)=(2,[45])):ZE L (g+1) s=(.mk 23 [] [] (Ze L s) [(ZE L g (inM L (Zc s 1))).1],ZdW (ZE L g (inM L (Zc s 1))).2):=by
 have h1:=(Zdn e h).1
 simp [ZE,e,h1,ZdC e h (.inl (by decide)),ZcO e h,Zah]
theorem ZlX {s:PS} {g:Nat} (e:s.err=0) (h:kt (Zi L s.at_)=(2,[40])):ZE L (g+1) s=((ZaO L (ZE L g) (inM L (Zc s 1))).1,Zf L [41] (ZdW (ZaO L (ZE L g) (inM L (Zc s 1))).2)):=by
 have h1:=(Zdn e h).1
 have h2:isM L [45] s=false:=ZH e h (by decide)
 simp [ZE,e,h1,ZdC e h (.inl (by decide)),h2,Zba e h]
def gPq (_:Nat×Txt):Prop:=True
def gQ (u:Nat×Txt):Prop:=gPq u/\u.2≠[42]/\u.2≠[47]
def gS (u:Nat×Txt):Prop:=gQ u/\u.2≠[43]/\u.2≠[45]
def gX (u:Nat×Txt):Prop:=gS u/\u.2≠[60]/\u.2≠[61,61]
theorem Zng {d:Int} {g:Nat} {us:TS} {T:Tr->Prop} (h:ZZ L d (ZE L g) us gPq T) (hd:0<=d):ZZ L (d+1) (ZE L (g+1)) ([(2,[45])]++us) gPq fun t=>∃ a p,T a/\t=.mk 23 [] [] p [a]:=fun s u e0 e1 hh hu=>by
 rw [List.append_assoc] at hh
 have h1:kt (Zi L s.at_)=(2,[45]):=hh.left.head
 obtain ⟨a,e2,ha⟩:=h (ZfH (Zc s 1)) u e0 (by show s.deep+1+d<=200;omega) hh.right hu
 refine ⟨_,?_,a,Ze L s,ha,rfl⟩
 rw [ZlW e0 h1,Zjy (s:=Zc s 1) (by show s.deep+1<=200;omega),e2]
 show (_,ZdW (Zc (ZfH (Zc s 1)) us.length))=_
 rw [Zir,Zk]
 simp [Nat.add_comm]
theorem Znh {d:Int} {g:Nat} {us:TS} {T:Tr->Prop} (h:ZZ L d (ZaO L (ZE L g)) us gX T) (hd:0<=d):ZZ L (d+1) (ZE L (g+1)) ([(2,[40])]++us++[(2,[41])]) gPq T:=fun s u e0 e1 hh hu=>by
 have h3:Zan L s.at_ ([(2,[40])]++(us++[(2,[41])])):=by rw [<- List.append_assoc];exact hh.left
 have h1:kt (Zi L s.at_)=(2,[40]):=h3.left.head
 obtain ⟨a,e2,ha⟩:=h (ZfH (Zc s 1)) (2,[41]) e0 (by show s.deep+1+d<=200;omega) h3.right (by refine ⟨⟨⟨trivial,?_,?_⟩,?_,?_⟩,?_,?_⟩<;>decide)
 refine ⟨a,?_,ha⟩
 have h4:kt (Zi L (Zc (Zc s 1) us.length).at_)=(2,[41]):=h3.right.right.head
 rw [ZlX e0 h1,Zjy (s:=Zc s 1) (by show s.deep+1<=200;omega),e2]
 show (_,Zf L [41] (ZdW (Zc (ZfH (Zc s 1)) us.length)))=_
 rw [Zir,Zba (s:=Zc (Zc s 1) us.length) e0 h4,Zk,Zk]
 simp [Nat.add_comm,Nat.add_left_comm]
theorem Zd0 {d:Int} {pc:PS->Tr×PS} {us:TS} {T:Tr->Prop} (h:Zen L d pc [42] [47] 4 5 us gPq T):ZZ L d (Zaj L pc) us gQ T:=Zki h
theorem Zev {d:Int} {pc:PS->Tr×PS} {us:TS} {T:Tr->Prop} (h:Zen L d (Zaj L pc) [43] [45] 2 3 us gQ T):ZZ L d (ZK L pc) us gS T:=Zki h
theorem ZgV {d:Int} {pc:PS->Tr×PS} {us:TS} {T:Tr->Prop} (h:ZZ L d (ZK L pc) us gS T):ZZ L d (ZaO L pc) us gX T:=fun s u e0 e1 hh hu=>by
 obtain ⟨a,e2,ha⟩:=h s u e0 e1 hh hu.1
 have hB:kt (Zi L (Zc s us.length).at_)=(u.1,u.2):=hh.right.head
 refine ⟨a,?_,ha⟩
 unfold ZaO
 simp only [e2]
 rw [ZH (s:=Zc s us.length) e0 hB hu.2.1,ZH (s:=Zc s us.length) e0 hB hu.2.2]
 rfl
theorem Zht {d:Int} {pc:PS->Tr×PS} {us vs:TS} {z:Txt} {o:Int} {T1 T2:Tr->Prop} (h:ZZ L d (ZK L pc) us gS T1) (h2:ZZ L d (ZK L pc) vs gS T2) (hz:(z=[60]/\o=0)\/(z=[61,61]/\o=1)) :
  ZZ L d (ZaO L pc) (us++[(2,z)]++vs) gX fun t=>∃ a b,T1 a/\T2 b/\t=Za0 o a b:=fun s u e0 e1 hh hu=>by
 have hg:gS (2,z):=by rcases hz with ⟨rfl,-⟩ | ⟨rfl,-⟩<;>(refine ⟨⟨trivial,?_,?_⟩,?_,?_⟩<;>decide)
 have hA:Zan L s.at_ ((us++[(2,z)])++(vs++[u])):=by rw [List.append_assoc] at hh;exact hh
 obtain ⟨a,e2,ha⟩:=h s (2,z) e0 e1 hA.left hg
 have hB:kt (Zi L (Zc s us.length).at_)=(2,z):=hA.left.right.head
 have hC:Zan L (Zc (Zc s us.length) 1).at_ (vs++[u]):=by
  have:=hA.right
  rw [List.length_append] at this
  rw [ZgE,ZgE,Nat.add_assoc]
  exact this
 obtain ⟨b,e3,hb⟩:=h2 (Zc (Zc s us.length) 1) u e0 e1 hC hu.1
 refine ⟨Za0 o a b,?_,a,b,ha,hb,rfl⟩
 simp only [Zk] at e3
 have hlen:us.length+1+vs.length=us.length+(vs.length+1):=by omega
 unfold ZaO
 simp only [e2,Zah,Zk,e3]
 rcases hz with ⟨rfl,rfl⟩ | ⟨rfl,rfl⟩
 ·rw [ZcO (s:=Zc s us.length) e0 hB]
  simp [hlen]
 ·rw [ZH (s:=Zc s us.length) (x:=[60]) e0 hB (by decide),ZcO (s:=Zc s us.length) e0 hB]
  simp [hlen]
structure ER (L:List Tok) (d:Int) (pc:PS->Tr×PS) (str:Nat) (us:TS) (T:Tr->Prop):Prop where
 p:3<=str->ZZ L d pc us gPq T
 q:2<=str->Zen L d pc [42] [47] 4 5 us gPq T
 s:1<=str->Zen L d (Zaj L pc) [43] [45] 2 3 us gQ T
 x:ZZ L d (ZaO L pc) us gX T
theorem ER.piece {d:Int} {pc:PS->Tr×PS} {str:Nat} {us:TS} {T:Tr->Prop} (h:ZZ L d pc us gPq T):ER L d pc str us T:=
 have q:=Zed (x:=[42]) (y:=[47]) (i:=4) (j:=5) h
 have s:=Zed (x:=[43]) (y:=[45]) (i:=2) (j:=3) (Zd0 q)
 ⟨fun _=>h,fun _=>q,fun _=>s,ZgV (Zev s)⟩
theorem ER.prod {d:Int} {pc:PS->Tr×PS} {str:Nat} {us:TS} {T:Tr->Prop} (q:Zen L d pc [42] [47] 4 5 us gPq T) (hs:str<3):ER L d pc str us T:=
 have s:=Zed (x:=[43]) (y:=[45]) (i:=2) (j:=3) (Zd0 q)
 ⟨fun h=>absurd h (by omega),fun _=>q,fun _=>s,ZgV (Zev s)⟩
theorem ER.sum {d:Int} {pc:PS->Tr×PS} {str:Nat} {us:TS} {T:Tr->Prop} (s:Zen L d (Zaj L pc) [43] [45] 2 3 us gQ T) (hs:str<2):ER L d pc str us T:=
 ⟨fun h=>absurd h (by omega),fun h=>absurd h (by omega),fun _=>s,ZgV (Zev s)⟩
theorem ER.cmp {d:Int} {pc:PS->Tr×PS} {str:Nat} {us:TS} {T:Tr->Prop} (x:ZZ L d (ZaO L pc) us gX T) (hs:str<1):ER L d pc str us T:=
 ⟨fun h=>absurd h (by omega),fun h=>absurd h (by omega),fun h=>absurd h (by omega),x⟩
end
end
end Go.Proofs.YtkongcicmajolaaGreatDoor
