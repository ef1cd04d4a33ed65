import Derived.Test.YtfbepcelkijgkaaGreatDoorQAU
set_option maxRecDepth 100000
set_option maxHeartbeats 8000000
namespace Go.Proofs.YtfbepcelkijgkaaGreatDoor
section
section
variable {L:List Tok}
theorem ZlP {a:Txt} {x:Txt} {r:TS} (ha:ZN a=true) (hx:ZN x=false):ZbK L (fun _=>True) x ((0,a)::r):=
 ⟨(0,a),r,rfl,trivial,fun s e h=>ZH e h fun e=>by rw[e,hx]at ha;exact nomatch ha⟩
theorem ZkQ {ns:List Nd} {f:Nat} {n:Nd} {a:Txt} {d:Int} {ex:PS->Tr×PS} (hk:n.kind=15) (j:n.words=[a]) (i:n.nums=[]) (b:n.kids=[]) (ha:ZN a=true):ZZ L d (ZaS L ex) [(2,[38]),(0,a)] gX (Zs ns (f+1) n)/\ZbK L (fun _=>True) [41] [(2,[38]),(0,a)]:=by refine⟨fun s u c _ g _=>?_,(2,[38]),_,rfl,trivial,fun s e h=>ZH e h (by decide)⟩;have k:kt (Zg L s.at_)=(2,[38]):=g.left.head;have l:kt (Zg L (Zc s 1).at_)=(0,a):=g.left.tail.head;refine⟨.mk 15 [a] [] (Ze L s) [],?_,Zdi hk j i b⟩;unfold ZaS;rw[ZcM c k,Yo rfl,Zag];simp only;rw[Zal (s:=Zc s 1) c l ha];rfl
theorem Zmf {d:Int} {ex:PS->Tr×PS} {us:TS} {T:Tr->Prop} (f:ZZ L d ex us gX T) (g:ZbK L (fun _=>True) [38] us):ZZ L d (ZaS L ex) us gX T:=fun s u b e1 a h=>by
 obtain⟨t,c,e⟩:=f s u b e1 a h;obtain⟨v,r,hv,-,hn⟩:=g;have i:kt (Zg L s.at_)=v:=by rw[hv]at a;exact a.left.head
 refine⟨t,?_,e⟩;unfold ZaS;rw[hn s b i,Yn (by decide),c]
theorem ZiD {ns:List Nd} {f:Nat} {n:Nd} {d:Int} {ex:PS->Tr×PS} {U:Int->TS} {s:PS} {rest:TS} (a:s.err=0) (e1:s.deep+d<=200) (h:∀c∈n.kids,ZZ L d (ZaS L ex) (U c) gX (Zs ns f (Za ns c))/\ZbK L (fun _=>True) [41] (U c)) (i:Zam L s.at_ ([(2,[40])]++(Zaj [(2,[44])] (n.kids.map U)++([(2,[41]),(2,[59])]++rest)))) :
  ∃ts,ZT L (ZaS L ex) (L.length+1) true [] (Zf L [40] s)=(ts,Zc s ((Zaj [(2,[44])] (n.kids.map U)).length+2))/\Za4 (fun c=>Zs ns f (Za ns c)) n.kids ts/\Zf L [59] (Zc s ((Zaj [(2,[44])] (n.kids.map U)).length+2))=Zc s ((Zaj [(2,[44])] (n.kids.map U)).length+3):=by
 have p:kt (Zg L s.at_)=(2,[40]):=i.left.head;have e:Zam L (Zc s 1).at_ (Zaj [(2,[44])] (n.kids.map U)++([(2,[41]),(2,[59])]++rest)):=i.right;have g:Zam L (Zc s 1).at_ (Zaj [(2,[44])] (n.kids.map U)++[(2,[41])]):=by
  have m:Zam L (Zc s 1).at_ ((Zaj [(2,[44])] (n.kids.map U)++[(2,[41])])++([(2,[59])]++rest)):=by simpa only[List.append_assoc,List.cons_append,List.nil_append]using e
  exact m.left
 have k:Zam L (Zc (Zc s 1) (Zaj [(2,[44])] (n.kids.map U)).length).at_ ([(2,[41]),(2,[59])]++rest):=e.right;have j:kt (Zg L (Zc (Zc (Zc s 1) (Zaj [(2,[44])] (n.kids.map U)).length) 1).at_)=(2,[59]):=k.left.tail.head;have o:n.kids.length<L.length+1:=by
  have u:n.kids.length<=(Zaj [((2:Nat),([44]:Txt))] (n.kids.map U)).length:=by
   cases hks:n.kids with
   |nil=>exact Nat.zero_le _
   |cons c r=>
    rw[List.map_cons,ZeJ,Yj,Yk];have v:1<=(U c).length:=List.length_pos_iff.2 (h c (by rw[hks];simp)).2.some_;have l:=ZdG (U:=fun y:TS=>[((2:Nat),([44]:Txt))]++y) (r.map U) fun b _=>by simp
    rw[List.length_map]at l;omega
  have:=g.1;rw[Yj]at this;omega
 obtain⟨ts,q,t⟩:=Zho (U:=U) (P:=fun c=>Zs ns f (Za ns c)) Zp7 Zp6 n.kids (L.length+1) (Zc s 1) a e1 g o h;refine⟨ts,?_,t,?_⟩
 ·rw[Zba a p,q,Zj,show 1+((Zaj [((2:Nat),([44]:Txt))] (n.kids.map U)).length+1)=(Zaj [((2:Nat),([44]:Txt))] (n.kids.map U)).length+2 by omega]
 ·rw[Zj,Zj,show 1+((Zaj [((2:Nat),([44]:Txt))] (n.kids.map U)).length+1)=(Zaj [((2:Nat),([44]:Txt))] (n.kids.map U)).length+2 by omega]at j;rw[Zba (s:=Zc s _) a j,Zj]
theorem ZjN {ex:PS->Tr×PS} {g:Nat} {s:PS} (a:s.err=0) (b:kt (Zg L s.at_)=(0,[99,97,108,108])):Zt L ex (g+1) s=ZcA L ex (Ze L s) (Zc s 1):=by rw[Zt];simp only;rw[ZH a b (by decide),Yn (by decide),ZdA a b (.inr (by decide)),Yn (by decide),ZH a b (by decide),Yn (by decide),ZH a b (by decide),Yn (by decide),ZH a b (by decide),Yn (by decide),Zca a b (by decide),Yo rfl,Zag]
theorem Znc {ns:List Nd} {f g:Nat} {n:Nd} {a:Txt} {d:Int} {ex:PS->Tr×PS} {U:Int->TS} (hk:n.kind=14) (l:n.words=[a]) (k:n.nums=[]) (ha:ZN a=true) (i:∀c∈n.kids,ZZ L d (ZaS L ex) (U c) gX (Zs ns f (Za ns c))/\ZbK L (fun _=>True) [41] (U c)):ZZ L d (Zt L ex (g+1)) ([(0,[99,97,108,108]),(0,a)]++([(2,[40])]++(Zaj [(2,[44])] (n.kids.map U)++[(2,[41]),(2,[59])]))) gT (Zs ns (f+1) n):=fun s u b e1 j _=>by
 have e:Zam L s.at_ ([(0,[99,97,108,108]),(0,a)]++([(2,[40])]++(Zaj [(2,[44])] (n.kids.map U)++([(2,[41]),(2,[59])]++[u])))):=by simpa only[List.append_assoc,List.cons_append,List.nil_append]using j
 have m:kt (Zg L s.at_)=(0,[99,97,108,108]):=e.left.head;have o:kt (Zg L (Zc s 1).at_)=(0,a):=e.left.tail.head;have h:Zam L (Zc s 2).at_ ([(2,[40])]++(Zaj [(2,[44])] (n.kids.map U)++([(2,[41]),(2,[59])]++[u]))):=e.right;have p:kt (Zg L (Zc (Zc s 1) 1).at_)=(2,[40]):=h.left.head;obtain⟨q,r,t,v⟩:=ZiD (s:=Zc s 2) b e1 i h;refine⟨.mk 14 [a] [] (Ze L s) q,?_,Zcv hk l k t⟩;rw[ZjN b m];unfold ZcA;rw[Zal (s:=Zc s 1) b o ha];simp only;rw[ZH (s:=Zc (Zc s 1) 1) b p (by decide),Yn (by decide),Zj];simp only;erw[r];simp only;rw[v,Zj];simp only[Yj,Yk,Yl,Prod.mk.injEq,true_and]
 congr 1
 omega
theorem ZkF {ns:List Nd} {f g:Nat} {n:Nd} {a b:Txt} {d:Int} {ex:PS->Tr×PS} {U:Int->TS} (hk:n.kind=14) (o:n.words=[b,a]) (m:n.nums=[]) (ha:ZN a=true) (k:ZN b=true) (j:∀c∈n.kids,ZZ L d (ZaS L ex) (U c) gX (Zs ns f (Za ns c))/\ZbK L (fun _=>True) [41] (U c)):ZZ L d (Zt L ex (g+1)) ([(0,[99,97,108,108]),(0,a),(2,[61]),(0,b)]++([(2,[40])]++(Zaj [(2,[44])] (n.kids.map U)++[(2,[41]),(2,[59])]))) gT (Zs ns (f+1) n):=fun s u e e1 l _=>by
 have h:Zam L s.at_ ([(0,[99,97,108,108]),(0,a),(2,[61]),(0,b)]++([(2,[40])]++(Zaj [(2,[44])] (n.kids.map U)++([(2,[41]),(2,[59])]++[u])))):=by simpa only[List.append_assoc,List.cons_append,List.nil_append]using l
 have p:kt (Zg L s.at_)=(0,[99,97,108,108]):=h.left.head;have q:kt (Zg L (Zc s 1).at_)=(0,a):=h.left.tail.head;have r:kt (Zg L (Zc (Zc s 1) 1).at_)=(2,[61]):=h.left.tail.tail.head;have t:kt (Zg L (Zc (Zc (Zc s 1) 1) 1).at_)=(0,b):=h.left.tail.tail.tail.head;have i:Zam L (Zc s 4).at_ ([(2,[40])]++(Zaj [(2,[44])] (n.kids.map U)++([(2,[41]),(2,[59])]++[u]))):=h.right;obtain⟨v,w,y,z⟩:=ZiD (s:=Zc s 4) e e1 j i;refine⟨.mk 14 [b,a] [] (Ze L s) v,?_,Zcv hk o m y⟩;rw[ZjN e p];unfold ZcA;rw[Zal (s:=Zc s 1) e q ha];simp only;rw[ZcM (s:=Zc (Zc s 1) 1) e r,Yo rfl,Zag,Zal (s:=Zc (Zc (Zc s 1) 1) 1) e t k,Zj,Zj,Zj];simp only;erw[w];simp only;rw[z,Zj];simp only[Yj,Yk,Yl,Prod.mk.injEq,true_and]
 congr 1
 omega
end
end
section
section
variable {L:List Tok}
theorem Zmc {ns:List Nd} {f g:Nat} {n:Nd} {l:List Int} {c:Int} {a b:Txt} {p q r:Int} {d:Int} {ex:PS->Tr×PS} {i:TS} (hk:n.kind=13) (S:n.words=[a,b]) (R:n.nums=[p,q,r]) (w:n.kids=l++[c]) (ha:ZN a=true) (N:ZN b=true) (y:1<=p) (z:p<=4) (hq:ZaH q) (Q:ZaH r) (A:1<=q) (B:1<=r) (M:∀c∈l,ZgJ ns c) (C:Zbl ns l=true) (P:∀c∈l,2<=ZaC ns c) (K:Ze3 L ns (f+1) d (Zt L ex g) ((2,[123])::i) c) :
  ZZ L d (Zt L ex (g+1)) ([(0,[115,112,108,105,116]),(0,a),(2,[61]),(0,b),(0,Zax p),(1,ZbM q),(2,[47]),(1,ZbM r)]++((l.map fun k=>Zbp (Za ns k)).flatten++((2,[123])::i))) gT (Zs ns (f+2) n):=fun s u e e1 O _=>by
 have h:Zam L s.at_ ([(0,[115,112,108,105,116]),(0,a),(2,[61]),(0,b),(0,Zax p),(1,ZbM q),(2,[47]),(1,ZbM r)]++((l.map fun k=>Zbp (Za ns k)).flatten++(((2,[123])::i)++[u]))):=by simpa only[List.append_assoc]using O
 have m:kt (Zg L s.at_)=(0,[115,112,108,105,116]):=h.left.head;have T:kt (Zg L (Zc s 1).at_)=(0,a):=h.left.tail.head;have U:kt (Zg L (Zc (Zc s 1) 1).at_)=(2,[61]):=h.left.tail.tail.head;have V:kt (Zg L (Zc (Zc (Zc s 1) 1) 1).at_)=(0,b):=h.left.tail.tail.tail.head;have W:kt (Zg L (Zc (Zc (Zc (Zc s 1) 1) 1) 1).at_)=(0,Zax p):=h.left.tail.tail.tail.tail.head;have X:kt (Zg L (Zc (Zc (Zc (Zc (Zc s 1) 1) 1) 1) 1).at_)=(1,ZbM q):=h.left.tail.tail.tail.tail.tail.head;have Y:kt (Zg L (Zc (Zc (Zc (Zc (Zc (Zc s 1) 1) 1) 1) 1) 1).at_)=(2,[47]):=h.left.tail.tail.tail.tail.tail.tail.head;have Z:kt (Zg L (Zc (Zc (Zc (Zc (Zc (Zc (Zc s 1) 1) 1) 1) 1) 1) 1).at_)=(1,ZbM r):=h.left.tail.tail.tail.tail.tail.tail.tail.head;have D:Zam L (Zc s 8).at_ ((l.map fun k=>Zbp (Za ns k)).flatten++(((2,[123])::i)++[u])):=h.right;have H:Zam L (Zc s 8).at_ ((l.map fun k=>Zbp (Za ns k)).flatten++[(2,[123])]):=by
  have J:Zam L (Zc s 8).at_ (((l.map fun k=>Zbp (Za ns k)).flatten++[(2,[123])])++(i++[u])):=by simpa only[List.append_assoc,List.cons_append,List.nil_append]using D
  exact J.left
 obtain⟨ts,l1,E,F,y2,y3,y4,y5,y6,-⟩:=Zgn (f:=f) (j:=2) (by decide) (by decide) l M C P (s:=Zc s 8) e H Zhi.open_;have G:E=[]:=by
  cases E with
  |nil=>rfl
  |cons x o=>have g1:=y6 x (by simp);have g2:=(y5 x (by simp)).which.2;omega
 subst G;rw[List.append_nil]at F;subst F;have I:Zam L (Zc (Zc s 8) ((l.map fun k=>Zbp (Za ns k)).flatten).length).at_ (((2,[123])::i)++[u]):=D.right;obtain⟨t,x1,x2⟩:=K (Zc (Zc s 8) ((l.map fun k=>Zbp (Za ns k)).flatten).length) u e e1 I trivial;refine⟨.mk 13 [a,b] [p,q,r] (Ze L s) (ts++[t]),?_,Zcv hk S R (by rw[w];exact y3.two (Za4.cons x2 (Za4.nil _)))⟩;rw[Zt];simp only;rw[ZH e m (by decide),Yn (by decide),ZdA e m (.inr (by decide)),Yn (by decide),ZH e m (by decide),Yn (by decide),ZH e m (by decide),Yn (by decide),Zca e m (by decide),Yo rfl,Zag];unfold ZdQ;rw[Zal (s:=Zc s 1) e T ha];simp only;rw[Zba (s:=Zc (Zc s 1) 1) e U,Zal (s:=Zc (Zc (Zc s 1) 1) 1) e V N];simp only;rw[ZiX (s:=Zc (Zc (Zc (Zc s 1) 1) 1) 1) (.inr rfl) y z e W];simp only;rw[Zfp (s:=Zc (Zc (Zc (Zc (Zc s 1) 1) 1) 1) 1) (v:=q) e X (ZeB hq) A];simp only;rw[Zba (s:=Zc (Zc (Zc (Zc (Zc (Zc s 1) 1) 1) 1) 1) 1) e Y,Zfp (s:=Zc (Zc (Zc (Zc (Zc (Zc (Zc s 1) 1) 1) 1) 1) 1) 1) (v:=r) e Z (ZeB Q) B,Zj,Zj,Zj,Zj,Zj,Zj,Zj];simp only;erw[y2];simp only;rw[x1,Zj,Zj];simp only[Yj,Yk,Yl]
theorem Zp5 {ns:List Nd} {f:Nat} {n:Nd} {l:List Int} {c:Int} {a:Txt} {d:Int} {ex st:PS->Tr×PS} {U:Int->TS} {h:TS} (hd:0<=d) (hk:n.kind=4) (D:n.words=[a]) (C:n.nums=[]) (e:n.kids=l++[c]) (ha:ZN a=true) (w:∀c∈l,ZZ L 0 (ZaB L) (U c) Zef (Zs ns f (Za ns c))/\ZbK L (fun _=>True) [41] (U c)) (z:Ze3 L ns f d st ((2,[123])::h) c) :
  ZZ L d (fnM L ex st) ([(0,[102,110]),(0,a),(2,[40])]++(Zaj [(2,[44])] (l.map U)++([(2,[41])]++((2,[123])::h)))) (fun _=>True) (Zs ns (f+1) n):=fun s u i e1 B _=>by
 have j:Zam L s.at_ ([(0,[102,110]),(0,a),(2,[40])]++(Zaj [(2,[44])] (l.map U)++([(2,[41])]++(((2,[123])::h)++[u])))):=by simpa only[List.append_assoc]using B
 have E:kt (Zg L s.at_)=(0,[102,110]):=j.left.head;have F:kt (Zg L (Zc s 1).at_)=(0,a):=j.left.tail.head;have G:kt (Zg L (Zc (Zc s 1) 1).at_)=(2,[40]):=j.left.tail.tail.head;have o:Zam L (Zc s 3).at_ (Zaj [(2,[44])] (l.map U)++([(2,[41])]++(((2,[123])::h)++[u]))):=j.right;have p:Zam L (Zc s 3).at_ (Zaj [(2,[44])] (l.map U)++[(2,[41])]):=by have v:=o;rw[<-List.append_assoc]at v;exact v.left
 have q:Zam L (Zc (Zc s 3) (Zaj [((2:Nat),([44]:Txt))] (l.map U)).length).at_ ([(2,[41])]++(((2,[123])::h)++[u])):=o.right;have m:Zam L (Zc (Zc (Zc s 3) (Zaj [((2:Nat),([44]:Txt))] (l.map U)).length) 1).at_ (((2,[123])::h)++[u]):=q.right;have A:l.length<L.length+1:=by
  have M:l.length<=(Zaj [((2:Nat),([44]:Txt))] (l.map U)).length:=by
   cases e:l with
   |nil=>exact Nat.zero_le _
   |cons c r=>
    rw[List.map_cons,ZeJ,Yj,Yk];have q:1<=(U c).length:=List.length_pos_iff.2 (w c (by rw[e];simp)).2.some_;have m:=ZdG (U:=fun y:TS=>[((2:Nat),([44]:Txt))]++y) (r.map U) fun b _=>by simp
    rw[List.length_map]at m;omega
  have:=p.1;rw[Yj]at this;omega
 have k:(Zc s 3).deep+0<=200:=by have:(Zc s 3).deep=s.deep:=rfl;omega
 obtain⟨H,I,J⟩:=Zho (U:=U) (P:=fun c=>Zs ns f (Za ns c)) (g:=Zef) (.inl rfl) (.inr rfl) l (L.length+1) (Zc s 3) i k p A w;obtain⟨t,K,z2⟩:=z (Zc (Zc (Zc s 3) (Zaj [((2:Nat),([44]:Txt))] (l.map U)).length) 1) u i e1 m trivial;refine⟨.mk 4 [a] [] (Ze L s) (H++[t]),?_,Zcv hk D C (by rw[e];exact J.two (Za4.cons z2 (Za4.nil _)))⟩;unfold fnM;simp only;rw[Zfv i E (by decide),Zal (s:=Zc s 1) i F ha];simp only;rw[Zba (s:=Zc (Zc s 1) 1) i G,Zj,Zj];erw[I];simp only;rw[<-Zj (Zc s 3),K,Zj,Zj,Zj];simp only[Yj,Yk,Yl]
end
end
section
section
variable {L:List Tok}
theorem Zop {v:Int} (h:ZaH v) {x:Txt} (z:Int) (b:Zdq x=z) (hx:ZbM z≠x):ZbM v≠x:=fun e=>by
 have a:=ZeB h;rw[e,b]at a;subst a;exact hx e
theorem ZhX {a x:Txt} (ha:ZN a=true) (hx:ZN x=false):a≠x:=fun e=>by rw[e,hx]at ha;exact nomatch ha
theorem ZiN {ns:List Nd} (R:RightP ns):∀(f i:Nat) (n:Nd),ns[i]? = some n->ZS ns f n->∃u r,ZR ns f n=u::r/\u.2≠[38]/\u.2≠[41]
 |0,_,_,_,h=>h.elim
 |f+1,i,n,hn,h=>by
  have o:∀(k:Int) (m:Nat),k∈n.kids->ZS ns f (Za ns k)->∃u r,(if m<=ZB (Za ns k)then ZR ns f (Za ns k)else [(2,[40])]++ZR ns f (Za ns k)++[(2,[41])])=u::r/\u.2≠[38]/\u.2≠[41]:=fun k m hk a=>by
   split
   ·obtain⟨j,g⟩:=ZaA R hn hk;exact ZiN R f j _ g a
   ·exact⟨(2,[40]),ZR ns f (Za ns k)++[(2,[41])],by simp,by decide,by decide⟩
  rcases h.2 with⟨hk,v,r,hv,-⟩|⟨hk,s,r,hs⟩|⟨hk,k,b,-,a⟩|⟨hk,j,k,b,-,a,-⟩
  ·have c:=ZaR (R.node i n hn).2.1 (x:=v) (by rw[hv];simp);refine⟨(1,ZbM v),[],by simp[ZR,hk,num,hv],Zop c 246 (by decide) (by decide +kernel),Zop c 249 (by decide) (by decide +kernel)⟩
  ·have ha:=ZgD R hn (k:=0) (s:=s) (by rw[hs];rfl);refine⟨(0,s),[],by simp[ZR,hk,word,hs],ZhX ha (by decide),ZhX ha (by decide)⟩
  ·exact⟨(2,[45]),_,by simp[ZR,hk];rfl,by decide,by decide⟩
  ·have hm:(j:Int)∈n.kids:=List.mem_of_getElem? b;obtain⟨u,r,l,d,e⟩:=o j (max (ZB n) 1) hm a;refine⟨u,r++(ZhZ (num n 0)++(if ZB n+1<=ZB (Zv ns n 1)then ZR ns f (Zv ns n 1)else [(2,[40])]++ZR ns f (Zv ns n 1)++[(2,[41])])),?_,d,e⟩;rw[ZR];simp only[hk,Za1 b];rw[Yn (by decide),Yn (by decide),Yn (by decide),Yo trivial,l];simp only[List.cons_append,List.append_assoc]
theorem ZlK {ns:List Nd} (R:RightP ns) {f i:Nat} {n:Nd} (hn:ns[i]? = some n) (h:ZS ns f n):ZbK L (fun _=>True) [38] (ZR ns f n)/\ZbK L (fun _=>True) [41] (ZR ns f n):=by obtain⟨u,r,a,b,c⟩:=ZiN R f i n hn h;exact⟨⟨u,r,a,trivial,fun s e k=>ZH e k b⟩,⟨u,r,a,trivial,fun s e k=>ZH e k c⟩⟩
end
end
section
section
variable {L:List Tok}
theorem Zs.up {ns:List Nd}:∀{f g:Nat} {n:Nd} {t:Tr},Zs ns f n t->f<=g->Zs ns g n t
 |0,_,_,_,h,_=>h.elim
 |f+1,0,_,_,_,hg=>absurd hg (by omega)
 |f+1,g+1,n,.mk k w u p ks,h,hg=>by
  obtain⟨a,b,d,e,j⟩:=h;exact⟨a,b,d,e,fun i t c l hc=>Zs.up (j i t c l hc) (by omega)⟩
theorem Zhm {ns:List Nd} (R:RightP ns) {f i:Nat} {k:Int} {d:Int} {st:PS->Tr×PS} {U:Int->TS} (hd:0<=d) (hn:ns[i]? = some (Za ns k)) (hk:(Za ns k).kind=7) (n:∀c∈(Za ns k).kids,ZZ L d st (U c) gT (Zs ns f (Za ns c))/\ZbK L gT [125] (U c)) :
  Ze3 L ns (f+1) (d+1) st ((2,[123])::(((Za ns k).kids.map U).flatten++[(2,[125])])) k:=by
 obtain⟨s,r,b⟩:=R.node i _ hn;have h:Zm ns (Za ns k)=(ZF (Za ns k) 0 0&&ZbJ ns (Za ns k).kids ZcJ):=by simp[Zm,hk]
 rw[h,Bool.and_eq_true]at b;have a:=ZaL b.1;have m:=ZlG (L:=L) (st:=st) (U:=U) (P:=fun c=>Zs ns f (Za ns c)) (g:=gT) (by unfold gT;decide) hd (Za ns k).kids n;intro _ u e e1 q o;obtain⟨t,j,v,p,l,rfl⟩:=m _ u e e1 q o;exact⟨_,j,Zcv hk (List.length_eq_zero_iff.1 a.1) (List.length_eq_zero_iff.1 a.2) l⟩
theorem Zcz {w:Txt} {r:TS} (a:w≠Zem) (b:w≠[125]):ZbK L gT [125] ((0,w)::r):=
 ⟨(0,w),r,rfl,a,fun _ e h=>ZH e h b⟩
theorem Zgv {ns:List Nd} (R:RightP ns) {f i:Nat} {n:Nd} (hn:ns[i]? = some n) (h:Zbj ns f n):ZbK L gT [125] (ZL ns f n):=by
 cases f with
 |zero=>exact h.elim
 |succ f=>
  have b:∀{a:Txt},n.words[0]? = some a->n.kind=9->ZbK L gT [125] (ZL ns (f+1) n):=fun {a} ha hk=>by
   have hx:=ZgD R hn ha;have e:ZL ns (f+1) n=(0,a)::([(2,[61])]++ZR ns f (Zv ns n 0)++[(2,[59])]):=by simp[ZL,hk,word,ha]
   rw[e];exact Zcz (ZhX hx (by decide)) (ZhX hx (by decide))
  rcases h with⟨hk|hk,⟨a,ha⟩,_⟩|⟨hk,_⟩|⟨hk,_⟩|⟨hk,_⟩|⟨hk,_⟩|⟨hk,_⟩|⟨hk,_⟩|⟨hk,_⟩|hk
  ·have e:∃r,ZL ns (f+1) n=(0,[108,101,116])::r:=⟨_,by simp[ZL,hk];rfl⟩
   obtain⟨r,e⟩:=e;rw[e];exact Zcz (by decide) (by decide)
  ·exact b (a:=a) (by rw[ha];rfl) hk
  ·have e:∃r,ZL ns (f+1) n=(0,[111,112,101,110])::r:=⟨_,by simp[ZL,hk];rfl⟩
   obtain⟨r,e⟩:=e;rw[e];exact Zcz (by decide) (by decide)
  ·have e:∃r,ZL ns (f+1) n=(0,[100,111])::r:=⟨_,by simp[ZL,hk];rfl⟩
   obtain⟨r,e⟩:=e;rw[e];exact Zcz (by decide) (by decide)
  ·have e:∃r,ZL ns (f+1) n=(0,[115,112,108,105,116])::r:=⟨_,by simp[ZL,hk];rfl⟩
   obtain⟨r,e⟩:=e;rw[e];exact Zcz (by decide) (by decide)
  ·have e:∃r,ZL ns (f+1) n=(0,[99,97,108,108])::r:=⟨_,by simp[ZL,hk];rfl⟩
   obtain⟨r,e⟩:=e;rw[e];exact Zcz (by decide) (by decide)
  ·have e:∃r,ZL ns (f+1) n=(0,[105,102])::r:=⟨_,by simp[ZL,hk];rfl⟩
   obtain⟨r,e⟩:=e;rw[e];exact Zcz (by decide) (by decide)
  ·have e:∃r,ZL ns (f+1) n=(0,[119,104,105,108,101])::r:=⟨_,by simp[ZL,hk];rfl⟩
   obtain⟨r,e⟩:=e;rw[e];exact Zcz (by decide) (by decide)
  ·have e:∃r,ZL ns (f+1) n=(0,[114,101,116,117,114,110])::r:=⟨_,by simp[ZL,hk];rfl⟩
   obtain⟨r,e⟩:=e;rw[e];exact Zcz (by decide) (by decide)
  ·have e:ZL ns (f+1) n=(0,[101,120,105,116])::[(2,[59])]:=by simp[ZL,hk]
   rw[e];exact Zcz (by decide) (by decide)
end
end
end Go.Proofs.YtfbepcelkijgkaaGreatDoor
