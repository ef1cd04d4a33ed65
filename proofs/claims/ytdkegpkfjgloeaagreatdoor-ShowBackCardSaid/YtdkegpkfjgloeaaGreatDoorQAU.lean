import Derived.Test.YtdkegpkfjgloeaaGreatDoorQAT
set_option maxRecDepth 100000
set_option maxHeartbeats 8000000
namespace Go.Proofs.YtdkegpkfjgloeaaGreatDoor
section
section
variable {L:List Tok}
theorem ZlD {a:Txt} {x:Txt} {r:TS} (ha:ZQ a=true) (hx:ZQ x=false):ZbO L (fun _=>True) x ((0,a)::r):=
 ⟨(0,a),r,rfl,trivial,fun s e h=>ZJ e h fun e=>by rw[e,hx]at ha;exact nomatch ha⟩
theorem Zkx {ns:List Nd} {f:Nat} {n:Nd} {a:Txt} {d:Int} {ex:PS->Tr×PS} (hk:n.kind=15) (j:n.words=[a]) (i:n.nums=[]) (b:n.kids=[]) (ha:ZQ a=true):Zad L d (Zbg L ex) [(2,[38]),(0,a)] gX (Zv ns (f+1) n)/\ZbO L (fun _=>True) [41] [(2,[38]),(0,a)]:=by refine⟨fun s u c _ g _=>?_,(2,[38]),_,rfl,trivial,fun s e h=>ZJ e h (by decide)⟩;have k:kt (Zl L s.at_)=(2,[38]):=g.left.head;have l:kt (Zl L (Zd s 1).at_)=(0,a):=g.left.tail.head;refine⟨.mk 15 [a] [] (Zf L s) [],?_,Zdf hk j i b⟩;unfold Zbg;rw[ZcL c k,Yo rfl,Zak];simp only;rw[Zaq (s:=Zd s 1) c l ha];rfl
theorem Zmd {d:Int} {ex:PS->Tr×PS} {us:TS} {T:Tr->Prop} (f:Zad L d ex us gX T) (g:ZbO L (fun _=>True) [38] us):Zad L d (Zbg L ex) us gX T:=fun s u b e1 a h=>by
 obtain⟨t,c,e⟩:=f s u b e1 a h;obtain⟨v,r,hv,-,hn⟩:=g;have i:kt (Zl L s.at_)=v:=by rw[hv]at a;exact a.left.head
 refine⟨t,?_,e⟩;unfold Zbg;rw[hn s b i,Yn (by decide),c]
theorem Zir {ns:List Nd} {f:Nat} {n:Nd} {d:Int} {ex:PS->Tr×PS} {U:Int->TS} {s:PS} {rest:TS} (a:s.err=0) (e1:s.deep+d<=200) (h:∀c∈n.kids,Zad L d (Zbg L ex) (U c) gX (Zv ns f (Zb ns c))/\ZbO L (fun _=>True) [41] (U c)) (i:Zar L s.at_ ([(2,[40])]++(Zao [(2,[44])] (n.kids.map U)++([(2,[41]),(2,[59])]++rest)))) :
  ∃ts,Zal L (Zbg L ex) (L.length+1) true [] (Zg L [40] s)=(ts,Zd s ((Zao [(2,[44])] (n.kids.map U)).length+2))/\Za6 (fun c=>Zv ns f (Zb ns c)) n.kids ts/\Zg L [59] (Zd s ((Zao [(2,[44])] (n.kids.map U)).length+2))=Zd s ((Zao [(2,[44])] (n.kids.map U)).length+3):=by
 have p:kt (Zl L s.at_)=(2,[40]):=i.left.head;have e:Zar L (Zd s 1).at_ (Zao [(2,[44])] (n.kids.map U)++([(2,[41]),(2,[59])]++rest)):=i.right;have g:Zar L (Zd s 1).at_ (Zao [(2,[44])] (n.kids.map U)++[(2,[41])]):=by
  have m:Zar L (Zd s 1).at_ ((Zao [(2,[44])] (n.kids.map U)++[(2,[41])])++([(2,[59])]++rest)):=by simpa only[List.append_assoc,List.cons_append,List.nil_append]using e
  exact m.left
 have k:Zar L (Zd (Zd s 1) (Zao [(2,[44])] (n.kids.map U)).length).at_ ([(2,[41]),(2,[59])]++rest):=e.right;have j:kt (Zl L (Zd (Zd (Zd s 1) (Zao [(2,[44])] (n.kids.map U)).length) 1).at_)=(2,[59]):=k.left.tail.head;have o:n.kids.length<L.length+1:=by
  have u:n.kids.length<=(Zao [((2:Nat),([44]:Txt))] (n.kids.map U)).length:=by
   cases hks:n.kids with
   |nil=>exact Nat.zero_le _
   |cons c r=>
    rw[List.map_cons,ZeE,Yj,Yk];have v:1<=(U c).length:=List.length_pos_iff.2 (h c (by rw[hks];simp)).2.some_;have l:=ZdG (U:=fun y:TS=>[((2:Nat),([44]:Txt))]++y) (r.map U) fun b _=>by simp
    rw[List.length_map]at l;omega
  have:=g.1;rw[Yj]at this;omega
 obtain⟨ts,q,t⟩:=Zhe (U:=U) (P:=fun c=>Zv ns f (Zb ns c)) Zqn Zqm n.kids (L.length+1) (Zd s 1) a e1 g o h;refine⟨ts,?_,t,?_⟩
 ·rw[Zbe a p,q,Zn,show 1+((Zao [((2:Nat),([44]:Txt))] (n.kids.map U)).length+1)=(Zao [((2:Nat),([44]:Txt))] (n.kids.map U)).length+2 by omega]
 ·rw[Zn,Zn,show 1+((Zao [((2:Nat),([44]:Txt))] (n.kids.map U)).length+1)=(Zao [((2:Nat),([44]:Txt))] (n.kids.map U)).length+2 by omega]at j;rw[Zbe (s:=Zd s _) a j,Zn]
theorem Zjv {ex:PS->Tr×PS} {g:Nat} {s:PS} (a:s.err=0) (b:kt (Zl L s.at_)=(0,[99,97,108,108])):Zu L ex (g+1) s=Zc2 L ex (Zf L s) (Zd s 1):=by rw[Zu];simp only;rw[ZJ a b (by decide),Yn (by decide),Zdz a b (.inr (by decide)),Yn (by decide),ZJ a b (by decide),Yn (by decide),ZJ a b (by decide),Yn (by decide),ZJ a b (by decide),Yn (by decide),Zb5 a b (by decide),Yo rfl,Zak]
theorem Zm1 {ns:List Nd} {f g:Nat} {n:Nd} {a:Txt} {d:Int} {ex:PS->Tr×PS} {U:Int->TS} (hk:n.kind=14) (l:n.words=[a]) (k:n.nums=[]) (ha:ZQ a=true) (i:∀c∈n.kids,Zad L d (Zbg L ex) (U c) gX (Zv ns f (Zb ns c))/\ZbO L (fun _=>True) [41] (U c)):Zad L d (Zu L ex (g+1)) ([(0,[99,97,108,108]),(0,a)]++([(2,[40])]++(Zao [(2,[44])] (n.kids.map U)++[(2,[41]),(2,[59])]))) gT (Zv ns (f+1) n):=fun s u b e1 j _=>by
 have e:Zar L s.at_ ([(0,[99,97,108,108]),(0,a)]++([(2,[40])]++(Zao [(2,[44])] (n.kids.map U)++([(2,[41]),(2,[59])]++[u])))):=by simpa only[List.append_assoc,List.cons_append,List.nil_append]using j
 have m:kt (Zl L s.at_)=(0,[99,97,108,108]):=e.left.head;have o:kt (Zl L (Zd s 1).at_)=(0,a):=e.left.tail.head;have h:Zar L (Zd s 2).at_ ([(2,[40])]++(Zao [(2,[44])] (n.kids.map U)++([(2,[41]),(2,[59])]++[u]))):=e.right;have p:kt (Zl L (Zd (Zd s 1) 1).at_)=(2,[40]):=h.left.head;obtain⟨q,r,t,v⟩:=Zir (s:=Zd s 2) b e1 i h;refine⟨.mk 14 [a] [] (Zf L s) q,?_,Zcu hk l k t⟩;rw[Zjv b m];unfold Zc2;rw[Zaq (s:=Zd s 1) b o ha];simp only;rw[ZJ (s:=Zd (Zd s 1) 1) b p (by decide),Yn (by decide),Zn];simp only;erw[r];simp only;rw[v,Zn];simp only[Yj,Yk,Yl,Prod.mk.injEq,true_and]
 congr 1
 omega
theorem Zkm {ns:List Nd} {f g:Nat} {n:Nd} {a b:Txt} {d:Int} {ex:PS->Tr×PS} {U:Int->TS} (hk:n.kind=14) (o:n.words=[b,a]) (m:n.nums=[]) (ha:ZQ a=true) (k:ZQ b=true) (j:∀c∈n.kids,Zad L d (Zbg L ex) (U c) gX (Zv ns f (Zb ns c))/\ZbO L (fun _=>True) [41] (U c)):Zad L d (Zu L ex (g+1)) ([(0,[99,97,108,108]),(0,a),(2,[61]),(0,b)]++([(2,[40])]++(Zao [(2,[44])] (n.kids.map U)++[(2,[41]),(2,[59])]))) gT (Zv ns (f+1) n):=fun s u e e1 l _=>by
 have h:Zar L s.at_ ([(0,[99,97,108,108]),(0,a),(2,[61]),(0,b)]++([(2,[40])]++(Zao [(2,[44])] (n.kids.map U)++([(2,[41]),(2,[59])]++[u])))):=by simpa only[List.append_assoc,List.cons_append,List.nil_append]using l
 have p:kt (Zl L s.at_)=(0,[99,97,108,108]):=h.left.head;have q:kt (Zl L (Zd s 1).at_)=(0,a):=h.left.tail.head;have r:kt (Zl L (Zd (Zd s 1) 1).at_)=(2,[61]):=h.left.tail.tail.head;have t:kt (Zl L (Zd (Zd (Zd s 1) 1) 1).at_)=(0,b):=h.left.tail.tail.tail.head;have i:Zar L (Zd s 4).at_ ([(2,[40])]++(Zao [(2,[44])] (n.kids.map U)++([(2,[41]),(2,[59])]++[u]))):=h.right;obtain⟨v,w,y,z⟩:=Zir (s:=Zd s 4) e e1 j i;refine⟨.mk 14 [b,a] [] (Zf L s) v,?_,Zcu hk o m y⟩;rw[Zjv e p];unfold Zc2;rw[Zaq (s:=Zd s 1) e q ha];simp only;rw[ZcL (s:=Zd (Zd s 1) 1) e r,Yo rfl,Zak,Zaq (s:=Zd (Zd (Zd s 1) 1) 1) e t k,Zn,Zn,Zn];simp only;erw[w];simp only;rw[z,Zn];simp only[Yj,Yk,Yl,Prod.mk.injEq,true_and]
 congr 1
 omega
end
end
section
section
variable {L:List Tok}
theorem Zl9 {ns:List Nd} {f g:Nat} {n:Nd} {l:List Int} {c:Int} {a b:Txt} {p q r:Int} {d:Int} {ex:PS->Tr×PS} {i:TS} (hk:n.kind=13) (S:n.words=[a,b]) (R:n.nums=[p,q,r]) (w:n.kids=l++[c]) (ha:ZQ a=true) (N:ZQ b=true) (y:1<=p) (z:p<=4) (hq:Zbf q) (Q:Zbf r) (A:1<=q) (B:1<=r) (M:∀c∈l,ZgA ns c) (C:ZaN ns l=true) (P:∀c∈l,2<=ZaC ns c) (K:ZeU L ns (f+1) d (Zu L ex g) ((2,[123])::i) c) :
  Zad L d (Zu L ex (g+1)) ([(0,[115,112,108,105,116]),(0,a),(2,[61]),(0,b),(0,ZaH p),(1,ZbP q),(2,[47]),(1,ZbP r)]++((l.map fun k=>Zbw (Zb ns k)).flatten++((2,[123])::i))) gT (Zv ns (f+2) n):=fun s u e e1 O _=>by
 have h:Zar L s.at_ ([(0,[115,112,108,105,116]),(0,a),(2,[61]),(0,b),(0,ZaH p),(1,ZbP q),(2,[47]),(1,ZbP r)]++((l.map fun k=>Zbw (Zb ns k)).flatten++(((2,[123])::i)++[u]))):=by simpa only[List.append_assoc]using O
 have m:kt (Zl L s.at_)=(0,[115,112,108,105,116]):=h.left.head;have T:kt (Zl L (Zd s 1).at_)=(0,a):=h.left.tail.head;have U:kt (Zl L (Zd (Zd s 1) 1).at_)=(2,[61]):=h.left.tail.tail.head;have V:kt (Zl L (Zd (Zd (Zd s 1) 1) 1).at_)=(0,b):=h.left.tail.tail.tail.head;have W:kt (Zl L (Zd (Zd (Zd (Zd s 1) 1) 1) 1).at_)=(0,ZaH p):=h.left.tail.tail.tail.tail.head;have X:kt (Zl L (Zd (Zd (Zd (Zd (Zd s 1) 1) 1) 1) 1).at_)=(1,ZbP q):=h.left.tail.tail.tail.tail.tail.head;have Y:kt (Zl L (Zd (Zd (Zd (Zd (Zd (Zd s 1) 1) 1) 1) 1) 1).at_)=(2,[47]):=h.left.tail.tail.tail.tail.tail.tail.head;have Z:kt (Zl L (Zd (Zd (Zd (Zd (Zd (Zd (Zd s 1) 1) 1) 1) 1) 1) 1).at_)=(1,ZbP r):=h.left.tail.tail.tail.tail.tail.tail.tail.head;have D:Zar L (Zd s 8).at_ ((l.map fun k=>Zbw (Zb ns k)).flatten++(((2,[123])::i)++[u])):=h.right;have H:Zar L (Zd s 8).at_ ((l.map fun k=>Zbw (Zb ns k)).flatten++[(2,[123])]):=by
  have J:Zar L (Zd s 8).at_ (((l.map fun k=>Zbw (Zb ns k)).flatten++[(2,[123])])++(i++[u])):=by simpa only[List.append_assoc,List.cons_append,List.nil_append]using D
  exact J.left
 obtain⟨ts,l1,E,F,y2,y3,y4,y5,y6,-⟩:=Zgg (f:=f) (j:=2) (by decide) (by decide) l M C P (s:=Zd s 8) e H Zg9.open_;have G:E=[]:=by
  cases E with
  |nil=>rfl
  |cons x o=>have g1:=y6 x (by simp);have g2:=(y5 x (by simp)).which.2;omega
 subst G;rw[List.append_nil]at F;subst F;have I:Zar L (Zd (Zd s 8) ((l.map fun k=>Zbw (Zb ns k)).flatten).length).at_ (((2,[123])::i)++[u]):=D.right;obtain⟨t,x1,x2⟩:=K (Zd (Zd s 8) ((l.map fun k=>Zbw (Zb ns k)).flatten).length) u e e1 I trivial;refine⟨.mk 13 [a,b] [p,q,r] (Zf L s) (ts++[t]),?_,Zcu hk S R (by rw[w];exact y3.two (Za6.cons x2 (Za6.nil _)))⟩;rw[Zu];simp only;rw[ZJ e m (by decide),Yn (by decide),Zdz e m (.inr (by decide)),Yn (by decide),ZJ e m (by decide),Yn (by decide),ZJ e m (by decide),Yn (by decide),Zb5 e m (by decide),Yo rfl,Zak];unfold Zfm;rw[Zaq (s:=Zd s 1) e T ha];simp only;rw[Zbe (s:=Zd (Zd s 1) 1) e U,Zaq (s:=Zd (Zd (Zd s 1) 1) 1) e V N];simp only;rw[ZiJ (s:=Zd (Zd (Zd (Zd s 1) 1) 1) 1) (.inr rfl) y z e W];simp only;rw[Zfi (s:=Zd (Zd (Zd (Zd (Zd s 1) 1) 1) 1) 1) (v:=q) e X (Zez hq) A];simp only;rw[Zbe (s:=Zd (Zd (Zd (Zd (Zd (Zd s 1) 1) 1) 1) 1) 1) e Y,Zfi (s:=Zd (Zd (Zd (Zd (Zd (Zd (Zd s 1) 1) 1) 1) 1) 1) 1) (v:=r) e Z (Zez Q) B,Zn,Zn,Zn,Zn,Zn,Zn,Zn];simp only;erw[y2];simp only;rw[x1,Zn,Zn];simp only[Yj,Yk,Yl]
theorem Zql {ns:List Nd} {f:Nat} {n:Nd} {l:List Int} {c:Int} {a:Txt} {d:Int} {ex st:PS->Tr×PS} {U:Int->TS} {h:TS} (hd:0<=d) (hk:n.kind=4) (D:n.words=[a]) (C:n.nums=[]) (e:n.kids=l++[c]) (ha:ZQ a=true) (w:∀c∈l,Zad L 0 (ZaW L) (U c) Zed (Zv ns f (Zb ns c))/\ZbO L (fun _=>True) [41] (U c)) (z:ZeU L ns f d st ((2,[123])::h) c) :
  Zad L d (fnM L ex st) ([(0,[102,110]),(0,a),(2,[40])]++(Zao [(2,[44])] (l.map U)++([(2,[41])]++((2,[123])::h)))) (fun _=>True) (Zv ns (f+1) n):=fun s u i e1 B _=>by
 have j:Zar L s.at_ ([(0,[102,110]),(0,a),(2,[40])]++(Zao [(2,[44])] (l.map U)++([(2,[41])]++(((2,[123])::h)++[u])))):=by simpa only[List.append_assoc]using B
 have E:kt (Zl L s.at_)=(0,[102,110]):=j.left.head;have F:kt (Zl L (Zd s 1).at_)=(0,a):=j.left.tail.head;have G:kt (Zl L (Zd (Zd s 1) 1).at_)=(2,[40]):=j.left.tail.tail.head;have o:Zar L (Zd s 3).at_ (Zao [(2,[44])] (l.map U)++([(2,[41])]++(((2,[123])::h)++[u]))):=j.right;have p:Zar L (Zd s 3).at_ (Zao [(2,[44])] (l.map U)++[(2,[41])]):=by have v:=o;rw[<-List.append_assoc]at v;exact v.left
 have q:Zar L (Zd (Zd s 3) (Zao [((2:Nat),([44]:Txt))] (l.map U)).length).at_ ([(2,[41])]++(((2,[123])::h)++[u])):=o.right;have m:Zar L (Zd (Zd (Zd s 3) (Zao [((2:Nat),([44]:Txt))] (l.map U)).length) 1).at_ (((2,[123])::h)++[u]):=q.right;have A:l.length<L.length+1:=by
  have M:l.length<=(Zao [((2:Nat),([44]:Txt))] (l.map U)).length:=by
   cases e:l with
   |nil=>exact Nat.zero_le _
   |cons c r=>
    rw[List.map_cons,ZeE,Yj,Yk];have q:1<=(U c).length:=List.length_pos_iff.2 (w c (by rw[e];simp)).2.some_;have m:=ZdG (U:=fun y:TS=>[((2:Nat),([44]:Txt))]++y) (r.map U) fun b _=>by simp
    rw[List.length_map]at m;omega
  have:=p.1;rw[Yj]at this;omega
 have k:(Zd s 3).deep+0<=200:=by have:(Zd s 3).deep=s.deep:=rfl;omega
 obtain⟨H,I,J⟩:=Zhe (U:=U) (P:=fun c=>Zv ns f (Zb ns c)) (g:=Zed) (.inl rfl) (.inr rfl) l (L.length+1) (Zd s 3) i k p A w;obtain⟨t,K,z2⟩:=z (Zd (Zd (Zd s 3) (Zao [((2:Nat),([44]:Txt))] (l.map U)).length) 1) u i e1 m trivial;refine⟨.mk 4 [a] [] (Zf L s) (H++[t]),?_,Zcu hk D C (by rw[e];exact J.two (Za6.cons z2 (Za6.nil _)))⟩;unfold fnM;simp only;rw[Zfp i E (by decide),Zaq (s:=Zd s 1) i F ha];simp only;rw[Zbe (s:=Zd (Zd s 1) 1) i G,Zn,Zn];erw[I];simp only;rw[<-Zn (Zd s 3),K,Zn,Zn,Zn];simp only[Yj,Yk,Yl]
end
end
section
section
variable {L:List Tok}
theorem Zov {v:Int} (h:Zbf v) {x:Txt} (z:Int) (b:ZdU x=z) (hx:ZbP z≠x):ZbP v≠x:=fun e=>by
 have a:=Zez h;rw[e,b]at a;subst a;exact hx e
theorem ZhO {a x:Txt} (ha:ZQ a=true) (hx:ZQ x=false):a≠x:=fun e=>by rw[e,hx]at ha;exact nomatch ha
theorem Ziz {ns:List Nd} (R:RightP ns):∀(f i:Nat) (n:Nd),ns[i]? = some n->ZZ ns f n->∃u r,ZY ns f n=u::r/\u.2≠[38]/\u.2≠[41]
 |0,_,_,_,h=>h.elim
 |f+1,i,n,hn,h=>by
  have p:∀(k:Int) (m:Nat),k∈n.kids->ZZ ns f (Zb ns k)->∃u r,(if m<=ZD (Zb ns k)then ZY ns f (Zb ns k)else [(2,[40])]++ZY ns f (Zb ns k)++[(2,[41])])=u::r/\u.2≠[38]/\u.2≠[41]:=fun k m hk a=>by
   split
   ·obtain⟨j,l⟩:=ZaI R hn hk;exact Ziz R f j _ l a
   ·exact⟨(2,[40]),ZY ns f (Zb ns k)++[(2,[41])],by simp,by decide,by decide⟩
  rcases h.2 with⟨hk,v,r,hv,-⟩|⟨hk,s,r,d⟩|⟨hk,k,b,-,a⟩|⟨hk,j,k,b,-,a,-⟩
  ·have c:=ZaY (R.node i n hn).2.1 (x:=v) (by rw[hv];simp);refine⟨(1,ZbP v),[],by simp[ZY,hk,num,hv],Zov c 246 (by decide) (by decide +kernel),Zov c 249 (by decide) (by decide +kernel)⟩
  ·have ha:=Zgv R hn (k:=0) (s:=s) (by rw[d];rfl);refine⟨(0,s),[],by simp[ZY,hk,word,d],ZhO ha (by decide),ZhO ha (by decide)⟩
  ·exact⟨(2,[45]),_,by simp[ZY,hk];rfl,by decide,by decide⟩
  ·have hm:(j:Int)∈n.kids:=List.mem_of_getElem? b;obtain⟨u,r,o,e,g⟩:=p j (max (ZD n) 1) hm a;refine⟨u,r++(ZhR (num n 0)++(if ZD n+1<=ZD (Zx ns n 1)then ZY ns f (Zx ns n 1)else [(2,[40])]++ZY ns f (Zx ns n 1)++[(2,[41])])),?_,e,g⟩;rw[ZY];simp only[hk,Za2 b];rw[Yn (by decide),Yn (by decide),Yn (by decide),Yo trivial,o];simp only[List.cons_append,List.append_assoc]
theorem Zly {ns:List Nd} (R:RightP ns) {f i:Nat} {n:Nd} (hn:ns[i]? = some n) (h:ZZ ns f n):ZbO L (fun _=>True) [38] (ZY ns f n)/\ZbO L (fun _=>True) [41] (ZY ns f n):=by obtain⟨u,r,a,b,c⟩:=Ziz R f i n hn h;exact⟨⟨u,r,a,trivial,fun s e k=>ZJ e k b⟩,⟨u,r,a,trivial,fun s e k=>ZJ e k c⟩⟩
end
end
section
section
variable {L:List Tok}
theorem Zv.up {ns:List Nd}:∀{f g:Nat} {n:Nd} {t:Tr},Zv ns f n t->f<=g->Zv ns g n t
 |0,_,_,_,h,_=>h.elim
 |f+1,0,_,_,_,hg=>absurd hg (by omega)
 |f+1,g+1,n,.mk k w u p ks,h,hg=>by
  obtain⟨a,b,d,e,j⟩:=h;exact⟨a,b,d,e,fun i t c l hc=>Zv.up (j i t c l hc) (by omega)⟩
theorem Zhc {ns:List Nd} (R:RightP ns) {f i:Nat} {k:Int} {d:Int} {st:PS->Tr×PS} {U:Int->TS} (hd:0<=d) (hn:ns[i]? = some (Zb ns k)) (hk:(Zb ns k).kind=7) (n:∀c∈(Zb ns k).kids,Zad L d st (U c) gT (Zv ns f (Zb ns c))/\ZbO L gT [125] (U c)) :
  ZeU L ns (f+1) (d+1) st ((2,[123])::(((Zb ns k).kids.map U).flatten++[(2,[125])])) k:=by
 obtain⟨s,r,b⟩:=R.node i _ hn;have h:Zo ns (Zb ns k)=(Zr (Zb ns k) 0 0&&Zat ns (Zb ns k).kids ZcT):=by simp[Zo,hk]
 rw[h,Bool.and_eq_true]at b;have a:=ZaR b.1;have m:=Zlu (L:=L) (st:=st) (U:=U) (P:=fun c=>Zv ns f (Zb ns c)) (g:=gT) (by unfold gT;decide) hd (Zb ns k).kids n;intro _ u e e1 q o;obtain⟨t,j,v,p,l,rfl⟩:=m _ u e e1 q o;exact⟨_,j,Zcu hk (List.length_eq_zero_iff.1 a.1) (List.length_eq_zero_iff.1 a.2) l⟩
theorem Zcy {w:Txt} {r:TS} (a:w≠Zem) (b:w≠[125]):ZbO L gT [125] ((0,w)::r):=
 ⟨(0,w),r,rfl,a,fun _ e h=>ZJ e h b⟩
theorem Zgn {ns:List Nd} (R:RightP ns) {f i:Nat} {n:Nd} (hn:ns[i]? = some n) (h:Zbp ns f n):ZbO L gT [125] (ZM ns f n):=by
 cases f with
 |zero=>exact h.elim
 |succ f=>
  have b:∀{a:Txt},n.words[0]? = some a->n.kind=9->ZbO L gT [125] (ZM ns (f+1) n):=fun {a} ha hk=>by
   have hx:=Zgv R hn ha;have e:ZM ns (f+1) n=(0,a)::([(2,[61])]++ZY ns f (Zx ns n 0)++[(2,[59])]):=by simp[ZM,hk,word,ha]
   rw[e];exact Zcy (ZhO hx (by decide)) (ZhO hx (by decide))
  rcases h with⟨hk|hk,⟨a,ha⟩,_⟩|⟨hk,_⟩|⟨hk,_⟩|⟨hk,_⟩|⟨hk,_⟩|⟨hk,_⟩|⟨hk,_⟩|⟨hk,_⟩|hk
  ·have e:∃r,ZM ns (f+1) n=(0,[108,101,116])::r:=⟨_,by simp[ZM,hk];rfl⟩
   obtain⟨r,e⟩:=e;rw[e];exact Zcy (by decide) (by decide)
  ·exact b (a:=a) (by rw[ha];rfl) hk
  ·have e:∃r,ZM ns (f+1) n=(0,[111,112,101,110])::r:=⟨_,by simp[ZM,hk];rfl⟩
   obtain⟨r,e⟩:=e;rw[e];exact Zcy (by decide) (by decide)
  ·have e:∃r,ZM ns (f+1) n=(0,[100,111])::r:=⟨_,by simp[ZM,hk];rfl⟩
   obtain⟨r,e⟩:=e;rw[e];exact Zcy (by decide) (by decide)
  ·have e:∃r,ZM ns (f+1) n=(0,[115,112,108,105,116])::r:=⟨_,by simp[ZM,hk];rfl⟩
   obtain⟨r,e⟩:=e;rw[e];exact Zcy (by decide) (by decide)
  ·have e:∃r,ZM ns (f+1) n=(0,[99,97,108,108])::r:=⟨_,by simp[ZM,hk];rfl⟩
   obtain⟨r,e⟩:=e;rw[e];exact Zcy (by decide) (by decide)
  ·have e:∃r,ZM ns (f+1) n=(0,[105,102])::r:=⟨_,by simp[ZM,hk];rfl⟩
   obtain⟨r,e⟩:=e;rw[e];exact Zcy (by decide) (by decide)
  ·have e:∃r,ZM ns (f+1) n=(0,[119,104,105,108,101])::r:=⟨_,by simp[ZM,hk];rfl⟩
   obtain⟨r,e⟩:=e;rw[e];exact Zcy (by decide) (by decide)
  ·have e:∃r,ZM ns (f+1) n=(0,[114,101,116,117,114,110])::r:=⟨_,by simp[ZM,hk];rfl⟩
   obtain⟨r,e⟩:=e;rw[e];exact Zcy (by decide) (by decide)
  ·have e:ZM ns (f+1) n=(0,[101,120,105,116])::[(2,[59])]:=by simp[ZM,hk]
   rw[e];exact Zcy (by decide) (by decide)
end
end
end Go.Proofs.YtdkegpkfjgloeaaGreatDoor
