import Derived.Test.YtfbepcelkijgkaaGreatDoorQBN
set_option maxRecDepth 100000
set_option maxHeartbeats 8000000
namespace Go.Proofs.YtfbepcelkijgkaaGreatDoor
section
section
variable {L:List Tok}
theorem Zlv {a:Txt} {x:Txt} {r:TS} (ha:ZQ a=true) (hx:ZQ x=false):ZbD L (fun _=>True) x ((0,a)::r):=
 ⟨(0,a),r,rfl,trivial,fun s e h=>ZI e h fun e=>by rw[e,hx]at ha;exact nomatch ha⟩
theorem Zkx {ns:List Nd} {f:Nat} {n:Nd} {a:Txt} {d:Int} {ex:PS->Tr×PS} (hk:n.kind=15) (j:n.words=[a]) (i:n.nums=[]) (b:n.kids=[]) (ha:ZQ a=true):ZZ L d (Za4 L ex) [(2,[38]),(0,a)] gX (Zs ns (f+1) n)/\ZbD L (fun _=>True) [41] [(2,[38]),(0,a)]:=by refine⟨fun s u c _ g _=>?_,(2,[38]),_,rfl,trivial,fun s e h=>ZI e h (by decide)⟩;have k:kt (Zl L s.at_)=(2,[38]):=g.left.head;have l:kt (Zl L (Zc s 1).at_)=(0,a):=g.left.tail.head;refine⟨.mk 15 [a] [] (Ze L s) [],?_,ZcY hk j i b⟩;unfold Za4;rw[Zct c k,Yo rfl,Zaf];simp only;rw[Zaj (s:=Zc s 1) c l ha];rfl
theorem Zl5 {d:Int} {ex:PS->Tr×PS} {us:TS} {T:Tr->Prop} (g:ZZ L d ex us gX T) (h:ZbD L (fun _=>True) [38] us):ZZ L d (Za4 L ex) us gX T:=fun s u b c a i=>by
 obtain⟨t,e,f⟩:=g s u b c a i;obtain⟨v,r,k,-,j⟩:=h;have l:kt (Zl L s.at_)=v:=by rw[k]at a;exact a.left.head
 refine⟨t,?_,f⟩;unfold Za4;rw[j s b l,Yn (by decide),e]
theorem Zik {ns:List Nd} {f:Nat} {n:Nd} {d:Int} {ex:PS->Tr×PS} {U:Int->TS} {s:PS} {rest:TS} (a:s.err=0) (k:s.deep+d<=200) (h:∀c∈n.kids,ZZ L d (Za4 L ex) (U c) gX (Zs ns f (Zf ns c))/\ZbD L (fun _=>True) [41] (U c)) (i:Zal L s.at_ ([(2,[40])]++(ZaA [(2,[44])] (n.kids.map U)++([(2,[41]),(2,[59])]++rest)))) :
  ∃ts,Zag L (Za4 L ex) (L.length+1) true [] (Zg L [40] s)=(ts,Zc s ((ZaA [(2,[44])] (n.kids.map U)).length+2))/\ZaV (fun c=>Zs ns f (Zf ns c)) n.kids ts/\Zg L [59] (Zc s ((ZaA [(2,[44])] (n.kids.map U)).length+2))=Zc s ((ZaA [(2,[44])] (n.kids.map U)).length+3):=by
 have q:kt (Zl L s.at_)=(2,[40]):=i.left.head;have e:Zal L (Zc s 1).at_ (ZaA [(2,[44])] (n.kids.map U)++([(2,[41]),(2,[59])]++rest)):=i.right;have g:Zal L (Zc s 1).at_ (ZaA [(2,[44])] (n.kids.map U)++[(2,[41])]):=by
  have o:Zal L (Zc s 1).at_ ((ZaA [(2,[44])] (n.kids.map U)++[(2,[41])])++([(2,[59])]++rest)):=by simpa only[List.append_assoc,List.cons_append,List.nil_append]using e
  exact o.left
 have l:Zal L (Zc (Zc s 1) (ZaA [(2,[44])] (n.kids.map U)).length).at_ ([(2,[41]),(2,[59])]++rest):=e.right;have j:kt (Zl L (Zc (Zc (Zc s 1) (ZaA [(2,[44])] (n.kids.map U)).length) 1).at_)=(2,[59]):=l.left.tail.head;have p:n.kids.length<L.length+1:=by
  have v:n.kids.length<=(ZaA [((2:Nat),([44]:Txt))] (n.kids.map U)).length:=by
   cases hks:n.kids with
   |nil=>exact Nat.zero_le _
   |cons c r=>
    rw[List.map_cons,Zer,Yj,Yk];have w:1<=(U c).length:=List.length_pos_iff.2 (h c (by rw[hks];simp)).2.some_;have m:=Zds (U:=fun y:TS=>[((2:Nat),([44]:Txt))]++y) (r.map U) fun b _=>by simp
    rw[List.length_map]at m;omega
  have:=g.1;rw[Yj]at this;omega
 obtain⟨ts,t,u⟩:=Zg5 (U:=U) (P:=fun c=>Zs ns f (Zf ns c)) Zp5 Zp4 n.kids (L.length+1) (Zc s 1) a k g p h;refine⟨ts,?_,u,?_⟩
 ·rw[Za3 a q,t,Zn,show 1+((ZaA [((2:Nat),([44]:Txt))] (n.kids.map U)).length+1)=(ZaA [((2:Nat),([44]:Txt))] (n.kids.map U)).length+2 by omega]
 ·rw[Zn,Zn,show 1+((ZaA [((2:Nat),([44]:Txt))] (n.kids.map U)).length+1)=(ZaA [((2:Nat),([44]:Txt))] (n.kids.map U)).length+2 by omega]at j;rw[Za3 (s:=Zc s _) a j,Zn]
theorem Zjq {ex:PS->Tr×PS} {g:Nat} {s:PS} (a:s.err=0) (b:kt (Zl L s.at_)=(0,[99,97,108,108])):Zu L ex (g+1) s=ZcI L ex (Ze L s) (Zc s 1):=by rw[Zu];simp only;rw[ZI a b (by decide),Yn (by decide),Zdl a b (.inr (by decide)),Yn (by decide),ZI a b (by decide),Yn (by decide),ZI a b (by decide),Yn (by decide),ZI a b (by decide),Yn (by decide),ZbV a b (by decide),Yo rfl,Zaf]
theorem ZmS {ns:List Nd} {f g:Nat} {n:Nd} {a:Txt} {d:Int} {ex:PS->Tr×PS} {U:Int->TS} (hk:n.kind=14) (m:n.words=[a]) (l:n.nums=[]) (ha:ZQ a=true) (j:∀c∈n.kids,ZZ L d (Za4 L ex) (U c) gX (Zs ns f (Zf ns c))/\ZbD L (fun _=>True) [41] (U c)):ZZ L d (Zu L ex (g+1)) ([(0,[99,97,108,108]),(0,a)]++([(2,[40])]++(ZaA [(2,[44])] (n.kids.map U)++[(2,[41]),(2,[59])]))) gT (Zs ns (f+1) n):=fun s u b i k _=>by
 have e:Zal L s.at_ ([(0,[99,97,108,108]),(0,a)]++([(2,[40])]++(ZaA [(2,[44])] (n.kids.map U)++([(2,[41]),(2,[59])]++[u])))):=by simpa only[List.append_assoc,List.cons_append,List.nil_append]using k
 have o:kt (Zl L s.at_)=(0,[99,97,108,108]):=e.left.head;have p:kt (Zl L (Zc s 1).at_)=(0,a):=e.left.tail.head;have h:Zal L (Zc s 2).at_ ([(2,[40])]++(ZaA [(2,[44])] (n.kids.map U)++([(2,[41]),(2,[59])]++[u]))):=e.right;have q:kt (Zl L (Zc (Zc s 1) 1).at_)=(2,[40]):=h.left.head;obtain⟨r,t,v,w⟩:=Zik (s:=Zc s 2) b i j h;refine⟨.mk 14 [a] [] (Ze L s) r,?_,Zcb hk m l v⟩;rw[Zjq b o];unfold ZcI;rw[Zaj (s:=Zc s 1) b p ha];simp only;rw[ZI (s:=Zc (Zc s 1) 1) b q (by decide),Yn (by decide),Zn];simp only;erw[t];simp only;rw[w,Zn];simp only[Yj,Yk,Yl,Prod.mk.injEq,true_and]
 congr 1
 omega
theorem Zkl {ns:List Nd} {f g:Nat} {n:Nd} {a b:Txt} {d:Int} {ex:PS->Tr×PS} {U:Int->TS} (hk:n.kind=14) (p:n.words=[b,a]) (o:n.nums=[]) (ha:ZQ a=true) (l:ZQ b=true) (k:∀c∈n.kids,ZZ L d (Za4 L ex) (U c) gX (Zs ns f (Zf ns c))/\ZbD L (fun _=>True) [41] (U c)):ZZ L d (Zu L ex (g+1)) ([(0,[99,97,108,108]),(0,a),(2,[61]),(0,b)]++([(2,[40])]++(ZaA [(2,[44])] (n.kids.map U)++[(2,[41]),(2,[59])]))) gT (Zs ns (f+1) n):=fun s u e i m _=>by
 have h:Zal L s.at_ ([(0,[99,97,108,108]),(0,a),(2,[61]),(0,b)]++([(2,[40])]++(ZaA [(2,[44])] (n.kids.map U)++([(2,[41]),(2,[59])]++[u])))):=by simpa only[List.append_assoc,List.cons_append,List.nil_append]using m
 have q:kt (Zl L s.at_)=(0,[99,97,108,108]):=h.left.head;have r:kt (Zl L (Zc s 1).at_)=(0,a):=h.left.tail.head;have t:kt (Zl L (Zc (Zc s 1) 1).at_)=(2,[61]):=h.left.tail.tail.head;have v:kt (Zl L (Zc (Zc (Zc s 1) 1) 1).at_)=(0,b):=h.left.tail.tail.tail.head;have j:Zal L (Zc s 4).at_ ([(2,[40])]++(ZaA [(2,[44])] (n.kids.map U)++([(2,[41]),(2,[59])]++[u]))):=h.right;obtain⟨w,y,z,A⟩:=Zik (s:=Zc s 4) e i k j;refine⟨.mk 14 [b,a] [] (Ze L s) w,?_,Zcb hk p o z⟩;rw[Zjq e q];unfold ZcI;rw[Zaj (s:=Zc s 1) e r ha];simp only;rw[Zct (s:=Zc (Zc s 1) 1) e t,Yo rfl,Zaf,Zaj (s:=Zc (Zc (Zc s 1) 1) 1) e v l,Zn,Zn,Zn];simp only;erw[y];simp only;rw[A,Zn];simp only[Yj,Yk,Yl,Prod.mk.injEq,true_and]
 congr 1
 omega
end
end
section
section
variable {L:List Tok}
theorem Zl1 {ns:List Nd} {f g:Nat} {n:Nd} {l:List Int} {c:Int} {a b:Txt} {p q r:Int} {d:Int} {ex:PS->Tr×PS} {i:TS} (hk:n.kind=13) (T:n.words=[a,b]) (S:n.nums=[p,q,r]) (w:n.kids=l++[c]) (ha:ZQ a=true) (O:ZQ b=true) (y:1<=p) (z:p<=4) (hq:Zbp q) (R:Zbp r) (A:1<=q) (B:1<=r) (N:∀c∈l,Zgp ns c) (C:ZaC ns l=true) (Q:∀c∈l,2<=ZY ns c) (M:ZeN L ns (f+1) d (Zu L ex g) ((2,[123])::i) c) :
  ZZ L d (Zu L ex (g+1)) ([(0,[115,112,108,105,116]),(0,a),(2,[61]),(0,b),(0,ZaR p),(1,ZbE q),(2,[47]),(1,ZbE r)]++((l.map fun k=>ZbG (Zf ns k)).flatten++((2,[123])::i))) gT (Zs ns (f+2) n):=fun s u e G P _=>by
 have h:Zal L s.at_ ([(0,[115,112,108,105,116]),(0,a),(2,[61]),(0,b),(0,ZaR p),(1,ZbE q),(2,[47]),(1,ZbE r)]++((l.map fun k=>ZbG (Zf ns k)).flatten++(((2,[123])::i)++[u]))):=by simpa only[List.append_assoc]using P
 have m:kt (Zl L s.at_)=(0,[115,112,108,105,116]):=h.left.head;have U:kt (Zl L (Zc s 1).at_)=(0,a):=h.left.tail.head;have V:kt (Zl L (Zc (Zc s 1) 1).at_)=(2,[61]):=h.left.tail.tail.head;have W:kt (Zl L (Zc (Zc (Zc s 1) 1) 1).at_)=(0,b):=h.left.tail.tail.tail.head;have X:kt (Zl L (Zc (Zc (Zc (Zc s 1) 1) 1) 1).at_)=(0,ZaR p):=h.left.tail.tail.tail.tail.head;have Y:kt (Zl L (Zc (Zc (Zc (Zc (Zc s 1) 1) 1) 1) 1).at_)=(1,ZbE q):=h.left.tail.tail.tail.tail.tail.head;have Z:kt (Zl L (Zc (Zc (Zc (Zc (Zc (Zc s 1) 1) 1) 1) 1) 1).at_)=(2,[47]):=h.left.tail.tail.tail.tail.tail.tail.head;have k7:kt (Zl L (Zc (Zc (Zc (Zc (Zc (Zc (Zc s 1) 1) 1) 1) 1) 1) 1).at_)=(1,ZbE r):=h.left.tail.tail.tail.tail.tail.tail.tail.head;have D:Zal L (Zc s 8).at_ ((l.map fun k=>ZbG (Zf ns k)).flatten++(((2,[123])::i)++[u])):=h.right;have I:Zal L (Zc s 8).at_ ((l.map fun k=>ZbG (Zf ns k)).flatten++[(2,[123])]):=by
  have K:Zal L (Zc s 8).at_ (((l.map fun k=>ZbG (Zf ns k)).flatten++[(2,[123])])++(i++[u])):=by simpa only[List.append_assoc,List.cons_append,List.nil_append]using D
  exact K.left
 obtain⟨ts,l1,E,F,y2,y3,y4,y5,y6,-⟩:=Zf4 (f:=f) (j:=2) (by decide) (by decide) l N C Q (s:=Zc s 8) e I ZgZ.open_;have H:E=[]:=by
  cases E with
  |nil=>rfl
  |cons x o=>have g1:=y6 x (by simp);have g2:=(y5 x (by simp)).which.2;omega
 subst H;rw[List.append_nil]at F;subst F;have J:Zal L (Zc (Zc s 8) ((l.map fun k=>ZbG (Zf ns k)).flatten).length).at_ (((2,[123])::i)++[u]):=D.right;obtain⟨t,x1,x2⟩:=M (Zc (Zc s 8) ((l.map fun k=>ZbG (Zf ns k)).flatten).length) u e G J trivial;refine⟨.mk 13 [a,b] [p,q,r] (Ze L s) (ts++[t]),?_,Zcb hk T S (by rw[w];exact y3.two (ZaV.cons x2 (ZaV.nil _)))⟩;rw[Zu];simp only;rw[ZI e m (by decide),Yn (by decide),Zdl e m (.inr (by decide)),Yn (by decide),ZI e m (by decide),Yn (by decide),ZI e m (by decide),Yn (by decide),ZbV e m (by decide),Yo rfl,Zaf];unfold Ze9;rw[Zaj (s:=Zc s 1) e U ha];simp only;rw[Za3 (s:=Zc (Zc s 1) 1) e V,Zaj (s:=Zc (Zc (Zc s 1) 1) 1) e W O];simp only;rw[ZiA (s:=Zc (Zc (Zc (Zc s 1) 1) 1) 1) (.inr rfl) y z e X];simp only;rw[Ze4 (s:=Zc (Zc (Zc (Zc (Zc s 1) 1) 1) 1) 1) (v:=q) e Y (Zem hq) A];simp only;rw[Za3 (s:=Zc (Zc (Zc (Zc (Zc (Zc s 1) 1) 1) 1) 1) 1) e Z,Ze4 (s:=Zc (Zc (Zc (Zc (Zc (Zc (Zc s 1) 1) 1) 1) 1) 1) 1) (v:=r) e k7 (Zem R) B,Zn,Zn,Zn,Zn,Zn,Zn,Zn];simp only;erw[y2];simp only;rw[x1,Zn,Zn];simp only[Yj,Yk,Yl]
theorem Zp3 {ns:List Nd} {f:Nat} {n:Nd} {l:List Int} {c:Int} {a:Txt} {d:Int} {ex st:PS->Tr×PS} {U:Int->TS} {h:TS} (hd:0<=d) (hk:n.kind=4) (E:n.words=[a]) (D:n.nums=[]) (e:n.kids=l++[c]) (ha:ZQ a=true) (w:∀c∈l,ZZ L 0 (ZaO L) (U c) Zd3 (Zs ns f (Zf ns c))/\ZbD L (fun _=>True) [41] (U c)) (A:ZeN L ns f d st ((2,[123])::h) c) :
  ZZ L d (fnM L ex st) ([(0,[102,110]),(0,a),(2,[40])]++(ZaA [(2,[44])] (l.map U)++([(2,[41])]++((2,[123])::h)))) (fun _=>True) (Zs ns (f+1) n):=fun s u i z C _=>by
 have j:Zal L s.at_ ([(0,[102,110]),(0,a),(2,[40])]++(ZaA [(2,[44])] (l.map U)++([(2,[41])]++(((2,[123])::h)++[u])))):=by simpa only[List.append_assoc]using C
 have F:kt (Zl L s.at_)=(0,[102,110]):=j.left.head;have G:kt (Zl L (Zc s 1).at_)=(0,a):=j.left.tail.head;have H:kt (Zl L (Zc (Zc s 1) 1).at_)=(2,[40]):=j.left.tail.tail.head;have o:Zal L (Zc s 3).at_ (ZaA [(2,[44])] (l.map U)++([(2,[41])]++(((2,[123])::h)++[u]))):=j.right;have p:Zal L (Zc s 3).at_ (ZaA [(2,[44])] (l.map U)++[(2,[41])]):=by have v:=o;rw[<-List.append_assoc]at v;exact v.left
 have q:Zal L (Zc (Zc s 3) (ZaA [((2:Nat),([44]:Txt))] (l.map U)).length).at_ ([(2,[41])]++(((2,[123])::h)++[u])):=o.right;have m:Zal L (Zc (Zc (Zc s 3) (ZaA [((2:Nat),([44]:Txt))] (l.map U)).length) 1).at_ (((2,[123])::h)++[u]):=q.right;have B:l.length<L.length+1:=by
  have N:l.length<=(ZaA [((2:Nat),([44]:Txt))] (l.map U)).length:=by
   cases e:l with
   |nil=>exact Nat.zero_le _
   |cons c r=>
    rw[List.map_cons,Zer,Yj,Yk];have q:1<=(U c).length:=List.length_pos_iff.2 (w c (by rw[e];simp)).2.some_;have m:=Zds (U:=fun y:TS=>[((2:Nat),([44]:Txt))]++y) (r.map U) fun b _=>by simp
    rw[List.length_map]at m;omega
  have:=p.1;rw[Yj]at this;omega
 have k:(Zc s 3).deep+0<=200:=by have:(Zc s 3).deep=s.deep:=rfl;omega
 obtain⟨I,J,K⟩:=Zg5 (U:=U) (P:=fun c=>Zs ns f (Zf ns c)) (g:=Zd3) (.inl rfl) (.inr rfl) l (L.length+1) (Zc s 3) i k p B w;obtain⟨t,M,z2⟩:=A (Zc (Zc (Zc s 3) (ZaA [((2:Nat),([44]:Txt))] (l.map U)).length) 1) u i z m trivial;refine⟨.mk 4 [a] [] (Ze L s) (I++[t]),?_,Zcb hk E D (by rw[e];exact K.two (ZaV.cons z2 (ZaV.nil _)))⟩;unfold fnM;simp only;rw[Zfd i F (by decide),Zaj (s:=Zc s 1) i G ha];simp only;rw[Za3 (s:=Zc (Zc s 1) 1) i H,Zn,Zn];erw[J];simp only;rw[<-Zn (Zc s 3),M,Zn,Zn,Zn];simp only[Yj,Yk,Yl]
end
end
section
section
variable {L:List Tok}
theorem Zoi {v:Int} (h:Zbp v) {x:Txt} (z:Int) (b:ZdH x=z) (hx:ZbE z≠x):ZbE v≠x:=fun e=>by
 have a:=Zem h;rw[e,b]at a;subst a;exact hx e
theorem ZhG {a x:Txt} (ha:ZQ a=true) (hx:ZQ x=false):a≠x:=fun e=>by rw[e,hx]at ha;exact nomatch ha
theorem Zir {ns:List Nd} (R:RightP ns):∀(f i:Nat) (n:Nd),ns[i]? = some n->ZV ns f n->∃u r,ZO ns f n=u::r/\u.2≠[38]/\u.2≠[41]
 |0,_,_,_,h=>h.elim
 |f+1,i,n,hn,h=>by
  have q:∀(k:Int) (m:Nat),k∈n.kids->ZV ns f (Zf ns k)->∃u r,(if m<=Zz (Zf ns k)then ZO ns f (Zf ns k)else [(2,[40])]++ZO ns f (Zf ns k)++[(2,[41])])=u::r/\u.2≠[38]/\u.2≠[41]:=fun k m hk a=>by
   split
   ·obtain⟨j,o⟩:=Zci R hn hk;exact Zir R f j _ o a
   ·exact⟨(2,[40]),ZO ns f (Zf ns k)++[(2,[41])],by simp,by decide,by decide⟩
  rcases h.2 with⟨hk,v,r,e,-⟩|⟨hk,s,r,d⟩|⟨hk,k,b,-,a⟩|⟨hk,j,k,b,-,a,-⟩
  ·have c:=Zbn (R.node i n hn).2.1 (x:=v) (by rw[e];simp);refine⟨(1,ZbE v),[],by simp[ZO,hk,num,e],Zoi c 246 (by decide) (by decide +kernel),Zoi c 249 (by decide) (by decide +kernel)⟩
  ·have ha:=ZhF R hn (k:=0) (s:=s) (by rw[d];rfl);refine⟨(0,s),[],by simp[ZO,hk,word,d],ZhG ha (by decide),ZhG ha (by decide)⟩
  ·exact⟨(2,[45]),_,by simp[ZO,hk];rfl,by decide,by decide⟩
  ·have hm:(j:Int)∈n.kids:=List.mem_of_getElem? b;obtain⟨u,r,p,g,l⟩:=q j (max (Zz n) 1) hm a;refine⟨u,r++(ZhL (num n 0)++(if Zz n+1<=Zz (Zaa ns n 1)then ZO ns f (Zaa ns n 1)else [(2,[40])]++ZO ns f (Zaa ns n 1)++[(2,[41])])),?_,g,l⟩;rw[ZO];simp only[hk,Zbx b];rw[Yn (by decide),Yn (by decide),Yn (by decide),Yo trivial,p];simp only[List.cons_append,List.append_assoc]
theorem Zlq {ns:List Nd} (R:RightP ns) {f i:Nat} {n:Nd} (d:ns[i]? = some n) (h:ZV ns f n):ZbD L (fun _=>True) [38] (ZO ns f n)/\ZbD L (fun _=>True) [41] (ZO ns f n):=by obtain⟨u,r,a,b,c⟩:=Zir R f i n d h;exact⟨⟨u,r,a,trivial,fun s e k=>ZI e k b⟩,⟨u,r,a,trivial,fun s e k=>ZI e k c⟩⟩
end
end
section
section
variable {L:List Tok}
theorem Zs.up {ns:List Nd}:∀{f g:Nat} {n:Nd} {t:Tr},Zs ns f n t->f<=g->Zs ns g n t
 |0,_,_,_,h,_=>h.elim
 |f+1,0,_,_,_,hg=>absurd hg (by omega)
 |f+1,g+1,n,.mk k w u p ks,h,hg=>by
  obtain⟨a,b,d,e,j⟩:=h;exact⟨a,b,d,e,fun i t c l hc=>Zs.up (j i t c l hc) (by omega)⟩
theorem Zg3 {ns:List Nd} (R:RightP ns) {f i:Nat} {k:Int} {d:Int} {st:PS->Tr×PS} {U:Int->TS} (hd:0<=d) (s:ns[i]? = some (Zf ns k)) (hk:(Zf ns k).kind=7) (o:∀c∈(Zf ns k).kids,ZZ L d st (U c) gT (Zs ns f (Zf ns c))/\ZbD L gT [125] (U c)) :
  ZeN L ns (f+1) (d+1) st ((2,[123])::(((Zf ns k).kids.map U).flatten++[(2,[125])])) k:=by
 obtain⟨w,v,b⟩:=R.node i _ s;have j:Zr ns (Zf ns k)=(Zq (Zf ns k) 0 0&&Zam ns (Zf ns k).kids ZcE):=by simp[Zr,hk]
 rw[j,Bool.and_eq_true]at b;have a:=ZaP b.1;have n:=Zlm (L:=L) (st:=st) (U:=U) (P:=fun c=>Zs ns f (Zf ns c)) (g:=gT) (by unfold gT;decide) hd (Zf ns k).kids o;intro _ u e h r q;obtain⟨t,l,y,p,m,rfl⟩:=n _ u e h r q;exact⟨_,l,Zcb hk (List.length_eq_zero_iff.1 a.1) (List.length_eq_zero_iff.1 a.2) m⟩
theorem Zce {w:Txt} {r:TS} (a:w≠Zec) (b:w≠[125]):ZbD L gT [125] ((0,w)::r):=
 ⟨(0,w),r,rfl,a,fun _ e h=>ZI e h b⟩
theorem Zgd {ns:List Nd} (R:RightP ns) {f i:Nat} {n:Nd} (b:ns[i]? = some n) (h:Zcf ns f n):ZbD L gT [125] (Zak ns f n):=by
 cases f with
 |zero=>exact h.elim
 |succ f=>
  have c:∀{a:Txt},n.words[0]? = some a->n.kind=9->ZbD L gT [125] (Zak ns (f+1) n):=fun {a} ha hk=>by
   have hx:=ZhF R b ha;have e:Zak ns (f+1) n=(0,a)::([(2,[61])]++ZO ns f (Zaa ns n 0)++[(2,[59])]):=by simp[Zak,hk,word,ha]
   rw[e];exact Zce (ZhG hx (by decide)) (ZhG hx (by decide))
  rcases h with⟨hk|hk,⟨a,ha⟩,_⟩|⟨hk,_⟩|⟨hk,_⟩|⟨hk,_⟩|⟨hk,_⟩|⟨hk,_⟩|⟨hk,_⟩|⟨hk,_⟩|hk
  ·have e:∃r,Zak ns (f+1) n=(0,[108,101,116])::r:=⟨_,by simp[Zak,hk];rfl⟩
   obtain⟨r,e⟩:=e;rw[e];exact Zce (by decide) (by decide)
  ·exact c (a:=a) (by rw[ha];rfl) hk
  ·have e:∃r,Zak ns (f+1) n=(0,[111,112,101,110])::r:=⟨_,by simp[Zak,hk];rfl⟩
   obtain⟨r,e⟩:=e;rw[e];exact Zce (by decide) (by decide)
  ·have e:∃r,Zak ns (f+1) n=(0,[100,111])::r:=⟨_,by simp[Zak,hk];rfl⟩
   obtain⟨r,e⟩:=e;rw[e];exact Zce (by decide) (by decide)
  ·have e:∃r,Zak ns (f+1) n=(0,[115,112,108,105,116])::r:=⟨_,by simp[Zak,hk];rfl⟩
   obtain⟨r,e⟩:=e;rw[e];exact Zce (by decide) (by decide)
  ·have e:∃r,Zak ns (f+1) n=(0,[99,97,108,108])::r:=⟨_,by simp[Zak,hk];rfl⟩
   obtain⟨r,e⟩:=e;rw[e];exact Zce (by decide) (by decide)
  ·have e:∃r,Zak ns (f+1) n=(0,[105,102])::r:=⟨_,by simp[Zak,hk];rfl⟩
   obtain⟨r,e⟩:=e;rw[e];exact Zce (by decide) (by decide)
  ·have e:∃r,Zak ns (f+1) n=(0,[119,104,105,108,101])::r:=⟨_,by simp[Zak,hk];rfl⟩
   obtain⟨r,e⟩:=e;rw[e];exact Zce (by decide) (by decide)
  ·have e:∃r,Zak ns (f+1) n=(0,[114,101,116,117,114,110])::r:=⟨_,by simp[Zak,hk];rfl⟩
   obtain⟨r,e⟩:=e;rw[e];exact Zce (by decide) (by decide)
  ·have e:Zak ns (f+1) n=(0,[101,120,105,116])::[(2,[59])]:=by simp[Zak,hk]
   rw[e];exact Zce (by decide) (by decide)
end
end
end Go.Proofs.YtfbepcelkijgkaaGreatDoor
