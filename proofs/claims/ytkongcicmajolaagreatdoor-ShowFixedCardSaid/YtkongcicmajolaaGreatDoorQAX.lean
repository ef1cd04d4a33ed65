import Derived.Test.YtkongcicmajolaaGreatDoorQAW
set_option maxRecDepth 100000
set_option maxHeartbeats 8000000
namespace Go.Proofs.YtkongcicmajolaaGreatDoor
section
section
variable {L:List Tok}
theorem ZlP {a:Txt} {x:Txt} {r:TS} (ha:ZN a=true) (hx:ZN x=false):ZbN L (fun _=>True) x ((0,a)::r):=
 ⟨(0,a),r,rfl,trivial,fun s e h=>ZH e h fun e=>by rw [e,hx] at ha;exact nomatch ha⟩
theorem ZkQ {ns:List Nd} {f:Nat} {n:Nd} {a:Txt} {d:Int} {ex:PS->Tr×PS} (hk:n.kind=15) (hw:n.words=[a]) (hu:n.nums=[]) (hks:n.kids=[]) (ha:ZN a=true):ZZ L d (ZaS L ex) [(2,[38]),(0,a)] gX (Zt ns (f+1) n)/\ZbN L (fun _=>True) [41] [(2,[38]),(0,a)]:=by
 refine ⟨fun s u e0 _ hh _=>?_,(2,[38]),_,rfl,trivial,fun s e h=>ZH e h (by decide)⟩
 have k0:kt (Zi L s.at_)=(2,[38]):=hh.left.head
 have k1:kt (Zi L (Zc s 1).at_)=(0,a):=hh.left.tail.head
 refine ⟨.mk 15 [a] [] (Ze L s) [],?_,Zdl hk hw hu hks⟩
 unfold ZaS
 rw [ZcO e0 k0,if_pos rfl,Zah]
 simp only
 rw [Zam (s:=Zc s 1) e0 k1 ha]
 rfl
theorem Zmf {d:Int} {ex:PS->Tr×PS} {us:TS} {T:Tr->Prop} (hE:ZZ L d ex us gX T) (hS:ZbN L (fun _=>True) [38] us):ZZ L d (ZaS L ex) us gX T:=fun s u e0 e1 hh hg=>by
 obtain ⟨t,h1,h2⟩:=hE s u e0 e1 hh hg
 obtain ⟨v,r,hv,-,hn⟩:=hS
 have k0:kt (Zi L s.at_)=v:=by rw [hv] at hh;exact hh.left.head
 refine ⟨t,?_,h2⟩
 unfold ZaS
 rw [hn s e0 k0,if_neg (by decide),h1]
theorem ZiD {ns:List Nd} {f:Nat} {n:Nd} {d:Int} {ex:PS->Tr×PS} {U:Int->TS} {s:PS} {rest:TS} (e0:s.err=0) (e1:s.deep+d<=200) (hC:∀ c∈n.kids,ZZ L d (ZaS L ex) (U c) gX (Zt ns f (Za ns c))/\ZbN L (fun _=>True) [41] (U c)) (hh:Zan L s.at_ ([(2,[40])]++(Zak [(2,[44])] (n.kids.map U)++([(2,[41]),(2,[59])]++rest)))) :
  ∃ ts,ZT L (ZaS L ex) (L.length+1) true [] (Zf L [40] s)=(ts,Zc s ((Zak [(2,[44])] (n.kids.map U)).length+2))/\Za5 (fun c=>Zt ns f (Za ns c)) n.kids ts/\Zf L [59] (Zc s ((Zak [(2,[44])] (n.kids.map U)).length+2))=Zc s ((Zak [(2,[44])] (n.kids.map U)).length+3):=by
 have k0:kt (Zi L s.at_)=(2,[40]):=hh.left.head
 have h2:Zan L (Zc s 1).at_ (Zak [(2,[44])] (n.kids.map U)++([(2,[41]),(2,[59])]++rest)):=hh.right
 have h3:Zan L (Zc s 1).at_ (Zak [(2,[44])] (n.kids.map U)++[(2,[41])]):=by
  have h9:Zan L (Zc s 1).at_ ((Zak [(2,[44])] (n.kids.map U)++[(2,[41])])++([(2,[59])]++rest)):=by
   simpa only [List.append_assoc,List.cons_append,List.nil_append] using h2
  exact h9.left
 have h4:Zan L (Zc (Zc s 1) (Zak [(2,[44])] (n.kids.map U)).length).at_ ([(2,[41]),(2,[59])]++rest):=h2.right
 have k1:kt (Zi L (Zc (Zc (Zc s 1) (Zak [(2,[44])] (n.kids.map U)).length) 1).at_)=(2,[59]):=h4.left.tail.head
 have hK:n.kids.length<L.length+1:=by
  have h1:n.kids.length<=(Zak [((2:Nat),([44]:Txt))] (n.kids.map U)).length:=by
   cases hks:n.kids with
   | nil=>exact Nat.zero_le _
   | cons c r=>
    rw [List.map_cons,ZeL,List.length_append,List.length_cons]
    have h5:1<=(U c).length:=List.length_pos_iff.2 (hC c (by rw [hks];simp)).2.some_
    have h6:=ZdI (U:=fun y:TS=>[((2:Nat),([44]:Txt))]++y) (r.map U) fun b _=>by simp
    rw [List.length_map] at h6
    omega
  have:=h3.1
  rw [List.length_append] at this
  omega
 obtain ⟨ts,x1,x2⟩:=Zhq (U:=U) (P:=fun c=>Zt ns f (Za ns c)) Zqa Zp9 n.kids (L.length+1) (Zc s 1) e0 e1 h3 hK hC
 refine ⟨ts,?_,x2,?_⟩
 ·rw [Zba e0 k0,x1,Zk,show 1+((Zak [((2:Nat),([44]:Txt))] (n.kids.map U)).length+1)=(Zak [((2:Nat),([44]:Txt))] (n.kids.map U)).length+2 by omega]
 ·rw [Zk,Zk,show 1+((Zak [((2:Nat),([44]:Txt))] (n.kids.map U)).length+1)=(Zak [((2:Nat),([44]:Txt))] (n.kids.map U)).length+2 by omega] at k1
  rw [Zba (s:=Zc s _) e0 k1,Zk]
theorem ZjN {ex:PS->Tr×PS} {g:Nat} {s:PS} (e0:s.err=0) (k0:kt (Zi L s.at_)=(0,[99,97,108,108])):Zv L ex (g+1) s=ZcC L ex (Ze L s) (Zc s 1):=by
 rw [Zv]
 simp only
 rw [ZH e0 k0 (by decide),if_neg (by decide),ZdC e0 k0 (.inr (by decide)),if_neg (by decide),ZH e0 k0 (by decide),if_neg (by decide),ZH e0 k0 (by decide),if_neg (by decide),ZH e0 k0 (by decide),if_neg (by decide),Zce e0 k0 (by decide),if_pos rfl,Zah]
theorem Znc {ns:List Nd} {f g:Nat} {n:Nd} {a:Txt} {d:Int} {ex:PS->Tr×PS} {U:Int->TS} (hk:n.kind=14) (hw:n.words=[a]) (hu:n.nums=[]) (ha:ZN a=true) (hC:∀ c∈n.kids,ZZ L d (ZaS L ex) (U c) gX (Zt ns f (Za ns c))/\ZbN L (fun _=>True) [41] (U c)):ZZ L d (Zv L ex (g+1)) ([(0,[99,97,108,108]),(0,a)]++([(2,[40])]++(Zak [(2,[44])] (n.kids.map U)++[(2,[41]),(2,[59])]))) gTq (Zt ns (f+1) n):=fun s u e0 e1 hh _=>by
 have h2:Zan L s.at_ ([(0,[99,97,108,108]),(0,a)]++([(2,[40])]++(Zak [(2,[44])] (n.kids.map U)++([(2,[41]),(2,[59])]++[u])))):=by
  simpa only [List.append_assoc,List.cons_append,List.nil_append] using hh
 have k0:kt (Zi L s.at_)=(0,[99,97,108,108]):=h2.left.head
 have k1:kt (Zi L (Zc s 1).at_)=(0,a):=h2.left.tail.head
 have h3:Zan L (Zc s 2).at_ ([(2,[40])]++(Zak [(2,[44])] (n.kids.map U)++([(2,[41]),(2,[59])]++[u]))):=h2.right
 have k2:kt (Zi L (Zc (Zc s 1) 1).at_)=(2,[40]):=h3.left.head
 obtain ⟨ts,x1,x2,x3⟩:=ZiD (s:=Zc s 2) e0 e1 hC h3
 refine ⟨.mk 14 [a] [] (Ze L s) ts,?_,Zcx hk hw hu x2⟩
 rw [ZjN e0 k0]
 unfold ZcC
 rw [Zam (s:=Zc s 1) e0 k1 ha]
 simp only
 rw [ZH (s:=Zc (Zc s 1) 1) e0 k2 (by decide),if_neg (by decide),Zk]
 simp only
 erw [x1]
 simp only
 rw [x3,Zk]
 simp only [List.length_append,List.length_cons,List.length_nil,Prod.mk.injEq,true_and]
 congr 1
 omega
theorem ZkF {ns:List Nd} {f g:Nat} {n:Nd} {a b:Txt} {d:Int} {ex:PS->Tr×PS} {U:Int->TS} (hk:n.kind=14) (hw:n.words=[b,a]) (hu:n.nums=[]) (ha:ZN a=true) (hb:ZN b=true) (hC:∀ c∈n.kids,ZZ L d (ZaS L ex) (U c) gX (Zt ns f (Za ns c))/\ZbN L (fun _=>True) [41] (U c)):ZZ L d (Zv L ex (g+1)) ([(0,[99,97,108,108]),(0,a),(2,[61]),(0,b)]++([(2,[40])]++(Zak [(2,[44])] (n.kids.map U)++[(2,[41]),(2,[59])]))) gTq (Zt ns (f+1) n):=fun s u e0 e1 hh _=>by
 have h2:Zan L s.at_ ([(0,[99,97,108,108]),(0,a),(2,[61]),(0,b)]++([(2,[40])]++(Zak [(2,[44])] (n.kids.map U)++([(2,[41]),(2,[59])]++[u])))):=by
  simpa only [List.append_assoc,List.cons_append,List.nil_append] using hh
 have k0:kt (Zi L s.at_)=(0,[99,97,108,108]):=h2.left.head
 have k1:kt (Zi L (Zc s 1).at_)=(0,a):=h2.left.tail.head
 have k2:kt (Zi L (Zc (Zc s 1) 1).at_)=(2,[61]):=h2.left.tail.tail.head
 have k3:kt (Zi L (Zc (Zc (Zc s 1) 1) 1).at_)=(0,b):=h2.left.tail.tail.tail.head
 have h3:Zan L (Zc s 4).at_ ([(2,[40])]++(Zak [(2,[44])] (n.kids.map U)++([(2,[41]),(2,[59])]++[u]))):=h2.right
 obtain ⟨ts,x1,x2,x3⟩:=ZiD (s:=Zc s 4) e0 e1 hC h3
 refine ⟨.mk 14 [b,a] [] (Ze L s) ts,?_,Zcx hk hw hu x2⟩
 rw [ZjN e0 k0]
 unfold ZcC
 rw [Zam (s:=Zc s 1) e0 k1 ha]
 simp only
 rw [ZcO (s:=Zc (Zc s 1) 1) e0 k2,if_pos rfl,Zah,Zam (s:=Zc (Zc (Zc s 1) 1) 1) e0 k3 hb,Zk,Zk,Zk]
 simp only
 erw [x1]
 simp only
 rw [x3,Zk]
 simp only [List.length_append,List.length_cons,List.length_nil,Prod.mk.injEq,true_and]
 congr 1
 omega
end
end
section
section
variable {L:List Tok}
theorem Zmc {ns:List Nd} {f g:Nat} {n:Nd} {l:List Int} {c:Int} {a b:Txt} {p q r:Int} {d:Int} {ex:PS->Tr×PS} {vr:TS} (hk:n.kind=13) (hw:n.words=[a,b]) (hu:n.nums=[p,q,r]) (hks:n.kids=l++[c]) (ha:ZN a=true) (hb:ZN b=true) (hp1:1<=p) (hp4:p<=4) (hq:ZaI q) (hr:ZaI r) (hq1:1<=q) (hr1:1<=r) (hN:∀ c∈l,ZgL ns c) (hri:Zbm ns l=true) (hj:∀ c∈l,2<=ZaD ns c) (hB:Ze5 L ns (f+1) d (Zv L ex g) ((2,[123])::vr) c) :
  ZZ L d (Zv L ex (g+1)) ([(0,[115,112,108,105,116]),(0,a),(2,[61]),(0,b),(0,Zax p),(1,ZbP q),(2,[47]),(1,ZbP r)]++((l.map fun k=>Zbr (Za ns k)).flatten++((2,[123])::vr))) gTq (Zt ns (f+2) n):=fun s u e0 e1 hh _=>by
 have h2:Zan L s.at_ ([(0,[115,112,108,105,116]),(0,a),(2,[61]),(0,b),(0,Zax p),(1,ZbP q),(2,[47]),(1,ZbP r)]++((l.map fun k=>Zbr (Za ns k)).flatten++(((2,[123])::vr)++[u]))):=by
  simpa only [List.append_assoc] using hh
 have k0:kt (Zi L s.at_)=(0,[115,112,108,105,116]):=h2.left.head
 have k1:kt (Zi L (Zc s 1).at_)=(0,a):=h2.left.tail.head
 have k2:kt (Zi L (Zc (Zc s 1) 1).at_)=(2,[61]):=h2.left.tail.tail.head
 have k3:kt (Zi L (Zc (Zc (Zc s 1) 1) 1).at_)=(0,b):=h2.left.tail.tail.tail.head
 have k4:kt (Zi L (Zc (Zc (Zc (Zc s 1) 1) 1) 1).at_)=(0,Zax p):=h2.left.tail.tail.tail.tail.head
 have k5:kt (Zi L (Zc (Zc (Zc (Zc (Zc s 1) 1) 1) 1) 1).at_)=(1,ZbP q):=h2.left.tail.tail.tail.tail.tail.head
 have k6:kt (Zi L (Zc (Zc (Zc (Zc (Zc (Zc s 1) 1) 1) 1) 1) 1).at_)=(2,[47]):=h2.left.tail.tail.tail.tail.tail.tail.head
 have k7:kt (Zi L (Zc (Zc (Zc (Zc (Zc (Zc (Zc s 1) 1) 1) 1) 1) 1) 1).at_)=(1,ZbP r):=h2.left.tail.tail.tail.tail.tail.tail.tail.head
 have h3:Zan L (Zc s 8).at_ ((l.map fun k=>Zbr (Za ns k)).flatten++(((2,[123])::vr)++[u])):=h2.right
 have h4:Zan L (Zc s 8).at_ ((l.map fun k=>Zbr (Za ns k)).flatten++[(2,[123])]):=by
  have h9:Zan L (Zc s 8).at_ (((l.map fun k=>Zbr (Za ns k)).flatten++[(2,[123])])++(vr++[u])):=by
   simpa only [List.append_assoc,List.cons_append,List.nil_append] using h3
  exact h9.left
 obtain ⟨ts,l1,l2,y1,y2,y3,y4,y5,y6,-⟩:=Zgp (f:=f) (j:=2) (by decide) (by decide) l hN hri hj (s:=Zc s 8) e0 h4 Zhk.open_
 have e4:l2=[]:=by
  cases l2 with
  | nil=>rfl
  | cons x o=>have g1:=y6 x (by simp);have g2:=(y5 x (by simp)).which.2;omega
 subst e4
 rw [List.append_nil] at y1
 subst y1
 have h5:Zan L (Zc (Zc s 8) ((l.map fun k=>Zbr (Za ns k)).flatten).length).at_ (((2,[123])::vr)++[u]):=h3.right
 obtain ⟨t,x1,x2⟩:=hB (Zc (Zc s 8) ((l.map fun k=>Zbr (Za ns k)).flatten).length) u e0 e1 h5 trivial
 refine ⟨.mk 13 [a,b] [p,q,r] (Ze L s) (ts++[t]),?_,Zcx hk hw hu (by rw [hks];exact y3.two (Za5.cons x2 (Za5.nil _)))⟩
 rw [Zv]
 simp only
 rw [ZH e0 k0 (by decide),if_neg (by decide),ZdC e0 k0 (.inr (by decide)),if_neg (by decide),ZH e0 k0 (by decide),if_neg (by decide),ZH e0 k0 (by decide),if_neg (by decide),Zce e0 k0 (by decide),if_pos rfl,Zah]
 unfold ZdS
 rw [Zam (s:=Zc s 1) e0 k1 ha]
 simp only
 rw [Zba (s:=Zc (Zc s 1) 1) e0 k2,Zam (s:=Zc (Zc (Zc s 1) 1) 1) e0 k3 hb]
 simp only
 rw [ZiX (s:=Zc (Zc (Zc (Zc s 1) 1) 1) 1) (.inr rfl) hp1 hp4 e0 k4]
 simp only
 rw [Zfr (s:=Zc (Zc (Zc (Zc (Zc s 1) 1) 1) 1) 1) (v:=q) e0 k5 (ZeD hq) hq1]
 simp only
 rw [Zba (s:=Zc (Zc (Zc (Zc (Zc (Zc s 1) 1) 1) 1) 1) 1) e0 k6,Zfr (s:=Zc (Zc (Zc (Zc (Zc (Zc (Zc s 1) 1) 1) 1) 1) 1) 1) (v:=r) e0 k7 (ZeD hr) hr1,Zk,Zk,Zk,Zk,Zk,Zk,Zk]
 simp only
 erw [y2]
 simp only
 rw [x1,Zk,Zk]
 simp only [List.length_append,List.length_cons,List.length_nil]
theorem Zp8 {ns:List Nd} {f:Nat} {n:Nd} {l:List Int} {c:Int} {a:Txt} {d:Int} {ex st:PS->Tr×PS} {U:Int->TS} {vr:TS} (hd:0<=d) (hk:n.kind=4) (hw:n.words=[a]) (hu:n.nums=[]) (hks:n.kids=l++[c]) (ha:ZN a=true) (hC:∀ c∈l,ZZ L 0 (ZaC L) (U c) Zeh (Zt ns f (Za ns c))/\ZbN L (fun _=>True) [41] (U c)) (hB:Ze5 L ns f d st ((2,[123])::vr) c) :
  ZZ L d (fnM L ex st) ([(0,[102,110]),(0,a),(2,[40])]++(Zak [(2,[44])] (l.map U)++([(2,[41])]++((2,[123])::vr)))) (fun _=>True) (Zt ns (f+1) n):=fun s u e0 e1 hh _=>by
 have h2:Zan L s.at_ ([(0,[102,110]),(0,a),(2,[40])]++(Zak [(2,[44])] (l.map U)++([(2,[41])]++(((2,[123])::vr)++[u])))):=by
  simpa only [List.append_assoc] using hh
 have k0:kt (Zi L s.at_)=(0,[102,110]):=h2.left.head
 have k1:kt (Zi L (Zc s 1).at_)=(0,a):=h2.left.tail.head
 have k2:kt (Zi L (Zc (Zc s 1) 1).at_)=(2,[40]):=h2.left.tail.tail.head
 have h3:Zan L (Zc s 3).at_ (Zak [(2,[44])] (l.map U)++([(2,[41])]++(((2,[123])::vr)++[u]))):=h2.right
 have h4:Zan L (Zc s 3).at_ (Zak [(2,[44])] (l.map U)++[(2,[41])]):=by
  have h9:=h3
  rw [<- List.append_assoc] at h9
  exact h9.left
 have h5:Zan L (Zc (Zc s 3) (Zak [((2:Nat),([44]:Txt))] (l.map U)).length).at_ ([(2,[41])]++(((2,[123])::vr)++[u])):=h3.right
 have h6:Zan L (Zc (Zc (Zc s 3) (Zak [((2:Nat),([44]:Txt))] (l.map U)).length) 1).at_ (((2,[123])::vr)++[u]):=h5.right
 have hK:l.length<L.length+1:=by
  have h1:l.length<=(Zak [((2:Nat),([44]:Txt))] (l.map U)).length:=by
   cases hks:l with
   | nil=>exact Nat.zero_le _
   | cons c r=>
    rw [List.map_cons,ZeL,List.length_append,List.length_cons]
    have h5:1<=(U c).length:=List.length_pos_iff.2 (hC c (by rw [hks];simp)).2.some_
    have h6:=ZdI (U:=fun y:TS=>[((2:Nat),([44]:Txt))]++y) (r.map U) fun b _=>by simp
    rw [List.length_map] at h6
    omega
  have:=h4.1
  rw [List.length_append] at this
  omega
 have e1':(Zc s 3).deep+0<=200:=by have:(Zc s 3).deep=s.deep:=rfl;omega
 obtain ⟨ts,x1,x2⟩:=Zhq (U:=U) (P:=fun c=>Zt ns f (Za ns c)) (g:=Zeh) (.inl rfl) (.inr rfl) l (L.length+1) (Zc s 3) e0 e1' h4 hK hC
 obtain ⟨t,z1,z2⟩:=hB (Zc (Zc (Zc s 3) (Zak [((2:Nat),([44]:Txt))] (l.map U)).length) 1) u e0 e1 h6 trivial
 refine ⟨.mk 4 [a] [] (Ze L s) (ts++[t]),?_,Zcx hk hw hu (by rw [hks];exact x2.two (Za5.cons z2 (Za5.nil _)))⟩
 unfold fnM
 simp only
 rw [Zfw e0 k0 (by decide),Zam (s:=Zc s 1) e0 k1 ha]
 simp only
 rw [Zba (s:=Zc (Zc s 1) 1) e0 k2,Zk,Zk]
 erw [x1]
 simp only
 rw [<- Zk (Zc s 3),z1,Zk,Zk,Zk]
 simp only [List.length_append,List.length_cons,List.length_nil]
end
end
section
section
variable {L:List Tok}
theorem Zop {v:Int} (h:ZaI v) {x:Txt} (z:Int) (hz:Zdt x=z) (hx:ZbP z≠x):ZbP v≠x:=fun e=>by
 have h1:=ZeD h
 rw [e,hz] at h1
 subst h1
 exact hx e
theorem ZhX {a x:Txt} (ha:ZN a=true) (hx:ZN x=false):a≠x:=fun e=>by rw [e,hx] at ha;exact nomatch ha
theorem ZiN {ns:List Nd} (R:RightP ns):∀ (f i:Nat) (n:Nd),ns[i]? = some n->ZP ns f n->∃ u r,ZS ns f n=u::r/\u.2≠[38]/\u.2≠[41]
 | 0,_,_,_,h=>h.elim
 | f+1,i,n,hn,h=>by
  have op:∀ (k:Int) (m:Nat),k∈n.kids->ZP ns f (Za ns k)->∃ u r,(if m<=Zu (Za ns k) then ZS ns f (Za ns k) else [(2,[40])]++ZS ns f (Za ns k)++[(2,[41])])=u::r/\u.2≠[38]/\u.2≠[41]:=fun k m hk hE=>by
   split
   ·obtain ⟨j,hj⟩:=ZaB R hn hk
    exact ZiN R f j _ hj hE
   ·exact ⟨(2,[40]),ZS ns f (Za ns k)++[(2,[41])],by simp,by decide,by decide⟩
  rcases h.2 with ⟨hk,v,r,hv,-⟩ | ⟨hk,s,r,hs⟩ | ⟨hk,k,h0,-,hE⟩ | ⟨hk,j,k,h0,-,hE,-⟩
  ·have hN:=ZaR (R.node i n hn).2.1 (x:=v) (by rw [hv];simp)
   refine ⟨(1,ZbP v),[],by simp [ZS,hk,num,hv],Zop hN 246 (by decide) (by decide +kernel),Zop hN 249 (by decide) (by decide +kernel)⟩
  ·have ha:=ZgF R hn (k:=0) (s:=s) (by rw [hs];rfl)
   refine ⟨(0,s),[],by simp [ZS,hk,word,hs],ZhX ha (by decide),ZhX ha (by decide)⟩
  ·exact ⟨(2,[45]),_,by simp [ZS,hk];rfl,by decide,by decide⟩
  ·have hm:(j:Int)∈n.kids:=List.mem_of_getElem? h0
   obtain ⟨u,r,hu,h1,h2⟩:=op j (max (Zu n) 1) hm hE
   refine ⟨u,r++(ZhZ (num n 0)++(if Zu n+1<=Zu (Zw ns n 1) then ZS ns f (Zw ns n 1) else [(2,[40])]++ZS ns f (Zw ns n 1)++[(2,[41])])),?_,h1,h2⟩
   rw [ZS]
   simp only [hk,Za2 h0]
   rw [if_neg (by decide),if_neg (by decide),if_neg (by decide),if_pos trivial,hu]
   simp only [List.cons_append,List.append_assoc]
theorem ZlK {ns:List Nd} (R:RightP ns) {f i:Nat} {n:Nd} (hn:ns[i]? = some n) (h:ZP ns f n):ZbN L (fun _=>True) [38] (ZS ns f n)/\ZbN L (fun _=>True) [41] (ZS ns f n):=by
 obtain ⟨u,r,hu,h1,h2⟩:=ZiN R f i n hn h
 exact ⟨⟨u,r,hu,trivial,fun s e k=>ZH e k h1⟩,⟨u,r,hu,trivial,fun s e k=>ZH e k h2⟩⟩
end
end
section
section
variable {L:List Tok}
theorem Zt.up {ns:List Nd}:∀ {f g:Nat} {n:Nd} {t:Tr},Zt ns f n t->f<=g->Zt ns g n t
 | 0,_,_,_,h,_=>h.elim
 | f+1,0,_,_,_,hg=>absurd hg (by omega)
 | f+1,g+1,n,.mk k w u p ks,h,hg=>by
  obtain ⟨h1,h2,h3,h4,h5⟩:=h
  exact ⟨h1,h2,h3,h4,fun i t c ht hc=>Zt.up (h5 i t c ht hc) (by omega)⟩
theorem Zho {ns:List Nd} (R:RightP ns) {f i:Nat} {k:Int} {d:Int} {st:PS->Tr×PS} {U:Int->TS} (hd:0<=d) (hn:ns[i]? = some (Za ns k)) (hk:(Za ns k).kind=7) (hb:∀ c∈(Za ns k).kids,ZZ L d st (U c) gTq (Zt ns f (Za ns c))/\ZbN L gTq [125] (U c)) :
  Ze5 L ns (f+1) (d+1) st ((2,[123])::(((Za ns k).kids.map U).flatten++[(2,[125])])) k:=by
 obtain ⟨hw,hu,hl⟩:=R.node i _ hn
 have el:Zn ns (Za ns k)=(ZF (Za ns k) 0 0&&ZbM ns (Za ns k).kids ZcL):=by simp [Zn,hk]
 rw [el,Bool.and_eq_true] at hl
 have h0:=ZaL hl.1
 have hB:=ZlG (L:=L) (st:=st) (U:=U) (P:=fun c=>Zt ns f (Za ns c)) (g:=gTq) (by unfold gTq;decide) hd (Za ns k).kids hb
 intro _ u e0 e1 hh hg
 obtain ⟨t,h1,ts,p,h2,rfl⟩:=hB _ u e0 e1 hh hg
 exact ⟨_,h1,Zcx hk (List.length_eq_zero_iff.1 h0.1) (List.length_eq_zero_iff.1 h0.2) h2⟩
theorem ZcB {w:Txt} {r:TS} (h1:w≠Zeo) (h2:w≠[125]):ZbN L gTq [125] ((0,w)::r):=
 ⟨(0,w),r,rfl,h1,fun _ e h=>ZH e h h2⟩
theorem Zgx {ns:List Nd} (R:RightP ns) {f i:Nat} {n:Nd} (hn:ns[i]? = some n) (h:Zbk ns f n):ZbN L gTq [125] (ZL ns f n):=by
 cases f with
 | zero=>exact h.elim
 | succ f=>
  have nm:∀ {a:Txt},n.words[0]? = some a->n.kind=9->ZbN L gTq [125] (ZL ns (f+1) n):=fun {a} ha hk=>by
   have hx:=ZgF R hn ha
   have e:ZL ns (f+1) n=(0,a)::([(2,[61])]++ZS ns f (Zw ns n 0)++[(2,[59])]):=by simp [ZL,hk,word,ha]
   rw [e]
   exact ZcB (ZhX hx (by decide)) (ZhX hx (by decide))
  rcases h with ⟨hk | hk,⟨a,ha⟩,_⟩ | ⟨hk,_⟩ | ⟨hk,_⟩ | ⟨hk,_⟩ | ⟨hk,_⟩ | ⟨hk,_⟩ | ⟨hk,_⟩ | ⟨hk,_⟩ | hk
  ·have e:∃ r,ZL ns (f+1) n=(0,[108,101,116])::r:=⟨_,by simp [ZL,hk];rfl⟩
   obtain ⟨r,e⟩:=e;rw [e];exact ZcB (by decide) (by decide)
  ·exact nm (a:=a) (by rw [ha];rfl) hk
  ·have e:∃ r,ZL ns (f+1) n=(0,[111,112,101,110])::r:=⟨_,by simp [ZL,hk];rfl⟩
   obtain ⟨r,e⟩:=e;rw [e];exact ZcB (by decide) (by decide)
  ·have e:∃ r,ZL ns (f+1) n=(0,[100,111])::r:=⟨_,by simp [ZL,hk];rfl⟩
   obtain ⟨r,e⟩:=e;rw [e];exact ZcB (by decide) (by decide)
  ·have e:∃ r,ZL ns (f+1) n=(0,[115,112,108,105,116])::r:=⟨_,by simp [ZL,hk];rfl⟩
   obtain ⟨r,e⟩:=e;rw [e];exact ZcB (by decide) (by decide)
  ·have e:∃ r,ZL ns (f+1) n=(0,[99,97,108,108])::r:=⟨_,by simp [ZL,hk];rfl⟩
   obtain ⟨r,e⟩:=e;rw [e];exact ZcB (by decide) (by decide)
  ·have e:∃ r,ZL ns (f+1) n=(0,[105,102])::r:=⟨_,by simp [ZL,hk];rfl⟩
   obtain ⟨r,e⟩:=e;rw [e];exact ZcB (by decide) (by decide)
  ·have e:∃ r,ZL ns (f+1) n=(0,[119,104,105,108,101])::r:=⟨_,by simp [ZL,hk];rfl⟩
   obtain ⟨r,e⟩:=e;rw [e];exact ZcB (by decide) (by decide)
  ·have e:∃ r,ZL ns (f+1) n=(0,[114,101,116,117,114,110])::r:=⟨_,by simp [ZL,hk];rfl⟩
   obtain ⟨r,e⟩:=e;rw [e];exact ZcB (by decide) (by decide)
  ·have e:ZL ns (f+1) n=(0,[101,120,105,116])::[(2,[59])]:=by simp [ZL,hk]
   rw [e];exact ZcB (by decide) (by decide)
end
end
end Go.Proofs.YtkongcicmajolaaGreatDoor
