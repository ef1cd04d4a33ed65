import Derived.Test.YtkongcicmajolaaGreatDoorQAV
set_option maxRecDepth 100000
set_option maxHeartbeats 8000000
namespace Go.Proofs.YtkongcicmajolaaGreatDoor
section
section
variable {L:List Tok}
def gTq (u:Nat×Txt):Prop:=u.2≠[101,108,115,101]
theorem Zmv:gX (2,[59]):=by refine ⟨⟨⟨trivial,?_,?_⟩,?_,?_⟩,?_,?_⟩<;>decide
theorem Zmu:gX (2,[123]):=by refine ⟨⟨⟨trivial,?_,?_⟩,?_,?_⟩,?_,?_⟩<;>decide
theorem Zqa:gX (2,[44]):=by refine ⟨⟨⟨trivial,?_,?_⟩,?_,?_⟩,?_,?_⟩<;>decide
theorem Zp9:gX (2,[41]):=by refine ⟨⟨⟨trivial,?_,?_⟩,?_,?_⟩,?_,?_⟩<;>decide
theorem Zhn {ex:PS->Tr×PS} {d:Int} {us vs:TS} {T:Tr->Prop} {a:Txt} (hx:ZN a=true) (hE:ZZ L d ex us gX T) {s:PS} (e0:s.err=0) (e1:s.deep+d<=200) (hh:Zan L s.at_ ([(0,a),(2,[61])]++(us++(2,[59])::vs))) :
  Zb L s=(a,Zc s 1)/\∃ t,ex (Zf L [61] (Zc s 1))=(t,Zc s (2+us.length))/\T t/\Zf L [59] (Zc s (2+us.length))=Zc s (3+us.length):=by
 have k0:kt (Zi L s.at_)=(0,a):=hh.left.head
 have k1:kt (Zi L (Zc s 1).at_)=(2,[61]):=hh.left.tail.head
 have h2:Zan L (Zc s 2).at_ (us++(2,[59])::vs):=hh.right
 obtain ⟨t,h3,h4⟩:=hE.at' (s:=Zc s 2) e0 e1 h2 Zmv
 have k2:kt (Zi L (Zc (Zc s 2) us.length).at_)=(2,[59]):=h2.right.head
 refine ⟨Zam e0 k0 hx,t,?_,h4,?_⟩
 ·rw [Zba (s:=Zc s 1) e0 k1,Zk,h3,Zk]
 ·rw [<- Zk,Zba (s:=Zc (Zc s 2) us.length) e0 k2,Zk,Zk]
  congr 1
  omega
theorem Zgo {ns:List Nd} {f:Nat} {n:Nd} {k:Int} {w:List Txt} {u:List Int} {p:Int} {c:Int} {t:Tr} (hk:n.kind=k) (hw:n.words=w) (hu:n.nums=u) (hks:n.kids=[c]) (h:Zt ns f (Za ns c) t):Zt ns (f+1) n (.mk k w u p [t]):=
 Zcx hk hw hu (by rw [hks];exact Za5.cons h (Za5.nil _))
theorem ZoT {ns:List Nd} {f g:Nat} {n:Nd} {c:Int} {a:Txt} {d:Int} {ex:PS->Tr×PS} {us:TS} (hk:n.kind=8) (hw:n.words=[a]) (hu:n.nums=[]) (hks:n.kids=[c]) (hx:ZN a=true) (hE:ZZ L d ex us gX (Zt ns f (Za ns c))):ZZ L d (Zv L ex (g+1)) ([(0,[108,101,116])]++([(0,a)]++[(2,[61])]++us++[(2,[59])])) gTq (Zt ns (f+1) n):=fun s u e0 e1 hh _=>by
 rw [List.append_assoc] at hh
 have k0:kt (Zi L s.at_)=(0,[108,101,116]):=hh.left.head
 have h2:Zan L (Zc s 1).at_ ([(0,a),(2,[61])]++(us++(2,[59])::[u])):=by
  have h9:Zan L (Zc s 1).at_ _:=hh.right
  simpa only [List.append_assoc,List.cons_append,List.nil_append] using h9
 obtain ⟨h3,t,h4,h5,h6⟩:=Zhn hx hE (s:=Zc s 1) e0 e1 h2
 refine ⟨.mk 8 [a] [] (Ze L s) [t],?_,Zgo hk hw hu hks h5⟩
 unfold Zv
 simp only
 rw [Zce e0 k0 (by decide),if_pos rfl,Zah,h3]
 simp only
 rw [h4]
 simp only
 rw [h6,Zk]
 simp only [List.length_append,List.length_cons,List.length_nil,Prod.mk.injEq,true_and]
 congr 1
 omega
theorem Zpt {ns:List Nd} {f g:Nat} {n:Nd} {c:Int} {a:Txt} {d:Int} {ex:PS->Tr×PS} {us:TS} (hk:n.kind=9) (hw:n.words=[a]) (hu:n.nums=[]) (hks:n.kids=[c]) (hx:ZN a=true) (hE:ZZ L d ex us gX (Zt ns f (Za ns c))):ZZ L d (Zv L ex (g+1)) ([(0,a)]++[(2,[61])]++us++[(2,[59])]) gTq (Zt ns (f+1) n):=fun s u e0 e1 hh _=>by
 have h2:Zan L s.at_ ([(0,a),(2,[61])]++(us++(2,[59])::[u])):=by
  simpa only [List.append_assoc,List.cons_append,List.nil_append] using hh
 have k0:kt (Zi L s.at_)=(0,a):=h2.left.head
 obtain ⟨h3,t,h4,h5,h6⟩:=Zhn hx hE e0 e1 h2
 have hn:a≠[108,101,116]:=fun e=>by rw [e] at hx;revert hx;decide
 refine ⟨.mk 9 [a] [] (Ze L s) [t],?_,Zgo hk hw hu hks h5⟩
 unfold Zv
 simp only
 rw [ZH e0 k0 hn,if_neg (by decide),ZhD e0 k0 hx,if_pos rfl,h3]
 simp only
 rw [h4]
 simp only
 rw [h6]
 simp only [List.length_append,List.length_cons,List.length_nil,Prod.mk.injEq,true_and]
 congr 1
 omega
theorem Zfu {ex:PS->Tr×PS} {g:Nat} {s:PS} {w:Txt} (e0:s.err=0) (k0:kt (Zi L s.at_)=(0,w)) (hn:ZN w=false) (h1:w≠[108,101,116]) (h2:w≠[111,112,101,110]) (h3:w≠[100,111]) (h4:w≠[115,112,108,105,116]) (h5:w≠[99,97,108,108]):Zv L ex (g+1) s=Zbb L ex (Zv L ex g) (Ze L s) s:=by
 rw [Zv]
 simp only
 rw [ZH e0 k0 h1,if_neg (by decide),ZdC e0 k0 (.inr hn),if_neg (by decide),ZH e0 k0 h2,if_neg (by decide),ZH e0 k0 h3,if_neg (by decide),ZH e0 k0 h4,if_neg (by decide),ZH e0 k0 h5,if_neg (by decide)]
theorem Zle {ns:List Nd} {f g:Nat} {n:Nd} {c:Int} {d:Int} {ex:PS->Tr×PS} {us:TS} (hk:n.kind=18) (hw:n.words=[]) (hu:n.nums=[]) (hks:n.kids=[c]) (hE:ZZ L d ex us gX (Zt ns f (Za ns c))):ZZ L d (Zv L ex (g+1)) ([(0,[114,101,116,117,114,110])]++us++[(2,[59])]) gTq (Zt ns (f+1) n):=fun s u e0 e1 hh _=>by
 have h2:Zan L s.at_ ([(0,[114,101,116,117,114,110])]++(us++(2,[59])::[u])):=by
  simpa only [List.append_assoc,List.cons_append,List.nil_append] using hh
 have k0:kt (Zi L s.at_)=(0,[114,101,116,117,114,110]):=h2.left.head
 have h3:Zan L (Zc s 1).at_ (us++(2,[59])::[u]):=h2.right
 obtain ⟨t,h4,h5⟩:=hE.at' (s:=Zc s 1) e0 e1 h3 Zmv
 have k2:kt (Zi L (Zc (Zc s 1) us.length).at_)=(2,[59]):=h3.right.head
 refine ⟨.mk 18 [] [] (Ze L s) [t],?_,Zgo hk hw hu hks h5⟩
 rw [Zfu e0 k0 (by decide) (by decide) (by decide) (by decide) (by decide) (by decide)]
 unfold Zbb
 rw [ZH e0 k0 (by decide),if_neg (by decide),ZH e0 k0 (by decide),if_neg (by decide),Zce e0 k0 (by decide),if_pos rfl,Zah,h4]
 simp only
 rw [Zba (s:=Zc (Zc s 1) us.length) e0 k2,Zk,Zk]
 simp only [List.length_append,List.length_cons,List.length_nil,Prod.mk.injEq,true_and]
 congr 1
theorem Zni {ns:List Nd} {f g:Nat} {n:Nd} {d:Int} {ex:PS->Tr×PS} (hk:n.kind=19) (hw:n.words=[]) (hu:n.nums=[]) (hks:n.kids=[]):ZZ L d (Zv L ex (g+1)) ([(0,[101,120,105,116])]++[(2,[59])]) gTq (Zt ns (f+1) n):=fun s u e0 _ hh _=>by
 have k0:kt (Zi L s.at_)=(0,[101,120,105,116]):=hh.head
 have k1:kt (Zi L (Zc s 1).at_)=(2,[59]):=hh.tail.head
 refine ⟨.mk 19 [] [] (Ze L s) [],?_,Zdl hk hw hu hks⟩
 rw [Zfu e0 k0 (by decide) (by decide) (by decide) (by decide) (by decide) (by decide)]
 unfold Zbb
 rw [ZH e0 k0 (by decide),if_neg (by decide),ZH e0 k0 (by decide),if_neg (by decide),ZH e0 k0 (by decide),if_neg (by decide),Zfw e0 k0 (by decide),Zba (s:=Zc s 1) e0 k1,Zk]
 rfl
def Ze5 (L:List Tok) (ns:List Nd) (f:Nat) (d:Int) (st:PS->Tr×PS) (us:TS) (c:Int):Prop:=ZZ L d (Zag L st) us (fun _=>True) (Zt ns f (Za ns c))
theorem Zmh {ns:List Nd} {f g:Nat} {n:Nd} {c b:Int} {d:Int} {ex:PS->Tr×PS} {us vs:TS} {v0:Nat×Txt} {vr:TS} (hk:n.kind=17) (hw:n.words=[]) (hu:n.nums=[]) (hks:n.kids=[c,b]) (hE:ZZ L d ex us gX (Zt ns f (Za ns c))) (hv:vs=v0::vr) (hv0:v0=(2,[123])) (hB:Ze5 L ns f d (Zv L ex g) vs b):ZZ L d (Zv L ex (g+1)) ([(0,[119,104,105,108,101])]++us++vs) gTq (Zt ns (f+1) n):=fun s u e0 e1 hh _=>by
 have h2:Zan L s.at_ ([(0,[119,104,105,108,101])]++(us++(vs++[u]))):=by
  simpa only [List.append_assoc] using hh
 have k0:kt (Zi L s.at_)=(0,[119,104,105,108,101]):=h2.left.head
 have h3:Zan L (Zc s 1).at_ (us++(vs++[u])):=h2.right
 have h3':=h3
 rw [hv,List.cons_append] at h3'
 obtain ⟨t,h4,h5⟩:=hE.at' (s:=Zc s 1) e0 e1 h3' (by rw [hv0];exact Zmu)
 have h6:Zan L (Zc (Zc s 1) us.length).at_ (vs++[u]):=h3.right
 obtain ⟨b',h7,h8⟩:=hB (Zc (Zc s 1) us.length) u e0 e1 h6 trivial
 refine ⟨.mk 17 [] [] (Ze L s) [t,b'],?_,Zcx hk hw hu (by rw [hks];exact Za5.cons h5 (Za5.cons h8 (Za5.nil _)))⟩
 rw [Zfu e0 k0 (by decide) (by decide) (by decide) (by decide) (by decide) (by decide)]
 unfold Zbb
 rw [ZH e0 k0 (by decide),if_neg (by decide),Zce e0 k0 (by decide),if_pos rfl,Zah,h4]
 simp only
 rw [h7,Zk,Zk]
 simp only [List.length_append,List.length_cons,List.length_nil,Prod.mk.injEq,true_and]
 congr 1
 omega
end
end
section
section
variable {L:List Tok}
def Zeo:Txt:=[101,108,115,101]
theorem ZiR {ns:List Nd} {f:Nat} {c b:Int} {d:Int} {ex st:PS->Tr×PS} {us vr rest:TS} (hE:ZZ L d ex us gX (Zt ns f (Za ns c))) (hB:Ze5 L ns f d st ((2,[123])::vr) b) {s:PS} {u:Nat×Txt} (e0:s.err=0) (e1:s.deep+d<=200) (hh:Zan L s.at_ (us++(((2,[123])::vr)++u::rest))) :
  ∃ t t',ex s=(t,Zc s us.length)/\Zt ns f (Za ns c) t/\Zag L st (Zc s us.length)=(t',Zc s (us.length+(vr.length+1)))/\Zt ns f (Za ns b) t'/\Zan L (Zc s (us.length+(vr.length+1))).at_ (u::rest):=by
 obtain ⟨t,h4,h5⟩:=hE.at' e0 e1 (by rw [List.cons_append] at hh;exact hh) Zmu
 have h6:Zan L (Zc s us.length).at_ (((2,[123])::vr)++u::rest):=hh.right
 obtain ⟨b',h7,h8⟩:=ZZ.at' hB (s:=Zc s us.length) e0 e1 h6 trivial
 have h9:Zan L (Zc (Zc s us.length) ((2,[123])::vr).length).at_ (u::rest):=h6.right
 rw [Zk] at h7 h9
 exact ⟨t,b',h4,h5,h7,h8,h9⟩
theorem Zqd {ns:List Nd} {f g:Nat} {n:Nd} {c b:Int} {d:Int} {ex:PS->Tr×PS} {us vr:TS} (hk:n.kind=16) (hw:n.words=[]) (hu:n.nums=[]) (hks:n.kids=[c,b]) (hE:ZZ L d ex us gX (Zt ns f (Za ns c))) (hB:Ze5 L ns f d (Zv L ex g) ((2,[123])::vr) b):ZZ L d (Zv L ex (g+1)) ([(0,[105,102])]++(us++((2,[123])::vr))) gTq (Zt ns (f+1) n):=fun s u e0 e1 hh hg=>by
 have h2:Zan L s.at_ ([(0,[105,102])]++(us++(((2,[123])::vr)++u::[]))):=by
  simpa only [List.append_assoc] using hh
 have k0:kt (Zi L s.at_)=(0,[105,102]):=h2.left.head
 obtain ⟨t,t',x1,x2,x3,x4,x5⟩:=ZiR hE hB (s:=Zc s 1) (u:=u) e0 e1 h2.right
 have k9:kt (Zi L (Zc (Zc s 1) (us.length+(vr.length+1))).at_)=(u.1,u.2):=x5.head
 refine ⟨.mk 16 [] [] (Ze L s) [t,t'],?_,Zcx hk hw hu (by rw [hks];exact Za5.cons x2 (Za5.cons x4 (Za5.nil _)))⟩
 rw [Zfu e0 k0 (by decide) (by decide) (by decide) (by decide) (by decide) (by decide)]
 unfold Zbb
 rw [Zce e0 k0 (by decide),if_pos rfl,Zah,x1]
 simp only
 rw [x3]
 simp only
 rw [ZH (s:=Zc (Zc s 1) (us.length+(vr.length+1))) e0 k9 hg,if_neg (by decide),Zk]
 simp only [List.length_append,List.length_cons,List.length_nil]
theorem ZkR {ns:List Nd} {f g:Nat} {n:Nd} {c b e:Int} {d:Int} {ex:PS->Tr×PS} {us vr wr:TS} (hk:n.kind=16) (hw:n.words=[]) (hu:n.nums=[]) (hks:n.kids=[c,b,e]) (hE:ZZ L d ex us gX (Zt ns f (Za ns c))) (hB:Ze5 L ns f d (Zv L ex g) ((2,[123])::vr) b) (hC:Ze5 L ns f d (Zv L ex g) wr e):ZZ L d (Zv L ex (g+1)) ([(0,[105,102])]++(us++(((2,[123])::vr)++([(0,Zeo)]++wr)))) gTq (Zt ns (f+1) n):=fun s u e0 e1 hh hg=>by
 have h2:Zan L s.at_ ([(0,[105,102])]++(us++(((2,[123])::vr)++(0,Zeo)::(wr++[u])))):=by
  simpa only [List.append_assoc,List.cons_append,List.nil_append] using hh
 have k0:kt (Zi L s.at_)=(0,[105,102]):=h2.left.head
 obtain ⟨t,t',x1,x2,x3,x4,x5⟩:=ZiR hE hB (s:=Zc s 1) (u:=(0,Zeo)) e0 e1 h2.right
 have k9:kt (Zi L (Zc (Zc s 1) (us.length+(vr.length+1))).at_)=(0,Zeo):=x5.head
 obtain ⟨t2,y1,y2⟩:=hC (Zc (Zc (Zc s 1) (us.length+(vr.length+1))) 1) u e0 e1 x5.tail trivial
 refine ⟨.mk 16 [] [] (Ze L s) [t,t',t2],?_,Zcx hk hw hu (by rw [hks];exact Za5.cons x2 (Za5.cons x4 (Za5.cons y2 (Za5.nil _))))⟩
 rw [Zfu e0 k0 (by decide) (by decide) (by decide) (by decide) (by decide) (by decide)]
 unfold Zbb
 rw [Zce e0 k0 (by decide),if_pos rfl,Zah,x1]
 simp only
 rw [x3]
 simp only
 erw [Zce (s:=Zc (Zc s 1) (us.length+(vr.length+1))) e0 k9 (by decide),if_pos rfl]
 rw [Zah,y1,Zk,Zk,Zk]
 simp only [List.length_append,List.length_cons,List.length_nil,Prod.mk.injEq,true_and]
 congr 1
 omega
theorem ZnC {ns:List Nd} {f g:Nat} {n:Nd} {c e:Int} {a b:Txt} {d:Int} {ex:PS->Tr×PS} {vr wr:TS} (hk:n.kind=10) (hw:n.words=[a,b]) (hu:n.nums=[]) (hks:n.kids=[c,e]) (ha:ZN a=true) (hb:ZN b=true) (hB:Ze5 L ns f d (Zv L ex g) vr c) (hC:Ze5 L ns f d (Zv L ex g) wr e):ZZ L d (Zv L ex (g+1)) ([(0,[111,112,101,110]),(0,a),(0,b)]++(vr++([(0,Zeo)]++wr))) gTq (Zt ns (f+1) n):=fun s u e0 e1 hh hg=>by
 have h2:Zan L s.at_ ([(0,[111,112,101,110]),(0,a),(0,b)]++(vr++(0,Zeo)::(wr++[u]))):=by
  simpa only [List.append_assoc,List.cons_append,List.nil_append] using hh
 have k0:kt (Zi L s.at_)=(0,[111,112,101,110]):=h2.left.head
 have k1:kt (Zi L (Zc s 1).at_)=(0,a):=h2.left.tail.head
 have k2:kt (Zi L (Zc (Zc s 1) 1).at_)=(0,b):=h2.left.tail.tail.head
 have h3:Zan L (Zc s 3).at_ (vr++(0,Zeo)::(wr++[u])):=h2.right
 obtain ⟨t,x1,x2⟩:=ZZ.at' hB (s:=Zc s 3) e0 e1 h3 trivial
 have h4:Zan L (Zc (Zc s 3) vr.length).at_ ((0,Zeo)::(wr++[u])):=h3.right
 have k3:kt (Zi L (Zc (Zc s 3) vr.length).at_)=(0,Zeo):=h4.head
 obtain ⟨t2,y1,y2⟩:=hC (Zc (Zc (Zc s 3) vr.length) 1) u e0 e1 h4.tail trivial
 refine ⟨.mk 10 [a,b] [] (Ze L s) [t,t2],?_,Zcx hk hw hu (by rw [hks];exact Za5.cons x2 (Za5.cons y2 (Za5.nil _)))⟩
 rw [Zv]
 simp only
 rw [ZH e0 k0 (by decide),if_neg (by decide),ZdC e0 k0 (.inr (by decide)),if_neg (by decide),Zce e0 k0 (by decide),if_pos rfl,Zah,Zam (s:=Zc s 1) e0 k1 ha]
 simp only
 rw [Zam (s:=Zc (Zc s 1) 1) e0 k2 hb,Zk,Zk]
 simp only
 erw [x1]
 simp only
 erw [Zfw (s:=Zc (Zc s 3) vr.length) e0 k3 (by decide)]
 rw [y1,Zk,Zk,Zk]
 simp only [List.length_append,List.length_cons,List.length_nil]
theorem Znd {ns:List Nd} {f:Nat} {n:Nd} {c:Int} {a:Txt} {d:Int} {st:PS->Tr×PS} {vr:TS} (hk:n.kind=12) (hw:n.words=[a]) (hu:n.nums=[]) (hks:n.kids=[c]) (ha:ZN a=true) (hB:Ze5 L ns f d st vr c):ZZ L d (ZcR L st) ([(0,a)]++vr) (fun _=>True) (Zt ns (f+1) n)/\ZbN L (fun _=>True) [125] ([(0,a)]++vr):=by
 refine ⟨fun s u e0 e1 hh _=>?_,(0,a),vr,rfl,trivial,fun s e h=>ZH e h fun e=>by rw [e] at ha;revert ha;decide⟩
 rw [List.append_assoc] at hh
 have k0:kt (Zi L s.at_)=(0,a):=hh.left.head
 obtain ⟨t,x1,x2⟩:=hB (Zc s 1) u e0 e1 hh.right trivial
 refine ⟨.mk 12 [a] [] (Ze L s) [t],?_,Zgo hk hw hu hks x2⟩
 unfold ZcR
 simp only
 rw [Zam e0 k0 ha]
 simp only
 rw [x1,Zk]
 simp only [List.length_append,List.length_cons,List.length_nil]
theorem Zp2 {ns:List Nd} {f g:Nat} {n:Nd} {a b:Txt} {d:Int} {ex:PS->Tr×PS} (hk:n.kind=11) (hw:n.words=[a,b]) (hu:n.nums=[]) (hks:n.kids=[]) (ha:ZN a=true) (hb:ZN b=true):ZZ L d (Zv L ex (g+1)) [(0,[100,111]),(0,a),(2,[46]),(0,b),(2,[59])] gTq (Zt ns (f+1) n):=fun s u e0 _ hh _=>by
 have k0:kt (Zi L s.at_)=(0,[100,111]):=hh.left.head
 have k1:kt (Zi L (Zc s 1).at_)=(0,a):=hh.left.tail.head
 have k2:kt (Zi L (Zc (Zc s 1) 1).at_)=(2,[46]):=hh.left.tail.tail.head
 have k3:kt (Zi L (Zc (Zc (Zc s 1) 1) 1).at_)=(0,b):=hh.left.tail.tail.tail.head
 have k4:kt (Zi L (Zc (Zc (Zc (Zc s 1) 1) 1) 1).at_)=(2,[59]):=hh.left.tail.tail.tail.tail.head
 refine ⟨.mk 11 [a,b] [] (Ze L s) [],?_,Zdl hk hw hu hks⟩
 rw [Zv]
 simp only
 rw [ZH e0 k0 (by decide),if_neg (by decide),ZdC e0 k0 (.inr (by decide)),if_neg (by decide),ZH e0 k0 (by decide),if_neg (by decide),Zce e0 k0 (by decide),if_pos rfl,Zah]
 unfold doM
 rw [Zam (s:=Zc s 1) e0 k1 ha]
 simp only
 rw [Zba (s:=Zc (Zc s 1) 1) e0 k2,Zam (s:=Zc (Zc (Zc s 1) 1) 1) e0 k3 hb]
 simp only
 rw [ZcO (s:=Zc (Zc (Zc (Zc s 1) 1) 1) 1) e0 k4,if_pos rfl]
 rfl
theorem Zko {ns:List Nd} {f g:Nat} {n:Nd} {a b:Txt} {d:Int} {ex:PS->Tr×PS} {U:Int->TS} (hk:n.kind=11) (hw:n.words=[a,b]) (hu:n.nums=[]) (ha:ZN a=true) (hb:ZN b=true) (hC:∀ c∈n.kids,ZZ L d (ZcR L (Zv L ex g)) (U c) (fun _=>True) (Zt ns f (Za ns c))/\ZbN L (fun _=>True) [125] (U c)):ZZ L d (Zv L ex (g+1)) ([(0,[100,111]),(0,a),(2,[46]),(0,b)]++Zaw (n.kids.map U)) gTq (Zt ns (f+1) n):=fun s u e0 e1 hh _=>by
 have h2:Zan L s.at_ ([(0,[100,111]),(0,a),(2,[46]),(0,b),(2,[123])]++((n.kids.map U).flatten++[(2,[125])])):=by
  have:=hh.left
  simpa only [Zaw,List.append_assoc,List.cons_append,List.nil_append] using this
 have k0:kt (Zi L s.at_)=(0,[100,111]):=h2.left.head
 have k1:kt (Zi L (Zc s 1).at_)=(0,a):=h2.left.tail.head
 have k2:kt (Zi L (Zc (Zc s 1) 1).at_)=(2,[46]):=h2.left.tail.tail.head
 have k3:kt (Zi L (Zc (Zc (Zc s 1) 1) 1).at_)=(0,b):=h2.left.tail.tail.tail.head
 have k4:kt (Zi L (Zc (Zc (Zc (Zc s 1) 1) 1) 1).at_)=(2,[123]):=h2.left.tail.tail.tail.tail.head
 have h3:Zan L (Zc s 5).at_ ((n.kids.map U).flatten++[(2,[125])]):=h2.right
 have hK:n.kids.length<L.length+1:=by
  have h1:=ZdI (U:=U) n.kids fun b hb'=>(hC b hb').2.some_
  have h2:=h3.1
  rw [List.length_append] at h2
  omega
 obtain ⟨ts,x1,x2⟩:=Zfm (U:=U) (P:=fun c=>Zt ns f (Za ns c)) (x:=[125]) trivial n.kids (L.length+1) [] (Zc s 5) e0 e1 h3 hK hC
 refine ⟨.mk 11 [a,b] [] (Ze L s) ts,?_,Zcx hk hw hu x2⟩
 rw [Zv]
 simp only
 rw [ZH e0 k0 (by decide),if_neg (by decide),ZdC e0 k0 (.inr (by decide)),if_neg (by decide),ZH e0 k0 (by decide),if_neg (by decide),Zce e0 k0 (by decide),if_pos rfl,Zah]
 unfold doM
 rw [Zam (s:=Zc s 1) e0 k1 ha]
 simp only
 rw [Zba (s:=Zc (Zc s 1) 1) e0 k2,Zam (s:=Zc (Zc (Zc s 1) 1) 1) e0 k3 hb]
 simp only
 rw [ZH (s:=Zc (Zc (Zc (Zc s 1) 1) 1) 1) e0 k4 (by decide),if_neg (by decide),Zba (s:=Zc (Zc (Zc (Zc s 1) 1) 1) 1) e0 k4,Zk,Zk,Zk,Zk]
 erw [x1]
 simp only [Zk,Zaw,List.length_append,List.length_cons,List.length_nil,List.nil_append,Prod.mk.injEq,true_and]
 congr 1
 omega
end
end
end Go.Proofs.YtkongcicmajolaaGreatDoor
