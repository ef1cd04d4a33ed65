import Derived.Test.YtfbepcelkijgkaaGreatDoorQAQ
set_option maxRecDepth 100000
set_option maxHeartbeats 8000000
namespace Go.Proofs.YtfbepcelkijgkaaGreatDoor
section
inductive Tr where
 |mk (kind:Int) (words:List Txt) (nums:List Int) (at_:Int) (kids:List Tr)
structure PS where
 at_:Nat
 deep:Int
 err:Int
 fat:Int
section
variable (L:List Tok)
def Zg (k:Nat):Tok:=(L[k]?).getD (3,[],0)
def ZaK (s:PS):Tok:=if s.err≠0 then Zg L (L.length-1)else Zg L s.at_
def ZbZ (e:Int) (s:PS):PS:=if s.err=0 then { s with err:=e,fat:=(Zg L s.at_).2.2 }else s
def isM (x:Txt) (s:PS):Bool:=decide ((ZaK L s).2.1=x)&&(decide ((ZaK L s).1=2)||decide ((ZaK L s).1=0)&&isKey x)&&decide (s.err=0)
def Zd (s:PS):PS:={ s with at_:=s.at_+1 }
def Zdo (x:Txt) (s:PS):Bool×PS:=if isM L x s then(true,Zd s)else(false,s)
def Zf (x:Txt) (s:PS):PS:=if isM L x s then Zd s else ZbZ L 11 s
def ZaY (s:PS):Bool:=decide ((ZaK L s).1=0)&&ZN (ZaK L s).2.1&&decide (s.err=0)
def Zb (s:PS):Txt×PS:=if ZaY L s then((ZaK L s).2.1,Zd s)else([],ZbZ L 11 s)
def Zdq (l:Txt):Int:=l.foldl (fun n c=>IntKind.i64.wrap (IntKind.i64.wrap (10*n)+((c.toNat:Int)-48) % 256)) 0
def Zan (a:Int) (s:PS):Int×PS:=if(ZaK L s).1=1/\¬Zdq (ZaK L s).2.1<a/\s.err=0 then(Zdq (ZaK L s).2.1,Zd s)else(0,ZbZ L 11 s)
def Ze (s:PS):Int:=(ZaK L s).2.2
def inM (s:PS):PS:=if 200<s.deep+1 then ZbZ L 12 { s with deep:=s.deep+1 }else { s with deep:=s.deep+1 }
def ZdU (s:PS):PS:={ s with deep:=s.deep-1 }
def ZC:List (Int×Txt)->PS->Int×PS
 |[],s=>(0,ZbZ L 11 s)
 |(i,w)::r,s=>if isM L w s then(i,Zd s)else ZC r s
def Zr (a:Nat):List (Int×Txt):=([(0,Zax 0),(1,Zax 1),(2,Zax 2),(3,Zax 3),(4,Zax 4)]:List (Int×Txt)).drop a
def Zdd:Nat->List Txt->PS->List Txt×PS
 |0,l,s=>(l,s)
 |f+1,l,s=>if isM L [124] s then(let r:=Zb L (Zd s);Zdd f (l++[r.1]) r.2)else(l,s)
def Zz (w:Txt) (which:Int) (s:PS):List Tr×PS:=
 if isM L w s then(let r:=Zb L (Zd s);let q:=Zdd L L.length [r.1] r.2;([.mk 6 q.1 [which] (Ze L s) []],q.2))else([],s)
def ZaZ (d:Int) (a b:Tr):Tr:=.mk 22 [] [d] (match a with|.mk _ _ _ c _=>c) [a,b]
def Zaz (b:PS->Tr×PS) (x y:Txt) (i j:Int):Nat->Tr->PS->Tr×PS
 |0,a,s=>(a,s)
 |f+1,a,s=>
  if s.err=0 then
   (if isM L x s then(let r:=b (Zd s);Zaz b x y i j f (ZaZ i a r.1) r.2)
    else if isM L y s then(let r:=b (Zd s);Zaz b x y i j f (ZaZ j a r.1) r.2)
    else(a,s))
  else(a,s)
def Zai (a:PS->Tr×PS) (s:PS):Tr×PS:=let r:=a s;Zaz L a [42] [47] 4 5 (L.length+1) r.1 r.2
def ZK (a:PS->Tr×PS) (s:PS):Tr×PS:=let r:=Zai L a s;Zaz L (Zai L a) [43] [45] 2 3 (L.length+1) r.1 r.2
def ZaO (c:PS->Tr×PS) (s:PS):Tr×PS:=
 let a:=ZK L c s
 if isM L [60] a.2 then(let b:=ZK L c (Zd a.2);(ZaZ 0 a.1 b.1,b.2))
 else if isM L [61,61] a.2 then(let b:=ZK L c (Zd a.2);(ZaZ 1 a.1 b.1,b.2))
 else a
def ZE:Nat->PS->Tr×PS
 |0,s=>(.mk 20 [] [] (Ze L s) [],s)
 |f+1,s=>
  if s.err≠0 then(.mk 20 [] [] (Ze L s) [],s)
  else if(ZaK L s).1=1 then(let r:=Zan L 0 s;(.mk 20 [] [r.1] (Ze L s) [],r.2))
  else if ZaY L s then(let r:=Zb L s;(.mk 21 [r.1] [] (Ze L s) [],r.2))
  else if isM L [45] s then(let r:=ZE f (inM L (Zd s));(.mk 23 [] [] (Ze L s) [r.1],ZdU r.2))
  else(let r:=ZaO L (ZE f) (inM L (Zf L [40] s));(r.1,Zf L [41] (ZdU r.2)))
def ZaP (a:PS->Tr×PS) (x:Txt):Nat->List Tr->PS->List Tr×PS
 |0,l,s=>(l,s)
 |f+1,l,s=>
  if s.err=0 then(if isM L x s then(l,Zd s)else(let r:=a s;ZaP a x f (l++[r.1]) r.2))
  else(l,s)
def ZT (a:PS->Tr×PS):Nat->Bool->List Tr->PS->List Tr×PS
 |0,_,l,s=>(l,s)
 |f+1,first,l,s=>
  if s.err=0 then(if isM L [41] s then(l,Zd s)else(let r:=a (if first then s else Zf L [44] s);ZT a f false (l++[r.1]) r.2))
  else(l,s)
def Zaf (st:PS->Tr×PS) (s:PS):Tr×PS:=
 let r:=ZaP L st [125] (L.length+1) [] (inM L (Zf L [123] s))
 (.mk 7 [] [] (Ze L s) r.1,ZdU r.2)
def ZaS (ex:PS->Tr×PS) (s:PS):Tr×PS:=
 if isM L [38] s then(let r:=Zb L (Zd s);(.mk 15 [r.1] [] (Ze L s) [],r.2))else ex s
def ZcQ (st:PS->Tr×PS) (s:PS):Tr×PS:=
 let a:=Zb L s;let b:=Zaf L st a.2
 (.mk 12 [a.1] [] (Ze L s) [b.1],b.2)
def ZcA (ex:PS->Tr×PS) (p:Int) (s:PS):Tr×PS:=
 let a:=Zb L s
 let h:List Txt×PS:=if isM L [61] a.2 then(let b:=Zb L (Zd a.2);([b.1,a.1],b.2))else([a.1],a.2)
 let r:=ZT L (ZaS L ex) (L.length+1) true [] (Zf L [40] h.2)
 (.mk 14 h.1 [] p r.1,Zf L [59] r.2)
def doM (st:PS->Tr×PS) (p:Int) (s:PS):Tr×PS:=
 let a:=Zb L s;let b:=Zb L (Zf L [46] a.2)
 if isM L [59] b.2 then(.mk 11 [a.1,b.1] [] p [],Zd b.2)
 else(let r:=ZaP L (ZcQ L st) [125] (L.length+1) [] (Zf L [123] b.2);(.mk 11 [a.1,b.1] [] p r.1,r.2))
def Zbb (ex st:PS->Tr×PS) (p:Int) (s:PS):Tr×PS:=
 if isM L [105,102] s then
  (let a:=ex (Zd s);let b:=Zaf L st a.2
   if isM L [101,108,115,101] b.2 then(let c:=Zaf L st (Zd b.2);(.mk 16 [] [] p [a.1,b.1,c.1],c.2))else(.mk 16 [] [] p [a.1,b.1],b.2))
 else if isM L [119,104,105,108,101] s then(let a:=ex (Zd s);let b:=Zaf L st a.2;(.mk 17 [] [] p [a.1,b.1],b.2))
 else if isM L [114,101,116,117,114,110] s then(let a:=ex (Zd s);(.mk 18 [] [] p [a.1],Zf L [59] a.2))
 else(.mk 19 [] [] p [],Zf L [59] (Zf L [101,120,105,116] s))
def ZdQ (st:PS->Tr×PS) (p:Int) (s:PS):Tr×PS:=
 let a:=Zb L s;let b:=Zb L (Zf L [61] a.2);let k:=ZC L (Zr 1) b.2
 let n:=Zan L 1 k.2;let d:=Zan L 1 (Zf L [47] n.2);let m:=Zz L [105,110] 2 d.2;let c:=Zaf L st m.2
 (.mk 13 [a.1,b.1] [k.1,n.1,d.1] p (m.1++[c.1]),c.2)
def Zt (ex:PS->Tr×PS):Nat->PS->Tr×PS
 |0,s=>(.mk 8 [] [] (Ze L s) [],s)
 |f+1,s=>
  let p:=Ze L s
  if isM L [108,101,116] s then(let a:=Zb L (Zd s);let e:=ex (Zf L [61] a.2);(.mk 8 [a.1] [] p [e.1],Zf L [59] e.2))
  else if ZaY L s then(let a:=Zb L s;let e:=ex (Zf L [61] a.2);(.mk 9 [a.1] [] p [e.1],Zf L [59] e.2))
  else if isM L [111,112,101,110] s then
   (let a:=Zb L (Zd s);let b:=Zb L a.2;let c:=Zaf L (Zt ex f) b.2;let d:=Zaf L (Zt ex f) (Zf L [101,108,115,101] c.2)
    (.mk 10 [a.1,b.1] [] p [c.1,d.1],d.2))
  else if isM L [100,111] s then doM L (Zt ex f) p (Zd s)
  else if isM L [115,112,108,105,116] s then ZdQ L (Zt ex f) p (Zd s)
  else if isM L [99,97,108,108] s then ZcA L ex p (Zd s)
  else Zbb L ex (Zt ex f) p s
def Zcw:Nat->List Txt->PS->List Txt×PS
 |0,l,s=>(l,s)
 |f+1,l,s=>
  if s.err=0 then
   (let a:=Zb L s;let b:=Zb L a.2
    if isM L [44] b.2 then Zcw f (l++[a.1,b.1]) (Zd b.2)else(l++[a.1,b.1],b.2))
  else(l,s)
def Zbn (s:PS):Tr×PS:=
 let p:=Ze L s
 if isM L [115,116,97,116,101] s then(let a:=Zb L (Zd s);(.mk 2 [a.1] [0] p [],Zf L [59] a.2))
 else if isM L [102,105,110,97,108] s then(let a:=Zb L (Zd s);(.mk 2 [a.1] [1] p [],Zf L [59] a.2))
 else(let a:=Zb L (Zf L [111,112] s);let b:=Zb L a.2;let r:=Zcw L (L.length+1) [a.1,b.1] (Zf L [45,62] b.2);(.mk 3 r.1 [] p [],Zf L [59] r.2))
def ZbI (s:PS):Tr×PS:=
 let a:=Zb L (Zf L [112,114,111,116,111] s)
 let r:=ZaP L (Zbn L) [125] (L.length+1) [] (Zf L [123] a.2)
 (.mk 1 [a.1] [] (Ze L s) r.1,r.2)
def ZaB (s:PS):Tr×PS:=
 let p:=Ze L s;let a:=Zb L s
 if isM L [58] a.2 then
  (let b:=Zb L (Zd a.2);let k:=ZC L (Zr 0) b.2
   let q:List Int×PS:=if isM L [108,101,97,115,116] k.2 then(let n:=Zan L 1 (Zd k.2);let d:=Zan L 1 (Zf L [47] n.2);([n.1,d.1],d.2))else([0,0],k.2)
   let x:=Zz L [97,116] 0 q.2;let y:=Zz L [116,111] 1 x.2;let z:=Zz L [105,110] 2 y.2
   (.mk 5 [a.1,b.1] (k.1::q.1) p (x.1++y.1++z.1),z.2))
 else(.mk 5 [a.1] [] p [],a.2)
def fnM (ex st:PS->Tr×PS) (s:PS):Tr×PS:=
 let a:=Zb L (Zf L [102,110] s)
 let r:=ZT L (ZaB L) (L.length+1) true [] (Zf L [40] a.2)
 let b:=Zaf L st r.2
 let _:=ex
 (.mk 4 [a.1] [] (Ze L s) (r.1++[b.1]),b.2)
def Zay (ex st:PS->Tr×PS):Nat->List Tr->PS->List Tr×PS
 |0,l,s=>(l,s)
 |f+1,l,s=>
  if s.err=0/\(ZaK L s).1≠3 then
   (if isM L [112,114,111,116,111] s then(let r:=ZbI L s;Zay ex st f (l++[r.1]) r.2)
    else if isM L [102,110] s then(let r:=fnM L ex st s;Zay ex st f (l++[r.1]) r.2)
    else Zay ex st f l (ZbZ L 11 s))
  else(l,s)
end
end
section
section
variable {L:List Tok}
def ZW (L:List Tok):Prop:=0<L.length/\(Zg L (L.length-1)).1=3
structure Adv (L:List Tok) (s s2:PS):Prop where
 le:s.at_<=s2.at_
 lt:s.at_<L.length->s2.at_<L.length
 deep:s2.deep=s.deep
 bad:s.err≠0->s2.err≠0
structure Gon (L:List Tok) (s s2:PS):Prop extends Adv L s s2 where
 on:s2.err=0->s.at_<s2.at_
theorem Adv.refl (s:PS):Adv L s s:=⟨Nat.le_refl _,id,rfl,id⟩
theorem Adv.trans {a b c:PS} (h:Adv L a b) (k:Adv L b c):Adv L a c:=⟨Nat.le_trans h.le k.le,fun q=>k.lt (h.lt q),k.deep.trans h.deep,fun q=>k.bad (h.bad q)⟩
theorem Gon.then_ {a b c:PS} (h:Gon L a b) (k:Adv L b c):Gon L a c:=⟨h.toAdv.trans k,fun q=>Nat.lt_of_lt_of_le (h.on (by
 by_cases e:b.err=0
 ·exact e
 ·exact absurd q (k.bad e))) k.le⟩
theorem Adv.then_ {a b c:PS} (h:Adv L a b) (k:Gon L b c):Gon L a c:=⟨h.trans k.toAdv,fun q=>Nat.lt_of_le_of_lt h.le (k.on q)⟩
theorem Adv.err {a b:PS} (h:Adv L a b) (e:b.err=0):a.err=0:=by
 by_cases q:a.err=0
 ·exact q
 ·exact absurd e (h.bad q)
theorem ZeE {e:Int} (a:e≠0) (s:PS):Gon L s (ZbZ L e s):=by
 unfold ZbZ;by_cases h:s.err=0
 ·rw[Yo h];exact⟨⟨Nat.le_refl _,id,rfl,fun q=>absurd h q⟩,fun q=>absurd q a⟩
 ·rw[Yn h];exact⟨Adv.refl s,fun q=>absurd q h⟩
theorem Zla (a:ZW L) {s:PS} (hs:s.at_<L.length) (b:s.err=0) (hn:(ZaK L s).1≠3):s.at_+1<L.length:=by
 rcases Nat.lt_or_ge (s.at_+1) L.length with h|h
 ·exact h
 ·exact absurd (by unfold ZaK;rw[Yn (by simp[b]),show s.at_=L.length-1 by omega];exact a.2) hn
theorem ZjH (a:ZW L) {s:PS} (hs:s.at_<L.length) (b:s.err=0) (hn:(ZaK L s).1≠3):Gon L s (Zd s):=
 ⟨⟨Nat.le_succ _,fun _=>Zla a hs b hn,rfl,id⟩,fun _=>Nat.lt_succ_self _⟩
theorem ZmB {x:Txt} {s:PS} (h:isM L x s=true):s.err=0/\(ZaK L s).1≠3:=by unfold isM at h;simp only[Bool.and_eq_true,Bool.or_eq_true,decide_eq_true_eq]at h;exact⟨h.2,by rcases h.1.2 with h|h<;>omega⟩
theorem ZA (a:ZW L) {x:Txt} {s:PS} (hs:s.at_<L.length) (h:isM L x s=true):Gon L s (Zd s):=ZjH a hs (ZmB h).1 (ZmB h).2
theorem Zq (a:ZW L) (x:Txt) {s:PS} (hs:s.at_<L.length):Gon L s (Zf L x s):=by
 unfold Zf;by_cases h:isM L x s=true
 ·rw[Yo h];exact ZA a hs h
 ·rw[Yn h];exact ZeE (by decide) s
theorem ZeV {s:PS} (h:ZaY L s=true):s.err=0/\(ZaK L s).1≠3:=by unfold ZaY at h;simp only[Bool.and_eq_true,decide_eq_true_eq]at h;exact⟨h.2,by omega⟩
theorem Zo (a:ZW L) {s:PS} (hs:s.at_<L.length):Gon L s (Zb L s).2:=by
 unfold Zb;by_cases h:ZaY L s=true
 ·rw[Yo h];exact ZjH a hs (ZeV h).1 (ZeV h).2
 ·rw[Yn h];exact ZeE (by decide) s
theorem Zc2 (b:ZW L) (a:Int) {s:PS} (hs:s.at_<L.length):Gon L s (Zan L a s).2:=by
 unfold Zan;by_cases h:(ZaK L s).1=1/\¬Zdq (ZaK L s).2.1<a/\s.err=0
 ·rw[Yo h];exact ZjH b hs h.2.2 (by omega)
 ·rw[Yn h];exact ZeE (by decide) s
theorem ZeG (a:ZW L):∀(l:List (Int×Txt)) {s:PS},s.at_<L.length->Gon L s (ZC L l s).2
 |[],s,_=>ZeE (by decide) s
 |(i,w)::r,s,hs=>by
  unfold ZC;by_cases h:isM L w s=true
  ·rw[Yo h];exact ZA a hs h
  ·rw[Yn h];exact ZeG a r hs
theorem ZfZ (a:ZW L):∀(f:Nat) (l:List Txt) {s:PS},s.at_<L.length->Adv L s (Zdd L f l s).2
 |0,_,s,_=>Adv.refl s
 |f+1,l,s,hs=>by
  unfold Zdd;by_cases h:isM L [124] s=true
  ·rw[Yo h];have g:=ZA a hs h;have n:=Zo a (g.lt hs);exact(g.toAdv.trans n.toAdv).trans (ZfZ a f _ (n.lt (g.lt hs)))
  ·rw[Yn h];exact Adv.refl s
theorem Zcs (a:ZW L) (x:Txt) (i:Int) {s:PS} (hs:s.at_<L.length):Adv L s (Zz L x i s).2:=by
 unfold Zz;by_cases h:isM L x s=true
 ·rw[Yo h];have g:=ZA a hs h;have n:=Zo a (g.lt hs);exact(g.toAdv.trans n.toAdv).trans (ZfZ a _ _ (n.lt (g.lt hs)))
 ·rw[Yn h];exact Adv.refl s
structure Dom (L:List Tok) (D:PS->Prop):Prop where
 next:∀a b,D a->Adv L a b->D b
 lt:∀a,D a->a.at_<L.length
abbrev Onw (L:List Tok) (D:PS->Prop) (M:PS->Tr×PS):Prop:=∀s,D s->Gon L s (M s).2
theorem ZcH (b:ZW L) {D:PS->Prop} (hD:Dom L D) {k:PS->Tr×PS} (c:Onw L D k) (x y:Txt) (i j:Int):∀(f:Nat) (a:Tr) (s:PS),D s->Adv L s (Zaz L k x y i j f a s).2
 |0,_,s,_=>Adv.refl s
 |f+1,a,s,hs=>by
  unfold Zaz;by_cases e:s.err=0
  ·rw[Yo e];by_cases h:isM L x s=true
   ·rw[Yo h];have g:=ZA b (hD.lt _ hs) h;have hd:=hD.next _ _ hs g.toAdv;have n:=c _ hd;exact(g.toAdv.trans n.toAdv).trans (ZcH b hD c x y i j f _ _ (hD.next _ _ hd n.toAdv))
   ·rw[Yn h];by_cases d:isM L y s=true
    ·rw[Yo d];have g:=ZA b (hD.lt _ hs) d;have hd:=hD.next _ _ hs g.toAdv;have n:=c _ hd;exact(g.toAdv.trans n.toAdv).trans (ZcH b hD c x y i j f _ _ (hD.next _ _ hd n.toAdv))
    ·rw[Yn d];exact Adv.refl s
  ·rw[Yn e];exact Adv.refl s
theorem Zd9 (c:ZW L) {D:PS->Prop} (hD:Dom L D) {b:PS->Tr×PS} (a:Onw L D b):Onw L D (Zai L b):=fun s hs=>
 (a s hs).then_ (ZcH c hD a _ _ _ _ _ _ _ (hD.next _ _ hs (a s hs).toAdv))
theorem ZgH (a:ZW L) {D:PS->Prop} (hD:Dom L D) {c:PS->Tr×PS} (b:Onw L D c):Onw L D (ZK L c):=fun s hs=>
 (Zd9 a hD b s hs).then_ (ZcH a hD (Zd9 a hD b) _ _ _ _ _ _ _ (hD.next _ _ hs (Zd9 a hD b s hs).toAdv))
theorem ZgA (b:ZW L) {D:PS->Prop} (hD:Dom L D) {c:PS->Tr×PS} (e:Onw L D c):Onw L D (ZaO L c):=fun s hs=>by
 have a:=ZgH b hD e s hs;have ha:=hD.next _ _ hs a.toAdv;unfold ZaO;dsimp only;by_cases h:isM L [60] (ZK L c s).2=true
 ·rw[Yo h];have g:=ZA b (hD.lt _ ha) h;exact a.then_ (g.toAdv.trans (ZgH b hD e _ (hD.next _ _ ha g.toAdv)).toAdv)
 ·rw[Yn h];by_cases d:isM L [61,61] (ZK L c s).2=true
  ·rw[Yo d];have g:=ZA b (hD.lt _ ha) d;exact a.then_ (g.toAdv.trans (ZgH b hD e _ (hD.next _ _ ha g.toAdv)).toAdv)
  ·rw[Yn d];exact a
structure Dp (L:List Tok) (f:Nat) (s:PS):Prop where
 lt:s.at_<L.length
 fuel:s.err=0->s.deep<=200/\200<s.deep+f
 lo:0<=s.deep
 hi:s.deep<=201
theorem ZX (f:Nat):Dom L (Dp L f):=⟨fun a b h k=>⟨k.lt h.lt,fun e=>by rw[k.deep];exact h.fuel (k.err e),by rw[k.deep];exact h.lo,by rw[k.deep];exact h.hi⟩,fun a h=>h.lt⟩
theorem Zen {f:Nat} {s:PS} (h:Dp L (f+1) s) (hd:s.err=0\/s.deep<=200):Dp L f (inM L s):=by
 have b:s.deep<=200:=hd.elim (fun e=>(h.fuel e).1) id;have c:=h.fuel;have d:=h.lo;have a:=h.lt;unfold inM;by_cases q:200<s.deep+1
 ·rw[Yo q];unfold ZbZ;by_cases e:s.err=0
  ·rw[Yo (show(({ s with deep:=s.deep+1 }:PS).err=0)from e)];exact⟨a,fun e=>(by cases e),by show 0<=s.deep+1;omega,by show s.deep+1<=201;omega⟩
  ·rw[Yn (show ¬(({ s with deep:=s.deep+1 }:PS).err=0)from e)];exact⟨a,fun k=>absurd k e,by show 0<=s.deep+1;omega,by show s.deep+1<=201;omega⟩
 ·rw[Yn q];exact⟨a,fun e=>by have:=c e;show s.deep+1<=200/\200<s.deep+1+f;push_cast at this;omega,by show 0<=s.deep+1;omega,by show s.deep+1<=201;omega⟩
theorem Zim (s:PS):(inM L s).at_=s.at_/\(inM L s).deep=s.deep+1/\(s.err≠0->(inM L s).err≠0):=by
 unfold inM ZbZ;by_cases q:200<s.deep+1
 ·rw[Yo q];by_cases e:s.err=0
  ·rw[Yo (show(({ s with deep:=s.deep+1 }:PS).err=0)from e)];exact⟨rfl,rfl,fun k=>absurd e k⟩
  ·rw[Yn (show ¬(({ s with deep:=s.deep+1 }:PS).err=0)from e)];exact⟨rfl,rfl,fun k=>k⟩
 ·rw[Yn q];exact⟨rfl,rfl,fun k=>k⟩
theorem Zhv {s a:PS} (h:Adv L (inM L s) a):Adv L s (ZdU a):=by obtain⟨b,c,d⟩:=Zim (L:=L) s;exact⟨by have:=h.le;rw[b]at this;exact this,fun q=>h.lt (by rw[b];exact q),by show a.deep-1=s.deep;rw[h.deep,c];omega,fun q=>h.bad (d q)⟩
theorem Zb5 (a:ZW L):∀(f:Nat),Onw L (Dp L f) (ZE L f)
 |0,s,hs=>⟨Adv.refl s,fun e=>by have:=hs.fuel e;omega⟩
 |f+1,s,hs=>by
  unfold ZE;by_cases e:s.err≠0
  ·rw[Yo e];exact⟨Adv.refl s,fun q=>absurd q e⟩
  rw[Yn e];have c:s.err=0:=Classical.not_not.1 e;by_cases h:(ZaK L s).1=1
  ·rw[Yo h];exact Zc2 a 0 hs.lt
  rw[Yn h];by_cases j:ZaY L s=true
  ·rw[Yo j];exact Zo a hs.lt
  rw[Yn j];by_cases b:isM L [45] s=true
  ·rw[Yo b];have g:=ZA a hs.lt b;have d:=(ZX (f+1)).next _ _ hs g.toAdv;exact g.then_ (Zhv (Zb5 a f _ (Zen d (.inl c))).toAdv)
  rw[Yn b];have g:=Zq a [40] hs.lt;have d:=(ZX (f+1)).next _ _ hs g.toAdv;have i:=Zen d (.inr (by rw[g.deep];exact(hs.fuel c).1));have x:=Zhv (ZgA a (ZX f) (Zb5 a f) _ i).toAdv;exact(g.then_ x).then_ (Zq a [41] (x.lt (g.lt hs.lt))).toAdv
theorem ZcV (c:ZW L) {D:PS->Prop} (hD:Dom L D) {b:PS->Tr×PS} (d:∀s,D s->s.err=0->Adv L s (b s).2) (x:Txt):∀(f:Nat) (l:List Tr) (s:PS),D s->Adv L s (ZaP L b x f l s).2
 |0,_,s,_=>Adv.refl s
 |f+1,l,s,hs=>by
  unfold ZaP;by_cases a:s.err=0
  ·rw[Yo a];by_cases h:isM L x s=true
   ·rw[Yo h];exact(ZA c (hD.lt _ hs) h).toAdv
   ·rw[Yn h];have n:=d s hs a;exact n.trans (ZcV c hD d x f _ _ (hD.next _ _ hs n))
  ·rw[Yn a];exact Adv.refl s
theorem Zc4 (a:ZW L) {D:PS->Prop} (hD:Dom L D) {c:PS->Tr×PS} (e:∀s,D s->Adv L s (c s).2):∀(f:Nat) (first:Bool) (l:List Tr) (s:PS),D s->Adv L s (ZT L c f first l s).2
 |0,_,_,s,_=>Adv.refl s
 |f+1,first,l,s,hs=>by
  unfold ZT;by_cases d:s.err=0
  ·rw[Yo d];by_cases h:isM L [41] s=true
   ·rw[Yo h];exact(ZA a (hD.lt _ hs) h).toAdv
   ·rw[Yn h];have w:Adv L s (if first then s else Zf L [44] s):=by
     cases first
     ·exact(Zq a [44] (hD.lt _ hs)).toAdv
     ·exact Adv.refl s
    have b:=hD.next _ _ hs w;have n:=e _ b;exact(w.trans n).trans (Zc4 a hD e f _ _ _ (hD.next _ _ b n))
  ·rw[Yn d];exact Adv.refl s
theorem Zbx (b:ZW L) {f:Nat} {st:PS->Tr×PS} (c:∀s,Dp L f s->s.err=0->Adv L s (st s).2) {s:PS} (hs:Dp L (f+1) s) (a:s.deep<=200):Gon L s (Zaf L st s).2:=by have g:=Zq b [123] hs.lt;have d:=(ZX (f+1)).next _ _ hs g.toAdv;exact g.then_ (Zhv (ZcV b (ZX f) c [125] _ _ _ (Zen d (.inr (by rw[g.deep];exact a)))))
end
end
end Go.Proofs.YtfbepcelkijgkaaGreatDoor
