import Derived.Test.YtdkegpkfjgloeaaGreatDoorQAC
import Derived.Test.YtdkegpkfjgloeaaGreatDoorQAD
import Derived.Test.YtdkegpkfjgloeaaGreatDoorQAN
import Derived.Test.YtdkegpkfjgloeaaGreatDoorQAP
set_option maxRecDepth 100000
set_option maxHeartbeats 8000000
open Option renaming some → Ya
open Go.Value renaming slice → Yc, int → Yd
open Go.IntKind renaming i64 → Yf
open Go renaming World → Yh, Value → Yi
namespace Go.Proofs.YtdkegpkfjgloeaaGreatDoor
section
inductive Tr where
 |mk (kind:Int) (words:List Txt) (nums:List Int) (at_:Int) (kids:List Tr)
structure PS where
 at_:Nat
 deep:Int
 err:Int
 fat:Int
section
variable (L:List Tok)
def Zl (k:Nat):Tok:=(L[k]?).getD (3,[],0)
def Za0 (s:PS):Tok:=if s.err≠0 then Zl L (L.length-1)else Zl L s.at_
def Zcb (e:Int) (s:PS):PS:=if s.err=0 then { s with err:=e,fat:=(Zl L s.at_).2.2 }else s
def isM (x:Txt) (s:PS):Bool:=decide ((Za0 L s).2.1=x)&&(decide ((Za0 L s).1=2)||decide ((Za0 L s).1=0)&&isKey x)&&decide (s.err=0)
def Ze (s:PS):PS:={ s with at_:=s.at_+1 }
def Zdo (x:Txt) (s:PS):Bool×PS:=if isM L x s then(true,Ze s)else(false,s)
def Zg (x:Txt) (s:PS):PS:=if isM L x s then Ze s else Zcb L 11 s
def Zbk (s:PS):Bool:=decide ((Za0 L s).1=0)&&ZQ (Za0 L s).2.1&&decide (s.err=0)
def Zc (s:PS):Txt×PS:=if Zbk L s then((Za0 L s).2.1,Ze s)else([],Zcb L 11 s)
def ZdU (l:Txt):Int:=l.foldl (fun n c=>IntKind.i64.wrap (IntKind.i64.wrap (10*n)+((c.toNat:Int)-48) % 256)) 0
def ZaF (a:Int) (s:PS):Int×PS:=if(Za0 L s).1=1/\¬ZdU (Za0 L s).2.1<a/\s.err=0 then(ZdU (Za0 L s).2.1,Ze s)else(0,Zcb L 11 s)
def Zf (s:PS):Int:=(Za0 L s).2.2
def inM (s:PS):PS:=if 200<s.deep+1 then Zcb L 12 { s with deep:=s.deep+1 }else { s with deep:=s.deep+1 }
def Zd0 (s:PS):PS:={ s with deep:=s.deep-1 }
def ZP:List (Int×Txt)->PS->Int×PS
 |[],s=>(0,Zcb L 11 s)
 |(i,w)::r,s=>if isM L w s then(i,Ze s)else ZP r s
def Zz (a:Nat):List (Int×Txt):=([(0,ZaH 0),(1,ZaH 1),(2,ZaH 2),(3,ZaH 3),(4,ZaH 4)]:List (Int×Txt)).drop a
def Zd5:Nat->List Txt->PS->List Txt×PS
 |0,l,s=>(l,s)
 |f+1,l,s=>if isM L [124] s then(let r:=Zc L (Ze s);Zd5 f (l++[r.1]) r.2)else(l,s)
def ZL (w:Txt) (which:Int) (s:PS):List Tr×PS:=
 if isM L w s then(let r:=Zc L (Ze s);let q:=Zd5 L L.length [r.1] r.2;([.mk 6 q.1 [which] (Zf L s) []],q.2))else([],s)
def Zbd (d:Int) (a b:Tr):Tr:=.mk 22 [] [d] (match a with|.mk _ _ _ c _=>c) [a,b]
def ZaS (b:PS->Tr×PS) (x y:Txt) (i j:Int):Nat->Tr->PS->Tr×PS
 |0,a,s=>(a,s)
 |f+1,a,s=>
  if s.err=0 then
   (if isM L x s then(let r:=b (Ze s);ZaS b x y i j f (Zbd i a r.1) r.2)
    else if isM L y s then(let r:=b (Ze s);ZaS b x y i j f (Zbd j a r.1) r.2)
    else(a,s))
  else(a,s)
def Zay (a:PS->Tr×PS) (s:PS):Tr×PS:=let r:=a s;ZaS L a [42] [47] 4 5 (L.length+1) r.1 r.2
def ZN (a:PS->Tr×PS) (s:PS):Tr×PS:=let r:=Zay L a s;ZaS L (Zay L a) [43] [45] 2 3 (L.length+1) r.1 r.2
def Za5 (c:PS->Tr×PS) (s:PS):Tr×PS:=
 let a:=ZN L c s
 if isM L [60] a.2 then(let b:=ZN L c (Ze a.2);(Zbd 0 a.1 b.1,b.2))
 else if isM L [61,61] a.2 then(let b:=ZN L c (Ze a.2);(Zbd 1 a.1 b.1,b.2))
 else a
def ZK:Nat->PS->Tr×PS
 |0,s=>(.mk 20 [] [] (Zf L s) [],s)
 |f+1,s=>
  if s.err≠0 then(.mk 20 [] [] (Zf L s) [],s)
  else if(Za0 L s).1=1 then(let r:=ZaF L 0 s;(.mk 20 [] [r.1] (Zf L s) [],r.2))
  else if Zbk L s then(let r:=Zc L s;(.mk 21 [r.1] [] (Zf L s) [],r.2))
  else if isM L [45] s then(let r:=ZK f (inM L (Ze s));(.mk 23 [] [] (Zf L s) [r.1],Zd0 r.2))
  else(let r:=Za5 L (ZK f) (inM L (Zg L [40] s));(r.1,Zg L [41] (Zd0 r.2)))
def Zbc (a:PS->Tr×PS) (x:Txt):Nat->List Tr->PS->List Tr×PS
 |0,l,s=>(l,s)
 |f+1,l,s=>
  if s.err=0 then(if isM L x s then(l,Ze s)else(let r:=a s;Zbc a x f (l++[r.1]) r.2))
  else(l,s)
def Zal (a:PS->Tr×PS):Nat->Bool->List Tr->PS->List Tr×PS
 |0,_,l,s=>(l,s)
 |f+1,first,l,s=>
  if s.err=0 then(if isM L [41] s then(l,Ze s)else(let r:=a (if first then s else Zg L [44] s);Zal a f false (l++[r.1]) r.2))
  else(l,s)
def Zaz (st:PS->Tr×PS) (s:PS):Tr×PS:=
 let r:=Zbc L st [125] (L.length+1) [] (inM L (Zg L [123] s))
 (.mk 7 [] [] (Zf L s) r.1,Zd0 r.2)
def Zbg (ex:PS->Tr×PS) (s:PS):Tr×PS:=
 if isM L [38] s then(let r:=Zc L (Ze s);(.mk 15 [r.1] [] (Zf L s) [],r.2))else ex s
def Zdb (st:PS->Tr×PS) (s:PS):Tr×PS:=
 let a:=Zc L s;let b:=Zaz L st a.2
 (.mk 12 [a.1] [] (Zf L s) [b.1],b.2)
def Zc2 (ex:PS->Tr×PS) (p:Int) (s:PS):Tr×PS:=
 let a:=Zc L s
 let h:List Txt×PS:=if isM L [61] a.2 then(let b:=Zc L (Ze a.2);([b.1,a.1],b.2))else([a.1],a.2)
 let r:=Zal L (Zbg L ex) (L.length+1) true [] (Zg L [40] h.2)
 (.mk 14 h.1 [] p r.1,Zg L [59] r.2)
def doM (st:PS->Tr×PS) (p:Int) (s:PS):Tr×PS:=
 let a:=Zc L s;let b:=Zc L (Zg L [46] a.2)
 if isM L [59] b.2 then(.mk 11 [a.1,b.1] [] p [],Ze b.2)
 else(let r:=Zbc L (Zdb L st) [125] (L.length+1) [] (Zg L [123] b.2);(.mk 11 [a.1,b.1] [] p r.1,r.2))
def Zbx (ex st:PS->Tr×PS) (p:Int) (s:PS):Tr×PS:=
 if isM L [105,102] s then
  (let a:=ex (Ze s);let b:=Zaz L st a.2
   if isM L [101,108,115,101] b.2 then(let c:=Zaz L st (Ze b.2);(.mk 16 [] [] p [a.1,b.1,c.1],c.2))else(.mk 16 [] [] p [a.1,b.1],b.2))
 else if isM L [119,104,105,108,101] s then(let a:=ex (Ze s);let b:=Zaz L st a.2;(.mk 17 [] [] p [a.1,b.1],b.2))
 else if isM L [114,101,116,117,114,110] s then(let a:=ex (Ze s);(.mk 18 [] [] p [a.1],Zg L [59] a.2))
 else(.mk 19 [] [] p [],Zg L [59] (Zg L [101,120,105,116] s))
def Zfm (st:PS->Tr×PS) (p:Int) (s:PS):Tr×PS:=
 let a:=Zc L s;let b:=Zc L (Zg L [61] a.2);let k:=ZP L (Zz 1) b.2
 let n:=ZaF L 1 k.2;let d:=ZaF L 1 (Zg L [47] n.2);let m:=ZL L [105,110] 2 d.2;let c:=Zaz L st m.2
 (.mk 13 [a.1,b.1] [k.1,n.1,d.1] p (m.1++[c.1]),c.2)
def Zu (ex:PS->Tr×PS):Nat->PS->Tr×PS
 |0,s=>(.mk 8 [] [] (Zf L s) [],s)
 |f+1,s=>
  let p:=Zf L s
  if isM L [108,101,116] s then(let a:=Zc L (Ze s);let e:=ex (Zg L [61] a.2);(.mk 8 [a.1] [] p [e.1],Zg L [59] e.2))
  else if Zbk L s then(let a:=Zc L s;let e:=ex (Zg L [61] a.2);(.mk 9 [a.1] [] p [e.1],Zg L [59] e.2))
  else if isM L [111,112,101,110] s then
   (let a:=Zc L (Ze s);let b:=Zc L a.2;let c:=Zaz L (Zu ex f) b.2;let d:=Zaz L (Zu ex f) (Zg L [101,108,115,101] c.2)
    (.mk 10 [a.1,b.1] [] p [c.1,d.1],d.2))
  else if isM L [100,111] s then doM L (Zu ex f) p (Ze s)
  else if isM L [115,112,108,105,116] s then Zfm L (Zu ex f) p (Ze s)
  else if isM L [99,97,108,108] s then Zc2 L ex p (Ze s)
  else Zbx L ex (Zu ex f) p s
def ZdO:Nat->List Txt->PS->List Txt×PS
 |0,l,s=>(l,s)
 |f+1,l,s=>
  if s.err=0 then
   (let a:=Zc L s;let b:=Zc L a.2
    if isM L [44] b.2 then ZdO f (l++[a.1,b.1]) (Ze b.2)else(l++[a.1,b.1],b.2))
  else(l,s)
def ZbF (s:PS):Tr×PS:=
 let p:=Zf L s
 if isM L [115,116,97,116,101] s then(let a:=Zc L (Ze s);(.mk 2 [a.1] [0] p [],Zg L [59] a.2))
 else if isM L [102,105,110,97,108] s then(let a:=Zc L (Ze s);(.mk 2 [a.1] [1] p [],Zg L [59] a.2))
 else(let a:=Zc L (Zg L [111,112] s);let b:=Zc L a.2;let r:=ZdO L (L.length+1) [a.1,b.1] (Zg L [45,62] b.2);(.mk 3 r.1 [] p [],Zg L [59] r.2))
def Zb8 (s:PS):Tr×PS:=
 let a:=Zc L (Zg L [112,114,111,116,111] s)
 let r:=Zbc L (ZbF L) [125] (L.length+1) [] (Zg L [123] a.2)
 (.mk 1 [a.1] [] (Zf L s) r.1,r.2)
def ZaW (s:PS):Tr×PS:=
 let p:=Zf L s;let a:=Zc L s
 if isM L [58] a.2 then
  (let b:=Zc L (Ze a.2);let k:=ZP L (Zz 0) b.2
   let q:List Int×PS:=if isM L [108,101,97,115,116] k.2 then(let n:=ZaF L 1 (Ze k.2);let d:=ZaF L 1 (Zg L [47] n.2);([n.1,d.1],d.2))else([0,0],k.2)
   let x:=ZL L [97,116] 0 q.2;let y:=ZL L [116,111] 1 x.2;let z:=ZL L [105,110] 2 y.2
   (.mk 5 [a.1,b.1] (k.1::q.1) p (x.1++y.1++z.1),z.2))
 else(.mk 5 [a.1] [] p [],a.2)
def fnM (ex st:PS->Tr×PS) (s:PS):Tr×PS:=
 let a:=Zc L (Zg L [102,110] s)
 let r:=Zal L (ZaW L) (L.length+1) true [] (Zg L [40] a.2)
 let b:=Zaz L st r.2
 let _:=ex
 (.mk 4 [a.1] [] (Zf L s) (r.1++[b.1]),b.2)
def ZaU (ex st:PS->Tr×PS):Nat->List Tr->PS->List Tr×PS
 |0,l,s=>(l,s)
 |f+1,l,s=>
  if s.err=0/\(Za0 L s).1≠3 then
   (if isM L [112,114,111,116,111] s then(let r:=Zb8 L s;ZaU ex st f (l++[r.1]) r.2)
    else if isM L [102,110] s then(let r:=fnM L ex st s;ZaU ex st f (l++[r.1]) r.2)
    else ZaU ex st f l (Zcb L 11 s))
  else(l,s)
end
end
section
section
variable {L:List Tok}
def ZaJ (L:List Tok):Prop:=0<L.length/\(Zl L (L.length-1)).1=3
structure Adv (L:List Tok) (s s2:PS):Prop where
 le:s.at_<=s2.at_
 lt:s.at_<L.length->s2.at_<L.length
 deep:s2.deep=s.deep
 bad:s.err≠0->s2.err≠0
structure Gon (L:List Tok) (s s2:PS):Prop extends Adv L s s2 where
 on:s2.err=0->s.at_<s2.at_
theorem Adv.refl (s:PS):Adv L s s:=⟨Nat.le_refl _,id,rfl,id⟩
theorem Adv.trans {a b c:PS} (h:Adv L a b) (k:Adv L b c):Adv L a c:=⟨Nat.le_trans h.le k.le,fun q=>k.lt (h.lt q),k.deep.trans h.deep,fun q=>k.bad (h.bad q)⟩
theorem Gon.then_ {a b c:PS} (h:Gon L a b) (k:Adv L b c):Gon L a c:=⟨h.toAdv.trans k,fun q=>Nat.lt_of_lt_of_le (h.on (by
 by_cases e:b.err=0
 ·exact e
 ·exact absurd q (k.bad e))) k.le⟩
theorem Adv.then_ {a b c:PS} (h:Adv L a b) (k:Gon L b c):Gon L a c:=⟨h.trans k.toAdv,fun q=>Nat.lt_of_le_of_lt h.le (k.on q)⟩
theorem Adv.err {a b:PS} (h:Adv L a b) (e:b.err=0):a.err=0:=by
 by_cases q:a.err=0
 ·exact q
 ·exact absurd e (h.bad q)
theorem ZeZ {e:Int} (a:e≠0) (s:PS):Gon L s (Zcb L e s):=by
 unfold Zcb;by_cases h:s.err=0
 ·rw[Yo h];exact⟨⟨Nat.le_refl _,id,rfl,fun q=>absurd h q⟩,fun q=>absurd q a⟩
 ·rw[Yn h];exact⟨Adv.refl s,fun q=>absurd q h⟩
theorem ZkO (a:ZaJ L) {s:PS} (c:s.at_<L.length) (b:s.err=0) (hn:(Za0 L s).1≠3):s.at_+1<L.length:=by
 rcases Nat.lt_or_ge (s.at_+1) L.length with h|h
 ·exact h
 ·exact absurd (by unfold Za0;rw[Yn (by simp[b]),show s.at_=L.length-1 by omega];exact a.2) hn
theorem Zjp (a:ZaJ L) {s:PS} (c:s.at_<L.length) (b:s.err=0) (hn:(Za0 L s).1≠3):Gon L s (Ze s):=
 ⟨⟨Nat.le_succ _,fun _=>ZkO a c b hn,rfl,id⟩,fun _=>Nat.lt_succ_self _⟩
theorem Zmw {x:Txt} {s:PS} (h:isM L x s=true):s.err=0/\(Za0 L s).1≠3:=by unfold isM at h;simp only[Bool.and_eq_true,Bool.or_eq_true,decide_eq_true_eq]at h;exact⟨h.2,by rcases h.1.2 with h|h<;>omega⟩
theorem ZT (a:ZaJ L) {x:Txt} {s:PS} (b:s.at_<L.length) (h:isM L x s=true):Gon L s (Ze s):=Zjp a b (Zmw h).1 (Zmw h).2
theorem ZF (a:ZaJ L) (x:Txt) {s:PS} (b:s.at_<L.length):Gon L s (Zg L x s):=by
 unfold Zg;by_cases h:isM L x s=true
 ·rw[Yo h];exact ZT a b h
 ·rw[Yn h];exact ZeZ (by decide) s
theorem ZeM {s:PS} (h:Zbk L s=true):s.err=0/\(Za0 L s).1≠3:=by unfold Zbk at h;simp only[Bool.and_eq_true,decide_eq_true_eq]at h;exact⟨h.2,by omega⟩
theorem ZB (a:ZaJ L) {s:PS} (b:s.at_<L.length):Gon L s (Zc L s).2:=by
 unfold Zc;by_cases h:Zbk L s=true
 ·rw[Yo h];exact Zjp a b (ZeM h).1 (ZeM h).2
 ·rw[Yn h];exact ZeZ (by decide) s
theorem ZdN (b:ZaJ L) (a:Int) {s:PS} (c:s.at_<L.length):Gon L s (ZaF L a s).2:=by
 unfold ZaF;by_cases h:(Za0 L s).1=1/\¬ZdU (Za0 L s).2.1<a/\s.err=0
 ·rw[Yo h];exact Zjp b c h.2.2 (by omega)
 ·rw[Yn h];exact ZeZ (by decide) s
theorem ZfQ (a:ZaJ L):∀(l:List (Int×Txt)) {s:PS},s.at_<L.length->Gon L s (ZP L l s).2
 |[],s,_=>ZeZ (by decide) s
 |(i,w)::r,s,hs=>by
  unfold ZP;by_cases h:isM L w s=true
  ·rw[Yo h];exact ZT a hs h
  ·rw[Yn h];exact ZfQ a r hs
theorem Zh8 (a:ZaJ L):∀(f:Nat) (l:List Txt) {s:PS},s.at_<L.length->Adv L s (Zd5 L f l s).2
 |0,_,s,_=>Adv.refl s
 |f+1,l,s,hs=>by
  unfold Zd5;by_cases h:isM L [124] s=true
  ·rw[Yo h];have g:=ZT a hs h;have n:=ZB a (g.lt hs);exact(g.toAdv.trans n.toAdv).trans (Zh8 a f _ (n.lt (g.lt hs)))
  ·rw[Yn h];exact Adv.refl s
theorem Zdh (a:ZaJ L) (x:Txt) (i:Int) {s:PS} (b:s.at_<L.length):Adv L s (ZL L x i s).2:=by
 unfold ZL;by_cases h:isM L x s=true
 ·rw[Yo h];have g:=ZT a b h;have n:=ZB a (g.lt b);exact(g.toAdv.trans n.toAdv).trans (Zh8 a _ _ (n.lt (g.lt b)))
 ·rw[Yn h];exact Adv.refl s
structure Dom (L:List Tok) (D:PS->Prop):Prop where
 next:∀a b,D a->Adv L a b->D b
 lt:∀a,D a->a.at_<L.length
abbrev Onw (L:List Tok) (D:PS->Prop) (M:PS->Tr×PS):Prop:=∀s,D s->Gon L s (M s).2
theorem Zdy (b:ZaJ L) {D:PS->Prop} (hD:Dom L D) {k:PS->Tr×PS} (c:Onw L D k) (x y:Txt) (i j:Int):∀(f:Nat) (a:Tr) (s:PS),D s->Adv L s (ZaS L k x y i j f a s).2
 |0,_,s,_=>Adv.refl s
 |f+1,a,s,hs=>by
  unfold ZaS;by_cases e:s.err=0
  ·rw[Yo e];by_cases h:isM L x s=true
   ·rw[Yo h];have g:=ZT b (hD.lt _ hs) h;have hd:=hD.next _ _ hs g.toAdv;have n:=c _ hd;exact(g.toAdv.trans n.toAdv).trans (Zdy b hD c x y i j f _ _ (hD.next _ _ hd n.toAdv))
   ·rw[Yn h];by_cases d:isM L y s=true
    ·rw[Yo d];have g:=ZT b (hD.lt _ hs) d;have hd:=hD.next _ _ hs g.toAdv;have n:=c _ hd;exact(g.toAdv.trans n.toAdv).trans (Zdy b hD c x y i j f _ _ (hD.next _ _ hd n.toAdv))
    ·rw[Yn d];exact Adv.refl s
  ·rw[Yn e];exact Adv.refl s
theorem ZeR (d:ZaJ L) {D:PS->Prop} (hD:Dom L D) {c:PS->Tr×PS} (a:Onw L D c):Onw L D (Zay L c):=fun s b=>
 (a s b).then_ (Zdy d hD a _ _ _ _ _ _ _ (hD.next _ _ b (a s b).toAdv))
theorem ZhE (a:ZaJ L) {D:PS->Prop} (hD:Dom L D) {d:PS->Tr×PS} (b:Onw L D d):Onw L D (ZN L d):=fun s c=>
 (ZeR a hD b s c).then_ (Zdy a hD (ZeR a hD b) _ _ _ _ _ _ _ (hD.next _ _ c (ZeR a hD b s c).toAdv))
theorem ZhM (b:ZaJ L) {D:PS->Prop} (hD:Dom L D) {c:PS->Tr×PS} (e:Onw L D c):Onw L D (Za5 L c):=fun s f=>by
 have a:=ZhE b hD e s f;have ha:=hD.next _ _ f a.toAdv;unfold Za5;dsimp only;by_cases h:isM L [60] (ZN L c s).2=true
 ·rw[Yo h];have g:=ZT b (hD.lt _ ha) h;exact a.then_ (g.toAdv.trans (ZhE b hD e _ (hD.next _ _ ha g.toAdv)).toAdv)
 ·rw[Yn h];by_cases d:isM L [61,61] (ZN L c s).2=true
  ·rw[Yo d];have g:=ZT b (hD.lt _ ha) d;exact a.then_ (g.toAdv.trans (ZhE b hD e _ (hD.next _ _ ha g.toAdv)).toAdv)
  ·rw[Yn d];exact a
structure Dp (L:List Tok) (f:Nat) (s:PS):Prop where
 lt:s.at_<L.length
 fuel:s.err=0->s.deep<=200/\200<s.deep+f
 lo:0<=s.deep
 hi:s.deep<=201
theorem ZaA (f:Nat):Dom L (Dp L f):=⟨fun a b h k=>⟨k.lt h.lt,fun e=>by rw[k.deep];exact h.fuel (k.err e),by rw[k.deep];exact h.lo,by rw[k.deep];exact h.hi⟩,fun a h=>h.lt⟩
theorem ZfC {f:Nat} {s:PS} (h:Dp L (f+1) s) (hd:s.err=0\/s.deep<=200):Dp L f (inM L s):=by
 have b:s.deep<=200:=hd.elim (fun e=>(h.fuel e).1) id;have c:=h.fuel;have d:=h.lo;have a:=h.lt;unfold inM;by_cases q:200<s.deep+1
 ·rw[Yo q];unfold Zcb;by_cases e:s.err=0
  ·rw[Yo (show(({ s with deep:=s.deep+1 }:PS).err=0)from e)];exact⟨a,fun e=>(by cases e),by show 0<=s.deep+1;omega,by show s.deep+1<=201;omega⟩
  ·rw[Yn (show ¬(({ s with deep:=s.deep+1 }:PS).err=0)from e)];exact⟨a,fun k=>absurd k e,by show 0<=s.deep+1;omega,by show s.deep+1<=201;omega⟩
 ·rw[Yn q];exact⟨a,fun e=>by have:=c e;show s.deep+1<=200/\200<s.deep+1+f;push_cast at this;omega,by show 0<=s.deep+1;omega,by show s.deep+1<=201;omega⟩
theorem Zic (s:PS):(inM L s).at_=s.at_/\(inM L s).deep=s.deep+1/\(s.err≠0->(inM L s).err≠0):=by
 unfold inM Zcb;by_cases q:200<s.deep+1
 ·rw[Yo q];by_cases e:s.err=0
  ·rw[Yo (show(({ s with deep:=s.deep+1 }:PS).err=0)from e)];exact⟨rfl,rfl,fun k=>absurd e k⟩
  ·rw[Yn (show ¬(({ s with deep:=s.deep+1 }:PS).err=0)from e)];exact⟨rfl,rfl,fun k=>k⟩
 ·rw[Yn q];exact⟨rfl,rfl,fun k=>k⟩
theorem Zhl {s a:PS} (h:Adv L (inM L s) a):Adv L s (Zd0 a):=by obtain⟨b,c,d⟩:=Zic (L:=L) s;exact⟨by have:=h.le;rw[b]at this;exact this,fun q=>h.lt (by rw[b];exact q),by show a.deep-1=s.deep;rw[h.deep,c];omega,fun q=>h.bad (d q)⟩
theorem ZcD (a:ZaJ L):∀(f:Nat),Onw L (Dp L f) (ZK L f)
 |0,s,hs=>⟨Adv.refl s,fun e=>by have:=hs.fuel e;omega⟩
 |f+1,s,hs=>by
  unfold ZK;by_cases e:s.err≠0
  ·rw[Yo e];exact⟨Adv.refl s,fun q=>absurd q e⟩
  rw[Yn e];have c:s.err=0:=Classical.not_not.1 e;by_cases h:(Za0 L s).1=1
  ·rw[Yo h];exact ZdN a 0 hs.lt
  rw[Yn h];by_cases j:Zbk L s=true
  ·rw[Yo j];exact ZB a hs.lt
  rw[Yn j];by_cases b:isM L [45] s=true
  ·rw[Yo b];have g:=ZT a hs.lt b;have d:=(ZaA (f+1)).next _ _ hs g.toAdv;exact g.then_ (Zhl (ZcD a f _ (ZfC d (.inl c))).toAdv)
  rw[Yn b];have g:=ZF a [40] hs.lt;have d:=(ZaA (f+1)).next _ _ hs g.toAdv;have i:=ZfC d (.inr (by rw[g.deep];exact(hs.fuel c).1));have x:=Zhl (ZhM a (ZaA f) (ZcD a f) _ i).toAdv;exact(g.then_ x).then_ (ZF a [41] (x.lt (g.lt hs.lt))).toAdv
theorem ZdC (b:ZaJ L) {D:PS->Prop} (hD:Dom L D) {ea:PS->Tr×PS} (c:∀s,D s->s.err=0->Adv L s (ea s).2) (x:Txt):∀(f:Nat) (l:List Tr) (s:PS),D s->Adv L s (Zbc L ea x f l s).2
 |0,_,s,_=>Adv.refl s
 |f+1,l,s,hs=>by
  unfold Zbc;by_cases a:s.err=0
  ·rw[Yo a];by_cases h:isM L x s=true
   ·rw[Yo h];exact(ZT b (hD.lt _ hs) h).toAdv
   ·rw[Yn h];have n:=c s hs a;exact n.trans (ZdC b hD c x f _ _ (hD.next _ _ hs n))
  ·rw[Yn a];exact Adv.refl s
theorem Zd6 (a:ZaJ L) {D:PS->Prop} (hD:Dom L D) {ea:PS->Tr×PS} (d:∀s,D s->Adv L s (ea s).2):∀(f:Nat) (first:Bool) (l:List Tr) (s:PS),D s->Adv L s (Zal L ea f first l s).2
 |0,_,_,s,_=>Adv.refl s
 |f+1,first,l,s,hs=>by
  unfold Zal;by_cases c:s.err=0
  ·rw[Yo c];by_cases h:isM L [41] s=true
   ·rw[Yo h];exact(ZT a (hD.lt _ hs) h).toAdv
   ·rw[Yn h];have w:Adv L s (if first then s else Zg L [44] s):=by
     cases first
     ·exact(ZF a [44] (hD.lt _ hs)).toAdv
     ·exact Adv.refl s
    have b:=hD.next _ _ hs w;have n:=d _ b;exact(w.trans n).trans (Zd6 a hD d f _ _ _ (hD.next _ _ b n))
  ·rw[Yn c];exact Adv.refl s
theorem Zcl (b:ZaJ L) {f:Nat} {st:PS->Tr×PS} (e:∀s,Dp L f s->s.err=0->Adv L s (st s).2) {s:PS} (c:Dp L (f+1) s) (a:s.deep<=200):Gon L s (Zaz L st s).2:=by have g:=ZF b [123] c.lt;have d:=(ZaA (f+1)).next _ _ c g.toAdv;exact g.then_ (Zhl (ZdC b (ZaA f) e [125] _ _ _ (ZfC d (.inr (by rw[g.deep];exact a)))))
end
end
section
section
variable {L:List Tok}
theorem Zkj (b:ZaJ L) {D:PS->Prop} (hD:Dom L D) {ex:PS->Tr×PS} (hx:Onw L D ex):Onw L D (Zbg L ex):=fun s a=>by
 unfold Zbg;by_cases h:isM L [38] s=true
 ·rw[Yo h];have g:=ZT b (hD.lt _ a) h;exact g.then_ (ZB b (g.lt (hD.lt _ a))).toAdv
 ·rw[Yn h];exact hx s a
theorem Zrm (b:ZaJ L) {D:PS->Prop} (hD:Dom L D) {ex:PS->Tr×PS} (hx:Onw L D ex) (p:Int):Onw L D (Zc2 L ex p):=fun s f=>by
 have a:=ZB b (hD.lt _ f);have e:=a.lt (hD.lt _ f);unfold Zc2;dsimp only
 have d:∀q:PS,Adv L (Zc L s).2 q->Gon L s (Zg L [59] (Zal L (Zbg L ex) (L.length+1) true [] (Zg L [40] q)).2):=fun q hq=>by
  have w:=ZF b [40] (hq.lt e);have i:=hD.next _ _ (hD.next _ _ (hD.next _ _ f a.toAdv) hq) w.toAdv;have c:=Zd6 b hD (fun s h=>(Zkj b hD hx s h).toAdv) (L.length+1) true [] _ i;exact a.then_ (((hq.trans w.toAdv).trans c).trans (ZF b [59] (c.lt (w.lt (hq.lt e)))).toAdv)
 by_cases h:isM L [61] (Zc L s).2=true
 ·rw[Yo h];have g:=ZT b e h;exact d _ (g.toAdv.trans (ZB b (g.lt e)).toAdv)
 ·rw[Yn h];exact d _ (Adv.refl _)
abbrev Stm (L:List Tok) (f:Nat) (st:PS->Tr×PS):Prop:=∀s,Dp L f s->s.err=0->Gon L s (st s).2
theorem Stm.adv {f:Nat} {st:PS->Tr×PS} (h:Stm L f st):∀s,Dp L f s->s.err=0->Adv L s (st s).2:=fun s a b=>(h s a b).toAdv
theorem ZhL (c:ZaJ L) {f:Nat} {st:PS->Tr×PS} (e:Stm L f st) {s:PS} (d:Dp L (f+1) s) (b:s.deep<=200):Gon L s (Zdb L st s).2:=by have a:=ZB c d.lt;exact a.then_ (Zcl c e.adv ((ZaA _).next _ _ d a.toAdv) (by rw[a.deep];exact b)).toAdv
theorem Zag (f:Nat):Dom L (fun s=>Dp L f s/\s.deep<=200):=⟨fun a b h k=>⟨(ZaA f).next a b h.1 k,by rw[k.deep];exact h.2⟩,fun a h=>h.1.lt⟩
theorem ZsG (e:ZaJ L) {f:Nat} {st:PS->Tr×PS} (l:Stm L f st) (p:Int) {s:PS} (i:Dp L (f+1) s) (g:s.deep<=200):Gon L s (doM L st p s).2:=by
 have a:=ZB e i.lt;have w:=ZF e [46] (a.lt i.lt);have b:=ZB e (w.lt (a.lt i.lt));have k:=b.lt (w.lt (a.lt i.lt));have j:=(a.toAdv.trans w.toAdv).trans b.toAdv;have c:Gon L s (Zc L (Zg L [46] (Zc L s).2)).2:=a.then_ (w.toAdv.trans b.toAdv);unfold doM;dsimp only;by_cases h:isM L [59] (Zc L (Zg L [46] (Zc L s).2)).2=true
 ·rw[Yo h];exact c.then_ (ZT e k h).toAdv
 ·rw[Yn h];have v:=ZF e [123] k;have d:=(Zag (f+1)).next _ _ ⟨i,g⟩ (j.trans v.toAdv);exact c.then_ (v.toAdv.trans (ZdC e (Zag (f+1)) (fun s h _=>(ZhL e l h.1 h.2).toAdv) [125] _ _ _ d))
theorem Zrv (d:ZaJ L) {f:Nat} {ex st:PS->Tr×PS} (hx:Onw L (Dp L (f+1)) ex) (n:Stm L f st) (p:Int) {s:PS} (e:Dp L (f+1) s) (b:s.deep<=200):Gon L s (Zbx L ex st p s).2:=by
 have D:=Zag (L:=L) (f+1);have X:∀q,Dp L (f+1) q/\q.deep<=200->Adv L q (ex q).2:=fun q h=>(hx q h.1).toAdv;have B:∀q,Dp L (f+1) q/\q.deep<=200->Adv L q (Zaz L st q).2:=fun q h=>(Zcl d n.adv h.1 h.2).toAdv;unfold Zbx;by_cases j:isM L [105,102] s=true
 ·rw[Yo j];have g:=ZT d e.lt j;have a:=D.next _ _ ⟨e,b⟩ g.toAdv;have c:=D.next _ _ a (X _ a);have m:=D.next _ _ c (B _ c);dsimp only;by_cases i:isM L [101,108,115,101] (Zaz L st (ex (Ze s)).2).2=true
  ·rw[Yo i];have k:=ZT d m.1.lt i;exact g.then_ ((((X _ a).trans (B _ c)).trans k.toAdv).trans (B _ (D.next _ _ m k.toAdv)))
  ·rw[Yn i];exact g.then_ ((X _ a).trans (B _ c))
 rw[Yn j];by_cases i:isM L [119,104,105,108,101] s=true
 ·rw[Yo i];have g:=ZT d e.lt i;have a:=D.next _ _ ⟨e,b⟩ g.toAdv;have c:=D.next _ _ a (X _ a);exact g.then_ ((X _ a).trans (B _ c))
 rw[Yn i];by_cases l:isM L [114,101,116,117,114,110] s=true
 ·rw[Yo l];have g:=ZT d e.lt l;have a:=D.next _ _ ⟨e,b⟩ g.toAdv;have c:=D.next _ _ a (X _ a);exact g.then_ ((X _ a).trans (ZF d [59] c.1.lt).toAdv)
 rw[Yn l];have w:=ZF d [101,120,105,116] e.lt;exact w.then_ (ZF d [59] (w.lt e.lt)).toAdv
theorem ZqQ (a:ZaJ L) {f:Nat} {st:PS->Tr×PS} (w:Stm L f st) (p:Int) {s:PS} (v:Dp L (f+1) s) (b:s.deep<=200):Gon L s (Zfm L st p s).2:=by have D:=Zag (L:=L) (f+1);unfold Zfm;dsimp only;have g:=ZB a v.lt;have c:=D.next _ _ ⟨v,b⟩ g.toAdv;have m:=ZF a [61] c.1.lt;have d:=D.next _ _ c m.toAdv;have n:=ZB a d.1.lt;have e:=D.next _ _ d n.toAdv;have o:=ZfQ a (Zz 1) e.1.lt;have h:=D.next _ _ e o.toAdv;have q:=ZdN a 1 h.1.lt;have i:=D.next _ _ h q.toAdv;have r:=ZF a [47] i.1.lt;have j:=D.next _ _ i r.toAdv;have t:=ZdN a 1 j.1.lt;have k:=D.next _ _ j t.toAdv;have u:=Zdh a [105,110] 2 k.1.lt;have l:=D.next _ _ k u;exact g.then_ (m.toAdv.trans (n.toAdv.trans (o.toAdv.trans (q.toAdv.trans (r.toAdv.trans (t.toAdv.trans (u.trans (Zcl a w.adv l.1 l.2).toAdv)))))))
theorem ZhS (b:ZaJ L) {ex:PS->Tr×PS} (hx:∀f,Onw L (Dp L (f+1)) ex):∀f,Stm L f (Zu L ex f)
 |0,s,hs,e=>by have:=hs.fuel e;omega
 |f+1,s,hs,e=>by
  have D:=Zag (L:=L) (f+1);have a:=(hs.fuel e).1;have m:=ZhS b hx f;unfold Zu;dsimp only;by_cases n:isM L [108,101,116] s=true
  ·rw[Yo n];have g:=ZT b hs.lt n;have c:=D.next _ _ ⟨hs,a⟩ g.toAdv;have i:=ZB b c.1.lt;have h:=D.next _ _ c i.toAdv;have j:=ZF b [61] h.1.lt;have d:=D.next _ _ h j.toAdv;have k:=hx f _ d.1;have l:=D.next _ _ d k.toAdv;exact g.then_ (i.toAdv.trans (j.toAdv.trans (k.toAdv.trans (ZF b [59] l.1.lt).toAdv)))
  rw[Yn n];by_cases v:Zbk L s=true
  ·rw[Yo v];have i:=ZB b hs.lt;have h:=D.next _ _ ⟨hs,a⟩ i.toAdv;have j:=ZF b [61] h.1.lt;have d:=D.next _ _ h j.toAdv;have k:=hx f _ d.1;have l:=D.next _ _ d k.toAdv;exact i.then_ (j.toAdv.trans (k.toAdv.trans (ZF b [59] l.1.lt).toAdv))
  rw[Yn v];by_cases o:isM L [111,112,101,110] s=true
  ·rw[Yo o];have g:=ZT b hs.lt o;have c:=D.next _ _ ⟨hs,a⟩ g.toAdv;have i:=ZB b c.1.lt;have h:=D.next _ _ c i.toAdv;have j:=ZB b h.1.lt;have d:=D.next _ _ h j.toAdv;have k:=Zcl b m.adv d.1 d.2;have l:=D.next _ _ d k.toAdv;have u:=ZF b [101,108,115,101] l.1.lt;have t:=D.next _ _ l u.toAdv;exact g.then_ (i.toAdv.trans (j.toAdv.trans (k.toAdv.trans (u.toAdv.trans (Zcl b m.adv t.1 t.2).toAdv))))
  rw[Yn o];by_cases p:isM L [100,111] s=true
  ·rw[Yo p];have g:=ZT b hs.lt p;have c:=D.next _ _ ⟨hs,a⟩ g.toAdv;exact g.then_ (ZsG b m _ c.1 c.2).toAdv
  rw[Yn p];by_cases q:isM L [115,112,108,105,116] s=true
  ·rw[Yo q];have g:=ZT b hs.lt q;have c:=D.next _ _ ⟨hs,a⟩ g.toAdv;exact g.then_ (ZqQ b m _ c.1 c.2).toAdv
  rw[Yn q];by_cases r:isM L [99,97,108,108] s=true
  ·rw[Yo r];have g:=ZT b hs.lt r;have c:=D.next _ _ ⟨hs,a⟩ g.toAdv;exact g.then_ (Zrm b (ZaA _) (hx f) _ _ c.1).toAdv
  rw[Yn r];exact Zrv b (hx f) m _ hs a
theorem Zj2 (c:ZaJ L):∀(f:Nat) (l:List Txt) {s:PS},s.at_<L.length->Adv L s (ZdO L f l s).2
 |0,_,s,_=>Adv.refl s
 |f+1,l,s,hs=>by
  unfold ZdO;by_cases d:s.err=0
  ·rw[Yo d];have a:=ZB c hs;have b:=ZB c (a.lt hs);have e:=b.lt (a.lt hs);dsimp only;by_cases h:isM L [44] (Zc L (Zc L s).2).2=true
   ·rw[Yo h];have g:=ZT c e h;exact(a.toAdv.trans b.toAdv).trans (g.toAdv.trans (Zj2 c f _ (g.lt e)))
   ·rw[Yn h];exact a.toAdv.trans b.toAdv
  ·rw[Yn d];exact Adv.refl s
theorem part_go (c:ZaJ L) {s:PS} (d:s.at_<L.length):Gon L s (ZbF L s).2:=by
 unfold ZbF;dsimp only;by_cases e:isM L [115,116,97,116,101] s=true
 ·rw[Yo e];have g:=ZT c d e;have n:=ZB c (g.lt d);exact g.then_ (n.toAdv.trans (ZF c [59] (n.lt (g.lt d))).toAdv)
 rw[Yn e];by_cases f:isM L [102,105,110,97,108] s=true
 ·rw[Yo f];have g:=ZT c d f;have n:=ZB c (g.lt d);exact g.then_ (n.toAdv.trans (ZF c [59] (n.lt (g.lt d))).toAdv)
 rw[Yn f];have g:=ZF c [111,112] d;have h:=g.lt d;have a:=ZB c h;have i:=a.lt h;have b:=ZB c i;have j:=b.lt i;have w:=ZF c [45,62] j;have k:=w.lt j;have x:=Zj2 c (L.length+1) [(Zc L (Zg L [111,112] s)).1,(Zc L (Zc L (Zg L [111,112] s)).2).1] k;exact g.then_ (a.toAdv.trans (b.toAdv.trans (w.toAdv.trans (x.trans (ZF c [59] (x.lt k)).toAdv))))
theorem Zim (c:ZaJ L) {s:PS} (d:s.at_<L.length):Gon L s (Zb8 L s).2:=by
 have D:Dom L (fun s=>s.at_<L.length):=⟨fun a b h k=>k.lt h,fun a h=>h⟩
 unfold Zb8;dsimp only;have g:=ZF c [112,114,111,116,111] d;have a:=ZB c (g.lt d);have w:=ZF c [123] (a.lt (g.lt d));exact g.then_ (a.toAdv.trans (w.toAdv.trans (ZdC c D (fun s h _=>(part_go c h).toAdv) [125] _ _ _ (w.lt (a.lt (g.lt d))))))
theorem Zeu (c:ZaJ L) {s:PS} (m:s.at_<L.length):Gon L s (ZaW L s).2:=by
 unfold ZaW;dsimp only;have a:=ZB c m;have l:=a.lt m;by_cases h:isM L [58] (Zc L s).2=true
 ·rw[Yo h];have g:=ZT c l h;have b:=ZB c (g.lt l);have o:=b.lt (g.lt l);have k:=ZfQ c (Zz 0) o;have f:=k.lt o
  have i:∀q:PS,Adv L (ZP L (Zz 0) (Zc L (Ze (Zc L s).2)).2).2 q->Gon L s (ZL L [105,110] 2 (ZL L [116,111] 1 (ZL L [97,116] 0 q).2).2).2:=fun q hq=>by
   have x:=Zdh c [97,116] 0 (hq.lt f);have y:=Zdh c [116,111] 1 (x.lt (hq.lt f));have z:=Zdh c [105,110] 2 (y.lt (x.lt (hq.lt f)));exact a.then_ (g.toAdv.trans (b.toAdv.trans (k.toAdv.trans (hq.trans (x.trans (y.trans z))))))
  by_cases j:isM L [108,101,97,115,116] (ZP L (Zz 0) (Zc L (Ze (Zc L s).2)).2).2=true
  ·rw[Yo j];have e:=ZT c f j;have n:=ZdN c 1 (e.lt f);have w:=ZF c [47] (n.lt (e.lt f));have d:=ZdN c 1 (w.lt (n.lt (e.lt f)));exact i _ (e.toAdv.trans (n.toAdv.trans (w.toAdv.trans d.toAdv)))
  ·rw[Yn j];exact i _ (Adv.refl _)
 ·rw[Yn h];exact a
theorem Znb (a:ZaJ L) {f:Nat} {ex st:PS->Tr×PS} (n:Stm L f st) {s:PS} (m:Dp L (f+1) s) (b:s.deep<=200):Gon L s (fnM L ex st s).2:=by have D:=Zag (L:=L) (f+1);unfold fnM;dsimp only;have g:=ZF a [102,110] m.lt;have c:=D.next _ _ ⟨m,b⟩ g.toAdv;have j:=ZB a c.1.lt;have d:=D.next _ _ c j.toAdv;have k:=ZF a [40] d.1.lt;have e:=D.next _ _ d k.toAdv;have l:=Zd6 a D (fun s h=>(Zeu a h.1.lt).toAdv) (L.length+1) true [] _ e;have i:=D.next _ _ e l;exact g.then_ (j.toAdv.trans (k.toAdv.trans (l.trans (Zcl a n.adv i.1 i.2).toAdv)))
end
end
section
open Go.RowKit
def Zep (l:List UInt8):List Tok×Int×Nat:=
 if 6000<l.length then([],13,0)else match ZbK l 0 with
  |.bad a=>([],10,a)
  |.ok b=>(b,0,0)
def Zkd (w:Yh) (r:List Tok×Int×Nat) (e:Ending) (w':Yh):Prop:=
 ∃A c,e=.returned (.tuple #[Yc A r.1.length c,.agg #[Yd Yf r.2.1,Yd Yf r.2.2]])/\Zck w' (Yc A r.1.length c) r.1/\Below w.heap.size w w'
theorem ZnJ {l:List UInt8} (h:6000<l.length):Zep l=([],13,0):=Yo h
theorem ZnI {l:List UInt8} {a:Nat} (h:l.length<=6000) (q:ZbK l 0=.bad a):Zep l=([],10,a):=by unfold Zep;rw[Yn (by omega),q]
theorem ZjP {l:List UInt8} {ts:List Tok} (h:l.length<=6000) (q:ZbK l 0=.ok ts):Zep l=(ts,0,0):=by unfold Zep;rw[Yn (by omega),q]
theorem ZrQ {w:Yh} {s:ByteArray} {e:Ending} {w':Yh} (h:s.size<=6000) (b:Zog w (ZbK s.data.toList 0) e w'):Zkd w (Zep s.data.toList) e w':=by
 have c:s.data.toList.length<=6000:=by rw[Zdg];exact h
 cases q:ZbK s.data.toList 0 with
 |bad a=>
  rw[q]at b;rw[ZnI c q];exact⟨none,0,b.1,Zck.nil _,b.2⟩
 |ok d=>
  rw[q]at b;rw[ZjP c q];exact b
theorem ZrP {w:Yh} {s:ByteArray} {e:Ending} {w':Yh} (h:6000<s.size) (a:e=.returned (.tuple #[Yc none 0 0,.agg #[Yd Yf 13,Yd Yf 0]])/\Below w.heap.size w w'):Zkd w (Zep s.data.toList) e w':=by rw[ZnJ (by rw[Zdg];exact h)];exact⟨none,0,a.1,Zck.nil _,a.2⟩
theorem Zl7 (s:ByteArray) (w:Yh):Calls Tryz.prog 16 #[.string s] w (Zkd w (Zep s.data.toList)):=by
 by_cases h:s.size<=6000
 ·exact(Zl5 s w h).mono fun _ _ a=>ZrQ h a
 ·exact(Zl6 s w (by omega)).mono fun _ _ a=>ZrP (by omega) a
theorem Zkf (a:Addr) (k j:Nat):a.add (k+(j+1))=⟨(a.add k).block,(a.add k).off+(j+1),none⟩:=by
 unfold Addr.add
 split<;>split<;>simp_all<;>omega
end
section
open Go.RowKit
def Tr.kd:Tr->Int|.mk k _ _ _ _=>k
def Tr.ws:Tr->List Txt|.mk _ w _ _ _=>w
def Tr.us:Tr->List Int|.mk _ _ u _ _=>u
def Tr.ps:Tr->Int|.mk _ _ _ p _=>p
def Tr.ks:Tr->List Tr|.mk _ _ _ _ k=>k
abbrev NV:=Yi×Yi×Yi
abbrev ZbQ (x:NV×Tr):Yi:=.agg #[Yd Yf x.2.kd,x.1.1,x.1.2.1,Yc none 0 0,Yd Yf x.2.ps,x.1.2.2]
def ZaZ:List (NV×Tr)->List Yi
 |[]=>[]
 |x::r=>Yd Yf x.2.kd::x.1.1::x.1.2.1::Yc none 0 0::Yd Yf x.2.ps::x.1.2.2::ZaZ r
theorem Zeo:∀l,(ZaZ l).length=l.length*6
 |[]=>rfl
 |x::r=>by simp only[ZaZ,Yk,Zeo r];omega
theorem Zg4:∀(l m:List (NV×Tr)),ZaZ (l++m)=ZaZ l++ZaZ m
 |[],m=>rfl
 |x::r,m=>by rw[List.cons_append,ZaZ,ZaZ,Zg4 r m];rfl
theorem ZjG:∀(l:List (NV×Tr)) (k:Nat) (x:NV×Tr),l[k]? = Ya x->(ZaZ l)[k*6]? = Ya (Yd Yf x.2.kd)/\(ZaZ l)[k*6+1]? = Ya x.1.1/\(ZaZ l)[k*6+2]? = Ya x.1.2.1/\(ZaZ l)[k*6+3]? = Ya (Yc none 0 0)/\(ZaZ l)[k*6+4]? = Ya (Yd Yf x.2.ps)/\(ZaZ l)[k*6+5]? = Ya x.1.2.2
 |[],k,x,h=>by simp at h
 |y::r,0,x,h=>by
  obtain rfl:y=x:=by simpa using h
  exact⟨rfl,rfl,rfl,rfl,rfl,rfl⟩
 |y::r,k+1,x,h=>by
  rw[List.getElem?_cons_succ]at h;obtain⟨a,b,c,d,e,f⟩:=ZjG r k x h
  have q:∀j,(ZaZ (y::r))[(k+1)*6+j]? = (ZaZ r)[k*6+j]?:=fun j=>by
   rw[show(k+1)*6+j=(k*6+j)+1+1+1+1+1+1 by omega];rfl
  exact⟨(q 0).trans a,(q 1).trans b,(q 2).trans c,(q 3).trans d,(q 4).trans e,(q 5).trans f⟩
inductive TrO (w:Yh):(Nat->Prop)->NV->Tr->Prop where
 |mk {Q:Nat->Prop} {wv uv lv:Yi} {k p:Int} {ws:List Txt} {us:List Int} (vs:List (NV×Tr)) (hw:w.ownsRow 0 9 1 wv ws.length (ws.map txt)) (hm:∀s∈ws,s.length<=maxLen) (hu:w.ownsRow 0 2 1 uv us.length (us.map (Value.int Yf)))
  (hl:w.ownsRow 0 55 6 lv vs.length (ZaZ vs)) (hq:∀b,lv.ownBlock=Ya b->Q b) (he:∀x∈vs,TrO w (fun b=>Q b/\lv.ownBlock≠Ya b) x.1 x.2):TrO w Q (wv,uv,lv) (.mk k ws us p (vs.map (·.2)))
theorem TrO.mono {w:Yh} {Q:Nat->Prop} {x:NV} {t:Tr} (h:TrO w Q x t):∀{R:Nat->Prop},(∀b,Q b->R b)->TrO w R x t:=by
 induction h with
 |mk j f hm e d hq k i=>exact fun c=>.mk j f hm e d (fun b a=>c b (hq b a)) fun y g=>i y g fun b a=>⟨c b a.1,a.2⟩
theorem TrO.kept {w w':Yh} {row:Option Nat} (s:w.grownBy w' row) {Q:Nat->Prop} {x:NV} {t:Tr} (h:TrO w Q x t):(∀g,row=Ya g->∃ty cs,Zk w g ty cs/\ty≠9/\ty≠2/\(ty≠55\/∀b,Q b->b≠g))->TrO w' Q x t:=by
 induction h with
 |@mk Q wv uv lv k p ws us vs hw hm hu hl hq he ih=>
  intro m
  have f:∀{e:TypeId} {d n:Nat} {v:Yi} {o:List Yi},w.ownsRow 0 e d v n o->(∀g ty cs,row=Ya g->Zk w g ty cs->ty≠9->ty≠2->(ty≠55\/∀b,Q b->b≠g)->v.ownBlock≠Ya g)->w'.ownsRow 0 e d v n o:=fun u l=>u.kept s (by
   cases q:row with
   |none=>cases z:Value.ownBlock _ with
    |none=>exact .inl rfl
    |some b=>exact .inr (by simp)
   |some g=>
    obtain⟨ty,cs,a,i,j,c⟩:=m g q
    exact .inr (l g ty cs q a i j c))
  refine .mk vs (f hw fun g ty cs _ a i _ _=>a.off hw i) hm (f hu fun g ty cs _ a _ j _=>a.off hu j) (f hl fun g ty cs _ a _ _ c=>?_) hq fun y A=>ih y A fun g e=>?_
  ·rcases c with c|c
   ·exact a.off hl c
   ·exact fun e=>c g (hq g e) rfl
  ·obtain⟨ty,cs,a,i,j,c⟩:=m g e;exact⟨ty,cs,a,i,j,c.imp id fun h b r=>h b r.1⟩
theorem TrO.keep {w w':Yh} {Q:Nat->Prop} {x:NV} {t:Tr} (h:TrO w Q x t) (a:Below w.heap.size w w'):TrO w' Q x t:=h.kept (Zd7 a none) fun _ e=>by cases e
theorem TrO.lt {w:Yh} {Q:Nat->Prop} {x:NV} {t:Tr} (h:TrO w Q x t):TrO w (fun b=>Q b/\b<w.heap.size) x t:=by
 induction h with
 |mk i e hm d c hq j g=>exact .mk i e hm d c (fun b a=>⟨hq b a,(c.lt b a).2⟩) fun y f=>(g y f).mono fun b a=>⟨⟨a.1.1,a.2⟩,a.1.2⟩
theorem TrO.shape {w:Yh} {Q:Nat->Prop} {x:NV} {t:Tr} (h:TrO w Q x t):∃A c B d C e,x=(Yc A t.ws.length c,Yc B t.us.length d,Yc C t.ks.length e):=by
 cases h with
 |mk i f hm b a hq g=>
  obtain⟨A,c,rfl⟩:=ZbB f;obtain⟨B,d,rfl⟩:=ZbB b;obtain⟨C,e,rfl⟩:=ZbB a;exact⟨A,c,B,d,C,e,by simp[Tr.ws,Tr.us,Tr.ks]⟩
structure ParS (w0 w:Yh) (bp:Nat) (vL:Yi) (L:List Tok) (s:PS):Prop where
 box:Zk w bp 52 #[vL,Yd Yf (s.at_:Int),Yd Yf s.deep,Yd Yf s.err,Yd Yf s.fat]
 toks:Zck w0 vL L
 below:Below w0.heap.size w0 w
 ge:w0.heap.size<=bp
 lt:s.at_<L.length
 few:L.length<=100000/\ZaJ L/\∀t∈L,t.2.1.length<=100000
abbrev Fp (w w':Yh) (a:Nat):Prop:=w.grownBy w' (Ya a)
theorem Fp.refl (w:Yh) (a:Nat):Fp w w a:=⟨rfl,rfl,rfl,Nat.le_refl _,fun _ _ _=>rfl⟩
theorem Fp.trans {w w1 w2:Yh} {a:Nat} (h:Fp w w1 a) (k:Fp w1 w2 a):Fp w w2 a:=
 ⟨k.os.trans h.os,k.tape.trans h.tape,k.output.trans h.output,Nat.le_trans h.size k.size,fun b c hn=>(k.block b (Nat.lt_of_lt_of_le c h.size) hn).trans (h.block b c hn)⟩
theorem Fp.of_below {w w':Yh} (a:Nat) (h:Below w.heap.size w w'):Fp w w' a:=Zd7 h _
theorem Fp.below {a w w':Yh} {b:Nat} (h:Fp w w' b) (c:Below a.heap.size a w) (d:a.heap.size<=b):Below a.heap.size a w':=c.grown h c.size fun k e=>by injection e with e;omega
theorem Fp.tblk {w w':Yh} {a b:Nat} {ty:TypeId} {cs:Array Yi} (h:Fp w w' a) (k:Zk w b ty cs) (hn:b≠a):Zk w' b ty cs:=k.grown h fun e=>hn (by injection e with e;exact e.symm)
theorem ParS.keep {d w w':Yh} {a:Nat} {c:Yi} {L:List Tok} {s:PS} (h:ParS d w a c L s) (b:Below w.heap.size w w'):ParS d w' a c L s:=
 ⟨h.box.keep b,h.toks,h.below.trans (b.mono h.below.size),h.ge,h.lt,h.few⟩
theorem ParS.own {k w w':Yh} {d:Nat} {j:Yi} {L:List Tok} {s:PS} {a b n:Nat} {e:TypeId} {v:Yi} {g:List Yi} (h:ParS k w d j L s) (f:w.ownsRow a e b v n g) (i:Fp w w' d) (c:52≠e):w'.ownsRow a e b v n g:=
 f.kept i (.inr (h.box.off f c))
theorem ParS.tree {f w w':Yh} {a:Nat} {d:Yi} {L:List Tok} {s:PS} {Q:Nat->Prop} {x:NV} {t:Tr} (h:ParS f w a d L s) (c:TrO w Q x t) (b:Fp w w' a):TrO w' Q x t:=
 c.kept b fun g e=>by
  injection e with e;subst e;exact⟨_,_,h.box,by decide,by decide,.inl (by decide)⟩
theorem ParS.tok {n w:Yh} {f:Nat} {d:Yi} {L:List Tok} {s:PS} (h:ParS n w f d L s) {k:Nat} (hk:k<L.length) :
  ∃a c,d=Yc (Ya a) L.length c/\w.cell? (a.add (k*3))=Ya (Yd Yf (Zl L k).1)/\w.cell? (a.add (k*3+1))=Ya (txt (Zl L k).2.1)/\w.cell? (a.add (k*3+2))=Ya (Yd Yf (Zl L k).2.2):=by
 obtain⟨A,c,rfl,_,_,g⟩:=h.toks;obtain⟨a,rfl,i,hc⟩:=g.2 (by omega);have e:L[k]? = Ya (Zl L k):=by unfold Zl;rw[Ym hk];rfl
 obtain⟨t0,m,t2⟩:=Zh1 L k _ e;have b:∀j u,(Zbs L)[j]? = Ya u->w.cell? (a.add j)=Ya u:=fun j u l=>(h.below.cell (p:=a.add j) (by rw[Zbq];exact i)).trans (hc j u l);exact⟨a,c,rfl,b _ _ t0,b _ _ m,b _ _ t2⟩
end
end Go.Proofs.YtdkegpkfjgloeaaGreatDoor
