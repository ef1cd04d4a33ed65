import Derived.Test.YtkongcicmajolaaGreatDoorQAR
set_option maxRecDepth 100000
set_option maxHeartbeats 8000000
namespace Go.Proofs.YtkongcicmajolaaGreatDoor
section
inductive Tr where
 | mk (kind:Int) (words:List Txt) (nums:List Int) (at_:Int) (kids:List Tr)
structure PS where
 at_:Nat
 deep:Int
 err:Int
 fat:Int
section
variable (L:List Tok)
def Zi (k:Nat):Tok:=(L[k]?).getD (3,[],0)
def ZaK (s:PS):Tok:=if s.err≠0 then Zi L (L.length-1) else Zi L s.at_
def Zb4 (e:Int) (s:PS):PS:=if s.err=0 then { s with err:=e,fat:=(Zi L s.at_).2.2 } else s
def isM (x:Txt) (s:PS):Bool:=decide ((ZaK L s).2.1=x)&&(decide ((ZaK L s).1=2)||decide ((ZaK L s).1=0)&&isKey x)&&decide (s.err=0)
def Zd (s:PS):PS:={ s with at_:=s.at_+1 }
def Zdr (x:Txt) (s:PS):Bool×PS:=if isM L x s then (true,Zd s) else (false,s)
def Zf (x:Txt) (s:PS):PS:=if isM L x s then Zd s else Zb4 L 11 s
def ZaZ (s:PS):Bool:=decide ((ZaK L s).1=0)&&ZN (ZaK L s).2.1&&decide (s.err=0)
def Zb (s:PS):Txt×PS:=if ZaZ L s then ((ZaK L s).2.1,Zd s) else ([],Zb4 L 11 s)
def Zdt (l:Txt):Int:=l.foldl (fun n c=>IntKind.i64.wrap (IntKind.i64.wrap (10*n)+((c.toNat:Int)-48) % 256)) 0
def Zao (least:Int) (s:PS):Int×PS:=if (ZaK L s).1=1/\¬ Zdt (ZaK L s).2.1<least/\s.err=0 then (Zdt (ZaK L s).2.1,Zd s) else (0,Zb4 L 11 s)
def Ze (s:PS):Int:=(ZaK L s).2.2
def inM (s:PS):PS:=if 200<s.deep+1 then Zb4 L 12 { s with deep:=s.deep+1 } else { s with deep:=s.deep+1 }
def ZdW (s:PS):PS:={ s with deep:=s.deep-1 }
def ZD:List (Int×Txt)->PS->Int×PS
 | [],s=>(0,Zb4 L 11 s)
 | (i,w)::r,s=>if isM L w s then (i,Zd s) else ZD r s
def Zr (least:Nat):List (Int×Txt):=([(0,Zax 0),(1,Zax 1),(2,Zax 2),(3,Zax 3),(4,Zax 4)]:List (Int×Txt)).drop least
def Zdg:Nat->List Txt->PS->List Txt×PS
 | 0,l,s=>(l,s)
 | f+1,l,s=>if isM L [124] s then (let r:=Zb L (Zd s);Zdg f (l++[r.1]) r.2) else (l,s)
def ZB (w:Txt) (which:Int) (s:PS):List Tr×PS:=
 if isM L w s then (let r:=Zb L (Zd s);let q:=Zdg L L.length [r.1] r.2;([.mk 6 q.1 [which] (Ze L s) []],q.2)) else ([],s)
def Za0 (op:Int) (a b:Tr):Tr:=.mk 22 [] [op] (match a with | .mk _ _ _ at_ _=>at_) [a,b]
def ZaA (pc:PS->Tr×PS) (x y:Txt) (i j:Int):Nat->Tr->PS->Tr×PS
 | 0,a,s=>(a,s)
 | f+1,a,s=>
  if s.err=0 then
   (if isM L x s then (let r:=pc (Zd s);ZaA pc x y i j f (Za0 i a r.1) r.2)
    else if isM L y s then (let r:=pc (Zd s);ZaA pc x y i j f (Za0 j a r.1) r.2)
    else (a,s))
  else (a,s)
def Zaj (pc:PS->Tr×PS) (s:PS):Tr×PS:=let r:=pc s;ZaA L pc [42] [47] 4 5 (L.length+1) r.1 r.2
def ZK (pc:PS->Tr×PS) (s:PS):Tr×PS:=let r:=Zaj L pc s;ZaA L (Zaj L pc) [43] [45] 2 3 (L.length+1) r.1 r.2
def ZaO (pc:PS->Tr×PS) (s:PS):Tr×PS:=
 let a:=ZK L pc s
 if isM L [60] a.2 then (let b:=ZK L pc (Zd a.2);(Za0 0 a.1 b.1,b.2))
 else if isM L [61,61] a.2 then (let b:=ZK L pc (Zd a.2);(Za0 1 a.1 b.1,b.2))
 else a
def ZE:Nat->PS->Tr×PS
 | 0,s=>(.mk 20 [] [] (Ze L s) [],s)
 | f+1,s=>
  if s.err≠0 then (.mk 20 [] [] (Ze L s) [],s)
  else if (ZaK L s).1=1 then (let r:=Zao L 0 s;(.mk 20 [] [r.1] (Ze L s) [],r.2))
  else if ZaZ L s then (let r:=Zb L s;(.mk 21 [r.1] [] (Ze L s) [],r.2))
  else if isM L [45] s then (let r:=ZE f (inM L (Zd s));(.mk 23 [] [] (Ze L s) [r.1],ZdW r.2))
  else (let r:=ZaO L (ZE f) (inM L (Zf L [40] s));(r.1,Zf L [41] (ZdW r.2)))
def ZaP (each:PS->Tr×PS) (x:Txt):Nat->List Tr->PS->List Tr×PS
 | 0,l,s=>(l,s)
 | f+1,l,s=>
  if s.err=0 then (if isM L x s then (l,Zd s) else (let r:=each s;ZaP each x f (l++[r.1]) r.2))
  else (l,s)
def ZT (each:PS->Tr×PS):Nat->Bool->List Tr->PS->List Tr×PS
 | 0,_,l,s=>(l,s)
 | f+1,first,l,s=>
  if s.err=0 then (if isM L [41] s then (l,Zd s) else (let r:=each (if first then s else Zf L [44] s);ZT each f false (l++[r.1]) r.2))
  else (l,s)
def Zag (st:PS->Tr×PS) (s:PS):Tr×PS:=
 let r:=ZaP L st [125] (L.length+1) [] (inM L (Zf L [123] s))
 (.mk 7 [] [] (Ze L s) r.1,ZdW r.2)
def ZaS (ex:PS->Tr×PS) (s:PS):Tr×PS:=
 if isM L [38] s then (let r:=Zb L (Zd s);(.mk 15 [r.1] [] (Ze L s) [],r.2)) else ex s
def ZcR (st:PS->Tr×PS) (s:PS):Tr×PS:=
 let a:=Zb L s;let b:=Zag L st a.2
 (.mk 12 [a.1] [] (Ze L s) [b.1],b.2)
def ZcC (ex:PS->Tr×PS) (p:Int) (s:PS):Tr×PS:=
 let a:=Zb L s
 let h:List Txt×PS:=if isM L [61] a.2 then (let b:=Zb L (Zd a.2);([b.1,a.1],b.2)) else ([a.1],a.2)
 let r:=ZT L (ZaS L ex) (L.length+1) true [] (Zf L [40] h.2)
 (.mk 14 h.1 [] p r.1,Zf L [59] r.2)
def doM (st:PS->Tr×PS) (p:Int) (s:PS):Tr×PS:=
 let a:=Zb L s;let b:=Zb L (Zf L [46] a.2)
 if isM L [59] b.2 then (.mk 11 [a.1,b.1] [] p [],Zd b.2)
 else (let r:=ZaP L (ZcR L st) [125] (L.length+1) [] (Zf L [123] b.2);(.mk 11 [a.1,b.1] [] p r.1,r.2))
def Zbb (ex st:PS->Tr×PS) (p:Int) (s:PS):Tr×PS:=
 if isM L [105,102] s then
  (let a:=ex (Zd s);let b:=Zag L st a.2
   if isM L [101,108,115,101] b.2 then (let c:=Zag L st (Zd b.2);(.mk 16 [] [] p [a.1,b.1,c.1],c.2)) else (.mk 16 [] [] p [a.1,b.1],b.2))
 else if isM L [119,104,105,108,101] s then (let a:=ex (Zd s);let b:=Zag L st a.2;(.mk 17 [] [] p [a.1,b.1],b.2))
 else if isM L [114,101,116,117,114,110] s then (let a:=ex (Zd s);(.mk 18 [] [] p [a.1],Zf L [59] a.2))
 else (.mk 19 [] [] p [],Zf L [59] (Zf L [101,120,105,116] s))
def ZdS (st:PS->Tr×PS) (p:Int) (s:PS):Tr×PS:=
 let a:=Zb L s;let b:=Zb L (Zf L [61] a.2);let k:=ZD L (Zr 1) b.2
 let n:=Zao L 1 k.2;let d:=Zao L 1 (Zf L [47] n.2);let m:=ZB L [105,110] 2 d.2;let c:=Zag L st m.2
 (.mk 13 [a.1,b.1] [k.1,n.1,d.1] p (m.1++[c.1]),c.2)
def Zv (ex:PS->Tr×PS):Nat->PS->Tr×PS
 | 0,s=>(.mk 8 [] [] (Ze L s) [],s)
 | f+1,s=>
  let p:=Ze L s
  if isM L [108,101,116] s then (let a:=Zb L (Zd s);let e:=ex (Zf L [61] a.2);(.mk 8 [a.1] [] p [e.1],Zf L [59] e.2))
  else if ZaZ L s then (let a:=Zb L s;let e:=ex (Zf L [61] a.2);(.mk 9 [a.1] [] p [e.1],Zf L [59] e.2))
  else if isM L [111,112,101,110] s then
   (let a:=Zb L (Zd s);let b:=Zb L a.2;let c:=Zag L (Zv ex f) b.2;let d:=Zag L (Zv ex f) (Zf L [101,108,115,101] c.2)
    (.mk 10 [a.1,b.1] [] p [c.1,d.1],d.2))
  else if isM L [100,111] s then doM L (Zv ex f) p (Zd s)
  else if isM L [115,112,108,105,116] s then ZdS L (Zv ex f) p (Zd s)
  else if isM L [99,97,108,108] s then ZcC L ex p (Zd s)
  else Zbb L ex (Zv ex f) p s
def Zcy:Nat->List Txt->PS->List Txt×PS
 | 0,l,s=>(l,s)
 | f+1,l,s=>
  if s.err=0 then
   (let a:=Zb L s;let b:=Zb L a.2
    if isM L [44] b.2 then Zcy f (l++[a.1,b.1]) (Zd b.2) else (l++[a.1,b.1],b.2))
  else (l,s)
def Zbo (s:PS):Tr×PS:=
 let p:=Ze L s
 if isM L [115,116,97,116,101] s then (let a:=Zb L (Zd s);(.mk 2 [a.1] [0] p [],Zf L [59] a.2))
 else if isM L [102,105,110,97,108] s then (let a:=Zb L (Zd s);(.mk 2 [a.1] [1] p [],Zf L [59] a.2))
 else (let a:=Zb L (Zf L [111,112] s);let b:=Zb L a.2;let r:=Zcy L (L.length+1) [a.1,b.1] (Zf L [45,62] b.2);(.mk 3 r.1 [] p [],Zf L [59] r.2))
def ZbL (s:PS):Tr×PS:=
 let a:=Zb L (Zf L [112,114,111,116,111] s)
 let r:=ZaP L (Zbo L) [125] (L.length+1) [] (Zf L [123] a.2)
 (.mk 1 [a.1] [] (Ze L s) r.1,r.2)
def ZaC (s:PS):Tr×PS:=
 let p:=Ze L s;let a:=Zb L s
 if isM L [58] a.2 then
  (let b:=Zb L (Zd a.2);let k:=ZD L (Zr 0) b.2
   let q:List Int×PS:=if isM L [108,101,97,115,116] k.2 then (let n:=Zao L 1 (Zd k.2);let d:=Zao L 1 (Zf L [47] n.2);([n.1,d.1],d.2)) else ([0,0],k.2)
   let x:=ZB L [97,116] 0 q.2;let y:=ZB L [116,111] 1 x.2;let z:=ZB L [105,110] 2 y.2
   (.mk 5 [a.1,b.1] (k.1::q.1) p (x.1++y.1++z.1),z.2))
 else (.mk 5 [a.1] [] p [],a.2)
def fnM (ex st:PS->Tr×PS) (s:PS):Tr×PS:=
 let a:=Zb L (Zf L [102,110] s)
 let r:=ZT L (ZaC L) (L.length+1) true [] (Zf L [40] a.2)
 let b:=Zag L st r.2
 let _:=ex
 (.mk 4 [a.1] [] (Ze L s) (r.1++[b.1]),b.2)
def Zaz (ex st:PS->Tr×PS):Nat->List Tr->PS->List Tr×PS
 | 0,l,s=>(l,s)
 | f+1,l,s=>
  if s.err=0/\(ZaK L s).1≠3 then
   (if isM L [112,114,111,116,111] s then (let r:=ZbL L s;Zaz ex st f (l++[r.1]) r.2)
    else if isM L [102,110] s then (let r:=fnM L ex st s;Zaz ex st f (l++[r.1]) r.2)
    else Zaz ex st f l (Zb4 L 11 s))
  else (l,s)
end
end
section
section
variable {L:List Tok}
def ZW (L:List Tok):Prop:=0<L.length/\(Zi L (L.length-1)).1=3
structure Adv (L:List Tok) (s s2:PS):Prop where
 le:s.at_<=s2.at_
 lt:s.at_<L.length->s2.at_<L.length
 deep:s2.deep=s.deep
 bad:s.err≠0->s2.err≠0
structure Gon (L:List Tok) (s s2:PS):Prop extends Adv L s s2 where
 on:s2.err=0->s.at_<s2.at_
theorem Adv.refl (s:PS):Adv L s s:=⟨Nat.le_refl _,id,rfl,id⟩
theorem Adv.trans {a b c:PS} (h:Adv L a b) (k:Adv L b c):Adv L a c:=⟨Nat.le_trans h.le k.le,fun q=>k.lt (h.lt q),k.deep.trans h.deep,fun q=>k.bad (h.bad q)⟩
theorem Gon.then_ {a b c:PS} (h:Gon L a b) (k:Adv L b c):Gon L a c:=⟨h.toAdv.trans k,fun q=>Nat.lt_of_lt_of_le (h.on (by
 by_cases e:b.err=0
 ·exact e
 ·exact absurd q (k.bad e))) k.le⟩
theorem Adv.then_ {a b c:PS} (h:Adv L a b) (k:Gon L b c):Gon L a c:=⟨h.trans k.toAdv,fun q=>Nat.lt_of_le_of_lt h.le (k.on q)⟩
theorem Adv.err {a b:PS} (h:Adv L a b) (e:b.err=0):a.err=0:=by
 by_cases q:a.err=0
 ·exact q
 ·exact absurd e (h.bad q)
theorem ZeG {e:Int} (he:e≠0) (s:PS):Gon L s (Zb4 L e s):=by
 unfold Zb4
 by_cases h:s.err=0
 ·rw [if_pos h];exact ⟨⟨Nat.le_refl _,id,rfl,fun q=>absurd h q⟩,fun q=>absurd q he⟩
 ·rw [if_neg h];exact ⟨Adv.refl s,fun q=>absurd q h⟩
theorem Zla (hE:ZW L) {s:PS} (hs:s.at_<L.length) (he:s.err=0) (hn:(ZaK L s).1≠3):s.at_+1<L.length:=by
 rcases Nat.lt_or_ge (s.at_+1) L.length with h | h
 ·exact h
 ·exact absurd (by unfold ZaK;rw [if_neg (by simp [he]),show s.at_=L.length-1 by omega];exact hE.2) hn
theorem ZjH (hE:ZW L) {s:PS} (hs:s.at_<L.length) (he:s.err=0) (hn:(ZaK L s).1≠3):Gon L s (Zd s):=
 ⟨⟨Nat.le_succ _,fun _=>Zla hE hs he hn,rfl,id⟩,fun _=>Nat.lt_succ_self _⟩
theorem ZmB {x:Txt} {s:PS} (h:isM L x s=true):s.err=0/\(ZaK L s).1≠3:=by
 unfold isM at h
 simp only [Bool.and_eq_true,Bool.or_eq_true,decide_eq_true_eq] at h
 exact ⟨h.2,by rcases h.1.2 with h | h<;>omega⟩
theorem ZC (hE:ZW L) {x:Txt} {s:PS} (hs:s.at_<L.length) (h:isM L x s=true):Gon L s (Zd s):=ZjH hE hs (ZmB h).1 (ZmB h).2
theorem Zq (hE:ZW L) (x:Txt) {s:PS} (hs:s.at_<L.length):Gon L s (Zf L x s):=by
 unfold Zf
 by_cases h:isM L x s=true
 ·rw [if_pos h];exact ZC hE hs h
 ·rw [if_neg h];exact ZeG (by decide) s
theorem ZeY {s:PS} (h:ZaZ L s=true):s.err=0/\(ZaK L s).1≠3:=by
 unfold ZaZ at h
 simp only [Bool.and_eq_true,decide_eq_true_eq] at h
 exact ⟨h.2,by omega⟩
theorem Zo (hE:ZW L) {s:PS} (hs:s.at_<L.length):Gon L s (Zb L s).2:=by
 unfold Zb
 by_cases h:ZaZ L s=true
 ·rw [if_pos h];exact ZjH hE hs (ZeY h).1 (ZeY h).2
 ·rw [if_neg h];exact ZeG (by decide) s
theorem Zc4 (hE:ZW L) (least:Int) {s:PS} (hs:s.at_<L.length):Gon L s (Zao L least s).2:=by
 unfold Zao
 by_cases h:(ZaK L s).1=1/\¬ Zdt (ZaK L s).2.1<least/\s.err=0
 ·rw [if_pos h];exact ZjH hE hs h.2.2 (by omega)
 ·rw [if_neg h];exact ZeG (by decide) s
theorem ZeI (hE:ZW L):∀ (l:List (Int×Txt)) {s:PS},s.at_<L.length->Gon L s (ZD L l s).2
 | [],s,_=>ZeG (by decide) s
 | (i,w)::r,s,hs=>by
  unfold ZD
  by_cases h:isM L w s=true
  ·rw [if_pos h];exact ZC hE hs h
  ·rw [if_neg h];exact ZeI hE r hs
theorem Zf1 (hE:ZW L):∀ (f:Nat) (l:List Txt) {s:PS},s.at_<L.length->Adv L s (Zdg L f l s).2
 | 0,_,s,_=>Adv.refl s
 | f+1,l,s,hs=>by
  unfold Zdg
  by_cases h:isM L [124] s=true
  ·rw [if_pos h]
   have g:=ZC hE hs h
   have n:=Zo hE (g.lt hs)
   exact (g.toAdv.trans n.toAdv).trans (Zf1 hE f _ (n.lt (g.lt hs)))
  ·rw [if_neg h];exact Adv.refl s
theorem Zcu (hE:ZW L) (x:Txt) (i:Int) {s:PS} (hs:s.at_<L.length):Adv L s (ZB L x i s).2:=by
 unfold ZB
 by_cases h:isM L x s=true
 ·rw [if_pos h]
  have g:=ZC hE hs h
  have n:=Zo hE (g.lt hs)
  exact (g.toAdv.trans n.toAdv).trans (Zf1 hE _ _ (n.lt (g.lt hs)))
 ·rw [if_neg h];exact Adv.refl s
structure Dom (L:List Tok) (D:PS->Prop):Prop where
 next:∀ a b,D a->Adv L a b->D b
 lt:∀ a,D a->a.at_<L.length
abbrev Onw (L:List Tok) (D:PS->Prop) (M:PS->Tr×PS):Prop:=∀ s,D s->Gon L s (M s).2
theorem ZcJ (hE:ZW L) {D:PS->Prop} (hD:Dom L D) {pc:PS->Tr×PS} (hp:Onw L D pc) (x y:Txt) (i j:Int):∀ (f:Nat) (a:Tr) (s:PS),D s->Adv L s (ZaA L pc x y i j f a s).2
 | 0,_,s,_=>Adv.refl s
 | f+1,a,s,hs=>by
  unfold ZaA
  by_cases he:s.err=0
  ·rw [if_pos he]
   by_cases h:isM L x s=true
   ·rw [if_pos h]
    have g:=ZC hE (hD.lt _ hs) h
    have hd:=hD.next _ _ hs g.toAdv
    have n:=hp _ hd
    exact (g.toAdv.trans n.toAdv).trans (ZcJ hE hD hp x y i j f _ _ (hD.next _ _ hd n.toAdv))
   ·rw [if_neg h]
    by_cases h2:isM L y s=true
    ·rw [if_pos h2]
     have g:=ZC hE (hD.lt _ hs) h2
     have hd:=hD.next _ _ hs g.toAdv
     have n:=hp _ hd
     exact (g.toAdv.trans n.toAdv).trans (ZcJ hE hD hp x y i j f _ _ (hD.next _ _ hd n.toAdv))
    ·rw [if_neg h2];exact Adv.refl s
  ·rw [if_neg he];exact Adv.refl s
theorem Zeb (hE:ZW L) {D:PS->Prop} (hD:Dom L D) {pc:PS->Tr×PS} (hp:Onw L D pc):Onw L D (Zaj L pc):=fun s hs=>
 (hp s hs).then_ (ZcJ hE hD hp _ _ _ _ _ _ _ (hD.next _ _ hs (hp s hs).toAdv))
theorem ZgJ (hE:ZW L) {D:PS->Prop} (hD:Dom L D) {pc:PS->Tr×PS} (hp:Onw L D pc):Onw L D (ZK L pc):=fun s hs=>
 (Zeb hE hD hp s hs).then_ (ZcJ hE hD (Zeb hE hD hp) _ _ _ _ _ _ _ (hD.next _ _ hs (Zeb hE hD hp s hs).toAdv))
theorem ZgC (hE:ZW L) {D:PS->Prop} (hD:Dom L D) {pc:PS->Tr×PS} (hp:Onw L D pc):Onw L D (ZaO L pc):=fun s hs=>by
 have a:=ZgJ hE hD hp s hs
 have ha:=hD.next _ _ hs a.toAdv
 unfold ZaO
 dsimp only
 by_cases h:isM L [60] (ZK L pc s).2=true
 ·rw [if_pos h]
  have g:=ZC hE (hD.lt _ ha) h
  exact a.then_ (g.toAdv.trans (ZgJ hE hD hp _ (hD.next _ _ ha g.toAdv)).toAdv)
 ·rw [if_neg h]
  by_cases h2:isM L [61,61] (ZK L pc s).2=true
  ·rw [if_pos h2]
   have g:=ZC hE (hD.lt _ ha) h2
   exact a.then_ (g.toAdv.trans (ZgJ hE hD hp _ (hD.next _ _ ha g.toAdv)).toAdv)
  ·rw [if_neg h2];exact a
structure Dp (L:List Tok) (f:Nat) (s:PS):Prop where
 lt:s.at_<L.length
 fuel:s.err=0->s.deep<=200/\200<s.deep+f
 lo:0<=s.deep
 hi:s.deep<=201
theorem ZX (f:Nat):Dom L (Dp L f):=⟨fun a b h k=>⟨k.lt h.lt,fun e=>by rw [k.deep];exact h.fuel (k.err e),by rw [k.deep];exact h.lo,by rw [k.deep];exact h.hi⟩,fun a h=>h.lt⟩
theorem Zep {f:Nat} {s:PS} (h:Dp L (f+1) s) (hd:s.err=0\/s.deep<=200):Dp L f (inM L s):=by
 have h200:s.deep<=200:=hd.elim (fun e=>(h.fuel e).1) id
 have fu:=h.fuel
 have lo:=h.lo
 have lt:=h.lt
 unfold inM
 by_cases q:200<s.deep+1
 ·rw [if_pos q]
  unfold Zb4
  by_cases e:s.err=0
  ·rw [if_pos (show (({ s with deep:=s.deep+1 }:PS).err=0) from e)]
   exact ⟨lt,fun e=>(by cases e),by show 0<=s.deep+1;omega,by show s.deep+1<=201;omega⟩
  ·rw [if_neg (show ¬ (({ s with deep:=s.deep+1 }:PS).err=0) from e)]
   exact ⟨lt,fun k=>absurd k e,by show 0<=s.deep+1;omega,by show s.deep+1<=201;omega⟩
 ·rw [if_neg q]
  exact ⟨lt,fun e=>by have:=fu e;show s.deep+1<=200/\200<s.deep+1+f;push_cast at this;omega,by show 0<=s.deep+1;omega,by show s.deep+1<=201;omega⟩
theorem Zim (s:PS):(inM L s).at_=s.at_/\(inM L s).deep=s.deep+1/\(s.err≠0->(inM L s).err≠0):=by
 unfold inM Zb4
 by_cases q:200<s.deep+1
 ·rw [if_pos q]
  by_cases e:s.err=0
  ·rw [if_pos (show (({ s with deep:=s.deep+1 }:PS).err=0) from e)];exact ⟨rfl,rfl,fun k=>absurd e k⟩
  ·rw [if_neg (show ¬ (({ s with deep:=s.deep+1 }:PS).err=0) from e)];exact ⟨rfl,rfl,fun k=>k⟩
 ·rw [if_neg q];exact ⟨rfl,rfl,fun k=>k⟩
theorem Zhx {s s2:PS} (h:Adv L (inM L s) s2):Adv L s (ZdW s2):=by
 obtain ⟨p1,p2,p3⟩:=Zim (L:=L) s
 exact ⟨by have:=h.le;rw [p1] at this;exact this,fun q=>h.lt (by rw [p1];exact q),by show s2.deep-1=s.deep;rw [h.deep,p2];omega,fun q=>h.bad (p3 q)⟩
theorem Zb9 (hE:ZW L):∀ (f:Nat),Onw L (Dp L f) (ZE L f)
 | 0,s,hs=>⟨Adv.refl s,fun e=>by have:=hs.fuel e;omega⟩
 | f+1,s,hs=>by
  unfold ZE
  by_cases e:s.err≠0
  ·rw [if_pos e];exact ⟨Adv.refl s,fun q=>absurd q e⟩
  rw [if_neg e]
  have e0:s.err=0:=Classical.not_not.1 e
  by_cases h1:(ZaK L s).1=1
  ·rw [if_pos h1];exact Zc4 hE 0 hs.lt
  rw [if_neg h1]
  by_cases h2:ZaZ L s=true
  ·rw [if_pos h2];exact Zo hE hs.lt
  rw [if_neg h2]
  by_cases h3:isM L [45] s=true
  ·rw [if_pos h3]
   have g:=ZC hE hs.lt h3
   have d:=(ZX (f+1)).next _ _ hs g.toAdv
   exact g.then_ (Zhx (Zb9 hE f _ (Zep d (.inl e0))).toAdv)
  rw [if_neg h3]
  have g:=Zq hE [40] hs.lt
  have d:=(ZX (f+1)).next _ _ hs g.toAdv
  have i:=Zep d (.inr (by rw [g.deep];exact (hs.fuel e0).1))
  have x:=Zhx (ZgC hE (ZX f) (Zb9 hE f) _ i).toAdv
  exact (g.then_ x).then_ (Zq hE [41] (x.lt (g.lt hs.lt))).toAdv
theorem ZcX (hE:ZW L) {D:PS->Prop} (hD:Dom L D) {ea:PS->Tr×PS} (hp:∀ s,D s->s.err=0->Adv L s (ea s).2) (x:Txt):∀ (f:Nat) (l:List Tr) (s:PS),D s->Adv L s (ZaP L ea x f l s).2
 | 0,_,s,_=>Adv.refl s
 | f+1,l,s,hs=>by
  unfold ZaP
  by_cases he:s.err=0
  ·rw [if_pos he]
   by_cases h:isM L x s=true
   ·rw [if_pos h];exact (ZC hE (hD.lt _ hs) h).toAdv
   ·rw [if_neg h]
    have n:=hp s hs he
    exact n.trans (ZcX hE hD hp x f _ _ (hD.next _ _ hs n))
  ·rw [if_neg he];exact Adv.refl s
theorem Zc6 (hE:ZW L) {D:PS->Prop} (hD:Dom L D) {ea:PS->Tr×PS} (hp:∀ s,D s->Adv L s (ea s).2):∀ (f:Nat) (first:Bool) (l:List Tr) (s:PS),D s->Adv L s (ZT L ea f first l s).2
 | 0,_,_,s,_=>Adv.refl s
 | f+1,first,l,s,hs=>by
  unfold ZT
  by_cases he:s.err=0
  ·rw [if_pos he]
   by_cases h:isM L [41] s=true
   ·rw [if_pos h];exact (ZC hE (hD.lt _ hs) h).toAdv
   ·rw [if_neg h]
    have w:Adv L s (if first then s else Zf L [44] s):=by
     cases first
     ·exact (Zq hE [44] (hD.lt _ hs)).toAdv
     ·exact Adv.refl s
    have dw:=hD.next _ _ hs w
    have n:=hp _ dw
    exact (w.trans n).trans (Zc6 hE hD hp f _ _ _ (hD.next _ _ dw n))
  ·rw [if_neg he];exact Adv.refl s
theorem Zbz (hE:ZW L) {f:Nat} {st:PS->Tr×PS} (hp:∀ s,Dp L f s->s.err=0->Adv L s (st s).2) {s:PS} (hs:Dp L (f+1) s) (h200:s.deep<=200):Gon L s (Zag L st s).2:=by
 have g:=Zq hE [123] hs.lt
 have d:=(ZX (f+1)).next _ _ hs g.toAdv
 exact g.then_ (Zhx (ZcX hE (ZX f) hp [125] _ _ _ (Zep d (.inr (by rw [g.deep];exact h200)))))
end
end
end Go.Proofs.YtkongcicmajolaaGreatDoor
