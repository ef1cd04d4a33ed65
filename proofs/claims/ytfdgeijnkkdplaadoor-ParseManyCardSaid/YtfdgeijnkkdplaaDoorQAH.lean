import Derived.Lib.ItoaNum
import Derived.Test.YtfdgeijnkkdplaaDoorQAG
set_option maxRecDepth 100000
set_option maxHeartbeats 8000000
namespace Go.Proofs.YtfdgeijnkkdplaaDoor
section
abbrev Txt:=List UInt8
def word (n:Nd) (k:Nat):Txt:=(n.words[k]?).getD []
def ZaX (k:Int):Txt:=if k=0 then [117,110,105,113,117,101] else if k=1 then [102,117,108,108] else if k=2 then [115,104,97,114,101] else if k=3 then [105,109,109] else [112,117,114,101]
end
section
inductive Tr where
 | mk (kind:Int) (words:List Txt) (nums:List Int) (at_:Int) (kids:List Tr)
structure PS where
 at_:Nat
 deep:Int
 err:Int
 fat:Int
section
variable (L:List Tok)
def Zx (k:Nat):Tok:=(L[k]?).getD (3,[],0)
def Zak (s:PS):Tok:=if s.err≠0 then Zx L (L.length-1) else Zx L s.at_
def ZL (e:Int) (s:PS):PS:=if s.err=0 then { s with err:=e,fat:=(Zx L s.at_).2.2 } else s
def isM (x:Txt) (s:PS):Bool:=decide ((Zak L s).2.1=x)&&(decide ((Zak L s).1=2)||decide ((Zak L s).1=0)&&isKey x)&&decide (s.err=0)
def Zb (s:PS):PS:={ s with at_:=s.at_+1 }
def Zad (x:Txt) (s:PS):Bool×PS:=if isM L x s then (true,Zb s) else (false,s)
def Zd (x:Txt) (s:PS):PS:=if isM L x s then Zb s else ZL L 11 s
def ZaO (s:PS):Bool:=decide ((Zak L s).1=0)&&Zbn (Zak L s).2.1&&decide (s.err=0)
def Za (s:PS):Txt×PS:=if ZaO L s then ((Zak L s).2.1,Zb s) else ([],ZL L 11 s)
def Zdk (l:Txt):Int:=l.foldl (fun n c=>IntKind.i64.wrap (IntKind.i64.wrap (10*n)+((c.toNat:Int)-48) % 256)) 0
def ZaH (least:Int) (s:PS):Int×PS:=if (Zak L s).1=1/\¬ Zdk (Zak L s).2.1<least/\s.err=0 then (Zdk (Zak L s).2.1,Zb s) else (0,ZL L 11 s)
def Zj (s:PS):Int:=(Zak L s).2.2
def inM (s:PS):PS:=if 200<s.deep+1 then ZL L 12 { s with deep:=s.deep+1 } else { s with deep:=s.deep+1 }
def Zaq (s:PS):PS:={ s with deep:=s.deep-1 }
def Zz:List (Int×Txt)->PS->Int×PS
 | [],s=>(0,ZL L 11 s)
 | (i,w)::r,s=>if isM L w s then (i,Zb s) else Zz r s
def Zo (least:Nat):List (Int×Txt):=([(0,ZaX 0),(1,ZaX 1),(2,ZaX 2),(3,ZaX 3),(4,ZaX 4)]:List (Int×Txt)).drop least
def Zbm:Nat->List Txt->PS->List Txt×PS
 | 0,l,s=>(l,s)
 | f+1,l,s=>if isM L [124] s then (let r:=Za L (Zb s);Zbm f (l++[r.1]) r.2) else (l,s)
def Zn (w:Txt) (which:Int) (s:PS):List Tr×PS:=
 if isM L w s then (let r:=Za L (Zb s);let q:=Zbm L L.length [r.1] r.2;([.mk 6 q.1 [which] (Zj L s) []],q.2)) else ([],s)
def ZbX (op:Int) (a b:Tr):Tr:=.mk 22 [] [op] (match a with | .mk _ _ _ at_ _=>at_) [a,b]
def Zar (pc:PS->Tr×PS) (x y:Txt) (i j:Int):Nat->Tr->PS->Tr×PS
 | 0,a,s=>(a,s)
 | f+1,a,s=>
  if s.err=0 then
   (if isM L x s then (let r:=pc (Zb s);Zar pc x y i j f (ZbX i a r.1) r.2)
    else if isM L y s then (let r:=pc (Zb s);Zar pc x y i j f (ZbX j a r.1) r.2)
    else (a,s))
  else (a,s)
def ZaE (pc:PS->Tr×PS) (s:PS):Tr×PS:=let r:=pc s;Zar L pc [42] [47] 4 5 (L.length+1) r.1 r.2
def Zay (pc:PS->Tr×PS) (s:PS):Tr×PS:=let r:=ZaE L pc s;Zar L (ZaE L pc) [43] [45] 2 3 (L.length+1) r.1 r.2
def Zbb (pc:PS->Tr×PS) (s:PS):Tr×PS:=
 let a:=Zay L pc s
 if isM L [60] a.2 then (let b:=Zay L pc (Zb a.2);(ZbX 0 a.1 b.1,b.2))
 else if isM L [61,61] a.2 then (let b:=Zay L pc (Zb a.2);(ZbX 1 a.1 b.1,b.2))
 else a
def ZG:Nat->PS->Tr×PS
 | 0,s=>(.mk 20 [] [] (Zj L s) [],s)
 | f+1,s=>
  if s.err≠0 then (.mk 20 [] [] (Zj L s) [],s)
  else if (Zak L s).1=1 then (let r:=ZaH L 0 s;(.mk 20 [] [r.1] (Zj L s) [],r.2))
  else if ZaO L s then (let r:=Za L s;(.mk 21 [r.1] [] (Zj L s) [],r.2))
  else if isM L [45] s then (let r:=ZG f (inM L (Zb s));(.mk 23 [] [] (Zj L s) [r.1],Zaq r.2))
  else (let r:=Zbb L (ZG f) (inM L (Zd L [40] s));(r.1,Zd L [41] (Zaq r.2)))
def ZC (each:PS->Tr×PS) (x:Txt):Nat->List Tr->PS->List Tr×PS
 | 0,l,s=>(l,s)
 | f+1,l,s=>
  if s.err=0 then (if isM L x s then (l,Zb s) else (let r:=each s;ZC each x f (l++[r.1]) r.2))
  else (l,s)
def Zr (each:PS->Tr×PS):Nat->Bool->List Tr->PS->List Tr×PS
 | 0,_,l,s=>(l,s)
 | f+1,first,l,s=>
  if s.err=0 then (if isM L [41] s then (l,Zb s) else (let r:=each (if first then s else Zd L [44] s);Zr each f false (l++[r.1]) r.2))
  else (l,s)
def Zm (st:PS->Tr×PS) (s:PS):Tr×PS:=
 let r:=ZC L st [125] (L.length+1) [] (inM L (Zd L [123] s))
 (.mk 7 [] [] (Zj L s) r.1,Zaq r.2)
def ZV (ex:PS->Tr×PS) (s:PS):Tr×PS:=
 if isM L [38] s then (let r:=Za L (Zb s);(.mk 15 [r.1] [] (Zj L s) [],r.2)) else ex s
def Zax (st:PS->Tr×PS) (s:PS):Tr×PS:=
 let a:=Za L s;let b:=Zm L st a.2
 (.mk 12 [a.1] [] (Zj L s) [b.1],b.2)
def Za4 (ex:PS->Tr×PS) (p:Int) (s:PS):Tr×PS:=
 let a:=Za L s
 let h:List Txt×PS:=if isM L [61] a.2 then (let b:=Za L (Zb a.2);([b.1,a.1],b.2)) else ([a.1],a.2)
 let r:=Zr L (ZV L ex) (L.length+1) true [] (Zd L [40] h.2)
 (.mk 14 h.1 [] p r.1,Zd L [59] r.2)
def doM (st:PS->Tr×PS) (p:Int) (s:PS):Tr×PS:=
 let a:=Za L s;let b:=Za L (Zd L [46] a.2)
 if isM L [59] b.2 then (.mk 11 [a.1,b.1] [] p [],Zb b.2)
 else (let r:=ZC L (Zax L st) [125] (L.length+1) [] (Zd L [123] b.2);(.mk 11 [a.1,b.1] [] p r.1,r.2))
def ZbM (ex st:PS->Tr×PS) (p:Int) (s:PS):Tr×PS:=
 if isM L [105,102] s then
  (let a:=ex (Zb s);let b:=Zm L st a.2
   if isM L [101,108,115,101] b.2 then (let c:=Zm L st (Zb b.2);(.mk 16 [] [] p [a.1,b.1,c.1],c.2)) else (.mk 16 [] [] p [a.1,b.1],b.2))
 else if isM L [119,104,105,108,101] s then (let a:=ex (Zb s);let b:=Zm L st a.2;(.mk 17 [] [] p [a.1,b.1],b.2))
 else if isM L [114,101,116,117,114,110] s then (let a:=ex (Zb s);(.mk 18 [] [] p [a.1],Zd L [59] a.2))
 else (.mk 19 [] [] p [],Zd L [59] (Zd L [101,120,105,116] s))
def Za8 (st:PS->Tr×PS) (p:Int) (s:PS):Tr×PS:=
 let a:=Za L s;let b:=Za L (Zd L [61] a.2);let k:=Zz L (Zo 1) b.2
 let n:=ZaH L 1 k.2;let d:=ZaH L 1 (Zd L [47] n.2);let m:=Zn L [105,110] 2 d.2;let c:=Zm L st m.2
 (.mk 13 [a.1,b.1] [k.1,n.1,d.1] p (m.1++[c.1]),c.2)
def Zh (ex:PS->Tr×PS):Nat->PS->Tr×PS
 | 0,s=>(.mk 8 [] [] (Zj L s) [],s)
 | f+1,s=>
  let p:=Zj L s
  if isM L [108,101,116] s then (let a:=Za L (Zb s);let e:=ex (Zd L [61] a.2);(.mk 8 [a.1] [] p [e.1],Zd L [59] e.2))
  else if ZaO L s then (let a:=Za L s;let e:=ex (Zd L [61] a.2);(.mk 9 [a.1] [] p [e.1],Zd L [59] e.2))
  else if isM L [111,112,101,110] s then
   (let a:=Za L (Zb s);let b:=Za L a.2;let c:=Zm L (Zh ex f) b.2;let d:=Zm L (Zh ex f) (Zd L [101,108,115,101] c.2)
    (.mk 10 [a.1,b.1] [] p [c.1,d.1],d.2))
  else if isM L [100,111] s then doM L (Zh ex f) p (Zb s)
  else if isM L [115,112,108,105,116] s then Za8 L (Zh ex f) p (Zb s)
  else if isM L [99,97,108,108] s then Za4 L ex p (Zb s)
  else ZbM L ex (Zh ex f) p s
def Zb9:Nat->List Txt->PS->List Txt×PS
 | 0,l,s=>(l,s)
 | f+1,l,s=>
  if s.err=0 then
   (let a:=Za L s;let b:=Za L a.2
    if isM L [44] b.2 then Zb9 f (l++[a.1,b.1]) (Zb b.2) else (l++[a.1,b.1],b.2))
  else (l,s)
def Zan (s:PS):Tr×PS:=
 let p:=Zj L s
 if isM L [115,116,97,116,101] s then (let a:=Za L (Zb s);(.mk 2 [a.1] [0] p [],Zd L [59] a.2))
 else if isM L [102,105,110,97,108] s then (let a:=Za L (Zb s);(.mk 2 [a.1] [1] p [],Zd L [59] a.2))
 else (let a:=Za L (Zd L [111,112] s);let b:=Za L a.2;let r:=Zb9 L (L.length+1) [a.1,b.1] (Zd L [45,62] b.2);(.mk 3 r.1 [] p [],Zd L [59] r.2))
def ZbF (s:PS):Tr×PS:=
 let a:=Za L (Zd L [112,114,111,116,111] s)
 let r:=ZC L (Zan L) [125] (L.length+1) [] (Zd L [123] a.2)
 (.mk 1 [a.1] [] (Zj L s) r.1,r.2)
def ZP (s:PS):Tr×PS:=
 let p:=Zj L s;let a:=Za L s
 if isM L [58] a.2 then
  (let b:=Za L (Zb a.2);let k:=Zz L (Zo 0) b.2
   let q:List Int×PS:=if isM L [108,101,97,115,116] k.2 then (let n:=ZaH L 1 (Zb k.2);let d:=ZaH L 1 (Zd L [47] n.2);([n.1,d.1],d.2)) else ([0,0],k.2)
   let x:=Zn L [97,116] 0 q.2;let y:=Zn L [116,111] 1 x.2;let z:=Zn L [105,110] 2 y.2
   (.mk 5 [a.1,b.1] (k.1::q.1) p (x.1++y.1++z.1),z.2))
 else (.mk 5 [a.1] [] p [],a.2)
def fnM (ex st:PS->Tr×PS) (s:PS):Tr×PS:=
 let a:=Za L (Zd L [102,110] s)
 let r:=Zr L (ZP L) (L.length+1) true [] (Zd L [40] a.2)
 let b:=Zm L st r.2
 let _:=ex
 (.mk 4 [a.1] [] (Zj L s) (r.1++[b.1]),b.2)
def Zae (ex st:PS->Tr×PS):Nat->List Tr->PS->List Tr×PS
 | 0,l,s=>(l,s)
 | f+1,l,s=>
  if s.err=0/\(Zak L s).1≠3 then
   (if isM L [112,114,111,116,111] s then (let r:=ZbF L s;Zae ex st f (l++[r.1]) r.2)
    else if isM L [102,110] s then (let r:=fnM L ex st s;Zae ex st f (l++[r.1]) r.2)
    else Zae ex st f l (ZL L 11 s))
  else (l,s)
end
end
section
section
variable {L:List Tok}
def ZW (L:List Tok):Prop:=0<L.length/\(Zx L (L.length-1)).1=3
structure Adv (L:List Tok) (s s2:PS):Prop where
 le:s.at_<=s2.at_
 lt:s.at_<L.length->s2.at_<L.length
 deep:s2.deep=s.deep
 bad:s.err≠0->s2.err≠0
structure Gon (L:List Tok) (s s2:PS):Prop extends Adv L s s2 where
 on:s2.err=0->s.at_<s2.at_
theorem Adv.refl (s:PS):Adv L s s:=⟨Nat.le_refl _,id,rfl,id⟩
theorem Adv.trans {a b c:PS} (h:Adv L a b) (k:Adv L b c):Adv L a c:=⟨Nat.le_trans h.le k.le,fun q=>k.lt (h.lt q),k.deep.trans h.deep,fun q=>k.bad (h.bad q)⟩
theorem Gon.then_ {a b c:PS} (h:Gon L a b) (k:Adv L b c):Gon L a c:=⟨h.toAdv.trans k,fun q=>Nat.lt_of_lt_of_le (h.on (by
 by_cases e:b.err=0
 ·exact e
 ·exact absurd q (k.bad e))) k.le⟩
theorem Adv.then_ {a b c:PS} (h:Adv L a b) (k:Gon L b c):Gon L a c:=⟨h.trans k.toAdv,fun q=>Nat.lt_of_le_of_lt h.le (k.on q)⟩
theorem Adv.err {a b:PS} (h:Adv L a b) (e:b.err=0):a.err=0:=by
 by_cases q:a.err=0
 ·exact q
 ·exact absurd e (h.bad q)
theorem ZcJ {e:Int} (he:e≠0) (s:PS):Gon L s (ZL L e s):=by
 unfold ZL
 by_cases h:s.err=0
 ·rw [if_pos h];exact ⟨⟨Nat.le_refl _,id,rfl,fun q=>absurd h q⟩,fun q=>absurd q he⟩
 ·rw [if_neg h];exact ⟨Adv.refl s,fun q=>absurd q h⟩
theorem Zmw (hE:ZW L) {s:PS} (hs:s.at_<L.length) (he:s.err=0) (hn:(Zak L s).1≠3):s.at_+1<L.length:=by
 rcases Nat.lt_or_ge (s.at_+1) L.length with h | h
 ·exact h
 ·exact absurd (by unfold Zak;rw [if_neg (by simp [he]),show s.at_=L.length-1 by omega];exact hE.2) hn
theorem Ze2 (hE:ZW L) {s:PS} (hs:s.at_<L.length) (he:s.err=0) (hn:(Zak L s).1≠3):Gon L s (Zb s):=
 ⟨⟨Nat.le_succ _,fun _=>Zmw hE hs he hn,rfl,id⟩,fun _=>Nat.lt_succ_self _⟩
theorem Zhz {x:Txt} {s:PS} (h:isM L x s=true):s.err=0/\(Zak L s).1≠3:=by
 unfold isM at h
 simp only [Bool.and_eq_true,Bool.or_eq_true,decide_eq_true_eq] at h
 exact ⟨h.2,by rcases h.1.2 with h | h<;>omega⟩
theorem ZU (hE:ZW L) {x:Txt} {s:PS} (hs:s.at_<L.length) (h:isM L x s=true):Gon L s (Zb s):=Ze2 hE hs (Zhz h).1 (Zhz h).2
theorem ZA (hE:ZW L) (x:Txt) {s:PS} (hs:s.at_<L.length):Gon L s (Zd L x s):=by
 unfold Zd
 by_cases h:isM L x s=true
 ·rw [if_pos h];exact ZU hE hs h
 ·rw [if_neg h];exact ZcJ (by decide) s
theorem ZeF {s:PS} (h:ZaO L s=true):s.err=0/\(Zak L s).1≠3:=by
 unfold ZaO at h
 simp only [Bool.and_eq_true,decide_eq_true_eq] at h
 exact ⟨h.2,by omega⟩
theorem ZD (hE:ZW L) {s:PS} (hs:s.at_<L.length):Gon L s (Za L s).2:=by
 unfold Za
 by_cases h:ZaO L s=true
 ·rw [if_pos h];exact Ze2 hE hs (ZeF h).1 (ZeF h).2
 ·rw [if_neg h];exact ZcJ (by decide) s
theorem Zb8 (hE:ZW L) (least:Int) {s:PS} (hs:s.at_<L.length):Gon L s (ZaH L least s).2:=by
 unfold ZaH
 by_cases h:(Zak L s).1=1/\¬ Zdk (Zak L s).2.1<least/\s.err=0
 ·rw [if_pos h];exact Ze2 hE hs h.2.2 (by omega)
 ·rw [if_neg h];exact ZcJ (by decide) s
theorem Zde (hE:ZW L):∀ (l:List (Int×Txt)) {s:PS},s.at_<L.length->Gon L s (Zz L l s).2
 | [],s,_=>ZcJ (by decide) s
 | (i,w)::r,s,hs=>by
  unfold Zz
  by_cases h:isM L w s=true
  ·rw [if_pos h];exact ZU hE hs h
  ·rw [if_neg h];exact Zde hE r hs
theorem Zeg (hE:ZW L):∀ (f:Nat) (l:List Txt) {s:PS},s.at_<L.length->Adv L s (Zbm L f l s).2
 | 0,_,s,_=>Adv.refl s
 | f+1,l,s,hs=>by
  unfold Zbm
  by_cases h:isM L [124] s=true
  ·rw [if_pos h]
   have g:=ZU hE hs h
   have n:=ZD hE (g.lt hs)
   exact (g.toAdv.trans n.toAdv).trans (Zeg hE f _ (n.lt (g.lt hs)))
  ·rw [if_neg h];exact Adv.refl s
theorem ZbI (hE:ZW L) (x:Txt) (i:Int) {s:PS} (hs:s.at_<L.length):Adv L s (Zn L x i s).2:=by
 unfold Zn
 by_cases h:isM L x s=true
 ·rw [if_pos h]
  have g:=ZU hE hs h
  have n:=ZD hE (g.lt hs)
  exact (g.toAdv.trans n.toAdv).trans (Zeg hE _ _ (n.lt (g.lt hs)))
 ·rw [if_neg h];exact Adv.refl s
structure Dom (L:List Tok) (D:PS->Prop):Prop where
 next:∀ a b,D a->Adv L a b->D b
 lt:∀ a,D a->a.at_<L.length
abbrev Onw (L:List Tok) (D:PS->Prop) (M:PS->Tr×PS):Prop:=∀ s,D s->Gon L s (M s).2
theorem ZbG (hE:ZW L) {D:PS->Prop} (hD:Dom L D) {pc:PS->Tr×PS} (hp:Onw L D pc) (x y:Txt) (i j:Int):∀ (f:Nat) (a:Tr) (s:PS),D s->Adv L s (Zar L pc x y i j f a s).2
 | 0,_,s,_=>Adv.refl s
 | f+1,a,s,hs=>by
  unfold Zar
  by_cases he:s.err=0
  ·rw [if_pos he]
   by_cases h:isM L x s=true
   ·rw [if_pos h]
    have g:=ZU hE (hD.lt _ hs) h
    have hd:=hD.next _ _ hs g.toAdv
    have n:=hp _ hd
    exact (g.toAdv.trans n.toAdv).trans (ZbG hE hD hp x y i j f _ _ (hD.next _ _ hd n.toAdv))
   ·rw [if_neg h]
    by_cases h2:isM L y s=true
    ·rw [if_pos h2]
     have g:=ZU hE (hD.lt _ hs) h2
     have hd:=hD.next _ _ hs g.toAdv
     have n:=hp _ hd
     exact (g.toAdv.trans n.toAdv).trans (ZbG hE hD hp x y i j f _ _ (hD.next _ _ hd n.toAdv))
    ·rw [if_neg h2];exact Adv.refl s
  ·rw [if_neg he];exact Adv.refl s
theorem ZcG (hE:ZW L) {D:PS->Prop} (hD:Dom L D) {pc:PS->Tr×PS} (hp:Onw L D pc):Onw L D (ZaE L pc):=fun s hs=>
 (hp s hs).then_ (ZbG hE hD hp _ _ _ _ _ _ _ (hD.next _ _ hs (hp s hs).toAdv))
theorem ZeO (hE:ZW L) {D:PS->Prop} (hD:Dom L D) {pc:PS->Tr×PS} (hp:Onw L D pc):Onw L D (Zay L pc):=fun s hs=>
 (ZcG hE hD hp s hs).then_ (ZbG hE hD (ZcG hE hD hp) _ _ _ _ _ _ _ (hD.next _ _ hs (ZcG hE hD hp s hs).toAdv))
theorem ZeW (hE:ZW L) {D:PS->Prop} (hD:Dom L D) {pc:PS->Tr×PS} (hp:Onw L D pc):Onw L D (Zbb L pc):=fun s hs=>by
 have a:=ZeO hE hD hp s hs
 have ha:=hD.next _ _ hs a.toAdv
 unfold Zbb
 dsimp only
 by_cases h:isM L [60] (Zay L pc s).2=true
 ·rw [if_pos h]
  have g:=ZU hE (hD.lt _ ha) h
  exact a.then_ (g.toAdv.trans (ZeO hE hD hp _ (hD.next _ _ ha g.toAdv)).toAdv)
 ·rw [if_neg h]
  by_cases h2:isM L [61,61] (Zay L pc s).2=true
  ·rw [if_pos h2]
   have g:=ZU hE (hD.lt _ ha) h2
   exact a.then_ (g.toAdv.trans (ZeO hE hD hp _ (hD.next _ _ ha g.toAdv)).toAdv)
  ·rw [if_neg h2];exact a
structure Dp (L:List Tok) (f:Nat) (s:PS):Prop where
 lt:s.at_<L.length
 fuel:s.err=0->s.deep<=200/\200<s.deep+f
 lo:0<=s.deep
 hi:s.deep<=201
theorem ZaI (f:Nat):Dom L (Dp L f):=⟨fun a b h k=>⟨k.lt h.lt,fun e=>by rw [k.deep];exact h.fuel (k.err e),by rw [k.deep];exact h.lo,by rw [k.deep];exact h.hi⟩,fun a h=>h.lt⟩
theorem Zd2 {f:Nat} {s:PS} (h:Dp L (f+1) s) (hd:s.err=0\/s.deep<=200):Dp L f (inM L s):=by
 have h200:s.deep<=200:=hd.elim (fun e=>(h.fuel e).1) id
 have fu:=h.fuel
 have lo:=h.lo
 have lt:=h.lt
 unfold inM
 by_cases q:200<s.deep+1
 ·rw [if_pos q]
  unfold ZL
  by_cases e:s.err=0
  ·rw [if_pos (show (({ s with deep:=s.deep+1 }:PS).err=0) from e)]
   exact ⟨lt,fun e=>(by cases e),by show 0<=s.deep+1;omega,by show s.deep+1<=201;omega⟩
  ·rw [if_neg (show ¬ (({ s with deep:=s.deep+1 }:PS).err=0) from e)]
   exact ⟨lt,fun k=>absurd k e,by show 0<=s.deep+1;omega,by show s.deep+1<=201;omega⟩
 ·rw [if_neg q]
  exact ⟨lt,fun e=>by have:=fu e;show s.deep+1<=200/\200<s.deep+1+f;push_cast at this;omega,by show 0<=s.deep+1;omega,by show s.deep+1<=201;omega⟩
theorem Zei (s:PS):(inM L s).at_=s.at_/\(inM L s).deep=s.deep+1/\(s.err≠0->(inM L s).err≠0):=by
 unfold inM ZL
 by_cases q:200<s.deep+1
 ·rw [if_pos q]
  by_cases e:s.err=0
  ·rw [if_pos (show (({ s with deep:=s.deep+1 }:PS).err=0) from e)];exact ⟨rfl,rfl,fun k=>absurd e k⟩
  ·rw [if_neg (show ¬ (({ s with deep:=s.deep+1 }:PS).err=0) from e)];exact ⟨rfl,rfl,fun k=>k⟩
 ·rw [if_neg q];exact ⟨rfl,rfl,fun k=>k⟩
theorem ZdK {s s2:PS} (h:Adv L (inM L s) s2):Adv L s (Zaq s2):=by
 obtain ⟨p1,p2,p3⟩:=Zei (L:=L) s
 exact ⟨by have:=h.le;rw [p1] at this;exact this,fun q=>h.lt (by rw [p1];exact q),by show s2.deep-1=s.deep;rw [h.deep,p2];omega,fun q=>h.bad (p3 q)⟩
theorem Zbw (hE:ZW L):∀ (f:Nat),Onw L (Dp L f) (ZG L f)
 | 0,s,hs=>⟨Adv.refl s,fun e=>by have:=hs.fuel e;omega⟩
 | f+1,s,hs=>by
  unfold ZG
  by_cases e:s.err≠0
  ·rw [if_pos e];exact ⟨Adv.refl s,fun q=>absurd q e⟩
  rw [if_neg e]
  have e0:s.err=0:=Classical.not_not.1 e
  by_cases h1:(Zak L s).1=1
  ·rw [if_pos h1];exact Zb8 hE 0 hs.lt
  rw [if_neg h1]
  by_cases h2:ZaO L s=true
  ·rw [if_pos h2];exact ZD hE hs.lt
  rw [if_neg h2]
  by_cases h3:isM L [45] s=true
  ·rw [if_pos h3]
   have g:=ZU hE hs.lt h3
   have d:=(ZaI (f+1)).next _ _ hs g.toAdv
   exact g.then_ (ZdK (Zbw hE f _ (Zd2 d (.inl e0))).toAdv)
  rw [if_neg h3]
  have g:=ZA hE [40] hs.lt
  have d:=(ZaI (f+1)).next _ _ hs g.toAdv
  have i:=Zd2 d (.inr (by rw [g.deep];exact (hs.fuel e0).1))
  have x:=ZdK (ZeW hE (ZaI f) (Zbw hE f) _ i).toAdv
  exact (g.then_ x).then_ (ZA hE [41] (x.lt (g.lt hs.lt))).toAdv
theorem Zbu (hE:ZW L) {D:PS->Prop} (hD:Dom L D) {ea:PS->Tr×PS} (hp:∀ s,D s->s.err=0->Adv L s (ea s).2) (x:Txt):∀ (f:Nat) (l:List Tr) (s:PS),D s->Adv L s (ZC L ea x f l s).2
 | 0,_,s,_=>Adv.refl s
 | f+1,l,s,hs=>by
  unfold ZC
  by_cases he:s.err=0
  ·rw [if_pos he]
   by_cases h:isM L x s=true
   ·rw [if_pos h];exact (ZU hE (hD.lt _ hs) h).toAdv
   ·rw [if_neg h]
    have n:=hp s hs he
    exact n.trans (Zbu hE hD hp x f _ _ (hD.next _ _ hs n))
  ·rw [if_neg he];exact Adv.refl s
theorem ZbL (hE:ZW L) {D:PS->Prop} (hD:Dom L D) {ea:PS->Tr×PS} (hp:∀ s,D s->Adv L s (ea s).2):∀ (f:Nat) (first:Bool) (l:List Tr) (s:PS),D s->Adv L s (Zr L ea f first l s).2
 | 0,_,_,s,_=>Adv.refl s
 | f+1,first,l,s,hs=>by
  unfold Zr
  by_cases he:s.err=0
  ·rw [if_pos he]
   by_cases h:isM L [41] s=true
   ·rw [if_pos h];exact (ZU hE (hD.lt _ hs) h).toAdv
   ·rw [if_neg h]
    have w:Adv L s (if first then s else Zd L [44] s):=by
     cases first
     ·exact (ZA hE [44] (hD.lt _ hs)).toAdv
     ·exact Adv.refl s
    have dw:=hD.next _ _ hs w
    have n:=hp _ dw
    exact (w.trans n).trans (ZbL hE hD hp f _ _ _ (hD.next _ _ dw n))
  ·rw [if_neg he];exact Adv.refl s
theorem Za9 (hE:ZW L) {f:Nat} {st:PS->Tr×PS} (hp:∀ s,Dp L f s->s.err=0->Adv L s (st s).2) {s:PS} (hs:Dp L (f+1) s) (h200:s.deep<=200):Gon L s (Zm L st s).2:=by
 have g:=ZA hE [123] hs.lt
 have d:=(ZaI (f+1)).next _ _ hs g.toAdv
 exact g.then_ (ZdK (Zbu hE (ZaI f) hp [125] _ _ _ (Zd2 d (.inr (by rw [g.deep];exact h200)))))
end
end
end Go.Proofs.YtfdgeijnkkdplaaDoor
