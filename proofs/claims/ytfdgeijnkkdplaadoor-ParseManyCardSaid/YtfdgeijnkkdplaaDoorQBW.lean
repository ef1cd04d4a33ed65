import Derived.Test.YtfdgeijnkkdplaaDoorQAI
import Derived.Test.YtfdgeijnkkdplaaDoorQBA
set_option maxRecDepth 100000
set_option maxHeartbeats 8000000
namespace Go.Proofs.YtfdgeijnkkdplaaDoor
section
theorem ZbP:∀ (a b:List Tr),ZI (a++b)=ZI a+ZI b
 | [],b=>by rw [List.nil_append,ZI];omega
 | t::r,b=>by rw [List.cons_append,ZI,ZI,ZbP r b];omega
theorem ZaU (t:Tr):ZI [t]=szT t:=by rw [ZI,ZI];rfl
theorem Zao (k:Int) (ws:List Txt) (us:List Int) (p:Int) (ks:List Tr):szT (.mk k ws us p ks)=ZI ks+1:=by rw [szT]
theorem Zd4 (op:Int) (a b:Tr):szT (ZbX op a b)=szT a+szT b+1:=by unfold ZbX;rw [Zao,ZI,ZI,ZI];omega
section
variable {L:List Tok}
abbrev SzM (D:PS->Prop) (M:PS->Tr×PS):Prop:=∀ s,D s->(M s).2.err=0->szT (M s).1+s.at_<=(M s).2.at_
theorem Zdj (hE:ZW L) {D:PS->Prop} (hD:Dom L D) {pc:PS->Tr×PS} (hp:Onw L D pc) (hz:SzM D pc) (x y:Txt) (i j:Int):∀ (f:Nat) (a:Tr) (s:PS),D s->(Zar L pc x y i j f a s).2.err=0->szT (Zar L pc x y i j f a s).1+s.at_<=(Zar L pc x y i j f a s).2.at_+szT a
 | 0,a,s,_,_=>by rw [Zar];dsimp only;omega
 | f+1,a,s,hs,e=>by
  unfold Zar at e ⊢
  by_cases he:s.err=0
  ·rw [if_pos he] at e ⊢
   by_cases h:isM L x s=true
   ·rw [if_pos h] at e ⊢
    have g:=ZU hE (hD.lt _ hs) h
    have hd:=hD.next _ _ hs g.toAdv
    have n:=hp _ hd
    have hd2:=hD.next _ _ hd n.toAdv
    have c:=ZbG hE hD hp x y i j f (ZbX i a (pc (Zb s)).1) _ hd2
    have e2:=c.err e
    have h1:=Zdj hE hD hp hz x y i j f _ _ hd2 e
    have h2:=hz _ hd e2
    rw [Zd4] at h1
    have:(Zb s).at_=s.at_+1:=rfl
    dsimp only at h1 ⊢
    omega
   ·rw [if_neg h] at e ⊢
    by_cases h':isM L y s=true
    ·rw [if_pos h'] at e ⊢
     have g:=ZU hE (hD.lt _ hs) h'
     have hd:=hD.next _ _ hs g.toAdv
     have n:=hp _ hd
     have hd2:=hD.next _ _ hd n.toAdv
     have c:=ZbG hE hD hp x y i j f (ZbX j a (pc (Zb s)).1) _ hd2
     have e2:=c.err e
     have h1:=Zdj hE hD hp hz x y i j f _ _ hd2 e
     have h2:=hz _ hd e2
     rw [Zd4] at h1
     have:(Zb s).at_=s.at_+1:=rfl
     dsimp only at h1 ⊢
     omega
    ·rw [if_neg h'];dsimp only;omega
  ·rw [if_neg he];dsimp only;omega
theorem ZiJ (hE:ZW L) {D:PS->Prop} (hD:Dom L D) {pc:PS->Tr×PS} (hp:Onw L D pc) (hz:SzM D pc):SzM D (ZaE L pc):=fun s hs e=>by
 have hd:=hD.next _ _ hs (hp s hs).toAdv
 have h1:=Zdj hE hD hp hz [42] [47] 4 5 (L.length+1) (pc s).1 _ hd e
 have h2:=hz s hs ((ZbG hE hD hp [42] [47] 4 5 (L.length+1) (pc s).1 _ hd).err e)
 unfold ZaE
 dsimp only
 omega
theorem ZmA (hE:ZW L) {D:PS->Prop} (hD:Dom L D) {pc:PS->Tr×PS} (hp:Onw L D pc) (hz:SzM D pc):SzM D (Zay L pc):=fun s hs e=>by
 have hq:=ZcG hE hD hp
 have hw:=ZiJ hE hD hp hz
 have hd:=hD.next _ _ hs (hq s hs).toAdv
 have h1:=Zdj hE hD hq hw [43] [45] 2 3 (L.length+1) (ZaE L pc s).1 _ hd e
 have h2:=hw s hs ((ZbG hE hD hq [43] [45] 2 3 (L.length+1) (ZaE L pc s).1 _ hd).err e)
 unfold Zay
 dsimp only
 omega
theorem Zhx (hE:ZW L) {D:PS->Prop} (hD:Dom L D) {pc:PS->Tr×PS} (hp:Onw L D pc) (hz:SzM D pc):SzM D (Zbb L pc):=fun s hs e=>by
 have hq:=ZeO hE hD hp
 have hw:=ZmA hE hD hp hz
 have ha:=hD.next _ _ hs (hq s hs).toAdv
 unfold Zbb at e ⊢
 dsimp only at e ⊢
 by_cases h:isM L [60] (Zay L pc s).2=true
 ·rw [if_pos h] at e ⊢
  have g:=ZU hE (hD.lt _ ha) h
  have hd:=hD.next _ _ ha g.toAdv
  have h1:=hw _ hd e
  have h2:=hw s hs (g.toAdv.err ((hq _ hd).toAdv.err e))
  have:(Zb (Zay L pc s).2).at_=(Zay L pc s).2.at_+1:=rfl
  dsimp only
  rw [Zd4]
  omega
 ·rw [if_neg h] at e ⊢
  by_cases h':isM L [61,61] (Zay L pc s).2=true
  ·rw [if_pos h'] at e ⊢
   have g:=ZU hE (hD.lt _ ha) h'
   have hd:=hD.next _ _ ha g.toAdv
   have h1:=hw _ hd e
   have h2:=hw s hs (g.toAdv.err ((hq _ hd).toAdv.err e))
   have:(Zb (Zay L pc s).2).at_=(Zay L pc s).2.at_+1:=rfl
   dsimp only
   rw [Zd4]
   omega
  ·rw [if_neg h'] at e ⊢;exact hw s hs e
theorem Zia (s:PS):(inM L s).at_=s.at_:=(Zei s).1
theorem Zmn {s:PS} (e:(inM L s).err=0):s.err=0:=by
 by_cases h:s.err=0
 ·exact h
 ·exact absurd e ((Zei s).2.2 h)
theorem Zen (hE:ZW L):∀ (f:Nat),SzM (Dp L f) (ZG L f)
 | 0,s,hs,e=>by have:=hs.fuel e;omega
 | f+1,s,hs,e=>by
  unfold ZG at e ⊢
  by_cases he:s.err≠0
  ·rw [if_pos he] at e;exact absurd e he
  rw [if_neg he] at e ⊢
  have e0:s.err=0:=Classical.not_not.1 he
  by_cases h1:(Zak L s).1=1
  ·rw [if_pos h1] at e ⊢
   have:=(Zb8 hE 0 hs.lt).on e
   dsimp only
   rw [Zao,ZI]
   omega
  rw [if_neg h1] at e ⊢
  by_cases h2:ZaO L s=true
  ·rw [if_pos h2] at e ⊢
   have:=(ZD hE hs.lt).on e
   dsimp only
   rw [Zao,ZI]
   omega
  rw [if_neg h2] at e ⊢
  by_cases h3:isM L [45] s=true
  ·rw [if_pos h3] at e ⊢
   have g:=ZU hE hs.lt h3
   have d:=(ZaI (f+1)).next _ _ hs g.toAdv
   have i:=Zd2 d (.inl e0)
   have h:=Zen hE f _ i e
   rw [Zia] at h
   have:(Zb s).at_=s.at_+1:=rfl
   dsimp only
   rw [Zao,ZaU]
   show szT _+1+s.at_<=(ZG L f (inM L (Zb s))).2.at_
   omega
  rw [if_neg h3] at e ⊢
  have g:=ZA hE [40] hs.lt
  have d:=(ZaI (f+1)).next _ _ hs g.toAdv
  have i:=Zd2 d (.inr (by rw [g.deep];exact (hs.fuel e0).1))
  have x:=ZeW hE (ZaI f) (Zbw hE f) _ i
  have lt:(Zaq (Zbb L (ZG L f) (inM L (Zd L [40] s))).2).at_<L.length:=x.lt i.lt
  have w:=ZA hE [41] lt
  have ex:(Zbb L (ZG L f) (inM L (Zd L [40] s))).2.err=0:=w.toAdv.err e
  have h:=Zhx hE (ZaI f) (Zbw hE f) (Zen hE f) _ i ex
  rw [Zia] at h
  have:=g.le
  have h2:=w.le
  dsimp only at h2 ⊢
  have:(Zaq (Zbb L (ZG L f) (inM L (Zd L [40] s))).2).at_=(Zbb L (ZG L f) (inM L (Zd L [40] s))).2.at_:=rfl
  omega
theorem ZdA (hE:ZW L) {D:PS->Prop} (hD:Dom L D) {ea:PS->Tr×PS} (hp:∀ s,D s->s.err=0->Adv L s (ea s).2) (hz:∀ s,D s->s.err=0->(ea s).2.err=0->szT (ea s).1+s.at_<=(ea s).2.at_) (x:Txt):∀ (f:Nat) (l:List Tr) (s:PS),D s->(ZC L ea x f l s).2.err=0->ZI (ZC L ea x f l s).1+s.at_<=(ZC L ea x f l s).2.at_+ZI l
 | 0,l,s,_,_=>by rw [ZC];dsimp only;omega
 | f+1,l,s,hs,e=>by
  unfold ZC at e ⊢
  by_cases he:s.err=0
  ·rw [if_pos he] at e ⊢
   by_cases h:isM L x s=true
   ·rw [if_pos h]
    have:(Zb s).at_=s.at_+1:=rfl
    dsimp only
    omega
   ·rw [if_neg h] at e ⊢
    have n:=hp s hs he
    have hd:=hD.next _ _ hs n
    have h1:=ZdA hE hD hp hz x f (l++[(ea s).1]) _ hd e
    have h2:=hz s hs he ((Zbu hE hD hp x f (l++[(ea s).1]) _ hd).err e)
    rw [ZbP,ZaU] at h1
    dsimp only at h1 ⊢
    omega
  ·rw [if_neg he];dsimp only;omega
theorem ZdG (hE:ZW L) {D:PS->Prop} (hD:Dom L D) {ea:PS->Tr×PS} (hp:∀ s,D s->Adv L s (ea s).2) (hz:SzM D ea):∀ (f:Nat) (first:Bool) (l:List Tr) (s:PS),D s->(Zr L ea f first l s).2.err=0->ZI (Zr L ea f first l s).1+s.at_<=(Zr L ea f first l s).2.at_+ZI l
 | 0,_,l,s,_,_=>by rw [Zr];dsimp only;omega
 | f+1,first,l,s,hs,e=>by
  unfold Zr at e ⊢
  by_cases he:s.err=0
  ·rw [if_pos he] at e ⊢
   by_cases h:isM L [41] s=true
   ·rw [if_pos h]
    have:(Zb s).at_=s.at_+1:=rfl
    dsimp only
    omega
   ·rw [if_neg h] at e ⊢
    have w:Adv L s (if first then s else Zd L [44] s):=by
     cases first
     ·exact (ZA hE [44] (hD.lt _ hs)).toAdv
     ·exact Adv.refl s
    have dw:=hD.next _ _ hs w
    have n:=hp _ dw
    have hd:=hD.next _ _ dw n
    have h1:=ZdG hE hD hp hz f false (l++[(ea (if first then s else Zd L [44] s)).1]) _ hd e
    have h2:=hz _ dw ((ZbL hE hD hp f false (l++[(ea (if first then s else Zd L [44] s)).1]) _ hd).err e)
    have h3:=w.le
    rw [ZbP,ZaU] at h1
    dsimp only at h1 ⊢
    omega
  ·rw [if_neg he];dsimp only;omega
theorem ZbK (hE:ZW L) {f:Nat} {st:PS->Tr×PS} (hp:∀ s,Dp L f s->s.err=0->Adv L s (st s).2) (hz:∀ s,Dp L f s->s.err=0->(st s).2.err=0->szT (st s).1+s.at_<=(st s).2.at_) {s:PS} (hs:Dp L (f+1) s) (h200:s.deep<=200) (e:(Zm L st s).2.err=0):szT (Zm L st s).1+s.at_<=(Zm L st s).2.at_:=by
 have g:=ZA hE [123] hs.lt
 have d:=(ZaI (f+1)).next _ _ hs g.toAdv
 have i:=Zd2 d (.inr (by rw [g.deep];exact h200))
 have eu:(ZC L st [125] (L.length+1) [] (inM L (Zd L [123] s))).2.err=0:=e
 have h:=ZdA hE (ZaI f) hp hz [125] _ [] _ i eu
 have ew:=Zmn ((Zbu hE (ZaI f) hp [125] (L.length+1) [] _ i).err eu)
 have:=g.on ew
 rw [Zia,ZI] at h
 unfold Zm
 dsimp only
 rw [Zao]
 show ZI _+1+s.at_<=(ZC L st [125] (L.length+1) [] (inM L (Zd L [123] s))).2.at_
 omega
end
end
section
section
variable {L:List Tok}
theorem Zmj (hE:ZW L) {D:PS->Prop} (hD:Dom L D) {ex:PS->Tr×PS} (hz:SzM D ex):SzM D (ZV L ex):=fun s hs e=>by
 unfold ZV at e ⊢
 by_cases h:isM L [38] s=true
 ·rw [if_pos h] at e ⊢
  have g:=ZU hE (hD.lt _ hs) h
  have n:=(ZD hE (g.lt (hD.lt _ hs))).on e
  have:(Zb s).at_=s.at_+1:=rfl
  dsimp only
  rw [Zao,ZI]
  omega
 ·rw [if_neg h] at e ⊢;exact hz s hs e
theorem ZlL (hE:ZW L) {D:PS->Prop} (hD:Dom L D) {ex:PS->Tr×PS} (hx:Onw L D ex) (hz:SzM D ex) (p:Int):SzM D (Za4 L ex p):=fun s hs e=>by
 have a:=ZD hE (hD.lt _ hs)
 have l1:=a.lt (hD.lt _ hs)
 have key:∀ q:PS,Adv L (Za L s).2 q->(Zd L [59] (Zr L (ZV L ex) (L.length+1) true [] (Zd L [40] q)).2).err=0->ZI (Zr L (ZV L ex) (L.length+1) true [] (Zd L [40] q)).1+1+s.at_<=(Zd L [59] (Zr L (ZV L ex) (L.length+1) true [] (Zd L [40] q)).2).at_:=fun q hq e=>by
  have w:=ZA hE [40] (hq.lt l1)
  have dq:=hD.next _ _ (hD.next _ _ (hD.next _ _ hs a.toAdv) hq) w.toAdv
  have c:=ZbL hE hD (fun s h=>(ZdF hE hD hx s h).toAdv) (L.length+1) true [] _ dq
  have v:=ZA hE [59] (c.lt (w.lt (hq.lt l1)))
  have ec:=v.toAdv.err e
  have h1:=ZdG hE hD (fun s h=>(ZdF hE hD hx s h).toAdv) (Zmj hE hD hz) (L.length+1) true [] _ dq ec
  have h2:=a.on (hq.err (w.toAdv.err (c.err ec)))
  have h3:=hq.le
  have h4:=w.le
  have h5:=v.le
  rw [ZI] at h1
  omega
 unfold Za4 at e ⊢
 dsimp only at e ⊢
 rw [Zao]
 by_cases h:isM L [61] (Za L s).2=true
 ·rw [if_pos h] at e ⊢
  have g:=ZU hE l1 h
  exact key _ (g.toAdv.trans (ZD hE (g.lt l1)).toAdv) e
 ·rw [if_neg h] at e ⊢
  exact key _ (Adv.refl _) e
abbrev Zed (L:List Tok) (f:Nat) (st:PS->Tr×PS):Prop:=∀ s,Dp L f s->s.err=0->(st s).2.err=0->szT (st s).1+s.at_<=(st s).2.at_
theorem ZlM (hE:ZW L) {f:Nat} {st:PS->Tr×PS} (hp:Stm L f st) (hz:Zed L f st) {s:PS} (hs:Dp L (f+1) s) (h200:s.deep<=200) (e:(Zax L st s).2.err=0):szT (Zax L st s).1+s.at_<=(Zax L st s).2.at_:=by
 have a:=ZD hE hs.lt
 have d:=(ZaI (f+1)).next _ _ hs a.toAdv
 have h2:(Za L s).2.deep<=200:=by rw [a.deep];exact h200
 have b:=ZbK hE hp.adv hz d h2 e
 have:=a.on ((Za9 hE hp.adv d h2).toAdv.err e)
 unfold Zax
 dsimp only
 rw [Zao,ZaU]
 omega
theorem ZmS (hE:ZW L) {f:Nat} {st:PS->Tr×PS} (hp:Stm L f st) (hz:Zed L f st) (p:Int) {s:PS} (hs:Dp L (f+1) s) (h200:s.deep<=200) (e:(doM L st p s).2.err=0):szT (doM L st p s).1+s.at_<=(doM L st p s).2.at_:=by
 have D:=ZaV (L:=L) (f+1)
 have a:=ZD hE hs.lt
 have d1:=D.next _ _ ⟨hs,h200⟩ a.toAdv
 have w:=ZA hE [46] d1.1.lt
 have d2:=D.next _ _ d1 w.toAdv
 have b:=ZD hE d2.1.lt
 have d3:=D.next _ _ d2 b.toAdv
 unfold doM at e ⊢
 dsimp only at e ⊢
 by_cases h:isM L [59] (Za L (Zd L [46] (Za L s).2)).2=true
 ·rw [if_pos h] at e ⊢
  have g:=ZU hE d3.1.lt h
  have:=a.on (w.toAdv.err (b.toAdv.err (g.toAdv.err e)))
  have:=w.le
  have:=b.le
  have:=g.le
  dsimp only
  rw [Zao,ZI]
  omega
 ·rw [if_neg h] at e ⊢
  have v:=ZA hE [123] d3.1.lt
  have d4:=D.next _ _ d3 v.toAdv
  have c:=Zbu hE D (fun s h _=>(Zd1 hE hp h.1 h.2).toAdv) [125] (L.length+1) [] _ d4
  have hu:=ZdA hE D (fun s h _=>(Zd1 hE hp h.1 h.2).toAdv) (fun s h _ e=>ZlM hE hp hz h.1 h.2 e) [125] (L.length+1) [] _ d4 e
  have:=a.on (w.toAdv.err (b.toAdv.err (v.toAdv.err (c.err e))))
  have:=w.le
  have:=b.le
  have:=v.le
  rw [ZI] at hu
  dsimp only
  rw [Zao]
  omega
theorem ZlR (hE:ZW L) {f:Nat} {ex st:PS->Tr×PS} (hx:Onw L (Dp L (f+1)) ex) (hxz:SzM (Dp L (f+1)) ex) (hp:Stm L f st) (hz:Zed L f st) (p:Int) {s:PS} (hs:Dp L (f+1) s) (h200:s.deep<=200) (e:(ZbM L ex st p s).2.err=0):szT (ZbM L ex st p s).1+s.at_<=(ZbM L ex st p s).2.at_:=by
 have D:=ZaV (L:=L) (f+1)
 have X:∀ q,Dp L (f+1) q/\q.deep<=200->Adv L q (ex q).2:=fun q h=>(hx q h.1).toAdv
 have B:∀ q,Dp L (f+1) q/\q.deep<=200->Adv L q (Zm L st q).2:=fun q h=>(Za9 hE hp.adv h.1 h.2).toAdv
 unfold ZbM at e ⊢
 by_cases h1:isM L [105,102] s=true
 ·rw [if_pos h1] at e ⊢
  have g:=ZU hE hs.lt h1
  have d1:=D.next _ _ ⟨hs,h200⟩ g.toAdv
  have d2:=D.next _ _ d1 (X _ d1)
  have d3:=D.next _ _ d2 (B _ d2)
  have a1:(Zb s).at_=s.at_+1:=rfl
  dsimp only at e ⊢
  by_cases h2:isM L [101,108,115,101] (Zm L st (ex (Zb s)).2).2=true
  ·rw [if_pos h2] at e ⊢
   have k:=ZU hE d3.1.lt h2
   have d4:=D.next _ _ d3 k.toAdv
   have e4:=(B _ d4).err e
   have e3:=k.toAdv.err e4
   have z4:=ZbK hE hp.adv hz d4.1 d4.2 e
   have z3:=ZbK hE hp.adv hz d2.1 d2.2 e3
   have z2:=hxz _ d1.1 ((B _ d2).err e3)
   have:=k.le
   dsimp only
   rw [Zao,ZI,ZI,ZaU]
   omega
  ·rw [if_neg h2] at e ⊢
   have z3:=ZbK hE hp.adv hz d2.1 d2.2 e
   have z2:=hxz _ d1.1 ((B _ d2).err e)
   dsimp only
   rw [Zao,ZI,ZaU]
   omega
 rw [if_neg h1] at e ⊢
 by_cases h2:isM L [119,104,105,108,101] s=true
 ·rw [if_pos h2] at e ⊢
  have g:=ZU hE hs.lt h2
  have d1:=D.next _ _ ⟨hs,h200⟩ g.toAdv
  have d2:=D.next _ _ d1 (X _ d1)
  have a1:(Zb s).at_=s.at_+1:=rfl
  have z3:=ZbK hE hp.adv hz d2.1 d2.2 e
  have z2:=hxz _ d1.1 ((B _ d2).err e)
  dsimp only
  rw [Zao,ZI,ZaU]
  omega
 rw [if_neg h2] at e ⊢
 by_cases h3:isM L [114,101,116,117,114,110] s=true
 ·rw [if_pos h3] at e ⊢
  have g:=ZU hE hs.lt h3
  have d1:=D.next _ _ ⟨hs,h200⟩ g.toAdv
  have d2:=D.next _ _ d1 (X _ d1)
  have a1:(Zb s).at_=s.at_+1:=rfl
  have w:=ZA hE [59] d2.1.lt
  have z2:=hxz _ d1.1 (w.toAdv.err e)
  have:=w.le
  dsimp only
  rw [Zao,ZaU]
  omega
 rw [if_neg h3] at e ⊢
 have w:=ZA hE [101,120,105,116] hs.lt
 have v:=ZA hE [59] (w.lt hs.lt)
 have:=v.on e
 have:=w.le
 dsimp only
 rw [Zao,ZI]
 omega
theorem Zdr (hE:ZW L) (x:Txt) (i:Int) {s:PS} (hs:s.at_<L.length):ZI (Zn L x i s).1+s.at_<=(Zn L x i s).2.at_:=by
 unfold Zn
 by_cases h:isM L x s=true
 ·rw [if_pos h]
  have g:=ZU hE hs h
  have n:=ZD hE (g.lt hs)
  have b:=Zeg hE L.length [(Za L (Zb s)).1] (n.lt (g.lt hs))
  have:=n.le
  have:=b.le
  have:(Zb s).at_=s.at_+1:=rfl
  dsimp only
  rw [ZaU,Zao,ZI]
  omega
 ·rw [if_neg h,ZI];dsimp only;omega
theorem ZlA (hE:ZW L) {f:Nat} {st:PS->Tr×PS} (hp:Stm L f st) (hz:Zed L f st) (p:Int) {s:PS} (hs:Dp L (f+1) s) (h200:s.deep<=200) (e:(Za8 L st p s).2.err=0):szT (Za8 L st p s).1+s.at_<=(Za8 L st p s).2.at_:=by
 have D:=ZaV (L:=L) (f+1)
 unfold Za8 at e ⊢
 dsimp only at e ⊢
 have g:=ZD hE hs.lt
 have d1:=D.next _ _ ⟨hs,h200⟩ g.toAdv
 have g2:=ZA hE [61] d1.1.lt
 have d2:=D.next _ _ d1 g2.toAdv
 have g3:=ZD hE d2.1.lt
 have d3:=D.next _ _ d2 g3.toAdv
 have g4:=Zde hE (Zo 1) d3.1.lt
 have d4:=D.next _ _ d3 g4.toAdv
 have g5:=Zb8 hE 1 d4.1.lt
 have d5:=D.next _ _ d4 g5.toAdv
 have g6:=ZA hE [47] d5.1.lt
 have d6:=D.next _ _ d5 g6.toAdv
 have g7:=Zb8 hE 1 d6.1.lt
 have d7:=D.next _ _ d6 g7.toAdv
 have g8:=ZbI hE [105,110] 2 d7.1.lt
 have d8:=D.next _ _ d7 g8
 have z8:=Zdr hE [105,110] 2 d7.1.lt
 have z9:=ZbK hE hp.adv hz d8.1 d8.2 e
 have e8:=(Za9 hE hp.adv d8.1 d8.2).toAdv.err e
 have:=g.on (g2.toAdv.err (g3.toAdv.err (g4.toAdv.err (g5.toAdv.err (g6.toAdv.err (g7.toAdv.err (g8.err e8)))))))
 have:=g2.le
 have:=g3.le
 have:=g4.le
 have:=g5.le
 have:=g6.le
 have:=g7.le
 rw [Zao,ZbP,ZaU]
 omega
theorem ZhD (hE:ZW L) {ex:PS->Tr×PS} (hx:∀ f,Onw L (Dp L (f+1)) ex) (hxz:∀ f,SzM (Dp L (f+1)) ex):∀ f,Zed L f (Zh L ex f)
 | 0,s,hs,e,_=>by have:=hs.fuel e;omega
 | f+1,s,hs,e0,e=>by
  have D:=ZaV (L:=L) (f+1)
  have h200:=(hs.fuel e0).1
  have hp:=Zcp hE hx f
  have hz:=ZhD hE hx hxz f
  have a1:(Zb s).at_=s.at_+1:=rfl
  have asg:∀ q:PS,Dp L (f+1) q/\q.deep<=200->∀ (k:Int) (w:Txt),(Zd L [59] (ex (Zd L [61] q)).2).err=0->szT (.mk k [w] [] (Zj L s) [(ex (Zd L [61] q)).1])+q.at_<=(Zd L [59] (ex (Zd L [61] q)).2).at_:=fun q hq k w e=>by
   have g3:=ZA hE [61] hq.1.lt
   have d3:=D.next _ _ hq g3.toAdv
   have g4:=hx f _ d3.1
   have d4:=D.next _ _ d3 g4.toAdv
   have g5:=ZA hE [59] d4.1.lt
   have e4:=g5.toAdv.err e
   have z:=hxz f _ d3.1 e4
   have:=g3.on (g4.toAdv.err e4)
   have:=g5.le
   rw [Zao,ZaU]
   omega
  unfold Zh at e ⊢
  dsimp only at e ⊢
  by_cases h1:isM L [108,101,116] s=true
  ·rw [if_pos h1] at e ⊢
   have g:=ZU hE hs.lt h1
   have d1:=D.next _ _ ⟨hs,h200⟩ g.toAdv
   have g2:=ZD hE d1.1.lt
   have:=asg _ (D.next _ _ d1 g2.toAdv) 8 (Za L (Zb s)).1 e
   have:=g2.le
   dsimp only
   omega
  rw [if_neg h1] at e ⊢
  by_cases h2:ZaO L s=true
  ·rw [if_pos h2] at e ⊢
   have g2:=ZD hE hs.lt
   have:=asg _ (D.next _ _ ⟨hs,h200⟩ g2.toAdv) 9 (Za L s).1 e
   have:=g2.le
   dsimp only
   omega
  rw [if_neg h2] at e ⊢
  by_cases h3:isM L [111,112,101,110] s=true
  ·rw [if_pos h3] at e ⊢
   have g:=ZU hE hs.lt h3
   have d1:=D.next _ _ ⟨hs,h200⟩ g.toAdv
   have g2:=ZD hE d1.1.lt
   have d2:=D.next _ _ d1 g2.toAdv
   have g3:=ZD hE d2.1.lt
   have d3:=D.next _ _ d2 g3.toAdv
   have g4:=Za9 hE hp.adv d3.1 d3.2
   have d4:=D.next _ _ d3 g4.toAdv
   have g5:=ZA hE [101,108,115,101] d4.1.lt
   have d5:=D.next _ _ d4 g5.toAdv
   have z5:=ZbK hE hp.adv hz d5.1 d5.2 e
   have z3:=ZbK hE hp.adv hz d3.1 d3.2 (g5.toAdv.err ((Za9 hE hp.adv d5.1 d5.2).toAdv.err e))
   have:=g2.le
   have:=g3.le
   have:=g5.le
   dsimp only
   rw [Zao,ZI,ZaU]
   omega
  rw [if_neg h3] at e ⊢
  by_cases h4:isM L [100,111] s=true
  ·rw [if_pos h4] at e ⊢
   have d1:=D.next _ _ ⟨hs,h200⟩ (ZU hE hs.lt h4).toAdv
   have:=ZmS hE hp hz (Zj L s) d1.1 d1.2 e
   omega
  rw [if_neg h4] at e ⊢
  by_cases h5:isM L [115,112,108,105,116] s=true
  ·rw [if_pos h5] at e ⊢
   have d1:=D.next _ _ ⟨hs,h200⟩ (ZU hE hs.lt h5).toAdv
   have:=ZlA hE hp hz (Zj L s) d1.1 d1.2 e
   omega
  rw [if_neg h5] at e ⊢
  by_cases h6:isM L [99,97,108,108] s=true
  ·rw [if_pos h6] at e ⊢
   have d1:=D.next _ _ ⟨hs,h200⟩ (ZU hE hs.lt h6).toAdv
   have:=ZlL hE (ZaI _) (hx f) (hxz f) (Zj L s) _ d1.1 e
   omega
  rw [if_neg h6] at e ⊢
  exact ZlR hE (hx f) (hxz f) hp hz _ hs h200 e
theorem Zl4 (hE:ZW L) {s:PS} (hs:s.at_<L.length) (e:(Zan L s).2.err=0):szT (Zan L s).1+s.at_<=(Zan L s).2.at_:=by
 have:=(part_go hE hs).on e
 have h1:szT (Zan L s).1=1:=by
  unfold Zan
  dsimp only
  by_cases h1:isM L [115,116,97,116,101] s=true
  ·rw [if_pos h1,Zao,ZI]
  rw [if_neg h1]
  by_cases h2:isM L [102,105,110,97,108] s=true
  ·rw [if_pos h2,Zao,ZI]
  rw [if_neg h2,Zao,ZI]
 omega
theorem Zln (hE:ZW L) {s:PS} (hs:s.at_<L.length) (e:(ZbF L s).2.err=0):szT (ZbF L s).1+s.at_<=(ZbF L s).2.at_:=by
 have D:Dom L (fun s=>s.at_<L.length):=⟨fun a b h k=>k.lt h,fun a h=>h⟩
 have g:=ZA hE [112,114,111,116,111] hs
 have a:=ZD hE (g.lt hs)
 have w:=ZA hE [123] (a.lt (g.lt hs))
 have lw:=w.lt (a.lt (g.lt hs))
 have u:=Zbu hE D (fun s h _=>(part_go hE h).toAdv) [125] (L.length+1) [] _ lw
 have z:=ZdA hE D (fun s h _=>(part_go hE h).toAdv) (fun s h _ e=>Zl4 hE h e) [125] (L.length+1) [] _ lw e
 have:=g.on (a.toAdv.err (w.toAdv.err (u.err e)))
 have:=a.le
 have:=w.le
 rw [ZI] at z
 unfold ZbF
 dsimp only
 rw [Zao]
 omega
theorem Zlg (hE:ZW L) {s:PS} (hs:s.at_<L.length) (e:(ZP L s).2.err=0):szT (ZP L s).1+s.at_<=(ZP L s).2.at_:=by
 unfold ZP at e ⊢
 dsimp only at e ⊢
 have a:=ZD hE hs
 have l1:=a.lt hs
 by_cases h:isM L [58] (Za L s).2=true
 ·rw [if_pos h] at e ⊢
  have g:=ZU hE l1 h
  have b:=ZD hE (g.lt l1)
  have l3:=b.lt (g.lt l1)
  have k:=Zde hE (Zo 0) l3
  have l4:=k.lt l3
  have key:∀ (q:PS) (nn:List Int),Adv L (Zz L (Zo 0) (Za L (Zb (Za L s).2)).2).2 q->(Zn L [105,110] 2 (Zn L [116,111] 1 (Zn L [97,116] 0 q).2).2).2.err=0->szT (.mk 5 [(Za L s).1,(Za L (Zb (Za L s).2)).1] nn (Zj L s) ((Zn L [97,116] 0 q).1++(Zn L [116,111] 1 (Zn L [97,116] 0 q).2).1++(Zn L [105,110] 2 (Zn L [116,111] 1 (Zn L [97,116] 0 q).2).2).1))+s.at_<=(Zn L [105,110] 2 (Zn L [116,111] 1 (Zn L [97,116] 0 q).2).2).2.at_:=fun q nn hq e=>by
   have x:=ZbI hE [97,116] 0 (hq.lt l4)
   have y:=ZbI hE [116,111] 1 (x.lt (hq.lt l4))
   have zx:=Zdr hE [97,116] 0 (hq.lt l4)
   have zy:=Zdr hE [116,111] 1 (x.lt (hq.lt l4))
   have zz:=Zdr hE [105,110] 2 (y.lt (x.lt (hq.lt l4)))
   have z:=ZbI hE [105,110] 2 (y.lt (x.lt (hq.lt l4)))
   have:=a.on (g.toAdv.err (b.toAdv.err (k.toAdv.err (hq.err (x.err (y.err (z.err e)))))))
   have:=g.le
   have:=b.le
   have:=k.le
   have:=hq.le
   rw [Zao,ZbP,ZbP]
   omega
  by_cases h2:isM L [108,101,97,115,116] (Zz L (Zo 0) (Za L (Zb (Za L s).2)).2).2=true
  ·rw [if_pos h2] at e ⊢
   have e':=ZU hE l4 h2
   have n:=Zb8 hE 1 (e'.lt l4)
   have w:=ZA hE [47] (n.lt (e'.lt l4))
   have d:=Zb8 hE 1 (w.lt (n.lt (e'.lt l4)))
   exact key _ _ (e'.toAdv.trans (n.toAdv.trans (w.toAdv.trans d.toAdv))) e
  ·rw [if_neg h2] at e ⊢;exact key _ _ (Adv.refl _) e
 ·rw [if_neg h] at e ⊢
  have:=a.on e
  dsimp only
  rw [Zao,ZI]
  omega
theorem ZmU (hE:ZW L) {f:Nat} {ex st:PS->Tr×PS} (hp:Stm L f st) (hz:Zed L f st) {s:PS} (hs:Dp L (f+1) s) (h200:s.deep<=200) (e:(fnM L ex st s).2.err=0):szT (fnM L ex st s).1+s.at_<=(fnM L ex st s).2.at_:=by
 have D:=ZaV (L:=L) (f+1)
 have g:=ZA hE [102,110] hs.lt
 have d1:=D.next _ _ ⟨hs,h200⟩ g.toAdv
 have g2:=ZD hE d1.1.lt
 have d2:=D.next _ _ d1 g2.toAdv
 have g3:=ZA hE [40] d2.1.lt
 have d3:=D.next _ _ d2 g3.toAdv
 have g4:=ZbL hE D (fun s h=>(ZbN hE h.1.lt).toAdv) (L.length+1) true [] _ d3
 have d4:=D.next _ _ d3 g4
 have z5:=ZbK hE hp.adv hz d4.1 d4.2 e
 have e4:=(Za9 hE hp.adv d4.1 d4.2).toAdv.err e
 have z4:=ZdG hE D (fun s h=>(ZbN hE h.1.lt).toAdv) (fun s h e=>Zlg hE h.1.lt e) (L.length+1) true [] _ d3 e4
 have:=g.on (g2.toAdv.err (g3.toAdv.err (g4.err e4)))
 have:=g2.le
 have:=g3.le
 rw [ZI] at z4
 unfold fnM
 dsimp only
 rw [Zao,ZbP,ZaU]
 omega
theorem ZbQ (hE:ZW L) {f:Nat} {ex st:PS->Tr×PS} (hp:Stm L f st):∀ (g:Nat) (l:List Tr) (s:PS),Dp L (f+1) s/\s.deep<=200->Adv L s (Zae L ex st g l s).2
 | 0,_,s,_=>Adv.refl s
 | g+1,l,s,hs=>by
  have D:=ZaV (L:=L) (f+1)
  unfold Zae
  by_cases he:s.err=0/\(Zak L s).1≠3
  ·rw [if_pos he]
   by_cases h1:isM L [112,114,111,116,111] s=true
   ·rw [if_pos h1]
    have n:=(Zep hE hs.1.lt).toAdv
    exact n.trans (ZbQ hE hp g _ _ (D.next _ _ hs n))
   rw [if_neg h1]
   by_cases h2:isM L [102,110] s=true
   ·rw [if_pos h2]
    have n:=(ZfK hE (ex:=ex) hp hs.1 hs.2).toAdv
    exact n.trans (ZbQ hE hp g _ _ (D.next _ _ hs n))
   rw [if_neg h2]
   have n:=(ZcJ (L:=L) (e:=11) (by decide) s).toAdv
   exact n.trans (ZbQ hE hp g _ _ (D.next _ _ hs n))
  ·rw [if_neg he];exact Adv.refl s
theorem ZcH (hE:ZW L) {f:Nat} {ex st:PS->Tr×PS} (hp:Stm L f st) (hz:Zed L f st):∀ (g:Nat) (l:List Tr) (s:PS),Dp L (f+1) s/\s.deep<=200->(Zae L ex st g l s).2.err=0->ZI (Zae L ex st g l s).1+s.at_<=(Zae L ex st g l s).2.at_+ZI l
 | 0,l,s,_,_=>by rw [Zae];dsimp only;omega
 | g+1,l,s,hs,e=>by
  have D:=ZaV (L:=L) (f+1)
  unfold Zae at e ⊢
  by_cases he:s.err=0/\(Zak L s).1≠3
  ·rw [if_pos he] at e ⊢
   by_cases h1:isM L [112,114,111,116,111] s=true
   ·rw [if_pos h1] at e ⊢
    have n:=(Zep hE hs.1.lt).toAdv
    have hd:=D.next _ _ hs n
    have z:=ZcH hE hp hz g (l++[(ZbF L s).1]) _ hd e
    have z2:=Zln hE hs.1.lt ((ZbQ hE hp g (l++[(ZbF L s).1]) _ hd).err e)
    rw [ZbP,ZaU] at z
    dsimp only at z ⊢
    omega
   rw [if_neg h1] at e ⊢
   by_cases h2:isM L [102,110] s=true
   ·rw [if_pos h2] at e ⊢
    have n:=(ZfK hE (ex:=ex) hp hs.1 hs.2).toAdv
    have hd:=D.next _ _ hs n
    have z:=ZcH hE hp hz g (l++[(fnM L ex st s).1]) _ hd e
    have z2:=ZmU hE hp hz hs.1 hs.2 ((ZbQ hE hp g (l++[(fnM L ex st s).1]) _ hd).err e)
    rw [ZbP,ZaU] at z
    dsimp only at z ⊢
    omega
   rw [if_neg h2] at e ⊢
   have n:=(ZcJ (L:=L) (e:=11) (by decide) s).toAdv
   have z:=ZcH hE hp hz g l _ (D.next _ _ hs n) e
   have:=n.le
   omega
  ·rw [if_neg he];dsimp only;omega
end
end
end Go.Proofs.YtfdgeijnkkdplaaDoor
