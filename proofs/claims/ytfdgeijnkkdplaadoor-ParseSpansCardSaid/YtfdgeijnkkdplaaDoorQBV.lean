import Derived.Test.YtfdgeijnkkdplaaDoorQAZ
import Derived.Test.YtfdgeijnkkdplaaDoorQBF
set_option maxRecDepth 100000
set_option maxHeartbeats 8000000
namespace Go.Proofs.YtfdgeijnkkdplaaDoor
section
theorem ZbZ:∀ (a b:List Tr),ZQ (a++b)=ZQ a+ZQ b
 | [],b=>by rw [List.nil_append,ZQ];omega
 | t::r,b=>by rw [List.cons_append,ZQ,ZQ,ZbZ r b];omega
theorem Za1 (t:Tr):ZQ [t]=szT t:=by rw [ZQ,ZQ];rfl
theorem Zav (k:Int) (ws:List Txt) (us:List Int) (p:Int) (ks:List Tr):szT (.mk k ws us p ks)=ZQ ks+1:=by rw [szT]
theorem Zep (op:Int) (a b:Tr):szT (ZbO op a b)=szT a+szT b+1:=by unfold ZbO;rw [Zav,ZQ,ZQ,ZQ];omega
section
variable {L:List Tok}
abbrev SzM (D:PS->Prop) (M:PS->Tr×PS):Prop:=∀ s,D s->(M s).2.err=0->szT (M s).1+s.at_<=(M s).2.at_
theorem Zdt (hE:ZH L) {D:PS->Prop} (hD:Dom L D) {pc:PS->Tr×PS} (hp:Onw L D pc) (hz:SzM D pc) (x y:Txt) (i j:Int):∀ (f:Nat) (a:Tr) (s:PS),D s->(Zaj L pc x y i j f a s).2.err=0->szT (Zaj L pc x y i j f a s).1+s.at_<=(Zaj L pc x y i j f a s).2.at_+szT a
 | 0,a,s,_,_=>by rw [Zaj];dsimp only;omega
 | f+1,a,s,hs,e=>by
  unfold Zaj at e ⊢
  by_cases he:s.err=0
  ·rw [if_pos he] at e ⊢
   by_cases h:isM L x s=true
   ·rw [if_pos h] at e ⊢
    have g:=ZE hE (hD.lt _ hs) h
    have hd:=hD.next _ _ hs g.toAdv
    have n:=hp _ hd
    have hd2:=hD.next _ _ hd n.toAdv
    have c:=Za8 hE hD hp x y i j f (ZbO i a (pc (Zb s)).1) _ hd2
    have e2:=c.err e
    have h1:=Zdt hE hD hp hz x y i j f _ _ hd2 e
    have h2:=hz _ hd e2
    rw [Zep] at h1
    have:(Zb s).at_=s.at_+1:=rfl
    dsimp only at h1 ⊢
    omega
   ·rw [if_neg h] at e ⊢
    by_cases h':isM L y s=true
    ·rw [if_pos h'] at e ⊢
     have g:=ZE hE (hD.lt _ hs) h'
     have hd:=hD.next _ _ hs g.toAdv
     have n:=hp _ hd
     have hd2:=hD.next _ _ hd n.toAdv
     have c:=Za8 hE hD hp x y i j f (ZbO j a (pc (Zb s)).1) _ hd2
     have e2:=c.err e
     have h1:=Zdt hE hD hp hz x y i j f _ _ hd2 e
     have h2:=hz _ hd e2
     rw [Zep] at h1
     have:(Zb s).at_=s.at_+1:=rfl
     dsimp only at h1 ⊢
     omega
    ·rw [if_neg h'];dsimp only;omega
  ·rw [if_neg he];dsimp only;omega
theorem ZiS (hE:ZH L) {D:PS->Prop} (hD:Dom L D) {pc:PS->Tr×PS} (hp:Onw L D pc) (hz:SzM D pc):SzM D (Zat L pc):=fun s hs e=>by
 have hd:=hD.next _ _ hs (hp s hs).toAdv
 have h1:=Zdt hE hD hp hz [42] [47] 4 5 (L.length+1) (pc s).1 _ hd e
 have h2:=hz s hs ((Za8 hE hD hp [42] [47] 4 5 (L.length+1) (pc s).1 _ hd).err e)
 unfold Zat
 dsimp only
 omega
theorem ZmQ (hE:ZH L) {D:PS->Prop} (hD:Dom L D) {pc:PS->Tr×PS} (hp:Onw L D pc) (hz:SzM D pc):SzM D (Zau L pc):=fun s hs e=>by
 have hq:=Zcu hE hD hp
 have hw:=ZiS hE hD hp hz
 have hd:=hD.next _ _ hs (hq s hs).toAdv
 have h1:=Zdt hE hD hq hw [43] [45] 2 3 (L.length+1) (Zat L pc s).1 _ hd e
 have h2:=hw s hs ((Za8 hE hD hq [43] [45] 2 3 (L.length+1) (Zat L pc s).1 _ hd).err e)
 unfold Zau
 dsimp only
 omega
theorem ZhG (hE:ZH L) {D:PS->Prop} (hD:Dom L D) {pc:PS->Tr×PS} (hp:Onw L D pc) (hz:SzM D pc):SzM D (ZaH L pc):=fun s hs e=>by
 have hq:=Zeg hE hD hp
 have hw:=ZmQ hE hD hp hz
 have ha:=hD.next _ _ hs (hq s hs).toAdv
 unfold ZaH at e ⊢
 dsimp only at e ⊢
 by_cases h:isM L [60] (Zau L pc s).2=true
 ·rw [if_pos h] at e ⊢
  have g:=ZE hE (hD.lt _ ha) h
  have hd:=hD.next _ _ ha g.toAdv
  have h1:=hw _ hd e
  have h2:=hw s hs (g.toAdv.err ((hq _ hd).toAdv.err e))
  have:(Zb (Zau L pc s).2).at_=(Zau L pc s).2.at_+1:=rfl
  dsimp only
  rw [Zep]
  omega
 ·rw [if_neg h] at e ⊢
  by_cases h':isM L [61,61] (Zau L pc s).2=true
  ·rw [if_pos h'] at e ⊢
   have g:=ZE hE (hD.lt _ ha) h'
   have hd:=hD.next _ _ ha g.toAdv
   have h1:=hw _ hd e
   have h2:=hw s hs (g.toAdv.err ((hq _ hd).toAdv.err e))
   have:(Zb (Zau L pc s).2).at_=(Zau L pc s).2.at_+1:=rfl
   dsimp only
   rw [Zep]
   omega
  ·rw [if_neg h'] at e ⊢;exact hw s hs e
theorem Zij (s:PS):(inM L s).at_=s.at_:=(ZcX s).1
theorem ZmD {s:PS} (e:(inM L s).err=0):s.err=0:=by
 by_cases h:s.err=0
 ·exact h
 ·exact absurd e ((ZcX s).2.2 h)
theorem ZeJ (hE:ZH L):∀ (f:Nat),SzM (Dp L f) (ZD L f)
 | 0,s,hs,e=>by have:=hs.fuel e;omega
 | f+1,s,hs,e=>by
  unfold ZD at e ⊢
  by_cases he:s.err≠0
  ·rw [if_pos he] at e;exact absurd e he
  rw [if_neg he] at e ⊢
  have e0:s.err=0:=Classical.not_not.1 he
  by_cases h1:(Zao L s).1=1
  ·rw [if_pos h1] at e ⊢
   have:=(Zbt hE 0 hs.lt).on e
   dsimp only
   rw [Zav,ZQ]
   omega
  rw [if_neg h1] at e ⊢
  by_cases h2:ZaU L s=true
  ·rw [if_pos h2] at e ⊢
   have:=(Zr hE hs.lt).on e
   dsimp only
   rw [Zav,ZQ]
   omega
  rw [if_neg h2] at e ⊢
  by_cases h3:isM L [45] s=true
  ·rw [if_pos h3] at e ⊢
   have g:=ZE hE hs.lt h3
   have d:=(Zah (f+1)).next _ _ hs g.toAdv
   have i:=ZcM d (.inl e0)
   have h:=ZeJ hE f _ i e
   rw [Zij] at h
   have:(Zb s).at_=s.at_+1:=rfl
   dsimp only
   rw [Zav,Za1]
   show szT _+1+s.at_<=(ZD L f (inM L (Zb s))).2.at_
   omega
  rw [if_neg h3] at e ⊢
  have g:=Zm hE [40] hs.lt
  have d:=(Zah (f+1)).next _ _ hs g.toAdv
  have i:=ZcM d (.inr (by rw [g.deep];exact (hs.fuel e0).1))
  have x:=Zem hE (Zah f) (Zbh hE f) _ i
  have lt:(Zas (ZaH L (ZD L f) (inM L (Zd L [40] s))).2).at_<L.length:=x.lt i.lt
  have w:=Zm hE [41] lt
  have ex:(ZaH L (ZD L f) (inM L (Zd L [40] s))).2.err=0:=w.toAdv.err e
  have h:=ZhG hE (Zah f) (Zbh hE f) (ZeJ hE f) _ i ex
  rw [Zij] at h
  have:=g.le
  have h2:=w.le
  dsimp only at h2 ⊢
  have:(Zas (ZaH L (ZD L f) (inM L (Zd L [40] s))).2).at_=(ZaH L (ZD L f) (inM L (Zd L [40] s))).2.at_:=rfl
  omega
theorem ZdR (hE:ZH L) {D:PS->Prop} (hD:Dom L D) {ea:PS->Tr×PS} (hp:∀ s,D s->s.err=0->Adv L s (ea s).2) (hz:∀ s,D s->s.err=0->(ea s).2.err=0->szT (ea s).1+s.at_<=(ea s).2.at_) (x:Txt):∀ (f:Nat) (l:List Tr) (s:PS),D s->(ZC L ea x f l s).2.err=0->ZQ (ZC L ea x f l s).1+s.at_<=(ZC L ea x f l s).2.at_+ZQ l
 | 0,l,s,_,_=>by rw [ZC];dsimp only;omega
 | f+1,l,s,hs,e=>by
  unfold ZC at e ⊢
  by_cases he:s.err=0
  ·rw [if_pos he] at e ⊢
   by_cases h:isM L x s=true
   ·rw [if_pos h]
    have:(Zb s).at_=s.at_+1:=rfl
    dsimp only
    omega
   ·rw [if_neg h] at e ⊢
    have n:=hp s hs he
    have hd:=hD.next _ _ hs n
    have h1:=ZdR hE hD hp hz x f (l++[(ea s).1]) _ hd e
    have h2:=hz s hs he ((ZaP hE hD hp x f (l++[(ea s).1]) _ hd).err e)
    rw [ZbZ,Za1] at h1
    dsimp only at h1 ⊢
    omega
  ·rw [if_neg he];dsimp only;omega
theorem Zd1 (hE:ZH L) {D:PS->Prop} (hD:Dom L D) {ea:PS->Tr×PS} (hp:∀ s,D s->Adv L s (ea s).2) (hz:SzM D ea):∀ (f:Nat) (first:Bool) (l:List Tr) (s:PS),D s->(Zp L ea f first l s).2.err=0->ZQ (Zp L ea f first l s).1+s.at_<=(Zp L ea f first l s).2.at_+ZQ l
 | 0,_,l,s,_,_=>by rw [Zp];dsimp only;omega
 | f+1,first,l,s,hs,e=>by
  unfold Zp at e ⊢
  by_cases he:s.err=0
  ·rw [if_pos he] at e ⊢
   by_cases h:isM L [41] s=true
   ·rw [if_pos h]
    have:(Zb s).at_=s.at_+1:=rfl
    dsimp only
    omega
   ·rw [if_neg h] at e ⊢
    have w:Adv L s (if first then s else Zd L [44] s):=by
     cases first
     ·exact (Zm hE [44] (hD.lt _ hs)).toAdv
     ·exact Adv.refl s
    have dw:=hD.next _ _ hs w
    have n:=hp _ dw
    have hd:=hD.next _ _ dw n
    have h1:=Zd1 hE hD hp hz f false (l++[(ea (if first then s else Zd L [44] s)).1]) _ hd e
    have h2:=hz _ dw ((Zbi hE hD hp f false (l++[(ea (if first then s else Zd L [44] s)).1]) _ hd).err e)
    have h3:=w.le
    rw [ZbZ,Za1] at h1
    dsimp only at h1 ⊢
    omega
  ·rw [if_neg he];dsimp only;omega
theorem ZbW (hE:ZH L) {f:Nat} {st:PS->Tr×PS} (hp:∀ s,Dp L f s->s.err=0->Adv L s (st s).2) (hz:∀ s,Dp L f s->s.err=0->(st s).2.err=0->szT (st s).1+s.at_<=(st s).2.at_) {s:PS} (hs:Dp L (f+1) s) (h200:s.deep<=200) (e:(Zk L st s).2.err=0):szT (Zk L st s).1+s.at_<=(Zk L st s).2.at_:=by
 have g:=Zm hE [123] hs.lt
 have d:=(Zah (f+1)).next _ _ hs g.toAdv
 have i:=ZcM d (.inr (by rw [g.deep];exact h200))
 have eu:(ZC L st [125] (L.length+1) [] (inM L (Zd L [123] s))).2.err=0:=e
 have h:=ZdR hE (Zah f) hp hz [125] _ [] _ i eu
 have ew:=ZmD ((ZaP hE (Zah f) hp [125] (L.length+1) [] _ i).err eu)
 have:=g.on ew
 rw [Zij,ZQ] at h
 unfold Zk
 dsimp only
 rw [Zav]
 show ZQ _+1+s.at_<=(ZC L st [125] (L.length+1) [] (inM L (Zd L [123] s))).2.at_
 omega
end
end
section
section
variable {L:List Tok}
theorem Zmz (hE:ZH L) {D:PS->Prop} (hD:Dom L D) {ex:PS->Tr×PS} (hz:SzM D ex):SzM D (ZP L ex):=fun s hs e=>by
 unfold ZP at e ⊢
 by_cases h:isM L [38] s=true
 ·rw [if_pos h] at e ⊢
  have g:=ZE hE (hD.lt _ hs) h
  have n:=(Zr hE (g.lt (hD.lt _ hs))).on e
  have:(Zb s).at_=s.at_+1:=rfl
  dsimp only
  rw [Zav,ZQ]
  omega
 ·rw [if_neg h] at e ⊢;exact hz s hs e
theorem ZlX (hE:ZH L) {D:PS->Prop} (hD:Dom L D) {ex:PS->Tr×PS} (hx:Onw L D ex) (hz:SzM D ex) (p:Int):SzM D (ZaN L ex p):=fun s hs e=>by
 have a:=Zr hE (hD.lt _ hs)
 have l1:=a.lt (hD.lt _ hs)
 have key:∀ q:PS,Adv L (Za L s).2 q->(Zd L [59] (Zp L (ZP L ex) (L.length+1) true [] (Zd L [40] q)).2).err=0->ZQ (Zp L (ZP L ex) (L.length+1) true [] (Zd L [40] q)).1+1+s.at_<=(Zd L [59] (Zp L (ZP L ex) (L.length+1) true [] (Zd L [40] q)).2).at_:=fun q hq e=>by
  have w:=Zm hE [40] (hq.lt l1)
  have dq:=hD.next _ _ (hD.next _ _ (hD.next _ _ hs a.toAdv) hq) w.toAdv
  have c:=Zbi hE hD (fun s h=>(ZcW hE hD hx s h).toAdv) (L.length+1) true [] _ dq
  have v:=Zm hE [59] (c.lt (w.lt (hq.lt l1)))
  have ec:=v.toAdv.err e
  have h1:=Zd1 hE hD (fun s h=>(ZcW hE hD hx s h).toAdv) (Zmz hE hD hz) (L.length+1) true [] _ dq ec
  have h2:=a.on (hq.err (w.toAdv.err (c.err ec)))
  have h3:=hq.le
  have h4:=w.le
  have h5:=v.le
  rw [ZQ] at h1
  omega
 unfold ZaN at e ⊢
 dsimp only at e ⊢
 rw [Zav]
 by_cases h:isM L [61] (Za L s).2=true
 ·rw [if_pos h] at e ⊢
  have g:=ZE hE l1 h
  exact key _ (g.toAdv.trans (Zr hE (g.lt l1)).toAdv) e
 ·rw [if_neg h] at e ⊢
  exact key _ (Adv.refl _) e
abbrev ZeA (L:List Tok) (f:Nat) (st:PS->Tr×PS):Prop:=∀ s,Dp L f s->s.err=0->(st s).2.err=0->szT (st s).1+s.at_<=(st s).2.at_
theorem ZlZ (hE:ZH L) {f:Nat} {st:PS->Tr×PS} (hp:Stm L f st) (hz:ZeA L f st) {s:PS} (hs:Dp L (f+1) s) (h200:s.deep<=200) (e:(Zaw L st s).2.err=0):szT (Zaw L st s).1+s.at_<=(Zaw L st s).2.at_:=by
 have a:=Zr hE hs.lt
 have d:=(Zah (f+1)).next _ _ hs a.toAdv
 have h2:(Za L s).2.deep<=200:=by rw [a.deep];exact h200
 have b:=ZbW hE hp.adv hz d h2 e
 have:=a.on ((Zaz hE hp.adv d h2).toAdv.err e)
 unfold Zaw
 dsimp only
 rw [Zav,Za1]
 omega
theorem Zm9 (hE:ZH L) {f:Nat} {st:PS->Tr×PS} (hp:Stm L f st) (hz:ZeA L f st) (p:Int) {s:PS} (hs:Dp L (f+1) s) (h200:s.deep<=200) (e:(doM L st p s).2.err=0):szT (doM L st p s).1+s.at_<=(doM L st p s).2.at_:=by
 have D:=Zap (L:=L) (f+1)
 have a:=Zr hE hs.lt
 have d1:=D.next _ _ ⟨hs,h200⟩ a.toAdv
 have w:=Zm hE [46] d1.1.lt
 have d2:=D.next _ _ d1 w.toAdv
 have b:=Zr hE d2.1.lt
 have d3:=D.next _ _ d2 b.toAdv
 unfold doM at e ⊢
 dsimp only at e ⊢
 by_cases h:isM L [59] (Za L (Zd L [46] (Za L s).2)).2=true
 ·rw [if_pos h] at e ⊢
  have g:=ZE hE d3.1.lt h
  have:=a.on (w.toAdv.err (b.toAdv.err (g.toAdv.err e)))
  have:=w.le
  have:=b.le
  have:=g.le
  dsimp only
  rw [Zav,ZQ]
  omega
 ·rw [if_neg h] at e ⊢
  have v:=Zm hE [123] d3.1.lt
  have d4:=D.next _ _ d3 v.toAdv
  have c:=ZaP hE D (fun s h _=>(ZcS hE hp h.1 h.2).toAdv) [125] (L.length+1) [] _ d4
  have hu:=ZdR hE D (fun s h _=>(ZcS hE hp h.1 h.2).toAdv) (fun s h _ e=>ZlZ hE hp hz h.1 h.2 e) [125] (L.length+1) [] _ d4 e
  have:=a.on (w.toAdv.err (b.toAdv.err (v.toAdv.err (c.err e))))
  have:=w.le
  have:=b.le
  have:=v.le
  rw [ZQ] at hu
  dsimp only
  rw [Zav]
  omega
theorem Zl3 (hE:ZH L) {f:Nat} {ex st:PS->Tr×PS} (hx:Onw L (Dp L (f+1)) ex) (hxz:SzM (Dp L (f+1)) ex) (hp:Stm L f st) (hz:ZeA L f st) (p:Int) {s:PS} (hs:Dp L (f+1) s) (h200:s.deep<=200) (e:(Zbx L ex st p s).2.err=0):szT (Zbx L ex st p s).1+s.at_<=(Zbx L ex st p s).2.at_:=by
 have D:=Zap (L:=L) (f+1)
 have X:∀ q,Dp L (f+1) q/\q.deep<=200->Adv L q (ex q).2:=fun q h=>(hx q h.1).toAdv
 have B:∀ q,Dp L (f+1) q/\q.deep<=200->Adv L q (Zk L st q).2:=fun q h=>(Zaz hE hp.adv h.1 h.2).toAdv
 unfold Zbx at e ⊢
 by_cases h1:isM L [105,102] s=true
 ·rw [if_pos h1] at e ⊢
  have g:=ZE hE hs.lt h1
  have d1:=D.next _ _ ⟨hs,h200⟩ g.toAdv
  have d2:=D.next _ _ d1 (X _ d1)
  have d3:=D.next _ _ d2 (B _ d2)
  have a1:(Zb s).at_=s.at_+1:=rfl
  dsimp only at e ⊢
  by_cases h2:isM L [101,108,115,101] (Zk L st (ex (Zb s)).2).2=true
  ·rw [if_pos h2] at e ⊢
   have k:=ZE hE d3.1.lt h2
   have d4:=D.next _ _ d3 k.toAdv
   have e4:=(B _ d4).err e
   have e3:=k.toAdv.err e4
   have z4:=ZbW hE hp.adv hz d4.1 d4.2 e
   have z3:=ZbW hE hp.adv hz d2.1 d2.2 e3
   have z2:=hxz _ d1.1 ((B _ d2).err e3)
   have:=k.le
   dsimp only
   rw [Zav,ZQ,ZQ,Za1]
   omega
  ·rw [if_neg h2] at e ⊢
   have z3:=ZbW hE hp.adv hz d2.1 d2.2 e
   have z2:=hxz _ d1.1 ((B _ d2).err e)
   dsimp only
   rw [Zav,ZQ,Za1]
   omega
 rw [if_neg h1] at e ⊢
 by_cases h2:isM L [119,104,105,108,101] s=true
 ·rw [if_pos h2] at e ⊢
  have g:=ZE hE hs.lt h2
  have d1:=D.next _ _ ⟨hs,h200⟩ g.toAdv
  have d2:=D.next _ _ d1 (X _ d1)
  have a1:(Zb s).at_=s.at_+1:=rfl
  have z3:=ZbW hE hp.adv hz d2.1 d2.2 e
  have z2:=hxz _ d1.1 ((B _ d2).err e)
  dsimp only
  rw [Zav,ZQ,Za1]
  omega
 rw [if_neg h2] at e ⊢
 by_cases h3:isM L [114,101,116,117,114,110] s=true
 ·rw [if_pos h3] at e ⊢
  have g:=ZE hE hs.lt h3
  have d1:=D.next _ _ ⟨hs,h200⟩ g.toAdv
  have d2:=D.next _ _ d1 (X _ d1)
  have a1:(Zb s).at_=s.at_+1:=rfl
  have w:=Zm hE [59] d2.1.lt
  have z2:=hxz _ d1.1 (w.toAdv.err e)
  have:=w.le
  dsimp only
  rw [Zav,Za1]
  omega
 rw [if_neg h3] at e ⊢
 have w:=Zm hE [101,120,105,116] hs.lt
 have v:=Zm hE [59] (w.lt hs.lt)
 have:=v.on e
 have:=w.le
 dsimp only
 rw [Zav,ZQ]
 omega
theorem ZdF (hE:ZH L) (x:Txt) (i:Int) {s:PS} (hs:s.at_<L.length):ZQ (Zj L x i s).1+s.at_<=(Zj L x i s).2.at_:=by
 unfold Zj
 by_cases h:isM L x s=true
 ·rw [if_pos h]
  have g:=ZE hE hs h
  have n:=Zr hE (g.lt hs)
  have b:=Zdr hE L.length [(Za L (Zb s)).1] (n.lt (g.lt hs))
  have:=n.le
  have:=b.le
  have:(Zb s).at_=s.at_+1:=rfl
  dsimp only
  rw [Za1,Zav,ZQ]
  omega
 ·rw [if_neg h,ZQ];dsimp only;omega
theorem ZlL (hE:ZH L) {f:Nat} {st:PS->Tr×PS} (hp:Stm L f st) (hz:ZeA L f st) (p:Int) {s:PS} (hs:Dp L (f+1) s) (h200:s.deep<=200) (e:(ZaK L st p s).2.err=0):szT (ZaK L st p s).1+s.at_<=(ZaK L st p s).2.at_:=by
 have D:=Zap (L:=L) (f+1)
 unfold ZaK at e ⊢
 dsimp only at e ⊢
 have g:=Zr hE hs.lt
 have d1:=D.next _ _ ⟨hs,h200⟩ g.toAdv
 have g2:=Zm hE [61] d1.1.lt
 have d2:=D.next _ _ d1 g2.toAdv
 have g3:=Zr hE d2.1.lt
 have d3:=D.next _ _ d2 g3.toAdv
 have g4:=Zcy hE (Zq 1) d3.1.lt
 have d4:=D.next _ _ d3 g4.toAdv
 have g5:=Zbt hE 1 d4.1.lt
 have d5:=D.next _ _ d4 g5.toAdv
 have g6:=Zm hE [47] d5.1.lt
 have d6:=D.next _ _ d5 g6.toAdv
 have g7:=Zbt hE 1 d6.1.lt
 have d7:=D.next _ _ d6 g7.toAdv
 have g8:=Zba hE [105,110] 2 d7.1.lt
 have d8:=D.next _ _ d7 g8
 have z8:=ZdF hE [105,110] 2 d7.1.lt
 have z9:=ZbW hE hp.adv hz d8.1 d8.2 e
 have e8:=(Zaz hE hp.adv d8.1 d8.2).toAdv.err e
 have:=g.on (g2.toAdv.err (g3.toAdv.err (g4.toAdv.err (g5.toAdv.err (g6.toAdv.err (g7.toAdv.err (g8.err e8)))))))
 have:=g2.le
 have:=g3.le
 have:=g4.le
 have:=g5.le
 have:=g6.le
 have:=g7.le
 rw [Zav,ZbZ,Za1]
 omega
theorem ZhO (hE:ZH L) {ex:PS->Tr×PS} (hx:∀ f,Onw L (Dp L (f+1)) ex) (hxz:∀ f,SzM (Dp L (f+1)) ex):∀ f,ZeA L f (Zi L ex f)
 | 0,s,hs,e,_=>by have:=hs.fuel e;omega
 | f+1,s,hs,e0,e=>by
  have D:=Zap (L:=L) (f+1)
  have h200:=(hs.fuel e0).1
  have hp:=Zce hE hx f
  have hz:=ZhO hE hx hxz f
  have a1:(Zb s).at_=s.at_+1:=rfl
  have asg:∀ q:PS,Dp L (f+1) q/\q.deep<=200->∀ (k:Int) (w:Txt),(Zd L [59] (ex (Zd L [61] q)).2).err=0->szT (.mk k [w] [] (Zl L s) [(ex (Zd L [61] q)).1])+q.at_<=(Zd L [59] (ex (Zd L [61] q)).2).at_:=fun q hq k w e=>by
   have g3:=Zm hE [61] hq.1.lt
   have d3:=D.next _ _ hq g3.toAdv
   have g4:=hx f _ d3.1
   have d4:=D.next _ _ d3 g4.toAdv
   have g5:=Zm hE [59] d4.1.lt
   have e4:=g5.toAdv.err e
   have z:=hxz f _ d3.1 e4
   have:=g3.on (g4.toAdv.err e4)
   have:=g5.le
   rw [Zav,Za1]
   omega
  unfold Zi at e ⊢
  dsimp only at e ⊢
  by_cases h1:isM L [108,101,116] s=true
  ·rw [if_pos h1] at e ⊢
   have g:=ZE hE hs.lt h1
   have d1:=D.next _ _ ⟨hs,h200⟩ g.toAdv
   have g2:=Zr hE d1.1.lt
   have:=asg _ (D.next _ _ d1 g2.toAdv) 8 (Za L (Zb s)).1 e
   have:=g2.le
   dsimp only
   omega
  rw [if_neg h1] at e ⊢
  by_cases h2:ZaU L s=true
  ·rw [if_pos h2] at e ⊢
   have g2:=Zr hE hs.lt
   have:=asg _ (D.next _ _ ⟨hs,h200⟩ g2.toAdv) 9 (Za L s).1 e
   have:=g2.le
   dsimp only
   omega
  rw [if_neg h2] at e ⊢
  by_cases h3:isM L [111,112,101,110] s=true
  ·rw [if_pos h3] at e ⊢
   have g:=ZE hE hs.lt h3
   have d1:=D.next _ _ ⟨hs,h200⟩ g.toAdv
   have g2:=Zr hE d1.1.lt
   have d2:=D.next _ _ d1 g2.toAdv
   have g3:=Zr hE d2.1.lt
   have d3:=D.next _ _ d2 g3.toAdv
   have g4:=Zaz hE hp.adv d3.1 d3.2
   have d4:=D.next _ _ d3 g4.toAdv
   have g5:=Zm hE [101,108,115,101] d4.1.lt
   have d5:=D.next _ _ d4 g5.toAdv
   have z5:=ZbW hE hp.adv hz d5.1 d5.2 e
   have z3:=ZbW hE hp.adv hz d3.1 d3.2 (g5.toAdv.err ((Zaz hE hp.adv d5.1 d5.2).toAdv.err e))
   have:=g2.le
   have:=g3.le
   have:=g5.le
   dsimp only
   rw [Zav,ZQ,Za1]
   omega
  rw [if_neg h3] at e ⊢
  by_cases h4:isM L [100,111] s=true
  ·rw [if_pos h4] at e ⊢
   have d1:=D.next _ _ ⟨hs,h200⟩ (ZE hE hs.lt h4).toAdv
   have:=Zm9 hE hp hz (Zl L s) d1.1 d1.2 e
   omega
  rw [if_neg h4] at e ⊢
  by_cases h5:isM L [115,112,108,105,116] s=true
  ·rw [if_pos h5] at e ⊢
   have d1:=D.next _ _ ⟨hs,h200⟩ (ZE hE hs.lt h5).toAdv
   have:=ZlL hE hp hz (Zl L s) d1.1 d1.2 e
   omega
  rw [if_neg h5] at e ⊢
  by_cases h6:isM L [99,97,108,108] s=true
  ·rw [if_pos h6] at e ⊢
   have d1:=D.next _ _ ⟨hs,h200⟩ (ZE hE hs.lt h6).toAdv
   have:=ZlX hE (Zah _) (hx f) (hxz f) (Zl L s) _ d1.1 e
   omega
  rw [if_neg h6] at e ⊢
  exact Zl3 hE (hx f) (hxz f) hp hz _ hs h200 e
theorem Zmi (hE:ZH L) {s:PS} (hs:s.at_<L.length) (e:(Zai L s).2.err=0):szT (Zai L s).1+s.at_<=(Zai L s).2.at_:=by
 have:=(part_go hE hs).on e
 have h1:szT (Zai L s).1=1:=by
  unfold Zai
  dsimp only
  by_cases h1:isM L [115,116,97,116,101] s=true
  ·rw [if_pos h1,Zav,ZQ]
  rw [if_neg h1]
  by_cases h2:isM L [102,105,110,97,108] s=true
  ·rw [if_pos h2,Zav,ZQ]
  rw [if_neg h2,Zav,ZQ]
 omega
theorem Zlw (hE:ZH L) {s:PS} (hs:s.at_<L.length) (e:(Za5 L s).2.err=0):szT (Za5 L s).1+s.at_<=(Za5 L s).2.at_:=by
 have D:Dom L (fun s=>s.at_<L.length):=⟨fun a b h k=>k.lt h,fun a h=>h⟩
 have g:=Zm hE [112,114,111,116,111] hs
 have a:=Zr hE (g.lt hs)
 have w:=Zm hE [123] (a.lt (g.lt hs))
 have lw:=w.lt (a.lt (g.lt hs))
 have u:=ZaP hE D (fun s h _=>(part_go hE h).toAdv) [125] (L.length+1) [] _ lw
 have z:=ZdR hE D (fun s h _=>(part_go hE h).toAdv) (fun s h _ e=>Zmi hE h e) [125] (L.length+1) [] _ lw e
 have:=g.on (a.toAdv.err (w.toAdv.err (u.err e)))
 have:=a.le
 have:=w.le
 rw [ZQ] at z
 unfold Za5
 dsimp only
 rw [Zav]
 omega
theorem Zlo (hE:ZH L) {s:PS} (hs:s.at_<L.length) (e:(ZN L s).2.err=0):szT (ZN L s).1+s.at_<=(ZN L s).2.at_:=by
 unfold ZN at e ⊢
 dsimp only at e ⊢
 have a:=Zr hE hs
 have l1:=a.lt hs
 by_cases h:isM L [58] (Za L s).2=true
 ·rw [if_pos h] at e ⊢
  have g:=ZE hE l1 h
  have b:=Zr hE (g.lt l1)
  have l3:=b.lt (g.lt l1)
  have k:=Zcy hE (Zq 0) l3
  have l4:=k.lt l3
  have key:∀ (q:PS) (nn:List Int),Adv L (ZA L (Zq 0) (Za L (Zb (Za L s).2)).2).2 q->(Zj L [105,110] 2 (Zj L [116,111] 1 (Zj L [97,116] 0 q).2).2).2.err=0->szT (.mk 5 [(Za L s).1,(Za L (Zb (Za L s).2)).1] nn (Zl L s) ((Zj L [97,116] 0 q).1++(Zj L [116,111] 1 (Zj L [97,116] 0 q).2).1++(Zj L [105,110] 2 (Zj L [116,111] 1 (Zj L [97,116] 0 q).2).2).1))+s.at_<=(Zj L [105,110] 2 (Zj L [116,111] 1 (Zj L [97,116] 0 q).2).2).2.at_:=fun q nn hq e=>by
   have x:=Zba hE [97,116] 0 (hq.lt l4)
   have y:=Zba hE [116,111] 1 (x.lt (hq.lt l4))
   have zx:=ZdF hE [97,116] 0 (hq.lt l4)
   have zy:=ZdF hE [116,111] 1 (x.lt (hq.lt l4))
   have zz:=ZdF hE [105,110] 2 (y.lt (x.lt (hq.lt l4)))
   have z:=Zba hE [105,110] 2 (y.lt (x.lt (hq.lt l4)))
   have:=a.on (g.toAdv.err (b.toAdv.err (k.toAdv.err (hq.err (x.err (y.err (z.err e)))))))
   have:=g.le
   have:=b.le
   have:=k.le
   have:=hq.le
   rw [Zav,ZbZ,ZbZ]
   omega
  by_cases h2:isM L [108,101,97,115,116] (ZA L (Zq 0) (Za L (Zb (Za L s).2)).2).2=true
  ·rw [if_pos h2] at e ⊢
   have e':=ZE hE l4 h2
   have n:=Zbt hE 1 (e'.lt l4)
   have w:=Zm hE [47] (n.lt (e'.lt l4))
   have d:=Zbt hE 1 (w.lt (n.lt (e'.lt l4)))
   exact key _ _ (e'.toAdv.trans (n.toAdv.trans (w.toAdv.trans d.toAdv))) e
  ·rw [if_neg h2] at e ⊢;exact key _ _ (Adv.refl _) e
 ·rw [if_neg h] at e ⊢
  have:=a.on e
  dsimp only
  rw [Zav,ZQ]
  omega
theorem Znc (hE:ZH L) {f:Nat} {ex st:PS->Tr×PS} (hp:Stm L f st) (hz:ZeA L f st) {s:PS} (hs:Dp L (f+1) s) (h200:s.deep<=200) (e:(fnM L ex st s).2.err=0):szT (fnM L ex st s).1+s.at_<=(fnM L ex st s).2.at_:=by
 have D:=Zap (L:=L) (f+1)
 have g:=Zm hE [102,110] hs.lt
 have d1:=D.next _ _ ⟨hs,h200⟩ g.toAdv
 have g2:=Zr hE d1.1.lt
 have d2:=D.next _ _ d1 g2.toAdv
 have g3:=Zm hE [40] d2.1.lt
 have d3:=D.next _ _ d2 g3.toAdv
 have g4:=Zbi hE D (fun s h=>(Zbu hE h.1.lt).toAdv) (L.length+1) true [] _ d3
 have d4:=D.next _ _ d3 g4
 have z5:=ZbW hE hp.adv hz d4.1 d4.2 e
 have e4:=(Zaz hE hp.adv d4.1 d4.2).toAdv.err e
 have z4:=Zd1 hE D (fun s h=>(Zbu hE h.1.lt).toAdv) (fun s h e=>Zlo hE h.1.lt e) (L.length+1) true [] _ d3 e4
 have:=g.on (g2.toAdv.err (g3.toAdv.err (g4.err e4)))
 have:=g2.le
 have:=g3.le
 rw [ZQ] at z4
 unfold fnM
 dsimp only
 rw [Zav,ZbZ,Za1]
 omega
theorem Zbk (hE:ZH L) {f:Nat} {ex st:PS->Tr×PS} (hp:Stm L f st):∀ (g:Nat) (l:List Tr) (s:PS),Dp L (f+1) s/\s.deep<=200->Adv L s (Zab L ex st g l s).2
 | 0,_,s,_=>Adv.refl s
 | g+1,l,s,hs=>by
  have D:=Zap (L:=L) (f+1)
  unfold Zab
  by_cases he:s.err=0/\(Zao L s).1≠3
  ·rw [if_pos he]
   by_cases h1:isM L [112,114,111,116,111] s=true
   ·rw [if_pos h1]
    have n:=(ZdK hE hs.1.lt).toAdv
    exact n.trans (Zbk hE hp g _ _ (D.next _ _ hs n))
   rw [if_neg h1]
   by_cases h2:isM L [102,110] s=true
   ·rw [if_pos h2]
    have n:=(ZeV hE (ex:=ex) hp hs.1 hs.2).toAdv
    exact n.trans (Zbk hE hp g _ _ (D.next _ _ hs n))
   rw [if_neg h2]
   have n:=(Zcx (L:=L) (e:=11) (by decide) s).toAdv
   exact n.trans (Zbk hE hp g _ _ (D.next _ _ hs n))
  ·rw [if_neg he];exact Adv.refl s
theorem ZcQ (hE:ZH L) {f:Nat} {ex st:PS->Tr×PS} (hp:Stm L f st) (hz:ZeA L f st):∀ (g:Nat) (l:List Tr) (s:PS),Dp L (f+1) s/\s.deep<=200->(Zab L ex st g l s).2.err=0->ZQ (Zab L ex st g l s).1+s.at_<=(Zab L ex st g l s).2.at_+ZQ l
 | 0,l,s,_,_=>by rw [Zab];dsimp only;omega
 | g+1,l,s,hs,e=>by
  have D:=Zap (L:=L) (f+1)
  unfold Zab at e ⊢
  by_cases he:s.err=0/\(Zao L s).1≠3
  ·rw [if_pos he] at e ⊢
   by_cases h1:isM L [112,114,111,116,111] s=true
   ·rw [if_pos h1] at e ⊢
    have n:=(ZdK hE hs.1.lt).toAdv
    have hd:=D.next _ _ hs n
    have z:=ZcQ hE hp hz g (l++[(Za5 L s).1]) _ hd e
    have z2:=Zlw hE hs.1.lt ((Zbk hE hp g (l++[(Za5 L s).1]) _ hd).err e)
    rw [ZbZ,Za1] at z
    dsimp only at z ⊢
    omega
   rw [if_neg h1] at e ⊢
   by_cases h2:isM L [102,110] s=true
   ·rw [if_pos h2] at e ⊢
    have n:=(ZeV hE (ex:=ex) hp hs.1 hs.2).toAdv
    have hd:=D.next _ _ hs n
    have z:=ZcQ hE hp hz g (l++[(fnM L ex st s).1]) _ hd e
    have z2:=Znc hE hp hz hs.1 hs.2 ((Zbk hE hp g (l++[(fnM L ex st s).1]) _ hd).err e)
    rw [ZbZ,Za1] at z
    dsimp only at z ⊢
    omega
   rw [if_neg h2] at e ⊢
   have n:=(Zcx (L:=L) (e:=11) (by decide) s).toAdv
   have z:=ZcQ hE hp hz g l _ (D.next _ _ hs n) e
   have:=n.le
   omega
  ·rw [if_neg he];dsimp only;omega
end
end
end Go.Proofs.YtfdgeijnkkdplaaDoor
