import Derived.Test.YtfdgeijnkkdplaaDoorQAZ
import Derived.Test.YtfdgeijnkkdplaaDoorQBV
set_option maxRecDepth 100000
set_option maxHeartbeats 8000000
namespace Go.Proofs.YtfdgeijnkkdplaaDoor
section
def plM (L:List Tok) (k:Nat):Int:=(Zx L k).2.2
mutual
def SpT (L:List Tok):Tr->Nat->Nat->Prop
 | .mk _ _ _ p ks,i,k=>∃ j,i<=j/\j<k/\p=plM L j/\ZaS L ks j k
def ZaS (L:List Tok):List Tr->Nat->Nat->Prop
 | [],i,k=>i<=k
 | t::r,i,k=>∃ m,SpT L t i m/\ZaS L r m k
end
section
variable {L:List Tok}
theorem ZaM {i k:Nat} (h:i<=k):ZaS L [] i k:=by unfold ZaS;exact h
theorem ZbU {i m k:Nat} {t:Tr} {r:List Tr} (h:SpT L t i m) (hr:ZaS L r m k):ZaS L (t::r) i k:=by unfold ZaS;exact ⟨m,h,hr⟩
theorem Zay {j k:Nat} {kd:Int} {ws:List Txt} {us:List Int} {p:Int} {ks:List Tr} (hp:p=plM L j) (hlt:j<k) (hk:ZaS L ks j k):SpT L (.mk kd ws us p ks) j k:=by
 unfold SpT
 exact ⟨j,Nat.le_refl _,hlt,hp,hk⟩
mutual
theorem Zbf {i k i' k':Nat}:∀ {t:Tr},SpT L t i k->i'<=i->k<=k'->SpT L t i' k'
 | .mk _ _ _ _ ks,h,hi,hk=>by
  unfold SpT at h ⊢
  obtain ⟨j,h1,h2,h3,h4⟩:=h
  exact ⟨j,by omega,by omega,h3,Zb0 h4 (Nat.le_refl _) hk⟩
theorem Zb0 {i k i' k':Nat}:∀ {l:List Tr},ZaS L l i k->i'<=i->k<=k'->ZaS L l i' k'
 | [],h,hi,hk=>by
  unfold ZaS at h ⊢
  omega
 | t::r,h,hi,hk=>by
  unfold ZaS at h ⊢
  obtain ⟨m,h1,h2⟩:=h
  exact ⟨m,Zbf h1 hi (Nat.le_refl _),Zb0 h2 (Nat.le_refl _) hk⟩
end
theorem Zbl {i k:Nat} {t:Tr} (h:SpT L t i k):i<k:=by
 obtain ⟨kd,ws,us,p,ks⟩:=t
 unfold SpT at h
 obtain ⟨j,h1,h2,_⟩:=h
 omega
theorem ZcT {i k:Nat}:∀ {l:List Tr},ZaS L l i k->i<=k
 | [],h=>by unfold ZaS at h;exact h
 | t::r,h=>by
  unfold ZaS at h
  obtain ⟨m,h1,h2⟩:=h
  have:=Zbl h1
  have:=ZcT h2
  omega
theorem ZdO {m k:Nat} {r:List Tr} (hr:ZaS L r m k):∀ {l:List Tr} {i:Nat},ZaS L l i m->ZaS L (l++r) i k
 | [],i,h=>by
  unfold ZaS at h
  exact Zb0 hr h (Nat.le_refl _)
 | t::q,i,h=>by
  unfold ZaS at h
  obtain ⟨n,h1,h2⟩:=h
  exact ZbU h1 (ZdO hr h2)
theorem Zbw {i k:Nat} {t:Tr} (h:SpT L t i k):ZaS L [t] i k:=ZbU h (ZaM (Nat.le_refl _))
theorem Zco {i m k:Nat} {l:List Tr} {t:Tr} (h:ZaS L l i m) (ht:SpT L t m k):ZaS L (l++[t]) i k:=ZdO (Zbw ht) h
theorem Zeo {i m k:Nat} {op:Int} {a b:Tr} (ha:SpT L a i m) (hb:SpT L b m k):SpT L (ZbO op a b) i k:=by
 obtain ⟨kd,ws,us,p,ks⟩:=a
 have h:=ha
 unfold SpT at h
 obtain ⟨j,h1,h2,h3,h4⟩:=h
 have hlt:=Zbl hb
 exact Zbf (Zay (k:=k) h3 (by omega) (ZbU (Zay h3 h2 h4) (Zbw hb))) h1 (Nat.le_refl _)
theorem Za4 {s:PS} (he:s.err=0):Zl L s=plM L s.at_:=by
 unfold Zl Zao plM
 rw [if_neg (by simp [he])]
abbrev SpM (L:List Tok) (D:PS->Prop) (M:PS->Tr×PS):Prop:=∀ s,D s->(M s).2.err=0->SpT L (M s).1 s.at_ (M s).2.at_
theorem Zds (hE:ZH L) {D:PS->Prop} (hD:Dom L D) {pc:PS->Tr×PS} (hp:Onw L D pc) (hz:SpM L D pc) (x y:Txt) (i j:Int):∀ (f:Nat) (a:Tr) (s:PS) (b:Nat),D s->SpT L a b s.at_->(Zaj L pc x y i j f a s).2.err=0->SpT L (Zaj L pc x y i j f a s).1 b (Zaj L pc x y i j f a s).2.at_
 | 0,a,s,b,_,ha,_=>by rw [Zaj];exact ha
 | f+1,a,s,b,hs,ha,e=>by
  unfold Zaj at e ⊢
  by_cases he:s.err=0
  ·rw [if_pos he] at e ⊢
   have a1:(Zb s).at_=s.at_+1:=rfl
   by_cases h:isM L x s=true
   ·rw [if_pos h] at e ⊢
    have g:=ZE hE (hD.lt _ hs) h
    have hd:=hD.next _ _ hs g.toAdv
    have hd2:=hD.next _ _ hd (hp _ hd).toAdv
    have e2:=(Za8 hE hD hp x y i j f (ZbO i a (pc (Zb s)).1) _ hd2).err e
    exact Zds hE hD hp hz x y i j f _ _ b hd2 (Zeo ha (Zbf (hz _ hd e2) (by omega) (Nat.le_refl _))) e
   ·rw [if_neg h] at e ⊢
    by_cases h':isM L y s=true
    ·rw [if_pos h'] at e ⊢
     have g:=ZE hE (hD.lt _ hs) h'
     have hd:=hD.next _ _ hs g.toAdv
     have hd2:=hD.next _ _ hd (hp _ hd).toAdv
     have e2:=(Za8 hE hD hp x y i j f (ZbO j a (pc (Zb s)).1) _ hd2).err e
     exact Zds hE hD hp hz x y i j f _ _ b hd2 (Zeo ha (Zbf (hz _ hd e2) (by omega) (Nat.le_refl _))) e
    ·rw [if_neg h'];exact ha
  ·rw [if_neg he];exact ha
theorem ZiR (hE:ZH L) {D:PS->Prop} (hD:Dom L D) {pc:PS->Tr×PS} (hp:Onw L D pc) (hz:SpM L D pc):SpM L D (Zat L pc):=fun s hs e=>by
 have hd:=hD.next _ _ hs (hp s hs).toAdv
 exact Zds hE hD hp hz [42] [47] 4 5 (L.length+1) (pc s).1 _ _ hd (hz s hs ((Za8 hE hD hp [42] [47] 4 5 (L.length+1) (pc s).1 _ hd).err e)) e
theorem ZmP (hE:ZH L) {D:PS->Prop} (hD:Dom L D) {pc:PS->Tr×PS} (hp:Onw L D pc) (hz:SpM L D pc):SpM L D (Zau L pc):=fun s hs e=>by
 have hq:=Zcu hE hD hp
 have hw:=ZiR hE hD hp hz
 have hd:=hD.next _ _ hs (hq s hs).toAdv
 exact Zds hE hD hq hw [43] [45] 2 3 (L.length+1) (Zat L pc s).1 _ _ hd (hw s hs ((Za8 hE hD hq [43] [45] 2 3 (L.length+1) (Zat L pc s).1 _ hd).err e)) e
theorem ZhF (hE:ZH L) {D:PS->Prop} (hD:Dom L D) {pc:PS->Tr×PS} (hp:Onw L D pc) (hz:SpM L D pc):SpM L D (ZaH L pc):=fun s hs e=>by
 have hq:=Zeg hE hD hp
 have hw:=ZmP hE hD hp hz
 have ha:=hD.next _ _ hs (hq s hs).toAdv
 have a1:(Zb (Zau L pc s).2).at_=(Zau L pc s).2.at_+1:=rfl
 unfold ZaH at e ⊢
 dsimp only at e ⊢
 by_cases h:isM L [60] (Zau L pc s).2=true
 ·rw [if_pos h] at e ⊢
  have g:=ZE hE (hD.lt _ ha) h
  have hd:=hD.next _ _ ha g.toAdv
  exact Zeo (hw s hs (g.toAdv.err ((hq _ hd).toAdv.err e))) (Zbf (hw _ hd e) (by omega) (Nat.le_refl _))
 ·rw [if_neg h] at e ⊢
  by_cases h':isM L [61,61] (Zau L pc s).2=true
  ·rw [if_pos h'] at e ⊢
   have g:=ZE hE (hD.lt _ ha) h'
   have hd:=hD.next _ _ ha g.toAdv
   exact Zeo (hw s hs (g.toAdv.err ((hq _ hd).toAdv.err e))) (Zbf (hw _ hd e) (by omega) (Nat.le_refl _))
  ·rw [if_neg h'] at e ⊢;exact hw s hs e
theorem ZeX (s:PS):(inM L s).at_=s.at_:=(ZcX s).1
theorem Zl4 {s:PS} (e:(inM L s).err=0):s.err=0:=by
 by_cases h:s.err=0
 ·exact h
 ·exact absurd e ((ZcX s).2.2 h)
theorem ZeI (hE:ZH L):∀ (f:Nat),SpM L (Dp L f) (ZD L f)
 | 0,s,hs,e=>by have:=hs.fuel e;omega
 | f+1,s,hs,e=>by
  unfold ZD at e ⊢
  by_cases he:s.err≠0
  ·rw [if_pos he] at e;exact absurd e he
  rw [if_neg he] at e ⊢
  have e0:s.err=0:=Classical.not_not.1 he
  by_cases h1:(Zao L s).1=1
  ·rw [if_pos h1] at e ⊢
   have:=(Zbt hE 0 hs.lt).on e
   exact Zay (Za4 e0) this (ZaM (Nat.le_of_lt this))
  rw [if_neg h1] at e ⊢
  by_cases h2:ZaU L s=true
  ·rw [if_pos h2] at e ⊢
   have:=(Zr hE hs.lt).on e
   exact Zay (Za4 e0) this (ZaM (Nat.le_of_lt this))
  rw [if_neg h2] at e ⊢
  by_cases h3:isM L [45] s=true
  ·rw [if_pos h3] at e ⊢
   have g:=ZE hE hs.lt h3
   have d:=(Zah (f+1)).next _ _ hs g.toAdv
   have i:=ZcM d (.inl e0)
   have h:=ZeI hE f _ i e
   rw [ZeX] at h
   have a1:(Zb s).at_=s.at_+1:=rfl
   have lt:=Zbl h
   show SpT L _ s.at_ (ZD L f (inM L (Zb s))).2.at_
   exact Zay (Za4 e0) (by omega) (Zbw (Zbf h (by omega) (Nat.le_refl _)))
  rw [if_neg h3] at e ⊢
  have g:=Zm hE [40] hs.lt
  have d:=(Zah (f+1)).next _ _ hs g.toAdv
  have i:=ZcM d (.inr (by rw [g.deep];exact (hs.fuel e0).1))
  have x:=Zem hE (Zah f) (Zbh hE f) _ i
  have lt:(Zas (ZaH L (ZD L f) (inM L (Zd L [40] s))).2).at_<L.length:=x.lt i.lt
  have w:=Zm hE [41] lt
  have ex:(ZaH L (ZD L f) (inM L (Zd L [40] s))).2.err=0:=w.toAdv.err e
  have h:=ZhF hE (Zah f) (Zbh hE f) (ZeI hE f) _ i ex
  rw [ZeX] at h
  have:=g.le
  have h2:=w.le
  have:(Zas (ZaH L (ZD L f) (inM L (Zd L [40] s))).2).at_=(ZaH L (ZD L f) (inM L (Zd L [40] s))).2.at_:=rfl
  exact Zbf h (by omega) (by dsimp only at h2 ⊢;omega)
theorem ZdQ (hE:ZH L) {D:PS->Prop} (hD:Dom L D) {ea:PS->Tr×PS} (hp:∀ s,D s->s.err=0->Adv L s (ea s).2) (hz:∀ s,D s->s.err=0->(ea s).2.err=0->SpT L (ea s).1 s.at_ (ea s).2.at_) (x:Txt):∀ (f:Nat) (l:List Tr) (s:PS) (b:Nat),D s->ZaS L l b s.at_->(ZC L ea x f l s).2.err=0->ZaS L (ZC L ea x f l s).1 b (ZC L ea x f l s).2.at_
 | 0,l,s,b,_,hl,_=>by rw [ZC];exact hl
 | f+1,l,s,b,hs,hl,e=>by
  unfold ZC at e ⊢
  by_cases he:s.err=0
  ·rw [if_pos he] at e ⊢
   by_cases h:isM L x s=true
   ·rw [if_pos h]
    have a1:(Zb s).at_=s.at_+1:=rfl
    exact Zb0 hl (Nat.le_refl _) (by dsimp only;omega)
   ·rw [if_neg h] at e ⊢
    have hd:=hD.next _ _ hs (hp s hs he)
    exact ZdQ hE hD hp hz x f (l++[(ea s).1]) _ b hd (Zco hl (hz s hs he ((ZaP hE hD hp x f (l++[(ea s).1]) _ hd).err e))) e
  ·rw [if_neg he];exact hl
theorem Zd0 (hE:ZH L) {D:PS->Prop} (hD:Dom L D) {ea:PS->Tr×PS} (hp:∀ s,D s->Adv L s (ea s).2) (hz:SpM L D ea):∀ (f:Nat) (first:Bool) (l:List Tr) (s:PS) (b:Nat),D s->ZaS L l b s.at_->(Zp L ea f first l s).2.err=0->ZaS L (Zp L ea f first l s).1 b (Zp L ea f first l s).2.at_
 | 0,_,l,s,b,_,hl,_=>by rw [Zp];exact hl
 | f+1,first,l,s,b,hs,hl,e=>by
  unfold Zp at e ⊢
  by_cases he:s.err=0
  ·rw [if_pos he] at e ⊢
   by_cases h:isM L [41] s=true
   ·rw [if_pos h]
    have a1:(Zb s).at_=s.at_+1:=rfl
    exact Zb0 hl (Nat.le_refl _) (by dsimp only;omega)
   ·rw [if_neg h] at e ⊢
    have w:Adv L s (if first then s else Zd L [44] s):=by
     cases first
     ·exact (Zm hE [44] (hD.lt _ hs)).toAdv
     ·exact Adv.refl s
    have dw:=hD.next _ _ hs w
    have hd:=hD.next _ _ dw (hp _ dw)
    exact Zd0 hE hD hp hz f false (l++[(ea (if first then s else Zd L [44] s)).1]) _ b hd (Zco hl (Zbf (hz _ dw ((Zbi hE hD hp f false (l++[(ea (if first then s else Zd L [44] s)).1]) _ hd).err e)) w.le (Nat.le_refl _))) e
  ·rw [if_neg he];exact hl
theorem ZbV (hE:ZH L) {f:Nat} {st:PS->Tr×PS} (hp:∀ s,Dp L f s->s.err=0->Adv L s (st s).2) (hz:∀ s,Dp L f s->s.err=0->(st s).2.err=0->SpT L (st s).1 s.at_ (st s).2.at_) {s:PS} (hs:Dp L (f+1) s) (h200:s.deep<=200) (e:(Zk L st s).2.err=0):SpT L (Zk L st s).1 s.at_ (Zk L st s).2.at_:=by
 have g:=Zm hE [123] hs.lt
 have d:=(Zah (f+1)).next _ _ hs g.toAdv
 have i:=ZcM d (.inr (by rw [g.deep];exact h200))
 have eu:(ZC L st [125] (L.length+1) [] (inM L (Zd L [123] s))).2.err=0:=e
 have ew:=Zl4 ((ZaP hE (Zah f) hp [125] (L.length+1) [] _ i).err eu)
 have on:=g.on ew
 have h:=ZdQ hE (Zah f) hp hz [125] _ [] _ s.at_ i (ZaM (by rw [ZeX];omega)) eu
 have u:=(ZaP hE (Zah f) hp [125] (L.length+1) [] _ i).le
 rw [ZeX] at u
 unfold Zk
 show SpT L _ s.at_ (ZC L st [125] (L.length+1) [] (inM L (Zd L [123] s))).2.at_
 exact Zay (Za4 (g.toAdv.err ew)) (by omega) h
end
end
section
section
variable {L:List Tok}
theorem ZhI {x:Txt} {s:PS} (h:isM L x s=true):s.err=0:=(Zfd h).1
theorem Zmy (hE:ZH L) {D:PS->Prop} (hD:Dom L D) {ex:PS->Tr×PS} (hz:SpM L D ex):SpM L D (ZP L ex):=fun s hs e=>by
 unfold ZP at e ⊢
 by_cases h:isM L [38] s=true
 ·rw [if_pos h] at e ⊢
  have g:=ZE hE (hD.lt _ hs) h
  have n:=(Zr hE (g.lt (hD.lt _ hs))).on e
  have a1:(Zb s).at_=s.at_+1:=rfl
  exact Zay (Za4 (ZhI h)) (by dsimp only;omega) (ZaM (by dsimp only;omega))
 ·rw [if_neg h] at e ⊢;exact hz s hs e
theorem ZlW (hE:ZH L) {D:PS->Prop} (hD:Dom L D) {ex:PS->Tr×PS} (hx:Onw L D ex) (hz:SpM L D ex) (p:Int) (b:Nat) (hpb:p=plM L b) (s:PS) (hb:b<=s.at_) (hs:D s) (e:(ZaN L ex p s).2.err=0):SpT L (ZaN L ex p s).1 b (ZaN L ex p s).2.at_:=by
 have a:=Zr hE (hD.lt _ hs)
 have l1:=a.lt (hD.lt _ hs)
 have key:∀ (q:PS) (ws:List Txt),Adv L (Za L s).2 q->(Zd L [59] (Zp L (ZP L ex) (L.length+1) true [] (Zd L [40] q)).2).err=0->SpT L (.mk 14 ws [] p (Zp L (ZP L ex) (L.length+1) true [] (Zd L [40] q)).1) b (Zd L [59] (Zp L (ZP L ex) (L.length+1) true [] (Zd L [40] q)).2).at_:=fun q ws hq e=>by
  have w:=Zm hE [40] (hq.lt l1)
  have dq:=hD.next _ _ (hD.next _ _ (hD.next _ _ hs a.toAdv) hq) w.toAdv
  have c:=Zbi hE hD (fun s h=>(ZcW hE hD hx s h).toAdv) (L.length+1) true [] _ dq
  have v:=Zm hE [59] (c.lt (w.lt (hq.lt l1)))
  have ec:=v.toAdv.err e
  have h2:=a.on (hq.err (w.toAdv.err (c.err ec)))
  have h3:=hq.le
  have h4:=w.le
  have h5:=v.le
  have h6:=c.le
  have h1:=Zd0 hE hD (fun s h=>(ZcW hE hD hx s h).toAdv) (Zmy hE hD hz) (L.length+1) true [] _ b dq (ZaM (by omega)) ec
  exact Zay hpb (by omega) (Zb0 h1 (Nat.le_refl _) h5)
 unfold ZaN at e ⊢
 dsimp only at e ⊢
 by_cases h:isM L [61] (Za L s).2=true
 ·rw [if_pos h] at e ⊢
  have g:=ZE hE l1 h
  exact key _ _ (g.toAdv.trans (Zr hE (g.lt l1)).toAdv) e
 ·rw [if_neg h] at e ⊢
  exact key _ _ (Adv.refl _) e
abbrev Zez (L:List Tok) (f:Nat) (st:PS->Tr×PS):Prop:=∀ s,Dp L f s->s.err=0->(st s).2.err=0->SpT L (st s).1 s.at_ (st s).2.at_
theorem ZlY (hE:ZH L) {f:Nat} {st:PS->Tr×PS} (hp:Stm L f st) (hz:Zez L f st) {s:PS} (hs:Dp L (f+1) s) (h200:s.deep<=200) (e:(Zaw L st s).2.err=0):SpT L (Zaw L st s).1 s.at_ (Zaw L st s).2.at_:=by
 have a:=Zr hE hs.lt
 have d:=(Zah (f+1)).next _ _ hs a.toAdv
 have h2:(Za L s).2.deep<=200:=by rw [a.deep];exact h200
 have b:=ZbV hE hp.adv hz d h2 e
 have ea:=(Zaz hE hp.adv d h2).toAdv.err e
 have:=a.on ea
 have lt:=Zbl b
 exact Zay (Za4 (a.toAdv.err ea)) (show s.at_<(Zk L st (Za L s).2).2.at_ by omega) (Zbw (Zbf b (by omega) (Nat.le_refl _)))
theorem Zm8 (hE:ZH L) {f:Nat} {st:PS->Tr×PS} (hp:Stm L f st) (hz:Zez L f st) (p:Int) (c:Nat) (hpc:p=plM L c) {s:PS} (hc:c<=s.at_) (hs:Dp L (f+1) s) (h200:s.deep<=200) (e:(doM L st p s).2.err=0):SpT L (doM L st p s).1 c (doM L st p s).2.at_:=by
 have D:=Zap (L:=L) (f+1)
 have a:=Zr hE hs.lt
 have d1:=D.next _ _ ⟨hs,h200⟩ a.toAdv
 have w:=Zm hE [46] d1.1.lt
 have d2:=D.next _ _ d1 w.toAdv
 have b:=Zr hE d2.1.lt
 have d3:=D.next _ _ d2 b.toAdv
 unfold doM at e ⊢
 dsimp only at e ⊢
 by_cases h:isM L [59] (Za L (Zd L [46] (Za L s).2)).2=true
 ·rw [if_pos h] at e ⊢
  have g:=ZE hE d3.1.lt h
  have:=a.on (w.toAdv.err (b.toAdv.err (g.toAdv.err e)))
  have:=w.le
  have:=b.le
  have:=g.le
  exact Zay hpc (by dsimp only;omega) (ZaM (by dsimp only;omega))
 ·rw [if_neg h] at e ⊢
  have v:=Zm hE [123] d3.1.lt
  have d4:=D.next _ _ d3 v.toAdv
  have u:=ZaP hE D (fun s h _=>(ZcS hE hp h.1 h.2).toAdv) [125] (L.length+1) [] _ d4
  have:=a.on (w.toAdv.err (b.toAdv.err (v.toAdv.err (u.err e))))
  have:=w.le
  have:=b.le
  have:=v.le
  have:=u.le
  have hu:=ZdQ hE D (fun s h _=>(ZcS hE hp h.1 h.2).toAdv) (fun s h _ e=>ZlY hE hp hz h.1 h.2 e) [125] (L.length+1) [] _ c d4 (ZaM (by omega)) e
  exact Zay hpc (by dsimp only;omega) hu
theorem Zl2 (hE:ZH L) {f:Nat} {ex st:PS->Tr×PS} (hx:Onw L (Dp L (f+1)) ex) (hxz:SpM L (Dp L (f+1)) ex) (hp:Stm L f st) (hz:Zez L f st) (p:Int) {s:PS} (hpc:p=plM L s.at_) (hs:Dp L (f+1) s) (h200:s.deep<=200) (e:(Zbx L ex st p s).2.err=0):SpT L (Zbx L ex st p s).1 s.at_ (Zbx L ex st p s).2.at_:=by
 have D:=Zap (L:=L) (f+1)
 have X:∀ q,Dp L (f+1) q/\q.deep<=200->Adv L q (ex q).2:=fun q h=>(hx q h.1).toAdv
 have B:∀ q,Dp L (f+1) q/\q.deep<=200->Adv L q (Zk L st q).2:=fun q h=>(Zaz hE hp.adv h.1 h.2).toAdv
 have a1:(Zb s).at_=s.at_+1:=rfl
 unfold Zbx at e ⊢
 by_cases h1:isM L [105,102] s=true
 ·rw [if_pos h1] at e ⊢
  have g:=ZE hE hs.lt h1
  have d1:=D.next _ _ ⟨hs,h200⟩ g.toAdv
  have d2:=D.next _ _ d1 (X _ d1)
  have d3:=D.next _ _ d2 (B _ d2)
  dsimp only at e ⊢
  by_cases h2:isM L [101,108,115,101] (Zk L st (ex (Zb s)).2).2=true
  ·rw [if_pos h2] at e ⊢
   have k:=ZE hE d3.1.lt h2
   have d4:=D.next _ _ d3 k.toAdv
   have e4:=(B _ d4).err e
   have e3:=k.toAdv.err e4
   have z4:=ZbV hE hp.adv hz d4.1 d4.2 e
   have z3:=ZbV hE hp.adv hz d2.1 d2.2 e3
   have z2:=hxz _ d1.1 ((B _ d2).err e3)
   have:=k.le
   have:=Zbl z4
   have:=Zbl z3
   have:=Zbl z2
   exact Zay hpc (by dsimp only;omega) (ZbU (Zbf z2 (by omega) (Nat.le_refl _)) (ZbU z3 (Zbw (Zbf z4 k.le (Nat.le_refl _)))))
  ·rw [if_neg h2] at e ⊢
   have z3:=ZbV hE hp.adv hz d2.1 d2.2 e
   have z2:=hxz _ d1.1 ((B _ d2).err e)
   have:=Zbl z3
   have:=Zbl z2
   exact Zay hpc (by dsimp only;omega) (ZbU (Zbf z2 (by omega) (Nat.le_refl _)) (Zbw z3))
 rw [if_neg h1] at e ⊢
 by_cases h2:isM L [119,104,105,108,101] s=true
 ·rw [if_pos h2] at e ⊢
  have g:=ZE hE hs.lt h2
  have d1:=D.next _ _ ⟨hs,h200⟩ g.toAdv
  have d2:=D.next _ _ d1 (X _ d1)
  have z3:=ZbV hE hp.adv hz d2.1 d2.2 e
  have z2:=hxz _ d1.1 ((B _ d2).err e)
  have:=Zbl z3
  have:=Zbl z2
  exact Zay hpc (by dsimp only;omega) (ZbU (Zbf z2 (by omega) (Nat.le_refl _)) (Zbw z3))
 rw [if_neg h2] at e ⊢
 by_cases h3:isM L [114,101,116,117,114,110] s=true
 ·rw [if_pos h3] at e ⊢
  have g:=ZE hE hs.lt h3
  have d1:=D.next _ _ ⟨hs,h200⟩ g.toAdv
  have d2:=D.next _ _ d1 (X _ d1)
  have w:=Zm hE [59] d2.1.lt
  have z2:=hxz _ d1.1 (w.toAdv.err e)
  have:=w.le
  have:=Zbl z2
  exact Zay hpc (by dsimp only;omega) (Zbw (Zbf z2 (by omega) w.le))
 rw [if_neg h3] at e ⊢
 have w:=Zm hE [101,120,105,116] hs.lt
 have v:=Zm hE [59] (w.lt hs.lt)
 have:=v.on e
 have:=w.le
 exact Zay hpc (by dsimp only;omega) (ZaM (by dsimp only;omega))
theorem ZdE (hE:ZH L) (x:Txt) (i:Int) {s:PS} (hs:s.at_<L.length):ZaS L (Zj L x i s).1 s.at_ (Zj L x i s).2.at_:=by
 unfold Zj
 by_cases h:isM L x s=true
 ·rw [if_pos h]
  have g:=ZE hE hs h
  have n:=Zr hE (g.lt hs)
  have b:=Zdr hE L.length [(Za L (Zb s)).1] (n.lt (g.lt hs))
  have:=n.le
  have:=b.le
  have a1:(Zb s).at_=s.at_+1:=rfl
  exact Zbw (Zay (Za4 (ZhI h)) (by dsimp only;omega) (ZaM (by dsimp only;omega)))
 ·rw [if_neg h];exact ZaM (Nat.le_refl _)
theorem ZlK (hE:ZH L) {f:Nat} {st:PS->Tr×PS} (hp:Stm L f st) (hz:Zez L f st) (p:Int) (c:Nat) (hpc:p=plM L c) {s:PS} (hc:c<=s.at_) (hs:Dp L (f+1) s) (h200:s.deep<=200) (e:(ZaK L st p s).2.err=0):SpT L (ZaK L st p s).1 c (ZaK L st p s).2.at_:=by
 have D:=Zap (L:=L) (f+1)
 unfold ZaK at e ⊢
 dsimp only at e ⊢
 have g:=Zr hE hs.lt
 have d1:=D.next _ _ ⟨hs,h200⟩ g.toAdv
 have g2:=Zm hE [61] d1.1.lt
 have d2:=D.next _ _ d1 g2.toAdv
 have g3:=Zr hE d2.1.lt
 have d3:=D.next _ _ d2 g3.toAdv
 have g4:=Zcy hE (Zq 1) d3.1.lt
 have d4:=D.next _ _ d3 g4.toAdv
 have g5:=Zbt hE 1 d4.1.lt
 have d5:=D.next _ _ d4 g5.toAdv
 have g6:=Zm hE [47] d5.1.lt
 have d6:=D.next _ _ d5 g6.toAdv
 have g7:=Zbt hE 1 d6.1.lt
 have d7:=D.next _ _ d6 g7.toAdv
 have g8:=Zba hE [105,110] 2 d7.1.lt
 have d8:=D.next _ _ d7 g8
 have z8:=ZdE hE [105,110] 2 d7.1.lt
 have z9:=ZbV hE hp.adv hz d8.1 d8.2 e
 have e8:=(Zaz hE hp.adv d8.1 d8.2).toAdv.err e
 have:=g.on (g2.toAdv.err (g3.toAdv.err (g4.toAdv.err (g5.toAdv.err (g6.toAdv.err (g7.toAdv.err (g8.err e8)))))))
 have:=g2.le
 have:=g3.le
 have:=g4.le
 have:=g5.le
 have:=g6.le
 have:=g7.le
 have:=ZcT z8
 have:=Zbl z9
 exact Zay hpc (by omega) (Zb0 (Zco z8 z9) (by omega) (Nat.le_refl _))
theorem ZhN (hE:ZH L) {ex:PS->Tr×PS} (hx:∀ f,Onw L (Dp L (f+1)) ex) (hxz:∀ f,SpM L (Dp L (f+1)) ex):∀ f,Zez L f (Zi L ex f)
 | 0,s,hs,e,_=>by have:=hs.fuel e;omega
 | f+1,s,hs,e0,e=>by
  have D:=Zap (L:=L) (f+1)
  have h200:=(hs.fuel e0).1
  have hp:=Zce hE hx f
  have hz:=ZhN hE hx hxz f
  have a1:(Zb s).at_=s.at_+1:=rfl
  have hpl:=Za4 (L:=L) e0
  have asg:∀ q:PS,Dp L (f+1) q/\q.deep<=200->s.at_<=q.at_->∀ (k:Int) (w:Txt),(Zd L [59] (ex (Zd L [61] q)).2).err=0->SpT L (.mk k [w] [] (Zl L s) [(ex (Zd L [61] q)).1]) s.at_ (Zd L [59] (ex (Zd L [61] q)).2).at_:=fun q hq hle k w e=>by
   have g3:=Zm hE [61] hq.1.lt
   have d3:=D.next _ _ hq g3.toAdv
   have g4:=hx f _ d3.1
   have d4:=D.next _ _ d3 g4.toAdv
   have g5:=Zm hE [59] d4.1.lt
   have e4:=g5.toAdv.err e
   have z:=hxz f _ d3.1 e4
   have:=g3.le
   have:=g5.le
   have:=Zbl z
   exact Zay hpl (by omega) (Zbw (Zbf z (by omega) g5.le))
  unfold Zi at e ⊢
  dsimp only at e ⊢
  by_cases h1:isM L [108,101,116] s=true
  ·rw [if_pos h1] at e ⊢
   have g:=ZE hE hs.lt h1
   have d1:=D.next _ _ ⟨hs,h200⟩ g.toAdv
   have g2:=Zr hE d1.1.lt
   have:=g2.le
   exact asg _ (D.next _ _ d1 g2.toAdv) (by omega) 8 (Za L (Zb s)).1 e
  rw [if_neg h1] at e ⊢
  by_cases h2:ZaU L s=true
  ·rw [if_pos h2] at e ⊢
   have g2:=Zr hE hs.lt
   exact asg _ (D.next _ _ ⟨hs,h200⟩ g2.toAdv) g2.le 9 (Za L s).1 e
  rw [if_neg h2] at e ⊢
  by_cases h3:isM L [111,112,101,110] s=true
  ·rw [if_pos h3] at e ⊢
   have g:=ZE hE hs.lt h3
   have d1:=D.next _ _ ⟨hs,h200⟩ g.toAdv
   have g2:=Zr hE d1.1.lt
   have d2:=D.next _ _ d1 g2.toAdv
   have g3:=Zr hE d2.1.lt
   have d3:=D.next _ _ d2 g3.toAdv
   have g4:=Zaz hE hp.adv d3.1 d3.2
   have d4:=D.next _ _ d3 g4.toAdv
   have g5:=Zm hE [101,108,115,101] d4.1.lt
   have d5:=D.next _ _ d4 g5.toAdv
   have z5:=ZbV hE hp.adv hz d5.1 d5.2 e
   have z3:=ZbV hE hp.adv hz d3.1 d3.2 (g5.toAdv.err ((Zaz hE hp.adv d5.1 d5.2).toAdv.err e))
   have:=g2.le
   have:=g3.le
   have:=g5.le
   have:=Zbl z5
   have:=Zbl z3
   exact Zay hpl (by dsimp only;omega) (ZbU (Zbf z3 (by omega) (Nat.le_refl _)) (Zbw (Zbf z5 g5.le (Nat.le_refl _))))
  rw [if_neg h3] at e ⊢
  by_cases h4:isM L [100,111] s=true
  ·rw [if_pos h4] at e ⊢
   have d1:=D.next _ _ ⟨hs,h200⟩ (ZE hE hs.lt h4).toAdv
   exact Zm8 hE hp hz (Zl L s) s.at_ hpl (by omega) d1.1 d1.2 e
  rw [if_neg h4] at e ⊢
  by_cases h5:isM L [115,112,108,105,116] s=true
  ·rw [if_pos h5] at e ⊢
   have d1:=D.next _ _ ⟨hs,h200⟩ (ZE hE hs.lt h5).toAdv
   exact ZlK hE hp hz (Zl L s) s.at_ hpl (by omega) d1.1 d1.2 e
  rw [if_neg h5] at e ⊢
  by_cases h6:isM L [99,97,108,108] s=true
  ·rw [if_pos h6] at e ⊢
   have d1:=D.next _ _ ⟨hs,h200⟩ (ZE hE hs.lt h6).toAdv
   exact ZlW hE (Zah _) (hx f) (hxz f) (Zl L s) s.at_ hpl _ (by omega) d1.1 e
  rw [if_neg h6] at e ⊢
  exact Zl2 hE (hx f) (hxz f) hp hz _ hpl hs h200 e
theorem Zmh (hE:ZH L) {s:PS} (hs:s.at_<L.length) (e:(Zai L s).2.err=0):SpT L (Zai L s).1 s.at_ (Zai L s).2.at_:=by
 have on:=(part_go hE hs).on e
 have e0:=(part_go hE hs).toAdv.err e
 have h1:∃ kd ws us,(Zai L s).1=.mk kd ws us (Zl L s) []:=by
  unfold Zai
  dsimp only
  by_cases h1:isM L [115,116,97,116,101] s=true
  ·rw [if_pos h1];exact ⟨_,_,_,rfl⟩
  rw [if_neg h1]
  by_cases h2:isM L [102,105,110,97,108] s=true
  ·rw [if_pos h2];exact ⟨_,_,_,rfl⟩
  rw [if_neg h2];exact ⟨_,_,_,rfl⟩
 obtain ⟨kd,ws,us,h1⟩:=h1
 rw [h1]
 exact Zay (Za4 e0) on (ZaM (Nat.le_of_lt on))
theorem Zlv (hE:ZH L) {s:PS} (hs:s.at_<L.length) (e:(Za5 L s).2.err=0):SpT L (Za5 L s).1 s.at_ (Za5 L s).2.at_:=by
 have D:Dom L (fun s=>s.at_<L.length):=⟨fun a b h k=>k.lt h,fun a h=>h⟩
 have g:=Zm hE [112,114,111,116,111] hs
 have a:=Zr hE (g.lt hs)
 have w:=Zm hE [123] (a.lt (g.lt hs))
 have lw:=w.lt (a.lt (g.lt hs))
 have u:=ZaP hE D (fun s h _=>(part_go hE h).toAdv) [125] (L.length+1) [] _ lw
 have eg:=a.toAdv.err (w.toAdv.err (u.err e))
 have:=g.on eg
 have:=a.le
 have:=w.le
 have:=u.le
 have z:=ZdQ hE D (fun s h _=>(part_go hE h).toAdv) (fun s h _ e=>Zmh hE h e) [125] (L.length+1) [] _ s.at_ lw (ZaM (by omega)) e
 exact Zay (Za4 (g.toAdv.err eg)) (by unfold Za5;dsimp only;omega) z
theorem Zln (hE:ZH L) {s:PS} (hs:s.at_<L.length) (e:(ZN L s).2.err=0):SpT L (ZN L s).1 s.at_ (ZN L s).2.at_:=by
 unfold ZN at e ⊢
 dsimp only at e ⊢
 have a:=Zr hE hs
 have l1:=a.lt hs
 by_cases h:isM L [58] (Za L s).2=true
 ·rw [if_pos h] at e ⊢
  have g:=ZE hE l1 h
  have b:=Zr hE (g.lt l1)
  have l3:=b.lt (g.lt l1)
  have k:=Zcy hE (Zq 0) l3
  have l4:=k.lt l3
  have key:∀ (q:PS) (nn:List Int),Adv L (ZA L (Zq 0) (Za L (Zb (Za L s).2)).2).2 q->(Zj L [105,110] 2 (Zj L [116,111] 1 (Zj L [97,116] 0 q).2).2).2.err=0->SpT L (.mk 5 [(Za L s).1,(Za L (Zb (Za L s).2)).1] nn (Zl L s) ((Zj L [97,116] 0 q).1++(Zj L [116,111] 1 (Zj L [97,116] 0 q).2).1++(Zj L [105,110] 2 (Zj L [116,111] 1 (Zj L [97,116] 0 q).2).2).1)) s.at_ (Zj L [105,110] 2 (Zj L [116,111] 1 (Zj L [97,116] 0 q).2).2).2.at_:=fun q nn hq e=>by
   have x:=Zba hE [97,116] 0 (hq.lt l4)
   have y:=Zba hE [116,111] 1 (x.lt (hq.lt l4))
   have zx:=ZdE hE [97,116] 0 (hq.lt l4)
   have zy:=ZdE hE [116,111] 1 (x.lt (hq.lt l4))
   have zz:=ZdE hE [105,110] 2 (y.lt (x.lt (hq.lt l4)))
   have z:=Zba hE [105,110] 2 (y.lt (x.lt (hq.lt l4)))
   have ea:=g.toAdv.err (b.toAdv.err (k.toAdv.err (hq.err (x.err (y.err (z.err e))))))
   have:=a.on ea
   have:=g.le
   have:=b.le
   have:=k.le
   have:=hq.le
   have:=ZcT zx
   have:=ZcT zy
   have:=ZcT zz
   exact Zay (Za4 (a.toAdv.err ea)) (by omega) (Zb0 (ZdO zz (ZdO zy zx)) (by omega) (Nat.le_refl _))
  by_cases h2:isM L [108,101,97,115,116] (ZA L (Zq 0) (Za L (Zb (Za L s).2)).2).2=true
  ·rw [if_pos h2] at e ⊢
   have e':=ZE hE l4 h2
   have n:=Zbt hE 1 (e'.lt l4)
   have w:=Zm hE [47] (n.lt (e'.lt l4))
   have d:=Zbt hE 1 (w.lt (n.lt (e'.lt l4)))
   exact key _ _ (e'.toAdv.trans (n.toAdv.trans (w.toAdv.trans d.toAdv))) e
  ·rw [if_neg h2] at e ⊢;exact key _ _ (Adv.refl _) e
 ·rw [if_neg h] at e ⊢
  have:=a.on e
  exact Zay (Za4 (a.toAdv.err e)) this (ZaM (Nat.le_of_lt this))
theorem Znb (hE:ZH L) {f:Nat} {ex st:PS->Tr×PS} (hp:Stm L f st) (hz:Zez L f st) {s:PS} (hs:Dp L (f+1) s) (h200:s.deep<=200) (e:(fnM L ex st s).2.err=0):SpT L (fnM L ex st s).1 s.at_ (fnM L ex st s).2.at_:=by
 have D:=Zap (L:=L) (f+1)
 have g:=Zm hE [102,110] hs.lt
 have d1:=D.next _ _ ⟨hs,h200⟩ g.toAdv
 have g2:=Zr hE d1.1.lt
 have d2:=D.next _ _ d1 g2.toAdv
 have g3:=Zm hE [40] d2.1.lt
 have d3:=D.next _ _ d2 g3.toAdv
 have g4:=Zbi hE D (fun s h=>(Zbu hE h.1.lt).toAdv) (L.length+1) true [] _ d3
 have d4:=D.next _ _ d3 g4
 have z5:=ZbV hE hp.adv hz d4.1 d4.2 e
 have e4:=(Zaz hE hp.adv d4.1 d4.2).toAdv.err e
 have eg:=g2.toAdv.err (g3.toAdv.err (g4.err e4))
 have:=g.on eg
 have:=g2.le
 have:=g3.le
 have:=g4.le
 have:=Zbl z5
 have z4:=Zd0 hE D (fun s h=>(Zbu hE h.1.lt).toAdv) (fun s h e=>Zln hE h.1.lt e) (L.length+1) true [] _ s.at_ d3 (ZaM (by omega)) e4
 exact Zay (Za4 (g.toAdv.err eg)) (by unfold fnM;dsimp only;omega) (Zco z4 z5)
theorem ZcP (hE:ZH L) {f:Nat} {ex st:PS->Tr×PS} (hp:Stm L f st) (hz:Zez L f st):∀ (g:Nat) (l:List Tr) (s:PS) (b:Nat),Dp L (f+1) s/\s.deep<=200->ZaS L l b s.at_->(Zab L ex st g l s).2.err=0->ZaS L (Zab L ex st g l s).1 b (Zab L ex st g l s).2.at_
 | 0,l,s,b,_,hl,_=>by rw [Zab];exact hl
 | g+1,l,s,b,hs,hl,e=>by
  have D:=Zap (L:=L) (f+1)
  unfold Zab at e ⊢
  by_cases he:s.err=0/\(Zao L s).1≠3
  ·rw [if_pos he] at e ⊢
   by_cases h1:isM L [112,114,111,116,111] s=true
   ·rw [if_pos h1] at e ⊢
    have n:=(ZdK hE hs.1.lt).toAdv
    have hd:=D.next _ _ hs n
    exact ZcP hE hp hz g (l++[(Za5 L s).1]) _ b hd (Zco hl (Zlv hE hs.1.lt ((Zbk hE hp g (l++[(Za5 L s).1]) _ hd).err e))) e
   rw [if_neg h1] at e ⊢
   by_cases h2:isM L [102,110] s=true
   ·rw [if_pos h2] at e ⊢
    have n:=(ZeV hE (ex:=ex) hp hs.1 hs.2).toAdv
    have hd:=D.next _ _ hs n
    exact ZcP hE hp hz g (l++[(fnM L ex st s).1]) _ b hd (Zco hl (Znb hE hp hz hs.1 hs.2 ((Zbk hE hp g (l++[(fnM L ex st s).1]) _ hd).err e))) e
   rw [if_neg h2] at e ⊢
   have n:=(Zcx (L:=L) (e:=11) (by decide) s).toAdv
   exact ZcP hE hp hz g l _ b (D.next _ _ hs n) (Zb0 hl (Nat.le_refl _) n.le) e
  ·rw [if_neg he];exact hl
end
end
end Go.Proofs.YtfdgeijnkkdplaaDoor
