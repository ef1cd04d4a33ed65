import Derived.Test.YtkongcicmajolaaGreatDoorQBG
import Derived.Test.YtkongcicmajolaaGreatDoorQBO
set_option maxRecDepth 100000
set_option maxHeartbeats 8000000
namespace Go.Proofs.YtkongcicmajolaaGreatDoor
section
section
variable {L:List Tok}
theorem Zr5 (hE:ZW L) {D:PS->Prop} (hD:Dom L D) {ex:PS->Tr×PS} (hz:SzM D ex):SzM D (ZaS L ex):=fun s hs e=>by
 unfold ZaS at e ⊢
 by_cases h:isM L [38] s=true
 ·rw [if_pos h] at e ⊢
  have g:=ZC hE (hD.lt _ hs) h
  have n:=(Zo hE (g.lt (hD.lt _ hs))).on e
  have:(Zd s).at_=s.at_+1:=rfl
  dsimp only
  rw [ZbJ,Zaq]
  omega
 ·rw [if_neg h] at e ⊢;exact hz s hs e
theorem Zrd (hE:ZW L) {D:PS->Prop} (hD:Dom L D) {ex:PS->Tr×PS} (hx:Onw L D ex) (hz:SzM D ex) (p:Int):SzM D (ZcC L ex p):=fun s hs e=>by
 have a:=Zo hE (hD.lt _ hs)
 have l1:=a.lt (hD.lt _ hs)
 have key:∀ q:PS,Adv L (Zb L s).2 q->(Zf L [59] (ZT L (ZaS L ex) (L.length+1) true [] (Zf L [40] q)).2).err=0->Zaq (ZT L (ZaS L ex) (L.length+1) true [] (Zf L [40] q)).1+1+s.at_<=(Zf L [59] (ZT L (ZaS L ex) (L.length+1) true [] (Zf L [40] q)).2).at_:=fun q hq e=>by
  have w:=Zq hE [40] (hq.lt l1)
  have dq:=hD.next _ _ (hD.next _ _ (hD.next _ _ hs a.toAdv) hq) w.toAdv
  have c:=Zc6 hE hD (fun s h=>(Zhm hE hD hx s h).toAdv) (L.length+1) true [] _ dq
  have v:=Zq hE [59] (c.lt (w.lt (hq.lt l1)))
  have ec:=v.toAdv.err e
  have h1:=Zhr hE hD (fun s h=>(Zhm hE hD hx s h).toAdv) (Zr5 hE hD hz) (L.length+1) true [] _ dq ec
  have h2:=a.on (hq.err (w.toAdv.err (c.err ec)))
  have h3:=hq.le
  have h4:=w.le
  have h5:=v.le
  rw [Zaq] at h1
  omega
 unfold ZcC at e ⊢
 dsimp only at e ⊢
 rw [ZbJ]
 by_cases h:isM L [61] (Zb L s).2=true
 ·rw [if_pos h] at e ⊢
  have g:=ZC hE l1 h
  exact key _ (g.toAdv.trans (Zo hE (g.lt l1)).toAdv) e
 ·rw [if_neg h] at e ⊢
  exact key _ (Adv.refl _) e
abbrev Zib (L:List Tok) (f:Nat) (st:PS->Tr×PS):Prop:=∀ s,Dp L f s->s.err=0->(st s).2.err=0->szT (st s).1+s.at_<=(st s).2.at_
theorem Zrf (hE:ZW L) {f:Nat} {st:PS->Tr×PS} (hp:Stm L f st) (hz:Zib L f st) {s:PS} (hs:Dp L (f+1) s) (h200:s.deep<=200) (e:(ZcR L st s).2.err=0):szT (ZcR L st s).1+s.at_<=(ZcR L st s).2.at_:=by
 have a:=Zo hE hs.lt
 have d:=(ZX (f+1)).next _ _ hs a.toAdv
 have h2:(Zb L s).2.deep<=200:=by rw [a.deep];exact h200
 have b:=ZdG hE hp.adv hz d h2 e
 have:=a.on ((Zbz hE hp.adv d h2).toAdv.err e)
 unfold ZcR
 dsimp only
 rw [ZbJ,Zcq]
 omega
theorem Zst (hE:ZW L) {f:Nat} {st:PS->Tr×PS} (hp:Stm L f st) (hz:Zib L f st) (p:Int) {s:PS} (hs:Dp L (f+1) s) (h200:s.deep<=200) (e:(doM L st p s).2.err=0):szT (doM L st p s).1+s.at_<=(doM L st p s).2.at_:=by
 have D:=ZR (L:=L) (f+1)
 have a:=Zo hE hs.lt
 have d1:=D.next _ _ ⟨hs,h200⟩ a.toAdv
 have w:=Zq hE [46] d1.1.lt
 have d2:=D.next _ _ d1 w.toAdv
 have b:=Zo hE d2.1.lt
 have d3:=D.next _ _ d2 b.toAdv
 unfold doM at e ⊢
 dsimp only at e ⊢
 by_cases h:isM L [59] (Zb L (Zf L [46] (Zb L s).2)).2=true
 ·rw [if_pos h] at e ⊢
  have g:=ZC hE d3.1.lt h
  have:=a.on (w.toAdv.err (b.toAdv.err (g.toAdv.err e)))
  have:=w.le
  have:=b.le
  have:=g.le
  dsimp only
  rw [ZbJ,Zaq]
  omega
 ·rw [if_neg h] at e ⊢
  have v:=Zq hE [123] d3.1.lt
  have d4:=D.next _ _ d3 v.toAdv
  have c:=ZcX hE D (fun s h _=>(ZfR hE hp h.1 h.2).toAdv) [125] (L.length+1) [] _ d4
  have hu:=Zhe hE D (fun s h _=>(ZfR hE hp h.1 h.2).toAdv) (fun s h _ e=>Zrf hE hp hz h.1 h.2 e) [125] (L.length+1) [] _ d4 e
  have:=a.on (w.toAdv.err (b.toAdv.err (v.toAdv.err (c.err e))))
  have:=w.le
  have:=b.le
  have:=v.le
  rw [Zaq] at hu
  dsimp only
  rw [ZbJ]
  omega
theorem Zrq (hE:ZW L) {f:Nat} {ex st:PS->Tr×PS} (hx:Onw L (Dp L (f+1)) ex) (hxz:SzM (Dp L (f+1)) ex) (hp:Stm L f st) (hz:Zib L f st) (p:Int) {s:PS} (hs:Dp L (f+1) s) (h200:s.deep<=200) (e:(Zbb L ex st p s).2.err=0):szT (Zbb L ex st p s).1+s.at_<=(Zbb L ex st p s).2.at_:=by
 have D:=ZR (L:=L) (f+1)
 have X:∀ q,Dp L (f+1) q/\q.deep<=200->Adv L q (ex q).2:=fun q h=>(hx q h.1).toAdv
 have B:∀ q,Dp L (f+1) q/\q.deep<=200->Adv L q (Zag L st q).2:=fun q h=>(Zbz hE hp.adv h.1 h.2).toAdv
 unfold Zbb at e ⊢
 by_cases h1:isM L [105,102] s=true
 ·rw [if_pos h1] at e ⊢
  have g:=ZC hE hs.lt h1
  have d1:=D.next _ _ ⟨hs,h200⟩ g.toAdv
  have d2:=D.next _ _ d1 (X _ d1)
  have d3:=D.next _ _ d2 (B _ d2)
  have a1:(Zd s).at_=s.at_+1:=rfl
  dsimp only at e ⊢
  by_cases h2:isM L [101,108,115,101] (Zag L st (ex (Zd s)).2).2=true
  ·rw [if_pos h2] at e ⊢
   have k:=ZC hE d3.1.lt h2
   have d4:=D.next _ _ d3 k.toAdv
   have e4:=(B _ d4).err e
   have e3:=k.toAdv.err e4
   have z4:=ZdG hE hp.adv hz d4.1 d4.2 e
   have z3:=ZdG hE hp.adv hz d2.1 d2.2 e3
   have z2:=hxz _ d1.1 ((B _ d2).err e3)
   have:=k.le
   dsimp only
   rw [ZbJ,Zaq,Zaq,Zcq]
   omega
  ·rw [if_neg h2] at e ⊢
   have z3:=ZdG hE hp.adv hz d2.1 d2.2 e
   have z2:=hxz _ d1.1 ((B _ d2).err e)
   dsimp only
   rw [ZbJ,Zaq,Zcq]
   omega
 rw [if_neg h1] at e ⊢
 by_cases h2:isM L [119,104,105,108,101] s=true
 ·rw [if_pos h2] at e ⊢
  have g:=ZC hE hs.lt h2
  have d1:=D.next _ _ ⟨hs,h200⟩ g.toAdv
  have d2:=D.next _ _ d1 (X _ d1)
  have a1:(Zd s).at_=s.at_+1:=rfl
  have z3:=ZdG hE hp.adv hz d2.1 d2.2 e
  have z2:=hxz _ d1.1 ((B _ d2).err e)
  dsimp only
  rw [ZbJ,Zaq,Zcq]
  omega
 rw [if_neg h2] at e ⊢
 by_cases h3:isM L [114,101,116,117,114,110] s=true
 ·rw [if_pos h3] at e ⊢
  have g:=ZC hE hs.lt h3
  have d1:=D.next _ _ ⟨hs,h200⟩ g.toAdv
  have d2:=D.next _ _ d1 (X _ d1)
  have a1:(Zd s).at_=s.at_+1:=rfl
  have w:=Zq hE [59] d2.1.lt
  have z2:=hxz _ d1.1 (w.toAdv.err e)
  have:=w.le
  dsimp only
  rw [ZbJ,Zcq]
  omega
 rw [if_neg h3] at e ⊢
 have w:=Zq hE [101,120,105,116] hs.lt
 have v:=Zq hE [59] (w.lt hs.lt)
 have:=v.on e
 have:=w.le
 dsimp only
 rw [ZbJ,Zaq]
 omega
theorem Zg4 (hE:ZW L) (x:Txt) (i:Int) {s:PS} (hs:s.at_<L.length):Zaq (ZB L x i s).1+s.at_<=(ZB L x i s).2.at_:=by
 unfold ZB
 by_cases h:isM L x s=true
 ·rw [if_pos h]
  have g:=ZC hE hs h
  have n:=Zo hE (g.lt hs)
  have b:=Zf1 hE L.length [(Zb L (Zd s)).1] (n.lt (g.lt hs))
  have:=n.le
  have:=b.le
  have:(Zd s).at_=s.at_+1:=rfl
  dsimp only
  rw [Zcq,ZbJ,Zaq]
  omega
 ·rw [if_neg h,Zaq];dsimp only;omega
theorem ZqI (hE:ZW L) {f:Nat} {st:PS->Tr×PS} (hp:Stm L f st) (hz:Zib L f st) (p:Int) {s:PS} (hs:Dp L (f+1) s) (h200:s.deep<=200) (e:(ZdS L st p s).2.err=0):szT (ZdS L st p s).1+s.at_<=(ZdS L st p s).2.at_:=by
 have D:=ZR (L:=L) (f+1)
 unfold ZdS at e ⊢
 dsimp only at e ⊢
 have g:=Zo hE hs.lt
 have d1:=D.next _ _ ⟨hs,h200⟩ g.toAdv
 have g2:=Zq hE [61] d1.1.lt
 have d2:=D.next _ _ d1 g2.toAdv
 have g3:=Zo hE d2.1.lt
 have d3:=D.next _ _ d2 g3.toAdv
 have g4:=ZeI hE (Zr 1) d3.1.lt
 have d4:=D.next _ _ d3 g4.toAdv
 have g5:=Zc4 hE 1 d4.1.lt
 have d5:=D.next _ _ d4 g5.toAdv
 have g6:=Zq hE [47] d5.1.lt
 have d6:=D.next _ _ d5 g6.toAdv
 have g7:=Zc4 hE 1 d6.1.lt
 have d7:=D.next _ _ d6 g7.toAdv
 have g8:=Zcu hE [105,110] 2 d7.1.lt
 have d8:=D.next _ _ d7 g8
 have z8:=Zg4 hE [105,110] 2 d7.1.lt
 have z9:=ZdG hE hp.adv hz d8.1 d8.2 e
 have e8:=(Zbz hE hp.adv d8.1 d8.2).toAdv.err e
 have:=g.on (g2.toAdv.err (g3.toAdv.err (g4.toAdv.err (g5.toAdv.err (g6.toAdv.err (g7.toAdv.err (g8.err e8)))))))
 have:=g2.le
 have:=g3.le
 have:=g4.le
 have:=g5.le
 have:=g6.le
 have:=g7.le
 rw [ZbJ,ZdN,Zcq]
 omega
theorem ZmP (hE:ZW L) {ex:PS->Tr×PS} (hx:∀ f,Onw L (Dp L (f+1)) ex) (hxz:∀ f,SzM (Dp L (f+1)) ex):∀ f,Zib L f (Zv L ex f)
 | 0,s,hs,e,_=>by have:=hs.fuel e;omega
 | f+1,s,hs,e0,e=>by
  have D:=ZR (L:=L) (f+1)
  have h200:=(hs.fuel e0).1
  have hp:=ZfX hE hx f
  have hz:=ZmP hE hx hxz f
  have a1:(Zd s).at_=s.at_+1:=rfl
  have asg:∀ q:PS,Dp L (f+1) q/\q.deep<=200->∀ (k:Int) (w:Txt),(Zf L [59] (ex (Zf L [61] q)).2).err=0->szT (.mk k [w] [] (Ze L s) [(ex (Zf L [61] q)).1])+q.at_<=(Zf L [59] (ex (Zf L [61] q)).2).at_:=fun q hq k w e=>by
   have g3:=Zq hE [61] hq.1.lt
   have d3:=D.next _ _ hq g3.toAdv
   have g4:=hx f _ d3.1
   have d4:=D.next _ _ d3 g4.toAdv
   have g5:=Zq hE [59] d4.1.lt
   have e4:=g5.toAdv.err e
   have z:=hxz f _ d3.1 e4
   have:=g3.on (g4.toAdv.err e4)
   have:=g5.le
   rw [ZbJ,Zcq]
   omega
  unfold Zv at e ⊢
  dsimp only at e ⊢
  by_cases h1:isM L [108,101,116] s=true
  ·rw [if_pos h1] at e ⊢
   have g:=ZC hE hs.lt h1
   have d1:=D.next _ _ ⟨hs,h200⟩ g.toAdv
   have g2:=Zo hE d1.1.lt
   have:=asg _ (D.next _ _ d1 g2.toAdv) 8 (Zb L (Zd s)).1 e
   have:=g2.le
   dsimp only
   omega
  rw [if_neg h1] at e ⊢
  by_cases h2:ZaZ L s=true
  ·rw [if_pos h2] at e ⊢
   have g2:=Zo hE hs.lt
   have:=asg _ (D.next _ _ ⟨hs,h200⟩ g2.toAdv) 9 (Zb L s).1 e
   have:=g2.le
   dsimp only
   omega
  rw [if_neg h2] at e ⊢
  by_cases h3:isM L [111,112,101,110] s=true
  ·rw [if_pos h3] at e ⊢
   have g:=ZC hE hs.lt h3
   have d1:=D.next _ _ ⟨hs,h200⟩ g.toAdv
   have g2:=Zo hE d1.1.lt
   have d2:=D.next _ _ d1 g2.toAdv
   have g3:=Zo hE d2.1.lt
   have d3:=D.next _ _ d2 g3.toAdv
   have g4:=Zbz hE hp.adv d3.1 d3.2
   have d4:=D.next _ _ d3 g4.toAdv
   have g5:=Zq hE [101,108,115,101] d4.1.lt
   have d5:=D.next _ _ d4 g5.toAdv
   have z5:=ZdG hE hp.adv hz d5.1 d5.2 e
   have z3:=ZdG hE hp.adv hz d3.1 d3.2 (g5.toAdv.err ((Zbz hE hp.adv d5.1 d5.2).toAdv.err e))
   have:=g2.le
   have:=g3.le
   have:=g5.le
   dsimp only
   rw [ZbJ,Zaq,Zcq]
   omega
  rw [if_neg h3] at e ⊢
  by_cases h4:isM L [100,111] s=true
  ·rw [if_pos h4] at e ⊢
   have d1:=D.next _ _ ⟨hs,h200⟩ (ZC hE hs.lt h4).toAdv
   have:=Zst hE hp hz (Ze L s) d1.1 d1.2 e
   omega
  rw [if_neg h4] at e ⊢
  by_cases h5:isM L [115,112,108,105,116] s=true
  ·rw [if_pos h5] at e ⊢
   have d1:=D.next _ _ ⟨hs,h200⟩ (ZC hE hs.lt h5).toAdv
   have:=ZqI hE hp hz (Ze L s) d1.1 d1.2 e
   omega
  rw [if_neg h5] at e ⊢
  by_cases h6:isM L [99,97,108,108] s=true
  ·rw [if_pos h6] at e ⊢
   have d1:=D.next _ _ ⟨hs,h200⟩ (ZC hE hs.lt h6).toAdv
   have:=Zrd hE (ZX _) (hx f) (hxz f) (Ze L s) _ d1.1 e
   omega
  rw [if_neg h6] at e ⊢
  exact Zrq hE (hx f) (hxz f) hp hz _ hs h200 e
theorem ZrG (hE:ZW L) {s:PS} (hs:s.at_<L.length) (e:(Zbo L s).2.err=0):szT (Zbo L s).1+s.at_<=(Zbo L s).2.at_:=by
 have:=(part_go hE hs).on e
 have h1:szT (Zbo L s).1=1:=by
  unfold Zbo
  dsimp only
  by_cases h1:isM L [115,116,97,116,101] s=true
  ·rw [if_pos h1,ZbJ,Zaq]
  rw [if_neg h1]
  by_cases h2:isM L [102,105,110,97,108] s=true
  ·rw [if_pos h2,ZbJ,Zaq]
  rw [if_neg h2,ZbJ,Zaq]
 omega
theorem Zqx (hE:ZW L) {s:PS} (hs:s.at_<L.length) (e:(ZbL L s).2.err=0):szT (ZbL L s).1+s.at_<=(ZbL L s).2.at_:=by
 have D:Dom L (fun s=>s.at_<L.length):=⟨fun a b h k=>k.lt h,fun a h=>h⟩
 have g:=Zq hE [112,114,111,116,111] hs
 have a:=Zo hE (g.lt hs)
 have w:=Zq hE [123] (a.lt (g.lt hs))
 have lw:=w.lt (a.lt (g.lt hs))
 have u:=ZcX hE D (fun s h _=>(part_go hE h).toAdv) [125] (L.length+1) [] _ lw
 have z:=Zhe hE D (fun s h _=>(part_go hE h).toAdv) (fun s h _ e=>ZrG hE h e) [125] (L.length+1) [] _ lw e
 have:=g.on (a.toAdv.err (w.toAdv.err (u.err e)))
 have:=a.le
 have:=w.le
 rw [Zaq] at z
 unfold ZbL
 dsimp only
 rw [ZbJ]
 omega
theorem Zqs (hE:ZW L) {s:PS} (hs:s.at_<L.length) (e:(ZaC L s).2.err=0):szT (ZaC L s).1+s.at_<=(ZaC L s).2.at_:=by
 unfold ZaC at e ⊢
 dsimp only at e ⊢
 have a:=Zo hE hs
 have l1:=a.lt hs
 by_cases h:isM L [58] (Zb L s).2=true
 ·rw [if_pos h] at e ⊢
  have g:=ZC hE l1 h
  have b:=Zo hE (g.lt l1)
  have l3:=b.lt (g.lt l1)
  have k:=ZeI hE (Zr 0) l3
  have l4:=k.lt l3
  have key:∀ (q:PS) (nn:List Int),Adv L (ZD L (Zr 0) (Zb L (Zd (Zb L s).2)).2).2 q->(ZB L [105,110] 2 (ZB L [116,111] 1 (ZB L [97,116] 0 q).2).2).2.err=0->szT (.mk 5 [(Zb L s).1,(Zb L (Zd (Zb L s).2)).1] nn (Ze L s) ((ZB L [97,116] 0 q).1++(ZB L [116,111] 1 (ZB L [97,116] 0 q).2).1++(ZB L [105,110] 2 (ZB L [116,111] 1 (ZB L [97,116] 0 q).2).2).1))+s.at_<=(ZB L [105,110] 2 (ZB L [116,111] 1 (ZB L [97,116] 0 q).2).2).2.at_:=fun q nn hq e=>by
   have x:=Zcu hE [97,116] 0 (hq.lt l4)
   have y:=Zcu hE [116,111] 1 (x.lt (hq.lt l4))
   have zx:=Zg4 hE [97,116] 0 (hq.lt l4)
   have zy:=Zg4 hE [116,111] 1 (x.lt (hq.lt l4))
   have zz:=Zg4 hE [105,110] 2 (y.lt (x.lt (hq.lt l4)))
   have z:=Zcu hE [105,110] 2 (y.lt (x.lt (hq.lt l4)))
   have:=a.on (g.toAdv.err (b.toAdv.err (k.toAdv.err (hq.err (x.err (y.err (z.err e)))))))
   have:=g.le
   have:=b.le
   have:=k.le
   have:=hq.le
   rw [ZbJ,ZdN,ZdN]
   omega
  by_cases h2:isM L [108,101,97,115,116] (ZD L (Zr 0) (Zb L (Zd (Zb L s).2)).2).2=true
  ·rw [if_pos h2] at e ⊢
   have e':=ZC hE l4 h2
   have n:=Zc4 hE 1 (e'.lt l4)
   have w:=Zq hE [47] (n.lt (e'.lt l4))
   have d:=Zc4 hE 1 (w.lt (n.lt (e'.lt l4)))
   exact key _ _ (e'.toAdv.trans (n.toAdv.trans (w.toAdv.trans d.toAdv))) e
  ·rw [if_neg h2] at e ⊢;exact key _ _ (Adv.refl _) e
 ·rw [if_neg h] at e ⊢
  have:=a.on e
  dsimp only
  rw [ZbJ,Zaq]
  omega
theorem Zsv (hE:ZW L) {f:Nat} {ex st:PS->Tr×PS} (hp:Stm L f st) (hz:Zib L f st) {s:PS} (hs:Dp L (f+1) s) (h200:s.deep<=200) (e:(fnM L ex st s).2.err=0):szT (fnM L ex st s).1+s.at_<=(fnM L ex st s).2.at_:=by
 have D:=ZR (L:=L) (f+1)
 have g:=Zq hE [102,110] hs.lt
 have d1:=D.next _ _ ⟨hs,h200⟩ g.toAdv
 have g2:=Zo hE d1.1.lt
 have d2:=D.next _ _ d1 g2.toAdv
 have g3:=Zq hE [40] d2.1.lt
 have d3:=D.next _ _ d2 g3.toAdv
 have g4:=Zc6 hE D (fun s h=>(ZdK hE h.1.lt).toAdv) (L.length+1) true [] _ d3
 have d4:=D.next _ _ d3 g4
 have z5:=ZdG hE hp.adv hz d4.1 d4.2 e
 have e4:=(Zbz hE hp.adv d4.1 d4.2).toAdv.err e
 have z4:=Zhr hE D (fun s h=>(ZdK hE h.1.lt).toAdv) (fun s h e=>Zqs hE h.1.lt e) (L.length+1) true [] _ d3 e4
 have:=g.on (g2.toAdv.err (g3.toAdv.err (g4.err e4)))
 have:=g2.le
 have:=g3.le
 rw [Zaq] at z4
 unfold fnM
 dsimp only
 rw [ZbJ,ZdN,Zcq]
 omega
theorem Zdv (hE:ZW L) {f:Nat} {ex st:PS->Tr×PS} (hp:Stm L f st):∀ (g:Nat) (l:List Tr) (s:PS),Dp L (f+1) s/\s.deep<=200->Adv L s (Zaz L ex st g l s).2
 | 0,_,s,_=>Adv.refl s
 | g+1,l,s,hs=>by
  have D:=ZR (L:=L) (f+1)
  unfold Zaz
  by_cases he:s.err=0/\(ZaK L s).1≠3
  ·rw [if_pos he]
   by_cases h1:isM L [112,114,111,116,111] s=true
   ·rw [if_pos h1]
    have n:=(Zg9 hE hs.1.lt).toAdv
    exact n.trans (Zdv hE hp g _ _ (D.next _ _ hs n))
   rw [if_neg h1]
   by_cases h2:isM L [102,110] s=true
   ·rw [if_pos h2]
    have n:=(Zku hE (ex:=ex) hp hs.1 hs.2).toAdv
    exact n.trans (Zdv hE hp g _ _ (D.next _ _ hs n))
   rw [if_neg h2]
   have n:=(ZeG (L:=L) (e:=11) (by decide) s).toAdv
   exact n.trans (Zdv hE hp g _ _ (D.next _ _ hs n))
  ·rw [if_neg he];exact Adv.refl s
theorem ZfM (hE:ZW L) {f:Nat} {ex st:PS->Tr×PS} (hp:Stm L f st) (hz:Zib L f st):∀ (g:Nat) (l:List Tr) (s:PS),Dp L (f+1) s/\s.deep<=200->(Zaz L ex st g l s).2.err=0->Zaq (Zaz L ex st g l s).1+s.at_<=(Zaz L ex st g l s).2.at_+Zaq l
 | 0,l,s,_,_=>by rw [Zaz];dsimp only;omega
 | g+1,l,s,hs,e=>by
  have D:=ZR (L:=L) (f+1)
  unfold Zaz at e ⊢
  by_cases he:s.err=0/\(ZaK L s).1≠3
  ·rw [if_pos he] at e ⊢
   by_cases h1:isM L [112,114,111,116,111] s=true
   ·rw [if_pos h1] at e ⊢
    have n:=(Zg9 hE hs.1.lt).toAdv
    have hd:=D.next _ _ hs n
    have z:=ZfM hE hp hz g (l++[(ZbL L s).1]) _ hd e
    have z2:=Zqx hE hs.1.lt ((Zdv hE hp g (l++[(ZbL L s).1]) _ hd).err e)
    rw [ZdN,Zcq] at z
    dsimp only at z ⊢
    omega
   rw [if_neg h1] at e ⊢
   by_cases h2:isM L [102,110] s=true
   ·rw [if_pos h2] at e ⊢
    have n:=(Zku hE (ex:=ex) hp hs.1 hs.2).toAdv
    have hd:=D.next _ _ hs n
    have z:=ZfM hE hp hz g (l++[(fnM L ex st s).1]) _ hd e
    have z2:=Zsv hE hp hz hs.1 hs.2 ((Zdv hE hp g (l++[(fnM L ex st s).1]) _ hd).err e)
    rw [ZdN,Zcq] at z
    dsimp only at z ⊢
    omega
   rw [if_neg h2] at e ⊢
   have n:=(ZeG (L:=L) (e:=11) (by decide) s).toAdv
   have z:=ZfM hE hp hz g l _ (D.next _ _ hs n) e
   have:=n.le
   omega
  ·rw [if_neg he];dsimp only;omega
end
end
section
section
variable {L:List Tok}
def Zoa (L:List Tok):Prop:=∀ t∈L,t.1=1->t.2.1.all ZaU=true/\t.2.1.length<=18
def Zdy (L:List Tok):Prop:=Zoa L/\L.length<=6001
theorem Zkh {p:UInt8->Bool}:∀ l:Txt,(l.take (Zap p l)).all p=true
 | []=>rfl
 | c::r=>by
  rw [ZcH]
  by_cases h:p c=true
  ·rw [if_pos h,List.take_succ_cons,List.all_cons,h,Zkh r];rfl
  ·rw [if_neg h];rfl
theorem ZoB {c:UInt8} {r:Txt} (h:(ZaJ (c::r)).2.2=true) (h1:(ZaJ (c::r)).1=1):((c::r).take (ZaJ (c::r)).2.1).all ZaU=true/\((c::r).take (ZaJ (c::r)).2.1).length<=18:=by
 rw [ZbT] at h h1 ⊢
 by_cases q:ZbS c=true
 ·rw [if_pos q] at h1;cases h1
 rw [if_neg q] at h h1 ⊢
 by_cases d:ZaU c=true
 ·rw [if_pos d] at h h1 ⊢
  dsimp only at h ⊢
  rw [decide_eq_true_eq] at h
  exact ⟨Zkh _,by rw [List.length_take];omega⟩
 ·rw [if_neg d] at h1
  split at h1<;>cases h1
theorem Zqm:∀ (m:Nat) (l:List UInt8) (a:Nat) (ts:List Tok),l.length<=m->Zbx l a=.ok ts->Zoa ts:=by
 intro m
 induction m with
 | zero=>
  intro l a ts hm h
  obtain rfl:l=[]:=List.eq_nil_of_length_eq_zero (by omega)
  rw [Zg2] at h
  injection h with h
  subst h
  intro t ht;rw [List.mem_singleton] at ht;subst ht;intro h;cases h
 | succ m ih=>
  intro l a ts hm h
  cases q:l.drop (ZO l) with
  | nil=>
   have hb:ZO l=l.length:=by
    have:=List.length_drop (i:=ZO l) (l:=l)
    have:=ZfG l
    rw [q] at *
    simp at *
    omega
   rw [Zgc hb] at h
   injection h with h
   subst h
   intro t ht;rw [List.mem_singleton] at ht;subst ht;intro h;cases h
  | cons c r=>
   have hl:(c::r).length<=l.length:=by rw [<- q,List.length_drop];omega
   cases f:(ZaJ (c::r)).2.2 with
   | false=>rw [Zgb q f] at h;cases h
   | true=>
    have hp:=ZgY f
    rw [Ze8 q f] at h
    cases hr:Zbx ((c::r).drop (ZaJ (c::r)).2.1) (a+ZO l+(ZaJ (c::r)).2.1) with
    | bad p=>rw [hr] at h;cases h
    | ok us=>
     rw [hr] at h
     injection h with h
     subst h
     have hd:((c::r).drop (ZaJ (c::r)).2.1).length<=l.length-1:=by rw [List.length_drop];omega
     intro t ht
     rcases List.mem_cons.1 ht with rfl | ht
     ·exact fun h1=>ZoB f h1
     ·exact ih _ _ us (by omega) hr t ht
theorem ZqQ (hT:Zdy L) (k:Nat) (h:(Zi L k).1=1):(Zi L k).2.1.all ZaU=true/\(Zi L k).2.1.length<=18:=by
 unfold Zi at h ⊢
 cases q:L[k]? with
 | none=>rw [q] at h;cases h
 | some t=>rw [q] at h;exact hT.1 t (List.mem_of_getElem? q) h
theorem ZkL:∀ (l:Txt) (n k:Nat),l.all ZaU=true->k+l.length<=18->n<10 ^ k->∃ m:Nat,l.foldl (fun n c=>IntKind.i64.wrap (IntKind.i64.wrap (10*n)+((c.toNat:Int)-48) % 256)) (n:Int)=(m:Int)/\m<10 ^ 18
 | [],n,k,_,hk,h1=>⟨n,rfl,Nat.lt_of_lt_of_le h1 (Nat.pow_le_pow_right (by decide) (by simpa using hk))⟩
 | c::r,n,k,ha,hk,h1=>by
  rw [List.all_cons,Bool.and_eq_true] at ha
  rw [List.length_cons] at hk
  rw [List.foldl_cons]
  have hd:48<=c.toNat/\c.toNat<=57:=by
   have:=ha.1
   unfold ZaU Zfy at this
   simp at this
   omega
  have hp:(10:Nat) ^ k<=10 ^ 17:=Nat.pow_le_pow_right (by decide) (by omega)
  have h17:(10:Nat) ^ 17=100000000000000000:=by decide
  rw [h17] at hp
  have e:(10:Nat) ^ (k+1)=10 ^ k*10:=Nat.pow_succ 10 k
  have w1:IntKind.i64.wrap (10*(n:Int))=10*(n:Int):=IntWalk.i64_in _ (by omega)
  have m:((c.toNat:Int)-48) % 256=(c.toNat:Int)-48:=by omega
  have q:10*(n:Int)+((c.toNat:Int)-48)=((10*n+(c.toNat-48):Nat):Int):=by omega
  rw [w1,m,IntWalk.i64_in _ (by omega),q]
  exact ZkL r _ (k+1) ha.2 (by omega) (by omega)
theorem Zrn {l:Txt} (ha:l.all ZaU=true) (hl:l.length<=18):ZaI (Zdt l):=by
 obtain ⟨m,h1,h2⟩:=ZkL l 0 0 ha (by omega) (by decide)
 have e:(10:Nat) ^ 18=1000000000000000000:=by decide
 rw [e] at h2
 unfold ZaI Zdt
 have h1':l.foldl (fun n c=>IntKind.i64.wrap (IntKind.i64.wrap (10*n)+((c.toNat:Int)-48) % 256)) (0:Int)=(m:Int):=h1
 rw [h1']
 omega
theorem Zii {e:Int} {s:PS} (he:e≠0):(Zb4 L e s).err≠0:=by
 unfold Zb4
 by_cases h:s.err=0
 ·rw [if_pos h];exact he
 ·rw [if_neg h];exact h
theorem ZhF (hT:Zdy L) {least:Int} {s:PS} (e:(Zao L least s).2.err=0):least<=(Zao L least s).1/\ZaI (Zao L least s).1:=by
 unfold Zao at e ⊢
 by_cases h:(ZaK L s).1=1/\¬ Zdt (ZaK L s).2.1<least/\s.err=0
 ·rw [if_pos h]
  refine ⟨by dsimp only;omega,?_⟩
  have e0:ZaK L s=Zi L s.at_:=by unfold ZaK;rw [if_neg (by simp [h.2.2])]
  have:=ZqQ hT s.at_ (by rw [<- e0];exact h.1)
  rw [<- e0] at this
  exact Zrn this.1 this.2
 ·rw [if_neg h] at e;exact absurd e (Zii (by decide))
theorem ZaX {s:PS} (e:(Zb L s).2.err=0):ZN (Zb L s).1=true:=by
 unfold Zb at e ⊢
 by_cases h:ZaZ L s=true
 ·rw [if_pos h]
  unfold ZaZ at h
  simp only [Bool.and_eq_true] at h
  exact h.1.2
 ·rw [if_neg h] at e;exact absurd e (Zii (by decide))
theorem ZjB:∀ (l:List (Int×Txt)) {s:PS},(ZD L l s).2.err=0->∃ w,((ZD L l s).1,w)∈l
 | [],s,e=>absurd e (Zii (by decide))
 | (i,w)::r,s,e=>by
  unfold ZD at e ⊢
  by_cases h:isM L w s=true
  ·rw [if_pos h];exact ⟨w,List.mem_cons_self⟩
  ·rw [if_neg h] at e ⊢
   obtain ⟨v,hv⟩:=ZjB r e
   exact ⟨v,List.mem_cons_of_mem _ hv⟩
theorem Zqg {s:PS} (e:(ZD L (Zr 0) s).2.err=0):0<=(ZD L (Zr 0) s).1/\(ZD L (Zr 0) s).1<=4:=by
 obtain ⟨w,hw⟩:=ZjB (Zr 0) e
 have all:∀ x∈Zr 0,0<=x.1/\x.1<=4:=by decide
 exact all _ hw
theorem Zqh {s:PS} (e:(ZD L (Zr 1) s).2.err=0):1<=(ZD L (Zr 1) s).1/\(ZD L (Zr 1) s).1<=4:=by
 obtain ⟨w,hw⟩:=ZjB (Zr 1) e
 have all:∀ x∈Zr 1,1<=x.1/\x.1<=4:=by decide
 exact all _ hw
theorem Zbu (s:PS):0<=Ze L s:=Int.natCast_nonneg _
theorem Zmp (hE:ZW L):∀ (f:Nat) (l:List Txt) {s:PS},s.at_<L.length->ZcF l=true->1<=l.length->(Zdg L f l s).2.err=0->ZcF (Zdg L f l s).1=true/\1<=(Zdg L f l s).1.length/\(Zdg L f l s).1.length<=l.length+f
 | 0,l,s,_,hl,h1,e=>⟨hl,h1,Nat.le_refl _⟩
 | f+1,l,s,hs,hl,h1,e=>by
  unfold Zdg at e ⊢
  by_cases h:isM L [124] s=true
  ·rw [if_pos h] at e ⊢
   have g:=ZC hE hs h
   have n:=Zo hE (g.lt hs)
   have b:=Zf1 hE f (l++[(Zb L (Zd s)).1]) (n.lt (g.lt hs))
   have nm:=ZaX (b.err e)
   have r:=Zmp hE f (l++[(Zb L (Zd s)).1]) (n.lt (g.lt hs)) (by unfold ZcF at hl ⊢;rw [List.all_append,hl];simp [nm]) (by simp) e
   refine ⟨r.1,r.2.1,Nat.le_trans r.2.2 ?_⟩
   rw [List.length_append,List.length_singleton]
   omega
  ·rw [if_neg h];exact ⟨hl,h1,Nat.le_add_right _ _⟩
theorem Zb0 {k p:Int} {ws:List Txt} {us:List Int} {ks:List Tr} (h1:0<=p) (h2:ZcF ws=true) (h3:ZbW us=true) (h4:Zbe k ws us (ks.map Tr.kd) (ks.map Tr.wh)=true) (h5:VTs ks) (h6:ws.length<=20000:=by simp):VT (.mk k ws us p ks):=by
 rw [VT];exact ⟨h1,⟨h2,h6⟩,h3,h4,h5⟩
theorem ZdB:VTs []:=by rw [VTs];trivial
theorem Zfd {t:Tr} (h:VT t):VTs [t]:=by rw [VTs];exact ⟨h,ZdB⟩
theorem ZfY {t u:Tr} (h:VT t) (k:VT u):VTs [t,u]:=by rw [VTs];exact ⟨h,Zfd k⟩
theorem ZpJ {t u v:Tr} (h:VT t) (k:VT u) (l:VT v):VTs [t,u,v]:=by rw [VTs];exact ⟨h,ZfY k l⟩
theorem Zfz {a:Txt} (h:ZN a=true):ZcF [a]=true:=by simp [ZcF,h]
theorem Zip {a b:Txt} (h:ZN a=true) (k:ZN b=true):ZcF [a,b]=true:=by simp [ZcF,h,k]
theorem Zg5 (hE:ZW L) (hT:Zdy L) {x:Txt} {i:Int} (hi:0<=i/\i<=2) {s:PS} (hs:s.at_<L.length) (e:(ZB L x i s).2.err=0):(ZB L x i s).1=[]\/∃ t,(ZB L x i s).1=[t]/\VT t/\t.kd=6/\t.wh=i:=by
 unfold ZB at e ⊢
 by_cases h:isM L x s=true
 ·rw [if_pos h] at e ⊢
  have g:=ZC hE hs h
  have n:=Zo hE (g.lt hs)
  dsimp only at e ⊢
  have b:=Zf1 hE L.length [(Zb L (Zd s)).1] (n.lt (g.lt hs))
  have nm:=ZaX (b.err e)
  obtain ⟨h1,h2,h3⟩:=Zmp hE L.length [(Zb L (Zd s)).1] (n.lt (g.lt hs)) (Zfz nm) (by simp) e
  refine .inr ⟨_,rfl,Zb0 (Zbu s) h1 ?_ ?_ ZdB (by have:=hT.2;rw [List.length_singleton] at h3;omega),rfl,rfl⟩
  ·simp [ZbW];omega
  ·simp [Zbe,Zbt,Zex,Zbs]
   exact ⟨h2,hi.2⟩
 ·rw [if_neg h];exact .inl rfl
abbrev VE (t:Tr):Prop:=VT t/\Zat t.kd=true
theorem Zjl {op:Int} (h0:0<=op) (h5:op<=5) {a b:Tr} (ha:VE a) (hb:VE b):VE (Za0 op a b):=by
 obtain ⟨k,ws,us,p,ks⟩:=a
 have hp:=ha.1
 rw [VT] at hp
 refine ⟨Zb0 hp.1 rfl ?_ ?_ (ZfY ha.1 hb.1),rfl⟩
 ·simp [ZbW];omega
 ·have h1:=ha.2
  have h2:=hb.2
  simp [Zbe,Zbt,Zex,Zbs,h1,h2,h5]
abbrev VeM (D:PS->Prop) (M:PS->Tr×PS):Prop:=∀ s,D s->(M s).2.err=0->VE (M s).1
theorem ZgT (hE:ZW L) {D:PS->Prop} (hD:Dom L D) {pc:PS->Tr×PS} (hp:Onw L D pc) (hz:VeM D pc) (x y:Txt) {i j:Int} (hi:0<=i/\i<=5) (hj:0<=j/\j<=5):∀ (f:Nat) (a:Tr) (s:PS),D s->VE a->(ZaA L pc x y i j f a s).2.err=0->VE (ZaA L pc x y i j f a s).1
 | 0,a,s,_,ha,_=>ha
 | f+1,a,s,hs,ha,e=>by
  unfold ZaA at e ⊢
  by_cases he:s.err=0
  ·rw [if_pos he] at e ⊢
   by_cases h:isM L x s=true
   ·rw [if_pos h] at e ⊢
    have g:=ZC hE (hD.lt _ hs) h
    have hd:=hD.next _ _ hs g.toAdv
    have n:=hp _ hd
    have hd2:=hD.next _ _ hd n.toAdv
    have c:=ZcJ hE hD hp x y i j f (Za0 i a (pc (Zd s)).1) _ hd2
    exact ZgT hE hD hp hz x y hi hj f _ _ hd2 (Zjl hi.1 hi.2 ha (hz _ hd (c.err e))) e
   ·rw [if_neg h] at e ⊢
    by_cases h':isM L y s=true
    ·rw [if_pos h'] at e ⊢
     have g:=ZC hE (hD.lt _ hs) h'
     have hd:=hD.next _ _ hs g.toAdv
     have n:=hp _ hd
     have hd2:=hD.next _ _ hd n.toAdv
     have c:=ZcJ hE hD hp x y i j f (Za0 j a (pc (Zd s)).1) _ hd2
     exact ZgT hE hD hp hz x y hi hj f _ _ hd2 (Zjl hj.1 hj.2 ha (hz _ hd (c.err e))) e
    ·rw [if_neg h'];exact ha
  ·rw [if_neg he];exact ha
theorem ZnM (hE:ZW L) {D:PS->Prop} (hD:Dom L D) {pc:PS->Tr×PS} (hp:Onw L D pc) (hz:VeM D pc):VeM D (Zaj L pc):=fun s hs e=>by
 have hd:=hD.next _ _ hs (hp s hs).toAdv
 exact ZgT hE hD hp hz [42] [47] (by decide) (by decide) (L.length+1) (pc s).1 _ hd (hz s hs ((ZcJ hE hD hp [42] [47] 4 5 (L.length+1) (pc s).1 _ hd).err e)) e
theorem Zsk (hE:ZW L) {D:PS->Prop} (hD:Dom L D) {pc:PS->Tr×PS} (hp:Onw L D pc) (hz:VeM D pc):VeM D (ZK L pc):=fun s hs e=>by
 have hq:=Zeb hE hD hp
 have hw:=ZnM hE hD hp hz
 have hd:=hD.next _ _ hs (hq s hs).toAdv
 exact ZgT hE hD hq hw [43] [45] (by decide) (by decide) (L.length+1) (Zaj L pc s).1 _ hd (hw s hs ((ZcJ hE hD hq [43] [45] 2 3 (L.length+1) (Zaj L pc s).1 _ hd).err e)) e
theorem Zmt (hE:ZW L) {D:PS->Prop} (hD:Dom L D) {pc:PS->Tr×PS} (hp:Onw L D pc) (hz:VeM D pc):VeM D (ZaO L pc):=fun s hs e=>by
 have hq:=ZgJ hE hD hp
 have hw:=Zsk hE hD hp hz
 have ha:=hD.next _ _ hs (hq s hs).toAdv
 unfold ZaO at e ⊢
 dsimp only at e ⊢
 by_cases h:isM L [60] (ZK L pc s).2=true
 ·rw [if_pos h] at e ⊢
  have g:=ZC hE (hD.lt _ ha) h
  have hd:=hD.next _ _ ha g.toAdv
  exact Zjl (by decide) (by decide) (hw s hs (g.toAdv.err ((hq _ hd).toAdv.err e))) (hw _ hd e)
 ·rw [if_neg h] at e ⊢
  by_cases h':isM L [61,61] (ZK L pc s).2=true
  ·rw [if_pos h'] at e ⊢
   have g:=ZC hE (hD.lt _ ha) h'
   have hd:=hD.next _ _ ha g.toAdv
   exact Zjl (by decide) (by decide) (hw s hs (g.toAdv.err ((hq _ hd).toAdv.err e))) (hw _ hd e)
  ·rw [if_neg h'] at e ⊢;exact hw s hs e
theorem Ziw (hE:ZW L) (hT:Zdy L):∀ (f:Nat),VeM (Dp L f) (ZE L f)
 | 0,s,hs,e=>by have:=hs.fuel e;omega
 | f+1,s,hs,e=>by
  unfold ZE at e ⊢
  by_cases he:s.err≠0
  ·rw [if_pos he] at e;exact absurd e he
  rw [if_neg he] at e ⊢
  have e0:s.err=0:=Classical.not_not.1 he
  by_cases h1:(ZaK L s).1=1
  ·rw [if_pos h1] at e ⊢
   have:=(ZhF hT e).2
   unfold ZaI at this
   refine ⟨Zb0 (Zbu s) rfl ?_ rfl ZdB,rfl⟩
   simp [ZbW];omega
  rw [if_neg h1] at e ⊢
  by_cases h2:ZaZ L s=true
  ·rw [if_pos h2] at e ⊢
   exact ⟨Zb0 (Zbu s) (Zfz (ZaX e)) rfl rfl ZdB,rfl⟩
  rw [if_neg h2] at e ⊢
  by_cases h3:isM L [45] s=true
  ·rw [if_pos h3] at e ⊢
   have g:=ZC hE hs.lt h3
   have d:=(ZX (f+1)).next _ _ hs g.toAdv
   have i:=Zep d (.inl e0)
   have h:=Ziw hE hT f _ i e
   refine ⟨Zb0 (Zbu s) rfl rfl ?_ (Zfd h.1),rfl⟩
   have h2:=h.2
   simp [Zbe,Zbt,Zbs,h2]
  rw [if_neg h3] at e ⊢
  have g:=Zq hE [40] hs.lt
  have d:=(ZX (f+1)).next _ _ hs g.toAdv
  have i:=Zep d (.inr (by rw [g.deep];exact (hs.fuel e0).1))
  have x:=ZgC hE (ZX f) (Zb9 hE f) _ i
  have lt:(ZdW (ZaO L (ZE L f) (inM L (Zf L [40] s))).2).at_<L.length:=x.lt i.lt
  have w:=Zq hE [41] lt
  have ex:(ZaO L (ZE L f) (inM L (Zf L [40] s))).2.err=0:=w.toAdv.err e
  exact Zmt hE (ZX f) (Zb9 hE f) (Ziw hE hT f) _ i ex
theorem Zhf (hE:ZW L) {D:PS->Prop} (hD:Dom L D) {ea:PS->Tr×PS} {G:Tr->Prop} (hp:∀ s,D s->s.err=0->Adv L s (ea s).2) (hz:∀ s,D s->s.err=0->(ea s).2.err=0->G (ea s).1) (x:Txt):∀ (f:Nat) (l:List Tr) (s:PS),D s->(∀ t∈l,G t)->(ZaP L ea x f l s).2.err=0->∀ t∈(ZaP L ea x f l s).1,G t
 | 0,l,s,_,hl,_=>hl
 | f+1,l,s,hs,hl,e=>by
  unfold ZaP at e ⊢
  by_cases he:s.err=0
  ·rw [if_pos he] at e ⊢
   by_cases h:isM L x s=true
   ·rw [if_pos h];exact hl
   ·rw [if_neg h] at e ⊢
    have n:=hp s hs he
    have hd:=hD.next _ _ hs n
    have h2:=hz s hs he ((ZcX hE hD hp x f (l++[(ea s).1]) _ hd).err e)
    exact Zhf hE hD hp hz x f (l++[(ea s).1]) _ hd (fun t ht=>by
     rcases List.mem_append.1 ht with ht | ht
     ·exact hl t ht
     ·rw [List.mem_singleton] at ht;subst ht;exact h2) e
  ·rw [if_neg he];exact hl
theorem Zhs (hE:ZW L) {D:PS->Prop} (hD:Dom L D) {ea:PS->Tr×PS} {G:Tr->Prop} (hp:∀ s,D s->Adv L s (ea s).2) (hz:∀ s,D s->(ea s).2.err=0->G (ea s).1):∀ (f:Nat) (first:Bool) (l:List Tr) (s:PS),D s->(∀ t∈l,G t)->(ZT L ea f first l s).2.err=0->∀ t∈(ZT L ea f first l s).1,G t
 | 0,_,l,s,_,hl,_=>hl
 | f+1,first,l,s,hs,hl,e=>by
  unfold ZT at e ⊢
  by_cases he:s.err=0
  ·rw [if_pos he] at e ⊢
   by_cases h:isM L [41] s=true
   ·rw [if_pos h];exact hl
   ·rw [if_neg h] at e ⊢
    have w:Adv L s (if first then s else Zf L [44] s):=by
     cases first
     ·exact (Zq hE [44] (hD.lt _ hs)).toAdv
     ·exact Adv.refl s
    have dw:=hD.next _ _ hs w
    have n:=hp _ dw
    have hd:=hD.next _ _ dw n
    have h2:=hz _ dw ((Zc6 hE hD hp f false (l++[(ea (if first then s else Zf L [44] s)).1]) _ hd).err e)
    exact Zhs hE hD hp hz f false (l++[(ea (if first then s else Zf L [44] s)).1]) _ hd (fun t ht=>by
     rcases List.mem_append.1 ht with ht | ht
     ·exact hl t ht
     ·rw [List.mem_singleton] at ht;subst ht;exact h2) e
  ·rw [if_neg he];exact hl
abbrev VB (t:Tr):Prop:=VT t/\t.kd=7
theorem Zf6 {f:Int->Bool} {ts:List Tr} (h:∀ t∈ts,f t.kd=true):(ts.map Tr.kd).all f=true:=by
 rw [List.all_map,List.all_eq_true];exact h
theorem ZdH (hE:ZW L) {f:Nat} {st:PS->Tr×PS} (hp:∀ s,Dp L f s->s.err=0->Adv L s (st s).2) (hz:∀ s,Dp L f s->s.err=0->(st s).2.err=0->VT (st s).1/\ZcL (st s).1.kd=true) {s:PS} (hs:Dp L (f+1) s) (h200:s.deep<=200) (e:(Zag L st s).2.err=0):VB (Zag L st s).1:=by
 have g:=Zq hE [123] hs.lt
 have d:=(ZX (f+1)).next _ _ hs g.toAdv
 have i:=Zep d (.inr (by rw [g.deep];exact h200))
 have eu:(ZaP L st [125] (L.length+1) [] (inM L (Zf L [123] s))).2.err=0:=e
 have h:=Zhf hE (ZX f) (G:=fun t=>VT t/\ZcL t.kd=true) hp hz [125] _ [] _ i (fun t ht=>by simp at ht) eu
 unfold Zag
 refine ⟨Zb0 (Zbu s) rfl rfl ?_ (Ze4 fun t ht=>(h t ht).1),rfl⟩
 have:=Zf6 fun t ht=>(h t ht).2
 simp [Zbe,Zbt,this]
end
end
end Go.Proofs.YtkongcicmajolaaGreatDoor
