import Derived.Test.YtkongcicmajolaaGreatDoorQBP
import Derived.Test.YtkongcicmajolaaGreatDoorQBQ
import Derived.Test.YtkongcicmajolaaGreatDoorQBR
import Derived.Test.YtkongcicmajolaaGreatDoorQBS
import Derived.Test.YtkongcicmajolaaGreatDoorQBX
import Derived.Test.YtkongcicmajolaaGreatDoorQBY
set_option maxRecDepth 100000
set_option maxHeartbeats 8000000
namespace Go.Proofs.YtkongcicmajolaaGreatDoor
section
section
variable {L:List Tok}
theorem Zr6 {D:PS->Prop} {ex:PS->Tr×PS} (hz:VeM D ex):∀ s,D s->(ZaS L ex s).2.err=0->VT (ZaS L ex s).1/\Zef (ZaS L ex s).1.kd=true:=fun s hs e=>by
 unfold ZaS at e ⊢
 by_cases h:isM L [38] s=true
 ·rw [if_pos h] at e ⊢
  exact ⟨Zb0 (Zbu s) (Zfz (ZaX e)) rfl rfl ZdB,rfl⟩
 ·rw [if_neg h] at e ⊢
  have:=hz s hs e
  exact ⟨this.1,by unfold Zef;rw [this.2,Bool.or_true]⟩
theorem Zre (hE:ZW L) {D:PS->Prop} (hD:Dom L D) {ex:PS->Tr×PS} (hx:Onw L D ex) (hz:VeM D ex) {p:Int} (hp:0<=p):∀ s,D s->(ZcC L ex p s).2.err=0->VT (ZcC L ex p s).1/\ZcL (ZcC L ex p s).1.kd=true:=fun s hs e=>by
 have a:=Zo hE (hD.lt _ hs)
 have l1:=a.lt (hD.lt _ hs)
 have key:∀ q:PS,Adv L (Zb L s).2 q->(Zf L [59] (ZT L (ZaS L ex) (L.length+1) true [] (Zf L [40] q)).2).err=0->q.err=0/\(Zb L s).2.err=0/\∀ t∈(ZT L (ZaS L ex) (L.length+1) true [] (Zf L [40] q)).1,VT t/\Zef t.kd=true:=fun q hq e=>by
  have w:=Zq hE [40] (hq.lt l1)
  have dq:=hD.next _ _ (hD.next _ _ (hD.next _ _ hs a.toAdv) hq) w.toAdv
  have c:=Zc6 hE hD (fun s h=>(Zhm hE hD hx s h).toAdv) (L.length+1) true [] _ dq
  have v:=Zq hE [59] (c.lt (w.lt (hq.lt l1)))
  have ec:=v.toAdv.err e
  have eq:=w.toAdv.err (c.err ec)
  exact ⟨eq,hq.err eq,Zhs hE hD (G:=fun t=>VT t/\Zef t.kd=true) (fun s h=>(Zhm hE hD hx s h).toAdv) (Zr6 hz) (L.length+1) true [] _ dq (fun t ht=>by simp at ht) ec⟩
 unfold ZcC at e ⊢
 dsimp only at e ⊢
 by_cases h:isM L [61] (Zb L s).2=true
 ·rw [if_pos h] at e ⊢
  have g:=ZC hE l1 h
  obtain ⟨k1,k2,k3⟩:=key _ (g.toAdv.trans (Zo hE (g.lt l1)).toAdv) e
  refine ⟨Zb0 hp (Zip (ZaX k1) (ZaX k2)) rfl ?_ (Ze4 fun t ht=>(k3 t ht).1),rfl⟩
  have:=Zf6 fun t ht=>(k3 t ht).2
  simp [Zbe,Zbt,this]
 ·rw [if_neg h] at e ⊢
  obtain ⟨k1,k2,k3⟩:=key _ (Adv.refl _) e
  refine ⟨Zb0 hp (Zfz (ZaX k2)) rfl ?_ (Ze4 fun t ht=>(k3 t ht).1),rfl⟩
  have:=Zf6 fun t ht=>(k3 t ht).2
  simp [Zbe,Zbt,this]
abbrev Zic (L:List Tok) (f:Nat) (st:PS->Tr×PS):Prop:=∀ s,Dp L f s->s.err=0->(st s).2.err=0->VT (st s).1/\ZcL (st s).1.kd=true
theorem Zrg (hE:ZW L) {f:Nat} {st:PS->Tr×PS} (hp:Stm L f st) (hz:Zic L f st) {s:PS} (hs:Dp L (f+1) s) (h200:s.deep<=200) (e:(ZcR L st s).2.err=0):VT (ZcR L st s).1/\isB [12] (ZcR L st s).1.kd=true:=by
 have a:=Zo hE hs.lt
 have d:=(ZX (f+1)).next _ _ hs a.toAdv
 have h2:(Zb L s).2.deep<=200:=by rw [a.deep];exact h200
 have b:=ZdH hE hp.adv hz d h2 e
 have ea:=(Zbz hE hp.adv d h2).toAdv.err e
 unfold ZcR
 dsimp only
 refine ⟨Zb0 (Zbu s) (Zfz (ZaX ea)) rfl ?_ (Zfd b.1),rfl⟩
 have h7:=b.2
 simp [Zbe,Zbt,Zbs,isB,h7]
theorem Zsu (hE:ZW L) {f:Nat} {st:PS->Tr×PS} (hp:Stm L f st) (hz:Zic L f st) {p:Int} (hpl:0<=p) {s:PS} (hs:Dp L (f+1) s) (h200:s.deep<=200) (e:(doM L st p s).2.err=0):VT (doM L st p s).1/\ZcL (doM L st p s).1.kd=true:=by
 have D:=ZR (L:=L) (f+1)
 have a:=Zo hE hs.lt
 have d1:=D.next _ _ ⟨hs,h200⟩ a.toAdv
 have w:=Zq hE [46] d1.1.lt
 have d2:=D.next _ _ d1 w.toAdv
 have b:=Zo hE d2.1.lt
 have d3:=D.next _ _ d2 b.toAdv
 unfold doM at e ⊢
 dsimp only at e ⊢
 by_cases h:isM L [59] (Zb L (Zf L [46] (Zb L s).2)).2=true
 ·rw [if_pos h] at e ⊢
  have g:=ZC hE d3.1.lt h
  have eb:=g.toAdv.err e
  have ea:=w.toAdv.err (b.toAdv.err eb)
  exact ⟨Zb0 hpl (Zip (ZaX ea) (ZaX eb)) rfl rfl ZdB,rfl⟩
 ·rw [if_neg h] at e ⊢
  have v:=Zq hE [123] d3.1.lt
  have d4:=D.next _ _ d3 v.toAdv
  have c:=ZcX hE D (fun s h _=>(ZfR hE hp h.1 h.2).toAdv) [125] (L.length+1) [] _ d4
  have hu:=Zhf hE D (G:=fun t=>VT t/\isB [12] t.kd=true) (fun s h _=>(ZfR hE hp h.1 h.2).toAdv) (fun s h _ e=>Zrg hE hp hz h.1 h.2 e) [125] (L.length+1) [] _ d4 (fun t ht=>by simp at ht) e
  have eb:=v.toAdv.err (c.err e)
  have ea:=w.toAdv.err (b.toAdv.err eb)
  refine ⟨Zb0 hpl (Zip (ZaX ea) (ZaX eb)) rfl ?_ (Ze4 fun t ht=>(hu t ht).1),rfl⟩
  have:=Zf6 fun t ht=>(hu t ht).2
  simp [Zbe,Zbt,this]
theorem Zrr (hE:ZW L) {f:Nat} {ex st:PS->Tr×PS} (hx:Onw L (Dp L (f+1)) ex) (hxz:VeM (Dp L (f+1)) ex) (hp:Stm L f st) (hz:Zic L f st) {p:Int} (hpl:0<=p) {s:PS} (hs:Dp L (f+1) s) (h200:s.deep<=200) (e:(Zbb L ex st p s).2.err=0):VT (Zbb L ex st p s).1/\ZcL (Zbb L ex st p s).1.kd=true:=by
 have D:=ZR (L:=L) (f+1)
 have X:∀ q,Dp L (f+1) q/\q.deep<=200->Adv L q (ex q).2:=fun q h=>(hx q h.1).toAdv
 have B:∀ q,Dp L (f+1) q/\q.deep<=200->Adv L q (Zag L st q).2:=fun q h=>(Zbz hE hp.adv h.1 h.2).toAdv
 unfold Zbb at e ⊢
 by_cases h1:isM L [105,102] s=true
 ·rw [if_pos h1] at e ⊢
  have g:=ZC hE hs.lt h1
  have d1:=D.next _ _ ⟨hs,h200⟩ g.toAdv
  have d2:=D.next _ _ d1 (X _ d1)
  have d3:=D.next _ _ d2 (B _ d2)
  dsimp only at e ⊢
  by_cases h2:isM L [101,108,115,101] (Zag L st (ex (Zd s)).2).2=true
  ·rw [if_pos h2] at e ⊢
   have k:=ZC hE d3.1.lt h2
   have d4:=D.next _ _ d3 k.toAdv
   have e4:=(B _ d4).err e
   have e3:=k.toAdv.err e4
   have z4:=ZdH hE hp.adv hz d4.1 d4.2 e
   have z3:=ZdH hE hp.adv hz d2.1 d2.2 e3
   have z2:=hxz _ d1.1 ((B _ d2).err e3)
   refine ⟨Zb0 hpl rfl rfl ?_ (ZpJ z2.1 z3.1 z4.1),rfl⟩
   have q1:=z2.2;have q2:=z3.2;have q3:=z4.2
   simp [Zbe,Zbt,Zbs,isB,q1,q2,q3]
  ·rw [if_neg h2] at e ⊢
   have z3:=ZdH hE hp.adv hz d2.1 d2.2 e
   have z2:=hxz _ d1.1 ((B _ d2).err e)
   refine ⟨Zb0 hpl rfl rfl ?_ (ZfY z2.1 z3.1),rfl⟩
   have q1:=z2.2;have q2:=z3.2
   simp [Zbe,Zbt,Zbs,isB,q1,q2]
 rw [if_neg h1] at e ⊢
 by_cases h2:isM L [119,104,105,108,101] s=true
 ·rw [if_pos h2] at e ⊢
  have g:=ZC hE hs.lt h2
  have d1:=D.next _ _ ⟨hs,h200⟩ g.toAdv
  have d2:=D.next _ _ d1 (X _ d1)
  have z3:=ZdH hE hp.adv hz d2.1 d2.2 e
  have z2:=hxz _ d1.1 ((B _ d2).err e)
  refine ⟨Zb0 hpl rfl rfl ?_ (ZfY z2.1 z3.1),rfl⟩
  have q1:=z2.2;have q2:=z3.2
  simp [Zbe,Zbt,Zbs,isB,q1,q2]
 rw [if_neg h2] at e ⊢
 by_cases h3:isM L [114,101,116,117,114,110] s=true
 ·rw [if_pos h3] at e ⊢
  have g:=ZC hE hs.lt h3
  have d1:=D.next _ _ ⟨hs,h200⟩ g.toAdv
  have d2:=D.next _ _ d1 (X _ d1)
  have w:=Zq hE [59] d2.1.lt
  have z2:=hxz _ d1.1 (w.toAdv.err e)
  refine ⟨Zb0 hpl rfl rfl ?_ (Zfd z2.1),rfl⟩
  have q1:=z2.2
  simp [Zbe,Zbt,Zbs,q1]
 rw [if_neg h3] at e ⊢
 exact ⟨Zb0 hpl rfl rfl rfl ZdB,rfl⟩
theorem ZqJ (hE:ZW L) (hT:Zdy L) {f:Nat} {st:PS->Tr×PS} (hp:Stm L f st) (hz:Zic L f st) {p:Int} (hpl:0<=p) {s:PS} (hs:Dp L (f+1) s) (h200:s.deep<=200) (e:(ZdS L st p s).2.err=0):VT (ZdS L st p s).1/\ZcL (ZdS L st p s).1.kd=true:=by
 have D:=ZR (L:=L) (f+1)
 unfold ZdS at e ⊢
 dsimp only at e ⊢
 have g:=Zo hE hs.lt
 have d1:=D.next _ _ ⟨hs,h200⟩ g.toAdv
 have g2:=Zq hE [61] d1.1.lt
 have d2:=D.next _ _ d1 g2.toAdv
 have g3:=Zo hE d2.1.lt
 have d3:=D.next _ _ d2 g3.toAdv
 have g4:=ZeI hE (Zr 1) d3.1.lt
 have d4:=D.next _ _ d3 g4.toAdv
 have g5:=Zc4 hE 1 d4.1.lt
 have d5:=D.next _ _ d4 g5.toAdv
 have g6:=Zq hE [47] d5.1.lt
 have d6:=D.next _ _ d5 g6.toAdv
 have g7:=Zc4 hE 1 d6.1.lt
 have d7:=D.next _ _ d6 g7.toAdv
 have g8:=Zcu hE [105,110] 2 d7.1.lt
 have d8:=D.next _ _ d7 g8
 have z9:=ZdH hE hp.adv hz d8.1 d8.2 e
 have e8:=(Zbz hE hp.adv d8.1 d8.2).toAdv.err e
 have e7:=g8.err e8
 have e5:=g6.toAdv.err (g7.toAdv.err e7)
 have e4:=g5.toAdv.err e5
 have e3:=g4.toAdv.err e4
 have e1:=g2.toAdv.err (g3.toAdv.err e3)
 have n1:=ZhF hT e5
 have n2:=ZhF hT e7
 have kk:=Zqh e4
 have nn:=Zg5 hE hT (x:=[105,110]) (i:=2) (by decide) d7.1.lt e8
 generalize (ZD L (Zr 1) _).1=K at *
 generalize (Zao L 1 _).1=N at *
 have hus:ZbW [K,N,(Zao L 1 (Zf L [47] (Zao L 1 (ZD L (Zr 1) (Zb L (Zf L [61] (Zb L s).2)).2).2).2)).1]=true:=by
  have a:=n1.2
  have b:=n2.2
  unfold ZaI at a b
  simp [ZbW]
  omega
 have h7:=z9.2
 refine ⟨Zb0 hpl (Zip (ZaX e1) (ZaX e3)) hus ?_ ?_,rfl⟩
 ·have k0:¬ K=0:=by omega
  have k4:K<=4:=by omega
  have a:=n1.1
  have b:=n2.1
  rcases nn with nn | ⟨t,nn,_,t6,tw⟩
  ·rw [nn]
   simp [Zbe,Zbt,ZhG,Zex,Zf4,Zbs,isB,h7,k0,k4,a,b]
  ·rw [nn]
   simp [Zbe,Zbt,ZhG,Zex,Zf4,Zbs,isB,h7,k0,k4,a,b,t6,tw]
 ·rcases nn with nn | ⟨t,nn,tv,_,_⟩
  ·rw [nn];exact Zfd z9.1
  ·rw [nn];exact ZfY tv z9.1
theorem ZmQ (hE:ZW L) (hT:Zdy L) {ex:PS->Tr×PS} (hx:∀ f,Onw L (Dp L (f+1)) ex) (hxz:∀ f,VeM (Dp L (f+1)) ex):∀ f,Zic L f (Zv L ex f)
 | 0,s,hs,e,_=>by have:=hs.fuel e;omega
 | f+1,s,hs,e0,e=>by
  have D:=ZR (L:=L) (f+1)
  have h200:=(hs.fuel e0).1
  have hp:=ZfX hE hx f
  have hz:=ZmQ hE hT hx hxz f
  have asg:∀ q:PS,Dp L (f+1) q/\q.deep<=200->(Zf L [59] (ex (Zf L [61] q)).2).err=0->q.err=0/\VE (ex (Zf L [61] q)).1:=fun q hq e=>by
   have g3:=Zq hE [61] hq.1.lt
   have d3:=D.next _ _ hq g3.toAdv
   have g4:=hx f _ d3.1
   have d4:=D.next _ _ d3 g4.toAdv
   have g5:=Zq hE [59] d4.1.lt
   have e4:=g5.toAdv.err e
   exact ⟨g3.toAdv.err (g4.toAdv.err e4),hxz f _ d3.1 e4⟩
  unfold Zv at e ⊢
  dsimp only at e ⊢
  by_cases h1:isM L [108,101,116] s=true
  ·rw [if_pos h1] at e ⊢
   have g:=ZC hE hs.lt h1
   have d1:=D.next _ _ ⟨hs,h200⟩ g.toAdv
   have g2:=Zo hE d1.1.lt
   obtain ⟨q1,q2⟩:=asg _ (D.next _ _ d1 g2.toAdv) e
   refine ⟨Zb0 (Zbu s) (Zfz (ZaX q1)) rfl ?_ (Zfd q2.1),rfl⟩
   have:=q2.2
   simp [Zbe,Zbt,Zbs,this]
  rw [if_neg h1] at e ⊢
  by_cases h2:ZaZ L s=true
  ·rw [if_pos h2] at e ⊢
   have g2:=Zo hE hs.lt
   obtain ⟨q1,q2⟩:=asg _ (D.next _ _ ⟨hs,h200⟩ g2.toAdv) e
   refine ⟨Zb0 (Zbu s) (Zfz (ZaX q1)) rfl ?_ (Zfd q2.1),rfl⟩
   have:=q2.2
   simp [Zbe,Zbt,Zbs,this]
  rw [if_neg h2] at e ⊢
  by_cases h3:isM L [111,112,101,110] s=true
  ·rw [if_pos h3] at e ⊢
   have g:=ZC hE hs.lt h3
   have d1:=D.next _ _ ⟨hs,h200⟩ g.toAdv
   have g2:=Zo hE d1.1.lt
   have d2:=D.next _ _ d1 g2.toAdv
   have g3:=Zo hE d2.1.lt
   have d3:=D.next _ _ d2 g3.toAdv
   have g4:=Zbz hE hp.adv d3.1 d3.2
   have d4:=D.next _ _ d3 g4.toAdv
   have g5:=Zq hE [101,108,115,101] d4.1.lt
   have d5:=D.next _ _ d4 g5.toAdv
   have e4:=g5.toAdv.err ((Zbz hE hp.adv d5.1 d5.2).toAdv.err e)
   have z5:=ZdH hE hp.adv hz d5.1 d5.2 e
   have z3:=ZdH hE hp.adv hz d3.1 d3.2 e4
   have e3:=g4.toAdv.err e4
   have e2:=g3.toAdv.err e3
   refine ⟨Zb0 (Zbu s) (Zip (ZaX e2) (ZaX e3)) rfl ?_ (ZfY z3.1 z5.1),rfl⟩
   have q1:=z3.2;have q2:=z5.2
   simp [Zbe,Zbt,Zbs,isB,q1,q2]
  rw [if_neg h3] at e ⊢
  by_cases h4:isM L [100,111] s=true
  ·rw [if_pos h4] at e ⊢
   have d1:=D.next _ _ ⟨hs,h200⟩ (ZC hE hs.lt h4).toAdv
   exact Zsu hE hp hz (Zbu s) d1.1 d1.2 e
  rw [if_neg h4] at e ⊢
  by_cases h5:isM L [115,112,108,105,116] s=true
  ·rw [if_pos h5] at e ⊢
   have d1:=D.next _ _ ⟨hs,h200⟩ (ZC hE hs.lt h5).toAdv
   exact ZqJ hE hT hp hz (Zbu s) d1.1 d1.2 e
  rw [if_neg h5] at e ⊢
  by_cases h6:isM L [99,97,108,108] s=true
  ·rw [if_pos h6] at e ⊢
   have d1:=D.next _ _ ⟨hs,h200⟩ (ZC hE hs.lt h6).toAdv
   exact Zre hE (ZX _) (hx f) (hxz f) (Zbu s) _ d1.1 e
  rw [if_neg h6] at e ⊢
  exact Zrr hE (hx f) (hxz f) hp hz (Zbu s) hs h200 e
theorem ZlC (hE:ZW L):∀ (f:Nat) (l:List Txt) {s:PS},s.at_<L.length->ZcF l=true->l.length % 2=0->(Zcy L f l s).2.err=0->ZcF (Zcy L f l s).1=true/\(Zcy L f l s).1.length % 2=0/\l.length<=(Zcy L f l s).1.length/\(Zcy L f l s).1.length<=l.length+2*f/\(0<f->l.length+2<=(Zcy L f l s).1.length)
 | 0,l,s,_,hl,h2,_=>⟨hl,h2,Nat.le_refl _,Nat.le_refl _,fun h=>absurd h (Nat.lt_irrefl _)⟩
 | f+1,l,s,hs,hl,h2,e=>by
  unfold Zcy at e ⊢
  by_cases he:s.err=0
  ·rw [if_pos he] at e ⊢
   dsimp only at e ⊢
   have a:=Zo hE hs
   have b:=Zo hE (a.lt hs)
   have lb:=b.lt (a.lt hs)
   by_cases h:isM L [44] (Zb L (Zb L s).2).2=true
   ·rw [if_pos h] at e ⊢
    have g:=ZC hE lb h
    have hadv:∀ (f:Nat) (l:List Txt) (s:PS),s.at_<L.length->Adv L s (Zcy L f l s).2:=fun f l s hs=>Zgu hE f l hs
    have eb:=g.toAdv.err ((hadv f (l++[(Zb L s).1,(Zb L (Zb L s).2).1]) _ (g.lt lb)).err e)
    have n1:=ZaX (b.toAdv.err eb)
    have n2:=ZaX eb
    obtain ⟨i1,i2,i3,i5,_⟩:=ZlC hE f (l++[(Zb L s).1,(Zb L (Zb L s).2).1]) (g.lt lb) (by unfold ZcF at hl ⊢;rw [List.all_append,hl];simp [n1,n2]) (by rw [List.length_append];simp;omega) e
    rw [List.length_append] at i3 i5
    simp only [List.length_cons,List.length_nil] at i3 i5
    exact ⟨i1,i2,by omega,by omega,fun _=>by omega⟩
   ·rw [if_neg h] at e ⊢
    have n1:=ZaX (b.toAdv.err e)
    have n2:=ZaX e
    refine ⟨by unfold ZcF at hl ⊢;rw [List.all_append,hl];simp [n1,n2],by rw [List.length_append];simp;omega,by rw [List.length_append];omega,by rw [List.length_append];simp only [List.length_cons,List.length_nil];omega,fun _=>by rw [List.length_append];simp⟩
  ·rw [if_neg he] at e;exact absurd e he
theorem ZrH (hE:ZW L) (hT:Zdy L) {s:PS} (hs:s.at_<L.length) (e:(Zbo L s).2.err=0):VT (Zbo L s).1/\isB [2,3] (Zbo L s).1.kd=true:=by
 unfold Zbo at e ⊢
 dsimp only at e ⊢
 by_cases h1:isM L [115,116,97,116,101] s=true
 ·rw [if_pos h1] at e ⊢
  have g:=ZC hE hs h1
  have a:=Zo hE (g.lt hs)
  have w:=Zq hE [59] (a.lt (g.lt hs))
  exact ⟨Zb0 (Zbu s) (Zfz (ZaX (w.toAdv.err e))) rfl rfl ZdB,rfl⟩
 rw [if_neg h1] at e ⊢
 by_cases h2:isM L [102,105,110,97,108] s=true
 ·rw [if_pos h2] at e ⊢
  have g:=ZC hE hs h2
  have a:=Zo hE (g.lt hs)
  have w:=Zq hE [59] (a.lt (g.lt hs))
  exact ⟨Zb0 (Zbu s) (Zfz (ZaX (w.toAdv.err e))) rfl rfl ZdB,rfl⟩
 rw [if_neg h2] at e ⊢
 have o:=Zq hE [111,112] hs
 have a:=Zo hE (o.lt hs)
 have b:=Zo hE (a.lt (o.lt hs))
 have ar:=Zq hE [45,62] (b.lt (a.lt (o.lt hs)))
 have la:=ar.lt (b.lt (a.lt (o.lt hs)))
 have wd:=Zgu hE (L.length+1) [(Zb L (Zf L [111,112] s)).1,(Zb L (Zb L (Zf L [111,112] s)).2).1] la
 have w:=Zq hE [59] (wd.lt la)
 have ew:=w.toAdv.err e
 have eb:=ar.toAdv.err (wd.err ew)
 have n1:=ZaX (b.toAdv.err eb)
 have n2:=ZaX eb
 obtain ⟨i1,i2,_,i5,i4⟩:=ZlC hE (L.length+1) [(Zb L (Zf L [111,112] s)).1,(Zb L (Zb L (Zf L [111,112] s)).2).1] la (Zip n1 n2) (by simp) ew
 have:=i4 (Nat.succ_pos _)
 simp only [List.length_cons,List.length_nil] at i5
 refine ⟨Zb0 (Zbu s) i1 rfl ?_ ZdB (by have:=hT.2;omega),rfl⟩
 simp only [List.length_cons,List.length_nil] at this
 simp [Zbe,Zbt,Zbs]
 omega
theorem Zqy (hE:ZW L) (hT:Zdy L) {s:PS} (hs:s.at_<L.length) (e:(ZbL L s).2.err=0):VT (ZbL L s).1/\isB [1,4] (ZbL L s).1.kd=true:=by
 have D:Dom L (fun s=>s.at_<L.length):=⟨fun a b h k=>k.lt h,fun a h=>h⟩
 have g:=Zq hE [112,114,111,116,111] hs
 have a:=Zo hE (g.lt hs)
 have w:=Zq hE [123] (a.lt (g.lt hs))
 have lw:=w.lt (a.lt (g.lt hs))
 have u:=ZcX hE D (fun s h _=>(part_go hE h).toAdv) [125] (L.length+1) [] _ lw
 have z:=Zhf hE D (G:=fun t=>VT t/\isB [2,3] t.kd=true) (fun s h _=>(part_go hE h).toAdv) (fun s h _ e=>ZrH hE hT h e) [125] (L.length+1) [] _ lw (fun t ht=>by simp at ht) e
 have ea:=w.toAdv.err (u.err e)
 unfold ZbL
 dsimp only
 refine ⟨Zb0 (Zbu s) (Zfz (ZaX ea)) rfl ?_ (Ze4 fun t ht=>(z t ht).1),rfl⟩
 have:=Zf6 fun t ht=>(z t ht).2
 simp [Zbe,Zbt,this]
theorem Zqt (hE:ZW L) (hT:Zdy L) {s:PS} (hs:s.at_<L.length) (e:(ZaC L s).2.err=0):VT (ZaC L s).1/\isB [5] (ZaC L s).1.kd=true:=by
 unfold ZaC at e ⊢
 dsimp only at e ⊢
 have a:=Zo hE hs
 have l1:=a.lt hs
 by_cases h:isM L [58] (Zb L s).2=true
 ·rw [if_pos h] at e ⊢
  have g:=ZC hE l1 h
  have b:=Zo hE (g.lt l1)
  have l3:=b.lt (g.lt l1)
  have k:=ZeI hE (Zr 0) l3
  have l4:=k.lt l3
  have key:∀ (q:PS) (n d:Int),Adv L (ZD L (Zr 0) (Zb L (Zd (Zb L s).2)).2).2 q->(q.err=0->(n=0/\d=0)\/(1<=n/\ZaI n/\1<=d/\ZaI d))->(ZB L [105,110] 2 (ZB L [116,111] 1 (ZB L [97,116] 0 q).2).2).2.err=0->VT (.mk 5 [(Zb L s).1,(Zb L (Zd (Zb L s).2)).1] ((ZD L (Zr 0) (Zb L (Zd (Zb L s).2)).2).1::[n,d]) (Ze L s) ((ZB L [97,116] 0 q).1++(ZB L [116,111] 1 (ZB L [97,116] 0 q).2).1++(ZB L [105,110] 2 (ZB L [116,111] 1 (ZB L [97,116] 0 q).2).2).1)):=fun q n d hq hnd e=>by
   have x:=Zcu hE [97,116] 0 (hq.lt l4)
   have y:=Zcu hE [116,111] 1 (x.lt (hq.lt l4))
   have z:=Zcu hE [105,110] 2 (y.lt (x.lt (hq.lt l4)))
   have ey:=z.err e
   have exx:=y.err ey
   have eq:=x.err exx
   have zx:=Zg5 hE hT (x:=[97,116]) (i:=0) (by decide) (hq.lt l4) exx
   have zy:=Zg5 hE hT (x:=[116,111]) (i:=1) (by decide) (x.lt (hq.lt l4)) ey
   have zz:=Zg5 hE hT (x:=[105,110]) (i:=2) (by decide) (y.lt (x.lt (hq.lt l4))) e
   have ek:=hq.err eq
   have kk:=Zqg ek
   have eb:=k.toAdv.err ek
   have ea:=g.toAdv.err (b.toAdv.err eb)
   have nd:=hnd eq
   generalize (ZD L (Zr 0) (Zb L (Zd (Zb L s).2)).2).1=K at *
   have hus:ZbW (K::[n,d])=true:=by
    unfold ZaI at nd
    simp [ZbW]
    omega
   have hfr:((n==0&&d==0)||(decide (1<=n)&&decide (1<=d)))=true:=by
    rcases nd with ⟨rfl,rfl⟩ | ⟨h1,_,h2,_⟩
    ·rfl
    ·simp [h1,h2]
   have k4:=kk.2
   have cont:∀ ks wh:List Int,ks.all (isB [6])=true->ZhK wh=true->Zbe 5 [(Zb L s).1,(Zb L (Zd (Zb L s).2)).1] (K::[n,d]) ks wh=true:=fun ks wh a b=>by
    have:ZeV (K::[n,d]) ks wh=true:=by
     unfold ZeV Zf4 Zex
     simp only [List.getElem?_cons_zero,List.getElem?_cons_succ,Option.getD_some]
     rw [hfr,a,b,decide_eq_true k4]
     rfl
    simp [Zbe,Zbt,this]
   refine Zb0 (Zbu s) (Zip (ZaX ea) (ZaX eb)) hus (cont _ _ ?_ ?_) ?_
   ·rcases zx with r1 | ⟨t1,r1,_,k1,_⟩<;>rcases zy with r2 | ⟨t2,r2,_,k2,_⟩<;>rcases zz with r3 | ⟨t3,r3,_,k3,_⟩<;>rw [r1,r2,r3]<;>simp [isB, *]
   ·rcases zx with r1 | ⟨t1,r1,_,_,k1⟩<;>rcases zy with r2 | ⟨t2,r2,_,_,k2⟩<;>rcases zz with r3 | ⟨t3,r3,_,_,k3⟩<;>rw [r1,r2,r3]<;>simp [ZhK, *]
   ·refine Ze4 fun t ht=>?_
    rcases List.mem_append.1 ht with ht | ht
    ·rcases List.mem_append.1 ht with ht | ht
     ·rcases zx with r1 | ⟨t1,r1,v,_,_⟩
      ·rw [r1] at ht;simp at ht
      ·rw [r1,List.mem_singleton] at ht;subst ht;exact v
     ·rcases zy with r1 | ⟨t1,r1,v,_,_⟩
      ·rw [r1] at ht;simp at ht
      ·rw [r1,List.mem_singleton] at ht;subst ht;exact v
    ·rcases zz with r1 | ⟨t1,r1,v,_,_⟩
     ·rw [r1] at ht;simp at ht
     ·rw [r1,List.mem_singleton] at ht;subst ht;exact v
  by_cases h2:isM L [108,101,97,115,116] (ZD L (Zr 0) (Zb L (Zd (Zb L s).2)).2).2=true
  ·rw [if_pos h2] at e ⊢
   have e':=ZC hE l4 h2
   have n:=Zc4 hE 1 (e'.lt l4)
   have w:=Zq hE [47] (n.lt (e'.lt l4))
   have d:=Zc4 hE 1 (w.lt (n.lt (e'.lt l4)))
   refine ⟨key _ _ _ (e'.toAdv.trans (n.toAdv.trans (w.toAdv.trans d.toAdv))) (fun q=>?_) e,rfl⟩
   have a1:=ZhF hT q
   have a2:=ZhF hT (w.toAdv.err (d.toAdv.err q))
   exact .inr ⟨a2.1,a2.2,a1.1,a1.2⟩
  ·rw [if_neg h2] at e ⊢;exact ⟨key _ _ _ (Adv.refl _) (fun _=>.inl ⟨rfl,rfl⟩) e,rfl⟩
 ·rw [if_neg h] at e ⊢
  exact ⟨Zb0 (Zbu s) (Zfz (ZaX e)) rfl rfl ZdB,rfl⟩
theorem Zsw (hE:ZW L) (hT:Zdy L) {f:Nat} {ex st:PS->Tr×PS} (hp:Stm L f st) (hz:Zic L f st) {s:PS} (hs:Dp L (f+1) s) (h200:s.deep<=200) (e:(fnM L ex st s).2.err=0):VT (fnM L ex st s).1/\isB [1,4] (fnM L ex st s).1.kd=true:=by
 have D:=ZR (L:=L) (f+1)
 have g:=Zq hE [102,110] hs.lt
 have d1:=D.next _ _ ⟨hs,h200⟩ g.toAdv
 have g2:=Zo hE d1.1.lt
 have d2:=D.next _ _ d1 g2.toAdv
 have g3:=Zq hE [40] d2.1.lt
 have d3:=D.next _ _ d2 g3.toAdv
 have g4:=Zc6 hE D (fun s h=>(ZdK hE h.1.lt).toAdv) (L.length+1) true [] _ d3
 have d4:=D.next _ _ d3 g4
 have z5:=ZdH hE hp.adv hz d4.1 d4.2 e
 have e4:=(Zbz hE hp.adv d4.1 d4.2).toAdv.err e
 have z4:=Zhs hE D (G:=fun t=>VT t/\isB [5] t.kd=true) (fun s h=>(ZdK hE h.1.lt).toAdv) (fun s h e=>Zqt hE hT h.1.lt e) (L.length+1) true [] _ d3 (fun t ht=>by simp at ht) e4
 have ea:=g3.toAdv.err (g4.err e4)
 unfold fnM
 dsimp only
 refine ⟨Zb0 (Zbu s) (Zfz (ZaX ea)) rfl ?_ (Ze4 fun t ht=>?_),rfl⟩
 ·have h5:=Zf6 fun t ht=>(z4 t ht).2
  have h7:=z5.2
  rw [List.map_append,List.map_append,List.map_singleton,List.map_singleton]
  unfold Zbe
  simp [Zbt,Zbs,isB,h7]
  simpa [isB] using fun t ht=>(z4 t ht).2
 ·rcases List.mem_append.1 ht with ht | ht
  ·exact (z4 t ht).1
  ·rw [List.mem_singleton] at ht;subst ht;exact z5.1
theorem ZfN (hE:ZW L) (hT:Zdy L) {f:Nat} {ex st:PS->Tr×PS} (hp:Stm L f st) (hz:Zic L f st):∀ (g:Nat) (l:List Tr) (s:PS),Dp L (f+1) s/\s.deep<=200->(∀ t∈l,VT t/\isB [1,4] t.kd=true)->(Zaz L ex st g l s).2.err=0->∀ t∈(Zaz L ex st g l s).1,VT t/\isB [1,4] t.kd=true
 | 0,l,s,_,hl,_=>hl
 | g+1,l,s,hs,hl,e=>by
  have D:=ZR (L:=L) (f+1)
  have more:∀ u:Tr,VT u/\isB [1,4] u.kd=true->∀ t∈l++[u],VT t/\isB [1,4] t.kd=true:=fun u hu t ht=>by
   rcases List.mem_append.1 ht with ht | ht
   ·exact hl t ht
   ·rw [List.mem_singleton] at ht;subst ht;exact hu
  unfold Zaz at e ⊢
  by_cases he:s.err=0/\(ZaK L s).1≠3
  ·rw [if_pos he] at e ⊢
   by_cases h1:isM L [112,114,111,116,111] s=true
   ·rw [if_pos h1] at e ⊢
    have n:=(Zg9 hE hs.1.lt).toAdv
    have hd:=D.next _ _ hs n
    exact ZfN hE hT hp hz g _ _ hd (more _ (Zqy hE hT hs.1.lt ((Zdv hE hp g _ _ hd).err e))) e
   rw [if_neg h1] at e ⊢
   by_cases h2:isM L [102,110] s=true
   ·rw [if_pos h2] at e ⊢
    have n:=(Zku hE (ex:=ex) hp hs.1 hs.2).toAdv
    have hd:=D.next _ _ hs n
    exact ZfN hE hT hp hz g _ _ hd (more _ (Zsw hE hT hp hz hs.1 hs.2 ((Zdv hE hp g _ _ hd).err e))) e
   rw [if_neg h2] at e ⊢
   have n:=(ZeG (L:=L) (e:=11) (by decide) s).toAdv
   exact ZfN hE hT hp hz g _ _ (D.next _ _ hs n) hl e
  ·rw [if_neg he];exact hl
end
theorem ZmK {L:List Tok} (hE:ZW L) (hT:Zdy L) (e:(Zda L).2.err=0):VT (Zdh L):=by
 have hd:Dp L 201 s07:=⟨hE.1,fun _=>⟨by decide,by decide⟩,by decide,by decide⟩
 have hgo:=ZfX hE (fun g=>ZgB hE (g+1)) 200
 have h:=ZfN (ex:=ex7 L) hE hT hgo (ZmQ hE hT (fun g=>ZgB hE (g+1)) (fun g s hs e=>Zmt hE (ZX 201) (Zb9 hE 201) (Ziw hE hT 201) s (ZiJ hs) e) 200) (L.length+1) [] s07 ⟨hd,by decide⟩ (fun t ht=>by simp at ht) e
 refine Zb0 (Zbu s07) rfl rfl ?_ (Ze4 fun t ht=>(h t ht).1)
 have:=Zf6 fun t ht=>(h t ht).2
 simp [Zbe,Zbt,this]
theorem Zgw {l:Txt} {ns:List Nd} {pl:Int} (h:ZdR l=(ns,0,pl)):Zcw ns=true/\pl=0/\l.length<=6000/\∀ d∈ns,d.words.length<=20000:=by
 unfold ZdR at h
 rcases Nat.lt_or_ge 6000 l.length with q | q
 ·rw [Zi8 q] at h;simp at h
 cases hl:Zbx l 0 with
 | bad a=>rw [Zi7 q hl] at h;simp at h
 | ok L=>
  rw [ZhJ q hl] at h
  dsimp only at h
  obtain ⟨hE,hl2,_⟩:=ZoV l.length l 0 L (Nat.le_refl _) hl
  have hT:Zdy L:=⟨Zqm l.length l 0 L (Nat.le_refl _) hl,by omega⟩
  rw [if_neg (by simp)] at h
  by_cases e:(Zda L).2.err≠0
  ·rw [if_pos e] at h
   injection h with _ h
   injection h with h _
   exact absurd h e
  rw [if_neg e] at h
  by_cases s:1500<(Zcj (Zdh L) []).length
  ·rw [if_pos s] at h;simp at h
  rw [if_neg s] at h
  by_cases d:0<=ZbK (Zdh L) 1
  ·rw [if_pos d] at h;simp at h
  rw [if_neg d] at h
  injection h with h1 h
  injection h with _ h
  rw [<- h1]
  refine ⟨Zks (ZmK hE hT (Classical.not_not.1 e)) rfl ?_ d,h.symm,q,fun d hd=>Zjg (Zdh L) 0 (ZmK hE hT (Classical.not_not.1 e)) d (by rw [<- ZmD];exact hd)⟩
  rw [Zd1,List.length_nil] at s
  omega
theorem ZnI {l:Txt} {ns:List Nd} {pl:Int} (h:ZdR l=(ns,0,pl)):∃ t:Tr,ns=Zcj t []:=by
 unfold ZdR at h
 dsimp only at h
 split at h
 ·rename_i q
  injection h with _ h
  injection h with h _
  exact absurd h q
 split at h
 ·rename_i q
  injection h with _ h
  injection h with h _
  exact absurd h q
 split at h
 ·simp at h
 split at h
 ·simp at h
 injection h with h _
 exact ⟨_,h.symm⟩
end
section
section
variable {ns ms:List Nd}
def LkN (ns ms:List Nd):Nat->Nd->Nd->Prop
 | 0,_,_=>False
 | g+1,n,m=>n.kind=m.kind/\n.words=m.words/\n.nums=m.nums/\n.kids.length=m.kids.length/\∀ (q:Nat) (c e:Int),n.kids[q]? = some c->m.kids[q]? = some e->LkN ns ms g (Za ns c) (Za ms e)
def LK (ns ms:List Nd) (n m:Nd):Prop:=∃ g,LkN ns ms g n m
def ZeR (ns ms:List Nd) (cs es:List Int):Prop:=cs.length=es.length/\∀ (q:Nat) (c e:Int),cs[q]? = some c->es[q]? = some e->LK ns ms (Za ns c) (Za ms e)
theorem ZqZ:∀ (f:Nat) (i k:Int),ZiC ns ms f i k->LkN ns ms f (Za ns i) (Za ms k)
 | 0,_,_,h=>h.elim
 | f+1,i,k,h=>by
  rw [ZiC] at h
  obtain ⟨a,b,x,y,rfl,rfl,hx,hy,h1,h2,h3,h4,h5⟩:=h
  rw [Zb2 hx,Zb2 hy,LkN]
  exact ⟨h1,h2,h3,h4,fun q c e hc he=>ZqZ f c e (h5 q c e hc he)⟩
theorem LK.parts {n m:Nd} (h:LK ns ms n m):n.kind=m.kind/\n.words=m.words/\n.nums=m.nums/\ZeR ns ms n.kids m.kids:=by
 obtain ⟨g,h⟩:=h
 cases g with
 | zero=>exact h.elim
 | succ g=>
  rw [LkN] at h
  exact ⟨h.1,h.2.1,h.2.2.1,h.2.2.2.1,fun q c e hc he=>⟨g,h.2.2.2.2 q c e hc he⟩⟩
theorem ZeR.take {cs es:List Int} (h:ZeR ns ms cs es) (k:Nat):ZeR ns ms (cs.take k) (es.take k):=⟨by rw [List.length_take,List.length_take,h.1],fun q c e hc he=>by
 rw [List.getElem?_take] at hc he
 by_cases hq:q<k
 ·rw [if_pos hq] at hc he;exact h.2 q c e hc he
 ·rw [if_neg hq] at hc;cases hc⟩
theorem ZeR.drop {cs es:List Int} (h:ZeR ns ms cs es) (k:Nat):ZeR ns ms (cs.drop k) (es.drop k):=⟨by rw [List.length_drop,List.length_drop,h.1],fun q c e hc he=>by
 rw [List.getElem?_drop] at hc he
 exact h.2 _ c e hc he⟩
theorem ZeR.map {α:Type} {cs es:List Int} (h:ZeR ns ms cs es) {F G:Nd->α} (hf:∀ n m,LK ns ms n m->F n=G m):(cs.map fun k=>F (Za ns k))=es.map fun k=>G (Za ms k):=by
 refine List.ext_getElem? fun q=>?_
 rw [List.getElem?_map,List.getElem?_map]
 cases hc:cs[q]? with
 | none=>
  have:es[q]? = none:=by rw [List.getElem?_eq_none_iff] at hc ⊢;rw [<- h.1];exact hc
  rw [this]
  rfl
 | some c=>
  have hl:q<es.length:=by rw [<- h.1];exact (List.getElem?_eq_some_iff.1 hc).1
  rw [List.getElem?_eq_getElem hl,Option.map_some,Option.map_some,hf _ _ (h.2 q c _ hc (List.getElem?_eq_getElem hl))]
theorem ZeR.nil {cs es:List Int} (h:ZeR ns ms cs es):(cs=[])=(es=[]):=by
 rw [<- List.length_eq_zero_iff,<- List.length_eq_zero_iff,h.1]
theorem Zf7 (R:LK ns ms (Za ns 0) (Za ms 0)) {n m:Nd} (h:LK ns ms n m) (k:Nat):LK ns ms (Zw ns n k) (Zw ms m k):=by
 obtain ⟨_,_,_,h4⟩:=h.parts
 unfold Zw
 cases hc:n.kids[k]? with
 | none=>
  have he:m.kids[k]? = none:=by rw [List.getElem?_eq_none_iff] at hc ⊢;rw [<- h4.1];exact hc
  rw [ZcY,ZcY,hc,he]
  exact R
 | some c=>
  have hl:k<m.kids.length:=by rw [<- h4.1];exact (List.getElem?_eq_some_iff.1 hc).1
  have he:=List.getElem?_eq_getElem hl
  rw [ZcY,ZcY,hc,he]
  exact h4.2 k c _ hc he
theorem Zfe {n m:Nd} (h:LK ns ms n m) (k:Nat):word n k=word m k:=by unfold word;rw [h.parts.2.1]
theorem ZgH {n m:Nd} (h:LK ns ms n m) (k:Nat):num n k=num m k:=by unfold num;rw [h.parts.2.2.1]
theorem Zgy {n m:Nd} (h:LK ns ms n m):Zu n=Zu m:=by unfold Zu;rw [h.parts.1,ZgH h]
theorem ZgW (R:LK ns ms (Za ns 0) (Za ms 0)):∀ (f:Nat) (n m:Nd),LK ns ms n m->Zx ns f n=Zx ms f m
 | 0,_,_,_=>rfl
 | f+1,n,m,h=>by
  have k0:=Zf7 R h 0
  have k1:=Zf7 R h 1
  unfold Zx
  simp only [h.parts.1,ZgH h,Zfe h,Zgy h,Zgy k0,Zgy k1,ZgW R f _ _ k0,ZgW R f _ _ k1]
theorem ZjZ {n m:Nd} (h:LK ns ms n m):ZaT n=ZaT m:=by unfold ZaT;rw [ZgH h,h.parts.2.1]
theorem Zqu {n m:Nd} (h:LK ns ms n m):ZbZ n=ZbZ m:=by unfold ZbZ;simp only [h.parts.1,ZgH h,Zfe h,h.parts.2.1]
theorem Zo6 {n m:Nd} (h:LK ns ms n m):ZbR ns n=ZbR ms m:=by
 unfold ZbR
 rw [h.parts.2.2.2.map fun n m h=>ZjZ h]
 simp only [ZgH h,Zfe h,h.parts.2.1]
theorem Zq9 (R:LK ns ms (Za ns 0) (Za ms 0)) (f:Nat) {n m:Nd} (h:LK ns ms n m):Zcd ns f n=Zcd ms f m:=by
 unfold Zcd
 rw [h.parts.1,Zfe h,ZgW R f _ _ h]
theorem Zlu (R:LK ns ms (Za ns 0) (Za ms 0)):∀ (f d:Nat) (n m:Nd),LK ns ms n m->Zl ns f d n=Zl ms f d m
 | 0,_,_,_,_=>rfl
 | f+1,d,n,m,h=>by
  have P:=h.parts.2.2.2
  have k0:=Zf7 R h 0
  have k1:=Zf7 R h 1
  have B:∀ (e:Nat) (x y:Nd),LK ns ms x y->ZI e (x.kids.map fun k=>Zl ns f (e+1) (Za ns k))=ZI e (y.kids.map fun k=>Zl ms f (e+1) (Za ms k)):=fun e x y hx=>by
   rw [hx.parts.2.2.2.map fun n m h=>Zlu R f (e+1) n m h]
  have e10:=P.map (F:=fun x=>ZI d (x.kids.map fun k=>Zl ns f (d+1) (Za ns k))) (G:=fun x=>ZI d (x.kids.map fun k=>Zl ms f (d+1) (Za ms k))) fun x y hx=>B d x y hx
  have e11:=P.map (F:=fun x=>word x 0++ZI (d+1) ((Zw ns x 0).kids.map fun k=>Zl ns f (d+1+1) (Za ns k))) (G:=fun x=>word x 0++ZI (d+1) ((Zw ms x 0).kids.map fun k=>Zl ms f (d+1+1) (Za ms k))) fun x y hx=>by
   rw [Zfe hx,B (d+1) _ _ (Zf7 R hx 0)]
  have e13:=(P.take (n.kids.length-1)).map (F:=fun x=>ZaT x) (G:=fun x=>ZaT x) fun x y hx=>ZjZ hx
  have e14:=P.map (F:=fun x=>Zcd ns f x) (G:=fun x=>Zcd ms f x) fun x y hx=>Zq9 R f hx
  have e16:=(P.drop 1).map (F:=fun x=>ZI d (x.kids.map fun k=>Zl ns f (d+1) (Za ns k))) (G:=fun x=>ZI d (x.kids.map fun k=>Zl ms f (d+1) (Za ms k))) fun x y hx=>B d x y hx
  have b13:=B d _ _ (Zf7 R h (n.kids.length-1))
  have b17:=B d _ _ k1
  have x0:=ZgW R f _ _ k0
  have len:=P.1
  have nil:=P.nil
  rw [len] at e13 b13
  unfold Zl
  simp only [Zfa,h.parts.1,ZgH h,Zfe h,h.parts.2.1,nil,len,e10,e11,e13,e14,e16,b13,b17,x0]
theorem Zqf (R:LK ns ms (Za ns 0) (Za ms 0)) (f:Nat) {n m:Nd} (h:LK ns ms n m):Zcn ns f n=Zcn ms f m:=by
 have P:=h.parts.2.2.2
 have e1:=P.map (F:=fun x=>ZbZ x) (G:=fun x=>ZbZ x) fun x y hx=>Zqu hx
 have e4:=(P.take (n.kids.length-1)).map (F:=fun x=>ZbR ns x) (G:=fun x=>ZbR ms x) fun x y hx=>Zo6 hx
 have k:=(Zf7 R h (n.kids.length-1)).parts.2.2.2.map (F:=fun x=>Zl ns f 1 x) (G:=fun x=>Zl ms f 1 x) fun x y hx=>Zlu R f 1 x y hx
 have len:=P.1
 rw [len] at e4 k
 unfold Zcn
 simp only [h.parts.1,Zfe h,len,e1,e4,k]
theorem ZqF (h1:Zcw ns=true) (h2:Zcw ms=true) (hl:ns.length=ms.length) (R:LK ns ms (Za ns 0) (Za ms 0)):ZbG ns=ZbG ms:=by
 unfold ZbG
 rw [h1,h2,R.parts.2.2.2.map fun n m h=>Zqf R ns.length h,hl]
end
theorem ZmT {f:Nat} {ns:List Nd} (ih:∀ (t1 t2:Tr) (a:Nat),Zgv ns t1 a->Zt ns f (Za ns a) t2->szT t1=szT t2):∀ (ks1:List Tr) (cs:List Int) (ks2:List Tr),ZeQ ns ks1 cs->ks2.length=cs.length->(∀ (i:Nat) (t:Tr) (c:Int),ks2[i]? = some t->cs[i]? = some c->Zt ns f (Za ns c) t)->Zaq ks1=Zaq ks2
 | [],cs,ks2,h,hl,_=>by
  rw [ZeQ] at h
  subst h
  rw [List.length_eq_zero_iff.1 hl]
 | t::r,cs,ks2,h,hl,hs=>by
  rw [ZeQ] at h
  obtain ⟨b,c',rfl,h1,h2⟩:=h
  cases ks2 with
  | nil=>simp at hl
  | cons u v=>
   have e1:=ih t u b h1 (hs 0 u b rfl rfl)
   have e2:=ZmT ih r c' v h2 (by simpa using hl) fun i t c ht hc=>hs (i+1) t c ht hc
   rw [Zaq,Zaq,e1,e2]
theorem ZpD {ns:List Nd}:∀ (f:Nat) (t1 t2:Tr) (a:Nat),Zgv ns t1 a->Zt ns f (Za ns a) t2->szT t1=szT t2
 | 0,_,_,_,_,h=>h.elim
 | f+1,.mk k w u p ks,.mk k2 w2 u2 p2 ks2,a,hl,h=>by
  rw [Zgv] at hl
  rw [Zt] at h
  obtain ⟨x,e1,_,_,_,e5⟩:=hl
  rw [Zb2 e1] at h
  obtain ⟨_,_,_,h4,h5⟩:=h
  rw [szT,szT,ZmT (ZpD f) ks x.kids ks2 e5 h4 h5]
theorem Zmb {l:Txt} {ns:List Nd} {pl:Int} (h:ZdR l=(ns,0,pl)) (hlen:(ZbG ns).length<=6000):∃ ms:List Nd,ZdR (ZbG ns)=(ms,0,0)/\Zcw ms=true/\ZbG ms=ZbG ns:=by
 have hr:=(Zgw h).1
 obtain ⟨t,h1,h2⟩:=Zn4 hr hlen
 have hm:=(Zgw h1).1
 have h0:ns[0]? = some (Za ns 0):=by
  have h0:ns[0]? = some (ns[0]'(Zey hr).some_):=List.getElem?_eq_getElem (Zey hr).some_
  rw [h0,<- Zb2 (k:=0) h0]
  rfl
 have hlk:=ZmE (ms:=Zcj t []) (Zey hr) 76 0 _ _ 0 h0 h2 (Zk1 _)
 obtain ⟨t1,e1⟩:=ZnI h
 have hz:=ZpD (ns:=ns) 76 t1 t 0 (by rw [e1];exact Zk1 t1) h2
 refine ⟨_,h1,hm,(ZqF hr hm ?_ ⟨76,ZqZ 76 0 0 hlk⟩).symm⟩
 rw [e1,Zd1,Zd1,hz]
end
section
open Go.RowKit
theorem Ziz (w:World) (v:Value) (ns:List Nd) (hN:Zs w v ns) (hk:Zay w 3 ZG) (T:PTabs w) (hr:Zcw ns=true) (hl:(ZbG ns).length+10000<=140737488355328) :
  Calls Tryz.prog 9 #[v] w fun e w'=>e=.returned (txt (ZbG ns))/\Below w.heap.size w w':=by
 have RG:=zh (Zpj w v ns hN hk hr)
 obtain ⟨An,cn,rs,rfl,hR0⟩:=id hN
 have hR1:=zh hR0
 clear hR0
 have R:=Zey hr
 have e0:ZbG ns=Zbq 0 ((Za ns 0).kids.map fun k=>Zcn ns ns.length (Za ns k)):=by unfold ZbG;rw [hr];rfl
 rw [e0] at hl ⊢
 have OK:=zh (ZfJ R)
 have hnl:=R.some_
 have h1500:=R.len
 obtain ⟨d,hd⟩:∃ d,ns[0]? = some d:=⟨_,List.getElem?_eq_getElem hnl⟩
 have ed:Za ns 0=d:=ZbC (k:=0) hd
 rw [ed] at hl OK ⊢
 obtain ⟨r,hr0⟩:∃ r,rs[0]? = some r:=⟨_,List.getElem?_eq_getElem (by have:=congrArg List.length hR1.out.2.2.1;rw [List.length_map] at this;omega)⟩
 obtain rfl:r.2=d:=by
  have:ns[0]? = some r.2:=by rw [<- hR1.out.2.2.1,List.getElem?_map,hr0];rfl
  exact Option.some.inj (this.symm.trans hd)
 obtain ⟨⟨vw,vu,vk⟩,kd,ws,nums,ks,ps⟩:=r
 obtain ⟨hw,hu,hkk⟩:=hR1.out.2.2.2.2 _ (List.mem_of_getElem? hr0)
 dsimp only at hw hu hkk hl OK ⊢
 obtain ⟨Aw,cw,rfl,_⟩:=hw
 obtain ⟨Au,cu,rfl,_⟩:=hu
 obtain ⟨Ak,ck,rfl,hkl,hkm,hK⟩:=hkk
 have i1:(0:Int)<(ns.length:Int):=by omega
 have HN:=zh (zi hN (zi hr0 (zi hK (zi hkm hkl))))
 have HT:=zh (zi T (zi hl (zi hnl h1500)))
 clear hr R e0 hl T hk hN hd ed hr0 hkl hkm hK hnl h1500
 go_enter Tryz.func9,Tryz.ntmps9
 go_upto_region 3 with (go_at_call 16;(with_reducible refine RG.out.mono ?_);rintro e w1 ⟨rfl,hb⟩;have HB:=zh hb;clear hb)
 go_upto_region 4 with fail
 have a2:=below_alloc1 w1 (.cells #[.slice none 0 0,.int .i64 0,.slice An ns.length cn] 47)
 have B2:Zh _ _ _ _:=Zh.start w1 #[.slice none 0 0,.int .i64 0,.slice An ns.length cn] 47
 generalize hw2:w1.alloc (.cells #[.slice none 0 0,.int .i64 0,.slice An ns.length cn] 47)=w2 at *
 have P2:=zh (show PrS w w2 w1.heap.size [] 0 (.slice An ns.length cn) from ⟨⟨_,B2,⟨rfl,.inl ⟨rfl,rfl⟩⟩⟩,HB.out.trans (a2.mono HB.out.size),HB.out.size⟩)
 clear a2 B2
 obtain ⟨an,rfl,n0,n1,n2,n3,n4⟩:=ZbA hR1.out.2.2.2.1 P2.out.below HN.out.2.1 (by omega)
 have ea:an.add (0*5)=an:=by unfold Addr.add;simp
 rw [ea] at n0 n1 n2 n3 n4
 dsimp only at n0 n1 n2 n3 n4
 have LI:=zh (ZjW _ ZlH w w2 w1.heap.size 0 [] _ ns Ak ck ks _ _ P2.out HN.out.1 (by omega) HN.out.2.2.1 (by have:=HN.out.2.2.2;omega) OK.out (ZoK w ns HT.out.1 ns.length HT.out.2.2.2) (by have:=HT.out.2.1;simpa using this))
 go_upto_region 5 with (go_at_call 17;(refine LI.out.mono ?_);rintro e w3 ⟨rfl,hp,hf⟩;have H3:=zh hp;clear hp hf)
 obtain ⟨v3,hv3,ho3⟩:=H3.out.box
 have c3:=hv3.blk.cell 0
 simp only [List.getElem?_toArray,List.getElem?_cons_zero] at c3
 have cv:=Zon ho3
 obtain ⟨A3,c3',rfl⟩:=Zby ho3
 rw [List.nil_append] at cv c3
 clear hv3 ho3 n0 n1 n2 n3 n4
 go_wp2_with fail
 go_ret
 exact ⟨rfl,H3.out.below⟩
theorem Zma (w:World):Calls Tryz.prog 9 #[.slice none 0 0] w fun e w'=>e=.returned (txt [])/\Below w.heap.size w w':=by
 have RG:=zh (Zpi w)
 go_enter Tryz.func9,Tryz.ntmps9
 go_wp2_with (go_at_call 16;(with_reducible refine RG.out.mono ?_);rintro e w1 ⟨rfl,hb⟩;have HB:=zh hb;clear hb)
 go_ret
 exact ⟨rfl,HB.out⟩
end
section
open Go.RowKit
theorem Zof (w:World) (ht:ShoTabs w):Calls Tryz.prog 6 #[] w fun e w'=>e=.returned (.bool true)/\Below w.heap.size w w':=by
 have a1:=below_alloc1 w (.cells #[.int .i64 1] 3)
 have K1:Zbh (w.alloc (.cells #[.int .i64 1] 3)) (.slice (some ⟨w.heap.size,0,none⟩) 1 1) [1]:=Ze6 w [1] 3 (by simp [maxLen])
 generalize hw1:w.alloc (.cells #[.int .i64 1] 3)=w1 at *
 have a2:=below_alloc1 w1 (.cells #[txt [109,97,105,110]] 9)
 have K2:ZdX (w1.alloc (.cells #[txt [109,97,105,110]] 9)) (.slice (some ⟨w1.heap.size,0,none⟩) 1 1) [[109,97,105,110]]:=ZqK w1 [[109,97,105,110]] 9 (by simp [maxLen]) (by simp [maxLen])
 generalize hw2:w1.alloc (.cells #[txt [109,97,105,110]] 9)=w2 at *
 have a3:=below_alloc1 w2 (.cells #[.int .i64 2] 3)
 have K3:Zbh (w2.alloc (.cells #[.int .i64 2] 3)) (.slice (some ⟨w2.heap.size,0,none⟩) 1 1) [2]:=Ze6 w2 [2] 3 (by simp [maxLen])
 generalize hw3:w2.alloc (.cells #[.int .i64 2] 3)=w3 at *
 have a4:=below_alloc1 w3 (.cells #[.int .i64 3] 3)
 have K4:Zbh (w3.alloc (.cells #[.int .i64 3] 3)) (.slice (some ⟨w3.heap.size,0,none⟩) 1 1) [3]:=Ze6 w3 [3] 3 (by simp [maxLen])
 generalize hw4:w3.alloc (.cells #[.int .i64 3] 3)=w4 at *
 have a5:=below_alloc1 w4 (.cells #[.int .i64 0,.slice none 0 0,.slice none 0 0,.slice (some ⟨w.heap.size,0,none⟩) 1 1,.int .i64 0,.int .i64 4,.slice (some ⟨w1.heap.size,0,none⟩) 1 1,.slice none 0 0,.slice (some ⟨w2.heap.size,0,none⟩) 1 1,.int .i64 0,.int .i64 7,.slice none 0 0,.slice none 0 0,.slice (some ⟨w3.heap.size,0,none⟩) 1 1,.int .i64 0,.int .i64 19,.slice none 0 0,.slice none 0 0,.slice none 0 0,.int .i64 0] 37)
 have N5:Zs (w4.alloc (.cells #[.int .i64 0,.slice none 0 0,.slice none 0 0,.slice (some ⟨w.heap.size,0,none⟩) 1 1,.int .i64 0,.int .i64 4,.slice (some ⟨w1.heap.size,0,none⟩) 1 1,.slice none 0 0,.slice (some ⟨w2.heap.size,0,none⟩) 1 1,.int .i64 0,.int .i64 7,.slice none 0 0,.slice none 0 0,.slice (some ⟨w3.heap.size,0,none⟩) 1 1,.int .i64 0,.int .i64 19,.slice none 0 0,.slice none 0 0,.slice none 0 0,.int .i64 0] 37)) (.slice (some ⟨w4.heap.size,0,none⟩) 4 4) ns8:=
  Zo1 w4 [((.slice none 0 0,.slice none 0 0,.slice (some ⟨w.heap.size,0,none⟩) 1 1),⟨0,[],[],[1],0⟩),((.slice (some ⟨w1.heap.size,0,none⟩) 1 1,.slice none 0 0,.slice (some ⟨w2.heap.size,0,none⟩) 1 1),⟨4,[[109,97,105,110]],[],[2],0⟩),((.slice none 0 0,.slice none 0 0,.slice (some ⟨w3.heap.size,0,none⟩) 1 1),⟨7,[],[],[3],0⟩),((.slice none 0 0,.slice none 0 0,.slice none 0 0),⟨19,[],[],[],0⟩)] 37 (by simp [maxLen]) (fun x hx=>by
   simp only [List.mem_cons,List.not_mem_nil,or_false] at hx
   rcases hx with rfl | rfl | rfl | rfl
   ·exact ⟨ZdX.nil _,Zbh.nil _,(((K1.below a2).below a3).below a4).below a5⟩
   ·exact ⟨((K2.below a3).below a4).below a5,Zbh.nil _,(K3.below a4).below a5⟩
   ·exact ⟨ZdX.nil _,Zbh.nil _,K4.below a5⟩
   ·exact ⟨ZdX.nil _,Zbh.nil _,Zbh.nil _⟩)
 generalize hw5:w4.alloc (.cells #[.int .i64 0,.slice none 0 0,.slice none 0 0,.slice (some ⟨w.heap.size,0,none⟩) 1 1,.int .i64 0,.int .i64 4,.slice (some ⟨w1.heap.size,0,none⟩) 1 1,.slice none 0 0,.slice (some ⟨w2.heap.size,0,none⟩) 1 1,.int .i64 0,.int .i64 7,.slice none 0 0,.slice none 0 0,.slice (some ⟨w3.heap.size,0,none⟩) 1 1,.int .i64 0,.int .i64 19,.slice none 0 0,.slice none 0 0,.slice none 0 0,.int .i64 0] 37)=w5 at *
 have b5:Below w.heap.size w w5:=a1.trans ((a2.mono a1.size).trans ((a3.mono (Nat.le_trans a1.size a2.size)).trans ((a4.mono (Nat.le_trans a1.size (Nat.le_trans a2.size a3.size))).trans (a5.mono (Nat.le_trans a1.size (Nat.le_trans a2.size (Nat.le_trans a3.size a4.size)))))))
 have t5:=ht.below b5
 have S1:=zh (Ziz w5 _ _ N5 t5.keys t5.p (by decide +kernel) (by rw [Zq2];decide))
 rw [Zq2] at S1
 have S2:=zh (fun w'=>Zma w')
 have HB:=zh b5
 clear ht K1 K2 K3 K4 N5 a1 a2 a3 a4 a5 b5 t5
 go_enter Tryz.func6,Tryz.ntmps6
 go_wp2_with (first
  | (go_at_call 9;(with_reducible refine S1.out.mono ?_);rintro e2 w6 ⟨rfl,hb⟩;have B6:=zh hb;clear hb)
  | (go_at_call 9;(with_reducible refine (S2.out _).mono ?_);rintro e3 w7 ⟨rfl,hb⟩;have B7:=zh (B6.out.trans (hb.mono B6.out.size));clear hb))
 go_ret
 exact ⟨rfl,HB.out.trans (B7.out.mono HB.out.size)⟩
end
section
open Go.RowKit
theorem Zkt (w:World) (ht:ShoTabs w) (s:ByteArray) (_:s.size<=maxLen) :
  Calls Tryz.prog 4 #[.string s] w fun e w'=>e=.returned (.bool true)/\Below w.heap.size w w':=by
 have AW:=zh (fun (w':World) (hb:Below w.heap.size w w')=>Zof w' (ht.below hb))
 have B0:=zh (show Below w.heap.size w w from Below.refl _ _)
 by_cases h15:s.size<=1500
 ·have z15:¬ ((1500:Int)<(s.size:Int)):=by omega
  obtain ⟨ns,er,pl,hr1⟩:∃ ns er pl,ZdR s.data.toList=(ns,er,pl):=⟨_,_,_,rfl⟩
  have PA:∀ w':World,Calls Tryz.prog 10 #[.string s] w' (fun e w2=>∃ mv,e=.returned (.tuple #[mv,.agg #[.int .i64 er,.int .i64 pl]])/\Zs w2 mv ns/\Below w'.heap.size w' w2):=fun w'=>by
   have h:=Zjc s w'
   rw [hr1] at h
   exact h
  have PA:=zh PA
  by_cases he:er=0
  ·subst he
   obtain ⟨hr,hpl,_,hw⟩:=Zgw hr1
   subst hpl
   have hlen:(ZbG ns).length<=7200000000:=Zpv hw
   have SH:∀ (w':World) (v:Value),Below w.heap.size w w'->Zs w' v ns->Calls Tryz.prog 9 #[v] w' fun e w2=>e=.returned (txt (ZbG ns))/\Below w'.heap.size w' w2:=fun w' v hb hN=>Ziz w' v ns hN (ht.below hb).keys (ht.below hb).p hr (by omega)
   obtain ⟨a,ha⟩:∃ a:ByteArray,a=⟨(ZbG ns).toArray⟩:=⟨_,rfl⟩
   have ex:txt (ZbG ns)=.string a:=by rw [ha]
   have hsz:a.size=(ZbG ns).length:=by rw [ha];show (ZbG ns).toArray.size=_;rw [List.size_toArray]
   have hdl:a.data.toList=ZbG ns:=by rw [ha]
   by_cases h6:(ZbG ns).length<=6000
   ·have z6:¬ ((6000:Int)<(a.size:Int)):=by omega
    obtain ⟨ms,hm1,hm2,hm3⟩:=Zmb hr1 h6
    have PB:∀ w':World,Calls Tryz.prog 10 #[.string a] w' (fun e w2=>∃ mv,e=.returned (.tuple #[mv,.agg #[.int .i64 0,.int .i64 0]])/\Zs w2 mv ms/\Below w'.heap.size w' w2):=fun w'=>by
     have h:=Zjc a w'
     rw [hdl,hm1] at h
     exact h
    have PB:=zh PB
    have SI:∀ (w':World) (v:Value),Below w.heap.size w w'->Zs w' v ms->Calls Tryz.prog 9 #[v] w' fun e w2=>e=.returned (txt (ZbG ms))/\Below w'.heap.size w' w2:=fun w' v hb hN=>Ziz w' v ms hN (ht.below hb).keys (ht.below hb).p hm2 (by rw [hm3];omega)
    rw [hm3,ex] at SI
    rw [ex] at SH
    have SI:=zh SI
    have SH:=zh SH
    clear ht hr1 hr hw hlen ha ex hsz hdl h6 hm1 hm2 hm3 h15
    go_enter Tryz.func4,Tryz.ntmps4
    go_wp2_with (first
     | (go_at_call 6;(refine (AW.out _ B0.out).mono ?_);rintro e1 w1 ⟨rfl,hb⟩;have B1:=zh (B0.out.trans (hb.mono B0.out.size));clear hb B0)
     | (go_at_call 10;(with_reducible refine (PA.out _).mono ?_);rintro e5 w2 ⟨mv,rfl,hM,hb⟩;have B2:=zh (B1.out.trans (hb.mono B1.out.size));have HM:=zh hM;clear hb hM PA)
     | (go_at_call 9;(refine (SH.out _ mv (B2.out.trans ((below_alloc1 _ _).mono B2.out.size)) (HM.out.below (below_alloc1 _ _))).mono ?_);rintro e4 w3 ⟨rfl,hb⟩;have B3:=zh ((B2.out.trans ((below_alloc1 _ _).mono B2.out.size)).trans (hb.mono (B2.out.trans ((below_alloc1 _ _).mono B2.out.size)).size));clear hb SH)
     | (go_at_call 10;(with_reducible refine (PB.out _).mono ?_);rintro e5 w5 ⟨mv2,rfl,hM,hb⟩;have B5:=zh (B3.out.trans (hb.mono B3.out.size));have HM2:=zh hM;clear hb hM)
     | (go_at_call 9;(refine (SI.out _ mv2 (B5.out.trans ((below_alloc1 _ _).mono B5.out.size)) (HM2.out.below (below_alloc1 _ _))).mono ?_);rintro e4 w6 ⟨rfl,hb⟩;have B6:=zh ((B5.out.trans ((below_alloc1 _ _).mono B5.out.size)).trans (hb.mono (B5.out.trans ((below_alloc1 _ _).mono B5.out.size)).size));clear hb))
    go_ret
    exact ⟨rfl,B6.out⟩
   ·have z6:(6000:Int)<(a.size:Int):=by omega
    rw [ex] at SH
    have SH:=zh SH
    clear ht hr1 hr hw hlen ha ex hsz hdl h6 h15
    go_enter Tryz.func4,Tryz.ntmps4
    go_wp2_with (first
     | (go_at_call 6;(refine (AW.out _ B0.out).mono ?_);rintro e1 w1 ⟨rfl,hb⟩;have B1:=zh (B0.out.trans (hb.mono B0.out.size));clear hb B0)
     | (go_at_call 10;(with_reducible refine (PA.out _).mono ?_);rintro e5 w2 ⟨mv,rfl,hM,hb⟩;have B2:=zh (B1.out.trans (hb.mono B1.out.size));have HM:=zh hM;clear hb hM PA)
     | (go_at_call 9;(refine (SH.out _ mv (B2.out.trans ((below_alloc1 _ _).mono B2.out.size)) (HM.out.below (below_alloc1 _ _))).mono ?_);rintro e4 w3 ⟨rfl,hb⟩;have B3:=zh ((B2.out.trans ((below_alloc1 _ _).mono B2.out.size)).trans (hb.mono (B2.out.trans ((below_alloc1 _ _).mono B2.out.size)).size));clear hb SH))
    go_ret
    exact ⟨rfl,B3.out⟩
  ·have ze:(er != 0)=true:=by simp [he]
   clear ht hr1 h15
   go_enter Tryz.func4,Tryz.ntmps4
   go_wp2_with (first
    | (go_at_call 6;(refine (AW.out _ B0.out).mono ?_);rintro e1 w1 ⟨rfl,hb⟩;have B1:=zh (B0.out.trans (hb.mono B0.out.size));clear hb B0)
    | (go_at_call 10;(with_reducible refine (PA.out _).mono ?_);rintro e5 w2 ⟨mv,rfl,hM,hb⟩;have B2:=zh (B1.out.trans (hb.mono B1.out.size));have HM:=zh hM;clear hb hM PA))
   go_ret
   exact ⟨rfl,B2.out.trans ((below_alloc1 _ _).mono B2.out.size)⟩
 ·have z15:(1500:Int)<(s.size:Int):=by omega
  clear ht h15
  go_enter Tryz.func4,Tryz.ntmps4
  go_wp2_with (first
   | (go_at_call 6;(refine (AW.out _ B0.out).mono ?_);rintro e1 w1 ⟨rfl,hb⟩;have B1:=zh (B0.out.trans (hb.mono B0.out.size));clear hb B0)
   | (go_at_call 6;(refine (AW.out _ B1.out).mono ?_);rintro e1 w4 ⟨rfl,hb⟩;have B4:=zh (B1.out.trans (hb.mono B1.out.size));clear hb))
  go_ret
  exact ⟨rfl,B4.out⟩
end
end Go.Proofs.YtkongcicmajolaaGreatDoor
