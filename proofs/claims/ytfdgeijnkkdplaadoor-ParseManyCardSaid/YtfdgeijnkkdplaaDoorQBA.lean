import Derived.Test.YtfdgeijnkkdplaaDoorQAH
import Derived.Test.YtfdgeijnkkdplaaDoorQAW
import Derived.Test.YtfdgeijnkkdplaaDoorQAZ
set_option maxRecDepth 100000
set_option maxHeartbeats 8000000
namespace Go.Proofs.YtfdgeijnkkdplaaDoor
section
section
variable {L:List Tok}
theorem ZdF (hE:ZW L) {D:PS->Prop} (hD:Dom L D) {ex:PS->Tr×PS} (hx:Onw L D ex):Onw L D (ZV L ex):=fun s hs=>by
 unfold ZV
 by_cases h:isM L [38] s=true
 ·rw [if_pos h]
  have g:=ZU hE (hD.lt _ hs) h
  exact g.then_ (ZD hE (g.lt (hD.lt _ hs))).toAdv
 ·rw [if_neg h];exact hx s hs
theorem ZlK (hE:ZW L) {D:PS->Prop} (hD:Dom L D) {ex:PS->Tr×PS} (hx:Onw L D ex) (p:Int):Onw L D (Za4 L ex p):=fun s hs=>by
 have a:=ZD hE (hD.lt _ hs)
 have l1:=a.lt (hD.lt _ hs)
 unfold Za4
 dsimp only
 have key:∀ q:PS,Adv L (Za L s).2 q->Gon L s (Zd L [59] (Zr L (ZV L ex) (L.length+1) true [] (Zd L [40] q)).2):=fun q hq=>by
  have w:=ZA hE [40] (hq.lt l1)
  have dq:=hD.next _ _ (hD.next _ _ (hD.next _ _ hs a.toAdv) hq) w.toAdv
  have c:=ZbL hE hD (fun s h=>(ZdF hE hD hx s h).toAdv) (L.length+1) true [] _ dq
  exact a.then_ (((hq.trans w.toAdv).trans c).trans (ZA hE [59] (c.lt (w.lt (hq.lt l1)))).toAdv)
 by_cases h:isM L [61] (Za L s).2=true
 ·rw [if_pos h]
  have g:=ZU hE l1 h
  exact key _ (g.toAdv.trans (ZD hE (g.lt l1)).toAdv)
 ·rw [if_neg h]
  exact key _ (Adv.refl _)
abbrev Stm (L:List Tok) (f:Nat) (st:PS->Tr×PS):Prop:=∀ s,Dp L f s->s.err=0->Gon L s (st s).2
theorem Stm.adv {f:Nat} {st:PS->Tr×PS} (h:Stm L f st):∀ s,Dp L f s->s.err=0->Adv L s (st s).2:=fun s a b=>(h s a b).toAdv
theorem Zd1 (hE:ZW L) {f:Nat} {st:PS->Tr×PS} (hp:Stm L f st) {s:PS} (hs:Dp L (f+1) s) (h200:s.deep<=200):Gon L s (Zax L st s).2:=by
 have a:=ZD hE hs.lt
 exact a.then_ (Za9 hE hp.adv ((ZaI _).next _ _ hs a.toAdv) (by rw [a.deep];exact h200)).toAdv
theorem ZaV (f:Nat):Dom L (fun s=>Dp L f s/\s.deep<=200):=⟨fun a b h k=>⟨(ZaI f).next a b h.1 k,by rw [k.deep];exact h.2⟩,fun a h=>h.1.lt⟩
theorem ZmR (hE:ZW L) {f:Nat} {st:PS->Tr×PS} (hp:Stm L f st) (p:Int) {s:PS} (hs:Dp L (f+1) s) (h200:s.deep<=200):Gon L s (doM L st p s).2:=by
 have a:=ZD hE hs.lt
 have w:=ZA hE [46] (a.lt hs.lt)
 have b:=ZD hE (w.lt (a.lt hs.lt))
 have lb:=b.lt (w.lt (a.lt hs.lt))
 have all:=(a.toAdv.trans w.toAdv).trans b.toAdv
 have gall:Gon L s (Za L (Zd L [46] (Za L s).2)).2:=a.then_ (w.toAdv.trans b.toAdv)
 unfold doM
 dsimp only
 by_cases h:isM L [59] (Za L (Zd L [46] (Za L s).2)).2=true
 ·rw [if_pos h];exact gall.then_ (ZU hE lb h).toAdv
 ·rw [if_neg h]
  have v:=ZA hE [123] lb
  have d:=(ZaV (f+1)).next _ _ ⟨hs,h200⟩ (all.trans v.toAdv)
  exact gall.then_ (v.toAdv.trans (Zbu hE (ZaV (f+1)) (fun s h _=>(Zd1 hE hp h.1 h.2).toAdv) [125] _ _ _ d))
theorem ZlQ (hE:ZW L) {f:Nat} {ex st:PS->Tr×PS} (hx:Onw L (Dp L (f+1)) ex) (hp:Stm L f st) (p:Int) {s:PS} (hs:Dp L (f+1) s) (h200:s.deep<=200):Gon L s (ZbM L ex st p s).2:=by
 have D:=ZaV (L:=L) (f+1)
 have X:∀ q,Dp L (f+1) q/\q.deep<=200->Adv L q (ex q).2:=fun q h=>(hx q h.1).toAdv
 have B:∀ q,Dp L (f+1) q/\q.deep<=200->Adv L q (Zm L st q).2:=fun q h=>(Za9 hE hp.adv h.1 h.2).toAdv
 unfold ZbM
 by_cases h1:isM L [105,102] s=true
 ·rw [if_pos h1]
  have g:=ZU hE hs.lt h1
  have d1:=D.next _ _ ⟨hs,h200⟩ g.toAdv
  have d2:=D.next _ _ d1 (X _ d1)
  have d3:=D.next _ _ d2 (B _ d2)
  dsimp only
  by_cases h2:isM L [101,108,115,101] (Zm L st (ex (Zb s)).2).2=true
  ·rw [if_pos h2]
   have k:=ZU hE d3.1.lt h2
   exact g.then_ ((((X _ d1).trans (B _ d2)).trans k.toAdv).trans (B _ (D.next _ _ d3 k.toAdv)))
  ·rw [if_neg h2];exact g.then_ ((X _ d1).trans (B _ d2))
 rw [if_neg h1]
 by_cases h2:isM L [119,104,105,108,101] s=true
 ·rw [if_pos h2]
  have g:=ZU hE hs.lt h2
  have d1:=D.next _ _ ⟨hs,h200⟩ g.toAdv
  have d2:=D.next _ _ d1 (X _ d1)
  exact g.then_ ((X _ d1).trans (B _ d2))
 rw [if_neg h2]
 by_cases h3:isM L [114,101,116,117,114,110] s=true
 ·rw [if_pos h3]
  have g:=ZU hE hs.lt h3
  have d1:=D.next _ _ ⟨hs,h200⟩ g.toAdv
  have d2:=D.next _ _ d1 (X _ d1)
  exact g.then_ ((X _ d1).trans (ZA hE [59] d2.1.lt).toAdv)
 rw [if_neg h3]
 have w:=ZA hE [101,120,105,116] hs.lt
 exact w.then_ (ZA hE [59] (w.lt hs.lt)).toAdv
theorem Zlz (hE:ZW L) {f:Nat} {st:PS->Tr×PS} (hp:Stm L f st) (p:Int) {s:PS} (hs:Dp L (f+1) s) (h200:s.deep<=200):Gon L s (Za8 L st p s).2:=by
 have D:=ZaV (L:=L) (f+1)
 unfold Za8
 dsimp only
 have g:=ZD hE hs.lt
 have d1:=D.next _ _ ⟨hs,h200⟩ g.toAdv
 have g2:=ZA hE [61] d1.1.lt
 have d2:=D.next _ _ d1 g2.toAdv
 have g3:=ZD hE d2.1.lt
 have d3:=D.next _ _ d2 g3.toAdv
 have g4:=Zde hE (Zo 1) d3.1.lt
 have d4:=D.next _ _ d3 g4.toAdv
 have g5:=Zb8 hE 1 d4.1.lt
 have d5:=D.next _ _ d4 g5.toAdv
 have g6:=ZA hE [47] d5.1.lt
 have d6:=D.next _ _ d5 g6.toAdv
 have g7:=Zb8 hE 1 d6.1.lt
 have d7:=D.next _ _ d6 g7.toAdv
 have g8:=ZbI hE [105,110] 2 d7.1.lt
 have d8:=D.next _ _ d7 g8
 exact g.then_ (g2.toAdv.trans (g3.toAdv.trans (g4.toAdv.trans (g5.toAdv.trans (g6.toAdv.trans (g7.toAdv.trans (g8.trans (Za9 hE hp.adv d8.1 d8.2).toAdv)))))))
theorem Zcp (hE:ZW L) {ex:PS->Tr×PS} (hx:∀ f,Onw L (Dp L (f+1)) ex):∀ f,Stm L f (Zh L ex f)
 | 0,s,hs,e=>by have:=hs.fuel e;omega
 | f+1,s,hs,e=>by
  have D:=ZaV (L:=L) (f+1)
  have h200:=(hs.fuel e).1
  have ih:=Zcp hE hx f
  unfold Zh
  dsimp only
  by_cases h1:isM L [108,101,116] s=true
  ·rw [if_pos h1]
   have g:=ZU hE hs.lt h1
   have d1:=D.next _ _ ⟨hs,h200⟩ g.toAdv
   have g2:=ZD hE d1.1.lt
   have d2:=D.next _ _ d1 g2.toAdv
   have g3:=ZA hE [61] d2.1.lt
   have d3:=D.next _ _ d2 g3.toAdv
   have g4:=hx f _ d3.1
   have d4:=D.next _ _ d3 g4.toAdv
   exact g.then_ (g2.toAdv.trans (g3.toAdv.trans (g4.toAdv.trans (ZA hE [59] d4.1.lt).toAdv)))
  rw [if_neg h1]
  by_cases h2:ZaO L s=true
  ·rw [if_pos h2]
   have g2:=ZD hE hs.lt
   have d2:=D.next _ _ ⟨hs,h200⟩ g2.toAdv
   have g3:=ZA hE [61] d2.1.lt
   have d3:=D.next _ _ d2 g3.toAdv
   have g4:=hx f _ d3.1
   have d4:=D.next _ _ d3 g4.toAdv
   exact g2.then_ (g3.toAdv.trans (g4.toAdv.trans (ZA hE [59] d4.1.lt).toAdv))
  rw [if_neg h2]
  by_cases h3:isM L [111,112,101,110] s=true
  ·rw [if_pos h3]
   have g:=ZU hE hs.lt h3
   have d1:=D.next _ _ ⟨hs,h200⟩ g.toAdv
   have g2:=ZD hE d1.1.lt
   have d2:=D.next _ _ d1 g2.toAdv
   have g3:=ZD hE d2.1.lt
   have d3:=D.next _ _ d2 g3.toAdv
   have g4:=Za9 hE ih.adv d3.1 d3.2
   have d4:=D.next _ _ d3 g4.toAdv
   have g5:=ZA hE [101,108,115,101] d4.1.lt
   have d5:=D.next _ _ d4 g5.toAdv
   exact g.then_ (g2.toAdv.trans (g3.toAdv.trans (g4.toAdv.trans (g5.toAdv.trans (Za9 hE ih.adv d5.1 d5.2).toAdv))))
  rw [if_neg h3]
  by_cases h4:isM L [100,111] s=true
  ·rw [if_pos h4]
   have g:=ZU hE hs.lt h4
   have d1:=D.next _ _ ⟨hs,h200⟩ g.toAdv
   exact g.then_ (ZmR hE ih _ d1.1 d1.2).toAdv
  rw [if_neg h4]
  by_cases h5:isM L [115,112,108,105,116] s=true
  ·rw [if_pos h5]
   have g:=ZU hE hs.lt h5
   have d1:=D.next _ _ ⟨hs,h200⟩ g.toAdv
   exact g.then_ (Zlz hE ih _ d1.1 d1.2).toAdv
  rw [if_neg h5]
  by_cases h6:isM L [99,97,108,108] s=true
  ·rw [if_pos h6]
   have g:=ZU hE hs.lt h6
   have d1:=D.next _ _ ⟨hs,h200⟩ g.toAdv
   exact g.then_ (ZlK hE (ZaI _) (hx f) _ _ d1.1).toAdv
  rw [if_neg h6]
  exact ZlQ hE (hx f) ih _ hs h200
theorem ZfA (hE:ZW L):∀ (f:Nat) (l:List Txt) {s:PS},s.at_<L.length->Adv L s (Zb9 L f l s).2
 | 0,_,s,_=>Adv.refl s
 | f+1,l,s,hs=>by
  unfold Zb9
  by_cases he:s.err=0
  ·rw [if_pos he]
   have a:=ZD hE hs
   have b:=ZD hE (a.lt hs)
   have lb:=b.lt (a.lt hs)
   dsimp only
   by_cases h:isM L [44] (Za L (Za L s).2).2=true
   ·rw [if_pos h]
    have g:=ZU hE lb h
    exact (a.toAdv.trans b.toAdv).trans (g.toAdv.trans (ZfA hE f _ (g.lt lb)))
   ·rw [if_neg h];exact a.toAdv.trans b.toAdv
  ·rw [if_neg he];exact Adv.refl s
theorem part_go (hE:ZW L) {s:PS} (hs:s.at_<L.length):Gon L s (Zan L s).2:=by
 unfold Zan
 dsimp only
 by_cases h1:isM L [115,116,97,116,101] s=true
 ·rw [if_pos h1]
  have g:=ZU hE hs h1
  have n:=ZD hE (g.lt hs)
  exact g.then_ (n.toAdv.trans (ZA hE [59] (n.lt (g.lt hs))).toAdv)
 rw [if_neg h1]
 by_cases h2:isM L [102,105,110,97,108] s=true
 ·rw [if_pos h2]
  have g:=ZU hE hs h2
  have n:=ZD hE (g.lt hs)
  exact g.then_ (n.toAdv.trans (ZA hE [59] (n.lt (g.lt hs))).toAdv)
 rw [if_neg h2]
 have g:=ZA hE [111,112] hs
 have l1:=g.lt hs
 have a:=ZD hE l1
 have l2:=a.lt l1
 have b:=ZD hE l2
 have l3:=b.lt l2
 have w:=ZA hE [45,62] l3
 have l4:=w.lt l3
 have x:=ZfA hE (L.length+1) [(Za L (Zd L [111,112] s)).1,(Za L (Za L (Zd L [111,112] s)).2).1] l4
 exact g.then_ (a.toAdv.trans (b.toAdv.trans (w.toAdv.trans (x.trans (ZA hE [59] (x.lt l4)).toAdv))))
theorem Zep (hE:ZW L) {s:PS} (hs:s.at_<L.length):Gon L s (ZbF L s).2:=by
 have D:Dom L (fun s=>s.at_<L.length):=⟨fun a b h k=>k.lt h,fun a h=>h⟩
 unfold ZbF
 dsimp only
 have g:=ZA hE [112,114,111,116,111] hs
 have a:=ZD hE (g.lt hs)
 have w:=ZA hE [123] (a.lt (g.lt hs))
 exact g.then_ (a.toAdv.trans (w.toAdv.trans (Zbu hE D (fun s h _=>(part_go hE h).toAdv) [125] _ _ _ (w.lt (a.lt (g.lt hs))))))
theorem ZbN (hE:ZW L) {s:PS} (hs:s.at_<L.length):Gon L s (ZP L s).2:=by
 unfold ZP
 dsimp only
 have a:=ZD hE hs
 have l1:=a.lt hs
 by_cases h:isM L [58] (Za L s).2=true
 ·rw [if_pos h]
  have g:=ZU hE l1 h
  have b:=ZD hE (g.lt l1)
  have l3:=b.lt (g.lt l1)
  have k:=Zde hE (Zo 0) l3
  have l4:=k.lt l3
  have key:∀ q:PS,Adv L (Zz L (Zo 0) (Za L (Zb (Za L s).2)).2).2 q->Gon L s (Zn L [105,110] 2 (Zn L [116,111] 1 (Zn L [97,116] 0 q).2).2).2:=fun q hq=>by
   have x:=ZbI hE [97,116] 0 (hq.lt l4)
   have y:=ZbI hE [116,111] 1 (x.lt (hq.lt l4))
   have z:=ZbI hE [105,110] 2 (y.lt (x.lt (hq.lt l4)))
   exact a.then_ (g.toAdv.trans (b.toAdv.trans (k.toAdv.trans (hq.trans (x.trans (y.trans z))))))
  by_cases h2:isM L [108,101,97,115,116] (Zz L (Zo 0) (Za L (Zb (Za L s).2)).2).2=true
  ·rw [if_pos h2]
   have e:=ZU hE l4 h2
   have n:=Zb8 hE 1 (e.lt l4)
   have w:=ZA hE [47] (n.lt (e.lt l4))
   have d:=Zb8 hE 1 (w.lt (n.lt (e.lt l4)))
   exact key _ (e.toAdv.trans (n.toAdv.trans (w.toAdv.trans d.toAdv)))
  ·rw [if_neg h2];exact key _ (Adv.refl _)
 ·rw [if_neg h];exact a
theorem ZfK (hE:ZW L) {f:Nat} {ex st:PS->Tr×PS} (hp:Stm L f st) {s:PS} (hs:Dp L (f+1) s) (h200:s.deep<=200):Gon L s (fnM L ex st s).2:=by
 have D:=ZaV (L:=L) (f+1)
 unfold fnM
 dsimp only
 have g:=ZA hE [102,110] hs.lt
 have d1:=D.next _ _ ⟨hs,h200⟩ g.toAdv
 have g2:=ZD hE d1.1.lt
 have d2:=D.next _ _ d1 g2.toAdv
 have g3:=ZA hE [40] d2.1.lt
 have d3:=D.next _ _ d2 g3.toAdv
 have g4:=ZbL hE D (fun s h=>(ZbN hE h.1.lt).toAdv) (L.length+1) true [] _ d3
 have d4:=D.next _ _ d3 g4
 exact g.then_ (g2.toAdv.trans (g3.toAdv.trans (g4.trans (Za9 hE hp.adv d4.1 d4.2).toAdv)))
end
end
section
open Go Go.RowKit
section
variable {w0:World} {bp c:Nat} {ad:Addr} {L:List Tok}
theorem ZeX {x:Txt} {c:UInt8} {r:Txt} (hx:x=c::r) (hl:ZaA c=false) {s:PS} (h:isM L x s=true):s.err=0/\(Zak L s).2.1=x/\(Zak L s).1=2:=by
 unfold isM at h
 simp only [Bool.and_eq_true,Bool.or_eq_true,decide_eq_true_eq] at h
 obtain ⟨⟨h1,h2⟩,h3⟩:=h
 refine ⟨h3,h1,?_⟩
 rcases h2 with h2 | ⟨_,h2⟩
 ·exact h2
 ·exfalso
  obtain ⟨c',r',e,l⟩:=Zfd h2
  rw [hx] at e
  injection e with e _
  rw [<- e,hl] at l
  cases l
theorem ZkC {f:Nat} {s:PS} (he:s.err=0) (h:(Zak L s).1=1):ZG L (f+1) s=(.mk 20 [] [(ZaH L 0 s).1] (Zj L s) [],(ZaH L 0 s).2):=by
 rw [ZG,if_neg (by simp [he]),if_pos h]
theorem ZkB {f:Nat} {s:PS} (h:isM L [45] s=true):ZG L (f+1) s=(.mk 23 [] [] (Zj L s) [(ZG L f (inM L (Zb s))).1],Zaq (ZG L f (inM L (Zb s))).2):=by
 obtain ⟨h1,h2,h3⟩:=ZeX (c:=45) rfl (by decide) h
 rw [ZG,if_neg (by simp [h1]),if_neg (by omega),if_neg (by unfold ZaO;simp [h3]),if_pos h]
theorem Zhn {f:Nat} {s:PS} (h:isM L [40] s=true):ZG L (f+1) s=((Zbb L (ZG L f) (inM L (Zb s))).1,Zd L [41] (Zaq (Zbb L (ZG L f) (inM L (Zb s))).2)):=by
 obtain ⟨h1,h2,h3⟩:=ZeX (c:=40) rfl (by decide) h
 have hm:isM L [45] s=false:=by
  cases q:isM L [45] s with
  | false=>rfl
  | true=>
   have:=(ZeX (c:=45) rfl (by decide) q).2.1
   rw [h2] at this
   cases this
 have hw:Zd L [40] s=Zb s:=by unfold Zd;rw [if_pos h]
 rw [ZG,if_neg (by simp [h1]),if_neg (by omega),if_neg (by unfold ZaO;simp [h3]),if_neg (by simp [hm]),hw]
theorem ZiD {f:Nat} {s:PS} (he:s.err=0) (h1:isM L [40] s=false) (h2:isM L [45] s=false) (h3:(Zak L s).1≠1):((Za L s).2.err=0->ZG L (f+1) s=(.mk 21 [(Za L s).1] [] (Zj L s) [],(Za L s).2))/\Stk (Za L s).2 (ZG L (f+1) s).2:=by
 cases q:ZaO L s with
 | true=>
  have e:ZG L (f+1) s=(.mk 21 [(Za L s).1] [] (Zj L s) [],(Za L s).2):=by rw [ZG,if_neg (by simp [he]),if_neg h3,if_pos q]
  exact ⟨fun _=>e,by rw [e];exact Stk.refl _⟩
 | false=>
  have hn:Za L s=([],ZL L 11 s):=by unfold Za;rw [if_neg (by simp [q])]
  have hf:ZL L 11 s={ s with err:=11,fat:=(Zx L s.at_).2.2 }:=by unfold ZL;rw [if_pos he]
  have hw:Zd L [40] s=ZL L 11 s:=by unfold Zd;rw [if_neg (by simp [h1])]
  have e:(ZG L (f+1) s).2=Zd L [41] (Zaq (Zbb L (ZG L f) (inM L (ZL L 11 s))).2):=by rw [ZG,if_neg (by simp [he]),if_neg h3,if_neg (by simp [q]),if_neg (by simp [h2]),hw]
  rw [hn,e]
  refine ⟨fun z=>?_,(((ZdU _).trans (Zdz (Zcg f) _)).trans (Zdh _)).trans (Zq _ _)⟩
  rw [hf] at z
  exact absurd z (show ¬ (11:Int)=0 by decide)
theorem Way.begun {wS:World} {s:PS} (h:ParQ w0 wS bp ad c L s) {w1:World} {b:Nat} {k p:Int} (T:Zy w1 b 59 #[.int .i64 k,.slice none 0 0,.slice none 0 0,.slice none 0 0,.int .i64 p,.slice none 0 0]) (hb:(wS.alloc (.cells #[pV bp] 63)).heap.size<=b) (hB:Below (wS.alloc (.cells #[pV bp] 63)).heap.size (wS.alloc (.cells #[pV bp] 63)) w1) :
  Way w0 wS (w1.alloc (.cells #[brV b] 39)) bp c ad L s k [] [] p [] b [(w1.heap.size,39,#[brV b]),(wS.heap.size,63,#[pV bp])]:=by
 have sz:(wS.alloc (.cells #[pV bp] 63)).heap.size=wS.heap.size+1:=World.size_alloc _ _
 have h0:=below_alloc1 wS (.cells #[pV bp] 63)
 have W1:=Way.start h T (by omega) (h0.trans (hB.mono (by omega)))
 have TP:=(Zy.start wS #[pV bp] 63).keep hB
 have W2:Way w0 wS w1 bp c ad L s k [] [] p [] b [(wS.heap.size,63,#[pV bp])]:=by
  refine ⟨W1.P,W1.F,⟨.slice none 0 0,.slice none 0 0,.slice none 0 0,[],fun _=>False,?_⟩,W1.lt⟩
  exact ⟨by omega,T,World.ownsRow_nil _ _ _ _,World.ownsRow_nil _ _ _ _,World.ownsRow_nil _ _ _ _,by unfold ZO;rfl,fun _ q=>q.elim,fun x hx=>by
   rw [List.mem_singleton] at hx
   subst hx
   exact ⟨Nat.le_refl _,by dsimp only;omega,TP,(fun e=>by cases e),(fun e=>by cases e),fun e=>by cases e⟩⟩
 exact W2.boxed _ _
theorem ZQ {s:PS} (he:s.err=0):(Zx L s.at_).2.2=Zj L s:=by unfold Zj Zak;rw [if_neg (by simp [he])]
theorem Zk6 (h:LexL L):ZW L:=by
 obtain ⟨e,he⟩:=h.end_
 have hl:L.length=L.dropLast.length+1:=by
  have:=congrArg List.length he
  simpa using this
 refine ⟨by omega,?_⟩
 have e1:L[L.length-1]? = some (3,[],e):=by
  have:=congrArg (fun l=>l[L.length-1]?) he
  rw [this,List.getElem?_append_right (by omega),show L.length-1-L.dropLast.length=0 by omega]
  rfl
 unfold Zx
 rw [e1]
 rfl
abbrev Dd (d:Int):PS->Prop:=fun s=>s.deep=d
theorem ParQ.end_ {w:World} {s:PS} (h:ParQ w0 w bp ad c L s):ZW L:=Zk6 h.few.2.1
theorem ParQ.dp {w:World} {s:PS} (h:ParQ w0 w bp ad c L s) {f:Nat} {d:Int} (hd:s.deep=d) (h0:0<=d) (h2:d<=200) (hf:200<d+f):Dp L f s:=⟨h.lt,fun _=>by omega,by omega,by omega⟩
theorem Zl.fin {w:World} {s s1:PS} {d:Int} {w':World} {g:Nat} {t:Tr} {R:Tr×PS} (hgo:Gon L s R.2) (hd:s.deep=d) (hR:R=(t,s1)) (hF:FrP w w' bp) (hP:ParQ w0 w' bp ad c L s1) (hT:BrP w' (ZbC w w') t g):Zl w0 w bp c ad L (Dd d) s R (.returned (brV g)) w':=by
 subst hR
 exact Zl.good rfl hF hP (hgo.deep.trans hd) (hgo.on hP.err) hT
theorem Zbe {s1:PS} {R:Tr×PS} {t:Tr} (h:R=(t,s1)):Stk s1 R.2:=by rw [h];exact Stk.refl _
theorem Zmz {α β:Type} {r:α×PS} {R:β×PS} (h:r.2=R.2):Stk r.2 R.2:=by rw [h];exact Stk.refl _
end
end
end Go.Proofs.YtfdgeijnkkdplaaDoor
