import Derived.Test.YtfdgeijnkkdplaaDoorQAK
import Derived.Test.YtfdgeijnkkdplaaDoorQAV
import Derived.Test.YtfdgeijnkkdplaaDoorQAY
set_option maxRecDepth 100000
set_option maxHeartbeats 8000000
namespace Go.Proofs.YtfdgeijnkkdplaaDoor
section
section
variable {L:List Tok}
theorem ZcW (hE:ZH L) {D:PS->Prop} (hD:Dom L D) {ex:PS->Tr×PS} (hx:Onw L D ex):Onw L D (ZP L ex):=fun s hs=>by
 unfold ZP
 by_cases h:isM L [38] s=true
 ·rw [if_pos h]
  have g:=ZE hE (hD.lt _ hs) h
  exact g.then_ (Zr hE (g.lt (hD.lt _ hs))).toAdv
 ·rw [if_neg h];exact hx s hs
theorem ZlV (hE:ZH L) {D:PS->Prop} (hD:Dom L D) {ex:PS->Tr×PS} (hx:Onw L D ex) (p:Int):Onw L D (ZaN L ex p):=fun s hs=>by
 have a:=Zr hE (hD.lt _ hs)
 have l1:=a.lt (hD.lt _ hs)
 unfold ZaN
 dsimp only
 have key:∀ q:PS,Adv L (Za L s).2 q->Gon L s (Zd L [59] (Zp L (ZP L ex) (L.length+1) true [] (Zd L [40] q)).2):=fun q hq=>by
  have w:=Zm hE [40] (hq.lt l1)
  have dq:=hD.next _ _ (hD.next _ _ (hD.next _ _ hs a.toAdv) hq) w.toAdv
  have c:=Zbi hE hD (fun s h=>(ZcW hE hD hx s h).toAdv) (L.length+1) true [] _ dq
  exact a.then_ (((hq.trans w.toAdv).trans c).trans (Zm hE [59] (c.lt (w.lt (hq.lt l1)))).toAdv)
 by_cases h:isM L [61] (Za L s).2=true
 ·rw [if_pos h]
  have g:=ZE hE l1 h
  exact key _ (g.toAdv.trans (Zr hE (g.lt l1)).toAdv)
 ·rw [if_neg h]
  exact key _ (Adv.refl _)
abbrev Stm (L:List Tok) (f:Nat) (st:PS->Tr×PS):Prop:=∀ s,Dp L f s->s.err=0->Gon L s (st s).2
theorem Stm.adv {f:Nat} {st:PS->Tr×PS} (h:Stm L f st):∀ s,Dp L f s->s.err=0->Adv L s (st s).2:=fun s a b=>(h s a b).toAdv
theorem ZcS (hE:ZH L) {f:Nat} {st:PS->Tr×PS} (hp:Stm L f st) {s:PS} (hs:Dp L (f+1) s) (h200:s.deep<=200):Gon L s (Zaw L st s).2:=by
 have a:=Zr hE hs.lt
 exact a.then_ (Zaz hE hp.adv ((Zah _).next _ _ hs a.toAdv) (by rw [a.deep];exact h200)).toAdv
theorem Zap (f:Nat):Dom L (fun s=>Dp L f s/\s.deep<=200):=⟨fun a b h k=>⟨(Zah f).next a b h.1 k,by rw [k.deep];exact h.2⟩,fun a h=>h.1.lt⟩
theorem Zm7 (hE:ZH L) {f:Nat} {st:PS->Tr×PS} (hp:Stm L f st) (p:Int) {s:PS} (hs:Dp L (f+1) s) (h200:s.deep<=200):Gon L s (doM L st p s).2:=by
 have a:=Zr hE hs.lt
 have w:=Zm hE [46] (a.lt hs.lt)
 have b:=Zr hE (w.lt (a.lt hs.lt))
 have lb:=b.lt (w.lt (a.lt hs.lt))
 have all:=(a.toAdv.trans w.toAdv).trans b.toAdv
 have gall:Gon L s (Za L (Zd L [46] (Za L s).2)).2:=a.then_ (w.toAdv.trans b.toAdv)
 unfold doM
 dsimp only
 by_cases h:isM L [59] (Za L (Zd L [46] (Za L s).2)).2=true
 ·rw [if_pos h];exact gall.then_ (ZE hE lb h).toAdv
 ·rw [if_neg h]
  have v:=Zm hE [123] lb
  have d:=(Zap (f+1)).next _ _ ⟨hs,h200⟩ (all.trans v.toAdv)
  exact gall.then_ (v.toAdv.trans (ZaP hE (Zap (f+1)) (fun s h _=>(ZcS hE hp h.1 h.2).toAdv) [125] _ _ _ d))
theorem Zl1 (hE:ZH L) {f:Nat} {ex st:PS->Tr×PS} (hx:Onw L (Dp L (f+1)) ex) (hp:Stm L f st) (p:Int) {s:PS} (hs:Dp L (f+1) s) (h200:s.deep<=200):Gon L s (Zbx L ex st p s).2:=by
 have D:=Zap (L:=L) (f+1)
 have X:∀ q,Dp L (f+1) q/\q.deep<=200->Adv L q (ex q).2:=fun q h=>(hx q h.1).toAdv
 have B:∀ q,Dp L (f+1) q/\q.deep<=200->Adv L q (Zk L st q).2:=fun q h=>(Zaz hE hp.adv h.1 h.2).toAdv
 unfold Zbx
 by_cases h1:isM L [105,102] s=true
 ·rw [if_pos h1]
  have g:=ZE hE hs.lt h1
  have d1:=D.next _ _ ⟨hs,h200⟩ g.toAdv
  have d2:=D.next _ _ d1 (X _ d1)
  have d3:=D.next _ _ d2 (B _ d2)
  dsimp only
  by_cases h2:isM L [101,108,115,101] (Zk L st (ex (Zb s)).2).2=true
  ·rw [if_pos h2]
   have k:=ZE hE d3.1.lt h2
   exact g.then_ ((((X _ d1).trans (B _ d2)).trans k.toAdv).trans (B _ (D.next _ _ d3 k.toAdv)))
  ·rw [if_neg h2];exact g.then_ ((X _ d1).trans (B _ d2))
 rw [if_neg h1]
 by_cases h2:isM L [119,104,105,108,101] s=true
 ·rw [if_pos h2]
  have g:=ZE hE hs.lt h2
  have d1:=D.next _ _ ⟨hs,h200⟩ g.toAdv
  have d2:=D.next _ _ d1 (X _ d1)
  exact g.then_ ((X _ d1).trans (B _ d2))
 rw [if_neg h2]
 by_cases h3:isM L [114,101,116,117,114,110] s=true
 ·rw [if_pos h3]
  have g:=ZE hE hs.lt h3
  have d1:=D.next _ _ ⟨hs,h200⟩ g.toAdv
  have d2:=D.next _ _ d1 (X _ d1)
  exact g.then_ ((X _ d1).trans (Zm hE [59] d2.1.lt).toAdv)
 rw [if_neg h3]
 have w:=Zm hE [101,120,105,116] hs.lt
 exact w.then_ (Zm hE [59] (w.lt hs.lt)).toAdv
theorem ZlJ (hE:ZH L) {f:Nat} {st:PS->Tr×PS} (hp:Stm L f st) (p:Int) {s:PS} (hs:Dp L (f+1) s) (h200:s.deep<=200):Gon L s (ZaK L st p s).2:=by
 have D:=Zap (L:=L) (f+1)
 unfold ZaK
 dsimp only
 have g:=Zr hE hs.lt
 have d1:=D.next _ _ ⟨hs,h200⟩ g.toAdv
 have g2:=Zm hE [61] d1.1.lt
 have d2:=D.next _ _ d1 g2.toAdv
 have g3:=Zr hE d2.1.lt
 have d3:=D.next _ _ d2 g3.toAdv
 have g4:=Zcy hE (Zq 1) d3.1.lt
 have d4:=D.next _ _ d3 g4.toAdv
 have g5:=Zbt hE 1 d4.1.lt
 have d5:=D.next _ _ d4 g5.toAdv
 have g6:=Zm hE [47] d5.1.lt
 have d6:=D.next _ _ d5 g6.toAdv
 have g7:=Zbt hE 1 d6.1.lt
 have d7:=D.next _ _ d6 g7.toAdv
 have g8:=Zba hE [105,110] 2 d7.1.lt
 have d8:=D.next _ _ d7 g8
 exact g.then_ (g2.toAdv.trans (g3.toAdv.trans (g4.toAdv.trans (g5.toAdv.trans (g6.toAdv.trans (g7.toAdv.trans (g8.trans (Zaz hE hp.adv d8.1 d8.2).toAdv)))))))
theorem Zce (hE:ZH L) {ex:PS->Tr×PS} (hx:∀ f,Onw L (Dp L (f+1)) ex):∀ f,Stm L f (Zi L ex f)
 | 0,s,hs,e=>by have:=hs.fuel e;omega
 | f+1,s,hs,e=>by
  have D:=Zap (L:=L) (f+1)
  have h200:=(hs.fuel e).1
  have ih:=Zce hE hx f
  unfold Zi
  dsimp only
  by_cases h1:isM L [108,101,116] s=true
  ·rw [if_pos h1]
   have g:=ZE hE hs.lt h1
   have d1:=D.next _ _ ⟨hs,h200⟩ g.toAdv
   have g2:=Zr hE d1.1.lt
   have d2:=D.next _ _ d1 g2.toAdv
   have g3:=Zm hE [61] d2.1.lt
   have d3:=D.next _ _ d2 g3.toAdv
   have g4:=hx f _ d3.1
   have d4:=D.next _ _ d3 g4.toAdv
   exact g.then_ (g2.toAdv.trans (g3.toAdv.trans (g4.toAdv.trans (Zm hE [59] d4.1.lt).toAdv)))
  rw [if_neg h1]
  by_cases h2:ZaU L s=true
  ·rw [if_pos h2]
   have g2:=Zr hE hs.lt
   have d2:=D.next _ _ ⟨hs,h200⟩ g2.toAdv
   have g3:=Zm hE [61] d2.1.lt
   have d3:=D.next _ _ d2 g3.toAdv
   have g4:=hx f _ d3.1
   have d4:=D.next _ _ d3 g4.toAdv
   exact g2.then_ (g3.toAdv.trans (g4.toAdv.trans (Zm hE [59] d4.1.lt).toAdv))
  rw [if_neg h2]
  by_cases h3:isM L [111,112,101,110] s=true
  ·rw [if_pos h3]
   have g:=ZE hE hs.lt h3
   have d1:=D.next _ _ ⟨hs,h200⟩ g.toAdv
   have g2:=Zr hE d1.1.lt
   have d2:=D.next _ _ d1 g2.toAdv
   have g3:=Zr hE d2.1.lt
   have d3:=D.next _ _ d2 g3.toAdv
   have g4:=Zaz hE ih.adv d3.1 d3.2
   have d4:=D.next _ _ d3 g4.toAdv
   have g5:=Zm hE [101,108,115,101] d4.1.lt
   have d5:=D.next _ _ d4 g5.toAdv
   exact g.then_ (g2.toAdv.trans (g3.toAdv.trans (g4.toAdv.trans (g5.toAdv.trans (Zaz hE ih.adv d5.1 d5.2).toAdv))))
  rw [if_neg h3]
  by_cases h4:isM L [100,111] s=true
  ·rw [if_pos h4]
   have g:=ZE hE hs.lt h4
   have d1:=D.next _ _ ⟨hs,h200⟩ g.toAdv
   exact g.then_ (Zm7 hE ih _ d1.1 d1.2).toAdv
  rw [if_neg h4]
  by_cases h5:isM L [115,112,108,105,116] s=true
  ·rw [if_pos h5]
   have g:=ZE hE hs.lt h5
   have d1:=D.next _ _ ⟨hs,h200⟩ g.toAdv
   exact g.then_ (ZlJ hE ih _ d1.1 d1.2).toAdv
  rw [if_neg h5]
  by_cases h6:isM L [99,97,108,108] s=true
  ·rw [if_pos h6]
   have g:=ZE hE hs.lt h6
   have d1:=D.next _ _ ⟨hs,h200⟩ g.toAdv
   exact g.then_ (ZlV hE (Zah _) (hx f) _ _ d1.1).toAdv
  rw [if_neg h6]
  exact Zl1 hE (hx f) ih _ hs h200
theorem ZfM (hE:ZH L):∀ (f:Nat) (l:List Txt) {s:PS},s.at_<L.length->Adv L s (Zci L f l s).2
 | 0,_,s,_=>Adv.refl s
 | f+1,l,s,hs=>by
  unfold Zci
  by_cases he:s.err=0
  ·rw [if_pos he]
   have a:=Zr hE hs
   have b:=Zr hE (a.lt hs)
   have lb:=b.lt (a.lt hs)
   dsimp only
   by_cases h:isM L [44] (Za L (Za L s).2).2=true
   ·rw [if_pos h]
    have g:=ZE hE lb h
    exact (a.toAdv.trans b.toAdv).trans (g.toAdv.trans (ZfM hE f _ (g.lt lb)))
   ·rw [if_neg h];exact a.toAdv.trans b.toAdv
  ·rw [if_neg he];exact Adv.refl s
theorem part_go (hE:ZH L) {s:PS} (hs:s.at_<L.length):Gon L s (Zai L s).2:=by
 unfold Zai
 dsimp only
 by_cases h1:isM L [115,116,97,116,101] s=true
 ·rw [if_pos h1]
  have g:=ZE hE hs h1
  have n:=Zr hE (g.lt hs)
  exact g.then_ (n.toAdv.trans (Zm hE [59] (n.lt (g.lt hs))).toAdv)
 rw [if_neg h1]
 by_cases h2:isM L [102,105,110,97,108] s=true
 ·rw [if_pos h2]
  have g:=ZE hE hs h2
  have n:=Zr hE (g.lt hs)
  exact g.then_ (n.toAdv.trans (Zm hE [59] (n.lt (g.lt hs))).toAdv)
 rw [if_neg h2]
 have g:=Zm hE [111,112] hs
 have l1:=g.lt hs
 have a:=Zr hE l1
 have l2:=a.lt l1
 have b:=Zr hE l2
 have l3:=b.lt l2
 have w:=Zm hE [45,62] l3
 have l4:=w.lt l3
 have x:=ZfM hE (L.length+1) [(Za L (Zd L [111,112] s)).1,(Za L (Za L (Zd L [111,112] s)).2).1] l4
 exact g.then_ (a.toAdv.trans (b.toAdv.trans (w.toAdv.trans (x.trans (Zm hE [59] (x.lt l4)).toAdv))))
theorem ZdK (hE:ZH L) {s:PS} (hs:s.at_<L.length):Gon L s (Za5 L s).2:=by
 have D:Dom L (fun s=>s.at_<L.length):=⟨fun a b h k=>k.lt h,fun a h=>h⟩
 unfold Za5
 dsimp only
 have g:=Zm hE [112,114,111,116,111] hs
 have a:=Zr hE (g.lt hs)
 have w:=Zm hE [123] (a.lt (g.lt hs))
 exact g.then_ (a.toAdv.trans (w.toAdv.trans (ZaP hE D (fun s h _=>(part_go hE h).toAdv) [125] _ _ _ (w.lt (a.lt (g.lt hs))))))
theorem Zbu (hE:ZH L) {s:PS} (hs:s.at_<L.length):Gon L s (ZN L s).2:=by
 unfold ZN
 dsimp only
 have a:=Zr hE hs
 have l1:=a.lt hs
 by_cases h:isM L [58] (Za L s).2=true
 ·rw [if_pos h]
  have g:=ZE hE l1 h
  have b:=Zr hE (g.lt l1)
  have l3:=b.lt (g.lt l1)
  have k:=Zcy hE (Zq 0) l3
  have l4:=k.lt l3
  have key:∀ q:PS,Adv L (ZA L (Zq 0) (Za L (Zb (Za L s).2)).2).2 q->Gon L s (Zj L [105,110] 2 (Zj L [116,111] 1 (Zj L [97,116] 0 q).2).2).2:=fun q hq=>by
   have x:=Zba hE [97,116] 0 (hq.lt l4)
   have y:=Zba hE [116,111] 1 (x.lt (hq.lt l4))
   have z:=Zba hE [105,110] 2 (y.lt (x.lt (hq.lt l4)))
   exact a.then_ (g.toAdv.trans (b.toAdv.trans (k.toAdv.trans (hq.trans (x.trans (y.trans z))))))
  by_cases h2:isM L [108,101,97,115,116] (ZA L (Zq 0) (Za L (Zb (Za L s).2)).2).2=true
  ·rw [if_pos h2]
   have e:=ZE hE l4 h2
   have n:=Zbt hE 1 (e.lt l4)
   have w:=Zm hE [47] (n.lt (e.lt l4))
   have d:=Zbt hE 1 (w.lt (n.lt (e.lt l4)))
   exact key _ (e.toAdv.trans (n.toAdv.trans (w.toAdv.trans d.toAdv)))
  ·rw [if_neg h2];exact key _ (Adv.refl _)
 ·rw [if_neg h];exact a
theorem ZeV (hE:ZH L) {f:Nat} {ex st:PS->Tr×PS} (hp:Stm L f st) {s:PS} (hs:Dp L (f+1) s) (h200:s.deep<=200):Gon L s (fnM L ex st s).2:=by
 have D:=Zap (L:=L) (f+1)
 unfold fnM
 dsimp only
 have g:=Zm hE [102,110] hs.lt
 have d1:=D.next _ _ ⟨hs,h200⟩ g.toAdv
 have g2:=Zr hE d1.1.lt
 have d2:=D.next _ _ d1 g2.toAdv
 have g3:=Zm hE [40] d2.1.lt
 have d3:=D.next _ _ d2 g3.toAdv
 have g4:=Zbi hE D (fun s h=>(Zbu hE h.1.lt).toAdv) (L.length+1) true [] _ d3
 have d4:=D.next _ _ d3 g4
 exact g.then_ (g2.toAdv.trans (g3.toAdv.trans (g4.trans (Zaz hE hp.adv d4.1 d4.2).toAdv)))
end
end
section
open Go Go.RowKit
section
variable {w0:World} {bp c:Nat} {ad:Addr} {L:List Tok}
theorem Zfe {x:Txt} {c:UInt8} {r:Txt} (hx:x=c::r) (hl:ZaE c=false) {s:PS} (h:isM L x s=true):s.err=0/\(Zao L s).2.1=x/\(Zao L s).1=2:=by
 unfold isM at h
 simp only [Bool.and_eq_true,Bool.or_eq_true,decide_eq_true_eq] at h
 obtain ⟨⟨h1,h2⟩,h3⟩:=h
 refine ⟨h3,h1,?_⟩
 rcases h2 with h2 | ⟨_,h2⟩
 ·exact h2
 ·exfalso
  obtain ⟨c',r',e,l⟩:=Zfu h2
  rw [hx] at e
  injection e with e _
  rw [<- e,hl] at l
  cases l
theorem ZkK {f:Nat} {s:PS} (he:s.err=0) (h:(Zao L s).1=1):ZD L (f+1) s=(.mk 20 [] [(ZaJ L 0 s).1] (Zl L s) [],(ZaJ L 0 s).2):=by
 rw [ZD,if_neg (by simp [he]),if_pos h]
theorem ZkJ {f:Nat} {s:PS} (h:isM L [45] s=true):ZD L (f+1) s=(.mk 23 [] [] (Zl L s) [(ZD L f (inM L (Zb s))).1],Zas (ZD L f (inM L (Zb s))).2):=by
 obtain ⟨h1,h2,h3⟩:=Zfe (c:=45) rfl (by decide) h
 rw [ZD,if_neg (by simp [h1]),if_neg (by omega),if_neg (by unfold ZaU;simp [h3]),if_pos h]
theorem Zhw {f:Nat} {s:PS} (h:isM L [40] s=true):ZD L (f+1) s=((ZaH L (ZD L f) (inM L (Zb s))).1,Zd L [41] (Zas (ZaH L (ZD L f) (inM L (Zb s))).2)):=by
 obtain ⟨h1,h2,h3⟩:=Zfe (c:=40) rfl (by decide) h
 have hm:isM L [45] s=false:=by
  cases q:isM L [45] s with
  | false=>rfl
  | true=>
   have:=(Zfe (c:=45) rfl (by decide) q).2.1
   rw [h2] at this
   cases this
 have hw:Zd L [40] s=Zb s:=by unfold Zd;rw [if_pos h]
 rw [ZD,if_neg (by simp [h1]),if_neg (by omega),if_neg (by unfold ZaU;simp [h3]),if_neg (by simp [hm]),hw]
theorem ZiL {f:Nat} {s:PS} (he:s.err=0) (h1:isM L [40] s=false) (h2:isM L [45] s=false) (h3:(Zao L s).1≠1):((Za L s).2.err=0->ZD L (f+1) s=(.mk 21 [(Za L s).1] [] (Zl L s) [],(Za L s).2))/\Stk (Za L s).2 (ZD L (f+1) s).2:=by
 cases q:ZaU L s with
 | true=>
  have e:ZD L (f+1) s=(.mk 21 [(Za L s).1] [] (Zl L s) [],(Za L s).2):=by rw [ZD,if_neg (by simp [he]),if_neg h3,if_pos q]
  exact ⟨fun _=>e,by rw [e];exact Stk.refl _⟩
 | false=>
  have hn:Za L s=([],ZM L 11 s):=by unfold Za;rw [if_neg (by simp [q])]
  have hf:ZM L 11 s={ s with err:=11,fat:=(Zx L s.at_).2.2 }:=by unfold ZM;rw [if_pos he]
  have hw:Zd L [40] s=ZM L 11 s:=by unfold Zd;rw [if_neg (by simp [h1])]
  have e:(ZD L (f+1) s).2=Zd L [41] (Zas (ZaH L (ZD L f) (inM L (ZM L 11 s))).2):=by rw [ZD,if_neg (by simp [he]),if_neg h3,if_neg (by simp [q]),if_neg (by simp [h2]),hw]
  rw [hn,e]
  refine ⟨fun z=>?_,(((Zee _).trans (ZdP (Zcq f) _)).trans (Zdp _)).trans (Zt _ _)⟩
  rw [hf] at z
  exact absurd z (show ¬ (11:Int)=0 by decide)
theorem Way.begun {wS:World} {s:PS} (h:ParQ w0 wS bp ad c L s) {w1:World} {b:Nat} {k p:Int} (T:ZB w1 b 59 #[.int .i64 k,.slice none 0 0,.slice none 0 0,.slice none 0 0,.int .i64 p,.slice none 0 0]) (hb:(wS.alloc (.cells #[pV bp] 63)).heap.size<=b) (hB:Below (wS.alloc (.cells #[pV bp] 63)).heap.size (wS.alloc (.cells #[pV bp] 63)) w1) :
  Way w0 wS (w1.alloc (.cells #[brV b] 39)) bp c ad L s k [] [] p [] b [(w1.heap.size,39,#[brV b]),(wS.heap.size,63,#[pV bp])]:=by
 have sz:(wS.alloc (.cells #[pV bp] 63)).heap.size=wS.heap.size+1:=World.size_alloc _ _
 have h0:=below_alloc1 wS (.cells #[pV bp] 63)
 have W1:=Way.start h T (by omega) (h0.trans (hB.mono (by omega)))
 have TP:=(ZB.start wS #[pV bp] 63).keep hB
 have W2:Way w0 wS w1 bp c ad L s k [] [] p [] b [(wS.heap.size,63,#[pV bp])]:=by
  refine ⟨W1.P,W1.F,⟨.slice none 0 0,.slice none 0 0,.slice none 0 0,[],fun _=>False,?_⟩,W1.lt⟩
  exact ⟨by omega,T,World.ownsRow_nil _ _ _ _,World.ownsRow_nil _ _ _ _,World.ownsRow_nil _ _ _ _,by unfold ZS;rfl,fun _ q=>q.elim,fun x hx=>by
   rw [List.mem_singleton] at hx
   subst hx
   exact ⟨Nat.le_refl _,by dsimp only;omega,TP,(fun e=>by cases e),(fun e=>by cases e),fun e=>by cases e⟩⟩
 exact W2.boxed _ _
theorem ZU {s:PS} (he:s.err=0):(Zx L s.at_).2.2=Zl L s:=by unfold Zl Zao;rw [if_neg (by simp [he])]
theorem Zle (h:LexL L):ZH L:=by
 obtain ⟨e,he⟩:=h.end_
 have hl:L.length=L.dropLast.length+1:=by
  have:=congrArg List.length he
  simpa using this
 refine ⟨by omega,?_⟩
 have e1:L[L.length-1]? = some (3,[],e):=by
  have:=congrArg (fun l=>l[L.length-1]?) he
  rw [this,List.getElem?_append_right (by omega),show L.length-1-L.dropLast.length=0 by omega]
  rfl
 unfold Zx
 rw [e1]
 rfl
abbrev Dd (d:Int):PS->Prop:=fun s=>s.deep=d
theorem ParQ.end_ {w:World} {s:PS} (h:ParQ w0 w bp ad c L s):ZH L:=Zle h.few.2.1
theorem ParQ.dp {w:World} {s:PS} (h:ParQ w0 w bp ad c L s) {f:Nat} {d:Int} (hd:s.deep=d) (h0:0<=d) (h2:d<=200) (hf:200<d+f):Dp L f s:=⟨h.lt,fun _=>by omega,by omega,by omega⟩
theorem Zo.fin {w:World} {s s1:PS} {d:Int} {w':World} {g:Nat} {t:Tr} {R:Tr×PS} (hgo:Gon L s R.2) (hd:s.deep=d) (hR:R=(t,s1)) (hF:FrP w w' bp) (hP:ParQ w0 w' bp ad c L s1) (hT:BrP w' (ZbP w w') t g):Zo w0 w bp c ad L (Dd d) s R (.returned (brV g)) w':=by
 subst hR
 exact Zo.good rfl hF hP (hgo.deep.trans hd) (hgo.on hP.err) hT
theorem Zbm {s1:PS} {R:Tr×PS} {t:Tr} (h:R=(t,s1)):Stk s1 R.2:=by rw [h];exact Stk.refl _
theorem ZmO {α β:Type} {r:α×PS} {R:β×PS} (h:r.2=R.2):Stk r.2 R.2:=by rw [h];exact Stk.refl _
end
end
end Go.Proofs.YtfdgeijnkkdplaaDoor
