import Derived.Test.YtkongcicmajolaaGreatDoorQAD
import Derived.Test.YtkongcicmajolaaGreatDoorQAE
import Derived.Test.YtkongcicmajolaaGreatDoorQAS
import Derived.Test.YtkongcicmajolaaGreatDoorQAZ
set_option maxRecDepth 100000
set_option maxHeartbeats 8000000
namespace Go.Proofs.YtkongcicmajolaaGreatDoor
section
section
variable {L:List Tok}
theorem Zhm (hE:ZW L) {D:PS->Prop} (hD:Dom L D) {ex:PS->Tr×PS} (hx:Onw L D ex):Onw L D (ZaS L ex):=fun s hs=>by
 unfold ZaS
 by_cases h:isM L [38] s=true
 ·rw [if_pos h]
  have g:=ZC hE (hD.lt _ hs) h
  exact g.then_ (Zo hE (g.lt (hD.lt _ hs))).toAdv
 ·rw [if_neg h];exact hx s hs
theorem Zrc (hE:ZW L) {D:PS->Prop} (hD:Dom L D) {ex:PS->Tr×PS} (hx:Onw L D ex) (p:Int):Onw L D (ZcC L ex p):=fun s hs=>by
 have a:=Zo hE (hD.lt _ hs)
 have l1:=a.lt (hD.lt _ hs)
 unfold ZcC
 dsimp only
 have key:∀ q:PS,Adv L (Zb L s).2 q->Gon L s (Zf L [59] (ZT L (ZaS L ex) (L.length+1) true [] (Zf L [40] q)).2):=fun q hq=>by
  have w:=Zq hE [40] (hq.lt l1)
  have dq:=hD.next _ _ (hD.next _ _ (hD.next _ _ hs a.toAdv) hq) w.toAdv
  have c:=Zc6 hE hD (fun s h=>(Zhm hE hD hx s h).toAdv) (L.length+1) true [] _ dq
  exact a.then_ (((hq.trans w.toAdv).trans c).trans (Zq hE [59] (c.lt (w.lt (hq.lt l1)))).toAdv)
 by_cases h:isM L [61] (Zb L s).2=true
 ·rw [if_pos h]
  have g:=ZC hE l1 h
  exact key _ (g.toAdv.trans (Zo hE (g.lt l1)).toAdv)
 ·rw [if_neg h]
  exact key _ (Adv.refl _)
abbrev Stm (L:List Tok) (f:Nat) (st:PS->Tr×PS):Prop:=∀ s,Dp L f s->s.err=0->Gon L s (st s).2
theorem Stm.adv {f:Nat} {st:PS->Tr×PS} (h:Stm L f st):∀ s,Dp L f s->s.err=0->Adv L s (st s).2:=fun s a b=>(h s a b).toAdv
theorem ZfR (hE:ZW L) {f:Nat} {st:PS->Tr×PS} (hp:Stm L f st) {s:PS} (hs:Dp L (f+1) s) (h200:s.deep<=200):Gon L s (ZcR L st s).2:=by
 have a:=Zo hE hs.lt
 exact a.then_ (Zbz hE hp.adv ((ZX _).next _ _ hs a.toAdv) (by rw [a.deep];exact h200)).toAdv
theorem ZR (f:Nat):Dom L (fun s=>Dp L f s/\s.deep<=200):=⟨fun a b h k=>⟨(ZX f).next a b h.1 k,by rw [k.deep];exact h.2⟩,fun a h=>h.1.lt⟩
theorem Zss (hE:ZW L) {f:Nat} {st:PS->Tr×PS} (hp:Stm L f st) (p:Int) {s:PS} (hs:Dp L (f+1) s) (h200:s.deep<=200):Gon L s (doM L st p s).2:=by
 have a:=Zo hE hs.lt
 have w:=Zq hE [46] (a.lt hs.lt)
 have b:=Zo hE (w.lt (a.lt hs.lt))
 have lb:=b.lt (w.lt (a.lt hs.lt))
 have all:=(a.toAdv.trans w.toAdv).trans b.toAdv
 have gall:Gon L s (Zb L (Zf L [46] (Zb L s).2)).2:=a.then_ (w.toAdv.trans b.toAdv)
 unfold doM
 dsimp only
 by_cases h:isM L [59] (Zb L (Zf L [46] (Zb L s).2)).2=true
 ·rw [if_pos h];exact gall.then_ (ZC hE lb h).toAdv
 ·rw [if_neg h]
  have v:=Zq hE [123] lb
  have d:=(ZR (f+1)).next _ _ ⟨hs,h200⟩ (all.trans v.toAdv)
  exact gall.then_ (v.toAdv.trans (ZcX hE (ZR (f+1)) (fun s h _=>(ZfR hE hp h.1 h.2).toAdv) [125] _ _ _ d))
theorem Zrp (hE:ZW L) {f:Nat} {ex st:PS->Tr×PS} (hx:Onw L (Dp L (f+1)) ex) (hp:Stm L f st) (p:Int) {s:PS} (hs:Dp L (f+1) s) (h200:s.deep<=200):Gon L s (Zbb L ex st p s).2:=by
 have D:=ZR (L:=L) (f+1)
 have X:∀ q,Dp L (f+1) q/\q.deep<=200->Adv L q (ex q).2:=fun q h=>(hx q h.1).toAdv
 have B:∀ q,Dp L (f+1) q/\q.deep<=200->Adv L q (Zag L st q).2:=fun q h=>(Zbz hE hp.adv h.1 h.2).toAdv
 unfold Zbb
 by_cases h1:isM L [105,102] s=true
 ·rw [if_pos h1]
  have g:=ZC hE hs.lt h1
  have d1:=D.next _ _ ⟨hs,h200⟩ g.toAdv
  have d2:=D.next _ _ d1 (X _ d1)
  have d3:=D.next _ _ d2 (B _ d2)
  dsimp only
  by_cases h2:isM L [101,108,115,101] (Zag L st (ex (Zd s)).2).2=true
  ·rw [if_pos h2]
   have k:=ZC hE d3.1.lt h2
   exact g.then_ ((((X _ d1).trans (B _ d2)).trans k.toAdv).trans (B _ (D.next _ _ d3 k.toAdv)))
  ·rw [if_neg h2];exact g.then_ ((X _ d1).trans (B _ d2))
 rw [if_neg h1]
 by_cases h2:isM L [119,104,105,108,101] s=true
 ·rw [if_pos h2]
  have g:=ZC hE hs.lt h2
  have d1:=D.next _ _ ⟨hs,h200⟩ g.toAdv
  have d2:=D.next _ _ d1 (X _ d1)
  exact g.then_ ((X _ d1).trans (B _ d2))
 rw [if_neg h2]
 by_cases h3:isM L [114,101,116,117,114,110] s=true
 ·rw [if_pos h3]
  have g:=ZC hE hs.lt h3
  have d1:=D.next _ _ ⟨hs,h200⟩ g.toAdv
  have d2:=D.next _ _ d1 (X _ d1)
  exact g.then_ ((X _ d1).trans (Zq hE [59] d2.1.lt).toAdv)
 rw [if_neg h3]
 have w:=Zq hE [101,120,105,116] hs.lt
 exact w.then_ (Zq hE [59] (w.lt hs.lt)).toAdv
theorem ZqH (hE:ZW L) {f:Nat} {st:PS->Tr×PS} (hp:Stm L f st) (p:Int) {s:PS} (hs:Dp L (f+1) s) (h200:s.deep<=200):Gon L s (ZdS L st p s).2:=by
 have D:=ZR (L:=L) (f+1)
 unfold ZdS
 dsimp only
 have g:=Zo hE hs.lt
 have d1:=D.next _ _ ⟨hs,h200⟩ g.toAdv
 have g2:=Zq hE [61] d1.1.lt
 have d2:=D.next _ _ d1 g2.toAdv
 have g3:=Zo hE d2.1.lt
 have d3:=D.next _ _ d2 g3.toAdv
 have g4:=ZeI hE (Zr 1) d3.1.lt
 have d4:=D.next _ _ d3 g4.toAdv
 have g5:=Zc4 hE 1 d4.1.lt
 have d5:=D.next _ _ d4 g5.toAdv
 have g6:=Zq hE [47] d5.1.lt
 have d6:=D.next _ _ d5 g6.toAdv
 have g7:=Zc4 hE 1 d6.1.lt
 have d7:=D.next _ _ d6 g7.toAdv
 have g8:=Zcu hE [105,110] 2 d7.1.lt
 have d8:=D.next _ _ d7 g8
 exact g.then_ (g2.toAdv.trans (g3.toAdv.trans (g4.toAdv.trans (g5.toAdv.trans (g6.toAdv.trans (g7.toAdv.trans (g8.trans (Zbz hE hp.adv d8.1 d8.2).toAdv)))))))
theorem ZfX (hE:ZW L) {ex:PS->Tr×PS} (hx:∀ f,Onw L (Dp L (f+1)) ex):∀ f,Stm L f (Zv L ex f)
 | 0,s,hs,e=>by have:=hs.fuel e;omega
 | f+1,s,hs,e=>by
  have D:=ZR (L:=L) (f+1)
  have h200:=(hs.fuel e).1
  have ih:=ZfX hE hx f
  unfold Zv
  dsimp only
  by_cases h1:isM L [108,101,116] s=true
  ·rw [if_pos h1]
   have g:=ZC hE hs.lt h1
   have d1:=D.next _ _ ⟨hs,h200⟩ g.toAdv
   have g2:=Zo hE d1.1.lt
   have d2:=D.next _ _ d1 g2.toAdv
   have g3:=Zq hE [61] d2.1.lt
   have d3:=D.next _ _ d2 g3.toAdv
   have g4:=hx f _ d3.1
   have d4:=D.next _ _ d3 g4.toAdv
   exact g.then_ (g2.toAdv.trans (g3.toAdv.trans (g4.toAdv.trans (Zq hE [59] d4.1.lt).toAdv)))
  rw [if_neg h1]
  by_cases h2:ZaZ L s=true
  ·rw [if_pos h2]
   have g2:=Zo hE hs.lt
   have d2:=D.next _ _ ⟨hs,h200⟩ g2.toAdv
   have g3:=Zq hE [61] d2.1.lt
   have d3:=D.next _ _ d2 g3.toAdv
   have g4:=hx f _ d3.1
   have d4:=D.next _ _ d3 g4.toAdv
   exact g2.then_ (g3.toAdv.trans (g4.toAdv.trans (Zq hE [59] d4.1.lt).toAdv))
  rw [if_neg h2]
  by_cases h3:isM L [111,112,101,110] s=true
  ·rw [if_pos h3]
   have g:=ZC hE hs.lt h3
   have d1:=D.next _ _ ⟨hs,h200⟩ g.toAdv
   have g2:=Zo hE d1.1.lt
   have d2:=D.next _ _ d1 g2.toAdv
   have g3:=Zo hE d2.1.lt
   have d3:=D.next _ _ d2 g3.toAdv
   have g4:=Zbz hE ih.adv d3.1 d3.2
   have d4:=D.next _ _ d3 g4.toAdv
   have g5:=Zq hE [101,108,115,101] d4.1.lt
   have d5:=D.next _ _ d4 g5.toAdv
   exact g.then_ (g2.toAdv.trans (g3.toAdv.trans (g4.toAdv.trans (g5.toAdv.trans (Zbz hE ih.adv d5.1 d5.2).toAdv))))
  rw [if_neg h3]
  by_cases h4:isM L [100,111] s=true
  ·rw [if_pos h4]
   have g:=ZC hE hs.lt h4
   have d1:=D.next _ _ ⟨hs,h200⟩ g.toAdv
   exact g.then_ (Zss hE ih _ d1.1 d1.2).toAdv
  rw [if_neg h4]
  by_cases h5:isM L [115,112,108,105,116] s=true
  ·rw [if_pos h5]
   have g:=ZC hE hs.lt h5
   have d1:=D.next _ _ ⟨hs,h200⟩ g.toAdv
   exact g.then_ (ZqH hE ih _ d1.1 d1.2).toAdv
  rw [if_neg h5]
  by_cases h6:isM L [99,97,108,108] s=true
  ·rw [if_pos h6]
   have g:=ZC hE hs.lt h6
   have d1:=D.next _ _ ⟨hs,h200⟩ g.toAdv
   exact g.then_ (Zrc hE (ZX _) (hx f) _ _ d1.1).toAdv
  rw [if_neg h6]
  exact Zrp hE (hx f) ih _ hs h200
theorem Zgu (hE:ZW L):∀ (f:Nat) (l:List Txt) {s:PS},s.at_<L.length->Adv L s (Zcy L f l s).2
 | 0,_,s,_=>Adv.refl s
 | f+1,l,s,hs=>by
  unfold Zcy
  by_cases he:s.err=0
  ·rw [if_pos he]
   have a:=Zo hE hs
   have b:=Zo hE (a.lt hs)
   have lb:=b.lt (a.lt hs)
   dsimp only
   by_cases h:isM L [44] (Zb L (Zb L s).2).2=true
   ·rw [if_pos h]
    have g:=ZC hE lb h
    exact (a.toAdv.trans b.toAdv).trans (g.toAdv.trans (Zgu hE f _ (g.lt lb)))
   ·rw [if_neg h];exact a.toAdv.trans b.toAdv
  ·rw [if_neg he];exact Adv.refl s
theorem part_go (hE:ZW L) {s:PS} (hs:s.at_<L.length):Gon L s (Zbo L s).2:=by
 unfold Zbo
 dsimp only
 by_cases h1:isM L [115,116,97,116,101] s=true
 ·rw [if_pos h1]
  have g:=ZC hE hs h1
  have n:=Zo hE (g.lt hs)
  exact g.then_ (n.toAdv.trans (Zq hE [59] (n.lt (g.lt hs))).toAdv)
 rw [if_neg h1]
 by_cases h2:isM L [102,105,110,97,108] s=true
 ·rw [if_pos h2]
  have g:=ZC hE hs h2
  have n:=Zo hE (g.lt hs)
  exact g.then_ (n.toAdv.trans (Zq hE [59] (n.lt (g.lt hs))).toAdv)
 rw [if_neg h2]
 have g:=Zq hE [111,112] hs
 have l1:=g.lt hs
 have a:=Zo hE l1
 have l2:=a.lt l1
 have b:=Zo hE l2
 have l3:=b.lt l2
 have w:=Zq hE [45,62] l3
 have l4:=w.lt l3
 have x:=Zgu hE (L.length+1) [(Zb L (Zf L [111,112] s)).1,(Zb L (Zb L (Zf L [111,112] s)).2).1] l4
 exact g.then_ (a.toAdv.trans (b.toAdv.trans (w.toAdv.trans (x.trans (Zq hE [59] (x.lt l4)).toAdv))))
theorem Zg9 (hE:ZW L) {s:PS} (hs:s.at_<L.length):Gon L s (ZbL L s).2:=by
 have D:Dom L (fun s=>s.at_<L.length):=⟨fun a b h k=>k.lt h,fun a h=>h⟩
 unfold ZbL
 dsimp only
 have g:=Zq hE [112,114,111,116,111] hs
 have a:=Zo hE (g.lt hs)
 have w:=Zq hE [123] (a.lt (g.lt hs))
 exact g.then_ (a.toAdv.trans (w.toAdv.trans (ZcX hE D (fun s h _=>(part_go hE h).toAdv) [125] _ _ _ (w.lt (a.lt (g.lt hs))))))
theorem ZdK (hE:ZW L) {s:PS} (hs:s.at_<L.length):Gon L s (ZaC L s).2:=by
 unfold ZaC
 dsimp only
 have a:=Zo hE hs
 have l1:=a.lt hs
 by_cases h:isM L [58] (Zb L s).2=true
 ·rw [if_pos h]
  have g:=ZC hE l1 h
  have b:=Zo hE (g.lt l1)
  have l3:=b.lt (g.lt l1)
  have k:=ZeI hE (Zr 0) l3
  have l4:=k.lt l3
  have key:∀ q:PS,Adv L (ZD L (Zr 0) (Zb L (Zd (Zb L s).2)).2).2 q->Gon L s (ZB L [105,110] 2 (ZB L [116,111] 1 (ZB L [97,116] 0 q).2).2).2:=fun q hq=>by
   have x:=Zcu hE [97,116] 0 (hq.lt l4)
   have y:=Zcu hE [116,111] 1 (x.lt (hq.lt l4))
   have z:=Zcu hE [105,110] 2 (y.lt (x.lt (hq.lt l4)))
   exact a.then_ (g.toAdv.trans (b.toAdv.trans (k.toAdv.trans (hq.trans (x.trans (y.trans z))))))
  by_cases h2:isM L [108,101,97,115,116] (ZD L (Zr 0) (Zb L (Zd (Zb L s).2)).2).2=true
  ·rw [if_pos h2]
   have e:=ZC hE l4 h2
   have n:=Zc4 hE 1 (e.lt l4)
   have w:=Zq hE [47] (n.lt (e.lt l4))
   have d:=Zc4 hE 1 (w.lt (n.lt (e.lt l4)))
   exact key _ (e.toAdv.trans (n.toAdv.trans (w.toAdv.trans d.toAdv)))
  ·rw [if_neg h2];exact key _ (Adv.refl _)
 ·rw [if_neg h];exact a
theorem Zku (hE:ZW L) {f:Nat} {ex st:PS->Tr×PS} (hp:Stm L f st) {s:PS} (hs:Dp L (f+1) s) (h200:s.deep<=200):Gon L s (fnM L ex st s).2:=by
 have D:=ZR (L:=L) (f+1)
 unfold fnM
 dsimp only
 have g:=Zq hE [102,110] hs.lt
 have d1:=D.next _ _ ⟨hs,h200⟩ g.toAdv
 have g2:=Zo hE d1.1.lt
 have d2:=D.next _ _ d1 g2.toAdv
 have g3:=Zq hE [40] d2.1.lt
 have d3:=D.next _ _ d2 g3.toAdv
 have g4:=Zc6 hE D (fun s h=>(ZdK hE h.1.lt).toAdv) (L.length+1) true [] _ d3
 have d4:=D.next _ _ d3 g4
 exact g.then_ (g2.toAdv.trans (g3.toAdv.trans (g4.trans (Zbz hE hp.adv d4.1 d4.2).toAdv)))
end
end
section
open Go.RowKit
def Zes (l:List UInt8):List Tok×Int×Nat:=
 if 6000<l.length then ([],13,0) else match Zbx l 0 with
  | .bad a=>([],10,a)
  | .ok ts=>(ts,0,0)
def Zkw (w:World) (r:List Tok×Int×Nat) (e:Ending) (w':World):Prop:=
 ∃ A c,e=.returned (.tuple #[.slice A r.1.length c,.agg #[.int .i64 r.2.1,.int .i64 r.2.2]])/\Zcp w' (.slice A r.1.length c) r.1/\Below w.heap.size w w'
theorem Zi8 {l:List UInt8} (h:6000<l.length):Zes l=([],13,0):=if_pos h
theorem Zi7 {l:List UInt8} {a:Nat} (h:l.length<=6000) (q:Zbx l 0=.bad a):Zes l=([],10,a):=by
 unfold Zes
 rw [if_neg (by omega),q]
theorem ZhJ {l:List UInt8} {ts:List Tok} (h:l.length<=6000) (q:Zbx l 0=.ok ts):Zes l=(ts,0,0):=by
 unfold Zes
 rw [if_neg (by omega),q]
theorem ZrM {w:World} {s:ByteArray} {e:Ending} {w':World} (h:s.size<=6000) (hp:Zob w (Zbx s.data.toList 0) e w'):Zkw w (Zes s.data.toList) e w':=by
 have hl:s.data.toList.length<=6000:=by rw [Zdm];exact h
 cases q:Zbx s.data.toList 0 with
 | bad a=>
  rw [q] at hp
  rw [Zi7 hl q]
  exact ⟨none,0,hp.1,Zcp.nil _,hp.2⟩
 | ok ts=>
  rw [q] at hp
  rw [ZhJ hl q]
  exact hp
theorem ZrL {w:World} {s:ByteArray} {e:Ending} {w':World} (h:6000<s.size) (hp:e=.returned (.tuple #[.slice none 0 0,.agg #[.int .i64 13,.int .i64 0]])/\Below w.heap.size w w'):Zkw w (Zes s.data.toList) e w':=by
 rw [Zi8 (by rw [Zdm];exact h)]
 exact ⟨none,0,hp.1,Zcp.nil _,hp.2⟩
theorem Zl9 (s:ByteArray) (w:World):Calls Tryz.prog 19 #[.string s] w (Zkw w (Zes s.data.toList)):=by
 by_cases h:s.size<=6000
 ·exact (Zl7 s w h).mono fun _ _ hp=>ZrM h hp
 ·exact (Zl8 s w (by omega)).mono fun _ _ hp=>ZrL (by omega) hp
theorem Zky (ad:Addr) (k j:Nat):ad.add (k+(j+1))=⟨(ad.add k).block,(ad.add k).off+(j+1),none⟩:=by
 unfold Addr.add
 split<;>split<;>simp_all<;>omega
end
section
open Go.RowKit
def Tr.kd:Tr->Int | .mk k _ _ _ _=>k
def Tr.ws:Tr->List Txt | .mk _ w _ _ _=>w
def Tr.us:Tr->List Int | .mk _ _ u _ _=>u
def Tr.ps:Tr->Int | .mk _ _ _ p _=>p
def Tr.ks:Tr->List Tr | .mk _ _ _ _ k=>k
abbrev NV:=Value×Value×Value
abbrev ZbQ (x:NV×Tr):Value:=.agg #[.int .i64 x.2.kd,x.1.1,x.1.2.1,.slice none 0 0,.int .i64 x.2.ps,x.1.2.2]
def ZaY:List (NV×Tr)->List Value
 | []=>[]
 | x::r=>.int .i64 x.2.kd::x.1.1::x.1.2.1::.slice none 0 0::.int .i64 x.2.ps::x.1.2.2::ZaY r
theorem Zeq:∀ l,(ZaY l).length=l.length*6
 | []=>rfl
 | x::r=>by simp only [ZaY,List.length_cons,Zeq r];omega
theorem Zhg:∀ (l m:List (NV×Tr)),ZaY (l++m)=ZaY l++ZaY m
 | [],m=>rfl
 | x::r,m=>by rw [List.cons_append,ZaY,ZaY,Zhg r m];rfl
theorem ZjY:∀ (l:List (NV×Tr)) (k:Nat) (x:NV×Tr),l[k]? = some x->(ZaY l)[k*6]? = some (.int .i64 x.2.kd)/\(ZaY l)[k*6+1]? = some x.1.1/\(ZaY l)[k*6+2]? = some x.1.2.1/\(ZaY l)[k*6+3]? = some (.slice none 0 0)/\(ZaY l)[k*6+4]? = some (.int .i64 x.2.ps)/\(ZaY l)[k*6+5]? = some x.1.2.2
 | [],k,x,h=>by simp at h
 | y::r,0,x,h=>by
  obtain rfl:y=x:=by simpa using h
  exact ⟨rfl,rfl,rfl,rfl,rfl,rfl⟩
 | y::r,k+1,x,h=>by
  rw [List.getElem?_cons_succ] at h
  obtain ⟨a,b,c,d,e,f⟩:=ZjY r k x h
  have q:∀ j,(ZaY (y::r))[(k+1)*6+j]? = (ZaY r)[k*6+j]?:=fun j=>by
   rw [show (k+1)*6+j=(k*6+j)+1+1+1+1+1+1 by omega];rfl
  exact ⟨(q 0).trans a,(q 1).trans b,(q 2).trans c,(q 3).trans d,(q 4).trans e,(q 5).trans f⟩
inductive TrO (w:World):(Nat->Prop)->NV->Tr->Prop where
 | mk {Q:Nat->Prop} {wv uv lv:Value} {k p:Int} {ws:List Txt} {us:List Int} (vs:List (NV×Tr)) (hw:w.ownsRow 0 9 1 wv ws.length (ws.map txt)) (hm:∀ s∈ws,s.length<=maxLen) (hu:w.ownsRow 0 2 1 uv us.length (us.map (Value.int .i64)))
   (hl:w.ownsRow 0 58 6 lv vs.length (ZaY vs)) (hq:∀ b,lv.ownBlock=some b->Q b) (he:∀ x∈vs,TrO w (fun b=>Q b/\lv.ownBlock≠some b) x.1 x.2):TrO w Q (wv,uv,lv) (.mk k ws us p (vs.map (·.2)))
theorem TrO.mono {w:World} {Q:Nat->Prop} {x:NV} {t:Tr} (h:TrO w Q x t):∀ {R:Nat->Prop},(∀ b,Q b->R b)->TrO w R x t:=by
 induction h with
 | mk vs hw hm hu hl hq he ih=>exact fun hR=>.mk vs hw hm hu hl (fun b hb=>hR b (hq b hb)) fun y hy=>ih y hy fun b hb=>⟨hR b hb.1,hb.2⟩
theorem TrO.kept {w w':World} {row:Option Nat} (hg:w.grownBy w' row) {Q:Nat->Prop} {x:NV} {t:Tr} (h:TrO w Q x t):(∀ g,row=some g->∃ ty cs,Zh w g ty cs/\ty≠9/\ty≠2/\(ty≠58\/∀ b,Q b->b≠g))->TrO w' Q x t:=by
 induction h with
 | @mk Q wv uv lv k p ws us vs hw hm hu hl hq he ih=>
  intro hr
  have off:∀ {e:TypeId} {size n:Nat} {v:Value} {xs:List Value},w.ownsRow 0 e size v n xs->(∀ g ty cs,row=some g->Zh w g ty cs->ty≠9->ty≠2->(ty≠58\/∀ b,Q b->b≠g)->v.ownBlock≠some g)->w'.ownsRow 0 e size v n xs:=fun ho hne=>ho.kept hg (by
   cases q:row with
   | none=>cases z:Value.ownBlock _ with
    | none=>exact .inl rfl
    | some b=>exact .inr (by simp)
   | some g=>
    obtain ⟨ty,cs,h1,h2,h3,h4⟩:=hr g q
    exact .inr (hne g ty cs q h1 h2 h3 h4))
  refine .mk vs (off hw fun g ty cs _ h1 h2 _ _=>h1.off hw h2) hm (off hu fun g ty cs _ h1 _ h3 _=>h1.off hu h3) (off hl fun g ty cs _ h1 _ _ h4=>?_) hq fun y hy=>ih y hy fun g e=>?_
  ·rcases h4 with h4 | h4
   ·exact h1.off hl h4
   ·exact fun e=>h4 g (hq g e) rfl
  ·obtain ⟨ty,cs,h1,h2,h3,h4⟩:=hr g e
   exact ⟨ty,cs,h1,h2,h3,h4.imp id fun h b hb=>h b hb.1⟩
theorem TrO.keep {w w':World} {Q:Nat->Prop} {x:NV} {t:Tr} (h:TrO w Q x t) (hb:Below w.heap.size w w'):TrO w' Q x t:=h.kept (Zd9 hb none) fun _ e=>by cases e
theorem TrO.lt {w:World} {Q:Nat->Prop} {x:NV} {t:Tr} (h:TrO w Q x t):TrO w (fun b=>Q b/\b<w.heap.size) x t:=by
 induction h with
 | mk vs hw hm hu hl hq he ih=>exact .mk vs hw hm hu hl (fun b hb=>⟨hq b hb,(hl.lt b hb).2⟩) fun y hy=>(ih y hy).mono fun b hb=>⟨⟨hb.1.1,hb.2⟩,hb.1.2⟩
theorem TrO.shape {w:World} {Q:Nat->Prop} {x:NV} {t:Tr} (h:TrO w Q x t):∃ A c B d C e,x=(.slice A t.ws.length c,.slice B t.us.length d,.slice C t.ks.length e):=by
 cases h with
 | mk vs hw hm hu hl hq he=>
  obtain ⟨A,c,rfl⟩:=Zby hw
  obtain ⟨B,d,rfl⟩:=Zby hu
  obtain ⟨C,e,rfl⟩:=Zby hl
  exact ⟨A,c,B,d,C,e,by simp [Tr.ws,Tr.us,Tr.ks]⟩
structure ParS (w0 w:World) (bp:Nat) (vL:Value) (L:List Tok) (s:PS):Prop where
 box:Zh w bp 55 #[vL,.int .i64 (s.at_:Int),.int .i64 s.deep,.int .i64 s.err,.int .i64 s.fat]
 toks:Zcp w0 vL L
 below:Below w0.heap.size w0 w
 ge:w0.heap.size<=bp
 lt:s.at_<L.length
 few:L.length<=100000/\ZW L/\∀ t∈L,t.2.1.length<=100000
abbrev Fp (w w':World) (bp:Nat):Prop:=w.grownBy w' (some bp)
theorem Fp.refl (w:World) (bp:Nat):Fp w w bp:=⟨rfl,rfl,rfl,Nat.le_refl _,fun _ _ _=>rfl⟩
theorem Fp.trans {w w1 w2:World} {bp:Nat} (h:Fp w w1 bp) (k:Fp w1 w2 bp):Fp w w2 bp:=
 ⟨k.os.trans h.os,k.tape.trans h.tape,k.output.trans h.output,Nat.le_trans h.size k.size,fun b hb hn=>(k.block b (Nat.lt_of_lt_of_le hb h.size) hn).trans (h.block b hb hn)⟩
theorem Fp.of_below {w w':World} (bp:Nat) (h:Below w.heap.size w w'):Fp w w' bp:=Zd9 h _
theorem Fp.below {w0 w w':World} {bp:Nat} (h:Fp w w' bp) (h0:Below w0.heap.size w0 w) (hge:w0.heap.size<=bp):Below w0.heap.size w0 w':=h0.grown h h0.size fun k e=>by injection e with e;omega
theorem Fp.tblk {w w':World} {bp b:Nat} {ty:TypeId} {cs:Array Value} (h:Fp w w' bp) (k:Zh w b ty cs) (hn:b≠bp):Zh w' b ty cs:=k.grown h fun e=>hn (by injection e with e;exact e.symm)
theorem ParS.keep {w0 w w':World} {bp:Nat} {vL:Value} {L:List Tok} {s:PS} (h:ParS w0 w bp vL L s) (hb:Below w.heap.size w w'):ParS w0 w' bp vL L s:=
 ⟨h.box.keep hb,h.toks,h.below.trans (hb.mono h.below.size),h.ge,h.lt,h.few⟩
theorem ParS.own {w0 w w':World} {bp:Nat} {vL:Value} {L:List Tok} {s:PS} {base size n:Nat} {e:TypeId} {v:Value} {xs:List Value} (h:ParS w0 w bp vL L s) (ho:w.ownsRow base e size v n xs) (hf:Fp w w' bp) (hne:55≠e):w'.ownsRow base e size v n xs:=
 ho.kept hf (.inr (h.box.off ho hne))
theorem ParS.tree {w0 w w':World} {bp:Nat} {vL:Value} {L:List Tok} {s:PS} {Q:Nat->Prop} {x:NV} {t:Tr} (h:ParS w0 w bp vL L s) (ht:TrO w Q x t) (hf:Fp w w' bp):TrO w' Q x t:=
 ht.kept hf fun g e=>by
  injection e with e
  subst e
  exact ⟨_,_,h.box,by decide,by decide,.inl (by decide)⟩
theorem ParS.tok {w0 w:World} {bp:Nat} {vL:Value} {L:List Tok} {s:PS} (h:ParS w0 w bp vL L s) {k:Nat} (hk:k<L.length) :
  ∃ ad c,vL=.slice (some ad) L.length c/\w.cell? (ad.add (k*3))=some (.int .i64 (Zi L k).1)/\w.cell? (ad.add (k*3+1))=some (txt (Zi L k).2.1)/\w.cell? (ad.add (k*3+2))=some (.int .i64 (Zi L k).2.2):=by
 obtain ⟨A,c,rfl,_,_,hR⟩:=h.toks
 obtain ⟨ad,rfl,hb,hc⟩:=hR.2 (by omega)
 have e:L[k]? = some (Zi L k):=by unfold Zi;rw [List.getElem?_eq_getElem hk];rfl
 obtain ⟨t0,t1,t2⟩:=Zh8 L k _ e
 have go:∀ j u,(Zbn L)[j]? = some u->w.cell? (ad.add j)=some u:=fun j u hj=>(h.below.cell (p:=ad.add j) (by rw [ZbO];exact hb)).trans (hc j u hj)
 exact ⟨ad,c,rfl,go _ _ t0,go _ _ t1,go _ _ t2⟩
end
end Go.Proofs.YtkongcicmajolaaGreatDoor
