import Derived.Test.YtfbepcelkijgkaaGreatDoorQBE
import Derived.Test.YtfbepcelkijgkaaGreatDoorQBM
set_option maxRecDepth 100000
set_option maxHeartbeats 8000000
namespace Go.Proofs.YtfbepcelkijgkaaGreatDoor
section
section
variable {L:List Tok}
theorem Zr2 (a:ZW L) {D:PS->Prop} (hD:Dom L D) {ex:PS->Tr×PS} (b:SzM D ex):SzM D (ZaS L ex):=fun s hs e=>by
 unfold ZaS at e⊢;by_cases h:isM L [38] s=true
 ·rw[Yo h]at e⊢;have g:=ZA a (hD.lt _ hs) h;have n:=(Zo a (g.lt (hD.lt _ hs))).on e;have:(Zd s).at_=s.at_+1:=rfl;dsimp only;rw[ZbF,Zaq];omega
 ·rw[Yn h]at e⊢;exact b s hs e
theorem Zra (b:ZW L) {D:PS->Prop} (hD:Dom L D) {ex:PS->Tr×PS} (hx:Onw L D ex) (l:SzM D ex) (p:Int):SzM D (ZcA L ex p):=fun s hs e=>by
 have a:=Zo b (hD.lt _ hs);have f:=a.lt (hD.lt _ hs)
 have d:∀q:PS,Adv L (Zb L s).2 q->(Zf L [59] (ZT L (ZaS L ex) (L.length+1) true [] (Zf L [40] q)).2).err=0->Zaq (ZT L (ZaS L ex) (L.length+1) true [] (Zf L [40] q)).1+1+s.at_<=(Zf L [59] (ZT L (ZaS L ex) (L.length+1) true [] (Zf L [40] q)).2).at_:=fun q hq e=>by
  have w:=Zq b [40] (hq.lt f);have i:=hD.next _ _ (hD.next _ _ (hD.next _ _ hs a.toAdv) hq) w.toAdv;have c:=Zc4 b hD (fun s h=>(Zhk b hD hx s h).toAdv) (L.length+1) true [] _ i;have v:=Zq b [59] (c.lt (w.lt (hq.lt f)));have j:=v.toAdv.err e;have k:=Zhp b hD (fun s h=>(Zhk b hD hx s h).toAdv) (Zr2 b hD l) (L.length+1) true [] _ i j;have m:=a.on (hq.err (w.toAdv.err (c.err j)));have n:=hq.le;have o:=w.le;have r:=v.le;rw[Zaq]at k;omega
 unfold ZcA at e⊢;dsimp only at e⊢;rw[ZbF];by_cases h:isM L [61] (Zb L s).2=true
 ·rw[Yo h]at e⊢;have g:=ZA b f h;exact d _ (g.toAdv.trans (Zo b (g.lt f)).toAdv) e
 ·rw[Yn h]at e⊢;exact d _ (Adv.refl _) e
abbrev Zib (L:List Tok) (f:Nat) (st:PS->Tr×PS):Prop:=∀s,Dp L f s->s.err=0->(st s).2.err=0->szT (st s).1+s.at_<=(st s).2.at_
theorem Zrc (g:ZW L) {f:Nat} {st:PS->Tr×PS} (i:Stm L f st) (j:Zib L f st) {s:PS} (hs:Dp L (f+1) s) (c:s.deep<=200) (e:(ZcQ L st s).2.err=0):szT (ZcQ L st s).1+s.at_<=(ZcQ L st s).2.at_:=by
 have a:=Zo g hs.lt;have d:=(ZX (f+1)).next _ _ hs a.toAdv;have h:(Zb L s).2.deep<=200:=by rw[a.deep];exact c
 have b:=ZdE g i.adv j d h e;have:=a.on ((Zbx g i.adv d h).toAdv.err e);unfold ZcQ;dsimp only;rw[ZbF,Zco];omega
theorem Zsq (d:ZW L) {f:Nat} {st:PS->Tr×PS} (k:Stm L f st) (q:Zib L f st) (p:Int) {s:PS} (hs:Dp L (f+1) s) (i:s.deep<=200) (e:(doM L st p s).2.err=0):szT (doM L st p s).1+s.at_<=(doM L st p s).2.at_:=by
 have D:=ZQ (L:=L) (f+1);have a:=Zo d hs.lt;have l:=D.next _ _ ⟨hs,i⟩ a.toAdv;have w:=Zq d [46] l.1.lt;have m:=D.next _ _ l w.toAdv;have b:=Zo d m.1.lt;have j:=D.next _ _ m b.toAdv;unfold doM at e⊢;dsimp only at e⊢;by_cases h:isM L [59] (Zb L (Zf L [46] (Zb L s).2)).2=true
 ·rw[Yo h]at e⊢;have g:=ZA d j.1.lt h;have:=a.on (w.toAdv.err (b.toAdv.err (g.toAdv.err e)));have:=w.le;have:=b.le;have:=g.le;dsimp only;rw[ZbF,Zaq];omega
 ·rw[Yn h]at e⊢;have v:=Zq d [123] j.1.lt;have n:=D.next _ _ j v.toAdv;have c:=ZcV d D (fun s h _=>(ZfP d k h.1 h.2).toAdv) [125] (L.length+1) [] _ n;have o:=Zhc d D (fun s h _=>(ZfP d k h.1 h.2).toAdv) (fun s h _ e=>Zrc d k q h.1 h.2 e) [125] (L.length+1) [] _ n e;have:=a.on (w.toAdv.err (b.toAdv.err (v.toAdv.err (c.err e))));have:=w.le;have:=b.le;have:=v.le;rw[Zaq]at o;dsimp only;rw[ZbF];omega
theorem Zrn (c:ZW L) {f:Nat} {ex st:PS->Tr×PS} (hx:Onw L (Dp L (f+1)) ex) (i:SzM (Dp L (f+1)) ex) (l:Stm L f st) (m:Zib L f st) (p:Int) {s:PS} (hs:Dp L (f+1) s) (d:s.deep<=200) (e:(Zbb L ex st p s).2.err=0):szT (Zbb L ex st p s).1+s.at_<=(Zbb L ex st p s).2.at_:=by
 have D:=ZQ (L:=L) (f+1);have X:∀q,Dp L (f+1) q/\q.deep<=200->Adv L q (ex q).2:=fun q h=>(hx q h.1).toAdv;have B:∀q,Dp L (f+1) q/\q.deep<=200->Adv L q (Zaf L st q).2:=fun q h=>(Zbx c l.adv h.1 h.2).toAdv;unfold Zbb at e⊢;by_cases o:isM L [105,102] s=true
 ·rw[Yo o]at e⊢;have g:=ZA c hs.lt o;have b:=D.next _ _ ⟨hs,d⟩ g.toAdv;have a:=D.next _ _ b (X _ b);have u:=D.next _ _ a (B _ a);have t:(Zd s).at_=s.at_+1:=rfl;dsimp only at e⊢;by_cases j:isM L [101,108,115,101] (Zaf L st (ex (Zd s)).2).2=true
  ·rw[Yo j]at e⊢;have k:=ZA c u.1.lt j;have n:=D.next _ _ u k.toAdv;have z:=(B _ n).err e;have y:=k.toAdv.err z;have z4:=ZdE c l.adv m n.1 n.2 e;have z3:=ZdE c l.adv m a.1 a.2 y;have z2:=i _ b.1 ((B _ a).err y);have:=k.le;dsimp only;rw[ZbF,Zaq,Zaq,Zco];omega
  ·rw[Yn j]at e⊢;have z3:=ZdE c l.adv m a.1 a.2 e;have z2:=i _ b.1 ((B _ a).err e);dsimp only;rw[ZbF,Zaq,Zco];omega
 rw[Yn o]at e⊢;by_cases j:isM L [119,104,105,108,101] s=true
 ·rw[Yo j]at e⊢;have g:=ZA c hs.lt j;have b:=D.next _ _ ⟨hs,d⟩ g.toAdv;have a:=D.next _ _ b (X _ b);have t:(Zd s).at_=s.at_+1:=rfl;have z3:=ZdE c l.adv m a.1 a.2 e;have z2:=i _ b.1 ((B _ a).err e);dsimp only;rw[ZbF,Zaq,Zco];omega
 rw[Yn j]at e⊢;by_cases r:isM L [114,101,116,117,114,110] s=true
 ·rw[Yo r]at e⊢;have g:=ZA c hs.lt r;have b:=D.next _ _ ⟨hs,d⟩ g.toAdv;have a:=D.next _ _ b (X _ b);have t:(Zd s).at_=s.at_+1:=rfl;have w:=Zq c [59] a.1.lt;have z2:=i _ b.1 (w.toAdv.err e);have:=w.le;dsimp only;rw[ZbF,Zco];omega
 rw[Yn r]at e⊢;have w:=Zq c [101,120,105,116] hs.lt;have v:=Zq c [59] (w.lt hs.lt);have:=v.on e;have:=w.le;dsimp only;rw[ZbF,Zaq];omega
theorem Zg2 (a:ZW L) (x:Txt) (i:Int) {s:PS} (hs:s.at_<L.length):Zaq (Zz L x i s).1+s.at_<=(Zz L x i s).2.at_:=by
 unfold Zz;by_cases h:isM L x s=true
 ·rw[Yo h];have g:=ZA a hs h;have n:=Zo a (g.lt hs);have b:=ZfZ a L.length [(Zb L (Zd s)).1] (n.lt (g.lt hs));have:=n.le;have:=b.le;have:(Zd s).at_=s.at_+1:=rfl;dsimp only;rw[Zco,ZbF,Zaq];omega
 ·rw[Yn h,Zaq];dsimp only;omega
theorem ZqF (a:ZW L) {f:Nat} {st:PS->Tr×PS} (w:Stm L f st) (z:Zib L f st) (p:Int) {s:PS} (hs:Dp L (f+1) s) (b:s.deep<=200) (e:(ZdQ L st p s).2.err=0):szT (ZdQ L st p s).1+s.at_<=(ZdQ L st p s).2.at_:=by have D:=ZQ (L:=L) (f+1);unfold ZdQ at e⊢;dsimp only at e⊢;have g:=Zo a hs.lt;have n:=D.next _ _ ⟨hs,b⟩ g.toAdv;have h:=Zq a [61] n.1.lt;have o:=D.next _ _ n h.toAdv;have i:=Zo a o.1.lt;have q:=D.next _ _ o i.toAdv;have j:=ZeG a (Zr 1) q.1.lt;have r:=D.next _ _ q j.toAdv;have k:=Zc2 a 1 r.1.lt;have t:=D.next _ _ r k.toAdv;have l:=Zq a [47] t.1.lt;have u:=D.next _ _ t l.toAdv;have m:=Zc2 a 1 u.1.lt;have d:=D.next _ _ u m.toAdv;have v:=Zcs a [105,110] 2 d.1.lt;have c:=D.next _ _ d v;have A:=Zg2 a [105,110] 2 d.1.lt;have z9:=ZdE a w.adv z c.1 c.2 e;have y:=(Zbx a w.adv c.1 c.2).toAdv.err e;have:=g.on (h.toAdv.err (i.toAdv.err (j.toAdv.err (k.toAdv.err (l.toAdv.err (m.toAdv.err (v.err y)))))));have:=h.le;have:=i.le;have:=j.le;have:=k.le;have:=l.le;have:=m.le;rw[ZbF,ZdL,Zco];omega
theorem ZmP (b:ZW L) {ex:PS->Tr×PS} (hx:∀f,Onw L (Dp L (f+1)) ex) (h:∀f,SzM (Dp L (f+1)) ex):∀f,Zib L f (Zt L ex f)
 |0,s,hs,e,_=>by have:=hs.fuel e;omega
 |f+1,s,hs,e0,e=>by
  have D:=ZQ (L:=L) (f+1);have a:=(hs.fuel e0).1;have j:=ZfV b hx f;have o:=ZmP b hx h f;have G:(Zd s).at_=s.at_+1:=rfl
  have m:∀q:PS,Dp L (f+1) q/\q.deep<=200->∀(k:Int) (w:Txt),(Zf L [59] (ex (Zf L [61] q)).2).err=0->szT (.mk k [w] [] (Ze L s) [(ex (Zf L [61] q)).1])+q.at_<=(Zf L [59] (ex (Zf L [61] q)).2).at_:=fun q hq k w e=>by
   have n:=Zq b [61] hq.1.lt;have d:=D.next _ _ hq n.toAdv;have t:=hx f _ d.1;have p:=D.next _ _ d t.toAdv;have l:=Zq b [59] p.1.lt;have E:=l.toAdv.err e;have z:=h f _ d.1 E;have:=n.on (t.toAdv.err E);have:=l.le;rw[ZbF,Zco];omega
  unfold Zt at e⊢;dsimp only at e⊢;by_cases u:isM L [108,101,116] s=true
  ·rw[Yo u]at e⊢;have g:=ZA b hs.lt u;have c:=D.next _ _ ⟨hs,a⟩ g.toAdv;have i:=Zo b c.1.lt;have:=m _ (D.next _ _ c i.toAdv) 8 (Zb L (Zd s)).1 e;have:=i.le;dsimp only;omega
  rw[Yn u]at e⊢;by_cases F:ZaY L s=true
  ·rw[Yo F]at e⊢;have i:=Zo b hs.lt;have:=m _ (D.next _ _ ⟨hs,a⟩ i.toAdv) 9 (Zb L s).1 e;have:=i.le;dsimp only;omega
  rw[Yn F]at e⊢;by_cases v:isM L [111,112,101,110] s=true
  ·rw[Yo v]at e⊢;have g:=ZA b hs.lt v;have c:=D.next _ _ ⟨hs,a⟩ g.toAdv;have i:=Zo b c.1.lt;have C:=D.next _ _ c i.toAdv;have n:=Zo b C.1.lt;have d:=D.next _ _ C n.toAdv;have t:=Zbx b j.adv d.1 d.2;have p:=D.next _ _ d t.toAdv;have l:=Zq b [101,108,115,101] p.1.lt;have r:=D.next _ _ p l.toAdv;have z5:=ZdE b j.adv o r.1 r.2 e;have z3:=ZdE b j.adv o d.1 d.2 (l.toAdv.err ((Zbx b j.adv r.1 r.2).toAdv.err e));have:=i.le;have:=n.le;have:=l.le;dsimp only;rw[ZbF,Zaq,Zco];omega
  rw[Yn v]at e⊢;by_cases y:isM L [100,111] s=true
  ·rw[Yo y]at e⊢;have c:=D.next _ _ ⟨hs,a⟩ (ZA b hs.lt y).toAdv;have:=Zsq b j o (Ze L s) c.1 c.2 e;omega
  rw[Yn y]at e⊢;by_cases A:isM L [115,112,108,105,116] s=true
  ·rw[Yo A]at e⊢;have c:=D.next _ _ ⟨hs,a⟩ (ZA b hs.lt A).toAdv;have:=ZqF b j o (Ze L s) c.1 c.2 e;omega
  rw[Yn A]at e⊢;by_cases B:isM L [99,97,108,108] s=true
  ·rw[Yo B]at e⊢;have c:=D.next _ _ ⟨hs,a⟩ (ZA b hs.lt B).toAdv;have:=Zra b (ZX _) (hx f) (h f) (Ze L s) _ c.1 e;omega
  rw[Yn B]at e⊢;exact Zrn b (hx f) (h f) j o _ hs a e
theorem ZrD (c:ZW L) {s:PS} (hs:s.at_<L.length) (e:(Zbn L s).2.err=0):szT (Zbn L s).1+s.at_<=(Zbn L s).2.at_:=by
 have:=(part_go c hs).on e;have a:szT (Zbn L s).1=1:=by
  unfold Zbn;dsimp only;by_cases a:isM L [115,116,97,116,101] s=true
  ·rw[Yo a,ZbF,Zaq]
  rw[Yn a];by_cases b:isM L [102,105,110,97,108] s=true
  ·rw[Yo b,ZbF,Zaq]
  rw[Yn b,ZbF,Zaq]
 omega
theorem Zqu (c:ZW L) {s:PS} (hs:s.at_<L.length) (e:(ZbI L s).2.err=0):szT (ZbI L s).1+s.at_<=(ZbI L s).2.at_:=by
 have D:Dom L (fun s=>s.at_<L.length):=⟨fun a b h k=>k.lt h,fun a h=>h⟩
 have g:=Zq c [112,114,111,116,111] hs;have a:=Zo c (g.lt hs);have w:=Zq c [123] (a.lt (g.lt hs));have d:=w.lt (a.lt (g.lt hs));have u:=ZcV c D (fun s h _=>(part_go c h).toAdv) [125] (L.length+1) [] _ d;have z:=Zhc c D (fun s h _=>(part_go c h).toAdv) (fun s h _ e=>ZrD c h e) [125] (L.length+1) [] _ d e;have:=g.on (a.toAdv.err (w.toAdv.err (u.err e)));have:=a.le;have:=w.le;rw[Zaq]at z;unfold ZbI;dsimp only;rw[ZbF];omega
theorem Zqp (c:ZW L) {s:PS} (hs:s.at_<L.length) (e:(ZaB L s).2.err=0):szT (ZaB L s).1+s.at_<=(ZaB L s).2.at_:=by
 unfold ZaB at e⊢;dsimp only at e⊢;have a:=Zo c hs;have m:=a.lt hs;by_cases h:isM L [58] (Zb L s).2=true
 ·rw[Yo h]at e⊢;have g:=ZA c m h;have b:=Zo c (g.lt m);have o:=b.lt (g.lt m);have k:=ZeG c (Zr 0) o;have f:=k.lt o
  have i:∀(q:PS) (p:List Int),Adv L (ZC L (Zr 0) (Zb L (Zd (Zb L s).2)).2).2 q->(Zz L [105,110] 2 (Zz L [116,111] 1 (Zz L [97,116] 0 q).2).2).2.err=0->szT (.mk 5 [(Zb L s).1,(Zb L (Zd (Zb L s).2)).1] p (Ze L s) ((Zz L [97,116] 0 q).1++(Zz L [116,111] 1 (Zz L [97,116] 0 q).2).1++(Zz L [105,110] 2 (Zz L [116,111] 1 (Zz L [97,116] 0 q).2).2).1))+s.at_<=(Zz L [105,110] 2 (Zz L [116,111] 1 (Zz L [97,116] 0 q).2).2).2.at_:=fun q p hq e=>by
   have x:=Zcs c [97,116] 0 (hq.lt f);have y:=Zcs c [116,111] 1 (x.lt (hq.lt f));have r:=Zg2 c [97,116] 0 (hq.lt f);have t:=Zg2 c [116,111] 1 (x.lt (hq.lt f));have u:=Zg2 c [105,110] 2 (y.lt (x.lt (hq.lt f)));have z:=Zcs c [105,110] 2 (y.lt (x.lt (hq.lt f)));have:=a.on (g.toAdv.err (b.toAdv.err (k.toAdv.err (hq.err (x.err (y.err (z.err e)))))));have:=g.le;have:=b.le;have:=k.le;have:=hq.le;rw[ZbF,ZdL,ZdL];omega
  by_cases l:isM L [108,101,97,115,116] (ZC L (Zr 0) (Zb L (Zd (Zb L s).2)).2).2=true
  ·rw[Yo l]at e⊢;have j:=ZA c f l;have n:=Zc2 c 1 (j.lt f);have w:=Zq c [47] (n.lt (j.lt f));have d:=Zc2 c 1 (w.lt (n.lt (j.lt f)));exact i _ _ (j.toAdv.trans (n.toAdv.trans (w.toAdv.trans d.toAdv))) e
  ·rw[Yn l]at e⊢;exact i _ _ (Adv.refl _) e
 ·rw[Yn h]at e⊢;have:=a.on e;dsimp only;rw[ZbF,Zaq];omega
theorem Zss (a:ZW L) {f:Nat} {ex st:PS->Tr×PS} (o:Stm L f st) (p:Zib L f st) {s:PS} (hs:Dp L (f+1) s) (b:s.deep<=200) (e:(fnM L ex st s).2.err=0):szT (fnM L ex st s).1+s.at_<=(fnM L ex st s).2.at_:=by have D:=ZQ (L:=L) (f+1);have g:=Zq a [102,110] hs.lt;have k:=D.next _ _ ⟨hs,b⟩ g.toAdv;have i:=Zo a k.1.lt;have l:=D.next _ _ k i.toAdv;have j:=Zq a [40] l.1.lt;have d:=D.next _ _ l j.toAdv;have n:=Zc4 a D (fun s h=>(ZdI a h.1.lt).toAdv) (L.length+1) true [] _ d;have c:=D.next _ _ d n;have z5:=ZdE a o.adv p c.1 c.2 e;have m:=(Zbx a o.adv c.1 c.2).toAdv.err e;have z4:=Zhp a D (fun s h=>(ZdI a h.1.lt).toAdv) (fun s h e=>Zqp a h.1.lt e) (L.length+1) true [] _ d m;have:=g.on (i.toAdv.err (j.toAdv.err (n.err m)));have:=i.le;have:=j.le;rw[Zaq]at z4;unfold fnM;dsimp only;rw[ZbF,ZdL,Zco];omega
theorem Zdt (a:ZW L) {f:Nat} {ex st:PS->Tr×PS} (b:Stm L f st):∀(g:Nat) (l:List Tr) (s:PS),Dp L (f+1) s/\s.deep<=200->Adv L s (Zay L ex st g l s).2
 |0,_,s,_=>Adv.refl s
 |g+1,l,s,hs=>by
  have D:=ZQ (L:=L) (f+1);unfold Zay;by_cases h:s.err=0/\(ZaK L s).1≠3
  ·rw[Yo h];by_cases c:isM L [112,114,111,116,111] s=true
   ·rw[Yo c];have n:=(Zg7 a hs.1.lt).toAdv;exact n.trans (Zdt a b g _ _ (D.next _ _ hs n))
   rw[Yn c];by_cases d:isM L [102,110] s=true
   ·rw[Yo d];have n:=(Zku a (ex:=ex) b hs.1 hs.2).toAdv;exact n.trans (Zdt a b g _ _ (D.next _ _ hs n))
   rw[Yn d];have n:=(ZeE (L:=L) (e:=11) (by decide) s).toAdv;exact n.trans (Zdt a b g _ _ (D.next _ _ hs n))
  ·rw[Yn h];exact Adv.refl s
theorem ZfK (a:ZW L) {f:Nat} {ex st:PS->Tr×PS} (b:Stm L f st) (c:Zib L f st):∀(g:Nat) (l:List Tr) (s:PS),Dp L (f+1) s/\s.deep<=200->(Zay L ex st g l s).2.err=0->Zaq (Zay L ex st g l s).1+s.at_<=(Zay L ex st g l s).2.at_+Zaq l
 |0,l,s,_,_=>by rw[Zay];dsimp only;omega
 |g+1,l,s,hs,e=>by
  have D:=ZQ (L:=L) (f+1);unfold Zay at e⊢;by_cases i:s.err=0/\(ZaK L s).1≠3
  ·rw[Yo i]at e⊢;by_cases d:isM L [112,114,111,116,111] s=true
   ·rw[Yo d]at e⊢;have n:=(Zg7 a hs.1.lt).toAdv;have hd:=D.next _ _ hs n;have z:=ZfK a b c g (l++[(ZbI L s).1]) _ hd e;have z2:=Zqu a hs.1.lt ((Zdt a b g (l++[(ZbI L s).1]) _ hd).err e);rw[ZdL,Zco]at z;dsimp only at z⊢;omega
   rw[Yn d]at e⊢;by_cases h:isM L [102,110] s=true
   ·rw[Yo h]at e⊢;have n:=(Zku a (ex:=ex) b hs.1 hs.2).toAdv;have hd:=D.next _ _ hs n;have z:=ZfK a b c g (l++[(fnM L ex st s).1]) _ hd e;have z2:=Zss a b c hs.1 hs.2 ((Zdt a b g (l++[(fnM L ex st s).1]) _ hd).err e);rw[ZdL,Zco]at z;dsimp only at z⊢;omega
   rw[Yn h]at e⊢;have n:=(ZeE (L:=L) (e:=11) (by decide) s).toAdv;have z:=ZfK a b c g l _ (D.next _ _ hs n) e;have:=n.le;omega
  ·rw[Yn i];dsimp only;omega
end
end
section
section
variable {L:List Tok}
def Zoa (L:List Tok):Prop:=∀t∈L,t.1=1->t.2.1.all ZaU=true/\t.2.1.length<=18
def Zdw (L:List Tok):Prop:=Zoa L/\L.length<=6001
theorem Zkh {p:UInt8->Bool}:∀l:Txt,(l.take (Zao p l)).all p=true
 |[]=>rfl
 |c::r=>by
  rw[ZcF];by_cases h:p c=true
  ·rw[Yo h,List.take_succ_cons,List.all_cons,h,Zkh r];rfl
  ·rw[Yn h];rfl
theorem Zoy {c:UInt8} {r:Txt} (h:(ZaJ (c::r)).2.2=true) (a:(ZaJ (c::r)).1=1):((c::r).take (ZaJ (c::r)).2.1).all ZaU=true/\((c::r).take (ZaJ (c::r)).2.1).length<=18:=by
 rw[ZbQ]at h a⊢;by_cases q:ZbP c=true
 ·rw[Yo q]at a;cases a
 rw[Yn q]at h a⊢;by_cases d:ZaU c=true
 ·rw[Yo d]at h a⊢;dsimp only at h⊢;rw[decide_eq_true_eq]at h;exact⟨Zkh _,by rw[List.length_take];omega⟩
 ·rw[Yn d]at a
  split at a<;>cases a
theorem Zqj:∀(m:Nat) (l:List UInt8) (a:Nat) (ts:List Tok),l.length<=m->Zbv l a=.ok ts->Zoa ts:=by
 intro m
 induction m with
 |zero=>
  intro l a ts hm h;obtain rfl:l=[]:=List.eq_nil_of_length_eq_zero (by omega);rw[Zg0]at h;injection h with h;subst h;intro t b;rw[List.mem_singleton]at b;subst b;intro h;cases h
 |succ m g=>
  intro l a ts hm h;cases q:l.drop (ZO l)with
  |nil=>
   have e:ZO l=l.length:=by have:=List.length_drop (i:=ZO l) (l:=l);have:=ZfE l;rw[q]at *;simp at *;omega
   rw[Zga e]at h;injection h with h;subst h;intro t b;rw[List.mem_singleton]at b;subst b;intro h;cases h
  |cons c r=>
   have k:(c::r).length<=l.length:=by rw[<-q,List.length_drop];omega
   cases f:(ZaJ (c::r)).2.2 with
   |false=>rw[Zf9 q f]at h;cases h
   |true=>
    have n:=ZgW f;rw[Ze6 q f]at h;cases hr:Zbv ((c::r).drop (ZaJ (c::r)).2.1) (a+ZO l+(ZaJ (c::r)).2.1)with
    |bad p=>rw[hr]at h;cases h
    |ok j=>
     rw[hr]at h;injection h with h;subst h;have hd:((c::r).drop (ZaJ (c::r)).2.1).length<=l.length-1:=by rw[List.length_drop];omega
     intro t b;rcases List.mem_cons.1 b with rfl|b
     ·exact fun d=>Zoy f d
     ·exact g _ _ j (by omega) hr t b
theorem ZqN (a:Zdw L) (k:Nat) (h:(Zg L k).1=1):(Zg L k).2.1.all ZaU=true/\(Zg L k).2.1.length<=18:=by
 unfold Zg at h⊢;cases q:L[k]? with
 |none=>rw[q]at h;cases h
 |some t=>rw[q]at h;exact a.1 t (List.mem_of_getElem? q) h
theorem ZkL:∀(l:Txt) (n k:Nat),l.all ZaU=true->k+l.length<=18->n<10 ^ k->∃m:Nat,l.foldl (fun n c=>IntKind.i64.wrap (IntKind.i64.wrap (10*n)+((c.toNat:Int)-48) % 256)) (n:Int)=(m:Int)/\m<10 ^ 18
 |[],n,k,_,hk,h1=>⟨n,rfl,Nat.lt_of_lt_of_le h1 (Nat.pow_le_pow_right (by decide) (by simpa using hk))⟩
 |c::r,n,k,ha,hk,h1=>by
  rw[List.all_cons,Bool.and_eq_true]at ha;rw[Yk]at hk;rw[List.foldl_cons];have hd:48<=c.toNat/\c.toNat<=57:=by have:=ha.1;unfold ZaU Zfx at this;simp at this;omega
  have b:(10:Nat) ^ k<=10 ^ 17:=Nat.pow_le_pow_right (by decide) (by omega);have a:(10:Nat) ^ 17=100000000000000000:=by decide
  rw[a]at b;have e:(10:Nat) ^ (k+1)=10 ^ k*10:=Nat.pow_succ 10 k;have d:IntKind.i64.wrap (10*(n:Int))=10*(n:Int):=IntWalk.i64_in _ (by omega);have m:((c.toNat:Int)-48) % 256=(c.toNat:Int)-48:=by omega
  have q:10*(n:Int)+((c.toNat:Int)-48)=((10*n+(c.toNat-48):Nat):Int):=by omega
  rw[d,m,IntWalk.i64_in _ (by omega),q];exact ZkL r _ (k+1) ha.2 (by omega) (by omega)
theorem Zrk {l:Txt} (ha:l.all ZaU=true) (f:l.length<=18):ZaH (Zdq l):=by
 obtain⟨m,b,d⟩:=ZkL l 0 0 ha (by omega) (by decide);have e:(10:Nat) ^ 18=1000000000000000000:=by decide
 rw[e]at d;unfold ZaH Zdq;have a:l.foldl (fun n c=>IntKind.i64.wrap (IntKind.i64.wrap (10*n)+((c.toNat:Int)-48) % 256)) (0:Int)=(m:Int):=b;rw[a];omega
theorem Zii {e:Int} {s:PS} (a:e≠0):(ZbZ L e s).err≠0:=by
 unfold ZbZ;by_cases h:s.err=0
 ·rw[Yo h];exact a
 ·rw[Yn h];exact h
theorem ZhD (c:Zdw L) {a:Int} {s:PS} (e:(Zan L a s).2.err=0):a<=(Zan L a s).1/\ZaH (Zan L a s).1:=by
 unfold Zan at e⊢;by_cases h:(ZaK L s).1=1/\¬Zdq (ZaK L s).2.1<a/\s.err=0
 ·rw[Yo h];refine⟨by dsimp only;omega,?_⟩;have b:ZaK L s=Zg L s.at_:=by unfold ZaK;rw[Yn (by simp[h.2.2])]
  have:=ZqN c s.at_ (by rw[<-b];exact h.1);rw[<-b]at this;exact Zrk this.1 this.2
 ·rw[Yn h]at e;exact absurd e (Zii (by decide))
theorem ZaW {s:PS} (e:(Zb L s).2.err=0):ZN (Zb L s).1=true:=by
 unfold Zb at e⊢;by_cases h:ZaY L s=true
 ·rw[Yo h];unfold ZaY at h;simp only[Bool.and_eq_true]at h;exact h.1.2
 ·rw[Yn h]at e;exact absurd e (Zii (by decide))
theorem ZjB:∀(l:List (Int×Txt)) {s:PS},(ZC L l s).2.err=0->∃w,((ZC L l s).1,w)∈l
 |[],s,e=>absurd e (Zii (by decide))
 |(i,w)::r,s,e=>by
  unfold ZC at e⊢;by_cases h:isM L w s=true
  ·rw[Yo h];exact⟨w,List.mem_cons_self⟩
  ·rw[Yn h]at e⊢;obtain⟨v,hv⟩:=ZjB r e;exact⟨v,List.mem_cons_of_mem _ hv⟩
theorem Zqd {s:PS} (e:(ZC L (Zr 0) s).2.err=0):0<=(ZC L (Zr 0) s).1/\(ZC L (Zr 0) s).1<=4:=by
 obtain⟨w,b⟩:=ZjB (Zr 0) e;have a:∀x∈Zr 0,0<=x.1/\x.1<=4:=by decide
 exact a _ b
theorem Zqe {s:PS} (e:(ZC L (Zr 1) s).2.err=0):1<=(ZC L (Zr 1) s).1/\(ZC L (Zr 1) s).1<=4:=by
 obtain⟨w,b⟩:=ZjB (Zr 1) e;have a:∀x∈Zr 1,1<=x.1/\x.1<=4:=by decide
 exact a _ b
theorem Zbs (s:PS):0<=Ze L s:=Int.natCast_nonneg _
theorem Zmp (a:ZW L):∀(f:Nat) (l:List Txt) {s:PS},s.at_<L.length->ZcD l=true->1<=l.length->(Zdd L f l s).2.err=0->ZcD (Zdd L f l s).1=true/\1<=(Zdd L f l s).1.length/\(Zdd L f l s).1.length<=l.length+f
 |0,l,s,_,hl,h1,e=>⟨hl,h1,Nat.le_refl _⟩
 |f+1,l,s,hs,hl,h1,e=>by
  unfold Zdd at e⊢;by_cases h:isM L [124] s=true
  ·rw[Yo h]at e⊢;have g:=ZA a hs h;have n:=Zo a (g.lt hs);have b:=ZfZ a f (l++[(Zb L (Zd s)).1]) (n.lt (g.lt hs));have c:=ZaW (b.err e);have r:=Zmp a f (l++[(Zb L (Zd s)).1]) (n.lt (g.lt hs)) (by unfold ZcD at hl⊢;rw[List.all_append,hl];simp[c]) (by simp) e;refine⟨r.1,r.2.1,Nat.le_trans r.2.2 ?_⟩;rw[Yj,List.length_singleton];omega
  ·rw[Yn h];exact⟨hl,h1,Nat.le_add_right _ _⟩
theorem ZbV {k p:Int} {b:List Txt} {us:List Int} {a:List Tr} (c:0<=p) (d:ZcD b=true) (e:ZbR us=true) (f:Zbe k b us (a.map Tr.kd) (a.map Tr.wh)=true) (g:VTs a) (h:b.length<=20000:=by simp):VT (.mk k b us p a):=by rw[VT];exact⟨c,⟨d,h⟩,e,f,g⟩
theorem Zdz:VTs []:=by rw[VTs];trivial
theorem Zfb {t:Tr} (h:VT t):VTs [t]:=by rw[VTs];exact⟨h,Zdz⟩
theorem ZfW {t u:Tr} (h:VT t) (k:VT u):VTs [t,u]:=by rw[VTs];exact⟨h,Zfb k⟩
theorem ZpG {t u v:Tr} (h:VT t) (k:VT u) (l:VT v):VTs [t,u,v]:=by rw[VTs];exact⟨h,ZfW k l⟩
theorem Zfy {a:Txt} (h:ZN a=true):ZcD [a]=true:=by simp[ZcD,h]
theorem Zip {a b:Txt} (h:ZN a=true) (k:ZN b=true):ZcD [a,b]=true:=by simp[ZcD,h,k]
theorem Zg3 (a:ZW L) (j:Zdw L) {x:Txt} {i:Int} (k:0<=i/\i<=2) {s:PS} (hs:s.at_<L.length) (e:(Zz L x i s).2.err=0):(Zz L x i s).1=[]\/∃t,(Zz L x i s).1=[t]/\VT t/\t.kd=6/\t.wh=i:=by
 unfold Zz at e⊢;by_cases h:isM L x s=true
 ·rw[Yo h]at e⊢;have g:=ZA a hs h;have n:=Zo a (g.lt hs);dsimp only at e⊢;have b:=ZfZ a L.length [(Zb L (Zd s)).1] (n.lt (g.lt hs));have l:=ZaW (b.err e);obtain⟨c,d,f⟩:=Zmp a L.length [(Zb L (Zd s)).1] (n.lt (g.lt hs)) (Zfy l) (by simp) e;refine .inr ⟨_,rfl,ZbV (Zbs s) c ?_ ?_ Zdz (by have:=j.2;rw[List.length_singleton]at f;omega),rfl,rfl⟩
  ·simp[ZbR];omega
  ·simp[Zbe,Zbr,Zev,Zbq];exact⟨d,k.2⟩
 ·rw[Yn h];exact .inl rfl
abbrev VE (t:Tr):Prop:=VT t/\Zat t.kd=true
theorem Zjl {c:Int} (i:0<=c) (h:c<=5) {a b:Tr} (ha:VE a) (d:VE b):VE (ZaZ c a b):=by
 obtain⟨k,m,l,p,j⟩:=a;have e:=ha.1;rw[VT]at e;refine⟨ZbV e.1 rfl ?_ ?_ (ZfW ha.1 d.1),rfl⟩
 ·simp[ZbR];omega
 ·have f:=ha.2;have g:=d.2;simp[Zbe,Zbr,Zev,Zbq,f,g,h]
abbrev VeM (D:PS->Prop) (M:PS->Tr×PS):Prop:=∀s,D s->(M s).2.err=0->VE (M s).1
theorem ZgR (d:ZW L) {D:PS->Prop} (hD:Dom L D) {l:PS->Tr×PS} (k:Onw L D l) (p:VeM D l) (x y:Txt) {i j:Int} (m:0<=i/\i<=5) (o:0<=j/\j<=5):∀(f:Nat) (a:Tr) (s:PS),D s->VE a->(Zaz L l x y i j f a s).2.err=0->VE (Zaz L l x y i j f a s).1
 |0,a,s,_,ha,_=>ha
 |f+1,a,s,hs,ha,e=>by
  unfold Zaz at e⊢;by_cases r:s.err=0
  ·rw[Yo r]at e⊢;by_cases h:isM L x s=true
   ·rw[Yo h]at e⊢;have g:=ZA d (hD.lt _ hs) h;have hd:=hD.next _ _ hs g.toAdv;have n:=k _ hd;have b:=hD.next _ _ hd n.toAdv;have c:=ZcH d hD k x y i j f (ZaZ i a (l (Zd s)).1) _ b;exact ZgR d hD k p x y m o f _ _ b (Zjl m.1 m.2 ha (p _ hd (c.err e))) e
   ·rw[Yn h]at e⊢;by_cases q:isM L y s=true
    ·rw[Yo q]at e⊢;have g:=ZA d (hD.lt _ hs) q;have hd:=hD.next _ _ hs g.toAdv;have n:=k _ hd;have b:=hD.next _ _ hd n.toAdv;have c:=ZcH d hD k x y i j f (ZaZ j a (l (Zd s)).1) _ b;exact ZgR d hD k p x y m o f _ _ b (Zjl o.1 o.2 ha (p _ hd (c.err e))) e
    ·rw[Yn q];exact ha
  ·rw[Yn r];exact ha
theorem ZnM (c:ZW L) {D:PS->Prop} (hD:Dom L D) {a:PS->Tr×PS} (b:Onw L D a) (d:VeM D a):VeM D (Zai L a):=fun s hs e=>by
 have hd:=hD.next _ _ hs (b s hs).toAdv;exact ZgR c hD b d [42] [47] (by decide) (by decide) (L.length+1) (a s).1 _ hd (d s hs ((ZcH c hD b [42] [47] 4 5 (L.length+1) (a s).1 _ hd).err e)) e
theorem Zsh (b:ZW L) {D:PS->Prop} (hD:Dom L D) {a:PS->Tr×PS} (c:Onw L D a) (f:VeM D a):VeM D (ZK L a):=fun s hs e=>by
 have hq:=Zd9 b hD c;have d:=ZnM b hD c f;have hd:=hD.next _ _ hs (hq s hs).toAdv;exact ZgR b hD hq d [43] [45] (by decide) (by decide) (L.length+1) (Zai L a s).1 _ hd (d s hs ((ZcH b hD hq [43] [45] 2 3 (L.length+1) (Zai L a s).1 _ hd).err e)) e
theorem Zmt (c:ZW L) {D:PS->Prop} (hD:Dom L D) {b:PS->Tr×PS} (f:Onw L D b) (i:VeM D b):VeM D (ZaO L b):=fun s hs e=>by
 have hq:=ZgH c hD f;have a:=Zsh c hD f i;have ha:=hD.next _ _ hs (hq s hs).toAdv;unfold ZaO at e⊢;dsimp only at e⊢;by_cases h:isM L [60] (ZK L b s).2=true
 ·rw[Yo h]at e⊢;have g:=ZA c (hD.lt _ ha) h;have hd:=hD.next _ _ ha g.toAdv;exact Zjl (by decide) (by decide) (a s hs (g.toAdv.err ((hq _ hd).toAdv.err e))) (a _ hd e)
 ·rw[Yn h]at e⊢;by_cases d:isM L [61,61] (ZK L b s).2=true
  ·rw[Yo d]at e⊢;have g:=ZA c (hD.lt _ ha) d;have hd:=hD.next _ _ ha g.toAdv;exact Zjl (by decide) (by decide) (a s hs (g.toAdv.err ((hq _ hd).toAdv.err e))) (a _ hd e)
  ·rw[Yn d]at e⊢;exact a s hs e
theorem Ziw (a:ZW L) (k:Zdw L):∀(f:Nat),VeM (Dp L f) (ZE L f)
 |0,s,hs,e=>by have:=hs.fuel e;omega
 |f+1,s,hs,e=>by
  unfold ZE at e⊢;by_cases c:s.err≠0
  ·rw[Yo c]at e;exact absurd e c
  rw[Yn c]at e⊢;have l:s.err=0:=Classical.not_not.1 c;by_cases m:(ZaK L s).1=1
  ·rw[Yo m]at e⊢;have:=(ZhD k e).2;unfold ZaH at this;refine⟨ZbV (Zbs s) rfl ?_ rfl Zdz,rfl⟩;simp[ZbR];omega
  rw[Yn m]at e⊢;by_cases b:ZaY L s=true
  ·rw[Yo b]at e⊢;exact⟨ZbV (Zbs s) (Zfy (ZaW e)) rfl rfl Zdz,rfl⟩
  rw[Yn b]at e⊢;by_cases j:isM L [45] s=true
  ·rw[Yo j]at e⊢;have g:=ZA a hs.lt j;have d:=(ZX (f+1)).next _ _ hs g.toAdv;have i:=Zen d (.inl l);have h:=Ziw a k f _ i e;refine⟨ZbV (Zbs s) rfl rfl ?_ (Zfb h.1),rfl⟩;have b:=h.2;simp[Zbe,Zbr,Zbq,b]
  rw[Yn j]at e⊢;have g:=Zq a [40] hs.lt;have d:=(ZX (f+1)).next _ _ hs g.toAdv;have i:=Zen d (.inr (by rw[g.deep];exact(hs.fuel l).1));have x:=ZgA a (ZX f) (Zb5 a f) _ i;have o:(ZdU (ZaO L (ZE L f) (inM L (Zf L [40] s))).2).at_<L.length:=x.lt i.lt;have w:=Zq a [41] o;have n:(ZaO L (ZE L f) (inM L (Zf L [40] s))).2.err=0:=w.toAdv.err e;exact Zmt a (ZX f) (Zb5 a f) (Ziw a k f) _ i n
theorem Zhd (g:ZW L) {D:PS->Prop} (hD:Dom L D) {a:PS->Tr×PS} {G:Tr->Prop} (d:∀s,D s->s.err=0->Adv L s (a s).2) (i:∀s,D s->s.err=0->(a s).2.err=0->G (a s).1) (x:Txt):∀(f:Nat) (l:List Tr) (s:PS),D s->(∀t∈l,G t)->(ZaP L a x f l s).2.err=0->∀t∈(ZaP L a x f l s).1,G t
 |0,l,s,_,hl,_=>hl
 |f+1,l,s,hs,hl,e=>by
  unfold ZaP at e⊢;by_cases c:s.err=0
  ·rw[Yo c]at e⊢;by_cases h:isM L x s=true
   ·rw[Yo h];exact hl
   ·rw[Yn h]at e⊢;have n:=d s hs c;have hd:=hD.next _ _ hs n;have j:=i s hs c ((ZcV g hD d x f (l++[(a s).1]) _ hd).err e)
    exact Zhd g hD d i x f (l++[(a s).1]) _ hd (fun t b=>by
     rcases List.mem_append.1 b with b|b
     ·exact hl t b
     ·rw[List.mem_singleton]at b;subst b;exact j) e
  ·rw[Yn c];exact hl
theorem Zhq (d:ZW L) {D:PS->Prop} (hD:Dom L D) {a:PS->Tr×PS} {G:Tr->Prop} (g:∀s,D s->Adv L s (a s).2) (j:∀s,D s->(a s).2.err=0->G (a s).1):∀(f:Nat) (first:Bool) (l:List Tr) (s:PS),D s->(∀t∈l,G t)->(ZT L a f first l s).2.err=0->∀t∈(ZT L a f first l s).1,G t
 |0,_,l,s,_,hl,_=>hl
 |f+1,first,l,s,hs,hl,e=>by
  unfold ZT at e⊢;by_cases i:s.err=0
  ·rw[Yo i]at e⊢;by_cases h:isM L [41] s=true
   ·rw[Yo h];exact hl
   ·rw[Yn h]at e⊢;have w:Adv L s (if first then s else Zf L [44] s):=by
     cases first
     ·exact(Zq d [44] (hD.lt _ hs)).toAdv
     ·exact Adv.refl s
    have c:=hD.next _ _ hs w;have n:=g _ c;have hd:=hD.next _ _ c n;have k:=j _ c ((Zc4 d hD g f false (l++[(a (if first then s else Zf L [44] s)).1]) _ hd).err e)
    exact Zhq d hD g j f false (l++[(a (if first then s else Zf L [44] s)).1]) _ hd (fun t b=>by
     rcases List.mem_append.1 b with b|b
     ·exact hl t b
     ·rw[List.mem_singleton]at b;subst b;exact k) e
  ·rw[Yn i];exact hl
abbrev VB (t:Tr):Prop:=VT t/\t.kd=7
theorem Zf4 {f:Int->Bool} {ts:List Tr} (h:∀t∈ts,f t.kd=true):(ts.map Tr.kd).all f=true:=by rw[List.all_map,List.all_eq_true];exact h
theorem ZdF (c:ZW L) {f:Nat} {st:PS->Tr×PS} (k:∀s,Dp L f s->s.err=0->Adv L s (st s).2) (l:∀s,Dp L f s->s.err=0->(st s).2.err=0->VT (st s).1/\ZcJ (st s).1.kd=true) {s:PS} (hs:Dp L (f+1) s) (a:s.deep<=200) (e:(Zaf L st s).2.err=0):VB (Zaf L st s).1:=by have g:=Zq c [123] hs.lt;have d:=(ZX (f+1)).next _ _ hs g.toAdv;have i:=Zen d (.inr (by rw[g.deep];exact a));have j:(ZaP L st [125] (L.length+1) [] (inM L (Zf L [123] s))).2.err=0:=e;have h:=Zhd c (ZX f) (G:=fun t=>VT t/\ZcJ t.kd=true) k l [125] _ [] _ i (fun t b=>by simp at b) j;unfold Zaf;refine⟨ZbV (Zbs s) rfl rfl ?_ (Ze2 fun t b=>(h t b).1),rfl⟩;have:=Zf4 fun t b=>(h t b).2;simp[Zbe,Zbr,this]
end
end
end Go.Proofs.YtfbepcelkijgkaaGreatDoor
