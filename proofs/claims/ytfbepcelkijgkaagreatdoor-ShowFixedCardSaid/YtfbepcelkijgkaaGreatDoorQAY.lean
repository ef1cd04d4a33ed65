import Derived.Test.YtfbepcelkijgkaaGreatDoorQAD
import Derived.Test.YtfbepcelkijgkaaGreatDoorQAE
import Derived.Test.YtfbepcelkijgkaaGreatDoorQAF
import Derived.Test.YtfbepcelkijgkaaGreatDoorQAR
import Derived.Test.YtfbepcelkijgkaaGreatDoorQAX
set_option maxRecDepth 100000
set_option maxHeartbeats 8000000
open Option renaming some → Ya
open Go.Value renaming slice → Yc, int → Yd
open Go.IntKind renaming i64 → Yf
open Go renaming World → Yh, Value → Yi
namespace Go.Proofs.YtfbepcelkijgkaaGreatDoor
section
section
variable {L:List Tok}
theorem Zhk (a:ZW L) {D:PS->Prop} (hD:Dom L D) {ex:PS->Tr×PS} (hx:Onw L D ex):Onw L D (ZaS L ex):=fun s hs=>by
 unfold ZaS;by_cases h:isM L [38] s=true
 ·rw[Yo h];have g:=ZA a (hD.lt _ hs) h;exact g.then_ (Zo a (g.lt (hD.lt _ hs))).toAdv
 ·rw[Yn h];exact hx s hs
theorem Zq9 (b:ZW L) {D:PS->Prop} (hD:Dom L D) {ex:PS->Tr×PS} (hx:Onw L D ex) (p:Int):Onw L D (ZcA L ex p):=fun s hs=>by
 have a:=Zo b (hD.lt _ hs);have e:=a.lt (hD.lt _ hs);unfold ZcA;dsimp only
 have d:∀q:PS,Adv L (Zb L s).2 q->Gon L s (Zf L [59] (ZT L (ZaS L ex) (L.length+1) true [] (Zf L [40] q)).2):=fun q hq=>by
  have w:=Zq b [40] (hq.lt e);have f:=hD.next _ _ (hD.next _ _ (hD.next _ _ hs a.toAdv) hq) w.toAdv;have c:=Zc4 b hD (fun s h=>(Zhk b hD hx s h).toAdv) (L.length+1) true [] _ f;exact a.then_ (((hq.trans w.toAdv).trans c).trans (Zq b [59] (c.lt (w.lt (hq.lt e)))).toAdv)
 by_cases h:isM L [61] (Zb L s).2=true
 ·rw[Yo h];have g:=ZA b e h;exact d _ (g.toAdv.trans (Zo b (g.lt e)).toAdv)
 ·rw[Yn h];exact d _ (Adv.refl _)
abbrev Stm (L:List Tok) (f:Nat) (st:PS->Tr×PS):Prop:=∀s,Dp L f s->s.err=0->Gon L s (st s).2
theorem Stm.adv {f:Nat} {st:PS->Tr×PS} (h:Stm L f st):∀s,Dp L f s->s.err=0->Adv L s (st s).2:=fun s a b=>(h s a b).toAdv
theorem ZfP (c:ZW L) {f:Nat} {st:PS->Tr×PS} (d:Stm L f st) {s:PS} (hs:Dp L (f+1) s) (b:s.deep<=200):Gon L s (ZcQ L st s).2:=by have a:=Zo c hs.lt;exact a.then_ (Zbx c d.adv ((ZX _).next _ _ hs a.toAdv) (by rw[a.deep];exact b)).toAdv
theorem ZQ (f:Nat):Dom L (fun s=>Dp L f s/\s.deep<=200):=⟨fun a b h k=>⟨(ZX f).next a b h.1 k,by rw[k.deep];exact h.2⟩,fun a h=>h.1.lt⟩
theorem Zsp (e:ZW L) {f:Nat} {st:PS->Tr×PS} (k:Stm L f st) (p:Int) {s:PS} (hs:Dp L (f+1) s) (g:s.deep<=200):Gon L s (doM L st p s).2:=by
 have a:=Zo e hs.lt;have w:=Zq e [46] (a.lt hs.lt);have b:=Zo e (w.lt (a.lt hs.lt));have j:=b.lt (w.lt (a.lt hs.lt));have i:=(a.toAdv.trans w.toAdv).trans b.toAdv;have c:Gon L s (Zb L (Zf L [46] (Zb L s).2)).2:=a.then_ (w.toAdv.trans b.toAdv);unfold doM;dsimp only;by_cases h:isM L [59] (Zb L (Zf L [46] (Zb L s).2)).2=true
 ·rw[Yo h];exact c.then_ (ZA e j h).toAdv
 ·rw[Yn h];have v:=Zq e [123] j;have d:=(ZQ (f+1)).next _ _ ⟨hs,g⟩ (i.trans v.toAdv);exact c.then_ (v.toAdv.trans (ZcV e (ZQ (f+1)) (fun s h _=>(ZfP e k h.1 h.2).toAdv) [125] _ _ _ d))
theorem Zrm (d:ZW L) {f:Nat} {ex st:PS->Tr×PS} (hx:Onw L (Dp L (f+1)) ex) (m:Stm L f st) (p:Int) {s:PS} (hs:Dp L (f+1) s) (b:s.deep<=200):Gon L s (Zbb L ex st p s).2:=by
 have D:=ZQ (L:=L) (f+1);have X:∀q,Dp L (f+1) q/\q.deep<=200->Adv L q (ex q).2:=fun q h=>(hx q h.1).toAdv;have B:∀q,Dp L (f+1) q/\q.deep<=200->Adv L q (Zaf L st q).2:=fun q h=>(Zbx d m.adv h.1 h.2).toAdv;unfold Zbb;by_cases i:isM L [105,102] s=true
 ·rw[Yo i];have g:=ZA d hs.lt i;have a:=D.next _ _ ⟨hs,b⟩ g.toAdv;have c:=D.next _ _ a (X _ a);have l:=D.next _ _ c (B _ c);dsimp only;by_cases e:isM L [101,108,115,101] (Zaf L st (ex (Zd s)).2).2=true
  ·rw[Yo e];have k:=ZA d l.1.lt e;exact g.then_ ((((X _ a).trans (B _ c)).trans k.toAdv).trans (B _ (D.next _ _ l k.toAdv)))
  ·rw[Yn e];exact g.then_ ((X _ a).trans (B _ c))
 rw[Yn i];by_cases e:isM L [119,104,105,108,101] s=true
 ·rw[Yo e];have g:=ZA d hs.lt e;have a:=D.next _ _ ⟨hs,b⟩ g.toAdv;have c:=D.next _ _ a (X _ a);exact g.then_ ((X _ a).trans (B _ c))
 rw[Yn e];by_cases j:isM L [114,101,116,117,114,110] s=true
 ·rw[Yo j];have g:=ZA d hs.lt j;have a:=D.next _ _ ⟨hs,b⟩ g.toAdv;have c:=D.next _ _ a (X _ a);exact g.then_ ((X _ a).trans (Zq d [59] c.1.lt).toAdv)
 rw[Yn j];have w:=Zq d [101,120,105,116] hs.lt;exact w.then_ (Zq d [59] (w.lt hs.lt)).toAdv
theorem ZqE (a:ZW L) {f:Nat} {st:PS->Tr×PS} (v:Stm L f st) (p:Int) {s:PS} (hs:Dp L (f+1) s) (b:s.deep<=200):Gon L s (ZdQ L st p s).2:=by have D:=ZQ (L:=L) (f+1);unfold ZdQ;dsimp only;have g:=Zo a hs.lt;have c:=D.next _ _ ⟨hs,b⟩ g.toAdv;have m:=Zq a [61] c.1.lt;have d:=D.next _ _ c m.toAdv;have n:=Zo a d.1.lt;have e:=D.next _ _ d n.toAdv;have o:=ZeG a (Zr 1) e.1.lt;have h:=D.next _ _ e o.toAdv;have q:=Zc2 a 1 h.1.lt;have i:=D.next _ _ h q.toAdv;have r:=Zq a [47] i.1.lt;have j:=D.next _ _ i r.toAdv;have t:=Zc2 a 1 j.1.lt;have k:=D.next _ _ j t.toAdv;have u:=Zcs a [105,110] 2 k.1.lt;have l:=D.next _ _ k u;exact g.then_ (m.toAdv.trans (n.toAdv.trans (o.toAdv.trans (q.toAdv.trans (r.toAdv.trans (t.toAdv.trans (u.trans (Zbx a v.adv l.1 l.2).toAdv)))))))
theorem ZfV (b:ZW L) {ex:PS->Tr×PS} (hx:∀f,Onw L (Dp L (f+1)) ex):∀f,Stm L f (Zt L ex f)
 |0,s,hs,e=>by have:=hs.fuel e;omega
 |f+1,s,hs,e=>by
  have D:=ZQ (L:=L) (f+1);have a:=(hs.fuel e).1;have m:=ZfV b hx f;unfold Zt;dsimp only;by_cases n:isM L [108,101,116] s=true
  ·rw[Yo n];have g:=ZA b hs.lt n;have c:=D.next _ _ ⟨hs,a⟩ g.toAdv;have i:=Zo b c.1.lt;have h:=D.next _ _ c i.toAdv;have j:=Zq b [61] h.1.lt;have d:=D.next _ _ h j.toAdv;have k:=hx f _ d.1;have l:=D.next _ _ d k.toAdv;exact g.then_ (i.toAdv.trans (j.toAdv.trans (k.toAdv.trans (Zq b [59] l.1.lt).toAdv)))
  rw[Yn n];by_cases v:ZaY L s=true
  ·rw[Yo v];have i:=Zo b hs.lt;have h:=D.next _ _ ⟨hs,a⟩ i.toAdv;have j:=Zq b [61] h.1.lt;have d:=D.next _ _ h j.toAdv;have k:=hx f _ d.1;have l:=D.next _ _ d k.toAdv;exact i.then_ (j.toAdv.trans (k.toAdv.trans (Zq b [59] l.1.lt).toAdv))
  rw[Yn v];by_cases o:isM L [111,112,101,110] s=true
  ·rw[Yo o];have g:=ZA b hs.lt o;have c:=D.next _ _ ⟨hs,a⟩ g.toAdv;have i:=Zo b c.1.lt;have h:=D.next _ _ c i.toAdv;have j:=Zo b h.1.lt;have d:=D.next _ _ h j.toAdv;have k:=Zbx b m.adv d.1 d.2;have l:=D.next _ _ d k.toAdv;have u:=Zq b [101,108,115,101] l.1.lt;have t:=D.next _ _ l u.toAdv;exact g.then_ (i.toAdv.trans (j.toAdv.trans (k.toAdv.trans (u.toAdv.trans (Zbx b m.adv t.1 t.2).toAdv))))
  rw[Yn o];by_cases p:isM L [100,111] s=true
  ·rw[Yo p];have g:=ZA b hs.lt p;have c:=D.next _ _ ⟨hs,a⟩ g.toAdv;exact g.then_ (Zsp b m _ c.1 c.2).toAdv
  rw[Yn p];by_cases q:isM L [115,112,108,105,116] s=true
  ·rw[Yo q];have g:=ZA b hs.lt q;have c:=D.next _ _ ⟨hs,a⟩ g.toAdv;exact g.then_ (ZqE b m _ c.1 c.2).toAdv
  rw[Yn q];by_cases r:isM L [99,97,108,108] s=true
  ·rw[Yo r];have g:=ZA b hs.lt r;have c:=D.next _ _ ⟨hs,a⟩ g.toAdv;exact g.then_ (Zq9 b (ZX _) (hx f) _ _ c.1).toAdv
  rw[Yn r];exact Zrm b (hx f) m _ hs a
theorem Zgs (c:ZW L):∀(f:Nat) (l:List Txt) {s:PS},s.at_<L.length->Adv L s (Zcw L f l s).2
 |0,_,s,_=>Adv.refl s
 |f+1,l,s,hs=>by
  unfold Zcw;by_cases d:s.err=0
  ·rw[Yo d];have a:=Zo c hs;have b:=Zo c (a.lt hs);have e:=b.lt (a.lt hs);dsimp only;by_cases h:isM L [44] (Zb L (Zb L s).2).2=true
   ·rw[Yo h];have g:=ZA c e h;exact(a.toAdv.trans b.toAdv).trans (g.toAdv.trans (Zgs c f _ (g.lt e)))
   ·rw[Yn h];exact a.toAdv.trans b.toAdv
  ·rw[Yn d];exact Adv.refl s
theorem part_go (c:ZW L) {s:PS} (hs:s.at_<L.length):Gon L s (Zbn L s).2:=by
 unfold Zbn;dsimp only;by_cases d:isM L [115,116,97,116,101] s=true
 ·rw[Yo d];have g:=ZA c hs d;have n:=Zo c (g.lt hs);exact g.then_ (n.toAdv.trans (Zq c [59] (n.lt (g.lt hs))).toAdv)
 rw[Yn d];by_cases e:isM L [102,105,110,97,108] s=true
 ·rw[Yo e];have g:=ZA c hs e;have n:=Zo c (g.lt hs);exact g.then_ (n.toAdv.trans (Zq c [59] (n.lt (g.lt hs))).toAdv)
 rw[Yn e];have g:=Zq c [111,112] hs;have f:=g.lt hs;have a:=Zo c f;have h:=a.lt f;have b:=Zo c h;have i:=b.lt h;have w:=Zq c [45,62] i;have j:=w.lt i;have x:=Zgs c (L.length+1) [(Zb L (Zf L [111,112] s)).1,(Zb L (Zb L (Zf L [111,112] s)).2).1] j;exact g.then_ (a.toAdv.trans (b.toAdv.trans (w.toAdv.trans (x.trans (Zq c [59] (x.lt j)).toAdv))))
theorem Zg7 (c:ZW L) {s:PS} (hs:s.at_<L.length):Gon L s (ZbI L s).2:=by
 have D:Dom L (fun s=>s.at_<L.length):=⟨fun a b h k=>k.lt h,fun a h=>h⟩
 unfold ZbI;dsimp only;have g:=Zq c [112,114,111,116,111] hs;have a:=Zo c (g.lt hs);have w:=Zq c [123] (a.lt (g.lt hs));exact g.then_ (a.toAdv.trans (w.toAdv.trans (ZcV c D (fun s h _=>(part_go c h).toAdv) [125] _ _ _ (w.lt (a.lt (g.lt hs))))))
theorem ZdI (c:ZW L) {s:PS} (hs:s.at_<L.length):Gon L s (ZaB L s).2:=by
 unfold ZaB;dsimp only;have a:=Zo c hs;have l:=a.lt hs;by_cases h:isM L [58] (Zb L s).2=true
 ·rw[Yo h];have g:=ZA c l h;have b:=Zo c (g.lt l);have m:=b.lt (g.lt l);have k:=ZeG c (Zr 0) m;have f:=k.lt m
  have i:∀q:PS,Adv L (ZC L (Zr 0) (Zb L (Zd (Zb L s).2)).2).2 q->Gon L s (Zz L [105,110] 2 (Zz L [116,111] 1 (Zz L [97,116] 0 q).2).2).2:=fun q hq=>by
   have x:=Zcs c [97,116] 0 (hq.lt f);have y:=Zcs c [116,111] 1 (x.lt (hq.lt f));have z:=Zcs c [105,110] 2 (y.lt (x.lt (hq.lt f)));exact a.then_ (g.toAdv.trans (b.toAdv.trans (k.toAdv.trans (hq.trans (x.trans (y.trans z))))))
  by_cases j:isM L [108,101,97,115,116] (ZC L (Zr 0) (Zb L (Zd (Zb L s).2)).2).2=true
  ·rw[Yo j];have e:=ZA c f j;have n:=Zc2 c 1 (e.lt f);have w:=Zq c [47] (n.lt (e.lt f));have d:=Zc2 c 1 (w.lt (n.lt (e.lt f)));exact i _ (e.toAdv.trans (n.toAdv.trans (w.toAdv.trans d.toAdv)))
  ·rw[Yn j];exact i _ (Adv.refl _)
 ·rw[Yn h];exact a
theorem Zku (a:ZW L) {f:Nat} {ex st:PS->Tr×PS} (m:Stm L f st) {s:PS} (hs:Dp L (f+1) s) (b:s.deep<=200):Gon L s (fnM L ex st s).2:=by have D:=ZQ (L:=L) (f+1);unfold fnM;dsimp only;have g:=Zq a [102,110] hs.lt;have c:=D.next _ _ ⟨hs,b⟩ g.toAdv;have j:=Zo a c.1.lt;have d:=D.next _ _ c j.toAdv;have k:=Zq a [40] d.1.lt;have e:=D.next _ _ d k.toAdv;have l:=Zc4 a D (fun s h=>(ZdI a h.1.lt).toAdv) (L.length+1) true [] _ e;have i:=D.next _ _ e l;exact g.then_ (j.toAdv.trans (k.toAdv.trans (l.trans (Zbx a m.adv i.1 i.2).toAdv)))
end
end
section
open Go.RowKit
def Zeq (l:List UInt8):List Tok×Int×Nat:=
 if 6000<l.length then([],13,0)else match Zbv l 0 with
  |.bad a=>([],10,a)
  |.ok b=>(b,0,0)
def Zkw (w:Yh) (r:List Tok×Int×Nat) (e:Ending) (w':Yh):Prop:=
 ∃A c,e=.returned (.tuple #[Yc A r.1.length c,.agg #[Yd Yf r.2.1,Yd Yf r.2.2]])/\Zcn w' (Yc A r.1.length c) r.1/\Below w.heap.size w w'
theorem Zi8 {l:List UInt8} (h:6000<l.length):Zeq l=([],13,0):=Yo h
theorem Zi7 {l:List UInt8} {a:Nat} (h:l.length<=6000) (q:Zbv l 0=.bad a):Zeq l=([],10,a):=by unfold Zeq;rw[Yn (by omega),q]
theorem ZhH {l:List UInt8} {ts:List Tok} (h:l.length<=6000) (q:Zbv l 0=.ok ts):Zeq l=(ts,0,0):=by unfold Zeq;rw[Yn (by omega),q]
theorem ZrJ {w:Yh} {s:ByteArray} {e:Ending} {w':Yh} (h:s.size<=6000) (b:Zob w (Zbv s.data.toList 0) e w'):Zkw w (Zeq s.data.toList) e w':=by
 have c:s.data.toList.length<=6000:=by rw[Zdj];exact h
 cases q:Zbv s.data.toList 0 with
 |bad a=>
  rw[q]at b;rw[Zi7 c q];exact⟨none,0,b.1,Zcn.nil _,b.2⟩
 |ok d=>
  rw[q]at b;rw[ZhH c q];exact b
theorem ZrI {w:Yh} {s:ByteArray} {e:Ending} {w':Yh} (h:6000<s.size) (a:e=.returned (.tuple #[Yc none 0 0,.agg #[Yd Yf 13,Yd Yf 0]])/\Below w.heap.size w w'):Zkw w (Zeq s.data.toList) e w':=by rw[Zi8 (by rw[Zdj];exact h)];exact⟨none,0,a.1,Zcn.nil _,a.2⟩
theorem Zl9 (s:ByteArray) (w:Yh):Calls Tryz.prog 19 #[.string s] w (Zkw w (Zeq s.data.toList)):=by
 by_cases h:s.size<=6000
 ·exact(Zl7 s w h).mono fun _ _ a=>ZrJ h a
 ·exact(Zl8 s w (by omega)).mono fun _ _ a=>ZrI (by omega) a
theorem Zky (a:Addr) (k j:Nat):a.add (k+(j+1))=⟨(a.add k).block,(a.add k).off+(j+1),none⟩:=by
 unfold Addr.add
 split<;>split<;>simp_all<;>omega
end
section
open Go.RowKit
def Tr.kd:Tr->Int|.mk k _ _ _ _=>k
def Tr.ws:Tr->List Txt|.mk _ w _ _ _=>w
def Tr.us:Tr->List Int|.mk _ _ u _ _=>u
def Tr.ps:Tr->Int|.mk _ _ _ p _=>p
def Tr.ks:Tr->List Tr|.mk _ _ _ _ k=>k
abbrev NV:=Yi×Yi×Yi
abbrev ZbN (x:NV×Tr):Yi:=.agg #[Yd Yf x.2.kd,x.1.1,x.1.2.1,Yc none 0 0,Yd Yf x.2.ps,x.1.2.2]
def ZaX:List (NV×Tr)->List Yi
 |[]=>[]
 |x::r=>Yd Yf x.2.kd::x.1.1::x.1.2.1::Yc none 0 0::Yd Yf x.2.ps::x.1.2.2::ZaX r
theorem Zeo:∀l,(ZaX l).length=l.length*6
 |[]=>rfl
 |x::r=>by simp only[ZaX,Yk,Zeo r];omega
theorem Zhe:∀(l m:List (NV×Tr)),ZaX (l++m)=ZaX l++ZaX m
 |[],m=>rfl
 |x::r,m=>by rw[List.cons_append,ZaX,ZaX,Zhe r m];rfl
theorem ZjY:∀(l:List (NV×Tr)) (k:Nat) (x:NV×Tr),l[k]? = Ya x->(ZaX l)[k*6]? = Ya (Yd Yf x.2.kd)/\(ZaX l)[k*6+1]? = Ya x.1.1/\(ZaX l)[k*6+2]? = Ya x.1.2.1/\(ZaX l)[k*6+3]? = Ya (Yc none 0 0)/\(ZaX l)[k*6+4]? = Ya (Yd Yf x.2.ps)/\(ZaX l)[k*6+5]? = Ya x.1.2.2
 |[],k,x,h=>by simp at h
 |y::r,0,x,h=>by
  obtain rfl:y=x:=by simpa using h
  exact⟨rfl,rfl,rfl,rfl,rfl,rfl⟩
 |y::r,k+1,x,h=>by
  rw[List.getElem?_cons_succ]at h;obtain⟨a,b,c,d,e,f⟩:=ZjY r k x h
  have q:∀j,(ZaX (y::r))[(k+1)*6+j]? = (ZaX r)[k*6+j]?:=fun j=>by
   rw[show(k+1)*6+j=(k*6+j)+1+1+1+1+1+1 by omega];rfl
  exact⟨(q 0).trans a,(q 1).trans b,(q 2).trans c,(q 3).trans d,(q 4).trans e,(q 5).trans f⟩
inductive TrO (w:Yh):(Nat->Prop)->NV->Tr->Prop where
 |mk {Q:Nat->Prop} {wv uv lv:Yi} {k p:Int} {ws:List Txt} {us:List Int} (vs:List (NV×Tr)) (hw:w.ownsRow 0 9 1 wv ws.length (ws.map txt)) (hm:∀s∈ws,s.length<=maxLen) (hu:w.ownsRow 0 2 1 uv us.length (us.map (Value.int Yf)))
  (hl:w.ownsRow 0 58 6 lv vs.length (ZaX vs)) (hq:∀b,lv.ownBlock=Ya b->Q b) (he:∀x∈vs,TrO w (fun b=>Q b/\lv.ownBlock≠Ya b) x.1 x.2):TrO w Q (wv,uv,lv) (.mk k ws us p (vs.map (·.2)))
theorem TrO.mono {w:Yh} {Q:Nat->Prop} {x:NV} {t:Tr} (h:TrO w Q x t):∀{R:Nat->Prop},(∀b,Q b->R b)->TrO w R x t:=by
 induction h with
 |mk j f hm e d hq k i=>exact fun c=>.mk j f hm e d (fun b a=>c b (hq b a)) fun y g=>i y g fun b a=>⟨c b a.1,a.2⟩
theorem TrO.kept {w w':Yh} {row:Option Nat} (s:w.grownBy w' row) {Q:Nat->Prop} {x:NV} {t:Tr} (h:TrO w Q x t):(∀g,row=Ya g->∃ty cs,Zh w g ty cs/\ty≠9/\ty≠2/\(ty≠58\/∀b,Q b->b≠g))->TrO w' Q x t:=by
 induction h with
 |@mk Q wv uv lv k p ws us vs hw hm hu hl hq he ih=>
  intro m
  have f:∀{e:TypeId} {d n:Nat} {v:Yi} {o:List Yi},w.ownsRow 0 e d v n o->(∀g ty cs,row=Ya g->Zh w g ty cs->ty≠9->ty≠2->(ty≠58\/∀b,Q b->b≠g)->v.ownBlock≠Ya g)->w'.ownsRow 0 e d v n o:=fun u l=>u.kept s (by
   cases q:row with
   |none=>cases z:Value.ownBlock _ with
    |none=>exact .inl rfl
    |some b=>exact .inr (by simp)
   |some g=>
    obtain⟨ty,cs,a,i,j,c⟩:=m g q
    exact .inr (l g ty cs q a i j c))
  refine .mk vs (f hw fun g ty cs _ a i _ _=>a.off hw i) hm (f hu fun g ty cs _ a _ j _=>a.off hu j) (f hl fun g ty cs _ a _ _ c=>?_) hq fun y A=>ih y A fun g e=>?_
  ·rcases c with c|c
   ·exact a.off hl c
   ·exact fun e=>c g (hq g e) rfl
  ·obtain⟨ty,cs,a,i,j,c⟩:=m g e;exact⟨ty,cs,a,i,j,c.imp id fun h b r=>h b r.1⟩
theorem TrO.keep {w w':Yh} {Q:Nat->Prop} {x:NV} {t:Tr} (h:TrO w Q x t) (a:Below w.heap.size w w'):TrO w' Q x t:=h.kept (Zd7 a none) fun _ e=>by cases e
theorem TrO.lt {w:Yh} {Q:Nat->Prop} {x:NV} {t:Tr} (h:TrO w Q x t):TrO w (fun b=>Q b/\b<w.heap.size) x t:=by
 induction h with
 |mk i e hm d c hq j g=>exact .mk i e hm d c (fun b a=>⟨hq b a,(c.lt b a).2⟩) fun y f=>(g y f).mono fun b a=>⟨⟨a.1.1,a.2⟩,a.1.2⟩
theorem TrO.shape {w:Yh} {Q:Nat->Prop} {x:NV} {t:Tr} (h:TrO w Q x t):∃A c B d C e,x=(Yc A t.ws.length c,Yc B t.us.length d,Yc C t.ks.length e):=by
 cases h with
 |mk i f hm b a hq g=>
  obtain⟨A,c,rfl⟩:=Zbw f;obtain⟨B,d,rfl⟩:=Zbw b;obtain⟨C,e,rfl⟩:=Zbw a;exact⟨A,c,B,d,C,e,by simp[Tr.ws,Tr.us,Tr.ks]⟩
structure ParS (w0 w:Yh) (bp:Nat) (vL:Yi) (L:List Tok) (s:PS):Prop where
 box:Zh w bp 55 #[vL,Yd Yf (s.at_:Int),Yd Yf s.deep,Yd Yf s.err,Yd Yf s.fat]
 toks:Zcn w0 vL L
 below:Below w0.heap.size w0 w
 ge:w0.heap.size<=bp
 lt:s.at_<L.length
 few:L.length<=100000/\ZW L/\∀t∈L,t.2.1.length<=100000
abbrev Fp (w w':Yh) (a:Nat):Prop:=w.grownBy w' (Ya a)
theorem Fp.refl (w:Yh) (a:Nat):Fp w w a:=⟨rfl,rfl,rfl,Nat.le_refl _,fun _ _ _=>rfl⟩
theorem Fp.trans {w w1 w2:Yh} {a:Nat} (h:Fp w w1 a) (k:Fp w1 w2 a):Fp w w2 a:=
 ⟨k.os.trans h.os,k.tape.trans h.tape,k.output.trans h.output,Nat.le_trans h.size k.size,fun b c hn=>(k.block b (Nat.lt_of_lt_of_le c h.size) hn).trans (h.block b c hn)⟩
theorem Fp.of_below {w w':Yh} (a:Nat) (h:Below w.heap.size w w'):Fp w w' a:=Zd7 h _
theorem Fp.below {a w w':Yh} {b:Nat} (h:Fp w w' b) (c:Below a.heap.size a w) (d:a.heap.size<=b):Below a.heap.size a w':=c.grown h c.size fun k e=>by injection e with e;omega
theorem Fp.tblk {w w':Yh} {a b:Nat} {ty:TypeId} {cs:Array Yi} (h:Fp w w' a) (k:Zh w b ty cs) (hn:b≠a):Zh w' b ty cs:=k.grown h fun e=>hn (by injection e with e;exact e.symm)
theorem ParS.keep {d w w':Yh} {a:Nat} {c:Yi} {L:List Tok} {s:PS} (h:ParS d w a c L s) (b:Below w.heap.size w w'):ParS d w' a c L s:=
 ⟨h.box.keep b,h.toks,h.below.trans (b.mono h.below.size),h.ge,h.lt,h.few⟩
theorem ParS.own {k w w':Yh} {d:Nat} {j:Yi} {L:List Tok} {s:PS} {a b n:Nat} {e:TypeId} {v:Yi} {g:List Yi} (h:ParS k w d j L s) (f:w.ownsRow a e b v n g) (i:Fp w w' d) (c:55≠e):w'.ownsRow a e b v n g:=
 f.kept i (.inr (h.box.off f c))
theorem ParS.tree {f w w':Yh} {a:Nat} {d:Yi} {L:List Tok} {s:PS} {Q:Nat->Prop} {x:NV} {t:Tr} (h:ParS f w a d L s) (c:TrO w Q x t) (b:Fp w w' a):TrO w' Q x t:=
 c.kept b fun g e=>by
  injection e with e;subst e;exact⟨_,_,h.box,by decide,by decide,.inl (by decide)⟩
theorem ParS.tok {n w:Yh} {f:Nat} {d:Yi} {L:List Tok} {s:PS} (h:ParS n w f d L s) {k:Nat} (hk:k<L.length) :
  ∃a c,d=Yc (Ya a) L.length c/\w.cell? (a.add (k*3))=Ya (Yd Yf (Zg L k).1)/\w.cell? (a.add (k*3+1))=Ya (txt (Zg L k).2.1)/\w.cell? (a.add (k*3+2))=Ya (Yd Yf (Zg L k).2.2):=by
 obtain⟨A,c,rfl,_,_,g⟩:=h.toks;obtain⟨a,rfl,i,hc⟩:=g.2 (by omega);have e:L[k]? = Ya (Zg L k):=by unfold Zg;rw[Ym hk];rfl
 obtain⟨t0,m,t2⟩:=Zh8 L k _ e;have b:∀j u,(Zbm L)[j]? = Ya u->w.cell? (a.add j)=Ya u:=fun j u l=>(h.below.cell (p:=a.add j) (by rw[ZbL];exact i)).trans (hc j u l);exact⟨a,c,rfl,b _ _ t0,b _ _ m,b _ _ t2⟩
end
end Go.Proofs.YtfbepcelkijgkaaGreatDoor
