import Derived.Test.YtfbepcelkijgkaaGreatDoorQAC
import Derived.Test.YtfbepcelkijgkaaGreatDoorQAD
import Derived.Test.YtfbepcelkijgkaaGreatDoorQAK
import Derived.Test.YtfbepcelkijgkaaGreatDoorQAL
import Derived.Test.YtfbepcelkijgkaaGreatDoorQAR
set_option maxRecDepth 100000
set_option maxHeartbeats 8000000
open Option renaming some → Ya
open Go.Value renaming slice → Yc, int → Yd
open Go.IntKind renaming i64 → Yf
open Go renaming World → Yh, Value → Yi
namespace Go.Proofs.YtfbepcelkijgkaaGreatDoor
section
section
variable {L:List Tok}
theorem Zki (b:ZaE L) {D:PS->Prop} (hD:Dom L D) {ex:PS->Tr×PS} (hx:Onw L D ex):Onw L D (Za4 L ex):=fun s a=>by
 unfold Za4;by_cases h:isM L [38] s=true
 ·rw[Yo h];have g:=ZR b (hD.lt _ a) h;exact g.then_ (ZA b (g.lt (hD.lt _ a))).toAdv
 ·rw[Yn h];exact hx s a
theorem ZqX (b:ZaE L) {D:PS->Prop} (hD:Dom L D) {ex:PS->Tr×PS} (hx:Onw L D ex) (p:Int):Onw L D (ZcI L ex p):=fun s f=>by
 have a:=ZA b (hD.lt _ f);have e:=a.lt (hD.lt _ f);unfold ZcI;dsimp only
 have d:∀q:PS,Adv L (Zb L s).2 q->Gon L s (Zg L [59] (Zag L (Za4 L ex) (L.length+1) true [] (Zg L [40] q)).2):=fun q hq=>by
  have w:=ZE b [40] (hq.lt e);have i:=hD.next _ _ (hD.next _ _ (hD.next _ _ f a.toAdv) hq) w.toAdv;have c:=ZdX b hD (fun s h=>(Zki b hD hx s h).toAdv) (L.length+1) true [] _ i;exact a.then_ (((hq.trans w.toAdv).trans c).trans (ZE b [59] (c.lt (w.lt (hq.lt e)))).toAdv)
 by_cases h:isM L [61] (Zb L s).2=true
 ·rw[Yo h];have g:=ZR b e h;exact d _ (g.toAdv.trans (ZA b (g.lt e)).toAdv)
 ·rw[Yn h];exact d _ (Adv.refl _)
abbrev Stm (L:List Tok) (f:Nat) (st:PS->Tr×PS):Prop:=∀s,Dp L f s->s.err=0->Gon L s (st s).2
theorem Stm.adv {f:Nat} {st:PS->Tr×PS} (h:Stm L f st):∀s,Dp L f s->s.err=0->Adv L s (st s).2:=fun s a b=>(h s a b).toAdv
theorem ZhD (c:ZaE L) {f:Nat} {st:PS->Tr×PS} (e:Stm L f st) {s:PS} (d:Dp L (f+1) s) (b:s.deep<=200):Gon L s (ZcU L st s).2:=by have a:=ZA c d.lt;exact a.then_ (Zb5 c e.adv ((Zav _).next _ _ d a.toAdv) (by rw[a.deep];exact b)).toAdv
theorem Zab (f:Nat):Dom L (fun s=>Dp L f s/\s.deep<=200):=⟨fun a b h k=>⟨(Zav f).next a b h.1 k,by rw[k.deep];exact h.2⟩,fun a h=>h.1.lt⟩
theorem Zsi (e:ZaE L) {f:Nat} {st:PS->Tr×PS} (l:Stm L f st) (p:Int) {s:PS} (i:Dp L (f+1) s) (g:s.deep<=200):Gon L s (doM L st p s).2:=by
 have a:=ZA e i.lt;have w:=ZE e [46] (a.lt i.lt);have b:=ZA e (w.lt (a.lt i.lt));have k:=b.lt (w.lt (a.lt i.lt));have j:=(a.toAdv.trans w.toAdv).trans b.toAdv;have c:Gon L s (Zb L (Zg L [46] (Zb L s).2)).2:=a.then_ (w.toAdv.trans b.toAdv);unfold doM;dsimp only;by_cases h:isM L [59] (Zb L (Zg L [46] (Zb L s).2)).2=true
 ·rw[Yo h];exact c.then_ (ZR e k h).toAdv
 ·rw[Yn h];have v:=ZE e [123] k;have d:=(Zab (f+1)).next _ _ ⟨i,g⟩ (j.trans v.toAdv);exact c.then_ (v.toAdv.trans (Zdo e (Zab (f+1)) (fun s h _=>(ZhD e l h.1 h.2).toAdv) [125] _ _ _ d))
theorem Zq7 (d:ZaE L) {f:Nat} {ex st:PS->Tr×PS} (hx:Onw L (Dp L (f+1)) ex) (n:Stm L f st) (p:Int) {s:PS} (e:Dp L (f+1) s) (b:s.deep<=200):Gon L s (Zbl L ex st p s).2:=by
 have D:=Zab (L:=L) (f+1);have X:∀q,Dp L (f+1) q/\q.deep<=200->Adv L q (ex q).2:=fun q h=>(hx q h.1).toAdv;have B:∀q,Dp L (f+1) q/\q.deep<=200->Adv L q (Zau L st q).2:=fun q h=>(Zb5 d n.adv h.1 h.2).toAdv;unfold Zbl;by_cases j:isM L [105,102] s=true
 ·rw[Yo j];have g:=ZR d e.lt j;have a:=D.next _ _ ⟨e,b⟩ g.toAdv;have c:=D.next _ _ a (X _ a);have m:=D.next _ _ c (B _ c);dsimp only;by_cases i:isM L [101,108,115,101] (Zau L st (ex (Zd s)).2).2=true
  ·rw[Yo i];have k:=ZR d m.1.lt i;exact g.then_ ((((X _ a).trans (B _ c)).trans k.toAdv).trans (B _ (D.next _ _ m k.toAdv)))
  ·rw[Yn i];exact g.then_ ((X _ a).trans (B _ c))
 rw[Yn j];by_cases i:isM L [119,104,105,108,101] s=true
 ·rw[Yo i];have g:=ZR d e.lt i;have a:=D.next _ _ ⟨e,b⟩ g.toAdv;have c:=D.next _ _ a (X _ a);exact g.then_ ((X _ a).trans (B _ c))
 rw[Yn i];by_cases l:isM L [114,101,116,117,114,110] s=true
 ·rw[Yo l];have g:=ZR d e.lt l;have a:=D.next _ _ ⟨e,b⟩ g.toAdv;have c:=D.next _ _ a (X _ a);exact g.then_ ((X _ a).trans (ZE d [59] c.1.lt).toAdv)
 rw[Yn l];have w:=ZE d [101,120,105,116] e.lt;exact w.then_ (ZE d [59] (w.lt e.lt)).toAdv
theorem Zqr (a:ZaE L) {f:Nat} {st:PS->Tr×PS} (w:Stm L f st) (p:Int) {s:PS} (v:Dp L (f+1) s) (b:s.deep<=200):Gon L s (Ze9 L st p s).2:=by have D:=Zab (L:=L) (f+1);unfold Ze9;dsimp only;have g:=ZA a v.lt;have c:=D.next _ _ ⟨v,b⟩ g.toAdv;have m:=ZE a [61] c.1.lt;have d:=D.next _ _ c m.toAdv;have n:=ZA a d.1.lt;have e:=D.next _ _ d n.toAdv;have o:=ZfA a (Zx 1) e.1.lt;have h:=D.next _ _ e o.toAdv;have q:=ZdA a 1 h.1.lt;have i:=D.next _ _ h q.toAdv;have r:=ZE a [47] i.1.lt;have j:=D.next _ _ i r.toAdv;have t:=ZdA a 1 j.1.lt;have k:=D.next _ _ j t.toAdv;have u:=Zc0 a [105,110] 2 k.1.lt;have l:=D.next _ _ k u;exact g.then_ (m.toAdv.trans (n.toAdv.trans (o.toAdv.trans (q.toAdv.trans (r.toAdv.trans (t.toAdv.trans (u.trans (Zb5 a w.adv l.1 l.2).toAdv)))))))
theorem ZhM (b:ZaE L) {ex:PS->Tr×PS} (hx:∀f,Onw L (Dp L (f+1)) ex):∀f,Stm L f (Zu L ex f)
 |0,s,hs,e=>by have:=hs.fuel e;omega
 |f+1,s,hs,e=>by
  have D:=Zab (L:=L) (f+1);have a:=(hs.fuel e).1;have m:=ZhM b hx f;unfold Zu;dsimp only;by_cases n:isM L [108,101,116] s=true
  ·rw[Yo n];have g:=ZR b hs.lt n;have c:=D.next _ _ ⟨hs,a⟩ g.toAdv;have i:=ZA b c.1.lt;have h:=D.next _ _ c i.toAdv;have j:=ZE b [61] h.1.lt;have d:=D.next _ _ h j.toAdv;have k:=hx f _ d.1;have l:=D.next _ _ d k.toAdv;exact g.then_ (i.toAdv.trans (j.toAdv.trans (k.toAdv.trans (ZE b [59] l.1.lt).toAdv)))
  rw[Yn n];by_cases v:Zbb L s=true
  ·rw[Yo v];have i:=ZA b hs.lt;have h:=D.next _ _ ⟨hs,a⟩ i.toAdv;have j:=ZE b [61] h.1.lt;have d:=D.next _ _ h j.toAdv;have k:=hx f _ d.1;have l:=D.next _ _ d k.toAdv;exact i.then_ (j.toAdv.trans (k.toAdv.trans (ZE b [59] l.1.lt).toAdv))
  rw[Yn v];by_cases o:isM L [111,112,101,110] s=true
  ·rw[Yo o];have g:=ZR b hs.lt o;have c:=D.next _ _ ⟨hs,a⟩ g.toAdv;have i:=ZA b c.1.lt;have h:=D.next _ _ c i.toAdv;have j:=ZA b h.1.lt;have d:=D.next _ _ h j.toAdv;have k:=Zb5 b m.adv d.1 d.2;have l:=D.next _ _ d k.toAdv;have u:=ZE b [101,108,115,101] l.1.lt;have t:=D.next _ _ l u.toAdv;exact g.then_ (i.toAdv.trans (j.toAdv.trans (k.toAdv.trans (u.toAdv.trans (Zb5 b m.adv t.1 t.2).toAdv))))
  rw[Yn o];by_cases p:isM L [100,111] s=true
  ·rw[Yo p];have g:=ZR b hs.lt p;have c:=D.next _ _ ⟨hs,a⟩ g.toAdv;exact g.then_ (Zsi b m _ c.1 c.2).toAdv
  rw[Yn p];by_cases q:isM L [115,112,108,105,116] s=true
  ·rw[Yo q];have g:=ZR b hs.lt q;have c:=D.next _ _ ⟨hs,a⟩ g.toAdv;exact g.then_ (Zqr b m _ c.1 c.2).toAdv
  rw[Yn q];by_cases r:isM L [99,97,108,108] s=true
  ·rw[Yo r];have g:=ZR b hs.lt r;have c:=D.next _ _ ⟨hs,a⟩ g.toAdv;exact g.then_ (ZqX b (Zav _) (hx f) _ _ c.1).toAdv
  rw[Yn r];exact Zq7 b (hx f) m _ hs a
theorem Zj0 (c:ZaE L):∀(f:Nat) (l:List Txt) {s:PS},s.at_<L.length->Adv L s (ZdC L f l s).2
 |0,_,s,_=>Adv.refl s
 |f+1,l,s,hs=>by
  unfold ZdC;by_cases d:s.err=0
  ·rw[Yo d];have a:=ZA c hs;have b:=ZA c (a.lt hs);have e:=b.lt (a.lt hs);dsimp only;by_cases h:isM L [44] (Zb L (Zb L s).2).2=true
   ·rw[Yo h];have g:=ZR c e h;exact(a.toAdv.trans b.toAdv).trans (g.toAdv.trans (Zj0 c f _ (g.lt e)))
   ·rw[Yn h];exact a.toAdv.trans b.toAdv
  ·rw[Yn d];exact Adv.refl s
theorem part_go (c:ZaE L) {s:PS} (d:s.at_<L.length):Gon L s (Zbs L s).2:=by
 unfold Zbs;dsimp only;by_cases e:isM L [115,116,97,116,101] s=true
 ·rw[Yo e];have g:=ZR c d e;have n:=ZA c (g.lt d);exact g.then_ (n.toAdv.trans (ZE c [59] (n.lt (g.lt d))).toAdv)
 rw[Yn e];by_cases f:isM L [102,105,110,97,108] s=true
 ·rw[Yo f];have g:=ZR c d f;have n:=ZA c (g.lt d);exact g.then_ (n.toAdv.trans (ZE c [59] (n.lt (g.lt d))).toAdv)
 rw[Yn f];have g:=ZE c [111,112] d;have h:=g.lt d;have a:=ZA c h;have i:=a.lt h;have b:=ZA c i;have j:=b.lt i;have w:=ZE c [45,62] j;have k:=w.lt j;have x:=Zj0 c (L.length+1) [(Zb L (Zg L [111,112] s)).1,(Zb L (Zb L (Zg L [111,112] s)).2).1] k;exact g.then_ (a.toAdv.trans (b.toAdv.trans (w.toAdv.trans (x.trans (ZE c [59] (x.lt k)).toAdv))))
theorem Zif (c:ZaE L) {s:PS} (d:s.at_<L.length):Gon L s (ZbX L s).2:=by
 have D:Dom L (fun s=>s.at_<L.length):=⟨fun a b h k=>k.lt h,fun a h=>h⟩
 unfold ZbX;dsimp only;have g:=ZE c [112,114,111,116,111] d;have a:=ZA c (g.lt d);have w:=ZE c [123] (a.lt (g.lt d));exact g.then_ (a.toAdv.trans (w.toAdv.trans (Zdo c D (fun s h _=>(part_go c h).toAdv) [125] _ _ _ (w.lt (a.lt (g.lt d))))))
theorem Zej (c:ZaE L) {s:PS} (m:s.at_<L.length):Gon L s (ZaO L s).2:=by
 unfold ZaO;dsimp only;have a:=ZA c m;have l:=a.lt m;by_cases h:isM L [58] (Zb L s).2=true
 ·rw[Yo h];have g:=ZR c l h;have b:=ZA c (g.lt l);have o:=b.lt (g.lt l);have k:=ZfA c (Zx 0) o;have f:=k.lt o
  have i:∀q:PS,Adv L (ZN L (Zx 0) (Zb L (Zd (Zb L s).2)).2).2 q->Gon L s (ZK L [105,110] 2 (ZK L [116,111] 1 (ZK L [97,116] 0 q).2).2).2:=fun q hq=>by
   have x:=Zc0 c [97,116] 0 (hq.lt f);have y:=Zc0 c [116,111] 1 (x.lt (hq.lt f));have z:=Zc0 c [105,110] 2 (y.lt (x.lt (hq.lt f)));exact a.then_ (g.toAdv.trans (b.toAdv.trans (k.toAdv.trans (hq.trans (x.trans (y.trans z))))))
  by_cases j:isM L [108,101,97,115,116] (ZN L (Zx 0) (Zb L (Zd (Zb L s).2)).2).2=true
  ·rw[Yo j];have e:=ZR c f j;have n:=ZdA c 1 (e.lt f);have w:=ZE c [47] (n.lt (e.lt f));have d:=ZdA c 1 (w.lt (n.lt (e.lt f)));exact i _ (e.toAdv.trans (n.toAdv.trans (w.toAdv.trans d.toAdv)))
  ·rw[Yn j];exact i _ (Adv.refl _)
 ·rw[Yn h];exact a
theorem Zm3 (a:ZaE L) {f:Nat} {ex st:PS->Tr×PS} (n:Stm L f st) {s:PS} (m:Dp L (f+1) s) (b:s.deep<=200):Gon L s (fnM L ex st s).2:=by have D:=Zab (L:=L) (f+1);unfold fnM;dsimp only;have g:=ZE a [102,110] m.lt;have c:=D.next _ _ ⟨m,b⟩ g.toAdv;have j:=ZA a c.1.lt;have d:=D.next _ _ c j.toAdv;have k:=ZE a [40] d.1.lt;have e:=D.next _ _ d k.toAdv;have l:=ZdX a D (fun s h=>(Zej a h.1.lt).toAdv) (L.length+1) true [] _ e;have i:=D.next _ _ e l;exact g.then_ (j.toAdv.trans (k.toAdv.trans (l.trans (Zb5 a n.adv i.1 i.2).toAdv)))
end
end
section
open Go.RowKit
def Zee (l:List UInt8):List Tok×Int×Nat:=
 if 6000<l.length then([],13,0)else match Zby l 0 with
  |.bad a=>([],10,a)
  |.ok b=>(b,0,0)
def Zkb (w:Yh) (r:List Tok×Int×Nat) (e:Ending) (w':Yh):Prop:=
 ∃A c,e=.returned (.tuple #[Yc A r.1.length c,.agg #[Yd Yf r.2.1,Yd Yf r.2.2]])/\Zb4 w' (Yc A r.1.length c) r.1/\Below w.heap.size w w'
theorem ZnB {l:List UInt8} (h:6000<l.length):Zee l=([],13,0):=Yo h
theorem ZnA {l:List UInt8} {a:Nat} (h:l.length<=6000) (q:Zby l 0=.bad a):Zee l=([],10,a):=by unfold Zee;rw[Yn (by omega),q]
theorem ZjL {l:List UInt8} {ts:List Tok} (h:l.length<=6000) (q:Zby l 0=.ok ts):Zee l=(ts,0,0):=by unfold Zee;rw[Yn (by omega),q]
theorem Zrs {w:Yh} {s:ByteArray} {e:Ending} {w':Yh} (h:s.size<=6000) (b:Zn4 w (Zby s.data.toList 0) e w'):Zkb w (Zee s.data.toList) e w':=by
 have c:s.data.toList.length<=6000:=by rw[ZcZ];exact h
 cases q:Zby s.data.toList 0 with
 |bad a=>
  rw[q]at b;rw[ZnA c q];exact⟨none,0,b.1,Zb4.nil _,b.2⟩
 |ok d=>
  rw[q]at b;rw[ZjL c q];exact b
theorem Zrr {w:Yh} {s:ByteArray} {e:Ending} {w':Yh} (h:6000<s.size) (a:e=.returned (.tuple #[Yc none 0 0,.agg #[Yd Yf 13,Yd Yf 0]])/\Below w.heap.size w w'):Zkb w (Zee s.data.toList) e w':=by rw[ZnB (by rw[ZcZ];exact h)];exact⟨none,0,a.1,Zb4.nil _,a.2⟩
theorem ZlZ (s:ByteArray) (w:Yh):Calls Tryz.prog 19 #[.string s] w (Zkb w (Zee s.data.toList)):=by
 by_cases h:s.size<=6000
 ·exact(ZlX s w h).mono fun _ _ a=>Zrs h a
 ·exact(ZlY s w (by omega)).mono fun _ _ a=>Zrr (by omega) a
theorem Zkd (a:Addr) (k j:Nat):a.add (k+(j+1))=⟨(a.add k).block,(a.add k).off+(j+1),none⟩:=by
 unfold Addr.add
 split<;>split<;>simp_all<;>omega
end
section
open Go.RowKit
def Tr.kd:Tr->Int|.mk k _ _ _ _=>k
def Tr.ws:Tr->List Txt|.mk _ w _ _ _=>w
def Tr.us:Tr->List Int|.mk _ _ u _ _=>u
def Tr.ps:Tr->Int|.mk _ _ _ p _=>p
def Tr.ks:Tr->List Tr|.mk _ _ _ _ k=>k
abbrev NV:=Yi×Yi×Yi
abbrev ZbF (x:NV×Tr):Yi:=.agg #[Yd Yf x.2.kd,x.1.1,x.1.2.1,Yc none 0 0,Yd Yf x.2.ps,x.1.2.2]
def ZaS:List (NV×Tr)->List Yi
 |[]=>[]
 |x::r=>Yd Yf x.2.kd::x.1.1::x.1.2.1::Yc none 0 0::Yd Yf x.2.ps::x.1.2.2::ZaS r
theorem Zed:∀l,(ZaS l).length=l.length*6
 |[]=>rfl
 |x::r=>by simp only[ZaS,Yk,Zed r];omega
theorem ZgT:∀(l m:List (NV×Tr)),ZaS (l++m)=ZaS l++ZaS m
 |[],m=>rfl
 |x::r,m=>by rw[List.cons_append,ZaS,ZaS,ZgT r m];rfl
theorem ZjD:∀(l:List (NV×Tr)) (k:Nat) (x:NV×Tr),l[k]? = Ya x->(ZaS l)[k*6]? = Ya (Yd Yf x.2.kd)/\(ZaS l)[k*6+1]? = Ya x.1.1/\(ZaS l)[k*6+2]? = Ya x.1.2.1/\(ZaS l)[k*6+3]? = Ya (Yc none 0 0)/\(ZaS l)[k*6+4]? = Ya (Yd Yf x.2.ps)/\(ZaS l)[k*6+5]? = Ya x.1.2.2
 |[],k,x,h=>by simp at h
 |y::r,0,x,h=>by
  obtain rfl:y=x:=by simpa using h
  exact⟨rfl,rfl,rfl,rfl,rfl,rfl⟩
 |y::r,k+1,x,h=>by
  rw[List.getElem?_cons_succ]at h;obtain⟨a,b,c,d,e,f⟩:=ZjD r k x h
  have q:∀j,(ZaS (y::r))[(k+1)*6+j]? = (ZaS r)[k*6+j]?:=fun j=>by
   rw[show(k+1)*6+j=(k*6+j)+1+1+1+1+1+1 by omega];rfl
  exact⟨(q 0).trans a,(q 1).trans b,(q 2).trans c,(q 3).trans d,(q 4).trans e,(q 5).trans f⟩
inductive TrO (w:Yh):(Nat->Prop)->NV->Tr->Prop where
 |mk {Q:Nat->Prop} {wv uv lv:Yi} {k p:Int} {ws:List Txt} {us:List Int} (vs:List (NV×Tr)) (hw:w.ownsRow 0 9 1 wv ws.length (ws.map txt)) (hm:∀s∈ws,s.length<=maxLen) (hu:w.ownsRow 0 2 1 uv us.length (us.map (Value.int Yf)))
  (hl:w.ownsRow 0 58 6 lv vs.length (ZaS vs)) (hq:∀b,lv.ownBlock=Ya b->Q b) (he:∀x∈vs,TrO w (fun b=>Q b/\lv.ownBlock≠Ya b) x.1 x.2):TrO w Q (wv,uv,lv) (.mk k ws us p (vs.map (·.2)))
theorem TrO.mono {w:Yh} {Q:Nat->Prop} {x:NV} {t:Tr} (h:TrO w Q x t):∀{R:Nat->Prop},(∀b,Q b->R b)->TrO w R x t:=by
 induction h with
 |mk j f hm e d hq k i=>exact fun c=>.mk j f hm e d (fun b a=>c b (hq b a)) fun y g=>i y g fun b a=>⟨c b a.1,a.2⟩
theorem TrO.kept {w w':Yh} {row:Option Nat} (s:w.grownBy w' row) {Q:Nat->Prop} {x:NV} {t:Tr} (h:TrO w Q x t):(∀g,row=Ya g->∃ty cs,Zk w g ty cs/\ty≠9/\ty≠2/\(ty≠58\/∀b,Q b->b≠g))->TrO w' Q x t:=by
 induction h with
 |@mk Q wv uv lv k p ws us vs hw hm hu hl hq he ih=>
  intro m
  have f:∀{e:TypeId} {d n:Nat} {v:Yi} {o:List Yi},w.ownsRow 0 e d v n o->(∀g ty cs,row=Ya g->Zk w g ty cs->ty≠9->ty≠2->(ty≠58\/∀b,Q b->b≠g)->v.ownBlock≠Ya g)->w'.ownsRow 0 e d v n o:=fun u l=>u.kept s (by
   cases q:row with
   |none=>cases z:Value.ownBlock _ with
    |none=>exact .inl rfl
    |some b=>exact .inr (by simp)
   |some g=>
    obtain⟨ty,cs,a,i,j,c⟩:=m g q
    exact .inr (l g ty cs q a i j c))
  refine .mk vs (f hw fun g ty cs _ a i _ _=>a.off hw i) hm (f hu fun g ty cs _ a _ j _=>a.off hu j) (f hl fun g ty cs _ a _ _ c=>?_) hq fun y A=>ih y A fun g e=>?_
  ·rcases c with c|c
   ·exact a.off hl c
   ·exact fun e=>c g (hq g e) rfl
  ·obtain⟨ty,cs,a,i,j,c⟩:=m g e;exact⟨ty,cs,a,i,j,c.imp id fun h b r=>h b r.1⟩
theorem TrO.keep {w w':Yh} {Q:Nat->Prop} {x:NV} {t:Tr} (h:TrO w Q x t) (a:Below w.heap.size w w'):TrO w' Q x t:=h.kept (ZdY a none) fun _ e=>by cases e
theorem TrO.lt {w:Yh} {Q:Nat->Prop} {x:NV} {t:Tr} (h:TrO w Q x t):TrO w (fun b=>Q b/\b<w.heap.size) x t:=by
 induction h with
 |mk i e hm d c hq j g=>exact .mk i e hm d c (fun b a=>⟨hq b a,(c.lt b a).2⟩) fun y f=>(g y f).mono fun b a=>⟨⟨a.1.1,a.2⟩,a.1.2⟩
theorem TrO.shape {w:Yh} {Q:Nat->Prop} {x:NV} {t:Tr} (h:TrO w Q x t):∃A c B d C e,x=(Yc A t.ws.length c,Yc B t.us.length d,Yc C t.ks.length e):=by
 cases h with
 |mk i f hm b a hq g=>
  obtain⟨A,c,rfl⟩:=Zbj f;obtain⟨B,d,rfl⟩:=Zbj b;obtain⟨C,e,rfl⟩:=Zbj a;exact⟨A,c,B,d,C,e,by simp[Tr.ws,Tr.us,Tr.ks]⟩
structure ParS (w0 w:Yh) (bp:Nat) (vL:Yi) (L:List Tok) (s:PS):Prop where
 box:Zk w bp 55 #[vL,Yd Yf (s.at_:Int),Yd Yf s.deep,Yd Yf s.err,Yd Yf s.fat]
 toks:Zb4 w0 vL L
 below:Below w0.heap.size w0 w
 ge:w0.heap.size<=bp
 lt:s.at_<L.length
 few:L.length<=100000/\ZaE L/\∀t∈L,t.2.1.length<=100000
abbrev Fp (w w':Yh) (a:Nat):Prop:=w.grownBy w' (Ya a)
theorem Fp.refl (w:Yh) (a:Nat):Fp w w a:=⟨rfl,rfl,rfl,Nat.le_refl _,fun _ _ _=>rfl⟩
theorem Fp.trans {w w1 w2:Yh} {a:Nat} (h:Fp w w1 a) (k:Fp w1 w2 a):Fp w w2 a:=
 ⟨k.os.trans h.os,k.tape.trans h.tape,k.output.trans h.output,Nat.le_trans h.size k.size,fun b c d=>(k.block b (Nat.lt_of_lt_of_le c h.size) d).trans (h.block b c d)⟩
theorem Fp.of_below {w w':Yh} (a:Nat) (h:Below w.heap.size w w'):Fp w w' a:=ZdY h _
theorem Fp.below {a w w':Yh} {b:Nat} (h:Fp w w' b) (c:Below a.heap.size a w) (d:a.heap.size<=b):Below a.heap.size a w':=c.grown h c.size fun k e=>by injection e with e;omega
theorem Fp.tblk {w w':Yh} {a b:Nat} {ty:TypeId} {cs:Array Yi} (h:Fp w w' a) (k:Zk w b ty cs) (c:b≠a):Zk w' b ty cs:=k.grown h fun e=>c (by injection e with e;exact e.symm)
theorem ParS.keep {d w w':Yh} {a:Nat} {c:Yi} {L:List Tok} {s:PS} (h:ParS d w a c L s) (b:Below w.heap.size w w'):ParS d w' a c L s:=
 ⟨h.box.keep b,h.toks,h.below.trans (b.mono h.below.size),h.ge,h.lt,h.few⟩
theorem ParS.own {k w w':Yh} {d:Nat} {j:Yi} {L:List Tok} {s:PS} {a b n:Nat} {e:TypeId} {v:Yi} {g:List Yi} (h:ParS k w d j L s) (f:w.ownsRow a e b v n g) (i:Fp w w' d) (c:55≠e):w'.ownsRow a e b v n g:=
 f.kept i (.inr (h.box.off f c))
theorem ParS.tree {f w w':Yh} {a:Nat} {d:Yi} {L:List Tok} {s:PS} {Q:Nat->Prop} {x:NV} {t:Tr} (h:ParS f w a d L s) (c:TrO w Q x t) (b:Fp w w' a):TrO w' Q x t:=
 c.kept b fun g e=>by
  injection e with e;subst e;exact⟨_,_,h.box,by decide,by decide,.inl (by decide)⟩
theorem ParS.tok {n w:Yh} {f:Nat} {d:Yi} {L:List Tok} {s:PS} (h:ParS n w f d L s) {k:Nat} (hk:k<L.length) :
  ∃a c,d=Yc (Ya a) L.length c/\w.cell? (a.add (k*3))=Ya (Yd Yf (Zl L k).1)/\w.cell? (a.add (k*3+1))=Ya (txt (Zl L k).2.1)/\w.cell? (a.add (k*3+2))=Ya (Yd Yf (Zl L k).2.2):=by
 obtain⟨A,c,rfl,_,_,g⟩:=h.toks;obtain⟨a,rfl,i,hc⟩:=g.2 (by omega);have e:L[k]? = Ya (Zl L k):=by unfold Zl;rw[Ym hk];rfl
 obtain⟨t0,m,t2⟩:=ZhT L k _ e;have b:∀j u,(Zbh L)[j]? = Ya u->w.cell? (a.add j)=Ya u:=fun j u l=>(h.below.cell (p:=a.add j) (by rw[Zbf];exact i)).trans (hc j u l);exact⟨a,c,rfl,b _ _ t0,b _ _ m,b _ _ t2⟩
end
end Go.Proofs.YtfbepcelkijgkaaGreatDoor
