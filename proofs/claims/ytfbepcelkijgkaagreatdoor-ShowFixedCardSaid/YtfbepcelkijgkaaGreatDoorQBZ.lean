import Derived.Test.YtfbepcelkijgkaaGreatDoorQBN
import Derived.Test.YtfbepcelkijgkaaGreatDoorQBO
import Derived.Test.YtfbepcelkijgkaaGreatDoorQBP
import Derived.Test.YtfbepcelkijgkaaGreatDoorQBQ
import Derived.Test.YtfbepcelkijgkaaGreatDoorQBX
import Derived.Test.YtfbepcelkijgkaaGreatDoorQBY
set_option maxRecDepth 100000
set_option maxHeartbeats 8000000
open Option renaming some → Ya, none → Yb
open Go.Value renaming slice → Yc, int → Yd
open Go.IntKind renaming i64 → Yf
open Go.Obj renaming cells → Yg
open Go renaming World → Yh
namespace Go.Proofs.YtfbepcelkijgkaaGreatDoor
section
section
variable {L:List Tok}
theorem Zr3 {D:PS->Prop} {ex:PS->Tr×PS} (a:VeM D ex):∀s,D s->(ZaS L ex s).2.err=0->VT (ZaS L ex s).1/\Zed (ZaS L ex s).1.kd=true:=fun s hs e=>by
 unfold ZaS at e⊢;by_cases h:isM L [38] s=true
 ·rw[Yo h]at e⊢;exact⟨ZbV (Zbs s) (Zfy (ZaW e)) rfl rfl Zdz,rfl⟩
 ·rw[Yn h]at e⊢;have:=a s hs e;exact⟨this.1,by unfold Zed;rw[this.2,Bool.or_true]⟩
theorem Zrb (b:ZW L) {D:PS->Prop} (hD:Dom L D) {ex:PS->Tr×PS} (hx:Onw L D ex) (u:VeM D ex) {p:Int} (o:0<=p):∀s,D s->(ZcA L ex p s).2.err=0->VT (ZcA L ex p s).1/\ZcJ (ZcA L ex p s).1.kd=true:=fun s hs e=>by
 have a:=Zo b (hD.lt _ hs);have j:=a.lt (hD.lt _ hs)
 have i:∀q:PS,Adv L (Zb L s).2 q->(Zf L [59] (ZT L (ZaS L ex) (L.length+1) true [] (Zf L [40] q)).2).err=0->q.err=0/\(Zb L s).2.err=0/\∀t∈(ZT L (ZaS L ex) (L.length+1) true [] (Zf L [40] q)).1,VT t/\Zed t.kd=true:=fun q hq e=>by
  have w:=Zq b [40] (hq.lt j);have l:=hD.next _ _ (hD.next _ _ (hD.next _ _ hs a.toAdv) hq) w.toAdv;have c:=Zc4 b hD (fun s h=>(Zhk b hD hx s h).toAdv) (L.length+1) true [] _ l;have v:=Zq b [59] (c.lt (w.lt (hq.lt j)));have m:=v.toAdv.err e;have n:=w.toAdv.err (c.err m);exact⟨n,hq.err n,Zhq b hD (G:=fun t=>VT t/\Zed t.kd=true) (fun s h=>(Zhk b hD hx s h).toAdv) (Zr3 u) (L.length+1) true [] _ l (fun t d=>by simp at d) m⟩
 unfold ZcA at e⊢;dsimp only at e⊢;by_cases h:isM L [61] (Zb L s).2=true
 ·rw[Yo h]at e⊢;have g:=ZA b j h;obtain⟨r,k,f⟩:=i _ (g.toAdv.trans (Zo b (g.lt j)).toAdv) e;refine⟨ZbV o (Zip (ZaW r) (ZaW k)) rfl ?_ (Ze2 fun t d=>(f t d).1),rfl⟩;have:=Zf4 fun t d=>(f t d).2;simp[Zbe,Zbr,this]
 ·rw[Yn h]at e⊢;obtain⟨r,k,f⟩:=i _ (Adv.refl _) e;refine⟨ZbV o (Zfy (ZaW k)) rfl ?_ (Ze2 fun t d=>(f t d).1),rfl⟩;have:=Zf4 fun t d=>(f t d).2;simp[Zbe,Zbr,this]
abbrev Zic (L:List Tok) (f:Nat) (st:PS->Tr×PS):Prop:=∀s,Dp L f s->s.err=0->(st s).2.err=0->VT (st s).1/\ZcJ (st s).1.kd=true
theorem Zrd (g:ZW L) {f:Nat} {st:PS->Tr×PS} (i:Stm L f st) (l:Zic L f st) {s:PS} (hs:Dp L (f+1) s) (c:s.deep<=200) (e:(ZcQ L st s).2.err=0):VT (ZcQ L st s).1/\isB [12] (ZcQ L st s).1.kd=true:=by
 have a:=Zo g hs.lt;have d:=(ZX (f+1)).next _ _ hs a.toAdv;have h:(Zb L s).2.deep<=200:=by rw[a.deep];exact c
 have b:=ZdF g i.adv l d h e;have j:=(Zbx g i.adv d h).toAdv.err e;unfold ZcQ;dsimp only;refine⟨ZbV (Zbs s) (Zfy (ZaW j)) rfl ?_ (Zfb b.1),rfl⟩;have k:=b.2;simp[Zbe,Zbr,Zbq,isB,k]
theorem Zsr (d:ZW L) {f:Nat} {st:PS->Tr×PS} (o:Stm L f st) (z:Zic L f st) {p:Int} (k:0<=p) {s:PS} (hs:Dp L (f+1) s) (j:s.deep<=200) (e:(doM L st p s).2.err=0):VT (doM L st p s).1/\ZcJ (doM L st p s).1.kd=true:=by
 have D:=ZQ (L:=L) (f+1);have a:=Zo d hs.lt;have q:=D.next _ _ ⟨hs,j⟩ a.toAdv;have w:=Zq d [46] q.1.lt;have r:=D.next _ _ q w.toAdv;have b:=Zo d r.1.lt;have m:=D.next _ _ r b.toAdv;unfold doM at e⊢;dsimp only at e⊢;by_cases h:isM L [59] (Zb L (Zf L [46] (Zb L s).2)).2=true
 ·rw[Yo h]at e⊢;have g:=ZA d m.1.lt h;have i:=g.toAdv.err e;have n:=w.toAdv.err (b.toAdv.err i);exact⟨ZbV k (Zip (ZaW n) (ZaW i)) rfl rfl Zdz,rfl⟩
 ·rw[Yn h]at e⊢;have v:=Zq d [123] m.1.lt;have u:=D.next _ _ m v.toAdv;have c:=ZcV d D (fun s h _=>(ZfP d o h.1 h.2).toAdv) [125] (L.length+1) [] _ u;have y:=Zhd d D (G:=fun t=>VT t/\isB [12] t.kd=true) (fun s h _=>(ZfP d o h.1 h.2).toAdv) (fun s h _ e=>Zrd d o z h.1 h.2 e) [125] (L.length+1) [] _ u (fun t l=>by simp at l) e;have i:=v.toAdv.err (c.err e);have n:=w.toAdv.err (b.toAdv.err i);refine⟨ZbV k (Zip (ZaW n) (ZaW i)) rfl ?_ (Ze2 fun t l=>(y t l).1),rfl⟩;have:=Zf4 fun t l=>(y t l).2;simp[Zbe,Zbr,this]
theorem Zro (i:ZW L) {f:Nat} {ex st:PS->Tr×PS} (hx:Onw L (Dp L (f+1)) ex) (j:VeM (Dp L (f+1)) ex) (n:Stm L f st) (r:Zic L f st) {p:Int} (d:0<=p) {s:PS} (hs:Dp L (f+1) s) (c:s.deep<=200) (e:(Zbb L ex st p s).2.err=0):VT (Zbb L ex st p s).1/\ZcJ (Zbb L ex st p s).1.kd=true:=by
 have D:=ZQ (L:=L) (f+1);have X:∀q,Dp L (f+1) q/\q.deep<=200->Adv L q (ex q).2:=fun q h=>(hx q h.1).toAdv;have B:∀q,Dp L (f+1) q/\q.deep<=200->Adv L q (Zaf L st q).2:=fun q h=>(Zbx i n.adv h.1 h.2).toAdv;unfold Zbb at e⊢;by_cases u:isM L [105,102] s=true
 ·rw[Yo u]at e⊢;have g:=ZA i hs.lt u;have b:=D.next _ _ ⟨hs,c⟩ g.toAdv;have a:=D.next _ _ b (X _ b);have y:=D.next _ _ a (B _ a);dsimp only at e⊢;by_cases l:isM L [101,108,115,101] (Zaf L st (ex (Zd s)).2).2=true
  ·rw[Yo l]at e⊢;have k:=ZA i y.1.lt l;have t:=D.next _ _ y k.toAdv;have A:=(B _ t).err e;have z:=k.toAdv.err A;have z4:=ZdF i n.adv r t.1 t.2 e;have z3:=ZdF i n.adv r a.1 a.2 z;have z2:=j _ b.1 ((B _ a).err z);refine⟨ZbV d rfl rfl ?_ (ZpG z2.1 z3.1 z4.1),rfl⟩;have m:=z2.2;have o:=z3.2;have C:=z4.2;simp[Zbe,Zbr,Zbq,isB,m,o,C]
  ·rw[Yn l]at e⊢;have z3:=ZdF i n.adv r a.1 a.2 e;have z2:=j _ b.1 ((B _ a).err e);refine⟨ZbV d rfl rfl ?_ (ZfW z2.1 z3.1),rfl⟩;have m:=z2.2;have o:=z3.2;simp[Zbe,Zbr,Zbq,isB,m,o]
 rw[Yn u]at e⊢;by_cases l:isM L [119,104,105,108,101] s=true
 ·rw[Yo l]at e⊢;have g:=ZA i hs.lt l;have b:=D.next _ _ ⟨hs,c⟩ g.toAdv;have a:=D.next _ _ b (X _ b);have z3:=ZdF i n.adv r a.1 a.2 e;have z2:=j _ b.1 ((B _ a).err e);refine⟨ZbV d rfl rfl ?_ (ZfW z2.1 z3.1),rfl⟩;have m:=z2.2;have o:=z3.2;simp[Zbe,Zbr,Zbq,isB,m,o]
 rw[Yn l]at e⊢;by_cases v:isM L [114,101,116,117,114,110] s=true
 ·rw[Yo v]at e⊢;have g:=ZA i hs.lt v;have b:=D.next _ _ ⟨hs,c⟩ g.toAdv;have a:=D.next _ _ b (X _ b);have w:=Zq i [59] a.1.lt;have z2:=j _ b.1 (w.toAdv.err e);refine⟨ZbV d rfl rfl ?_ (Zfb z2.1),rfl⟩;have m:=z2.2;simp[Zbe,Zbr,Zbq,m]
 rw[Yn v]at e⊢;exact⟨ZbV d rfl rfl rfl Zdz,rfl⟩
theorem ZqG (c:ZW L) (l:Zdw L) {f:Nat} {st:PS->Tr×PS} (P:Stm L f st) (U:Zic L f st) {p:Int} (m:0<=p) {s:PS} (hs:Dp L (f+1) s) (h:s.deep<=200) (e:(ZdQ L st p s).2.err=0):VT (ZdQ L st p s).1/\ZcJ (ZdQ L st p s).1.kd=true:=by
 have D:=ZQ (L:=L) (f+1);unfold ZdQ at e⊢;dsimp only at e⊢;have g:=Zo c hs.lt;have o:=D.next _ _ ⟨hs,h⟩ g.toAdv;have E:=Zq c [61] o.1.lt;have q:=D.next _ _ o E.toAdv;have F:=Zo c q.1.lt;have r:=D.next _ _ q F.toAdv;have G:=ZeG c (Zr 1) r.1.lt;have u:=D.next _ _ r G.toAdv;have H:=Zc2 c 1 u.1.lt;have v:=D.next _ _ u H.toAdv;have I:=Zq c [47] v.1.lt;have w:=D.next _ _ v I.toAdv;have J:=Zc2 c 1 w.1.lt;have k:=D.next _ _ w J.toAdv;have M:=Zcs c [105,110] 2 k.1.lt;have j:=D.next _ _ k M;have z9:=ZdF c P.adv U j.1 j.2 e;have C:=(Zbx c P.adv j.1 j.2).toAdv.err e;have B:=M.err C;have A:=I.toAdv.err (J.toAdv.err B);have z:=H.toAdv.err A;have y:=G.toAdv.err z;have e1:=E.toAdv.err (F.toAdv.err y);have S:=ZhD l A;have T:=ZhD l B;have Y:=Zqe z;have d:=Zg3 c l (x:=[105,110]) (i:=2) (by decide) k.1.lt C;generalize(ZC L (Zr 1) _).1=K at *;generalize(Zan L 1 _).1=N at *;have n:ZbR [K,N,(Zan L 1 (Zf L [47] (Zan L 1 (ZC L (Zr 1) (Zb L (Zf L [61] (Zb L s).2)).2).2).2)).1]=true:=by have a:=S.2;have b:=T.2;unfold ZaH at a b;simp[ZbR];omega
 have O:=z9.2;refine⟨ZbV m (Zip (ZaW e1) (ZaW y)) n ?_ ?_,rfl⟩
 ·have Q:¬K=0:=by omega
  have R:K<=4:=by omega
  have a:=S.1;have b:=T.1;rcases d with d|⟨t,d,_,V,X⟩
  ·rw[d];simp[Zbe,Zbr,ZhE,Zev,Zf2,Zbq,isB,O,Q,R,a,b]
  ·rw[d];simp[Zbe,Zbr,ZhE,Zev,Zf2,Zbq,isB,O,Q,R,a,b,V,X]
 ·rcases d with d|⟨t,d,W,_,_⟩
  ·rw[d];exact Zfb z9.1
  ·rw[d];exact ZfW W z9.1
theorem ZmQ (b:ZW L) (G:Zdw L) {ex:PS->Tr×PS} (hx:∀f,Onw L (Dp L (f+1)) ex) (h:∀f,VeM (Dp L (f+1)) ex):∀f,Zic L f (Zt L ex f)
 |0,s,hs,e,_=>by have:=hs.fuel e;omega
 |f+1,s,hs,e0,e=>by
  have D:=ZQ (L:=L) (f+1);have a:=(hs.fuel e0).1;have i:=ZfV b hx f;have p:=ZmQ b G hx h f
  have k:∀q:PS,Dp L (f+1) q/\q.deep<=200->(Zf L [59] (ex (Zf L [61] q)).2).err=0->q.err=0/\VE (ex (Zf L [61] q)).1:=fun q hq e=>by
   have n:=Zq b [61] hq.1.lt;have d:=D.next _ _ hq n.toAdv;have o:=hx f _ d.1;have t:=D.next _ _ d o.toAdv;have v:=Zq b [59] t.1.lt;have l:=v.toAdv.err e;exact⟨n.toAdv.err (o.toAdv.err l),h f _ d.1 l⟩
  unfold Zt at e⊢;dsimp only at e⊢;by_cases w:isM L [108,101,116] s=true
  ·rw[Yo w]at e⊢;have g:=ZA b hs.lt w;have c:=D.next _ _ ⟨hs,a⟩ g.toAdv;have m:=Zo b c.1.lt;obtain⟨r,j⟩:=k _ (D.next _ _ c m.toAdv) e;refine⟨ZbV (Zbs s) (Zfy (ZaW r)) rfl ?_ (Zfb j.1),rfl⟩;have:=j.2;simp[Zbe,Zbr,Zbq,this]
  rw[Yn w]at e⊢;by_cases F:ZaY L s=true
  ·rw[Yo F]at e⊢;have m:=Zo b hs.lt;obtain⟨r,j⟩:=k _ (D.next _ _ ⟨hs,a⟩ m.toAdv) e;refine⟨ZbV (Zbs s) (Zfy (ZaW r)) rfl ?_ (Zfb j.1),rfl⟩;have:=j.2;simp[Zbe,Zbr,Zbq,this]
  rw[Yn F]at e⊢;by_cases y:isM L [111,112,101,110] s=true
  ·rw[Yo y]at e⊢;have g:=ZA b hs.lt y;have c:=D.next _ _ ⟨hs,a⟩ g.toAdv;have m:=Zo b c.1.lt;have C:=D.next _ _ c m.toAdv;have n:=Zo b C.1.lt;have d:=D.next _ _ C n.toAdv;have o:=Zbx b i.adv d.1 d.2;have t:=D.next _ _ d o.toAdv;have v:=Zq b [101,108,115,101] t.1.lt;have u:=D.next _ _ t v.toAdv;have l:=v.toAdv.err ((Zbx b i.adv u.1 u.2).toAdv.err e);have z5:=ZdF b i.adv p u.1 u.2 e;have z3:=ZdF b i.adv p d.1 d.2 l;have E:=o.toAdv.err l;have H:=n.toAdv.err E;refine⟨ZbV (Zbs s) (Zip (ZaW H) (ZaW E)) rfl ?_ (ZfW z3.1 z5.1),rfl⟩;have r:=z3.2;have j:=z5.2;simp[Zbe,Zbr,Zbq,isB,r,j]
  rw[Yn y]at e⊢;by_cases z:isM L [100,111] s=true
  ·rw[Yo z]at e⊢;have c:=D.next _ _ ⟨hs,a⟩ (ZA b hs.lt z).toAdv;exact Zsr b i p (Zbs s) c.1 c.2 e
  rw[Yn z]at e⊢;by_cases A:isM L [115,112,108,105,116] s=true
  ·rw[Yo A]at e⊢;have c:=D.next _ _ ⟨hs,a⟩ (ZA b hs.lt A).toAdv;exact ZqG b G i p (Zbs s) c.1 c.2 e
  rw[Yn A]at e⊢;by_cases B:isM L [99,97,108,108] s=true
  ·rw[Yo B]at e⊢;have c:=D.next _ _ ⟨hs,a⟩ (ZA b hs.lt B).toAdv;exact Zrb b (ZX _) (hx f) (h f) (Zbs s) _ c.1 e
  rw[Yn B]at e⊢;exact Zro b (hx f) (h f) i p (Zbs s) hs a e
theorem ZlC (c:ZW L):∀(f:Nat) (l:List Txt) {s:PS},s.at_<L.length->ZcD l=true->l.length % 2=0->(Zcw L f l s).2.err=0->ZcD (Zcw L f l s).1=true/\(Zcw L f l s).1.length % 2=0/\l.length<=(Zcw L f l s).1.length/\(Zcw L f l s).1.length<=l.length+2*f/\(0<f->l.length+2<=(Zcw L f l s).1.length)
 |0,l,s,_,hl,h2,_=>⟨hl,h2,Nat.le_refl _,Nat.le_refl _,fun h=>absurd h (Nat.lt_irrefl _)⟩
 |f+1,l,s,hs,hl,h2,e=>by
  unfold Zcw at e⊢;by_cases i:s.err=0
  ·rw[Yo i]at e⊢;dsimp only at e⊢;have a:=Zo c hs;have b:=Zo c (a.lt hs);have j:=b.lt (a.lt hs);by_cases h:isM L [44] (Zb L (Zb L s).2).2=true
   ·rw[Yo h]at e⊢;have g:=ZA c j h;have d:∀(f:Nat) (l:List Txt) (s:PS),s.at_<L.length->Adv L s (Zcw L f l s).2:=fun f l s hs=>Zgs c f l hs;have n:=g.toAdv.err ((d f (l++[(Zb L s).1,(Zb L (Zb L s).2).1]) _ (g.lt j)).err e);have k:=ZaW (b.toAdv.err n);have m:=ZaW n;obtain⟨o,i2,i3,i5,_⟩:=ZlC c f (l++[(Zb L s).1,(Zb L (Zb L s).2).1]) (g.lt j) (by unfold ZcD at hl⊢;rw[List.all_append,hl];simp[k,m]) (by rw[Yj];simp;omega) e;rw[Yj]at i3 i5;simp only[Yk,Yl]at i3 i5;exact⟨o,i2,by omega,by omega,fun _=>by omega⟩
   ·rw[Yn h]at e⊢;have k:=ZaW (b.toAdv.err e);have m:=ZaW e;refine⟨by unfold ZcD at hl⊢;rw[List.all_append,hl];simp[k,m],by rw[Yj];simp;omega,by rw[Yj];omega,by rw[Yj];simp only[Yk,Yl];omega,fun _=>by rw[Yj];simp⟩
  ·rw[Yn i]at e;exact absurd e i
theorem ZrE (c:ZW L) (m:Zdw L) {s:PS} (hs:s.at_<L.length) (e:(Zbn L s).2.err=0):VT (Zbn L s).1/\isB [2,3] (Zbn L s).1.kd=true:=by
 unfold Zbn at e⊢;dsimp only at e⊢;by_cases d:isM L [115,116,97,116,101] s=true
 ·rw[Yo d]at e⊢;have g:=ZA c hs d;have a:=Zo c (g.lt hs);have w:=Zq c [59] (a.lt (g.lt hs));exact⟨ZbV (Zbs s) (Zfy (ZaW (w.toAdv.err e))) rfl rfl Zdz,rfl⟩
 rw[Yn d]at e⊢;by_cases f:isM L [102,105,110,97,108] s=true
 ·rw[Yo f]at e⊢;have g:=ZA c hs f;have a:=Zo c (g.lt hs);have w:=Zq c [59] (a.lt (g.lt hs));exact⟨ZbV (Zbs s) (Zfy (ZaW (w.toAdv.err e))) rfl rfl Zdz,rfl⟩
 rw[Yn f]at e⊢;have o:=Zq c [111,112] hs;have a:=Zo c (o.lt hs);have b:=Zo c (a.lt (o.lt hs));have i:=Zq c [45,62] (b.lt (a.lt (o.lt hs)));have h:=i.lt (b.lt (a.lt (o.lt hs)));have l:=Zgs c (L.length+1) [(Zb L (Zf L [111,112] s)).1,(Zb L (Zb L (Zf L [111,112] s)).2).1] h;have w:=Zq c [59] (l.lt h);have k:=w.toAdv.err e;have j:=i.toAdv.err (l.err k);have p:=ZaW (b.toAdv.err j);have q:=ZaW j;obtain⟨n,i2,_,i5,i4⟩:=ZlC c (L.length+1) [(Zb L (Zf L [111,112] s)).1,(Zb L (Zb L (Zf L [111,112] s)).2).1] h (Zip p q) (by simp) k;have:=i4 (Nat.succ_pos _);simp only[Yk,Yl]at i5;refine⟨ZbV (Zbs s) n rfl ?_ Zdz (by have:=m.2;omega),rfl⟩;simp only[Yk,Yl]at this;simp[Zbe,Zbr,Zbq];omega
theorem Zqv (c:ZW L) (j:Zdw L) {s:PS} (hs:s.at_<L.length) (e:(ZbI L s).2.err=0):VT (ZbI L s).1/\isB [1,4] (ZbI L s).1.kd=true:=by
 have D:Dom L (fun s=>s.at_<L.length):=⟨fun a b h k=>k.lt h,fun a h=>h⟩
 have g:=Zq c [112,114,111,116,111] hs;have a:=Zo c (g.lt hs);have w:=Zq c [123] (a.lt (g.lt hs));have f:=w.lt (a.lt (g.lt hs));have u:=ZcV c D (fun s h _=>(part_go c h).toAdv) [125] (L.length+1) [] _ f;have z:=Zhd c D (G:=fun t=>VT t/\isB [2,3] t.kd=true) (fun s h _=>(part_go c h).toAdv) (fun s h _ e=>ZrE c j h e) [125] (L.length+1) [] _ f (fun t d=>by simp at d) e;have i:=w.toAdv.err (u.err e);unfold ZbI;dsimp only;refine⟨ZbV (Zbs s) (Zfy (ZaW i)) rfl ?_ (Ze2 fun t d=>(z t d).1),rfl⟩;have:=Zf4 fun t d=>(z t d).2;simp[Zbe,Zbr,this]
theorem Zqq (j:ZW L) (r:Zdw L) {s:PS} (hs:s.at_<L.length) (e:(ZaB L s).2.err=0):VT (ZaB L s).1/\isB [5] (ZaB L s).1.kd=true:=by
 unfold ZaB at e⊢;dsimp only at e⊢;have a:=Zo j hs;have J:=a.lt hs;by_cases h:isM L [58] (Zb L s).2=true
 ·rw[Yo h]at e⊢;have g:=ZA j J h;have b:=Zo j (g.lt J);have U:=b.lt (g.lt J);have k:=ZeG j (Zr 0) U;have l:=k.lt U
  have u:∀(q:PS) (n d:Int),Adv L (ZC L (Zr 0) (Zb L (Zd (Zb L s).2)).2).2 q->(q.err=0->(n=0/\d=0)\/(1<=n/\ZaH n/\1<=d/\ZaH d))->(Zz L [105,110] 2 (Zz L [116,111] 1 (Zz L [97,116] 0 q).2).2).2.err=0->VT (.mk 5 [(Zb L s).1,(Zb L (Zd (Zb L s).2)).1] ((ZC L (Zr 0) (Zb L (Zd (Zb L s).2)).2).1::[n,d]) (Ze L s) ((Zz L [97,116] 0 q).1++(Zz L [116,111] 1 (Zz L [97,116] 0 q).2).1++(Zz L [105,110] 2 (Zz L [116,111] 1 (Zz L [97,116] 0 q).2).2).1)):=fun q n d hq H e=>by
   have x:=Zcs j [97,116] 0 (hq.lt l);have y:=Zcs j [116,111] 1 (x.lt (hq.lt l));have z:=Zcs j [105,110] 2 (y.lt (x.lt (hq.lt l)));have T:=z.err e;have o:=y.err T;have S:=x.err o;have M:=Zg3 j r (x:=[97,116]) (i:=0) (by decide) (hq.lt l) o;have N:=Zg3 j r (x:=[116,111]) (i:=1) (by decide) (x.lt (hq.lt l)) T;have O:=Zg3 j r (x:=[105,110]) (i:=2) (by decide) (y.lt (x.lt (hq.lt l))) e;have R:=hq.err S;have kk:=Zqd R;have Q:=k.toAdv.err R;have W:=g.toAdv.err (b.toAdv.err Q);have V:=H S;generalize(ZC L (Zr 0) (Zb L (Zd (Zb L s).2)).2).1=K at *;have I:ZbR (K::[n,d])=true:=by unfold ZaH at V;simp[ZbR];omega
   have G:((n==0&&d==0)||(decide (1<=n)&&decide (1<=d)))=true:=by
    rcases V with⟨rfl,rfl⟩|⟨X,_,p,_⟩
    ·rfl
    ·simp[X,p]
   have k4:=kk.2
   have m:∀D F:List Int,D.all (isB [6])=true->ZhI F=true->Zbe 5 [(Zb L s).1,(Zb L (Zd (Zb L s).2)).1] (K::[n,d]) D F=true:=fun D F a b=>by
    have:ZeS (K::[n,d]) D F=true:=by unfold ZeS Zf2 Zev;simp only[List.getElem?_cons_zero,List.getElem?_cons_succ,Option.getD_some];rw[G,a,b,decide_eq_true k4];rfl
    simp[Zbe,Zbr,this]
   refine ZbV (Zbs s) (Zip (ZaW W) (ZaW Q)) I (m _ _ ?_ ?_) ?_
   ·rcases M with f|⟨E,f,_,Y,_⟩<;>rcases N with A|⟨t2,A,_,Z,_⟩<;>rcases O with B|⟨t3,B,_,k3,_⟩<;>rw[f,A,B]<;>simp[isB, *]
   ·rcases M with f|⟨E,f,_,_,Y⟩<;>rcases N with A|⟨t2,A,_,_,Z⟩<;>rcases O with B|⟨t3,B,_,_,k3⟩<;>rw[f,A,B]<;>simp[ZhI, *]
   ·refine Ze2 fun t c=>?_;rcases List.mem_append.1 c with c|c
    ·rcases List.mem_append.1 c with c|c
     ·rcases M with f|⟨E,f,v,_,_⟩
      ·rw[f]at c;simp at c
      ·rw[f,List.mem_singleton]at c;subst c;exact v
     ·rcases N with f|⟨E,f,v,_,_⟩
      ·rw[f]at c;simp at c
      ·rw[f,List.mem_singleton]at c;subst c;exact v
    ·rcases O with f|⟨E,f,v,_,_⟩
     ·rw[f]at c;simp at c
     ·rw[f,List.mem_singleton]at c;subst c;exact v
  by_cases p:isM L [108,101,97,115,116] (ZC L (Zr 0) (Zb L (Zd (Zb L s).2)).2).2=true
  ·rw[Yo p]at e⊢;have C:=ZA j l p;have n:=Zc2 j 1 (C.lt l);have w:=Zq j [47] (n.lt (C.lt l));have d:=Zc2 j 1 (w.lt (n.lt (C.lt l)));refine⟨u _ _ _ (C.toAdv.trans (n.toAdv.trans (w.toAdv.trans d.toAdv))) (fun q=>?_) e,rfl⟩;have P:=ZhD r q;have a2:=ZhD r (w.toAdv.err (d.toAdv.err q));exact .inr ⟨a2.1,a2.2,P.1,P.2⟩
  ·rw[Yn p]at e⊢;exact⟨u _ _ _ (Adv.refl _) (fun _=>.inl ⟨rfl,rfl⟩) e,rfl⟩
 ·rw[Yn h]at e⊢;exact⟨ZbV (Zbs s) (Zfy (ZaW e)) rfl rfl Zdz,rfl⟩
theorem Zst (b:ZW L) (u:Zdw L) {f:Nat} {ex st:PS->Tr×PS} (o:Stm L f st) (v:Zic L f st) {s:PS} (hs:Dp L (f+1) s) (c:s.deep<=200) (e:(fnM L ex st s).2.err=0):VT (fnM L ex st s).1/\isB [1,4] (fnM L ex st s).1.kd=true:=by
 have D:=ZQ (L:=L) (f+1);have g:=Zq b [102,110] hs.lt;have j:=D.next _ _ ⟨hs,c⟩ g.toAdv;have q:=Zo b j.1.lt;have k:=D.next _ _ j q.toAdv;have m:=Zq b [40] k.1.lt;have i:=D.next _ _ k m.toAdv;have n:=Zc4 b D (fun s h=>(ZdI b h.1.lt).toAdv) (L.length+1) true [] _ i;have d:=D.next _ _ i n;have z5:=ZdF b o.adv v d.1 d.2 e;have l:=(Zbx b o.adv d.1 d.2).toAdv.err e;have z4:=Zhq b D (G:=fun t=>VT t/\isB [5] t.kd=true) (fun s h=>(ZdI b h.1.lt).toAdv) (fun s h e=>Zqq b u h.1.lt e) (L.length+1) true [] _ i (fun t a=>by simp at a) l;have p:=m.toAdv.err (n.err l);unfold fnM;dsimp only;refine⟨ZbV (Zbs s) (Zfy (ZaW p)) rfl ?_ (Ze2 fun t a=>?_),rfl⟩
 ·have w:=Zf4 fun t a=>(z4 t a).2;have r:=z5.2;rw[List.map_append,List.map_append,List.map_singleton,List.map_singleton];unfold Zbe;simp[Zbr,Zbq,isB,r];simpa[isB]using fun t a=>(z4 t a).2
 ·rcases List.mem_append.1 a with a|a
  ·exact(z4 t a).1
  ·rw[List.mem_singleton]at a;subst a;exact z5.1
theorem ZfL (a:ZW L) (h:Zdw L) {f:Nat} {ex st:PS->Tr×PS} (c:Stm L f st) (i:Zic L f st):∀(g:Nat) (l:List Tr) (s:PS),Dp L (f+1) s/\s.deep<=200->(∀t∈l,VT t/\isB [1,4] t.kd=true)->(Zay L ex st g l s).2.err=0->∀t∈(Zay L ex st g l s).1,VT t/\isB [1,4] t.kd=true
 |0,l,s,_,hl,_=>hl
 |g+1,l,s,hs,hl,e=>by
  have D:=ZQ (L:=L) (f+1)
  have b:∀u:Tr,VT u/\isB [1,4] u.kd=true->∀t∈l++[u],VT t/\isB [1,4] t.kd=true:=fun u o t d=>by
   rcases List.mem_append.1 d with d|d
   ·exact hl t d
   ·rw[List.mem_singleton]at d;subst d;exact o
  unfold Zay at e⊢;by_cases m:s.err=0/\(ZaK L s).1≠3
  ·rw[Yo m]at e⊢;by_cases j:isM L [112,114,111,116,111] s=true
   ·rw[Yo j]at e⊢;have n:=(Zg7 a hs.1.lt).toAdv;have hd:=D.next _ _ hs n;exact ZfL a h c i g _ _ hd (b _ (Zqv a h hs.1.lt ((Zdt a c g _ _ hd).err e))) e
   rw[Yn j]at e⊢;by_cases k:isM L [102,110] s=true
   ·rw[Yo k]at e⊢;have n:=(Zku a (ex:=ex) c hs.1 hs.2).toAdv;have hd:=D.next _ _ hs n;exact ZfL a h c i g _ _ hd (b _ (Zst a h c i hs.1 hs.2 ((Zdt a c g _ _ hd).err e))) e
   rw[Yn k]at e⊢;have n:=(ZeE (L:=L) (e:=11) (by decide) s).toAdv;exact ZfL a h c i g _ _ (D.next _ _ hs n) hl e
  ·rw[Yn m];exact hl
end
theorem ZmK {L:List Tok} (a:ZW L) (c:Zdw L) (e:(Zc8 L).2.err=0):VT (Zde L):=by
 have hd:Dp L 201 s07:=⟨a.1,fun _=>⟨by decide,by decide⟩,by decide,by decide⟩
 have d:=ZfV a (fun g=>Zgz a (g+1)) 200;have h:=ZfL (ex:=ex7 L) a c d (ZmQ a c (fun g=>Zgz a (g+1)) (fun g s hs e=>Zmt a (ZX 201) (Zb5 a 201) (Ziw a c 201) s (ZiJ hs) e) 200) (L.length+1) [] s07 ⟨hd,by decide⟩ (fun t b=>by simp at b) e;refine ZbV (Zbs s07) rfl rfl ?_ (Ze2 fun t b=>(h t b).1);have:=Zf4 fun t b=>(h t b).2;simp[Zbe,Zbr,this]
theorem Zgu {l:Txt} {ns:List Nd} {f:Int} (h:ZdP l=(ns,0,f)):Zcu ns=true/\f=0/\l.length<=6000/\∀d∈ns,d.words.length<=20000:=by
 unfold ZdP at h;rcases Nat.lt_or_ge 6000 l.length with q|q
 ·rw[Zi8 q]at h;simp at h
 cases hl:Zbv l 0 with
 |bad a=>rw[Zi7 q hl]at h;simp at h
 |ok L=>
  rw[ZhH q hl]at h;dsimp only at h;obtain⟨b,g,_⟩:=ZoS l.length l 0 L (Nat.le_refl _) hl;have c:Zdw L:=⟨Zqj l.length l 0 L (Nat.le_refl _) hl,by omega⟩
  rw[Yn (by simp)]at h;by_cases e:(Zc8 L).2.err≠0
  ·rw[Yo e]at h;injection h with _ h;injection h with h _;exact absurd h e
  rw[Yn e]at h;by_cases s:1500<(Zcf (Zde L) []).length
  ·rw[Yo s]at h;simp at h
  rw[Yn s]at h;by_cases d:0<=ZbG (Zde L) 1
  ·rw[Yo d]at h;simp at h
  rw[Yn d]at h;injection h with h1 h;injection h with _ h;rw[<-h1];refine⟨Zks (ZmK b c (Classical.not_not.1 e)) rfl ?_ d,h.symm,q,fun d hd=>Zjg (Zde L) 0 (ZmK b c (Classical.not_not.1 e)) d (by rw[<-ZmD];exact hd)⟩;rw[ZdZ,Yl]at s;omega
theorem ZnI {l:Txt} {ns:List Nd} {a:Int} (h:ZdP l=(ns,0,a)):∃t:Tr,ns=Zcf t []:=by
 unfold ZdP at h;dsimp only at h
 split at h
 ·rename_i q
  injection h with _ h;injection h with h _;exact absurd h q
 split at h
 ·rename_i q
  injection h with _ h;injection h with h _;exact absurd h q
 split at h
 ·simp at h
 split at h
 ·simp at h
 injection h with h _;exact⟨_,h.symm⟩
end
section
section
variable {ns ms:List Nd}
def LkN (ns ms:List Nd):Nat->Nd->Nd->Prop
 |0,_,_=>False
 |g+1,n,m=>n.kind=m.kind/\n.words=m.words/\n.nums=m.nums/\n.kids.length=m.kids.length/\∀(q:Nat) (c e:Int),n.kids[q]? = Ya c->m.kids[q]? = Ya e->LkN ns ms g (Za ns c) (Za ms e)
def LK (ns ms:List Nd) (n m:Nd):Prop:=∃g,LkN ns ms g n m
def ZeO (ns ms:List Nd) (cs a:List Int):Prop:=cs.length=a.length/\∀(q:Nat) (c e:Int),cs[q]? = Ya c->a[q]? = Ya e->LK ns ms (Za ns c) (Za ms e)
theorem ZqW:∀(f:Nat) (i k:Int),ZiC ns ms f i k->LkN ns ms f (Za ns i) (Za ms k)
 |0,_,_,h=>h.elim
 |f+1,i,k,h=>by
  rw[ZiC]at h;obtain⟨a,b,x,y,rfl,rfl,hx,o,d,g,j,l,m⟩:=h;rw[ZbX hx,ZbX o,LkN];exact⟨d,g,j,l,fun q c e hc n=>ZqW f c e (m q c e hc n)⟩
theorem LK.parts {n m:Nd} (h:LK ns ms n m):n.kind=m.kind/\n.words=m.words/\n.nums=m.nums/\ZeO ns ms n.kids m.kids:=by
 obtain⟨g,h⟩:=h;cases g with
 |zero=>exact h.elim
 |succ g=>
  rw[LkN]at h;exact⟨h.1,h.2.1,h.2.2.1,h.2.2.2.1,fun q c e hc a=>⟨g,h.2.2.2.2 q c e hc a⟩⟩
theorem ZeO.take {cs b:List Int} (h:ZeO ns ms cs b) (k:Nat):ZeO ns ms (cs.take k) (b.take k):=⟨by rw[List.length_take,List.length_take,h.1],fun q c e hc a=>by
 rw[List.getElem?_take]at hc a;by_cases hq:q<k
 ·rw[Yo hq]at hc a;exact h.2 q c e hc a
 ·rw[Yn hq]at hc;cases hc⟩
theorem ZeO.drop {cs a:List Int} (h:ZeO ns ms cs a) (k:Nat):ZeO ns ms (cs.drop k) (a.drop k):=⟨by rw[List.length_drop,List.length_drop,h.1],fun q c e hc b=>by
 rw[List.getElem?_drop]at hc b
 exact h.2 _ c e hc b⟩
theorem ZeO.map {e:Type} {cs a:List Int} (h:ZeO ns ms cs a) {F G:Nd->e} (d:∀n m,LK ns ms n m->F n=G m):(cs.map fun k=>F (Za ns k))=a.map fun k=>G (Za ms k):=by
 refine List.ext_getElem? fun q=>?_;rw[List.getElem?_map,List.getElem?_map];cases hc:cs[q]? with
 |none=>
  have:a[q]? = Yb:=by rw[List.getElem?_eq_none_iff]at hc⊢;rw[<-h.1];exact hc
  rw[this];rfl
 |some c=>
  have b:q<a.length:=by rw[<-h.1];exact(List.getElem?_eq_some_iff.1 hc).1
  rw[Ym b,Option.map_some,Option.map_some,d _ _ (h.2 q c _ hc (Ym b))]
theorem ZeO.nil {cs a:List Int} (h:ZeO ns ms cs a):(cs=[])=(a=[]):=by rw[<-List.length_eq_zero_iff,<-List.length_eq_zero_iff,h.1]
theorem Zf5 (R:LK ns ms (Za ns 0) (Za ms 0)) {n m:Nd} (h:LK ns ms n m) (k:Nat):LK ns ms (Zv ns n k) (Zv ms m k):=by
 obtain⟨_,_,_,b⟩:=h.parts;unfold Zv;cases hc:n.kids[k]? with
 |none=>
  have a:m.kids[k]? = Yb:=by rw[List.getElem?_eq_none_iff]at hc⊢;rw[<-b.1];exact hc
  rw[ZcW,ZcW,hc,a];exact R
 |some c=>
  have d:k<m.kids.length:=by rw[<-b.1];exact(List.getElem?_eq_some_iff.1 hc).1
  have a:=Ym d;rw[ZcW,ZcW,hc,a];exact b.2 k c _ hc a
theorem Zfc {n m:Nd} (h:LK ns ms n m) (k:Nat):word n k=word m k:=by unfold word;rw[h.parts.2.1]
theorem ZgF {n m:Nd} (h:LK ns ms n m) (k:Nat):num n k=num m k:=by unfold num;rw[h.parts.2.2.1]
theorem Zgw {n m:Nd} (h:LK ns ms n m):ZB n=ZB m:=by unfold ZB;rw[h.parts.1,ZgF h]
theorem ZgU (R:LK ns ms (Za ns 0) (Za ms 0)):∀(f:Nat) (n m:Nd),LK ns ms n m->ZD ns f n=ZD ms f m
 |0,_,_,_=>rfl
 |f+1,n,m,h=>by
  have a:=Zf5 R h 0;have b:=Zf5 R h 1;unfold ZD;simp only[h.parts.1,ZgF h,Zfc h,Zgw h,Zgw a,Zgw b,ZgU R f _ _ a,ZgU R f _ _ b]
theorem ZjZ {n m:Nd} (h:LK ns ms n m):ZaT n=ZaT m:=by unfold ZaT;rw[ZgF h,h.parts.2.1]
theorem Zqr {n m:Nd} (h:LK ns ms n m):ZbU n=ZbU m:=by unfold ZbU;simp only[h.parts.1,ZgF h,Zfc h,h.parts.2.1]
theorem Zo3 {n m:Nd} (h:LK ns ms n m):ZbO ns n=ZbO ms m:=by unfold ZbO;rw[h.parts.2.2.2.map fun n m h=>ZjZ h];simp only[ZgF h,Zfc h,h.parts.2.1]
theorem Zq6 (R:LK ns ms (Za ns 0) (Za ms 0)) (f:Nat) {n m:Nd} (h:LK ns ms n m):Zb9 ns f n=Zb9 ms f m:=by unfold Zb9;rw[h.parts.1,Zfc h,ZgU R f _ _ h]
theorem Zlu (R:LK ns ms (Za ns 0) (Za ms 0)):∀(f d:Nat) (n m:Nd),LK ns ms n m->Zk ns f d n=Zk ms f d m
 |0,_,_,_,_=>rfl
 |f+1,d,n,m,h=>by
  have P:=h.parts.2.2.2;have q:=Zf5 R h 0;have r:=Zf5 R h 1
  have B:∀(e:Nat) (x y:Nd),LK ns ms x y->ZI e (x.kids.map fun k=>Zk ns f (e+1) (Za ns k))=ZI e (y.kids.map fun k=>Zk ms f (e+1) (Za ms k)):=fun e x y hx=>by
   rw[hx.parts.2.2.2.map fun n m h=>Zlu R f (e+1) n m h]
  have i:=P.map (F:=fun x=>ZI d (x.kids.map fun k=>Zk ns f (d+1) (Za ns k))) (G:=fun x=>ZI d (x.kids.map fun k=>Zk ms f (d+1) (Za ms k))) fun x y hx=>B d x y hx
  have j:=P.map (F:=fun x=>word x 0++ZI (d+1) ((Zv ns x 0).kids.map fun k=>Zk ns f (d+1+1) (Za ns k))) (G:=fun x=>word x 0++ZI (d+1) ((Zv ms x 0).kids.map fun k=>Zk ms f (d+1+1) (Za ms k))) fun x y hx=>by
   rw[Zfc hx,B (d+1) _ _ (Zf5 R hx 0)]
  have b:=(P.take (n.kids.length-1)).map (F:=fun x=>ZaT x) (G:=fun x=>ZaT x) fun x y hx=>ZjZ hx;have l:=P.map (F:=fun x=>Zb9 ns f x) (G:=fun x=>Zb9 ms f x) fun x y hx=>Zq6 R f hx;have o:=(P.drop 1).map (F:=fun x=>ZI d (x.kids.map fun k=>Zk ns f (d+1) (Za ns k))) (G:=fun x=>ZI d (x.kids.map fun k=>Zk ms f (d+1) (Za ms k))) fun x y hx=>B d x y hx;have a:=B d _ _ (Zf5 R h (n.kids.length-1));have g:=B d _ _ r;have s:=ZgU R f _ _ q;have c:=P.1;have p:=P.nil;rw[c]at b a;unfold Zk;simp only[Ze8,h.parts.1,ZgF h,Zfc h,h.parts.2.1,p,c,i,j,b,l,o,a,g,s]
theorem Zqc (R:LK ns ms (Za ns 0) (Za ms 0)) (f:Nat) {n m:Nd} (h:LK ns ms n m):Zcl ns f n=Zcl ms f m:=by have P:=h.parts.2.2.2;have e1:=P.map (F:=fun x=>ZbU x) (G:=fun x=>ZbU x) fun x y hx=>Zqr hx;have b:=(P.take (n.kids.length-1)).map (F:=fun x=>ZbO ns x) (G:=fun x=>ZbO ms x) fun x y hx=>Zo3 hx;have k:=(Zf5 R h (n.kids.length-1)).parts.2.2.2.map (F:=fun x=>Zk ns f 1 x) (G:=fun x=>Zk ms f 1 x) fun x y hx=>Zlu R f 1 x y hx;have a:=P.1;rw[a]at b k;unfold Zcl;simp only[h.parts.1,Zfc h,a,e1,b,k]
theorem ZqC (a:Zcu ns=true) (b:Zcu ms=true) (c:ns.length=ms.length) (R:LK ns ms (Za ns 0) (Za ms 0)):ZbC ns=ZbC ms:=by unfold ZbC;rw[a,b,R.parts.2.2.2.map fun n m h=>Zqc R ns.length h,c]
end
theorem ZmT {f:Nat} {ns:List Nd} (g:∀(j t2:Tr) (a:Nat),Zgt ns j a->Zs ns f (Za ns a) t2->szT j=szT t2):∀(e:List Tr) (cs:List Int) (d:List Tr),ZeN ns e cs->d.length=cs.length->(∀(i:Nat) (t:Tr) (c:Int),d[i]? = Ya t->cs[i]? = Ya c->Zs ns f (Za ns c) t)->Zaq e=Zaq d
 |[],cs,d,h,hl,_=>by
  rw[ZeN]at h;subst h;rw[List.length_eq_zero_iff.1 hl]
 |t::r,cs,d,h,hl,hs=>by
  rw[ZeN]at h;obtain⟨b,k,rfl,m,n⟩:=h;cases d with
  |nil=>simp at hl
  |cons u v=>
   have e1:=g t u b m (hs 0 u b rfl rfl);have l:=ZmT g r k v n (by simpa using hl) fun i t c o hc=>hs (i+1) t c o hc;rw[Zaq,Zaq,e1,l]
theorem ZpA {ns:List Nd}:∀(f:Nat) (b t2:Tr) (a:Nat),Zgt ns b a->Zs ns f (Za ns a) t2->szT b=szT t2
 |0,_,_,_,_,h=>h.elim
 |f+1,.mk k w u p ks,.mk k2 w2 u2 p2 ks2,a,hl,h=>by
  rw[Zgt]at hl;rw[Zs]at h;obtain⟨x,e1,_,_,_,c⟩:=hl;rw[ZbX e1]at h;obtain⟨_,_,_,d,e⟩:=h;rw[szT,szT,ZmT (ZpA f) ks x.kids ks2 c d e]
theorem Zmb {l:Txt} {ns:List Nd} {j:Int} (h:ZdP l=(ns,0,j)) (a:(ZbC ns).length<=6000):∃ms:List Nd,ZdP (ZbC ns)=(ms,0,0)/\Zcu ms=true/\ZbC ms=ZbC ns:=by
 have b:=(Zgu h).1;obtain⟨t,e,f⟩:=Zn4 b a;have hm:=(Zgu e).1;have c:ns[0]? = Ya (Za ns 0):=by have c:ns[0]? = Ya (ns[0]'(Zew b).some_):=Ym (Zew b).some_;rw[c,<-ZbX (k:=0) c];rfl
 have d:=ZmE (ms:=Zcf t []) (Zew b) 76 0 _ _ 0 c f (Zk1 _);obtain⟨g,e1⟩:=ZnI h;have i:=ZpA (ns:=ns) 76 g t 0 (by rw[e1];exact Zk1 g) f;refine⟨_,e,hm,(ZqC b hm ?_ ⟨76,ZqW 76 0 0 d⟩).symm⟩;rw[e1,ZdZ,ZdZ,i]
end
section
open Go.RowKit
theorem Ziz (w:Yh) (v:Value) (ns:List Nd) (s:Zu w v ns) (hk:ZaI w 3 ZG) (T:PTabs w) (t:Zcu ns=true) (m:(ZbC ns).length+10000<=140737488355328) :
  Calls Tryz.prog 9 #[v] w fun e w'=>e=.returned (txt (ZbC ns))/\Below w.heap.size w w':=by
 have X:=zh (Zpg w v ns s hk t);obtain⟨An,q,rs,rfl,h⟩:=id s;have b:=zh h;clear h;have R:=Zew t;have K:ZbC ns=Zbo 0 ((Za ns 0).kids.map fun k=>Zcl ns ns.length (Za ns k)):=by unfold ZbC;rw[t];rfl
 rw[K]at m⊢;have z:=zh (ZfH R);have f:=R.some_;have a:=R.len;obtain⟨d,hd⟩:∃d,ns[0]? = Ya d:=⟨_,Ym f⟩
 have L:Za ns 0=d:=Zb2 (k:=0) hd;rw[L]at m z⊢;obtain⟨r,c⟩:∃r,rs[0]? = Ya r:=⟨_,Ym (by have:=congrArg List.length b.out.2.2.1;rw[List.length_map]at this;omega)⟩
 obtain rfl:r.2=d:=by
  have:ns[0]? = Ya r.2:=by rw[<-b.out.2.2.1,List.getElem?_map,c];rfl
  exact Option.some.inj (this.symm.trans hd)
 obtain⟨⟨vw,vu,vk⟩,kd,ws,S,ks,ps⟩:=r;obtain⟨Q,P,i⟩:=b.out.2.2.2.2 _ (List.mem_of_getElem? c);dsimp only at Q P i m z⊢;obtain⟨Aw,cw,rfl,_⟩:=Q;obtain⟨Au,cu,rfl,_⟩:=P;obtain⟨V,Z,rfl,j,l,M⟩:=i;have i1:(0:Int)<(ns.length:Int):=by omega
 have p:=zh (zi s (zi c (zi M (zi l j))));have y:=zh (zi T (zi m (zi f a)));clear t R K m T hk s hd L c j l M f a;go_enter Tryz.func9,Tryz.ntmps9;go_upto_region 3 with(go_at_call 16;(with_reducible refine X.out.mono ?_);rintro e o ⟨rfl,N⟩;have u:=zh N;clear N)
 go_upto_region 4 with fail;have a2:=below_alloc1 o (Yg #[Yc Yb 0 0,Yd Yf 0,Yc An ns.length q] 47);have F:Zh _ _ _ _:=Zh.start o #[Yc Yb 0 0,Yd Yf 0,Yc An ns.length q] 47;generalize ad:o.alloc (Yg #[Yc Yb 0 0,Yd Yf 0,Yc An ns.length q] 47)=U at *;have H:=zh (show PrS w U o.heap.size [] 0 (Yc An ns.length q)from⟨⟨_,F,⟨rfl,.inl ⟨rfl,rfl⟩⟩⟩,u.out.trans (a2.mono u.out.size),u.out.size⟩);clear a2 F;obtain⟨I,rfl,A,B,C,D,E⟩:=Zby b.out.2.2.2.1 H.out.below p.out.2.1 (by omega);have ea:I.add (0*5)=I:=by unfold Addr.add;simp
 rw[ea]at A B C D E;dsimp only at A B C D E;have W:=zh (ZjW _ ZlH w U o.heap.size 0 [] _ ns V Z ks _ _ H.out p.out.1 (by omega) p.out.2.2.1 (by have:=p.out.2.2.2;omega) z.out (ZoH w ns y.out.1 ns.length y.out.2.2.2) (by have:=y.out.2.1;simpa using this));go_upto_region 5 with(go_at_call 17;(refine W.out.mono ?_);rintro e w3 ⟨rfl,O,hf⟩;have G:=zh O;clear O hf)
 obtain⟨v3,n,g⟩:=G.out.box;have J:=n.blk.cell 0;simp only[List.getElem?_toArray,List.getElem?_cons_zero]at J;have cv:=Zon g;obtain⟨A3,Y,rfl⟩:=Zbw g;rw[List.nil_append]at cv J;clear n g A B C D E;go_wp2_with fail;go_ret;exact⟨rfl,G.out.below⟩
theorem Zma (w:Yh):Calls Tryz.prog 9 #[Yc Yb 0 0] w fun e w'=>e=.returned (txt [])/\Below w.heap.size w w':=by have c:=zh (Zpf w);go_enter Tryz.func9,Tryz.ntmps9;go_wp2_with (go_at_call 16;(with_reducible refine c.out.mono ?_);rintro e d ⟨rfl,a⟩;have b:=zh a;clear a);go_ret;exact⟨rfl,b.out⟩
end
section
open Go.RowKit
theorem Zof (w:Yh) (r:ShoTabs w):Calls Tryz.prog 6 #[] w fun e w'=>e=.returned (.bool true)/\Below w.heap.size w w':=by
 have d:=below_alloc1 w (Yg #[Yd Yf 1] 3);have k:Zbh (w.alloc (Yg #[Yd Yf 1] 3)) (Yc (Ya ⟨w.heap.size,0,Yb⟩) 1 1) [1]:=Ze4 w [1] 3 (by simp[maxLen]);generalize v:w.alloc (Yg #[Yd Yf 1] 3)=a at *;have a2:=below_alloc1 a (Yg #[txt [109,97,105,110]] 9);have l:ZdV (a.alloc (Yg #[txt [109,97,105,110]] 9)) (Yc (Ya ⟨a.heap.size,0,Yb⟩) 1 1) [[109,97,105,110]]:=ZqH a [[109,97,105,110]] 9 (by simp[maxLen]) (by simp[maxLen]);generalize y:a.alloc (Yg #[txt [109,97,105,110]] 9)=b at *;have a3:=below_alloc1 b (Yg #[Yd Yf 2] 3);have m:Zbh (b.alloc (Yg #[Yd Yf 2] 3)) (Yc (Ya ⟨b.heap.size,0,Yb⟩) 1 1) [2]:=Ze4 b [2] 3 (by simp[maxLen]);generalize z:b.alloc (Yg #[Yd Yf 2] 3)=c at *;have a4:=below_alloc1 c (Yg #[Yd Yf 3] 3);have n:Zbh (c.alloc (Yg #[Yd Yf 3] 3)) (Yc (Ya ⟨c.heap.size,0,Yb⟩) 1 1) [3]:=Ze4 c [3] 3 (by simp[maxLen]);generalize A:c.alloc (Yg #[Yd Yf 3] 3)=g at *;have a5:=below_alloc1 g (Yg #[Yd Yf 0,Yc Yb 0 0,Yc Yb 0 0,Yc (Ya ⟨w.heap.size,0,Yb⟩) 1 1,Yd Yf 0,Yd Yf 4,Yc (Ya ⟨a.heap.size,0,Yb⟩) 1 1,Yc Yb 0 0,Yc (Ya ⟨b.heap.size,0,Yb⟩) 1 1,Yd Yf 0,Yd Yf 7,Yc Yb 0 0,Yc Yb 0 0,Yc (Ya ⟨c.heap.size,0,Yb⟩) 1 1,Yd Yf 0,Yd Yf 19,Yc Yb 0 0,Yc Yb 0 0,Yc Yb 0 0,Yd Yf 0] 37);have o:Zu (g.alloc (Yg #[Yd Yf 0,Yc Yb 0 0,Yc Yb 0 0,Yc (Ya ⟨w.heap.size,0,Yb⟩) 1 1,Yd Yf 0,Yd Yf 4,Yc (Ya ⟨a.heap.size,0,Yb⟩) 1 1,Yc Yb 0 0,Yc (Ya ⟨b.heap.size,0,Yb⟩) 1 1,Yd Yf 0,Yd Yf 7,Yc Yb 0 0,Yc Yb 0 0,Yc (Ya ⟨c.heap.size,0,Yb⟩) 1 1,Yd Yf 0,Yd Yf 19,Yc Yb 0 0,Yc Yb 0 0,Yc Yb 0 0,Yd Yf 0] 37)) (Yc (Ya ⟨g.heap.size,0,Yb⟩) 4 4) ns8:=
  ZoY g [((Yc Yb 0 0,Yc Yb 0 0,Yc (Ya ⟨w.heap.size,0,Yb⟩) 1 1),⟨0,[],[],[1],0⟩),((Yc (Ya ⟨a.heap.size,0,Yb⟩) 1 1,Yc Yb 0 0,Yc (Ya ⟨b.heap.size,0,Yb⟩) 1 1),⟨4,[[109,97,105,110]],[],[2],0⟩),((Yc Yb 0 0,Yc Yb 0 0,Yc (Ya ⟨c.heap.size,0,Yb⟩) 1 1),⟨7,[],[],[3],0⟩),((Yc Yb 0 0,Yc Yb 0 0,Yc Yb 0 0),⟨19,[],[],[],0⟩)] 37 (by simp[maxLen]) (fun x hx=>by
   simp only[List.mem_cons,List.not_mem_nil,or_false]at hx;rcases hx with rfl|rfl|rfl|rfl
   ·exact⟨ZdV.nil _,Zbh.nil _,(((k.below a2).below a3).below a4).below a5⟩
   ·exact⟨((l.below a3).below a4).below a5,Zbh.nil _,(m.below a4).below a5⟩
   ·exact⟨ZdV.nil _,Zbh.nil _,n.below a5⟩
   ·exact⟨ZdV.nil _,Zbh.nil _,Zbh.nil _⟩)
 generalize B:g.alloc (Yg #[Yd Yf 0,Yc Yb 0 0,Yc Yb 0 0,Yc (Ya ⟨w.heap.size,0,Yb⟩) 1 1,Yd Yf 0,Yd Yf 4,Yc (Ya ⟨a.heap.size,0,Yb⟩) 1 1,Yc Yb 0 0,Yc (Ya ⟨b.heap.size,0,Yb⟩) 1 1,Yd Yf 0,Yd Yf 7,Yc Yb 0 0,Yc Yb 0 0,Yc (Ya ⟨c.heap.size,0,Yb⟩) 1 1,Yd Yf 0,Yd Yf 19,Yc Yb 0 0,Yc Yb 0 0,Yc Yb 0 0,Yd Yf 0] 37)=s at *;have h:Below w.heap.size w s:=d.trans ((a2.mono d.size).trans ((a3.mono (Nat.le_trans d.size a2.size)).trans ((a4.mono (Nat.le_trans d.size (Nat.le_trans a2.size a3.size))).trans (a5.mono (Nat.le_trans d.size (Nat.le_trans a2.size (Nat.le_trans a3.size a4.size)))))));have t5:=r.below h;have q:=zh (Ziz s _ _ o t5.keys t5.p (by decide +kernel) (by rw[ZqZ];decide));rw[ZqZ]at q;have u:=zh (fun w'=>Zma w');have j:=zh h;clear r k l m n o d a2 a3 a4 a5 h t5;go_enter Tryz.func6,Tryz.ntmps6
 go_wp2_with (first
  |(go_at_call 9;(with_reducible refine q.out.mono ?_);rintro C E ⟨rfl,f⟩;have i:=zh f;clear f)
  |(go_at_call 9;(with_reducible refine(u.out _).mono ?_);rintro D F ⟨rfl,f⟩;have t:=zh (i.out.trans (f.mono i.out.size));clear f))
 go_ret;exact⟨rfl,j.out.trans (t.out.mono j.out.size)⟩
end
section
open Go.RowKit
theorem Zkt (w:Yh) (o:ShoTabs w) (s:ByteArray) (_:s.size<=maxLen) :
  Calls Tryz.prog 4 #[.string s] w fun e w'=>e=.returned (.bool true)/\Below w.heap.size w w':=by
 have z:=zh (fun(w':Yh) (b:Below w.heap.size w w')=>Zof w' (o.below b));have c:=zh (show Below w.heap.size w w from Below.refl _ _);by_cases n:s.size<=1500
 ·have U:¬((1500:Int)<(s.size:Int)):=by omega
  obtain⟨g,A,S,f⟩:∃g A S,ZdP s.data.toList=(g,A,S):=⟨_,_,_,rfl⟩
  have q:∀w':Yh,Calls Tryz.prog 10 #[.string s] w' (fun e j=>∃m,e=.returned (.tuple #[m,.agg #[Yd Yf A,Yd Yf S]])/\Zu j m g/\Below w'.heap.size w' j):=fun w'=>by
   have h:=Zjc s w';rw[f]at h;exact h
  have q:=zh q;by_cases W:A=0
  ·subst W;obtain⟨P,O,_,Q⟩:=Zgu f;subst O;have r:(ZbC g).length<=7200000000:=Zps Q;have l:∀(w':Yh) (v:Value),Below w.heap.size w w'->Zu w' v g->Calls Tryz.prog 9 #[v] w' fun e j=>e=.returned (txt (ZbC g))/\Below w'.heap.size w' j:=fun w' v b N=>Ziz w' v g N (o.below b).keys (o.below b).p P (by omega);obtain⟨a,ha⟩:∃a:ByteArray,a=⟨(ZbC g).toArray⟩:=⟨_,rfl⟩
   have B:txt (ZbC g)=.string a:=by rw[ha]
   have E:a.size=(ZbC g).length:=by rw[ha];show(ZbC g).toArray.size=_;rw[List.size_toArray]
   have t:a.data.toList=ZbC g:=by rw[ha]
   by_cases M:(ZbC g).length<=6000
   ·have z6:¬((6000:Int)<(a.size:Int)):=by omega
    obtain⟨I,C,D,u⟩:=Zmb f M
    have K:∀w':Yh,Calls Tryz.prog 10 #[.string a] w' (fun e j=>∃m,e=.returned (.tuple #[m,.agg #[Yd Yf 0,Yd Yf 0]])/\Zu j m I/\Below w'.heap.size w' j):=fun w'=>by
     have h:=Zjc a w';rw[t,C]at h;exact h
    have K:=zh K;have H:∀(w':Yh) (v:Value),Below w.heap.size w w'->Zu w' v I->Calls Tryz.prog 9 #[v] w' fun e j=>e=.returned (txt (ZbC I))/\Below w'.heap.size w' j:=fun w' v b N=>Ziz w' v I N (o.below b).keys (o.below b).p D (by rw[u];omega);rw[u,B]at H;rw[B]at l;have H:=zh H;have l:=zh l;clear o f P Q r ha B E t M C D u n;go_enter Tryz.func4,Tryz.ntmps4
    go_wp2_with (first
     |(go_at_call 6;(refine(z.out _ c.out).mono ?_);rintro e1 T ⟨rfl,b⟩;have i:=zh (c.out.trans (b.mono c.out.size));clear b c)
     |(go_at_call 10;(with_reducible refine(q.out _).mono ?_);rintro L j ⟨m,rfl,k,b⟩;have d:=zh (i.out.trans (b.mono i.out.size));have G:=zh k;clear b k q)
     |(go_at_call 9;(refine(l.out _ m (d.out.trans ((below_alloc1 _ _).mono d.out.size)) (G.out.below (below_alloc1 _ _))).mono ?_);rintro V Z ⟨rfl,b⟩;have F:=zh ((d.out.trans ((below_alloc1 _ _).mono d.out.size)).trans (b.mono (d.out.trans ((below_alloc1 _ _).mono d.out.size)).size));clear b l)
     |(go_at_call 10;(with_reducible refine(K.out _).mono ?_);rintro L w5 ⟨R,rfl,k,b⟩;have y:=zh (F.out.trans (b.mono F.out.size));have J:=zh k;clear b k)
     |(go_at_call 9;(refine(H.out _ R (y.out.trans ((below_alloc1 _ _).mono y.out.size)) (J.out.below (below_alloc1 _ _))).mono ?_);rintro V w6 ⟨rfl,b⟩;have Y:=zh ((y.out.trans ((below_alloc1 _ _).mono y.out.size)).trans (b.mono (y.out.trans ((below_alloc1 _ _).mono y.out.size)).size));clear b))
    go_ret;exact⟨rfl,Y.out⟩
   ·have z6:(6000:Int)<(a.size:Int):=by omega
    rw[B]at l;have l:=zh l;clear o f P Q r ha B E t M n;go_enter Tryz.func4,Tryz.ntmps4
    go_wp2_with (first
     |(go_at_call 6;(refine(z.out _ c.out).mono ?_);rintro e1 T ⟨rfl,b⟩;have i:=zh (c.out.trans (b.mono c.out.size));clear b c)
     |(go_at_call 10;(with_reducible refine(q.out _).mono ?_);rintro L j ⟨m,rfl,k,b⟩;have d:=zh (i.out.trans (b.mono i.out.size));have G:=zh k;clear b k q)
     |(go_at_call 9;(refine(l.out _ m (d.out.trans ((below_alloc1 _ _).mono d.out.size)) (G.out.below (below_alloc1 _ _))).mono ?_);rintro V Z ⟨rfl,b⟩;have F:=zh ((d.out.trans ((below_alloc1 _ _).mono d.out.size)).trans (b.mono (d.out.trans ((below_alloc1 _ _).mono d.out.size)).size));clear b l))
    go_ret;exact⟨rfl,F.out⟩
  ·have ze:(A != 0)=true:=by simp[W]
   clear o f n;go_enter Tryz.func4,Tryz.ntmps4
   go_wp2_with (first
    |(go_at_call 6;(refine(z.out _ c.out).mono ?_);rintro e1 T ⟨rfl,b⟩;have i:=zh (c.out.trans (b.mono c.out.size));clear b c)
    |(go_at_call 10;(with_reducible refine(q.out _).mono ?_);rintro L j ⟨m,rfl,k,b⟩;have d:=zh (i.out.trans (b.mono i.out.size));have G:=zh k;clear b k q))
   go_ret;exact⟨rfl,d.out.trans ((below_alloc1 _ _).mono d.out.size)⟩
 ·have U:(1500:Int)<(s.size:Int):=by omega
  clear o n;go_enter Tryz.func4,Tryz.ntmps4
  go_wp2_with (first
   |(go_at_call 6;(refine(z.out _ c.out).mono ?_);rintro e1 T ⟨rfl,b⟩;have i:=zh (c.out.trans (b.mono c.out.size));clear b c)
   |(go_at_call 6;(refine(z.out _ i.out).mono ?_);rintro e1 w4 ⟨rfl,b⟩;have X:=zh (i.out.trans (b.mono i.out.size));clear b))
  go_ret;exact⟨rfl,X.out⟩
end
end Go.Proofs.YtfbepcelkijgkaaGreatDoor
