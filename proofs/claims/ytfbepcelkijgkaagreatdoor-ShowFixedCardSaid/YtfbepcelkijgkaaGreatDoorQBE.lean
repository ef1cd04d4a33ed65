import Derived.Test.YtfbepcelkijgkaaGreatDoorQBB
set_option maxRecDepth 100000
set_option maxHeartbeats 8000000
open Option renaming some → Ya, none → Yb
open Go.Value renaming slice → Yc, int → Yd
open Go.IntKind renaming i64 → Yf
open Go.Obj renaming cells → Yg
open Go renaming World → Yh, Value → Yi
namespace Go.Proofs.YtfbepcelkijgkaaGreatDoor
section
open Go.RowKit
theorem Zjt (c:Int) (a b:Tr):ZaZ c a b=.mk 22 [] [c] a.ps [a,b]:=by cases a;rfl
theorem Zli (w:Yh) (cs:Array Yi) (ty:TypeId) (B a n:Nat) (b:B<=w.heap.size) (hs:cs.size=n*a) (hn:n<=maxLen):(w.alloc (.cells cs ty)).ownsRow B ty a (Yc (Ya ⟨w.heap.size,0,Yb⟩) n n) n cs.toList:=
 ⟨by rw[Array.length_toList];exact hs,.inr ⟨_,n,cs,rfl,b,Zh.start w cs ty,Nat.le_refl _,hn,hs,by rw[<-hs,<-Array.length_toList,List.take_length]⟩⟩
theorem Zq7 (w:Yh) (f:Int) (x y:NV) (t u:Tr) (Q:Nat->Prop) (hx:TrO w Q x t) (p:TrO w Q y u) (o:∀c,w.heap.size<=c->Q c) (b d g:Obj) :
  TrO (((((w.alloc b).alloc d).alloc g).alloc (Yg #[Yd Yf f] 2)).alloc (.cells (ZaX [(x,t),(y,u)]).toArray 58)) Q (Yc Yb 0 0,Yc (Ya ⟨w.heap.size+1+1+1,0,Yb⟩) 1 1,Yc (Ya ⟨w.heap.size+1+1+1+1,0,Yb⟩) 2 2) (ZaZ f t u) ∧
  Below w.heap.size w (((((w.alloc b).alloc d).alloc g).alloc (Yg #[Yd Yf f] 2)).alloc (.cells (ZaX [(x,t),(y,u)]).toArray 58)):=by
 have A:(w.alloc b).heap.size=w.heap.size+1:=by simp
 have B:((w.alloc b).alloc d).heap.size=w.heap.size+1+1:=by simp
 have s:(((w.alloc b).alloc d).alloc g).heap.size=w.heap.size+1+1+1:=by simp
 have m:Below w.heap.size w (((w.alloc b).alloc d).alloc g):=(((Below.refl w.heap.size w).alloc (Nat.le_refl _) b).alloc (by omega) d).alloc (by omega) g;generalize((w.alloc b).alloc d).alloc g=h at *;have C:(h.alloc (Yg #[Yd Yf f] 2)).heap.size=h.heap.size+1:=by simp
 have n:=m.alloc (by omega) (Yg #[Yd Yf f] 2);have j:=Zli h #[Yd Yf f] 2 0 1 1 (Nat.zero_le _) rfl (by decide);generalize h.alloc (Yg #[Yd Yf f] 2)=i at *;have l:=n.alloc (by omega) (.cells (ZaX [(x,t),(y,u)]).toArray 58);have a5:=below_alloc1 i (.cells (ZaX [(x,t),(y,u)]).toArray 58);have k:=Zli i (ZaX [(x,t),(y,u)]).toArray 58 0 6 2 (Nat.zero_le _) rfl (by decide);rw[s]at j;rw[show i.heap.size=w.heap.size+1+1+1+1 by omega]at k;refine⟨?_,l⟩;rw[Zjt];have a:∀(z:NV) (v:Tr),TrO w Q z v->TrO (i.alloc (.cells (ZaX [(x,t),(y,u)]).toArray 58)) (fun c=>Q c/\(Value.slice (Ya ⟨w.heap.size+1+1+1+1,0,Yb⟩) 2 2).ownBlock≠Ya c) z v:=fun z v r=>(r.lt.keep l).mono fun c hc=>⟨hc.1,fun e=>by injection e with e;have:=hc.2;dsimp only at e;omega⟩
 exact .mk (vs:=[(x,t),(y,u)]) (World.ownsRow_nil _ _ _ _) (fun _ q=>(nomatch q)) (ZcE j a5) k (fun c e=>by injection e with e;dsimp only at e;exact o c (by omega)) (fun v hv=>by
  rcases List.mem_cons.1 hv with rfl|hv
  ·exact a _ _ hx
  ·rw[List.mem_singleton]at hv;subst hv;exact a _ _ p)
theorem ZeI (w:Yh) (a:Int) (x y:NV) (t u:Tr) (Q:Nat->Prop) (hx:TrO w Q x t) (b:TrO w Q y u) (f:∀c,w.heap.size<=c->Q c) :
  Calls Tryz.prog 133 #[Yd Yf a,ZbN (x,t),ZbN (y,u)] w fun e w'=>∃z:NV,e=.returned (ZbN (z,ZaZ a t u))/\TrO w' Q z (ZaZ a t u)/\Below w.heap.size w w':=by
 have j:=hx.shape2;have k:=b.shape2;obtain⟨A,n,c,B,m,d,C,q,e,rfl⟩:=j;obtain⟨g,E,l,h,D,o,i,F,p,rfl⟩:=k;have H:=zh (zi hx (zi b f));clear hx b f;go_enter Tryz.func133,Tryz.ntmps133;go_wp2_with fail;obtain⟨r,s⟩:=Zq7 w a _ _ t u Q H.out.1 H.out.2.1 H.out.2.2 (Yg #[Yd Yf t.kd,Yc A n c,Yc B m d,Yc Yb 0 0,Yd Yf t.ps,Yc C q e] 58) (Yg #[Yd Yf u.kd,.slice g E l,.slice h D o,Yc Yb 0 0,Yd Yf u.ps,.slice i F p] 58) (Yg #[Yd Yf 22,Yc Yb 0 0,Yc (Ya ⟨w.heap.size+1+1+1,0,Yb⟩) 1 1,Yc Yb 0 0,Yd Yf t.ps,Yc (Ya ⟨w.heap.size+1+1+1+1,0,Yb⟩) 2 2] 58);exact bodyPost_ret (v:=.agg #[Yd Yf 22,Yc Yb 0 0,Yc (Ya ⟨w.heap.size+1+1+1,0,Yb⟩) 1 1,Yc Yb 0 0,Yd Yf t.ps,Yc (Ya ⟨w.heap.size+1+1+1+1,0,Yb⟩) 2 2]) (by simp[results,Tryz.results133,go_sem]) rfl ⟨_,by rw[Zjt];rfl,r,s⟩
end
section
open Go.RowKit
structure An (w0 w wi:Yh) (bp b r:Nat) (vL:Yi) (L:List Tok) (s:PS) (x:NV) (t:Tr):Prop where
 P:ParS w0 wi bp vL L s
 F:Fp w wi bp
 K:Zh wi b 58 #[Yd Yf t.kd,x.1,x.2.1,Yc Yb 0 0,Yd Yf t.ps,x.2.2]
 T:TrO wi (fun c=>w.heap.size<=c/\c≠b/\c≠r) x t
 R:Zh wi r 58 Zbi
 B:w.heap.size<=b/\w.heap.size<=r/\b≠r/\w0.heap.size<=w.heap.size
section
variable {w0 w wi w1 wa:Yh} {bp b r:Nat} {vL:Yi} {L:List Tok} {s s2:PS} {x y:NV} {t u:Tr}
theorem An.bne (h:An w0 w wi bp b r vL L s x t):b≠bp/\r≠bp:=⟨Zec h.K h.P.box (by decide),Zec h.R h.P.box (by decide)⟩
theorem An.call (h:An w0 w wi bp b r vL L s x t) (c:ParS w0 w1 bp vL L s2) (a:Fp wi w1 bp):An w0 w w1 bp b r vL L s2 x t:=
 ⟨c,h.F.trans a,a.tblk h.K h.bne.1,h.P.tree h.T a,a.tblk h.R h.bne.2,h.B⟩
theorem An.below (h:An w0 w wi bp b r vL L s x t) (a:Below wi.heap.size wi w1):An w0 w w1 bp b r vL L s x t:=h.call (h.P.keep a) (Fp.of_below bp a)
theorem An.drew (h:An w0 w wi bp b r vL L s x t):An w0 w wi.drew bp b r vL L s x t:=h.below (Za7 wi)
theorem An.shape (h:An w0 w wi bp b r vL L s x t):∃A n c B m d C q e,x=(Yc A n c,Yc B m d,Yc C q e):=h.T.shape2
theorem An.cells (h:An w0 w wi bp b r vL L s x t):wi.cell? ⟨b,0,Yb⟩=Ya (Yd Yf t.kd)/\wi.cell? ⟨b,1,Yb⟩=Ya x.1/\wi.cell? ⟨b,2,Yb⟩=Ya x.2.1/\wi.cell? ⟨b,3,Yb⟩=Ya (Yc Yb 0 0)/\wi.cell? ⟨b,4,Yb⟩=Ya (Yd Yf t.ps)/\wi.cell? ⟨b,5,Yb⟩=Ya x.2.2:=by have c:=fun i=>h.K.blk.cell i;exact⟨c 0,c 1,c 2,c 3,c 4,c 5⟩
theorem An.free (h:An w0 w wi bp b r vL L s x t) (i:Nat):wi.frozen? ⟨b,i,Yb⟩=false:=h.K.blk.free i
theorem An.zeros (h:An w0 w wi bp b r vL L s x t):wi.cell? ⟨r,0,Yb⟩=Ya (Yd Yf 0)/\wi.cell? ⟨r,1,Yb⟩=Ya (Yc Yb 0 0)/\wi.cell? ⟨r,2,Yb⟩=Ya (Yc Yb 0 0)/\wi.cell? ⟨r,3,Yb⟩=Ya (Yc Yb 0 0)/\wi.cell? ⟨r,4,Yb⟩=Ya (Yd Yf 0)/\wi.cell? ⟨r,5,Yb⟩=Ya (Yc Yb 0 0):=by have c:=fun i=>h.R.blk.cell i;exact⟨c 0,c 1,c 2,c 3,c 4,c 5⟩
theorem An.rfree (h:An w0 w wi bp b r vL L s x t) (i:Nat):wi.frozen? ⟨r,i,Yb⟩=false:=h.R.blk.free i
theorem An.start (h:ParS w0 w bp vL L s) (ha:w.alloc (.cells Zbi 58)=wa) (f:ParS w0 w1 bp vL L s2) (g:TrO w1 (fun c=>wa.heap.size<=c) x t) (a:Fp wa w1 bp) :
  An w0 w (w1.alloc (Yg #[Yd Yf t.kd,x.1,x.2.1,Yc Yb 0 0,Yd Yf t.ps,x.2.2] 58)) bp w1.heap.size w.heap.size vL L s2 x t:=by
 subst ha;have a2:=below_alloc1 w1 (Yg #[Yd Yf t.kd,x.1,x.2.1,Yc Yb 0 0,Yd Yf t.ps,x.2.2] 58);have hs:w.heap.size<w1.heap.size:=Nat.lt_of_lt_of_le (by simp) a.size;have d:=h.box.lt;have b:=a.tblk (Zh.start w Zbi 58) (by omega);refine⟨f.keep a2,((Fp.of_below bp (below_alloc1 w _)).trans a).trans (Fp.of_below bp a2),Zh.start w1 _ _,(g.lt.keep a2).mono fun c hc=>?_,b.keep a2,⟨Nat.le_of_lt hs,Nat.le_refl _,Nat.ne_of_gt hs,h.below.size⟩⟩;have e:(w.alloc (.cells Zbi 58)).heap.size=w.heap.size+1:=by simp
 have:=hc.1;have:=hc.2;omega
theorem An.put (h:An w0 w wi bp b r vL L s x t) (a:TrO wi (fun c=>w.heap.size<=c/\c≠b/\c≠r) y u):An w0 w ((((((wi.setCell ⟨b,0,Yb⟩ (Yd Yf u.kd)).setCell ⟨b,1,Yb⟩ y.1).setCell ⟨b,2,Yb⟩ y.2.1).setCell ⟨b,3,Yb⟩ (Yc Yb 0 0)).setCell ⟨b,4,Yb⟩ (Yd Yf u.ps)).setCell ⟨b,5,Yb⟩ y.2.2) bp b r vL L s y u:=by
 have g:wi.grownBy (ZfB wi b (Yd Yf u.kd) y.1 y.2.1 (Yc Yb 0 0) (Yd Yf u.ps) y.2.2) (Ya b):=((((Zas.trans Zas).trans Zas).trans Zas).trans Zas).trans Zas;refine⟨⟨h.P.box.grown g (fun e=>h.bne.1 (by injection e)),h.P.toks,h.P.below.grown g h.P.below.size (fun q hq=>by injection hq with hq;subst hq;exact Nat.le_trans h.B.2.2.2 h.B.1),h.P.ge,h.P.lt,h.P.few⟩,?_,ZrM h.K _ _ _ _ _ _,a.kept g (fun c e=>?_),h.R.grown g (fun e=>h.B.2.2.1 (by injection e)),h.B⟩
 ·exact⟨g.os.trans h.F.os,g.tape.trans h.F.tape,g.output.trans h.F.output,Nat.le_trans h.F.size g.size,fun c hc hn=>(g.block c (Nat.lt_of_lt_of_le hc h.F.size) (fun e=>by injection e with e;have:=h.B.1;omega)).trans (h.F.block c hc hn)⟩
 ·injection e with e;subst e;exact⟨_,_,h.K,by decide,by decide,.inr fun c hc=>hc.2.1⟩
theorem An.out (h:An w0 w wi bp b r vL L s x t) (l:TrO wi (fun c=>w.heap.size<=c/\c≠r) y u) (a d f i j k:Yi) :
  ParS w0 (ZfB wi r a d f i j k) bp vL L s/\TrO (ZfB wi r a d f i j k) (fun c=>w.heap.size<=c) y u/\Fp w (ZfB wi r a d f i j k) bp:=by
 have g:wi.grownBy (ZfB wi r a d f i j k) (Ya r):=((((Zas.trans Zas).trans Zas).trans Zas).trans Zas).trans Zas;refine⟨⟨h.P.box.grown g (fun e=>h.bne.2 (by injection e)),h.P.toks,h.P.below.grown g h.P.below.size (fun q hq=>by injection hq with hq;subst hq;exact Nat.le_trans h.B.2.2.2 h.B.2.1),h.P.ge,h.P.lt,h.P.few⟩,(l.kept g (fun c e=>?_)).mono (fun c hc=>hc.1),?_⟩
 ·injection e with e;subst e;exact⟨_,_,h.R,by decide,by decide,.inr fun c hc=>hc.2⟩
 ·exact⟨g.os.trans h.F.os,g.tape.trans h.F.tape,g.output.trans h.F.output,Nat.le_trans h.F.size g.size,fun c hc hn=>(g.block c (Nat.lt_of_lt_of_le hc h.F.size) (fun e=>by injection e with e;have:=h.B.2.1;omega)).trans (h.F.block c hc hn)⟩
theorem An.fresh (h:An w0 w wi bp b r vL L s x t) {c:Nat} (hc:wi.heap.size<=c):w.heap.size<=c/\c≠b/\c≠r:=by have a:=h.K.lt;have d:=h.R.lt;have e:=h.B;exact⟨by omega,by omega,by omega⟩
end
end
section
open Go.RowKit
def Zer (a:List Nd) (b:Nat) (n:Int):List Nd:=match a[b]? with
 |some x=>a.set b ⟨x.kind,x.words,x.nums,x.kids++[n],x.pos⟩
 |none=>a
mutual
def Zcf:Tr->List Nd->List Nd
 |.mk k ws us p ks,out=>ZcC ks out.length (out++[⟨k,ws,us,[],p⟩])
def ZcC:List Tr->Nat->List Nd->List Nd
 |[],_,out=>out
 |t::r,at_,out=>ZcC r at_ (Zcf t (Zer out at_ (out.length:Int)))
end
mutual
def szT:Tr->Nat
 |.mk _ _ _ _ a=>Zaq a+1
def Zaq:List Tr->Nat
 |[]=>0
 |t::r=>szT t+Zaq r
end
theorem ZdD (b:List Nd) (a:Nat) (n:Int):(Zer b a n).length=b.length:=by
 unfold Zer
 split<;>simp
mutual
theorem ZdZ:∀(t:Tr) (a:List Nd),(Zcf t a).length=a.length+szT t
 |.mk k ws us p ks,a=>by rw[Zcf,Zhz ks,szT,Yj];simp;omega
theorem Zhz:∀(ts:List Tr) (a:Nat) (b:List Nd),(ZcC ts a b).length=b.length+Zaq ts
 |[],a,b=>by rw[ZcC,Zaq];rfl
 |t::r,a,b=>by rw[ZcC,Zhz r,ZdZ t,ZdD,Zaq];omega
end
theorem ZgE:∀(c:List (NdV×Nd)) (i:Nat) (x:NdV×Nd) (a:Yi) (b:List Int),c[i]? = Ya x->ZaV (c.set i ((x.1.1,x.1.2.1,a),⟨x.2.kind,x.2.words,x.2.nums,b,x.2.pos⟩))=(ZaV c).set (i*5+3) a
 |[],i,x,a,b,h=>by simp at h
 |y::r,0,x,a,b,h=>by
  obtain rfl:y=x:=by simpa using h
  rfl
 |y::r,i+1,x,a,b,h=>by
  rw[List.getElem?_cons_succ]at h;rw[List.set_cons_succ,ZaV,ZaV,ZgE r i x a b h,show(i+1)*5+3=(i*5+3)+1+1+1+1+1 by omega];rfl
structure LayS (w:Yh) (B:Nat) (v:Yi) (rs:List (NdV×Nd)):Prop where
 own:w.ownsRow B 37 5 v rs.length (ZaV rs)
 each:∀(i:Nat) (x:NdV×Nd),rs[i]? = Ya x->w.ownsRow 0 9 1 x.1.1 x.2.words.length (x.2.words.map txt)/\w.ownsRow 0 2 1 x.1.2.1 x.2.nums.length (x.2.nums.map (Value.int Yf))/\w.ownsRow B 3 1 x.1.2.2 x.2.kids.length (x.2.kids.map (Value.int Yf))/\∀y∈x.2.words,y.length<=maxLen
 apart:∀(i j:Nat) (x y:NdV×Nd) (c:Nat),i≠j->rs[i]? = Ya x->rs[j]? = Ya y->x.1.2.2.ownBlock=Ya c->y.1.2.2.ownBlock≠Ya c
def ZcP (w w2:Yh):Prop:=w.heap.size<=w2.heap.size/\∀b a c,Zh w b a c->a≠37->a≠3->Zh w2 b a c
theorem ZcP.refl (w:Yh):ZcP w w:=⟨Nat.le_refl _,fun _ _ _ h _ _=>h⟩
theorem ZcP.trans {w w1 w2:Yh} (h:ZcP w w1) (k:ZcP w1 w2):ZcP w w2:=⟨Nat.le_trans h.1 k.1,fun b f e a c d=>k.2 b f e (h.2 b f e a c d) c d⟩
theorem ZcP.of_below {w w2:Yh} (h:Below w.heap.size w w2):ZcP w w2:=⟨h.size,fun _ _ _ a _ _=>a.keep h⟩
theorem ZcP.row {w w3:Yh} {B n f:Nat} {e:TypeId} {v:Yi} {j:List Yi} (i:w.ownsRow B e f v n j) (h:e=37\/e=3) (g:w.grownBy w3 v.ownBlock):ZcP w w3:=
 ⟨g.size,fun b l k a c d=>a.grown g (a.off i (by rcases h with rfl|rfl;exact c;exact d))⟩
theorem ZcP.set {w:Yh} {g j:Nat} {cs:Array Yi} {u:Yi} (h:Zh w g 37 cs):ZcP w (w.setCell ⟨g,j,Yb⟩ u):=
 ⟨by simp[World.setCell],fun b f d a c _=>a.other (p:=⟨g,j,Yb⟩) (fun e=>by dsimp only at e;subst e;exact Zec a h c rfl) u⟩
section
variable {w w3:Yh} {B:Nat} {v v3:Yi} {rs:List (NdV×Nd)}
theorem LayS.nil (w:Yh) (B:Nat):LayS w B (Yc Yb 0 0) []:=⟨World.ownsRow_nil _ _ _ _,fun i x h=>(by simp at h),fun i j x y c _ h=>(by simp at h)⟩
theorem LayS.below (h:LayS w B v rs) (a:Below w.heap.size w w3):LayS w3 B v rs:=
 ⟨ZcE h.own a,fun i x hx=>⟨ZcE (h.each i x hx).1 a,ZcE (h.each i x hx).2.1 a,ZcE (h.each i x hx).2.2.1 a,(h.each i x hx).2.2.2⟩,h.apart⟩
theorem LayS.push {x:NdV×Nd} (h:LayS w B v rs) (hx:w.ownsRow 0 9 1 x.1.1 x.2.words.length (x.2.words.map txt)/\w.ownsRow 0 2 1 x.1.2.1 x.2.nums.length (x.2.nums.map (Value.int Yf))/\∀y∈x.2.words,y.length<=maxLen) (hk:x.1.2.2=Yc Yb 0 0/\x.2.kids=[])
  (g:w3.ownsRow B 37 5 v3 (rs.length+1) (ZaV rs++ZaV [x])) (f:w.grownBy w3 v.ownBlock):LayS w3 B v3 (rs++[x]):=by
 refine⟨by rw[Yj,Zgc];exact g,fun i y a=>?_,fun i j y z c l a k hc=>?_⟩
 ·rcases Nat.lt_or_ge i rs.length with b|b
  ·rw[List.getElem?_append_left b]at a;obtain⟨e1,o,p,r⟩:=h.each i y a;exact⟨ZcK e1 h.own (by decide) f,ZcK o h.own (by decide) f,ZcK p h.own (by decide) f,r⟩
  ·rw[List.getElem?_append_right b]at a;obtain rfl:x=y:=by
    cases q:i-rs.length with
    |zero=>rw[q]at a;simpa using a
    |succ n=>rw[q]at a;simp at a
   rw[hk.1,hk.2];exact⟨ZcK hx.1 h.own (by decide) f,ZcK hx.2.1 h.own (by decide) f,World.ownsRow_nil _ _ _ _,hx.2.2⟩
 ·have e:∀(m:Nat) (u:NdV×Nd),(rs++[x])[m]? = Ya u->(rs[m]? = Ya u)\/u.1.2.2=Yc Yb 0 0:=fun m u d=>by
   rcases Nat.lt_or_ge m rs.length with b|b
   ·rw[List.getElem?_append_left b]at d;exact .inl d
   ·rw[List.getElem?_append_right b]at d;refine .inr ?_;cases q:m-rs.length with
    |zero=>rw[q]at d;obtain rfl:x=u:=by simpa using d
           exact hk.1
    |succ n=>rw[q]at d;simp at d
  rcases e i y a with a|a
  ·rcases e j z k with k|k
   ·exact h.apart i j y z c l a k hc
   ·rw[k];simp[Value.ownBlock]
  ·rw[a]at hc;simp[Value.ownBlock]at hc
theorem Zit {n a:Nat} {e:TypeId} {j:List Yi} (h:w.ownsRow B e a v n j) (hn:0<n):∃g c cs,v=Yc (Ya ⟨g,0,Yb⟩) n c/\Zh w g e cs/\B<=g:=by
 rcases h.2 with⟨_,k⟩|⟨g,b,d,rfl,f,i,_⟩
 ·omega
 ·exact⟨g,b,d,rfl,i,f⟩
theorem LayS.kid {g c a:Nat} {x:NdV×Nd} {kv:Yi} {n:Int} (h:LayS w B (Yc (Ya ⟨g,0,Yb⟩) rs.length c) rs) (hx:rs[a]? = Ya x) (D:w3.ownsRow B 3 1 kv (x.2.kids.length+1) (x.2.kids.map (Value.int Yf)++[Yd Yf n])) (t:w.grownBy w3 x.1.2.2.ownBlock) (C:kv.ownBlock=x.1.2.2.ownBlock\/kv.ownBlock=Ya w.heap.size) :
  w3.cell? ⟨g,a*5+3,Yb⟩=Ya x.1.2.2/\w3.frozen? ⟨g,a*5+3,Yb⟩=false/\LayS (w3.setCell ⟨g,a*5+3,Yb⟩ kv) B (Yc (Ya ⟨g,0,Yb⟩) rs.length c) (rs.set a ((x.1.1,x.1.2.1,kv),⟨x.2.kind,x.2.words,x.2.nums,x.2.kids++[n],x.2.pos⟩))/\ZcP w (w3.setCell ⟨g,a*5+3,Yb⟩ kv):=by
 have r:=(List.getElem?_eq_some_iff.1 hx).1;obtain⟨I,J,v,L⟩:=h.each a x hx;have f:=ZcK h.own v (by decide) t;obtain⟨O,M,N,hv,p,P⟩:=Zit f (by omega);simp only[Value.slice.injEq,Option.some.injEq,Addr.mk.injEq,and_true,true_and]at hv;obtain⟨rfl,rfl⟩:=hv;have o:=f.cells (g:=g) rfl (a*5+3) x.1.2.2 (ZeX rs a x hx).2.2.2.1;rw[Addr.add_lit,Nat.zero_add]at o;have K:=(ZcP.row v (.inr rfl) t).trans (ZcP.set (j:=a*5+3) (u:=kv) p);refine⟨o,p.blk.free _,⟨?_,?_,?_⟩,K⟩
 ·have s:=(World.ownsRow.stored f (a*5+3) kv).1;rw[<-ZgE rs a x kv (x.2.kids++[n]) hx]at s;rw[List.length_set];exact s
 ·intro i y b;by_cases d:a=i
  ·subst d;rw[List.getElem?_set_self r]at b;injection b with b;subst b;refine⟨ZbY (ZcK I v (by decide) t) p (by decide),ZbY (ZcK J v (by decide) t) p (by decide),?_,L⟩;have:=ZbY (j:=a*5+3) (u:=kv) D p (by decide);simpa using this
  ·rw[List.getElem?_set_ne d]at b;obtain⟨e1,F,G,H⟩:=h.each i y b;refine⟨ZbY (ZcK e1 v (by decide) t) p (by decide),ZbY (ZcK F v (by decide) t) p (by decide),ZbY (G.kept t ?_) p (by decide),H⟩;cases q:x.1.2.2.ownBlock with
   |none=>cases q2:y.1.2.2.ownBlock with
    |none=>exact .inl rfl
    |some m=>exact .inr (by simp)
   |some m=>exact .inr (h.apart a i x y m d hx b q)
 ·
  have E:∀(i:Nat) (y:NdV×Nd) (m:Nat),rs[i]? = Ya y->y.1.2.2.ownBlock=Ya m->m<w.heap.size:=fun i y m b hm=>((h.each i y b).2.2.1.lt m hm).2;intro i j y z m k b l hm;by_cases d:a=i
  ·subst d;rw[List.getElem?_set_self r]at b;injection b with b;subst b;rw[List.getElem?_set_ne k]at l;dsimp only at hm;rcases C with q|q
   ·rw[q]at hm;exact h.apart a j x z m k hx l hm
   ·rw[q]at hm;injection hm with hm;subst hm;exact fun e=>Nat.lt_irrefl _ (E j z _ l e)
  ·rw[List.getElem?_set_ne d]at b;by_cases A:a=j
   ·subst A;rw[List.getElem?_set_self r]at l;injection l with l;subst l;dsimp only;rcases C with q|q
    ·rw[q];exact h.apart i a y x m k b hx hm
    ·rw[q];exact fun e=>by injection e with e;have:=E i y m b hm;omega
   ·rw[List.getElem?_set_ne A]at l;exact h.apart i j y z m k b l hm
theorem ZpN {a:Nat} {x:NdV×Nd} {kv:Yi} {n:Int} (hx:rs[a]? = Ya x):(rs.set a ((x.1.1,x.1.2.1,kv),⟨x.2.kind,x.2.words,x.2.nums,x.2.kids++[n],x.2.pos⟩)).map (·.2)=Zer (rs.map (·.2)) a n:=by unfold Zer;rw[List.getElem?_map,hx,List.map_set];rfl
end
theorem Zr8:(Tryz.prog.info? 37).map (fun i=>(i.zero,i.size,i.bytes))=Ya (Ya (.agg #[Yd Yf 0,Yc Yb 0 0,Yc Yb 0 0,Yc Yb 0 0,Yd Yf 0]),5,88):=by kernel_rfl
theorem Zr9:(Tryz.prog.info? 3).map (fun i=>(i.zero,i.size,i.bytes))=Ya (Ya (Yd Yf 0),1,8):=by kernel_rfl
theorem ZnR (w:Yh) (a b c d e:Yi) (ty:TypeId):ZM (w.alloc (Yg #[a,b,c,d,e] ty)) (w.heap.size+1) 5 (Ya ⟨w.heap.size,0,Yb⟩) 1 [a,b,c,d,e]:=
 ⟨rfl,fun _=>⟨_,rfl,Nat.lt_succ_self _,fun j v f=>Zgi w #[a,b,c,d,e] ty j v (by simpa using f)⟩⟩
theorem Zqo (k p:Int) (A B C:Option Addr) (n c m d q e:Nat):∀u∈[Value.int Yf k,Yc A n c,Yc B m d,Yc C q e,Yd Yf p],u.oneCell'=true:=fun u a=>by
 simp at a;rcases a with rfl|rfl|rfl|rfl|rfl<;>rfl
end
section
theorem ZdL:∀(a b:List Tr),Zaq (a++b)=Zaq a+Zaq b
 |[],b=>by rw[List.nil_append,Zaq];omega
 |t::r,b=>by rw[List.cons_append,Zaq,Zaq,ZdL r b];omega
theorem Zco (t:Tr):Zaq [t]=szT t:=by rw[Zaq,Zaq];rfl
theorem ZbF (k:Int) (b:List Txt) (us:List Int) (p:Int) (a:List Tr):szT (.mk k b us p a)=Zaq a+1:=by rw[szT]
theorem Zh0 (c:Int) (a b:Tr):szT (ZaZ c a b)=szT a+szT b+1:=by rw[Zjt,ZbF,Zaq,Zaq,Zaq];omega
section
variable {L:List Tok}
abbrev SzM (D:PS->Prop) (M:PS->Tr×PS):Prop:=∀s,D s->(M s).2.err=0->szT (M s).1+s.at_<=(M s).2.at_
theorem ZgQ (k:ZW L) {D:PS->Prop} (hD:Dom L D) {d:PS->Tr×PS} (l:Onw L D d) (o:SzM D d) (x y:Txt) (i j:Int):∀(f:Nat) (a:Tr) (s:PS),D s->(Zaz L d x y i j f a s).2.err=0->szT (Zaz L d x y i j f a s).1+s.at_<=(Zaz L d x y i j f a s).2.at_+szT a
 |0,a,s,_,_=>by rw[Zaz];dsimp only;omega
 |f+1,a,s,hs,e=>by
  unfold Zaz at e⊢;by_cases r:s.err=0
  ·rw[Yo r]at e⊢;by_cases h:isM L x s=true
   ·rw[Yo h]at e⊢;have g:=ZA k (hD.lt _ hs) h;have hd:=hD.next _ _ hs g.toAdv;have n:=l _ hd;have b:=hD.next _ _ hd n.toAdv;have c:=ZcH k hD l x y i j f (ZaZ i a (d (Zd s)).1) _ b;have p:=c.err e;have m:=ZgQ k hD l o x y i j f _ _ b e;have t:=o _ hd p;rw[Zh0]at m;have:(Zd s).at_=s.at_+1:=rfl;dsimp only at m⊢;omega
   ·rw[Yn h]at e⊢;by_cases q:isM L y s=true
    ·rw[Yo q]at e⊢;have g:=ZA k (hD.lt _ hs) q;have hd:=hD.next _ _ hs g.toAdv;have n:=l _ hd;have b:=hD.next _ _ hd n.toAdv;have c:=ZcH k hD l x y i j f (ZaZ j a (d (Zd s)).1) _ b;have p:=c.err e;have m:=ZgQ k hD l o x y i j f _ _ b e;have t:=o _ hd p;rw[Zh0]at m;have:(Zd s).at_=s.at_+1:=rfl;dsimp only at m⊢;omega
    ·rw[Yn q];dsimp only;omega
  ·rw[Yn r];dsimp only;omega
theorem ZnL (c:ZW L) {D:PS->Prop} (hD:Dom L D) {a:PS->Tr×PS} (b:Onw L D a) (d:SzM D a):SzM D (Zai L a):=fun s hs e=>by
 have hd:=hD.next _ _ hs (b s hs).toAdv;have f:=ZgQ c hD b d [42] [47] 4 5 (L.length+1) (a s).1 _ hd e;have g:=d s hs ((ZcH c hD b [42] [47] 4 5 (L.length+1) (a s).1 _ hd).err e);unfold Zai;dsimp only;omega
theorem Zsg (b:ZW L) {D:PS->Prop} (hD:Dom L D) {a:PS->Tr×PS} (c:Onw L D a) (f:SzM D a):SzM D (ZK L a):=fun s hs e=>by
 have hq:=Zd9 b hD c;have d:=ZnL b hD c f;have hd:=hD.next _ _ hs (hq s hs).toAdv;have g:=ZgQ b hD hq d [43] [45] 2 3 (L.length+1) (Zai L a s).1 _ hd e;have h:=d s hs ((ZcH b hD hq [43] [45] 2 3 (L.length+1) (Zai L a s).1 _ hd).err e);unfold ZK;dsimp only;omega
theorem Zms (c:ZW L) {D:PS->Prop} (hD:Dom L D) {a:PS->Tr×PS} (f:Onw L D a) (k:SzM D a):SzM D (ZaO L a):=fun s hs e=>by
 have hq:=ZgH c hD f;have b:=Zsg c hD f k;have ha:=hD.next _ _ hs (hq s hs).toAdv;unfold ZaO at e⊢;dsimp only at e⊢;by_cases h:isM L [60] (ZK L a s).2=true
 ·rw[Yo h]at e⊢;have g:=ZA c (hD.lt _ ha) h;have hd:=hD.next _ _ ha g.toAdv;have i:=b _ hd e;have j:=b s hs (g.toAdv.err ((hq _ hd).toAdv.err e));have:(Zd (ZK L a s).2).at_=(ZK L a s).2.at_+1:=rfl;dsimp only;rw[Zh0];omega
 ·rw[Yn h]at e⊢;by_cases d:isM L [61,61] (ZK L a s).2=true
  ·rw[Yo d]at e⊢;have g:=ZA c (hD.lt _ ha) d;have hd:=hD.next _ _ ha g.toAdv;have i:=b _ hd e;have j:=b s hs (g.toAdv.err ((hq _ hd).toAdv.err e));have:(Zd (ZK L a s).2).at_=(ZK L a s).2.at_+1:=rfl;dsimp only;rw[Zh0];omega
  ·rw[Yn d]at e⊢;exact b s hs e
theorem Znl (s:PS):(inM L s).at_=s.at_:=(Zim s).1
theorem Zr7 {s:PS} (e:(inM L s).err=0):s.err=0:=by
 by_cases h:s.err=0
 ·exact h
 ·exact absurd e ((Zim s).2.2 h)
theorem Ziv (a:ZW L):∀(f:Nat),SzM (Dp L f) (ZE L f)
 |0,s,hs,e=>by have:=hs.fuel e;omega
 |f+1,s,hs,e=>by
  unfold ZE at e⊢;by_cases c:s.err≠0
  ·rw[Yo c]at e;exact absurd e c
  rw[Yn c]at e⊢;have k:s.err=0:=Classical.not_not.1 c;by_cases l:(ZaK L s).1=1
  ·rw[Yo l]at e⊢;have:=(Zc2 a 0 hs.lt).on e;dsimp only;rw[ZbF,Zaq];omega
  rw[Yn l]at e⊢;by_cases b:ZaY L s=true
  ·rw[Yo b]at e⊢;have:=(Zo a hs.lt).on e;dsimp only;rw[ZbF,Zaq];omega
  rw[Yn b]at e⊢;by_cases j:isM L [45] s=true
  ·rw[Yo j]at e⊢;have g:=ZA a hs.lt j;have d:=(ZX (f+1)).next _ _ hs g.toAdv;have i:=Zen d (.inl k);have h:=Ziv a f _ i e;rw[Znl]at h;have:(Zd s).at_=s.at_+1:=rfl;dsimp only;rw[ZbF,Zco];show szT _+1+s.at_<=(ZE L f (inM L (Zd s))).2.at_;omega
  rw[Yn j]at e⊢;have g:=Zq a [40] hs.lt;have d:=(ZX (f+1)).next _ _ hs g.toAdv;have i:=Zen d (.inr (by rw[g.deep];exact(hs.fuel k).1));have x:=ZgA a (ZX f) (Zb5 a f) _ i;have n:(ZdU (ZaO L (ZE L f) (inM L (Zf L [40] s))).2).at_<L.length:=x.lt i.lt;have w:=Zq a [41] n;have m:(ZaO L (ZE L f) (inM L (Zf L [40] s))).2.err=0:=w.toAdv.err e;have h:=Zms a (ZX f) (Zb5 a f) (Ziv a f) _ i m;rw[Znl]at h;have:=g.le;have b:=w.le;dsimp only at b⊢;have:(ZdU (ZaO L (ZE L f) (inM L (Zf L [40] s))).2).at_=(ZaO L (ZE L f) (inM L (Zf L [40] s))).2.at_:=rfl;omega
theorem Zhc (g:ZW L) {D:PS->Prop} (hD:Dom L D) {a:PS->Tr×PS} (c:∀s,D s->s.err=0->Adv L s (a s).2) (i:∀s,D s->s.err=0->(a s).2.err=0->szT (a s).1+s.at_<=(a s).2.at_) (x:Txt):∀(f:Nat) (l:List Tr) (s:PS),D s->(ZaP L a x f l s).2.err=0->Zaq (ZaP L a x f l s).1+s.at_<=(ZaP L a x f l s).2.at_+Zaq l
 |0,l,s,_,_=>by rw[ZaP];dsimp only;omega
 |f+1,l,s,hs,e=>by
  unfold ZaP at e⊢;by_cases b:s.err=0
  ·rw[Yo b]at e⊢;by_cases h:isM L x s=true
   ·rw[Yo h];have:(Zd s).at_=s.at_+1:=rfl;dsimp only;omega
   ·rw[Yn h]at e⊢;have n:=c s hs b;have hd:=hD.next _ _ hs n;have d:=Zhc g hD c i x f (l++[(a s).1]) _ hd e;have j:=i s hs b ((ZcV g hD c x f (l++[(a s).1]) _ hd).err e);rw[ZdL,Zco]at d;dsimp only at d⊢;omega
  ·rw[Yn b];dsimp only;omega
theorem Zhp (c:ZW L) {D:PS->Prop} (hD:Dom L D) {a:PS->Tr×PS} (d:∀s,D s->Adv L s (a s).2) (j:SzM D a):∀(f:Nat) (first:Bool) (l:List Tr) (s:PS),D s->(ZT L a f first l s).2.err=0->Zaq (ZT L a f first l s).1+s.at_<=(ZT L a f first l s).2.at_+Zaq l
 |0,_,l,s,_,_=>by rw[ZT];dsimp only;omega
 |f+1,first,l,s,hs,e=>by
  unfold ZT at e⊢;by_cases i:s.err=0
  ·rw[Yo i]at e⊢;by_cases h:isM L [41] s=true
   ·rw[Yo h];have:(Zd s).at_=s.at_+1:=rfl;dsimp only;omega
   ·rw[Yn h]at e⊢;have w:Adv L s (if first then s else Zf L [44] s):=by
     cases first
     ·exact(Zq c [44] (hD.lt _ hs)).toAdv
     ·exact Adv.refl s
    have b:=hD.next _ _ hs w;have n:=d _ b;have hd:=hD.next _ _ b n;have g:=Zhp c hD d j f false (l++[(a (if first then s else Zf L [44] s)).1]) _ hd e;have k:=j _ b ((Zc4 c hD d f false (l++[(a (if first then s else Zf L [44] s)).1]) _ hd).err e);have m:=w.le;rw[ZdL,Zco]at g;dsimp only at g⊢;omega
  ·rw[Yn i];dsimp only;omega
theorem ZdE (b:ZW L) {f:Nat} {st:PS->Tr×PS} (j:∀s,Dp L f s->s.err=0->Adv L s (st s).2) (l:∀s,Dp L f s->s.err=0->(st s).2.err=0->szT (st s).1+s.at_<=(st s).2.at_) {s:PS} (hs:Dp L (f+1) s) (a:s.deep<=200) (e:(Zaf L st s).2.err=0):szT (Zaf L st s).1+s.at_<=(Zaf L st s).2.at_:=by have g:=Zq b [123] hs.lt;have d:=(ZX (f+1)).next _ _ hs g.toAdv;have i:=Zen d (.inr (by rw[g.deep];exact a));have c:(ZaP L st [125] (L.length+1) [] (inM L (Zf L [123] s))).2.err=0:=e;have h:=Zhc b (ZX f) j l [125] _ [] _ i c;have k:=Zr7 ((ZcV b (ZX f) j [125] (L.length+1) [] _ i).err c);have:=g.on k;rw[Znl,Zaq]at h;unfold Zaf;dsimp only;rw[ZbF];show Zaq _+1+s.at_<=(ZaP L st [125] (L.length+1) [] (inM L (Zf L [123] s))).2.at_;omega
end
end
end Go.Proofs.YtfbepcelkijgkaaGreatDoor
