import Derived.Test.YtdkegpkfjgloeaaGreatDoorQAY
set_option maxRecDepth 100000
set_option maxHeartbeats 8000000
open Option renaming some → Ya, none → Yb
open Go.Value renaming slice → Yc, int → Yd
open Go.IntKind renaming i64 → Yf
open Go.Obj renaming cells → Yg
open Go renaming World → Yh, Value → Yi
namespace Go.Proofs.YtdkegpkfjgloeaaGreatDoor
section
open Go.RowKit
theorem Zi7 (c:Int) (a b:Tr):Zbd c a b=.mk 22 [] [c] a.ps [a,b]:=by cases a;rfl
theorem Zk5 (w:Yh) (cs:Array Yi) (ty:TypeId) (B a n:Nat) (c:B<=w.heap.size) (b:cs.size=n*a) (hn:n<=maxLen):(w.alloc (.cells cs ty)).ownsRow B ty a (Yc (Ya ⟨w.heap.size,0,Yb⟩) n n) n cs.toList:=
 ⟨by rw[Array.length_toList];exact b,.inr ⟨_,n,cs,rfl,c,Zk.start w cs ty,Nat.le_refl _,hn,b,by rw[<-b,<-Array.length_toList,List.take_length]⟩⟩
theorem Zrk (w:Yh) (f:Int) (x y:NV) (t u:Tr) (Q:Nat->Prop) (hx:TrO w Q x t) (p:TrO w Q y u) (o:∀c,w.heap.size<=c->Q c) (b d g:Obj) :
  TrO (((((w.alloc b).alloc d).alloc g).alloc (Yg #[Yd Yf f] 2)).alloc (.cells (ZaZ [(x,t),(y,u)]).toArray 55)) Q (Yc Yb 0 0,Yc (Ya ⟨w.heap.size+1+1+1,0,Yb⟩) 1 1,Yc (Ya ⟨w.heap.size+1+1+1+1,0,Yb⟩) 2 2) (Zbd f t u) ∧
  Below w.heap.size w (((((w.alloc b).alloc d).alloc g).alloc (Yg #[Yd Yf f] 2)).alloc (.cells (ZaZ [(x,t),(y,u)]).toArray 55)):=by
 have A:(w.alloc b).heap.size=w.heap.size+1:=by simp
 have B:((w.alloc b).alloc d).heap.size=w.heap.size+1+1:=by simp
 have s:(((w.alloc b).alloc d).alloc g).heap.size=w.heap.size+1+1+1:=by simp
 have m:Below w.heap.size w (((w.alloc b).alloc d).alloc g):=(((Below.refl w.heap.size w).alloc (Nat.le_refl _) b).alloc (by omega) d).alloc (by omega) g;generalize((w.alloc b).alloc d).alloc g=h at *;have C:(h.alloc (Yg #[Yd Yf f] 2)).heap.size=h.heap.size+1:=by simp
 have n:=m.alloc (by omega) (Yg #[Yd Yf f] 2);have j:=Zk5 h #[Yd Yf f] 2 0 1 1 (Nat.zero_le _) rfl (by decide);generalize h.alloc (Yg #[Yd Yf f] 2)=i at *;have l:=n.alloc (by omega) (.cells (ZaZ [(x,t),(y,u)]).toArray 55);have a5:=below_alloc1 i (.cells (ZaZ [(x,t),(y,u)]).toArray 55);have k:=Zk5 i (ZaZ [(x,t),(y,u)]).toArray 55 0 6 2 (Nat.zero_le _) rfl (by decide);rw[s]at j;rw[show i.heap.size=w.heap.size+1+1+1+1 by omega]at k;refine⟨?_,l⟩;rw[Zi7];have a:∀(z:NV) (v:Tr),TrO w Q z v->TrO (i.alloc (.cells (ZaZ [(x,t),(y,u)]).toArray 55)) (fun c=>Q c/\(Value.slice (Ya ⟨w.heap.size+1+1+1+1,0,Yb⟩) 2 2).ownBlock≠Ya c) z v:=fun z v r=>(r.lt.keep l).mono fun c hc=>⟨hc.1,fun e=>by injection e with e;have:=hc.2;dsimp only at e;omega⟩
 exact .mk (vs:=[(x,t),(y,u)]) (World.ownsRow_nil _ _ _ _) (fun _ q=>(nomatch q)) (ZcC j a5) k (fun c e=>by injection e with e;dsimp only at e;exact o c (by omega)) (fun v hv=>by
  rcases List.mem_cons.1 hv with rfl|hv
  ·exact a _ _ hx
  ·rw[List.mem_singleton]at hv;subst hv;exact a _ _ p)
theorem ZeD (w:Yh) (a:Int) (x y:NV) (t u:Tr) (Q:Nat->Prop) (hx:TrO w Q x t) (b:TrO w Q y u) (f:∀c,w.heap.size<=c->Q c) :
  Calls Tryz.prog 129 #[Yd Yf a,ZbQ (x,t),ZbQ (y,u)] w fun e w'=>∃z:NV,e=.returned (ZbQ (z,Zbd a t u))/\TrO w' Q z (Zbd a t u)/\Below w.heap.size w w':=by
 have j:=hx.shape2;have k:=b.shape2;obtain⟨A,n,c,B,m,d,C,q,e,rfl⟩:=j;obtain⟨g,E,l,h,D,o,i,F,p,rfl⟩:=k;have H:=zh (zi hx (zi b f));clear hx b f;go_enter Tryz.func129,Tryz.ntmps129;go_wp2_with fail;obtain⟨r,s⟩:=Zrk w a _ _ t u Q H.out.1 H.out.2.1 H.out.2.2 (Yg #[Yd Yf t.kd,Yc A n c,Yc B m d,Yc Yb 0 0,Yd Yf t.ps,Yc C q e] 55) (Yg #[Yd Yf u.kd,.slice g E l,.slice h D o,Yc Yb 0 0,Yd Yf u.ps,.slice i F p] 55) (Yg #[Yd Yf 22,Yc Yb 0 0,Yc (Ya ⟨w.heap.size+1+1+1,0,Yb⟩) 1 1,Yc Yb 0 0,Yd Yf t.ps,Yc (Ya ⟨w.heap.size+1+1+1+1,0,Yb⟩) 2 2] 55);exact bodyPost_ret (v:=.agg #[Yd Yf 22,Yc Yb 0 0,Yc (Ya ⟨w.heap.size+1+1+1,0,Yb⟩) 1 1,Yc Yb 0 0,Yd Yf t.ps,Yc (Ya ⟨w.heap.size+1+1+1+1,0,Yb⟩) 2 2]) (by simp[results,Tryz.results129,go_sem]) rfl ⟨_,by rw[Zi7];rfl,r,s⟩
end
section
open Go.RowKit
structure An (w0 w wi:Yh) (bp b r:Nat) (vL:Yi) (L:List Tok) (s:PS) (x:NV) (t:Tr):Prop where
 P:ParS w0 wi bp vL L s
 F:Fp w wi bp
 K:Zk wi b 55 #[Yd Yf t.kd,x.1,x.2.1,Yc Yb 0 0,Yd Yf t.ps,x.2.2]
 T:TrO wi (fun c=>w.heap.size<=c/\c≠b/\c≠r) x t
 R:Zk wi r 55 Zbo
 B:w.heap.size<=b/\w.heap.size<=r/\b≠r/\w0.heap.size<=w.heap.size
section
variable {w0 w wi w1 wa:Yh} {bp b r:Nat} {vL:Yi} {L:List Tok} {s s2:PS} {x y:NV} {t u:Tr}
theorem An.bne (h:An w0 w wi bp b r vL L s x t):b≠bp/\r≠bp:=⟨Zeb h.K h.P.box (by decide),Zeb h.R h.P.box (by decide)⟩
theorem An.call (h:An w0 w wi bp b r vL L s x t) (c:ParS w0 w1 bp vL L s2) (a:Fp wi w1 bp):An w0 w w1 bp b r vL L s2 x t:=
 ⟨c,h.F.trans a,a.tblk h.K h.bne.1,h.P.tree h.T a,a.tblk h.R h.bne.2,h.B⟩
theorem An.below (h:An w0 w wi bp b r vL L s x t) (a:Below wi.heap.size wi w1):An w0 w w1 bp b r vL L s x t:=h.call (h.P.keep a) (Fp.of_below bp a)
theorem An.drew (h:An w0 w wi bp b r vL L s x t):An w0 w wi.drew bp b r vL L s x t:=h.below (Za9 wi)
theorem An.shape (h:An w0 w wi bp b r vL L s x t):∃A n c B m d C q e,x=(Yc A n c,Yc B m d,Yc C q e):=h.T.shape2
theorem An.cells (h:An w0 w wi bp b r vL L s x t):wi.cell? ⟨b,0,Yb⟩=Ya (Yd Yf t.kd)/\wi.cell? ⟨b,1,Yb⟩=Ya x.1/\wi.cell? ⟨b,2,Yb⟩=Ya x.2.1/\wi.cell? ⟨b,3,Yb⟩=Ya (Yc Yb 0 0)/\wi.cell? ⟨b,4,Yb⟩=Ya (Yd Yf t.ps)/\wi.cell? ⟨b,5,Yb⟩=Ya x.2.2:=by have c:=fun i=>h.K.blk.cell i;exact⟨c 0,c 1,c 2,c 3,c 4,c 5⟩
theorem An.free (h:An w0 w wi bp b r vL L s x t) (i:Nat):wi.frozen? ⟨b,i,Yb⟩=false:=h.K.blk.free i
theorem An.zeros (h:An w0 w wi bp b r vL L s x t):wi.cell? ⟨r,0,Yb⟩=Ya (Yd Yf 0)/\wi.cell? ⟨r,1,Yb⟩=Ya (Yc Yb 0 0)/\wi.cell? ⟨r,2,Yb⟩=Ya (Yc Yb 0 0)/\wi.cell? ⟨r,3,Yb⟩=Ya (Yc Yb 0 0)/\wi.cell? ⟨r,4,Yb⟩=Ya (Yd Yf 0)/\wi.cell? ⟨r,5,Yb⟩=Ya (Yc Yb 0 0):=by have c:=fun i=>h.R.blk.cell i;exact⟨c 0,c 1,c 2,c 3,c 4,c 5⟩
theorem An.rfree (h:An w0 w wi bp b r vL L s x t) (i:Nat):wi.frozen? ⟨r,i,Yb⟩=false:=h.R.blk.free i
theorem An.start (h:ParS w0 w bp vL L s) (ha:w.alloc (.cells Zbo 55)=wa) (g:ParS w0 w1 bp vL L s2) (i:TrO w1 (fun c=>wa.heap.size<=c) x t) (a:Fp wa w1 bp) :
  An w0 w (w1.alloc (Yg #[Yd Yf t.kd,x.1,x.2.1,Yc Yb 0 0,Yd Yf t.ps,x.2.2] 55)) bp w1.heap.size w.heap.size vL L s2 x t:=by
 subst ha;have a2:=below_alloc1 w1 (Yg #[Yd Yf t.kd,x.1,x.2.1,Yc Yb 0 0,Yd Yf t.ps,x.2.2] 55);have b:w.heap.size<w1.heap.size:=Nat.lt_of_lt_of_le (by simp) a.size;have f:=h.box.lt;have d:=a.tblk (Zk.start w Zbo 55) (by omega);refine⟨g.keep a2,((Fp.of_below bp (below_alloc1 w _)).trans a).trans (Fp.of_below bp a2),Zk.start w1 _ _,(i.lt.keep a2).mono fun c hc=>?_,d.keep a2,⟨Nat.le_of_lt b,Nat.le_refl _,Nat.ne_of_gt b,h.below.size⟩⟩;have e:(w.alloc (.cells Zbo 55)).heap.size=w.heap.size+1:=by simp
 have:=hc.1;have:=hc.2;omega
theorem An.put (h:An w0 w wi bp b r vL L s x t) (a:TrO wi (fun c=>w.heap.size<=c/\c≠b/\c≠r) y u):An w0 w ((((((wi.setCell ⟨b,0,Yb⟩ (Yd Yf u.kd)).setCell ⟨b,1,Yb⟩ y.1).setCell ⟨b,2,Yb⟩ y.2.1).setCell ⟨b,3,Yb⟩ (Yc Yb 0 0)).setCell ⟨b,4,Yb⟩ (Yd Yf u.ps)).setCell ⟨b,5,Yb⟩ y.2.2) bp b r vL L s y u:=by
 have g:wi.grownBy (Zfu wi b (Yd Yf u.kd) y.1 y.2.1 (Yc Yb 0 0) (Yd Yf u.ps) y.2.2) (Ya b):=((((Zaw.trans Zaw).trans Zaw).trans Zaw).trans Zaw).trans Zaw;refine⟨⟨h.P.box.grown g (fun e=>h.bne.1 (by injection e)),h.P.toks,h.P.below.grown g h.P.below.size (fun q hq=>by injection hq with hq;subst hq;exact Nat.le_trans h.B.2.2.2 h.B.1),h.P.ge,h.P.lt,h.P.few⟩,?_,ZrT h.K _ _ _ _ _ _,a.kept g (fun c e=>?_),h.R.grown g (fun e=>h.B.2.2.1 (by injection e)),h.B⟩
 ·exact⟨g.os.trans h.F.os,g.tape.trans h.F.tape,g.output.trans h.F.output,Nat.le_trans h.F.size g.size,fun c hc hn=>(g.block c (Nat.lt_of_lt_of_le hc h.F.size) (fun e=>by injection e with e;have:=h.B.1;omega)).trans (h.F.block c hc hn)⟩
 ·injection e with e;subst e;exact⟨_,_,h.K,by decide,by decide,.inr fun c hc=>hc.2.1⟩
theorem An.out (h:An w0 w wi bp b r vL L s x t) (l:TrO wi (fun c=>w.heap.size<=c/\c≠r) y u) (a d f i j k:Yi) :
  ParS w0 (Zfu wi r a d f i j k) bp vL L s/\TrO (Zfu wi r a d f i j k) (fun c=>w.heap.size<=c) y u/\Fp w (Zfu wi r a d f i j k) bp:=by
 have g:wi.grownBy (Zfu wi r a d f i j k) (Ya r):=((((Zaw.trans Zaw).trans Zaw).trans Zaw).trans Zaw).trans Zaw;refine⟨⟨h.P.box.grown g (fun e=>h.bne.2 (by injection e)),h.P.toks,h.P.below.grown g h.P.below.size (fun q hq=>by injection hq with hq;subst hq;exact Nat.le_trans h.B.2.2.2 h.B.2.1),h.P.ge,h.P.lt,h.P.few⟩,(l.kept g (fun c e=>?_)).mono (fun c hc=>hc.1),?_⟩
 ·injection e with e;subst e;exact⟨_,_,h.R,by decide,by decide,.inr fun c hc=>hc.2⟩
 ·exact⟨g.os.trans h.F.os,g.tape.trans h.F.tape,g.output.trans h.F.output,Nat.le_trans h.F.size g.size,fun c hc hn=>(g.block c (Nat.lt_of_lt_of_le hc h.F.size) (fun e=>by injection e with e;have:=h.B.2.1;omega)).trans (h.F.block c hc hn)⟩
theorem An.fresh (h:An w0 w wi bp b r vL L s x t) {c:Nat} (hc:wi.heap.size<=c):w.heap.size<=c/\c≠b/\c≠r:=by have a:=h.K.lt;have d:=h.R.lt;have e:=h.B;exact⟨by omega,by omega,by omega⟩
end
end
section
open Go.RowKit
def ZeW (a:List Nd) (b:Nat) (n:Int):List Nd:=match a[b]? with
 |some x=>a.set b ⟨x.kind,x.words,x.nums,x.kids++[n],x.pos⟩
 |none=>a
mutual
def ZcV:Tr->List Nd->List Nd
 |.mk k ws us p ks,out=>ZcY ks out.length (out++[⟨k,ws,us,[],p⟩])
def ZcY:List Tr->Nat->List Nd->List Nd
 |[],_,out=>out
 |t::r,at_,out=>ZcY r at_ (ZcV t (ZeW out at_ (out.length:Int)))
end
mutual
def szT:Tr->Nat
 |.mk _ _ _ _ a=>ZaQ a+1
def ZaQ:List Tr->Nat
 |[]=>0
 |t::r=>szT t+ZaQ r
end
theorem ZdD (b:List Nd) (a:Nat) (n:Int):(ZeW b a n).length=b.length:=by
 unfold ZeW
 split<;>simp
mutual
theorem ZfZ:∀(t:Tr) (a:List Nd),(ZcV t a).length=a.length+szT t
 |.mk k ws us p ks,a=>by rw[ZcV,Zhq ks,szT,Yj];simp;omega
theorem Zhq:∀(ts:List Tr) (a:Nat) (b:List Nd),(ZcY ts a b).length=b.length+ZaQ ts
 |[],a,b=>by rw[ZcY,ZaQ];rfl
 |t::r,a,b=>by rw[ZcY,Zhq r,ZfZ t,ZdD,ZaQ];omega
end
theorem Zgw:∀(c:List (NdV×Nd)) (i:Nat) (x:NdV×Nd) (a:Yi) (b:List Int),c[i]? = Ya x->Zax (c.set i ((x.1.1,x.1.2.1,a),⟨x.2.kind,x.2.words,x.2.nums,b,x.2.pos⟩))=(Zax c).set (i*5+3) a
 |[],i,x,a,b,h=>by simp at h
 |y::r,0,x,a,b,h=>by
  obtain rfl:y=x:=by simpa using h
  rfl
 |y::r,i+1,x,a,b,h=>by
  rw[List.getElem?_cons_succ]at h;rw[List.set_cons_succ,Zax,Zax,Zgw r i x a b h,show(i+1)*5+3=(i*5+3)+1+1+1+1+1 by omega];rfl
structure LayS (w:Yh) (B:Nat) (v:Yi) (rs:List (NdV×Nd)):Prop where
 own:w.ownsRow B 36 5 v rs.length (Zax rs)
 each:∀(i:Nat) (x:NdV×Nd),rs[i]? = Ya x->w.ownsRow 0 9 1 x.1.1 x.2.words.length (x.2.words.map txt)/\w.ownsRow 0 2 1 x.1.2.1 x.2.nums.length (x.2.nums.map (Value.int Yf))/\w.ownsRow B 3 1 x.1.2.2 x.2.kids.length (x.2.kids.map (Value.int Yf))/\∀y∈x.2.words,y.length<=maxLen
 apart:∀(i j:Nat) (x y:NdV×Nd) (c:Nat),i≠j->rs[i]? = Ya x->rs[j]? = Ya y->x.1.2.2.ownBlock=Ya c->y.1.2.2.ownBlock≠Ya c
def ZcO (w w2:Yh):Prop:=w.heap.size<=w2.heap.size/\∀b a c,Zk w b a c->a≠36->a≠3->Zk w2 b a c
theorem ZcO.refl (w:Yh):ZcO w w:=⟨Nat.le_refl _,fun _ _ _ h _ _=>h⟩
theorem ZcO.trans {w w1 w2:Yh} (h:ZcO w w1) (k:ZcO w1 w2):ZcO w w2:=⟨Nat.le_trans h.1 k.1,fun b f e a c d=>k.2 b f e (h.2 b f e a c d) c d⟩
theorem ZcO.of_below {w w2:Yh} (h:Below w.heap.size w w2):ZcO w w2:=⟨h.size,fun _ _ _ a _ _=>a.keep h⟩
theorem ZcO.row {w w3:Yh} {B n f:Nat} {e:TypeId} {v:Yi} {j:List Yi} (i:w.ownsRow B e f v n j) (h:e=36\/e=3) (g:w.grownBy w3 v.ownBlock):ZcO w w3:=
 ⟨g.size,fun b l k a c d=>a.grown g (a.off i (by rcases h with rfl|rfl;exact c;exact d))⟩
theorem ZcO.set {w:Yh} {g j:Nat} {cs:Array Yi} {u:Yi} (h:Zk w g 36 cs):ZcO w (w.setCell ⟨g,j,Yb⟩ u):=
 ⟨by simp[World.setCell],fun b f d a c _=>a.other (p:=⟨g,j,Yb⟩) (fun e=>by dsimp only at e;subst e;exact Zeb a h c rfl) u⟩
section
variable {w w3:Yh} {B:Nat} {v v3:Yi} {rs:List (NdV×Nd)}
theorem LayS.nil (w:Yh) (B:Nat):LayS w B (Yc Yb 0 0) []:=⟨World.ownsRow_nil _ _ _ _,fun i x h=>(by simp at h),fun i j x y c _ h=>(by simp at h)⟩
theorem LayS.below (h:LayS w B v rs) (a:Below w.heap.size w w3):LayS w3 B v rs:=
 ⟨ZcC h.own a,fun i x hx=>⟨ZcC (h.each i x hx).1 a,ZcC (h.each i x hx).2.1 a,ZcC (h.each i x hx).2.2.1 a,(h.each i x hx).2.2.2⟩,h.apart⟩
theorem LayS.push {x:NdV×Nd} (h:LayS w B v rs) (hx:w.ownsRow 0 9 1 x.1.1 x.2.words.length (x.2.words.map txt)/\w.ownsRow 0 2 1 x.1.2.1 x.2.nums.length (x.2.nums.map (Value.int Yf))/\∀y∈x.2.words,y.length<=maxLen) (hk:x.1.2.2=Yc Yb 0 0/\x.2.kids=[])
  (g:w3.ownsRow B 36 5 v3 (rs.length+1) (Zax rs++Zax [x])) (f:w.grownBy w3 v.ownBlock):LayS w3 B v3 (rs++[x]):=by
 refine⟨by rw[Yj,Zf3];exact g,fun i y a=>?_,fun i j y z c l a k hc=>?_⟩
 ·rcases Nat.lt_or_ge i rs.length with b|b
  ·rw[List.getElem?_append_left b]at a;obtain⟨e1,o,p,r⟩:=h.each i y a;exact⟨ZcI e1 h.own (by decide) f,ZcI o h.own (by decide) f,ZcI p h.own (by decide) f,r⟩
  ·rw[List.getElem?_append_right b]at a;obtain rfl:x=y:=by
    cases q:i-rs.length with
    |zero=>rw[q]at a;simpa using a
    |succ n=>rw[q]at a;simp at a
   rw[hk.1,hk.2];exact⟨ZcI hx.1 h.own (by decide) f,ZcI hx.2.1 h.own (by decide) f,World.ownsRow_nil _ _ _ _,hx.2.2⟩
 ·have e:∀(m:Nat) (u:NdV×Nd),(rs++[x])[m]? = Ya u->(rs[m]? = Ya u)\/u.1.2.2=Yc Yb 0 0:=fun m u d=>by
   rcases Nat.lt_or_ge m rs.length with b|b
   ·rw[List.getElem?_append_left b]at d;exact .inl d
   ·rw[List.getElem?_append_right b]at d;refine .inr ?_;cases q:m-rs.length with
    |zero=>rw[q]at d;obtain rfl:x=u:=by simpa using d
           exact hk.1
    |succ n=>rw[q]at d;simp at d
  rcases e i y a with a|a
  ·rcases e j z k with k|k
   ·exact h.apart i j y z c l a k hc
   ·rw[k];simp[Value.ownBlock]
  ·rw[a]at hc;simp[Value.ownBlock]at hc
theorem Zij {n a:Nat} {e:TypeId} {j:List Yi} (h:w.ownsRow B e a v n j) (hn:0<n):∃g c cs,v=Yc (Ya ⟨g,0,Yb⟩) n c/\Zk w g e cs/\B<=g:=by
 rcases h.2 with⟨_,k⟩|⟨g,b,d,rfl,f,i,_⟩
 ·omega
 ·exact⟨g,b,d,rfl,i,f⟩
theorem LayS.kid {g c a:Nat} {x:NdV×Nd} {kv:Yi} {n:Int} (h:LayS w B (Yc (Ya ⟨g,0,Yb⟩) rs.length c) rs) (hx:rs[a]? = Ya x) (D:w3.ownsRow B 3 1 kv (x.2.kids.length+1) (x.2.kids.map (Value.int Yf)++[Yd Yf n])) (t:w.grownBy w3 x.1.2.2.ownBlock) (C:kv.ownBlock=x.1.2.2.ownBlock\/kv.ownBlock=Ya w.heap.size) :
  w3.cell? ⟨g,a*5+3,Yb⟩=Ya x.1.2.2/\w3.frozen? ⟨g,a*5+3,Yb⟩=false/\LayS (w3.setCell ⟨g,a*5+3,Yb⟩ kv) B (Yc (Ya ⟨g,0,Yb⟩) rs.length c) (rs.set a ((x.1.1,x.1.2.1,kv),⟨x.2.kind,x.2.words,x.2.nums,x.2.kids++[n],x.2.pos⟩))/\ZcO w (w3.setCell ⟨g,a*5+3,Yb⟩ kv):=by
 have r:=(List.getElem?_eq_some_iff.1 hx).1;obtain⟨I,J,v,L⟩:=h.each a x hx;have f:=ZcI h.own v (by decide) t;obtain⟨O,M,N,hv,p,P⟩:=Zij f (by omega);simp only[Value.slice.injEq,Option.some.injEq,Addr.mk.injEq,and_true,true_and]at hv;obtain⟨rfl,rfl⟩:=hv;have o:=f.cells (g:=g) rfl (a*5+3) x.1.2.2 (ZeO rs a x hx).2.2.2.1;rw[Addr.add_lit,Nat.zero_add]at o;have K:=(ZcO.row v (.inr rfl) t).trans (ZcO.set (j:=a*5+3) (u:=kv) p);refine⟨o,p.blk.free _,⟨?_,?_,?_⟩,K⟩
 ·have s:=(World.ownsRow.stored f (a*5+3) kv).1;rw[<-Zgw rs a x kv (x.2.kids++[n]) hx]at s;rw[List.length_set];exact s
 ·intro i y b;by_cases d:a=i
  ·subst d;rw[List.getElem?_set_self r]at b;injection b with b;subst b;refine⟨ZbW (ZcI I v (by decide) t) p (by decide),ZbW (ZcI J v (by decide) t) p (by decide),?_,L⟩;have:=ZbW (j:=a*5+3) (u:=kv) D p (by decide);simpa using this
  ·rw[List.getElem?_set_ne d]at b;obtain⟨e1,F,G,H⟩:=h.each i y b;refine⟨ZbW (ZcI e1 v (by decide) t) p (by decide),ZbW (ZcI F v (by decide) t) p (by decide),ZbW (G.kept t ?_) p (by decide),H⟩;cases q:x.1.2.2.ownBlock with
   |none=>cases q2:y.1.2.2.ownBlock with
    |none=>exact .inl rfl
    |some m=>exact .inr (by simp)
   |some m=>exact .inr (h.apart a i x y m d hx b q)
 ·
  have E:∀(i:Nat) (y:NdV×Nd) (m:Nat),rs[i]? = Ya y->y.1.2.2.ownBlock=Ya m->m<w.heap.size:=fun i y m b hm=>((h.each i y b).2.2.1.lt m hm).2;intro i j y z m k b l hm;by_cases d:a=i
  ·subst d;rw[List.getElem?_set_self r]at b;injection b with b;subst b;rw[List.getElem?_set_ne k]at l;dsimp only at hm;rcases C with q|q
   ·rw[q]at hm;exact h.apart a j x z m k hx l hm
   ·rw[q]at hm;injection hm with hm;subst hm;exact fun e=>Nat.lt_irrefl _ (E j z _ l e)
  ·rw[List.getElem?_set_ne d]at b;by_cases A:a=j
   ·subst A;rw[List.getElem?_set_self r]at l;injection l with l;subst l;dsimp only;rcases C with q|q
    ·rw[q];exact h.apart i a y x m k b hx hm
    ·rw[q];exact fun e=>by injection e with e;have:=E i y m b hm;omega
   ·rw[List.getElem?_set_ne A]at l;exact h.apart i j y z m k b l hm
theorem Zp4 {a:Nat} {x:NdV×Nd} {kv:Yi} {n:Int} (hx:rs[a]? = Ya x):(rs.set a ((x.1.1,x.1.2.1,kv),⟨x.2.kind,x.2.words,x.2.nums,x.2.kids++[n],x.2.pos⟩)).map (·.2)=ZeW (rs.map (·.2)) a n:=by unfold ZeW;rw[List.getElem?_map,hx,List.map_set];rfl
end
theorem Zsk:(Tryz.prog.info? 36).map (fun i=>(i.zero,i.size,i.bytes))=Ya (Ya (.agg #[Yd Yf 0,Yc Yb 0 0,Yc Yb 0 0,Yc Yb 0 0,Yd Yf 0]),5,88):=by kernel_rfl
theorem Zsl:(Tryz.prog.info? 3).map (fun i=>(i.zero,i.size,i.bytes))=Ya (Ya (Yd Yf 0),1,8):=by kernel_rfl
theorem ZnG (w:Yh) (a b c d e:Yi) (ty:TypeId):ZO (w.alloc (Yg #[a,b,c,d,e] ty)) (w.heap.size+1) 5 (Ya ⟨w.heap.size,0,Yb⟩) 1 [a,b,c,d,e]:=
 ⟨rfl,fun _=>⟨_,rfl,Nat.lt_succ_self _,fun j v f=>Zgb w #[a,b,c,d,e] ty j v (by simpa using f)⟩⟩
theorem ZqD (k p:Int) (A B C:Option Addr) (n c m d q e:Nat):∀u∈[Value.int Yf k,Yc A n c,Yc B m d,Yc C q e,Yd Yf p],u.oneCell'=true:=fun u a=>by
 simp at a;rcases a with rfl|rfl|rfl|rfl|rfl<;>rfl
end
section
theorem ZdK:∀(a b:List Tr),ZaQ (a++b)=ZaQ a+ZaQ b
 |[],b=>by rw[List.nil_append,ZaQ];omega
 |t::r,b=>by rw[List.cons_append,ZaQ,ZaQ,ZdK r b];omega
theorem Zcn (t:Tr):ZaQ [t]=szT t:=by rw[ZaQ,ZaQ];rfl
theorem ZbL (k:Int) (b:List Txt) (us:List Int) (p:Int) (a:List Tr):szT (.mk k b us p a)=ZaQ a+1:=by rw[szT]
theorem ZhT (c:Int) (a b:Tr):szT (Zbd c a b)=szT a+szT b+1:=by rw[Zi7,ZbL,ZaQ,ZaQ,ZaQ];omega
section
variable {L:List Tok}
abbrev SzM (D:PS->Prop) (M:PS->Tr×PS):Prop:=∀s,D s->(M s).2.err=0->szT (M s).1+s.at_<=(M s).2.at_
theorem ZgH (k:ZaJ L) {D:PS->Prop} (hD:Dom L D) {d:PS->Tr×PS} (l:Onw L D d) (o:SzM D d) (x y:Txt) (i j:Int):∀(f:Nat) (a:Tr) (s:PS),D s->(ZaS L d x y i j f a s).2.err=0->szT (ZaS L d x y i j f a s).1+s.at_<=(ZaS L d x y i j f a s).2.at_+szT a
 |0,a,s,_,_=>by rw[ZaS];dsimp only;omega
 |f+1,a,s,hs,e=>by
  unfold ZaS at e⊢;by_cases r:s.err=0
  ·rw[Yo r]at e⊢;by_cases h:isM L x s=true
   ·rw[Yo h]at e⊢;have g:=ZT k (hD.lt _ hs) h;have hd:=hD.next _ _ hs g.toAdv;have n:=l _ hd;have b:=hD.next _ _ hd n.toAdv;have c:=Zdy k hD l x y i j f (Zbd i a (d (Ze s)).1) _ b;have p:=c.err e;have m:=ZgH k hD l o x y i j f _ _ b e;have t:=o _ hd p;rw[ZhT]at m;have:(Ze s).at_=s.at_+1:=rfl;dsimp only at m⊢;omega
   ·rw[Yn h]at e⊢;by_cases q:isM L y s=true
    ·rw[Yo q]at e⊢;have g:=ZT k (hD.lt _ hs) q;have hd:=hD.next _ _ hs g.toAdv;have n:=l _ hd;have b:=hD.next _ _ hd n.toAdv;have c:=Zdy k hD l x y i j f (Zbd j a (d (Ze s)).1) _ b;have p:=c.err e;have m:=ZgH k hD l o x y i j f _ _ b e;have t:=o _ hd p;rw[ZhT]at m;have:(Ze s).at_=s.at_+1:=rfl;dsimp only at m⊢;omega
    ·rw[Yn q];dsimp only;omega
  ·rw[Yn r];dsimp only;omega
theorem ZnB (d:ZaJ L) {D:PS->Prop} (hD:Dom L D) {a:PS->Tr×PS} (b:Onw L D a) (f:SzM D a):SzM D (Zay L a):=fun s c e=>by
 have hd:=hD.next _ _ c (b s c).toAdv;have g:=ZgH d hD b f [42] [47] 4 5 (L.length+1) (a s).1 _ hd e;have h:=f s c ((Zdy d hD b [42] [47] 4 5 (L.length+1) (a s).1 _ hd).err e);unfold Zay;dsimp only;omega
theorem Zst (b:ZaJ L) {D:PS->Prop} (hD:Dom L D) {a:PS->Tr×PS} (d:Onw L D a) (g:SzM D a):SzM D (ZN L a):=fun s c e=>by
 have hq:=ZeR b hD d;have f:=ZnB b hD d g;have hd:=hD.next _ _ c (hq s c).toAdv;have h:=ZgH b hD hq f [43] [45] 2 3 (L.length+1) (Zay L a s).1 _ hd e;have i:=f s c ((Zdy b hD hq [43] [45] 2 3 (L.length+1) (Zay L a s).1 _ hd).err e);unfold ZN;dsimp only;omega
theorem Zmp (d:ZaJ L) {D:PS->Prop} (hD:Dom L D) {a:PS->Tr×PS} (i:Onw L D a) (l:SzM D a):SzM D (Za5 L a):=fun s b e=>by
 have hq:=ZhE d hD i;have c:=Zst d hD i l;have ha:=hD.next _ _ b (hq s b).toAdv;unfold Za5 at e⊢;dsimp only at e⊢;by_cases h:isM L [60] (ZN L a s).2=true
 ·rw[Yo h]at e⊢;have g:=ZT d (hD.lt _ ha) h;have hd:=hD.next _ _ ha g.toAdv;have j:=c _ hd e;have k:=c s b (g.toAdv.err ((hq _ hd).toAdv.err e));have:(Ze (ZN L a s).2).at_=(ZN L a s).2.at_+1:=rfl;dsimp only;rw[ZhT];omega
 ·rw[Yn h]at e⊢;by_cases f:isM L [61,61] (ZN L a s).2=true
  ·rw[Yo f]at e⊢;have g:=ZT d (hD.lt _ ha) f;have hd:=hD.next _ _ ha g.toAdv;have j:=c _ hd e;have k:=c s b (g.toAdv.err ((hq _ hd).toAdv.err e));have:(Ze (ZN L a s).2).at_=(ZN L a s).2.at_+1:=rfl;dsimp only;rw[ZhT];omega
  ·rw[Yn f]at e⊢;exact c s b e
theorem Znc (s:PS):(inM L s).at_=s.at_:=(Zic s).1
theorem Zsj {s:PS} (e:(inM L s).err=0):s.err=0:=by
 by_cases h:s.err=0
 ·exact h
 ·exact absurd e ((Zic s).2.2 h)
theorem Zil (a:ZaJ L):∀(f:Nat),SzM (Dp L f) (ZK L f)
 |0,s,hs,e=>by have:=hs.fuel e;omega
 |f+1,s,hs,e=>by
  unfold ZK at e⊢;by_cases c:s.err≠0
  ·rw[Yo c]at e;exact absurd e c
  rw[Yn c]at e⊢;have k:s.err=0:=Classical.not_not.1 c;by_cases l:(Za0 L s).1=1
  ·rw[Yo l]at e⊢;have:=(ZdN a 0 hs.lt).on e;dsimp only;rw[ZbL,ZaQ];omega
  rw[Yn l]at e⊢;by_cases b:Zbk L s=true
  ·rw[Yo b]at e⊢;have:=(ZB a hs.lt).on e;dsimp only;rw[ZbL,ZaQ];omega
  rw[Yn b]at e⊢;by_cases j:isM L [45] s=true
  ·rw[Yo j]at e⊢;have g:=ZT a hs.lt j;have d:=(ZaA (f+1)).next _ _ hs g.toAdv;have i:=ZfC d (.inl k);have h:=Zil a f _ i e;rw[Znc]at h;have:(Ze s).at_=s.at_+1:=rfl;dsimp only;rw[ZbL,Zcn];show szT _+1+s.at_<=(ZK L f (inM L (Ze s))).2.at_;omega
  rw[Yn j]at e⊢;have g:=ZF a [40] hs.lt;have d:=(ZaA (f+1)).next _ _ hs g.toAdv;have i:=ZfC d (.inr (by rw[g.deep];exact(hs.fuel k).1));have x:=ZhM a (ZaA f) (ZcD a f) _ i;have n:(Zd0 (Za5 L (ZK L f) (inM L (Zg L [40] s))).2).at_<L.length:=x.lt i.lt;have w:=ZF a [41] n;have m:(Za5 L (ZK L f) (inM L (Zg L [40] s))).2.err=0:=w.toAdv.err e;have h:=Zmp a (ZaA f) (ZcD a f) (Zil a f) _ i m;rw[Znc]at h;have:=g.le;have b:=w.le;dsimp only at b⊢;have:(Zd0 (Za5 L (ZK L f) (inM L (Zg L [40] s))).2).at_=(Za5 L (ZK L f) (inM L (Zg L [40] s))).2.at_:=rfl;omega
theorem Zg2 (d:ZaJ L) {D:PS->Prop} (hD:Dom L D) {ea:PS->Tr×PS} (b:∀s,D s->s.err=0->Adv L s (ea s).2) (g:∀s,D s->s.err=0->(ea s).2.err=0->szT (ea s).1+s.at_<=(ea s).2.at_) (x:Txt):∀(f:Nat) (l:List Tr) (s:PS),D s->(Zbc L ea x f l s).2.err=0->ZaQ (Zbc L ea x f l s).1+s.at_<=(Zbc L ea x f l s).2.at_+ZaQ l
 |0,l,s,_,_=>by rw[Zbc];dsimp only;omega
 |f+1,l,s,hs,e=>by
  unfold Zbc at e⊢;by_cases a:s.err=0
  ·rw[Yo a]at e⊢;by_cases h:isM L x s=true
   ·rw[Yo h];have:(Ze s).at_=s.at_+1:=rfl;dsimp only;omega
   ·rw[Yn h]at e⊢;have n:=b s hs a;have hd:=hD.next _ _ hs n;have c:=Zg2 d hD b g x f (l++[(ea s).1]) _ hd e;have i:=g s hs a ((ZdC d hD b x f (l++[(ea s).1]) _ hd).err e);rw[ZdK,Zcn]at c;dsimp only at c⊢;omega
  ·rw[Yn a];dsimp only;omega
theorem Zhf (b:ZaJ L) {D:PS->Prop} (hD:Dom L D) {ea:PS->Tr×PS} (c:∀s,D s->Adv L s (ea s).2) (i:SzM D ea):∀(f:Nat) (first:Bool) (l:List Tr) (s:PS),D s->(Zal L ea f first l s).2.err=0->ZaQ (Zal L ea f first l s).1+s.at_<=(Zal L ea f first l s).2.at_+ZaQ l
 |0,_,l,s,_,_=>by rw[Zal];dsimp only;omega
 |f+1,first,l,s,hs,e=>by
  unfold Zal at e⊢;by_cases g:s.err=0
  ·rw[Yo g]at e⊢;by_cases h:isM L [41] s=true
   ·rw[Yo h];have:(Ze s).at_=s.at_+1:=rfl;dsimp only;omega
   ·rw[Yn h]at e⊢;have w:Adv L s (if first then s else Zg L [44] s):=by
     cases first
     ·exact(ZF b [44] (hD.lt _ hs)).toAdv
     ·exact Adv.refl s
    have a:=hD.next _ _ hs w;have n:=c _ a;have hd:=hD.next _ _ a n;have d:=Zhf b hD c i f false (l++[(ea (if first then s else Zg L [44] s)).1]) _ hd e;have j:=i _ a ((Zd6 b hD c f false (l++[(ea (if first then s else Zg L [44] s)).1]) _ hd).err e);have k:=w.le;rw[ZdK,Zcn]at d;dsimp only at d⊢;omega
  ·rw[Yn g];dsimp only;omega
theorem ZdF (b:ZaJ L) {f:Nat} {st:PS->Tr×PS} (j:∀s,Dp L f s->s.err=0->Adv L s (st s).2) (m:∀s,Dp L f s->s.err=0->(st s).2.err=0->szT (st s).1+s.at_<=(st s).2.at_) {s:PS} (k:Dp L (f+1) s) (a:s.deep<=200) (e:(Zaz L st s).2.err=0):szT (Zaz L st s).1+s.at_<=(Zaz L st s).2.at_:=by have g:=ZF b [123] k.lt;have d:=(ZaA (f+1)).next _ _ k g.toAdv;have i:=ZfC d (.inr (by rw[g.deep];exact a));have c:(Zbc L st [125] (L.length+1) [] (inM L (Zg L [123] s))).2.err=0:=e;have h:=Zg2 b (ZaA f) j m [125] _ [] _ i c;have l:=Zsj ((ZdC b (ZaA f) j [125] (L.length+1) [] _ i).err c);have:=g.on l;rw[Znc,ZaQ]at h;unfold Zaz;dsimp only;rw[ZbL];show ZaQ _+1+s.at_<=(Zbc L st [125] (L.length+1) [] (inM L (Zg L [123] s))).2.at_;omega
end
end
section
section
variable {L:List Tok}
theorem Zsf (b:ZaJ L) {D:PS->Prop} (hD:Dom L D) {ex:PS->Tr×PS} (c:SzM D ex):SzM D (Zbg L ex):=fun s a e=>by
 unfold Zbg at e⊢;by_cases h:isM L [38] s=true
 ·rw[Yo h]at e⊢;have g:=ZT b (hD.lt _ a) h;have n:=(ZB b (g.lt (hD.lt _ a))).on e;have:(Ze s).at_=s.at_+1:=rfl;dsimp only;rw[ZbL,ZaQ];omega
 ·rw[Yn h]at e⊢;exact c s a e
theorem Zrn (b:ZaJ L) {D:PS->Prop} (hD:Dom L D) {ex:PS->Tr×PS} (hx:Onw L D ex) (m:SzM D ex) (p:Int):SzM D (Zc2 L ex p):=fun s i e=>by
 have a:=ZB b (hD.lt _ i);have f:=a.lt (hD.lt _ i)
 have d:∀q:PS,Adv L (Zc L s).2 q->(Zg L [59] (Zal L (Zbg L ex) (L.length+1) true [] (Zg L [40] q)).2).err=0->ZaQ (Zal L (Zbg L ex) (L.length+1) true [] (Zg L [40] q)).1+1+s.at_<=(Zg L [59] (Zal L (Zbg L ex) (L.length+1) true [] (Zg L [40] q)).2).at_:=fun q hq e=>by
  have w:=ZF b [40] (hq.lt f);have j:=hD.next _ _ (hD.next _ _ (hD.next _ _ i a.toAdv) hq) w.toAdv;have c:=Zd6 b hD (fun s h=>(Zkj b hD hx s h).toAdv) (L.length+1) true [] _ j;have v:=ZF b [59] (c.lt (w.lt (hq.lt f)));have k:=v.toAdv.err e;have l:=Zhf b hD (fun s h=>(Zkj b hD hx s h).toAdv) (Zsf b hD m) (L.length+1) true [] _ j k;have n:=a.on (hq.err (w.toAdv.err (c.err k)));have o:=hq.le;have r:=w.le;have t:=v.le;rw[ZaQ]at l;omega
 unfold Zc2 at e⊢;dsimp only at e⊢;rw[ZbL];by_cases h:isM L [61] (Zc L s).2=true
 ·rw[Yo h]at e⊢;have g:=ZT b f h;exact d _ (g.toAdv.trans (ZB b (g.lt f)).toAdv) e
 ·rw[Yn h]at e⊢;exact d _ (Adv.refl _) e
abbrev Zh6 (L:List Tok) (f:Nat) (st:PS->Tr×PS):Prop:=∀s,Dp L f s->s.err=0->(st s).2.err=0->szT (st s).1+s.at_<=(st s).2.at_
theorem Zro (g:ZaJ L) {f:Nat} {st:PS->Tr×PS} (i:Stm L f st) (k:Zh6 L f st) {s:PS} (j:Dp L (f+1) s) (c:s.deep<=200) (e:(Zdb L st s).2.err=0):szT (Zdb L st s).1+s.at_<=(Zdb L st s).2.at_:=by
 have a:=ZB g j.lt;have d:=(ZaA (f+1)).next _ _ j a.toAdv;have h:(Zc L s).2.deep<=200:=by rw[a.deep];exact c
 have b:=ZdF g i.adv k d h e;have:=a.on ((Zcl g i.adv d h).toAdv.err e);unfold Zdb;dsimp only;rw[ZbL,Zcn];omega
theorem ZsH (d:ZaJ L) {f:Nat} {st:PS->Tr×PS} (k:Stm L f st) (r:Zh6 L f st) (p:Int) {s:PS} (o:Dp L (f+1) s) (i:s.deep<=200) (e:(doM L st p s).2.err=0):szT (doM L st p s).1+s.at_<=(doM L st p s).2.at_:=by
 have D:=Zag (L:=L) (f+1);have a:=ZB d o.lt;have l:=D.next _ _ ⟨o,i⟩ a.toAdv;have w:=ZF d [46] l.1.lt;have m:=D.next _ _ l w.toAdv;have b:=ZB d m.1.lt;have j:=D.next _ _ m b.toAdv;unfold doM at e⊢;dsimp only at e⊢;by_cases h:isM L [59] (Zc L (Zg L [46] (Zc L s).2)).2=true
 ·rw[Yo h]at e⊢;have g:=ZT d j.1.lt h;have:=a.on (w.toAdv.err (b.toAdv.err (g.toAdv.err e)));have:=w.le;have:=b.le;have:=g.le;dsimp only;rw[ZbL,ZaQ];omega
 ·rw[Yn h]at e⊢;have v:=ZF d [123] j.1.lt;have n:=D.next _ _ j v.toAdv;have c:=ZdC d D (fun s h _=>(ZhL d k h.1 h.2).toAdv) [125] (L.length+1) [] _ n;have q:=Zg2 d D (fun s h _=>(ZhL d k h.1 h.2).toAdv) (fun s h _ e=>Zro d k r h.1 h.2 e) [125] (L.length+1) [] _ n e;have:=a.on (w.toAdv.err (b.toAdv.err (v.toAdv.err (c.err e))));have:=w.le;have:=b.le;have:=v.le;rw[ZaQ]at q;dsimp only;rw[ZbL];omega
theorem Zrw (c:ZaJ L) {f:Nat} {ex st:PS->Tr×PS} (hx:Onw L (Dp L (f+1)) ex) (i:SzM (Dp L (f+1)) ex) (m:Stm L f st) (n:Zh6 L f st) (p:Int) {s:PS} (j:Dp L (f+1) s) (d:s.deep<=200) (e:(Zbx L ex st p s).2.err=0):szT (Zbx L ex st p s).1+s.at_<=(Zbx L ex st p s).2.at_:=by
 have D:=Zag (L:=L) (f+1);have X:∀q,Dp L (f+1) q/\q.deep<=200->Adv L q (ex q).2:=fun q h=>(hx q h.1).toAdv;have B:∀q,Dp L (f+1) q/\q.deep<=200->Adv L q (Zaz L st q).2:=fun q h=>(Zcl c m.adv h.1 h.2).toAdv;unfold Zbx at e⊢;by_cases r:isM L [105,102] s=true
 ·rw[Yo r]at e⊢;have g:=ZT c j.lt r;have b:=D.next _ _ ⟨j,d⟩ g.toAdv;have a:=D.next _ _ b (X _ b);have y:=D.next _ _ a (B _ a);have u:(Ze s).at_=s.at_+1:=rfl;dsimp only at e⊢;by_cases l:isM L [101,108,115,101] (Zaz L st (ex (Ze s)).2).2=true
  ·rw[Yo l]at e⊢;have k:=ZT c y.1.lt l;have o:=D.next _ _ y k.toAdv;have A:=(B _ o).err e;have z:=k.toAdv.err A;have z4:=ZdF c m.adv n o.1 o.2 e;have z3:=ZdF c m.adv n a.1 a.2 z;have z2:=i _ b.1 ((B _ a).err z);have:=k.le;dsimp only;rw[ZbL,ZaQ,ZaQ,Zcn];omega
  ·rw[Yn l]at e⊢;have z3:=ZdF c m.adv n a.1 a.2 e;have z2:=i _ b.1 ((B _ a).err e);dsimp only;rw[ZbL,ZaQ,Zcn];omega
 rw[Yn r]at e⊢;by_cases l:isM L [119,104,105,108,101] s=true
 ·rw[Yo l]at e⊢;have g:=ZT c j.lt l;have b:=D.next _ _ ⟨j,d⟩ g.toAdv;have a:=D.next _ _ b (X _ b);have u:(Ze s).at_=s.at_+1:=rfl;have z3:=ZdF c m.adv n a.1 a.2 e;have z2:=i _ b.1 ((B _ a).err e);dsimp only;rw[ZbL,ZaQ,Zcn];omega
 rw[Yn l]at e⊢;by_cases t:isM L [114,101,116,117,114,110] s=true
 ·rw[Yo t]at e⊢;have g:=ZT c j.lt t;have b:=D.next _ _ ⟨j,d⟩ g.toAdv;have a:=D.next _ _ b (X _ b);have u:(Ze s).at_=s.at_+1:=rfl;have w:=ZF c [59] a.1.lt;have z2:=i _ b.1 (w.toAdv.err e);have:=w.le;dsimp only;rw[ZbL,Zcn];omega
 rw[Yn t]at e⊢;have w:=ZF c [101,120,105,116] j.lt;have v:=ZF c [59] (w.lt j.lt);have:=v.on e;have:=w.le;dsimp only;rw[ZbL,ZaQ];omega
theorem ZgU (a:ZaJ L) (x:Txt) (i:Int) {s:PS} (c:s.at_<L.length):ZaQ (ZL L x i s).1+s.at_<=(ZL L x i s).2.at_:=by
 unfold ZL;by_cases h:isM L x s=true
 ·rw[Yo h];have g:=ZT a c h;have n:=ZB a (g.lt c);have b:=Zh8 a L.length [(Zc L (Ze s)).1] (n.lt (g.lt c));have:=n.le;have:=b.le;have:(Ze s).at_=s.at_+1:=rfl;dsimp only;rw[Zcn,ZbL,ZaQ];omega
 ·rw[Yn h,ZaQ];dsimp only;omega
theorem ZqR (a:ZaJ L) {f:Nat} {st:PS->Tr×PS} (w:Stm L f st) (A:Zh6 L f st) (p:Int) {s:PS} (y:Dp L (f+1) s) (b:s.deep<=200) (e:(Zfm L st p s).2.err=0):szT (Zfm L st p s).1+s.at_<=(Zfm L st p s).2.at_:=by have D:=Zag (L:=L) (f+1);unfold Zfm at e⊢;dsimp only at e⊢;have g:=ZB a y.lt;have n:=D.next _ _ ⟨y,b⟩ g.toAdv;have h:=ZF a [61] n.1.lt;have o:=D.next _ _ n h.toAdv;have i:=ZB a o.1.lt;have q:=D.next _ _ o i.toAdv;have j:=ZfQ a (Zz 1) q.1.lt;have r:=D.next _ _ q j.toAdv;have k:=ZdN a 1 r.1.lt;have t:=D.next _ _ r k.toAdv;have l:=ZF a [47] t.1.lt;have u:=D.next _ _ t l.toAdv;have m:=ZdN a 1 u.1.lt;have d:=D.next _ _ u m.toAdv;have v:=Zdh a [105,110] 2 d.1.lt;have c:=D.next _ _ d v;have B:=ZgU a [105,110] 2 d.1.lt;have z9:=ZdF a w.adv A c.1 c.2 e;have z:=(Zcl a w.adv c.1 c.2).toAdv.err e;have:=g.on (h.toAdv.err (i.toAdv.err (j.toAdv.err (k.toAdv.err (l.toAdv.err (m.toAdv.err (v.err z)))))));have:=h.le;have:=i.le;have:=j.le;have:=k.le;have:=l.le;have:=m.le;rw[ZbL,ZdK,Zcn];omega
theorem ZmI (b:ZaJ L) {ex:PS->Tr×PS} (hx:∀f,Onw L (Dp L (f+1)) ex) (h:∀f,SzM (Dp L (f+1)) ex):∀f,Zh6 L f (Zu L ex f)
 |0,s,hs,e,_=>by have:=hs.fuel e;omega
 |f+1,s,hs,e0,e=>by
  have D:=Zag (L:=L) (f+1);have a:=(hs.fuel e0).1;have j:=ZhS b hx f;have o:=ZmI b hx h f;have G:(Ze s).at_=s.at_+1:=rfl
  have m:∀q:PS,Dp L (f+1) q/\q.deep<=200->∀(k:Int) (w:Txt),(Zg L [59] (ex (Zg L [61] q)).2).err=0->szT (.mk k [w] [] (Zf L s) [(ex (Zg L [61] q)).1])+q.at_<=(Zg L [59] (ex (Zg L [61] q)).2).at_:=fun q hq k w e=>by
   have n:=ZF b [61] hq.1.lt;have d:=D.next _ _ hq n.toAdv;have t:=hx f _ d.1;have p:=D.next _ _ d t.toAdv;have l:=ZF b [59] p.1.lt;have E:=l.toAdv.err e;have z:=h f _ d.1 E;have:=n.on (t.toAdv.err E);have:=l.le;rw[ZbL,Zcn];omega
  unfold Zu at e⊢;dsimp only at e⊢;by_cases u:isM L [108,101,116] s=true
  ·rw[Yo u]at e⊢;have g:=ZT b hs.lt u;have c:=D.next _ _ ⟨hs,a⟩ g.toAdv;have i:=ZB b c.1.lt;have:=m _ (D.next _ _ c i.toAdv) 8 (Zc L (Ze s)).1 e;have:=i.le;dsimp only;omega
  rw[Yn u]at e⊢;by_cases F:Zbk L s=true
  ·rw[Yo F]at e⊢;have i:=ZB b hs.lt;have:=m _ (D.next _ _ ⟨hs,a⟩ i.toAdv) 9 (Zc L s).1 e;have:=i.le;dsimp only;omega
  rw[Yn F]at e⊢;by_cases v:isM L [111,112,101,110] s=true
  ·rw[Yo v]at e⊢;have g:=ZT b hs.lt v;have c:=D.next _ _ ⟨hs,a⟩ g.toAdv;have i:=ZB b c.1.lt;have C:=D.next _ _ c i.toAdv;have n:=ZB b C.1.lt;have d:=D.next _ _ C n.toAdv;have t:=Zcl b j.adv d.1 d.2;have p:=D.next _ _ d t.toAdv;have l:=ZF b [101,108,115,101] p.1.lt;have r:=D.next _ _ p l.toAdv;have z5:=ZdF b j.adv o r.1 r.2 e;have z3:=ZdF b j.adv o d.1 d.2 (l.toAdv.err ((Zcl b j.adv r.1 r.2).toAdv.err e));have:=i.le;have:=n.le;have:=l.le;dsimp only;rw[ZbL,ZaQ,Zcn];omega
  rw[Yn v]at e⊢;by_cases y:isM L [100,111] s=true
  ·rw[Yo y]at e⊢;have c:=D.next _ _ ⟨hs,a⟩ (ZT b hs.lt y).toAdv;have:=ZsH b j o (Zf L s) c.1 c.2 e;omega
  rw[Yn y]at e⊢;by_cases A:isM L [115,112,108,105,116] s=true
  ·rw[Yo A]at e⊢;have c:=D.next _ _ ⟨hs,a⟩ (ZT b hs.lt A).toAdv;have:=ZqR b j o (Zf L s) c.1 c.2 e;omega
  rw[Yn A]at e⊢;by_cases B:isM L [99,97,108,108] s=true
  ·rw[Yo B]at e⊢;have c:=D.next _ _ ⟨hs,a⟩ (ZT b hs.lt B).toAdv;have:=Zrn b (ZaA _) (hx f) (h f) (Zf L s) _ c.1 e;omega
  rw[Yn B]at e⊢;exact Zrw b (hx f) (h f) j o _ hs a e
theorem ZrL (c:ZaJ L) {s:PS} (d:s.at_<L.length) (e:(ZbF L s).2.err=0):szT (ZbF L s).1+s.at_<=(ZbF L s).2.at_:=by
 have:=(part_go c d).on e;have a:szT (ZbF L s).1=1:=by
  unfold ZbF;dsimp only;by_cases a:isM L [115,116,97,116,101] s=true
  ·rw[Yo a,ZbL,ZaQ]
  rw[Yn a];by_cases b:isM L [102,105,110,97,108] s=true
  ·rw[Yo b,ZbL,ZaQ]
  rw[Yn b,ZbL,ZaQ]
 omega
theorem ZqH (c:ZaJ L) {s:PS} (d:s.at_<L.length) (e:(Zb8 L s).2.err=0):szT (Zb8 L s).1+s.at_<=(Zb8 L s).2.at_:=by
 have D:Dom L (fun s=>s.at_<L.length):=⟨fun a b h k=>k.lt h,fun a h=>h⟩
 have g:=ZF c [112,114,111,116,111] d;have a:=ZB c (g.lt d);have w:=ZF c [123] (a.lt (g.lt d));have f:=w.lt (a.lt (g.lt d));have u:=ZdC c D (fun s h _=>(part_go c h).toAdv) [125] (L.length+1) [] _ f;have z:=Zg2 c D (fun s h _=>(part_go c h).toAdv) (fun s h _ e=>ZrL c h e) [125] (L.length+1) [] _ f e;have:=g.on (a.toAdv.err (w.toAdv.err (u.err e)));have:=a.le;have:=w.le;rw[ZaQ]at z;unfold Zb8;dsimp only;rw[ZbL];omega
theorem ZqE (c:ZaJ L) {s:PS} (o:s.at_<L.length) (e:(ZaW L s).2.err=0):szT (ZaW L s).1+s.at_<=(ZaW L s).2.at_:=by
 unfold ZaW at e⊢;dsimp only at e⊢;have a:=ZB c o;have m:=a.lt o;by_cases h:isM L [58] (Zc L s).2=true
 ·rw[Yo h]at e⊢;have g:=ZT c m h;have b:=ZB c (g.lt m);have p:=b.lt (g.lt m);have k:=ZfQ c (Zz 0) p;have f:=k.lt p
  have i:∀(q:PS) (r:List Int),Adv L (ZP L (Zz 0) (Zc L (Ze (Zc L s).2)).2).2 q->(ZL L [105,110] 2 (ZL L [116,111] 1 (ZL L [97,116] 0 q).2).2).2.err=0->szT (.mk 5 [(Zc L s).1,(Zc L (Ze (Zc L s).2)).1] r (Zf L s) ((ZL L [97,116] 0 q).1++(ZL L [116,111] 1 (ZL L [97,116] 0 q).2).1++(ZL L [105,110] 2 (ZL L [116,111] 1 (ZL L [97,116] 0 q).2).2).1))+s.at_<=(ZL L [105,110] 2 (ZL L [116,111] 1 (ZL L [97,116] 0 q).2).2).2.at_:=fun q r hq e=>by
   have x:=Zdh c [97,116] 0 (hq.lt f);have y:=Zdh c [116,111] 1 (x.lt (hq.lt f));have t:=ZgU c [97,116] 0 (hq.lt f);have u:=ZgU c [116,111] 1 (x.lt (hq.lt f));have v:=ZgU c [105,110] 2 (y.lt (x.lt (hq.lt f)));have z:=Zdh c [105,110] 2 (y.lt (x.lt (hq.lt f)));have:=a.on (g.toAdv.err (b.toAdv.err (k.toAdv.err (hq.err (x.err (y.err (z.err e)))))));have:=g.le;have:=b.le;have:=k.le;have:=hq.le;rw[ZbL,ZdK,ZdK];omega
  by_cases l:isM L [108,101,97,115,116] (ZP L (Zz 0) (Zc L (Ze (Zc L s).2)).2).2=true
  ·rw[Yo l]at e⊢;have j:=ZT c f l;have n:=ZdN c 1 (j.lt f);have w:=ZF c [47] (n.lt (j.lt f));have d:=ZdN c 1 (w.lt (n.lt (j.lt f)));exact i _ _ (j.toAdv.trans (n.toAdv.trans (w.toAdv.trans d.toAdv))) e
  ·rw[Yn l]at e⊢;exact i _ _ (Adv.refl _) e
 ·rw[Yn h]at e⊢;have:=a.on e;dsimp only;rw[ZbL,ZaQ];omega
theorem ZsJ (a:ZaJ L) {f:Nat} {ex st:PS->Tr×PS} (o:Stm L f st) (q:Zh6 L f st) {s:PS} (p:Dp L (f+1) s) (b:s.deep<=200) (e:(fnM L ex st s).2.err=0):szT (fnM L ex st s).1+s.at_<=(fnM L ex st s).2.at_:=by have D:=Zag (L:=L) (f+1);have g:=ZF a [102,110] p.lt;have k:=D.next _ _ ⟨p,b⟩ g.toAdv;have i:=ZB a k.1.lt;have l:=D.next _ _ k i.toAdv;have j:=ZF a [40] l.1.lt;have d:=D.next _ _ l j.toAdv;have n:=Zd6 a D (fun s h=>(Zeu a h.1.lt).toAdv) (L.length+1) true [] _ d;have c:=D.next _ _ d n;have z5:=ZdF a o.adv q c.1 c.2 e;have m:=(Zcl a o.adv c.1 c.2).toAdv.err e;have z4:=Zhf a D (fun s h=>(Zeu a h.1.lt).toAdv) (fun s h e=>ZqE a h.1.lt e) (L.length+1) true [] _ d m;have:=g.on (i.toAdv.err (j.toAdv.err (n.err m)));have:=i.le;have:=j.le;rw[ZaQ]at z4;unfold fnM;dsimp only;rw[ZbL,ZdK,Zcn];omega
theorem Zeh (a:ZaJ L) {f:Nat} {ex st:PS->Tr×PS} (b:Stm L f st):∀(g:Nat) (l:List Tr) (s:PS),Dp L (f+1) s/\s.deep<=200->Adv L s (ZaU L ex st g l s).2
 |0,_,s,_=>Adv.refl s
 |g+1,l,s,hs=>by
  have D:=Zag (L:=L) (f+1);unfold ZaU;by_cases h:s.err=0/\(Za0 L s).1≠3
  ·rw[Yo h];by_cases c:isM L [112,114,111,116,111] s=true
   ·rw[Yo c];have n:=(Zim a hs.1.lt).toAdv;exact n.trans (Zeh a b g _ _ (D.next _ _ hs n))
   rw[Yn c];by_cases d:isM L [102,110] s=true
   ·rw[Yo d];have n:=(Znb a (ex:=ex) b hs.1 hs.2).toAdv;exact n.trans (Zeh a b g _ _ (D.next _ _ hs n))
   rw[Yn d];have n:=(ZeZ (L:=L) (e:=11) (by decide) s).toAdv;exact n.trans (Zeh a b g _ _ (D.next _ _ hs n))
  ·rw[Yn h];exact Adv.refl s
theorem ZfH (a:ZaJ L) {f:Nat} {ex st:PS->Tr×PS} (b:Stm L f st) (c:Zh6 L f st):∀(g:Nat) (l:List Tr) (s:PS),Dp L (f+1) s/\s.deep<=200->(ZaU L ex st g l s).2.err=0->ZaQ (ZaU L ex st g l s).1+s.at_<=(ZaU L ex st g l s).2.at_+ZaQ l
 |0,l,s,_,_=>by rw[ZaU];dsimp only;omega
 |g+1,l,s,hs,e=>by
  have D:=Zag (L:=L) (f+1);unfold ZaU at e⊢;by_cases i:s.err=0/\(Za0 L s).1≠3
  ·rw[Yo i]at e⊢;by_cases d:isM L [112,114,111,116,111] s=true
   ·rw[Yo d]at e⊢;have n:=(Zim a hs.1.lt).toAdv;have hd:=D.next _ _ hs n;have z:=ZfH a b c g (l++[(Zb8 L s).1]) _ hd e;have z2:=ZqH a hs.1.lt ((Zeh a b g (l++[(Zb8 L s).1]) _ hd).err e);rw[ZdK,Zcn]at z;dsimp only at z⊢;omega
   rw[Yn d]at e⊢;by_cases h:isM L [102,110] s=true
   ·rw[Yo h]at e⊢;have n:=(Znb a (ex:=ex) b hs.1 hs.2).toAdv;have hd:=D.next _ _ hs n;have z:=ZfH a b c g (l++[(fnM L ex st s).1]) _ hd e;have z2:=ZsJ a b c hs.1 hs.2 ((Zeh a b g (l++[(fnM L ex st s).1]) _ hd).err e);rw[ZdK,Zcn]at z;dsimp only at z⊢;omega
   rw[Yn h]at e⊢;have n:=(ZeZ (L:=L) (e:=11) (by decide) s).toAdv;have z:=ZfH a b c g l _ (D.next _ _ hs n) e;have:=n.le;omega
  ·rw[Yn i];dsimp only;omega
end
end
end Go.Proofs.YtdkegpkfjgloeaaGreatDoor
