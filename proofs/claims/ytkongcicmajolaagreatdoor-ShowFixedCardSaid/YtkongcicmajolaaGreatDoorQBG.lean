import Derived.Test.YtkongcicmajolaaGreatDoorQBD
set_option maxRecDepth 100000
set_option maxHeartbeats 8000000
namespace Go.Proofs.YtkongcicmajolaaGreatDoor
section
open Go.RowKit
theorem Zjt (op:Int) (a b:Tr):Za0 op a b=.mk 22 [] [op] a.ps [a,b]:=by cases a;rfl
theorem Zli (w:World) (cs:Array Value) (ty:TypeId) (B size n:Nat) (hB:B<=w.heap.size) (hs:cs.size=n*size) (hn:n<=maxLen):(w.alloc (.cells cs ty)).ownsRow B ty size (.slice (some ⟨w.heap.size,0,none⟩) n n) n cs.toList:=
 ⟨by rw [Array.length_toList];exact hs,.inr ⟨_,n,cs,rfl,hB,Zh.start w cs ty,Nat.le_refl _,hn,hs,by rw [<- hs,<- Array.length_toList,List.take_length]⟩⟩
theorem Zra (w:World) (op:Int) (x y:NV) (t u:Tr) (Q:Nat->Prop) (hx:TrO w Q x t) (hy:TrO w Q y u) (hQ:∀ c,w.heap.size<=c->Q c) (o1 o2 o3:Obj) :
  TrO (((((w.alloc o1).alloc o2).alloc o3).alloc (.cells #[.int .i64 op] 2)).alloc (.cells (ZaY [(x,t),(y,u)]).toArray 58)) Q (.slice none 0 0,.slice (some ⟨w.heap.size+1+1+1,0,none⟩) 1 1,.slice (some ⟨w.heap.size+1+1+1+1,0,none⟩) 2 2) (Za0 op t u) ∧
  Below w.heap.size w (((((w.alloc o1).alloc o2).alloc o3).alloc (.cells #[.int .i64 op] 2)).alloc (.cells (ZaY [(x,t),(y,u)]).toArray 58)):=by
 have s1:(w.alloc o1).heap.size=w.heap.size+1:=by simp
 have s2:((w.alloc o1).alloc o2).heap.size=w.heap.size+1+1:=by simp
 have s3:(((w.alloc o1).alloc o2).alloc o3).heap.size=w.heap.size+1+1+1:=by simp
 have b3:Below w.heap.size w (((w.alloc o1).alloc o2).alloc o3):=(((Below.refl w.heap.size w).alloc (Nat.le_refl _) o1).alloc (by omega) o2).alloc (by omega) o3
 generalize ((w.alloc o1).alloc o2).alloc o3=w3 at *
 have s4:(w3.alloc (.cells #[.int .i64 op] 2)).heap.size=w3.heap.size+1:=by simp
 have b4:=b3.alloc (by omega) (.cells #[.int .i64 op] 2)
 have U4:=Zli w3 #[.int .i64 op] 2 0 1 1 (Nat.zero_le _) rfl (by decide)
 generalize w3.alloc (.cells #[.int .i64 op] 2)=w4 at *
 have b5:=b4.alloc (by omega) (.cells (ZaY [(x,t),(y,u)]).toArray 58)
 have a5:=below_alloc1 w4 (.cells (ZaY [(x,t),(y,u)]).toArray 58)
 have V5:=Zli w4 (ZaY [(x,t),(y,u)]).toArray 58 0 6 2 (Nat.zero_le _) rfl (by decide)
 rw [s3] at U4
 rw [show w4.heap.size=w.heap.size+1+1+1+1 by omega] at V5
 refine ⟨?_,b5⟩
 rw [Zjt]
 have apart:∀ (z:NV) (v:Tr),TrO w Q z v->TrO (w4.alloc (.cells (ZaY [(x,t),(y,u)]).toArray 58)) (fun c=>Q c/\(Value.slice (some ⟨w.heap.size+1+1+1+1,0,none⟩) 2 2).ownBlock≠some c) z v:=fun z v hz=>(hz.lt.keep b5).mono fun c hc=>⟨hc.1,fun e=>by injection e with e;have:=hc.2;dsimp only at e;omega⟩
 exact .mk (vs:=[(x,t),(y,u)]) (World.ownsRow_nil _ _ _ _) (fun _ q=>(nomatch q)) (ZcG U4 a5) V5 (fun c e=>by injection e with e;dsimp only at e;exact hQ c (by omega)) (fun v hv=>by
  rcases List.mem_cons.1 hv with rfl | hv
  ·exact apart _ _ hx
  ·rw [List.mem_singleton] at hv;subst hv;exact apart _ _ hy)
theorem ZeK (w:World) (op:Int) (x y:NV) (t u:Tr) (Q:Nat->Prop) (hx:TrO w Q x t) (hy:TrO w Q y u) (hQ:∀ c,w.heap.size<=c->Q c) :
  Calls Tryz.prog 133 #[.int .i64 op,ZbQ (x,t),ZbQ (y,u)] w fun e w'=>∃ z:NV,e=.returned (ZbQ (z,Za0 op t u))/\TrO w' Q z (Za0 op t u)/\Below w.heap.size w w':=by
 have SX:=hx.shape2
 have SY:=hy.shape2
 obtain ⟨A,n,c,B,m,d,C,q,e,rfl⟩:=SX
 obtain ⟨A2,n2,c2,B2,m2,d2,C2,q2,e2,rfl⟩:=SY
 have H:=zh (zi hx (zi hy hQ))
 clear hx hy hQ
 go_enter Tryz.func133,Tryz.ntmps133
 go_wp2_with fail
 obtain ⟨h1,h2⟩:=Zra w op _ _ t u Q H.out.1 H.out.2.1 H.out.2.2 (.cells #[.int .i64 t.kd,.slice A n c,.slice B m d,.slice none 0 0,.int .i64 t.ps,.slice C q e] 58) (.cells #[.int .i64 u.kd,.slice A2 n2 c2,.slice B2 m2 d2,.slice none 0 0,.int .i64 u.ps,.slice C2 q2 e2] 58) (.cells #[.int .i64 22,.slice none 0 0,.slice (some ⟨w.heap.size+1+1+1,0,none⟩) 1 1,.slice none 0 0,.int .i64 t.ps,.slice (some ⟨w.heap.size+1+1+1+1,0,none⟩) 2 2] 58)
 exact bodyPost_ret (v:=.agg #[.int .i64 22,.slice none 0 0,.slice (some ⟨w.heap.size+1+1+1,0,none⟩) 1 1,.slice none 0 0,.int .i64 t.ps,.slice (some ⟨w.heap.size+1+1+1+1,0,none⟩) 2 2]) (by simp [results,Tryz.results133,go_sem]) rfl ⟨_,by rw [Zjt];rfl,h1,h2⟩
end
section
open Go.RowKit
structure An (w0 w wi:World) (bp b r:Nat) (vL:Value) (L:List Tok) (s:PS) (x:NV) (t:Tr):Prop where
 P:ParS w0 wi bp vL L s
 F:Fp w wi bp
 K:Zh wi b 58 #[.int .i64 t.kd,x.1,x.2.1,.slice none 0 0,.int .i64 t.ps,x.2.2]
 T:TrO wi (fun c=>w.heap.size<=c/\c≠b/\c≠r) x t
 R:Zh wi r 58 Zbj
 B:w.heap.size<=b/\w.heap.size<=r/\b≠r/\w0.heap.size<=w.heap.size
section
variable {w0 w wi w1 wa:World} {bp b r:Nat} {vL:Value} {L:List Tok} {s s2:PS} {x y:NV} {t u:Tr}
theorem An.bne (h:An w0 w wi bp b r vL L s x t):b≠bp/\r≠bp:=⟨Zee h.K h.P.box (by decide),Zee h.R h.P.box (by decide)⟩
theorem An.call (h:An w0 w wi bp b r vL L s x t) (hp:ParS w0 w1 bp vL L s2) (hf:Fp wi w1 bp):An w0 w w1 bp b r vL L s2 x t:=
 ⟨hp,h.F.trans hf,hf.tblk h.K h.bne.1,h.P.tree h.T hf,hf.tblk h.R h.bne.2,h.B⟩
theorem An.below (h:An w0 w wi bp b r vL L s x t) (hb:Below wi.heap.size wi w1):An w0 w w1 bp b r vL L s x t:=h.call (h.P.keep hb) (Fp.of_below bp hb)
theorem An.drew (h:An w0 w wi bp b r vL L s x t):An w0 w wi.drew bp b r vL L s x t:=h.below (Za7 wi)
theorem An.shape (h:An w0 w wi bp b r vL L s x t):∃ A n c B m d C q e,x=(.slice A n c,.slice B m d,.slice C q e):=h.T.shape2
theorem An.cells (h:An w0 w wi bp b r vL L s x t):wi.cell? ⟨b,0,none⟩=some (.int .i64 t.kd)/\wi.cell? ⟨b,1,none⟩=some x.1/\wi.cell? ⟨b,2,none⟩=some x.2.1/\wi.cell? ⟨b,3,none⟩=some (.slice none 0 0)/\wi.cell? ⟨b,4,none⟩=some (.int .i64 t.ps)/\wi.cell? ⟨b,5,none⟩=some x.2.2:=by
 have c:=fun i=>h.K.blk.cell i
 exact ⟨c 0,c 1,c 2,c 3,c 4,c 5⟩
theorem An.free (h:An w0 w wi bp b r vL L s x t) (i:Nat):wi.frozen? ⟨b,i,none⟩=false:=h.K.blk.free i
theorem An.zeros (h:An w0 w wi bp b r vL L s x t):wi.cell? ⟨r,0,none⟩=some (.int .i64 0)/\wi.cell? ⟨r,1,none⟩=some (.slice none 0 0)/\wi.cell? ⟨r,2,none⟩=some (.slice none 0 0)/\wi.cell? ⟨r,3,none⟩=some (.slice none 0 0)/\wi.cell? ⟨r,4,none⟩=some (.int .i64 0)/\wi.cell? ⟨r,5,none⟩=some (.slice none 0 0):=by
 have c:=fun i=>h.R.blk.cell i
 exact ⟨c 0,c 1,c 2,c 3,c 4,c 5⟩
theorem An.rfree (h:An w0 w wi bp b r vL L s x t) (i:Nat):wi.frozen? ⟨r,i,none⟩=false:=h.R.blk.free i
theorem An.start (h:ParS w0 w bp vL L s) (ha:w.alloc (.cells Zbj 58)=wa) (hp:ParS w0 w1 bp vL L s2) (ht:TrO w1 (fun c=>wa.heap.size<=c) x t) (hf:Fp wa w1 bp) :
  An w0 w (w1.alloc (.cells #[.int .i64 t.kd,x.1,x.2.1,.slice none 0 0,.int .i64 t.ps,x.2.2] 58)) bp w1.heap.size w.heap.size vL L s2 x t:=by
 subst ha
 have a2:=below_alloc1 w1 (.cells #[.int .i64 t.kd,x.1,x.2.1,.slice none 0 0,.int .i64 t.ps,x.2.2] 58)
 have hs:w.heap.size<w1.heap.size:=Nat.lt_of_lt_of_le (by simp) hf.size
 have hbp:=h.box.lt
 have R1:=hf.tblk (Zh.start w Zbj 58) (by omega)
 refine ⟨hp.keep a2,((Fp.of_below bp (below_alloc1 w _)).trans hf).trans (Fp.of_below bp a2),Zh.start w1 _ _,(ht.lt.keep a2).mono fun c hc=>?_,R1.keep a2,⟨Nat.le_of_lt hs,Nat.le_refl _,Nat.ne_of_gt hs,h.below.size⟩⟩
 have e:(w.alloc (.cells Zbj 58)).heap.size=w.heap.size+1:=by simp
 have:=hc.1
 have:=hc.2
 omega
theorem An.put (h:An w0 w wi bp b r vL L s x t) (hy:TrO wi (fun c=>w.heap.size<=c/\c≠b/\c≠r) y u):An w0 w ((((((wi.setCell ⟨b,0,none⟩ (.int .i64 u.kd)).setCell ⟨b,1,none⟩ y.1).setCell ⟨b,2,none⟩ y.2.1).setCell ⟨b,3,none⟩ (.slice none 0 0)).setCell ⟨b,4,none⟩ (.int .i64 u.ps)).setCell ⟨b,5,none⟩ y.2.2) bp b r vL L s y u:=by
 have g:wi.grownBy (ZfC wi b (.int .i64 u.kd) y.1 y.2.1 (.slice none 0 0) (.int .i64 u.ps) y.2.2) (some b):=((((Zas.trans Zas).trans Zas).trans Zas).trans Zas).trans Zas
 refine ⟨⟨h.P.box.grown g (fun e=>h.bne.1 (by injection e)),h.P.toks,h.P.below.grown g h.P.below.size (fun q hq=>by injection hq with hq;subst hq;exact Nat.le_trans h.B.2.2.2 h.B.1),h.P.ge,h.P.lt,h.P.few⟩,?_,ZrP h.K _ _ _ _ _ _,hy.kept g (fun c e=>?_),h.R.grown g (fun e=>h.B.2.2.1 (by injection e)),h.B⟩
 ·exact ⟨g.os.trans h.F.os,g.tape.trans h.F.tape,g.output.trans h.F.output,Nat.le_trans h.F.size g.size,fun c hc hn=>(g.block c (Nat.lt_of_lt_of_le hc h.F.size) (fun e=>by injection e with e;have:=h.B.1;omega)).trans (h.F.block c hc hn)⟩
 ·injection e with e
  subst e
  exact ⟨_,_,h.K,by decide,by decide,.inr fun c hc=>hc.2.1⟩
theorem An.out (h:An w0 w wi bp b r vL L s x t) (hy:TrO wi (fun c=>w.heap.size<=c/\c≠r) y u) (u0 u1 u2 u3 u4 u5:Value) :
  ParS w0 (ZfC wi r u0 u1 u2 u3 u4 u5) bp vL L s/\TrO (ZfC wi r u0 u1 u2 u3 u4 u5) (fun c=>w.heap.size<=c) y u/\Fp w (ZfC wi r u0 u1 u2 u3 u4 u5) bp:=by
 have g:wi.grownBy (ZfC wi r u0 u1 u2 u3 u4 u5) (some r):=((((Zas.trans Zas).trans Zas).trans Zas).trans Zas).trans Zas
 refine ⟨⟨h.P.box.grown g (fun e=>h.bne.2 (by injection e)),h.P.toks,h.P.below.grown g h.P.below.size (fun q hq=>by injection hq with hq;subst hq;exact Nat.le_trans h.B.2.2.2 h.B.2.1),h.P.ge,h.P.lt,h.P.few⟩,(hy.kept g (fun c e=>?_)).mono (fun c hc=>hc.1),?_⟩
 ·injection e with e
  subst e
  exact ⟨_,_,h.R,by decide,by decide,.inr fun c hc=>hc.2⟩
 ·exact ⟨g.os.trans h.F.os,g.tape.trans h.F.tape,g.output.trans h.F.output,Nat.le_trans h.F.size g.size,fun c hc hn=>(g.block c (Nat.lt_of_lt_of_le hc h.F.size) (fun e=>by injection e with e;have:=h.B.2.1;omega)).trans (h.F.block c hc hn)⟩
theorem An.fresh (h:An w0 w wi bp b r vL L s x t) {c:Nat} (hc:wi.heap.size<=c):w.heap.size<=c/\c≠b/\c≠r:=by
 have h1:=h.K.lt
 have h2:=h.R.lt
 have h3:=h.B
 exact ⟨by omega,by omega,by omega⟩
end
end
section
open Go.RowKit
def Zet (out:List Nd) (at_:Nat) (n:Int):List Nd:=match out[at_]? with
 | some x=>out.set at_ ⟨x.kind,x.words,x.nums,x.kids++[n],x.pos⟩
 | none=>out
mutual
def Zcj:Tr->List Nd->List Nd
 | .mk k ws us p ks,out=>ZcE ks out.length (out++[⟨k,ws,us,[],p⟩])
def ZcE:List Tr->Nat->List Nd->List Nd
 | [],_,out=>out
 | t::r,at_,out=>ZcE r at_ (Zcj t (Zet out at_ (out.length:Int)))
end
mutual
def szT:Tr->Nat
 | .mk _ _ _ _ ks=>Zaq ks+1
def Zaq:List Tr->Nat
 | []=>0
 | t::r=>szT t+Zaq r
end
theorem ZdF (out:List Nd) (a:Nat) (n:Int):(Zet out a n).length=out.length:=by
 unfold Zet
 split<;>simp
mutual
theorem Zd1:∀ (t:Tr) (out:List Nd),(Zcj t out).length=out.length+szT t
 | .mk k ws us p ks,out=>by rw [Zcj,ZhB ks,szT,List.length_append];simp;omega
theorem ZhB:∀ (ts:List Tr) (a:Nat) (out:List Nd),(ZcE ts a out).length=out.length+Zaq ts
 | [],a,out=>by rw [ZcE,Zaq];rfl
 | t::r,a,out=>by rw [ZcE,ZhB r,Zd1 t,ZdF,Zaq];omega
end
theorem ZgG:∀ (rs:List (NdV×Nd)) (i:Nat) (x:NdV×Nd) (rv:Value) (ks:List Int),rs[i]? = some x->ZaV (rs.set i ((x.1.1,x.1.2.1,rv),⟨x.2.kind,x.2.words,x.2.nums,ks,x.2.pos⟩))=(ZaV rs).set (i*5+3) rv
 | [],i,x,rv,ks,h=>by simp at h
 | y::r,0,x,rv,ks,h=>by
  obtain rfl:y=x:=by simpa using h
  rfl
 | y::r,i+1,x,rv,ks,h=>by
  rw [List.getElem?_cons_succ] at h
  rw [List.set_cons_succ,ZaV,ZaV,ZgG r i x rv ks h,show (i+1)*5+3=(i*5+3)+1+1+1+1+1 by omega]
  rfl
structure LayS (w:World) (B:Nat) (v:Value) (rs:List (NdV×Nd)):Prop where
 own:w.ownsRow B 37 5 v rs.length (ZaV rs)
 each:∀ (i:Nat) (x:NdV×Nd),rs[i]? = some x->w.ownsRow 0 9 1 x.1.1 x.2.words.length (x.2.words.map txt)/\w.ownsRow 0 2 1 x.1.2.1 x.2.nums.length (x.2.nums.map (Value.int .i64))/\w.ownsRow B 3 1 x.1.2.2 x.2.kids.length (x.2.kids.map (Value.int .i64))/\∀ y∈x.2.words,y.length<=maxLen
 apart:∀ (i j:Nat) (x y:NdV×Nd) (c:Nat),i≠j->rs[i]? = some x->rs[j]? = some y->x.1.2.2.ownBlock=some c->y.1.2.2.ownBlock≠some c
def ZcQ (w w2:World):Prop:=w.heap.size<=w2.heap.size/\∀ b ty cs,Zh w b ty cs->ty≠37->ty≠3->Zh w2 b ty cs
theorem ZcQ.refl (w:World):ZcQ w w:=⟨Nat.le_refl _,fun _ _ _ h _ _=>h⟩
theorem ZcQ.trans {w w1 w2:World} (h:ZcQ w w1) (k:ZcQ w1 w2):ZcQ w w2:=⟨Nat.le_trans h.1 k.1,fun b ty cs a c d=>k.2 b ty cs (h.2 b ty cs a c d) c d⟩
theorem ZcQ.of_below {w w2:World} (h:Below w.heap.size w w2):ZcQ w w2:=⟨h.size,fun _ _ _ a _ _=>a.keep h⟩
theorem ZcQ.row {w w3:World} {B n size:Nat} {e:TypeId} {v:Value} {xs:List Value} (ho:w.ownsRow B e size v n xs) (he:e=37\/e=3) (hg:w.grownBy w3 v.ownBlock):ZcQ w w3:=
 ⟨hg.size,fun b ty cs a c d=>a.grown hg (a.off ho (by rcases he with rfl | rfl;exact c;exact d))⟩
theorem ZcQ.set {w:World} {g j:Nat} {cs:Array Value} {u:Value} (h:Zh w g 37 cs):ZcQ w (w.setCell ⟨g,j,none⟩ u):=
 ⟨by simp [World.setCell],fun b ty cs2 a c _=>a.other (p:=⟨g,j,none⟩) (fun e=>by dsimp only at e;subst e;exact Zee a h c rfl) u⟩
section
variable {w w3:World} {B:Nat} {v v3:Value} {rs:List (NdV×Nd)}
theorem LayS.nil (w:World) (B:Nat):LayS w B (.slice none 0 0) []:=⟨World.ownsRow_nil _ _ _ _,fun i x h=>(by simp at h),fun i j x y c _ h=>(by simp at h)⟩
theorem LayS.below (h:LayS w B v rs) (hb:Below w.heap.size w w3):LayS w3 B v rs:=
 ⟨ZcG h.own hb,fun i x hx=>⟨ZcG (h.each i x hx).1 hb,ZcG (h.each i x hx).2.1 hb,ZcG (h.each i x hx).2.2.1 hb,(h.each i x hx).2.2.2⟩,h.apart⟩
theorem LayS.push {x:NdV×Nd} (h:LayS w B v rs) (hx:w.ownsRow 0 9 1 x.1.1 x.2.words.length (x.2.words.map txt)/\w.ownsRow 0 2 1 x.1.2.1 x.2.nums.length (x.2.nums.map (Value.int .i64))/\∀ y∈x.2.words,y.length<=maxLen) (hk:x.1.2.2=.slice none 0 0/\x.2.kids=[])
  (hown:w3.ownsRow B 37 5 v3 (rs.length+1) (ZaV rs++ZaV [x])) (hg:w.grownBy w3 v.ownBlock):LayS w3 B v3 (rs++[x]):=by
 refine ⟨by rw [List.length_append,Zge];exact hown,fun i y hy=>?_,fun i j y z c hij hy hz hc=>?_⟩
 ·rcases Nat.lt_or_ge i rs.length with hi | hi
  ·rw [List.getElem?_append_left hi] at hy
   obtain ⟨e1,e2,e3,e4⟩:=h.each i y hy
   exact ⟨ZcM e1 h.own (by decide) hg,ZcM e2 h.own (by decide) hg,ZcM e3 h.own (by decide) hg,e4⟩
  ·rw [List.getElem?_append_right hi] at hy
   obtain rfl:x=y:=by
    cases q:i-rs.length with
    | zero=>rw [q] at hy;simpa using hy
    | succ n=>rw [q] at hy;simp at hy
   rw [hk.1,hk.2]
   exact ⟨ZcM hx.1 h.own (by decide) hg,ZcM hx.2.1 h.own (by decide) hg,World.ownsRow_nil _ _ _ _,hx.2.2⟩
 ·have cut:∀ (m:Nat) (u:NdV×Nd),(rs++[x])[m]? = some u->(rs[m]? = some u)\/u.1.2.2=.slice none 0 0:=fun m u hu=>by
   rcases Nat.lt_or_ge m rs.length with hi | hi
   ·rw [List.getElem?_append_left hi] at hu;exact .inl hu
   ·rw [List.getElem?_append_right hi] at hu
    refine .inr ?_
    cases q:m-rs.length with
    | zero=>rw [q] at hu;obtain rfl:x=u:=by simpa using hu
            exact hk.1
    | succ n=>rw [q] at hu;simp at hu
  rcases cut i y hy with hy | hy
  ·rcases cut j z hz with hz | hz
   ·exact h.apart i j y z c hij hy hz hc
   ·rw [hz];simp [Value.ownBlock]
  ·rw [hy] at hc;simp [Value.ownBlock] at hc
theorem Zit {n size:Nat} {e:TypeId} {xs:List Value} (h:w.ownsRow B e size v n xs) (hn:0<n):∃ g c cs,v=.slice (some ⟨g,0,none⟩) n c/\Zh w g e cs/\B<=g:=by
 rcases h.2 with ⟨_,h0⟩ | ⟨g,cap,cur,rfl,hb,hg,_⟩
 ·omega
 ·exact ⟨g,cap,cur,rfl,hg,hb⟩
theorem LayS.kid {g c a:Nat} {x:NdV×Nd} {kv:Value} {n:Int} (h:LayS w B (.slice (some ⟨g,0,none⟩) rs.length c) rs) (hx:rs[a]? = some x) (hown:w3.ownsRow B 3 1 kv (x.2.kids.length+1) (x.2.kids.map (Value.int .i64)++[.int .i64 n])) (hg:w.grownBy w3 x.1.2.2.ownBlock) (hor:kv.ownBlock=x.1.2.2.ownBlock\/kv.ownBlock=some w.heap.size) :
  w3.cell? ⟨g,a*5+3,none⟩=some x.1.2.2/\w3.frozen? ⟨g,a*5+3,none⟩=false/\LayS (w3.setCell ⟨g,a*5+3,none⟩ kv) B (.slice (some ⟨g,0,none⟩) rs.length c) (rs.set a ((x.1.1,x.1.2.1,kv),⟨x.2.kind,x.2.words,x.2.nums,x.2.kids++[n],x.2.pos⟩))/\ZcQ w (w3.setCell ⟨g,a*5+3,none⟩ kv):=by
 have hal:=(List.getElem?_eq_some_iff.1 hx).1
 obtain ⟨x1,x2,x3,x4⟩:=h.each a x hx
 have own3:=ZcM h.own x3 (by decide) hg
 obtain ⟨g2,c2,cs,hv,hT,hB⟩:=Zit own3 (by omega)
 simp only [Value.slice.injEq,Option.some.injEq,Addr.mk.injEq,and_true,true_and] at hv
 obtain ⟨rfl,rfl⟩:=hv
 have cell:=own3.cells (g:=g) rfl (a*5+3) x.1.2.2 (Ze0 rs a x hx).2.2.2.1
 rw [Addr.add_lit,Nat.zero_add] at cell
 have K:=(ZcQ.row x3 (.inr rfl) hg).trans (ZcQ.set (j:=a*5+3) (u:=kv) hT)
 refine ⟨cell,hT.blk.free _,⟨?_,?_,?_⟩,K⟩
 ·have s:=(World.ownsRow.stored own3 (a*5+3) kv).1
  rw [<- ZgG rs a x kv (x.2.kids++[n]) hx] at s
  rw [List.length_set]
  exact s
 ·intro i y hy
  by_cases hia:a=i
  ·subst hia
   rw [List.getElem?_set_self hal] at hy
   injection hy with hy
   subst hy
   refine ⟨Zb3 (ZcM x1 x3 (by decide) hg) hT (by decide),Zb3 (ZcM x2 x3 (by decide) hg) hT (by decide),?_,x4⟩
   have:=Zb3 (j:=a*5+3) (u:=kv) hown hT (by decide)
   simpa using this
  ·rw [List.getElem?_set_ne hia] at hy
   obtain ⟨e1,e2,e3,e4⟩:=h.each i y hy
   refine ⟨Zb3 (ZcM e1 x3 (by decide) hg) hT (by decide),Zb3 (ZcM e2 x3 (by decide) hg) hT (by decide),Zb3 (e3.kept hg ?_) hT (by decide),e4⟩
   cases q:x.1.2.2.ownBlock with
   | none=>cases q2:y.1.2.2.ownBlock with
    | none=>exact .inl rfl
    | some m=>exact .inr (by simp)
   | some m=>exact .inr (h.apart a i x y m hia hx hy q)
 ·
  have hl:∀ (i:Nat) (y:NdV×Nd) (m:Nat),rs[i]? = some y->y.1.2.2.ownBlock=some m->m<w.heap.size:=fun i y m hy hm=>((h.each i y hy).2.2.1.lt m hm).2
  intro i j y z m hij hy hz hm
  by_cases hia:a=i
  ·subst hia
   rw [List.getElem?_set_self hal] at hy
   injection hy with hy
   subst hy
   rw [List.getElem?_set_ne hij] at hz
   dsimp only at hm
   rcases hor with q | q
   ·rw [q] at hm;exact h.apart a j x z m hij hx hz hm
   ·rw [q] at hm;injection hm with hm;subst hm;exact fun e=>Nat.lt_irrefl _ (hl j z _ hz e)
  ·rw [List.getElem?_set_ne hia] at hy
   by_cases hja:a=j
   ·subst hja
    rw [List.getElem?_set_self hal] at hz
    injection hz with hz
    subst hz
    dsimp only
    rcases hor with q | q
    ·rw [q];exact h.apart i a y x m hij hy hx hm
    ·rw [q];exact fun e=>by injection e with e;have:=hl i y m hy hm;omega
   ·rw [List.getElem?_set_ne hja] at hz
    exact h.apart i j y z m hij hy hz hm
theorem ZpQ {a:Nat} {x:NdV×Nd} {kv:Value} {n:Int} (hx:rs[a]? = some x):(rs.set a ((x.1.1,x.1.2.1,kv),⟨x.2.kind,x.2.words,x.2.nums,x.2.kids++[n],x.2.pos⟩)).map (·.2)=Zet (rs.map (·.2)) a n:=by
 unfold Zet
 rw [List.getElem?_map,hx,List.map_set]
 rfl
end
theorem Zsb:(Tryz.prog.info? 37).map (fun i=>(i.zero,i.size,i.bytes))=some (some (.agg #[.int .i64 0,.slice none 0 0,.slice none 0 0,.slice none 0 0,.int .i64 0]),5,88):=by kernel_rfl
theorem Zsc:(Tryz.prog.info? 3).map (fun i=>(i.zero,i.size,i.bytes))=some (some (.int .i64 0),1,8):=by kernel_rfl
theorem ZnR (w:World) (u0 u1 u2 u3 u4:Value) (ty:TypeId):ZM (w.alloc (.cells #[u0,u1,u2,u3,u4] ty)) (w.heap.size+1) 5 (some ⟨w.heap.size,0,none⟩) 1 [u0,u1,u2,u3,u4]:=
 ⟨rfl,fun _=>⟨_,rfl,Nat.lt_succ_self _,fun j v hj=>Zgk w #[u0,u1,u2,u3,u4] ty j v (by simpa using hj)⟩⟩
theorem Zqr (k p:Int) (A B C:Option Addr) (n c m d q e:Nat):∀ u∈[Value.int .i64 k,.slice A n c,.slice B m d,.slice C q e,.int .i64 p],u.oneCell'=true:=fun u hu=>by
 simp at hu
 rcases hu with rfl | rfl | rfl | rfl | rfl<;>rfl
end
section
theorem ZdN:∀ (a b:List Tr),Zaq (a++b)=Zaq a+Zaq b
 | [],b=>by rw [List.nil_append,Zaq];omega
 | t::r,b=>by rw [List.cons_append,Zaq,Zaq,ZdN r b];omega
theorem Zcq (t:Tr):Zaq [t]=szT t:=by rw [Zaq,Zaq];rfl
theorem ZbJ (k:Int) (ws:List Txt) (us:List Int) (p:Int) (ks:List Tr):szT (.mk k ws us p ks)=Zaq ks+1:=by rw [szT]
theorem Zh0 (op:Int) (a b:Tr):szT (Za0 op a b)=szT a+szT b+1:=by rw [Zjt,ZbJ,Zaq,Zaq,Zaq];omega
section
variable {L:List Tok}
abbrev SzM (D:PS->Prop) (M:PS->Tr×PS):Prop:=∀ s,D s->(M s).2.err=0->szT (M s).1+s.at_<=(M s).2.at_
theorem ZgS (hE:ZW L) {D:PS->Prop} (hD:Dom L D) {pc:PS->Tr×PS} (hp:Onw L D pc) (hz:SzM D pc) (x y:Txt) (i j:Int):∀ (f:Nat) (a:Tr) (s:PS),D s->(ZaA L pc x y i j f a s).2.err=0->szT (ZaA L pc x y i j f a s).1+s.at_<=(ZaA L pc x y i j f a s).2.at_+szT a
 | 0,a,s,_,_=>by rw [ZaA];dsimp only;omega
 | f+1,a,s,hs,e=>by
  unfold ZaA at e ⊢
  by_cases he:s.err=0
  ·rw [if_pos he] at e ⊢
   by_cases h:isM L x s=true
   ·rw [if_pos h] at e ⊢
    have g:=ZC hE (hD.lt _ hs) h
    have hd:=hD.next _ _ hs g.toAdv
    have n:=hp _ hd
    have hd2:=hD.next _ _ hd n.toAdv
    have c:=ZcJ hE hD hp x y i j f (Za0 i a (pc (Zd s)).1) _ hd2
    have e2:=c.err e
    have h1:=ZgS hE hD hp hz x y i j f _ _ hd2 e
    have h2:=hz _ hd e2
    rw [Zh0] at h1
    have:(Zd s).at_=s.at_+1:=rfl
    dsimp only at h1 ⊢
    omega
   ·rw [if_neg h] at e ⊢
    by_cases h':isM L y s=true
    ·rw [if_pos h'] at e ⊢
     have g:=ZC hE (hD.lt _ hs) h'
     have hd:=hD.next _ _ hs g.toAdv
     have n:=hp _ hd
     have hd2:=hD.next _ _ hd n.toAdv
     have c:=ZcJ hE hD hp x y i j f (Za0 j a (pc (Zd s)).1) _ hd2
     have e2:=c.err e
     have h1:=ZgS hE hD hp hz x y i j f _ _ hd2 e
     have h2:=hz _ hd e2
     rw [Zh0] at h1
     have:(Zd s).at_=s.at_+1:=rfl
     dsimp only at h1 ⊢
     omega
    ·rw [if_neg h'];dsimp only;omega
  ·rw [if_neg he];dsimp only;omega
theorem ZnL (hE:ZW L) {D:PS->Prop} (hD:Dom L D) {pc:PS->Tr×PS} (hp:Onw L D pc) (hz:SzM D pc):SzM D (Zaj L pc):=fun s hs e=>by
 have hd:=hD.next _ _ hs (hp s hs).toAdv
 have h1:=ZgS hE hD hp hz [42] [47] 4 5 (L.length+1) (pc s).1 _ hd e
 have h2:=hz s hs ((ZcJ hE hD hp [42] [47] 4 5 (L.length+1) (pc s).1 _ hd).err e)
 unfold Zaj
 dsimp only
 omega
theorem Zsj (hE:ZW L) {D:PS->Prop} (hD:Dom L D) {pc:PS->Tr×PS} (hp:Onw L D pc) (hz:SzM D pc):SzM D (ZK L pc):=fun s hs e=>by
 have hq:=Zeb hE hD hp
 have hw:=ZnL hE hD hp hz
 have hd:=hD.next _ _ hs (hq s hs).toAdv
 have h1:=ZgS hE hD hq hw [43] [45] 2 3 (L.length+1) (Zaj L pc s).1 _ hd e
 have h2:=hw s hs ((ZcJ hE hD hq [43] [45] 2 3 (L.length+1) (Zaj L pc s).1 _ hd).err e)
 unfold ZK
 dsimp only
 omega
theorem Zms (hE:ZW L) {D:PS->Prop} (hD:Dom L D) {pc:PS->Tr×PS} (hp:Onw L D pc) (hz:SzM D pc):SzM D (ZaO L pc):=fun s hs e=>by
 have hq:=ZgJ hE hD hp
 have hw:=Zsj hE hD hp hz
 have ha:=hD.next _ _ hs (hq s hs).toAdv
 unfold ZaO at e ⊢
 dsimp only at e ⊢
 by_cases h:isM L [60] (ZK L pc s).2=true
 ·rw [if_pos h] at e ⊢
  have g:=ZC hE (hD.lt _ ha) h
  have hd:=hD.next _ _ ha g.toAdv
  have h1:=hw _ hd e
  have h2:=hw s hs (g.toAdv.err ((hq _ hd).toAdv.err e))
  have:(Zd (ZK L pc s).2).at_=(ZK L pc s).2.at_+1:=rfl
  dsimp only
  rw [Zh0]
  omega
 ·rw [if_neg h] at e ⊢
  by_cases h':isM L [61,61] (ZK L pc s).2=true
  ·rw [if_pos h'] at e ⊢
   have g:=ZC hE (hD.lt _ ha) h'
   have hd:=hD.next _ _ ha g.toAdv
   have h1:=hw _ hd e
   have h2:=hw s hs (g.toAdv.err ((hq _ hd).toAdv.err e))
   have:(Zd (ZK L pc s).2).at_=(ZK L pc s).2.at_+1:=rfl
   dsimp only
   rw [Zh0]
   omega
  ·rw [if_neg h'] at e ⊢;exact hw s hs e
theorem Znl (s:PS):(inM L s).at_=s.at_:=(Zim s).1
theorem Zsa {s:PS} (e:(inM L s).err=0):s.err=0:=by
 by_cases h:s.err=0
 ·exact h
 ·exact absurd e ((Zim s).2.2 h)
theorem Ziv (hE:ZW L):∀ (f:Nat),SzM (Dp L f) (ZE L f)
 | 0,s,hs,e=>by have:=hs.fuel e;omega
 | f+1,s,hs,e=>by
  unfold ZE at e ⊢
  by_cases he:s.err≠0
  ·rw [if_pos he] at e;exact absurd e he
  rw [if_neg he] at e ⊢
  have e0:s.err=0:=Classical.not_not.1 he
  by_cases h1:(ZaK L s).1=1
  ·rw [if_pos h1] at e ⊢
   have:=(Zc4 hE 0 hs.lt).on e
   dsimp only
   rw [ZbJ,Zaq]
   omega
  rw [if_neg h1] at e ⊢
  by_cases h2:ZaZ L s=true
  ·rw [if_pos h2] at e ⊢
   have:=(Zo hE hs.lt).on e
   dsimp only
   rw [ZbJ,Zaq]
   omega
  rw [if_neg h2] at e ⊢
  by_cases h3:isM L [45] s=true
  ·rw [if_pos h3] at e ⊢
   have g:=ZC hE hs.lt h3
   have d:=(ZX (f+1)).next _ _ hs g.toAdv
   have i:=Zep d (.inl e0)
   have h:=Ziv hE f _ i e
   rw [Znl] at h
   have:(Zd s).at_=s.at_+1:=rfl
   dsimp only
   rw [ZbJ,Zcq]
   show szT _+1+s.at_<=(ZE L f (inM L (Zd s))).2.at_
   omega
  rw [if_neg h3] at e ⊢
  have g:=Zq hE [40] hs.lt
  have d:=(ZX (f+1)).next _ _ hs g.toAdv
  have i:=Zep d (.inr (by rw [g.deep];exact (hs.fuel e0).1))
  have x:=ZgC hE (ZX f) (Zb9 hE f) _ i
  have lt:(ZdW (ZaO L (ZE L f) (inM L (Zf L [40] s))).2).at_<L.length:=x.lt i.lt
  have w:=Zq hE [41] lt
  have ex:(ZaO L (ZE L f) (inM L (Zf L [40] s))).2.err=0:=w.toAdv.err e
  have h:=Zms hE (ZX f) (Zb9 hE f) (Ziv hE f) _ i ex
  rw [Znl] at h
  have:=g.le
  have h2:=w.le
  dsimp only at h2 ⊢
  have:(ZdW (ZaO L (ZE L f) (inM L (Zf L [40] s))).2).at_=(ZaO L (ZE L f) (inM L (Zf L [40] s))).2.at_:=rfl
  omega
theorem Zhe (hE:ZW L) {D:PS->Prop} (hD:Dom L D) {ea:PS->Tr×PS} (hp:∀ s,D s->s.err=0->Adv L s (ea s).2) (hz:∀ s,D s->s.err=0->(ea s).2.err=0->szT (ea s).1+s.at_<=(ea s).2.at_) (x:Txt):∀ (f:Nat) (l:List Tr) (s:PS),D s->(ZaP L ea x f l s).2.err=0->Zaq (ZaP L ea x f l s).1+s.at_<=(ZaP L ea x f l s).2.at_+Zaq l
 | 0,l,s,_,_=>by rw [ZaP];dsimp only;omega
 | f+1,l,s,hs,e=>by
  unfold ZaP at e ⊢
  by_cases he:s.err=0
  ·rw [if_pos he] at e ⊢
   by_cases h:isM L x s=true
   ·rw [if_pos h]
    have:(Zd s).at_=s.at_+1:=rfl
    dsimp only
    omega
   ·rw [if_neg h] at e ⊢
    have n:=hp s hs he
    have hd:=hD.next _ _ hs n
    have h1:=Zhe hE hD hp hz x f (l++[(ea s).1]) _ hd e
    have h2:=hz s hs he ((ZcX hE hD hp x f (l++[(ea s).1]) _ hd).err e)
    rw [ZdN,Zcq] at h1
    dsimp only at h1 ⊢
    omega
  ·rw [if_neg he];dsimp only;omega
theorem Zhr (hE:ZW L) {D:PS->Prop} (hD:Dom L D) {ea:PS->Tr×PS} (hp:∀ s,D s->Adv L s (ea s).2) (hz:SzM D ea):∀ (f:Nat) (first:Bool) (l:List Tr) (s:PS),D s->(ZT L ea f first l s).2.err=0->Zaq (ZT L ea f first l s).1+s.at_<=(ZT L ea f first l s).2.at_+Zaq l
 | 0,_,l,s,_,_=>by rw [ZT];dsimp only;omega
 | f+1,first,l,s,hs,e=>by
  unfold ZT at e ⊢
  by_cases he:s.err=0
  ·rw [if_pos he] at e ⊢
   by_cases h:isM L [41] s=true
   ·rw [if_pos h]
    have:(Zd s).at_=s.at_+1:=rfl
    dsimp only
    omega
   ·rw [if_neg h] at e ⊢
    have w:Adv L s (if first then s else Zf L [44] s):=by
     cases first
     ·exact (Zq hE [44] (hD.lt _ hs)).toAdv
     ·exact Adv.refl s
    have dw:=hD.next _ _ hs w
    have n:=hp _ dw
    have hd:=hD.next _ _ dw n
    have h1:=Zhr hE hD hp hz f false (l++[(ea (if first then s else Zf L [44] s)).1]) _ hd e
    have h2:=hz _ dw ((Zc6 hE hD hp f false (l++[(ea (if first then s else Zf L [44] s)).1]) _ hd).err e)
    have h3:=w.le
    rw [ZdN,Zcq] at h1
    dsimp only at h1 ⊢
    omega
  ·rw [if_neg he];dsimp only;omega
theorem ZdG (hE:ZW L) {f:Nat} {st:PS->Tr×PS} (hp:∀ s,Dp L f s->s.err=0->Adv L s (st s).2) (hz:∀ s,Dp L f s->s.err=0->(st s).2.err=0->szT (st s).1+s.at_<=(st s).2.at_) {s:PS} (hs:Dp L (f+1) s) (h200:s.deep<=200) (e:(Zag L st s).2.err=0):szT (Zag L st s).1+s.at_<=(Zag L st s).2.at_:=by
 have g:=Zq hE [123] hs.lt
 have d:=(ZX (f+1)).next _ _ hs g.toAdv
 have i:=Zep d (.inr (by rw [g.deep];exact h200))
 have eu:(ZaP L st [125] (L.length+1) [] (inM L (Zf L [123] s))).2.err=0:=e
 have h:=Zhe hE (ZX f) hp hz [125] _ [] _ i eu
 have ew:=Zsa ((ZcX hE (ZX f) hp [125] (L.length+1) [] _ i).err eu)
 have:=g.on ew
 rw [Znl,Zaq] at h
 unfold Zag
 dsimp only
 rw [ZbJ]
 show Zaq _+1+s.at_<=(ZaP L st [125] (L.length+1) [] (inM L (Zf L [123] s))).2.at_
 omega
end
end
end Go.Proofs.YtkongcicmajolaaGreatDoor
