import Derived.Deep.DeepFit
import Derived.Deep.CutRange
import Derived.Test.YtbfnnolakggbfaaGreatDoorQBX
set_option maxRecDepth 100000
set_option maxHeartbeats 8000000
open Option renaming some → Ya, none → Yb
open Go.Value renaming int → Yd
open Go.IntKind renaming i64 → Yf
open Go.Obj renaming cells → Yg
open Go renaming World → Yh
namespace Go.Proofs.YtbfnnolakggbfaaGreatDoor
section
open Go.RowKit
section
variable {wq w1 w2 wo wA wr:Yh} {p q:Addr} {x y:Value} {A:Prop} {ty:TypeId} {c:Nat} {m d e:Int}
theorem Zo1 (a:Below w1.heap.size w1 w2) (h:w1.cell? p=Ya x):w2.cell? p=Ya x:=(a.cell (World.block_lt_of_cell? _ _ h)).trans h
def Zf6 (P:Yh->Prop):Prop:=∀a b:Yh,Below a.heap.size a b->P a->P b
theorem Zjc (p:Addr) (x:Value):Zf6 fun w=>w.cell? p=Ya x:=fun _ _ a h=>Zo1 a h
theorem Zkq {P Q:Yh->Prop} (b:Zf6 P) (hq:Zf6 Q):Zf6 fun w=>P w/\Q w:=fun _ _ a h=>⟨b _ _ a h.1,hq _ _ a h.2⟩
theorem ZmQ (a:Yh):Zf6 fun w=>Below a.heap.size a w:=fun _ _ b h=>h.trans (b.mono h.size)
theorem ZlZ {P:Yh->Prop} (a:Zf6 P) {wo:Yh} {o:Obj} (h:P wo.drew):P (wo.alloc o).drew:=a _ _ (below_alloc1 wo.drew o) h
structure HoleP (wA wr:Yh) (c:Nat):Prop where
 hc:c=wA.heap.size
 k0:wr.cell? ⟨c,0,Yb⟩=Ya (Yd Yf 0)
 k1:wr.cell? ⟨c,1,Yb⟩=Ya (Yd Yf 0)
 l0:wr.frozen? ⟨c,0,Yb⟩=false
 l1:wr.frozen? ⟨c,1,Yb⟩=false
 lt:c<wr.heap.size
 below:Below wA.heap.size wA wr
theorem HoleP.start (a:Yh) (ty:TypeId):HoleP a (a.alloc (Yg #[Yd Yf 0,Yd Yf 0] ty)) a.heap.size where
 hc:=rfl
 k0:=by go_simp
 k1:=by go_simp
 l0:=by go_simp
 l1:=by go_simp
 lt:=by simp
 below:=below_alloc1 _ _
theorem HoleP.keep (h:HoleP wA wr c) (a:Below wr.heap.size wr w2):HoleP wA w2 c:=
 have z:=a.size;have l:=h.lt
 ⟨h.hc,Zd a l h.k0,Zd a l h.k1,Zo a l h.l0,Zo a l h.l1,by omega,h.below.trans (a.mono h.below.size)⟩
theorem HoleP.fill (h:HoleP wA wr c) (p q:Int):Below wA.heap.size wA ((wr.setCell ⟨c,0,Yb⟩ (Yd Yf p)).setCell ⟨c,1,Yb⟩ (Yd Yf q))/\RatAt ((wr.setCell ⟨c,0,Yb⟩ (Yd Yf p)).setCell ⟨c,1,Yb⟩ (Yd Yf q)) c p q:=by
 have hc:=h.hc;refine⟨(h.below.setCell (p:=⟨c,0,Yb⟩) (by show wA.heap.size<=c;omega) _).setCell (p:=⟨c,1,Yb⟩) (by show wA.heap.size<=c;omega) _,?_,?_,by simpa[World.setCell]using h.lt⟩
 ·rw[World.cell?_setCell_other _ _ _ _ (show(⟨c,1,Yb⟩:Addr)≠⟨c,0,Yb⟩by simp),World.cell?_setCell_same _ _ _ h.k0]
 ·exact World.cell?_setCell_same _ _ _ (by rw[World.cell?_setCell_other _ _ _ _ (show(⟨c,0,Yb⟩:Addr)≠⟨c,1,Yb⟩by simp)];exact h.k1)
theorem Zis (_:A/\Below wq.heap.size wq (wA.alloc (Yg #[Yd Yf 0,Yd Yf 0] ty))):HoleP wA (wA.alloc (Yg #[Yd Yf 0,Yd Yf 0] ty)) wA.heap.size:=HoleP.start wA ty
theorem Zhb (_:A/\Below wq.heap.size wq (wo.alloc (Yg #[Yd Yf 0,Yd Yf 0] ty)).drew):HoleP wo.drew (wo.alloc (Yg #[Yd Yf 0,Yd Yf 0] ty)).drew wo.heap.size:=HoleP.start wo.drew ty
def ZpR (a:Yh) (m d:Int) (v:Value) (b:Yh):Prop:=∃c,v=.pointer (Ya ⟨c,0,Yb⟩)/\RatAt b c m d/\Below a.heap.size a b
theorem ZnT (h:Below wq.heap.size wq wA) (ty:TypeId):ZpR wq m d (.pointer (Ya ⟨wA.heap.size,0,Yb⟩)) (wA.alloc (Yg #[Yd Yf m,Yd Yf d] ty)):=
 ⟨_,rfl,RatAt.start wA m d ty,h.trans ((below_alloc1 _ _).mono h.size)⟩
theorem Zpi (h:Below wq.heap.size wq wA) (hc:HoleP wA wr c):ZpR wq m d (.pointer (Ya ⟨c,0,Yb⟩)) ((wr.setCell ⟨c,0,Yb⟩ (Yd Yf m)).setCell ⟨c,1,Yb⟩ (Yd Yf d)):=
 ⟨_,rfl,(hc.fill m d).2,h.trans ((hc.fill m d).1.mono h.size)⟩
end
def splitV (b p u v E c v2 a r s:Int):Value:=if E=0 then if a=0 then .tuple #[Zb3 b c v2 r s,Zb3 p u v r s,Yd Yf 0]else ZeM a else ZeM E
theorem Zok (k n d r s p i:Int) {x:Int} {y:Nat} (v:Valid x y) (h0:0<x) (h1:x<y) (w:Yh) (ht:ZcO w) (hk:(ZdM k p != -1)=true) (hs:ZnM k p i=true) (x2 A pv E u z J:Int)
  (mu:∀w,Calls Tryz.prog 26 #[Zb n d,Zb x y] w fun e w'=>e=.returned (.tuple #[Zb A pv,Yd Yf E])/\Below w.heap.size w w')
  (sb:∀w,Calls Tryz.prog 27 #[Zb 1 1,Zb x y] w fun e w'=>e=.returned (.tuple #[Zb x2 y,Yd Yf 0])/\Below w.heap.size w w')
  (af:∀w,Calls Tryz.prog 26 #[Zb n d,Zb x2 y] w fun e w'=>e=.returned (.tuple #[Zb u z,Yd Yf J])/\Below w.heap.size w w') :
  Calls Tryz.prog 9 #[Zb3 k n d r s,Yd Yf p,Zb x y,.int .u32 i] w fun e w'=>e=.returned (splitV (ZdM k p) p A pv E u z J r (ZkV k s p i))/\Below w.heap.size w w':=by
 have H1:=SpB.start w k n d r s x y 26 23;generalize cx:(((w.alloc (.cells (Zay k n d r s) 26)).alloc (Yg #[Yd Yf x,Yd Yf y] 23)).alloc (.cells (Zay 0 0 0 0 0) 26)).alloc (.cells (Zay 0 0 0 0 0) 26)=w1 at *;have KI:=zh (ZnN k p w1 (ht.below H1.2.2.2.2));have KE:=zh (fun w=>Zqg k n d r s p i w);have PY:=zh (fun w=>Zqv v h0 h1 w);have SB:=zh sb;obtain⟨⟨c0,c1,c2,c3,c4⟩,_⟩:=ZaA H1.1;have HH:=zh H1;have cw:∀(fn:Fn) (first ad:Array Value) (w:Yh),(Instr.makeFunc fn first ad).run Tryz.prog w=.ok (.func fn first ad) w:=fun _ _ _ _=>rfl;clear H1 ht v h0 h1 sb;rw[hk]at KI;rw[hs]at KE;clear hk hs;generalize ZdM k p=B at *;generalize ZkV k s p i=j at *;generalize(y:Int)=y at *;have CU:=zh (fun(w':Yh) (M:Nat) (hP:Blk w' w.heap.size (Zay k n d r s)) (hS:Blk w' M #[.int .u32 j])=>Zm6 p x y k n d r s j A pv E w.heap.size M w' hP hS mu);have CV:=zh (fun(w':Yh) (M:Nat) (hP:Blk w' w.heap.size (Zay k n d r s)) (hS:Blk w' M #[.int .u32 j])=>Zm6 B x2 y k n d r s j u z J w.heap.size M w' hP hS af);clear mu af;generalize hZ:splitV B p A pv E u z J r j=Z at *;have R:=zh hZ;clear hZ;go_enter Tryz.func9,Tryz.ntmps9;go_upto_region 2 with(go_at_call 22;go_fit KI.out;rintro e w2 ⟨rfl,rfl⟩)
 go_upto_region 3 with(go_at_call 23;go_fit (KE.out _);rintro e w3 ⟨rfl,h⟩)
 have O:=HH.out.keep (h.trans ((below_alloc1 w3 (Yg #[.int .u32 j] 24)).mono h.size));have S4:=Blk.start w3 #[.int .u32 j] 24;clear h HH c0 c1 c2 c3 c4;generalize w3.alloc (Yg #[.int .u32 j] 24)=w4 at *;generalize w3.heap.size=M at *;have H:w4.cell? ⟨w.heap.size+1,0,Yb⟩=Ya (Yd Yf x):=O.2.1.cell 0;have I:w4.cell? ⟨w.heap.size+1,1,Yb⟩=Ya (Yd Yf y):=O.2.1.cell 1;have O:=zh O;have S4:=zh S4;go_upto_region 5 with(go_at_call 24;go_fit (PY.out _);rintro e w5 ⟨rfl,h⟩)
 have P:=zh (O.out.keep h);have S5:=zh (S4.out.keep h);clear H I O S4 h PY;have H:w5.cell? ⟨w.heap.size+1,0,Yb⟩=Ya (Yd Yf x):=P.out.2.1.cell 0;have I:w5.cell? ⟨w.heap.size+1,1,Yb⟩=Ya (Yd Yf y):=P.out.2.1.cell 1;have P5:=P.out.1;go_upto_region 7 with(go_at_call 25;go_fit (CU.out w5 M P5 S5.out);rintro e N ⟨rfl,h⟩)
 have cy:w.heap.size+1+1+1<N.heap.size:=(P.out.2.2.2.1.keep h).lt;have a7:=h.trans ((below_alloc1 N (.cells (Zay p A pv r j) 26)).mono h.size);have Q:=zh (P.out.keep a7);have S7:=zh (S5.out.keep a7);have T7:=zh (Blk.start N (Zay p A pv r j) 26);clear H I P S5 P5 h a7 CU;generalize N.alloc (.cells (Zay p A pv r j) 26)=C at *;generalize N.heap.size=bt at *;by_cases G:E=0
 ·subst G;have H:C.cell? ⟨w.heap.size+1,0,Yb⟩=Ya (Yd Yf x):=Q.out.2.1.cell 0;have I:C.cell? ⟨w.heap.size+1,1,Yb⟩=Ya (Yd Yf y):=Q.out.2.1.cell 1;go_upto_region 9 with fail;go_cut [18,19]from 61 to 66 (fun be bf wx=>bf=Yd Yf 0/\ZpR C x2 y be wx)
  case first=>
   have m:=zh (show Zf6 (fun w'=>(w'.cell? ⟨w.heap.size+1,0,Yb⟩=Ya (Yd Yf x)/\w'.cell? ⟨w.heap.size+1,1,Yb⟩=Ya (Yd Yf y))/\Below C.heap.size C w')from Zkq (Zkq (Zjc _ _) (Zjc _ _)) (ZmQ C));have HS:(fun w'=>(w'.cell? ⟨w.heap.size+1,0,Yb⟩=Ya (Yd Yf x)/\w'.cell? ⟨w.heap.size+1,1,Yb⟩=Ya (Yd Yf y))/\Below C.heap.size C w') C.drew:=⟨⟨H,I⟩,Zn _⟩
   dsimp only at HS;clear H I;refine wp_region_noPanic ?_;refine wp_region_held_drew (S:=(fun w'=>(w'.cell? ⟨w.heap.size+1,0,Yb⟩=Ya (Yd Yf x)/\w'.cell? ⟨w.heap.size+1,1,Yb⟩=Ya (Yd Yf y))/\Below C.heap.size C w')) (by kernel_rfl) HS (fun f=>?_);clear HS;refine tk 1 rfl ?_;(try simp only[cl,Act.put]);refine wpAnyH_ready (rs:=[0,6]) (by kernel_rfl) (by simp) (AllReadyH.cons (o:=_) rfl (fun K l=>?_) (AllReadyH.cons (o:=_) rfl (fun K l=>?_) AllReadyH.nil))
   rotate_left
   go_simp
   (first|refine l.out _ _ (ZlZ m.out (by with_reducible assumption)) (fun a=>?_)|refine l.out _ _ (m.out _ _ (below_alloc1 _ _) (by with_reducible assumption)) (fun a=>?_))
   clear l K;(try dsimp only at a)
   (first|have t:=zh (Zis a)|have t:=zh (Zhb a))
   have g:=zh f;clear f;have f:=a;clear a;(try simp only[cl,Act.put]);refine rd 0 rfl fun K l=>?_
   rotate_right
   all_goals
    go_simp
    (first
     |(go_at_call 12;go_fit (ZdH 1 _);rintro e5 w5 ⟨rfl,h⟩;(try have t:=zh (t.out.keep h)))
     |(go_at_call 27;go_fit (SB.out _);rintro e6 N ⟨rfl,h⟩;(try have t:=zh (t.out.keep h))))
    go_wp2_with fail;refine l.out _ _ (m.out _ _ h (by with_reducible assumption)) (fun a=>?_);clear l K f h;have f:=a;clear a;(try simp only[cl,Act.put])
   all_goals (try (have _:=t.out;refine rd 2 rfl fun K l=>?_))
   refine wpAnyH_ready (rs:=[2,6]) (by kernel_rfl) (by simp) (AllReadyH.cons (o:=_) rfl (fun K l=>?_) (AllReadyH.cons (o:=_) rfl (fun K l=>?_) AllReadyH.nil))
   rotate_left
   go_simp
   (first|refine l.out _ _ (ZlZ m.out (by with_reducible assumption)) (fun a=>?_)|refine l.out _ _ (m.out _ _ (below_alloc1 _ _) (by with_reducible assumption)) (fun a=>?_))
   clear l K;(try dsimp only at a)
   (first|have t:=zh (Zis a)|have t:=zh (Zhb a))
   have g:=zh f;clear f;have f:=a;clear a;(try simp only[cl,Act.put]);refine rd 2 rfl fun K l=>?_
   rotate_right
   all_goals
    go_simp
    (first
     |(go_at_call 12;go_fit (ZdH 1 _);rintro e5 w5 ⟨rfl,h⟩;(try have t:=zh (t.out.keep h)))
     |(go_at_call 27;go_fit (SB.out _);rintro e6 N ⟨rfl,h⟩;(try have t:=zh (t.out.keep h))))
    go_wp2_with fail;refine l.out _ _ (m.out _ _ h (by with_reducible assumption)) (fun a=>?_);clear l K f h;have f:=a;clear a;(try simp only[cl,Act.put])
   all_goals
    refine tk 3 rfl ?_;refine tk 4 rfl ?_;refine tk 5 rfl ?_;(try simp only[cl,Act.put])
   refine rd 6 rfl fun K l=>?_;go_simp
   (first|refine l.out _ _ (ZlZ m.out (by with_reducible assumption)) (fun a=>?_)|refine l.out _ _ (m.out _ _ (below_alloc1 _ _) (by with_reducible assumption)) (fun a=>?_))
   clear l K;(try dsimp only at a)
   (first|have t:=zh (Zis a)|have t:=zh (Zhb a))
   have g:=zh f;clear f;have f:=a;clear a;(try simp only[cl,Act.put])
   all_goals
    refine rd 7 rfl fun K l=>?_;obtain⟨h7,h0,h1,h2,h3,h4,h8⟩:=t.out;clear h7 h8;go_simp;clear h0 h1 h2 h3 h4
    (first
     |refine l.out _ _ (m.out _ _ (below_alloc1 _ _) g.out) (fun a=>?_)
     |refine l.out _ _ (m.out _ _ (t.out.fill _ _).1 g.out) (fun a=>?_))
    clear l K f;(try dsimp only at a);have f:=a;clear a;(try simp only[cl,Act.put]);refine tk 8 rfl ?_;(try simp only[cl,Act.put]);refine wpAnyH_done (by kernel_rfl) ?_ _;refine NoPanic.normal ?_;go_wp2_with fail;go_meet
    case rel=>first|exact⟨rfl,ZnT g.out.2 23⟩|exact⟨rfl,Zpi g.out.2 t.out⟩
  case rest=>
   obtain⟨rfl,c,rfl,hR,h⟩:=hcut;have H8:=zh (Q.out.keep h);have S8:=zh (S7.out.keep h);have T8:=zh (T7.out.keep h);clear H I Q S7 T7 h;have H:=hR.k0;have I:=hR.k1;clear hR;have P8:=H8.out.1;go_upto_region 11 with(go_at_call 25;go_fit (CV.out _ M P8 S8.out);rintro e w9 ⟨rfl,h⟩)
   have a9:=h.trans ((below_alloc1 w9 (.cells (Zay B u z r j) 26)).mono h.size);have H9:=zh (H8.out.keep a9);have T9:=zh (T8.out.keep a9);have V9:=zh (Blk.start w9 (Zay B u z r j) 26);clear H I H8 S8 P8 T8 h a9 CV SB KI KE;generalize w9.alloc (.cells (Zay B u z r j) 26)=wv at *;generalize w9.heap.size=bv at *;by_cases G:J=0
   ·subst G;have hz:Z=.tuple #[Zb3 B u z r j,Zb3 p A pv r j,Yd Yf 0]:=by rw[<-R.out];unfold splitV;rw[Yo rfl,Yo rfl]
    go_upto_region 13 with fail;obtain⟨_,_,D,F,L⟩:=H9.out;obtain⟨⟨v0,v1,v2,v3,v4⟩,_⟩:=ZaA V9.out;obtain⟨⟨t0,t1,t2,t3,t4⟩,_⟩:=ZaA T9.out;obtain⟨⟨q0,q1,q2,q3,q4⟩,_⟩:=ZaA (Zc3 T9.out.drew (b:=w.heap.size+1+1) (by omega) (Yd Yf B) (Yd Yf u) (Yd Yf z) (Yd Yf r) (.int .u32 j));clear H9 T9 V9 R;have T:=zh (Zc3 (ZiE D (Yd Yf B) (Yd Yf u) (Yd Yf z) (Yd Yf r) (.int .u32 j)) (b:=w.heap.size+1+1+1) (by omega) (Yd Yf p) (Yd Yf A) (Yd Yf pv) (Yd Yf r) (.int .u32 j));have U:=zh (ZiE (Zc3 F (b:=w.heap.size+1+1) (by omega) (Yd Yf B) (Yd Yf u) (Yd Yf z) (Yd Yf r) (.int .u32 j)) (Yd Yf p) (Yd Yf A) (Yd Yf pv) (Yd Yf r) (.int .u32 j));have V:=zh (ZcG (ZcG L (b:=w.heap.size+1+1) (by omega) (Yd Yf B) (Yd Yf u) (Yd Yf z) (Yd Yf r) (.int .u32 j)) (b:=w.heap.size+1+1+1) (by omega) (Yd Yf p) (Yd Yf A) (Yd Yf pv) (Yd Yf r) (.int .u32 j));obtain⟨⟨z0,z1,z2,z3,z4⟩,f0,f1,f2,f3,f4⟩:=ZaA D;obtain⟨⟨y0,y1,y2,y3,y4⟩,g0,g1,g2,g3,g4⟩:=ZaA F;clear D F L;go_region;go_wp2_with fail;generalize((((((((((wv.setCell ⟨w.heap.size+1+1,0,Yb⟩ (Yd Yf B)).setCell ⟨w.heap.size+1+1,1,Yb⟩ (Yd Yf u)).setCell ⟨w.heap.size+1+1,2,Yb⟩ (Yd Yf z)).setCell ⟨w.heap.size+1+1,3,Yb⟩ (Yd Yf r)).setCell ⟨w.heap.size+1+1,4,Yb⟩ (.int .u32 j)).setCell ⟨w.heap.size+1+1+1,0,Yb⟩ (Yd Yf p)).setCell ⟨w.heap.size+1+1+1,1,Yb⟩ (Yd Yf A)).setCell ⟨w.heap.size+1+1+1,2,Yb⟩ (Yd Yf pv)).setCell ⟨w.heap.size+1+1+1,3,Yb⟩ (Yd Yf r)).setCell ⟨w.heap.size+1+1+1,4,Yb⟩ (.int .u32 j))=wz at *;obtain⟨⟨a0,W,a2,a3,a4⟩,_⟩:=ZaA T.out.drew;obtain⟨⟨X,Y,b2,b3,b4⟩,_⟩:=ZaA U.out.drew;exact bodyPost_ret (v:=.tuple #[Zb3 B u z r j,Zb3 p A pv r j,Yd Yf 0]) (by simp[results,Tryz.results9,go_sem,a0,W,a2,a3,a4,X,Y,b2,b3,b4]) rfl ⟨hz.symm▸rfl,V.out.drew⟩
   ·have ne:(J != 0)=true:=by simpa using G
    have hz:Z=ZeM J:=by rw[<-R.out];unfold splitV;rw[Yo rfl,Yn G]
    obtain⟨_,_,D,F,L⟩:=H9.out;clear H9 T9 V9 R G;have T:=zh (Zc3 (ZiE D (Yd Yf 0) (Yd Yf 0) (Yd Yf 0) (Yd Yf 0) (.int .u32 0)) (b:=w.heap.size+1+1+1) (by omega) (Yd Yf 0) (Yd Yf 0) (Yd Yf 0) (Yd Yf 0) (.int .u32 0));have U:=zh (ZiE (Zc3 F (b:=w.heap.size+1+1) (by omega) (Yd Yf 0) (Yd Yf 0) (Yd Yf 0) (Yd Yf 0) (.int .u32 0)) (Yd Yf 0) (Yd Yf 0) (Yd Yf 0) (Yd Yf 0) (.int .u32 0));have V:=zh (ZcG (ZcG L (b:=w.heap.size+1+1) (by omega) (Yd Yf 0) (Yd Yf 0) (Yd Yf 0) (Yd Yf 0) (.int .u32 0)) (b:=w.heap.size+1+1+1) (by omega) (Yd Yf 0) (Yd Yf 0) (Yd Yf 0) (Yd Yf 0) (.int .u32 0));obtain⟨⟨z0,z1,z2,z3,z4⟩,f0,f1,f2,f3,f4⟩:=ZaA D;obtain⟨⟨y0,y1,y2,y3,y4⟩,g0,g1,g2,g3,g4⟩:=ZaA F;clear D F L;go_wp2_with fail;generalize((((((((((wv.setCell ⟨w.heap.size+1+1,0,Yb⟩ (Yd Yf 0)).setCell ⟨w.heap.size+1+1,1,Yb⟩ (Yd Yf 0)).setCell ⟨w.heap.size+1+1,2,Yb⟩ (Yd Yf 0)).setCell ⟨w.heap.size+1+1,3,Yb⟩ (Yd Yf 0)).setCell ⟨w.heap.size+1+1,4,Yb⟩ (.int .u32 0)).setCell ⟨w.heap.size+1+1+1,0,Yb⟩ (Yd Yf 0)).setCell ⟨w.heap.size+1+1+1,1,Yb⟩ (Yd Yf 0)).setCell ⟨w.heap.size+1+1+1,2,Yb⟩ (Yd Yf 0)).setCell ⟨w.heap.size+1+1+1,3,Yb⟩ (Yd Yf 0)).setCell ⟨w.heap.size+1+1+1,4,Yb⟩ (.int .u32 0))=wz at *;obtain⟨⟨a0,W,a2,a3,a4⟩,_⟩:=ZaA T.out;obtain⟨⟨X,Y,b2,b3,b4⟩,_⟩:=ZaA U.out;exact bodyPost_ret (v:=ZeM J) (by simp[results,Tryz.results9,go_sem,a0,W,a2,a3,a4,X,Y,b2,b3,b4]) rfl ⟨hz.symm▸rfl,V.out⟩
 ·have ne:(E != 0)=true:=by simpa using G
  have hz:Z=ZeM E:=by rw[<-R.out];unfold splitV;rw[Yn G]
  obtain⟨_,_,D,F,L⟩:=Q.out;clear Q S7 T7 R G CV SB KI KE;have T:=zh (Zc3 (ZiE D (Yd Yf 0) (Yd Yf 0) (Yd Yf 0) (Yd Yf 0) (.int .u32 0)) (b:=w.heap.size+1+1+1) (by omega) (Yd Yf 0) (Yd Yf 0) (Yd Yf 0) (Yd Yf 0) (.int .u32 0));have U:=zh (ZiE (Zc3 F (b:=w.heap.size+1+1) (by omega) (Yd Yf 0) (Yd Yf 0) (Yd Yf 0) (Yd Yf 0) (.int .u32 0)) (Yd Yf 0) (Yd Yf 0) (Yd Yf 0) (Yd Yf 0) (.int .u32 0));have V:=zh (ZcG (ZcG L (b:=w.heap.size+1+1) (by omega) (Yd Yf 0) (Yd Yf 0) (Yd Yf 0) (Yd Yf 0) (.int .u32 0)) (b:=w.heap.size+1+1+1) (by omega) (Yd Yf 0) (Yd Yf 0) (Yd Yf 0) (Yd Yf 0) (.int .u32 0));obtain⟨⟨z0,z1,z2,z3,z4⟩,f0,f1,f2,f3,f4⟩:=ZaA D;obtain⟨⟨y0,y1,y2,y3,y4⟩,g0,g1,g2,g3,g4⟩:=ZaA F;clear D F L;go_wp2_with fail;generalize((((((((((C.setCell ⟨w.heap.size+1+1,0,Yb⟩ (Yd Yf 0)).setCell ⟨w.heap.size+1+1,1,Yb⟩ (Yd Yf 0)).setCell ⟨w.heap.size+1+1,2,Yb⟩ (Yd Yf 0)).setCell ⟨w.heap.size+1+1,3,Yb⟩ (Yd Yf 0)).setCell ⟨w.heap.size+1+1,4,Yb⟩ (.int .u32 0)).setCell ⟨w.heap.size+1+1+1,0,Yb⟩ (Yd Yf 0)).setCell ⟨w.heap.size+1+1+1,1,Yb⟩ (Yd Yf 0)).setCell ⟨w.heap.size+1+1+1,2,Yb⟩ (Yd Yf 0)).setCell ⟨w.heap.size+1+1+1,3,Yb⟩ (Yd Yf 0)).setCell ⟨w.heap.size+1+1+1,4,Yb⟩ (.int .u32 0))=wz at *;obtain⟨⟨a0,W,a2,a3,a4⟩,_⟩:=ZaA T.out;obtain⟨⟨X,Y,b2,b3,b4⟩,_⟩:=ZaA U.out;exact bodyPost_ret (v:=ZeM E) (by simp[results,Tryz.results9,go_sem,a0,W,a2,a3,a4,X,Y,b2,b3,b4]) rfl ⟨hz.symm▸rfl,V.out⟩
end
end Go.Proofs.YtbfnnolakggbfaaGreatDoor
