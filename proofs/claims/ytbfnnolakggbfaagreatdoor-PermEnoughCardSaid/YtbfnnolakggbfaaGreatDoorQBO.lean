import Derived.Deep.DeepFit
import Derived.RegionTactic
import Derived.Test.YtbfnnolakggbfaaGreatDoorQAQ
import Derived.Test.YtbfnnolakggbfaaGreatDoorQAY
import Derived.Test.YtbfnnolakggbfaaGreatDoorQBB
import Derived.Test.YtbfnnolakggbfaaGreatDoorQBH
import Derived.Test.YtbfnnolakggbfaaGreatDoorQBL
import Derived.Test.YtbfnnolakggbfaaGreatDoorQBM
import Derived.Test.YtbfnnolakggbfaaGreatDoorQBN
set_option maxRecDepth 100000
set_option maxHeartbeats 8000000
open Option renaming some → Ya, none → Yb
open Go.Value renaming slice → Yc, int → Yd
open Go.IntKind renaming i64 → Yf
open Go.Obj renaming cells → Yg
open Go renaming World → Yh, Value → Yi
open Go.RowKit
namespace Go.Proofs.YtbfnnolakggbfaaGreatDoor
theorem Zrl (w:Yh) (x y:Int×Int) (b:OkR x) (c:OkR y) :
  Calls Tryz.prog 52 #[Yd Yf 1,Zb x.1 x.2,Zb y.1 y.2] w fun r g=>r=.returned (.tuple #[Zb (Zl x (Zv y)).1.1 (Zl x (Zv y)).1.2,Yd Yf (Zl x (Zv y)).2])/\Below w.heap.size w g:=by
 obtain⟨d,e,v⟩:=b;obtain⟨h,a,f⟩:=c;have:=ZrV v f w;rw[ZqK]at this;unfold Zl Zcr Zv;dsimp only;rw[e,a,Int.neg_mul,<-Int.sub_eq_add_neg];exact this
theorem Zqk {w w':Yh} {r:Option (Int×Int)} {e:Ending} (h:ZfH w r e w'):∃x y b,e=.returned (.tuple #[Zb x y,.bool b])/\Below w.heap.size w w':=by
 obtain⟨h,a⟩:=h;cases r with
 |none=>obtain⟨z,h⟩:=h;exact⟨_,_,_,h,a⟩
 |some x=>exact⟨_,_,_,h,a⟩
theorem Zkc {w w':Yh} {r:Option (Int×Int)} {e:Ending} (h:ZfH w r e w') (b:r=Yb):∃x y,e=.returned (.tuple #[Zb x y,.bool false])/\Below w.heap.size w w':=by subst b;obtain⟨⟨z,h⟩,a⟩:=h;exact⟨_,_,h,a⟩
theorem Zkd {w w':Yh} {r:Option (Int×Int)} {x:Int×Int} {e:Ending} (h:ZfH w r e w') (a:r=Ya x):e=.returned (.tuple #[Zb x.1 x.2,.bool true])/\Below w.heap.size w w':=by subst a;exact h
structure ChoS (W wr:Yh) (v1 v2:Yi):Prop where
 P:Blk wr W.heap.size #[v1,v2]
 R:Blk wr (W.heap.size+1) #[Yd Yf 0,Yd Yf 0]
 below:Below W.heap.size W wr
theorem ChoS.keep {W wr c:Yh} {b v2:Yi} (h:ChoS W wr b v2) (a:Below wr.heap.size wr c):ChoS W c b v2:=⟨h.P.keep a,h.R.keep a,h.below.trans (a.mono h.below.size)⟩
theorem ZmD (w:Yh) (v1 v2 vb:Yi) (m:List (Int×Int)) (g up:List Rw) (h1:ZA w v1 g) (h2:ZA w v2 up) (ab:∀r∈g,Zz r.2.1/\Bd r.2.2) (ac:∀r∈up,Zz r.2.1/\Bd r.2.2) (hb:Za w vb m) (hm:Zz m) (aj:g.length<=1000) (ak:up.length<=1000) :
  Calls Tryz.prog 128 #[.agg #[v1,v2],vb] w (Zk1 w (ZdC g up m)):=by
 obtain⟨A1,c1,rfl⟩:∃A c,v1=Yc A g.length c:=by obtain⟨A,c,_,e,_⟩:=h1;exact⟨A,c,e⟩
 obtain⟨A2,c2,rfl⟩:∃A c,v2=Yc A up.length c:=by obtain⟨A,c,_,e,_⟩:=h2;exact⟨A,c,e⟩
 obtain⟨Ab,cb,rfl⟩:=Zc hb;have D0:ChoS w ((w.alloc (Yg #[Yc A1 g.length c1,Yc A2 up.length c2] 122)).alloc (Yg #[Yd Yf 0,Yd Yf 0] 23)) (Yc A1 g.length c1) (Yc A2 up.length c2):=by have B1:=Blk.start (w.alloc (Yg #[Yc A1 g.length c1,Yc A2 up.length c2] 122)) #[Yd Yf 0,Yd Yf 0] 23;rw[World.size_alloc]at B1;exact⟨(Blk.start w _ _).keep (below_alloc1 _ _),B1,below_alloc2 _ _ _⟩
 have a:=zh D0;have hO:ZdC g up m=(Za4 g m g.length).bind fun b=>(Za4 up m up.length).bind fun t=>if g.length=0 then(if up.length=0 then Ya (0,1)else okO (Zl t (Zv (1,1))))else if up.length=0 then okO (Zl (Zv b) (1,1))else(okO (Zl (Zv b) t)).bind fun s=>okO (ZP s (1,2)):=rfl;generalize ZdC g up m=Z at *;have I:=ZdX ab hm g.length;have J:=ZdX ac hm up.length;have X:=fun(f:Yh) (q:Below w.heap.size w f)=>Zn6 f (Yc A1 g.length c1) (Yc Ab m.length cb) g m (h1.below q) ab (hb.below q) hm;have H:=fun(f:Yh) (q:Below w.heap.size w f)=>Zn5 f (Yc A2 up.length c2) (Yc Ab m.length cb) up m (h2.below q) ac (hb.below q) hm;have wl:IntKind.i64.wrap ((g.length:Int)+(up.length:Int))=(g.length:Int)+(up.length:Int):=IntWalk.i64_in _ (by omega);cases e1:Za4 g m g.length with
 |none=>
  rw[e1,Option.bind_none]at hO;subst hO;have L1:=zh (fun(f:Yh) (q:Below w.heap.size w f)=>(X f q).mono fun e B h=>Zkc h (by rw[e1];rfl));have L2:=zh (fun(f:Yh) (q:Below w.heap.size w f)=>(H f q).mono fun e B h=>Zqk h);clear e1 I J h1 h2 ab ac hb hm D0 X H wl aj ak;generalize g.length=n1 at *;generalize up.length=K at *;generalize m.length=nm at *;go_enter Tryz.func128,Tryz.ntmps128;go_upto_region 1 with fail;generalize(w.alloc (Yg #[Yc A1 n1 c1,Yc A2 K c2] 122)).alloc (Yg #[Yd Yf 0,Yd Yf 0] 23)=w1 at *;have O:=a.out.P.cell 0;go_upto_region 2 with(go_at_call 153;go_fit (L1.out _ a.out.below);rintro e5 B ⟨n,l,rfl,D⟩)
  have a2:=below_alloc1 B (Yg #[Yd Yf n,Yd Yf l] 23);have C:=zh (Blk.start B #[Yd Yf n,Yd Yf l] 23);have a:=zh ((a.out.keep D).keep a2);clear D a2 O;generalize B.heap.size=b6 at *;generalize B.alloc (Yg #[Yd Yf n,Yd Yf l] 23)=w3 at *;have S:=a.out.P.cell 1;go_upto_region 3 with(go_at_call 153;go_fit (L2.out _ a.out.below);rintro e6 F ⟨z,y,tb,rfl,i⟩)
  have a4:=below_alloc1 F (Yg #[Yd Yf z,Yd Yf y] 23);have C:=zh ((C.out.keep i).keep a4);have M:=zh (Blk.start F #[Yd Yf z,Yd Yf y] 23);have a:=zh ((a.out.keep i).keep a4);clear i a4 S;generalize F.heap.size=b8 at *;generalize F.alloc (Yg #[Yd Yf z,Yd Yf y] 23)=G at *;go_upto_region 4 with fail;have a5:=below_alloc1 G (Yg #[Yd Yf 1,Yd Yf 1] 23);have C:=zh (C.out.keep a5);have M:=zh (M.out.keep a5);have T0:=zh (Blk.start G #[Yd Yf 1,Yd Yf 1] 23);have a:=zh (a.out.keep a5);clear a5;generalize G.heap.size=a6 at *;generalize G.alloc (Yg #[Yd Yf 1,Yd Yf 1] 23)=w6 at *;have o0:=T0.out.cell 0;have o1:=T0.out.cell 1;have V:=a.out.R.cell 0;have W:=a.out.R.cell 1;have T:=a.out.R.free 0;have U:=a.out.R.free 1;go_wp2_with fail;have k:=(a.out.R.set 0 (Yd Yf (1))).set 1 (Yd Yf (1));have z0:=k.cell 0;have L:=k.cell 1;exact bodyPost_ret (v:=.tuple #[Zb (1) (1),Yd Yf (3)]) (by simp[results,Tryz.results128,go_sem,z0,L]) rfl ⟨⟨1,1,3,rfl,.inr ⟨by decide,rfl⟩⟩,(a.out.below.setCell (p:=⟨w.heap.size+1,0,Yb⟩) (by show w.heap.size<=w.heap.size+1;omega) _).setCell (p:=⟨w.heap.size+1,1,Yb⟩) (by show w.heap.size<=w.heap.size+1;omega) _⟩
 |some b=>
  have I:=I b e1;have L1:=zh (fun(f:Yh) (q:Below w.heap.size w f)=>(X f q).mono fun e B h=>Zkd (x:=Zv b) h (by rw[e1];rfl));rw[e1,Option.bind_some]at hO;cases e2:Za4 up m up.length with
  |none=>
   rw[e2,Option.bind_none]at hO;subst hO;have L2:=zh (fun(f:Yh) (q:Below w.heap.size w f)=>(H f q).mono fun e B h=>Zkc h e2);clear e1 e2 I J h1 h2 ab ac hb hm D0 X H wl aj ak;generalize Zv b=nb at *;obtain⟨n,l⟩:=nb;dsimp only at *;generalize g.length=n1 at *;generalize up.length=K at *;generalize m.length=nm at *;go_enter Tryz.func128,Tryz.ntmps128;go_upto_region 1 with fail;generalize(w.alloc (Yg #[Yc A1 n1 c1,Yc A2 K c2] 122)).alloc (Yg #[Yd Yf 0,Yd Yf 0] 23)=w1 at *;have O:=a.out.P.cell 0;go_upto_region 2 with(go_at_call 153;go_fit (L1.out _ a.out.below);rintro e5 B ⟨rfl,D⟩)
   have a2:=below_alloc1 B (Yg #[Yd Yf n,Yd Yf l] 23);have C:=zh (Blk.start B #[Yd Yf n,Yd Yf l] 23);have a:=zh ((a.out.keep D).keep a2);clear D a2 O;generalize B.heap.size=b6 at *;generalize B.alloc (Yg #[Yd Yf n,Yd Yf l] 23)=w3 at *;have S:=a.out.P.cell 1;go_upto_region 3 with(go_at_call 153;go_fit (L2.out _ a.out.below);rintro e6 F ⟨z,y,rfl,i⟩)
   have a4:=below_alloc1 F (Yg #[Yd Yf z,Yd Yf y] 23);have C:=zh ((C.out.keep i).keep a4);have M:=zh (Blk.start F #[Yd Yf z,Yd Yf y] 23);have a:=zh ((a.out.keep i).keep a4);clear i a4 S;generalize F.heap.size=b8 at *;generalize F.alloc (Yg #[Yd Yf z,Yd Yf y] 23)=G at *;go_upto_region 4 with fail;have a5:=below_alloc1 G (Yg #[Yd Yf 1,Yd Yf 1] 23);have C:=zh (C.out.keep a5);have M:=zh (M.out.keep a5);have T0:=zh (Blk.start G #[Yd Yf 1,Yd Yf 1] 23);have a:=zh (a.out.keep a5);clear a5;generalize G.heap.size=a6 at *;generalize G.alloc (Yg #[Yd Yf 1,Yd Yf 1] 23)=w6 at *;have o0:=T0.out.cell 0;have o1:=T0.out.cell 1;have V:=a.out.R.cell 0;have W:=a.out.R.cell 1;have T:=a.out.R.free 0;have U:=a.out.R.free 1;go_wp2_with fail;have k:=(a.out.R.set 0 (Yd Yf (1))).set 1 (Yd Yf (1));have z0:=k.cell 0;have L:=k.cell 1;exact bodyPost_ret (v:=.tuple #[Zb (1) (1),Yd Yf (3)]) (by simp[results,Tryz.results128,go_sem,z0,L]) rfl ⟨⟨1,1,3,rfl,.inr ⟨by decide,rfl⟩⟩,(a.out.below.setCell (p:=⟨w.heap.size+1,0,Yb⟩) (by show w.heap.size<=w.heap.size+1;omega) _).setCell (p:=⟨w.heap.size+1,1,Yb⟩) (by show w.heap.size<=w.heap.size+1;omega) _⟩
  |some t=>
   have J:=J t e2;have L2:=zh (fun(f:Yh) (q:Below w.heap.size w f)=>(H f q).mono fun e B h=>Zkd h e2);rw[e2,Option.bind_some]at hO;have bg:g.length=0\/OkR (Zv b):=I.elim (fun q=>.inl q.1) (fun q=>.inr (ZbF q));have bh:up.length=0\/OkR t:=J.elim (fun q=>.inl q.1) .inr;have HO:=zh (zi hO (zi bg bh));clear e1 e2 I J h1 h2 ab ac hb hm D0 X H hO bg bh;generalize Zv b=nb at *;obtain⟨n,l⟩:=nb;obtain⟨z,y⟩:=t;dsimp only at *;generalize g.length=n1 at *;generalize up.length=K at *;generalize m.length=nm at *;have HL:=zh (zi aj ak);clear aj ak;go_enter Tryz.func128,Tryz.ntmps128;go_upto_region 1 with fail;generalize(w.alloc (Yg #[Yc A1 n1 c1,Yc A2 K c2] 122)).alloc (Yg #[Yd Yf 0,Yd Yf 0] 23)=w1 at *;have O:=a.out.P.cell 0;go_upto_region 2 with(go_at_call 153;go_fit (L1.out _ a.out.below);rintro e5 B ⟨rfl,D⟩)
   have a2:=below_alloc1 B (Yg #[Yd Yf n,Yd Yf l] 23);have C:=zh (Blk.start B #[Yd Yf n,Yd Yf l] 23);have a:=zh ((a.out.keep D).keep a2);clear D a2 O;generalize B.heap.size=b6 at *;generalize B.alloc (Yg #[Yd Yf n,Yd Yf l] 23)=w3 at *;have S:=a.out.P.cell 1;go_upto_region 3 with(go_at_call 153;go_fit (L2.out _ a.out.below);rintro e6 F ⟨rfl,i⟩)
   have a4:=below_alloc1 F (Yg #[Yd Yf z,Yd Yf y] 23);have C:=zh ((C.out.keep i).keep a4);have M:=zh (Blk.start F #[Yd Yf z,Yd Yf y] 23);have a:=zh ((a.out.keep i).keep a4);clear i a4 S;generalize F.heap.size=b8 at *;generalize F.alloc (Yg #[Yd Yf z,Yd Yf y] 23)=G at *;go_upto_region 4 with fail;have a5:=below_alloc1 G (Yg #[Yd Yf 1,Yd Yf 1] 23);have C:=zh (C.out.keep a5);have M:=zh (M.out.keep a5);have T0:=zh (Blk.start G #[Yd Yf 1,Yd Yf 1] 23);have a:=zh (a.out.keep a5);clear a5;generalize G.heap.size=a6 at *;generalize G.alloc (Yg #[Yd Yf 1,Yd Yf 1] 23)=w6 at *;have O:=a.out.P.cell 0;have S:=a.out.P.cell 1;by_cases g1:n1=0
   ·subst g1;by_cases N:K=0
    ·subst N;have HZ:=zh (show Z=Ya (0,1)from by rw[HO.out.1,Yo rfl,Yo rfl]);have V:=a.out.R.cell 0;have W:=a.out.R.cell 1;have T:=a.out.R.free 0;have U:=a.out.R.free 1;go_wp2_with fail;have k:=(a.out.R.set 0 (Yd Yf (0))).set 1 (Yd Yf (1));have z0:=k.cell 0;have L:=k.cell 1;exact bodyPost_ret (v:=.tuple #[Zb (0) (1),Yd Yf (0)]) (by simp[results,Tryz.results128,go_sem,z0,L]) rfl ⟨⟨0,1,0,rfl,.inl ⟨rfl,HZ.out⟩⟩,(a.out.below.setCell (p:=⟨w.heap.size+1,0,Yb⟩) (by show w.heap.size<=w.heap.size+1;omega) _).setCell (p:=⟨w.heap.size+1,1,Yb⟩) (by show w.heap.size<=w.heap.size+1;omega) _⟩
    ·have i0:((((0:Nat):Int)+(K:Int))==0)=false:=by simpa using N
     have ch:((K:Int)==0)=false:=by simpa using N
     have ok:=HO.out.2.2.resolve_left N;have cp:IntKind.i64.wrap (K:Int)=K:=IntWalk.i64_in _ (by have:=HL.out;omega);have d:=fun(f:Yh)=>Zrl f (z,y) (1,1) ok ZdZ;have E:=ZcD (Zl (z,y) (Zv (1,1)));have hz:Z=okO (Zl (z,y) (Zv (1,1))):=by rw[HO.out.1,Yo rfl,Yn N]
     rw[<-hz]at E;generalize Zl (z,y) (Zv (1,1))=Q at *;obtain⟨⟨o,u⟩,gz⟩:=Q;dsimp only at d E;have aa:=zh d;have JU:=zh E;clear d E hz ok N O S;have x0:=M.out.cell 0;have x1:=M.out.cell 1;have y0:=T0.out.cell 0;have y1:=T0.out.cell 1;have O:=a.out.P.cell 0;have S:=a.out.P.cell 1;have V:=a.out.R.cell 0;have W:=a.out.R.cell 1;have T:=a.out.R.free 0;have U:=a.out.R.free 1;go_wp2_with (go_at_call 52;go_fit (aa.out _);rintro e8 w8 ⟨rfl,j⟩;have a:=zh (a.out.keep j);clear j V W T U;have V:=a.out.R.cell 0;have W:=a.out.R.cell 1;have T:=a.out.R.free 0;have U:=a.out.R.free 1);have k:=(a.out.R.set 0 (Yd Yf (o))).set 1 (Yd Yf (u));have z0:=k.cell 0;have L:=k.cell 1;exact bodyPost_ret (v:=.tuple #[Zb (o) (u),Yd Yf (gz)]) (by simp[results,Tryz.results128,go_sem,z0,L]) rfl ⟨⟨o,u,gz,rfl,JU.out⟩,(a.out.below.setCell (p:=⟨w.heap.size+1,0,Yb⟩) (by show w.heap.size<=w.heap.size+1;omega) _).setCell (p:=⟨w.heap.size+1,1,Yb⟩) (by show w.heap.size<=w.heap.size+1;omega) _⟩
   ·have ae:=HO.out.2.1.resolve_left g1;have i1:((n1:Int)==0)=false:=by simpa using g1
    have i0:(((n1:Int)+(K:Int))==0)=false:=by simp;omega
    by_cases N:K=0
    ·subst N;have cn:IntKind.i64.wrap (n1:Int)=n1:=IntWalk.i64_in _ (by have:=HL.out;omega);have d:=fun(f:Yh)=>Zdu f (n,l) (1,1) ae ZdZ;have E:=ZcD (Zl (n,l) (1,1));have hz:Z=okO (Zl (n,l) (1,1)):=by rw[HO.out.1,Yn g1,Yo rfl]
     rw[<-hz]at E;generalize Zl (n,l) (1,1)=Q at *;obtain⟨⟨o,u⟩,gz⟩:=Q;dsimp only at d E;have aa:=zh d;have JU:=zh E;clear d E hz ae g1 O S;have x0:=C.out.cell 0;have x1:=C.out.cell 1;have y0:=T0.out.cell 0;have y1:=T0.out.cell 1;have O:=a.out.P.cell 0;have S:=a.out.P.cell 1;have V:=a.out.R.cell 0;have W:=a.out.R.cell 1;have T:=a.out.R.free 0;have U:=a.out.R.free 1;go_wp2_with (go_at_call 52;go_fit (aa.out _);rintro e8 w8 ⟨rfl,j⟩;have a:=zh (a.out.keep j);clear j V W T U;have V:=a.out.R.cell 0;have W:=a.out.R.cell 1;have T:=a.out.R.free 0;have U:=a.out.R.free 1);have k:=(a.out.R.set 0 (Yd Yf (o))).set 1 (Yd Yf (u));have z0:=k.cell 0;have L:=k.cell 1;exact bodyPost_ret (v:=.tuple #[Zb (o) (u),Yd Yf (gz)]) (by simp[results,Tryz.results128,go_sem,z0,L]) rfl ⟨⟨o,u,gz,rfl,JU.out⟩,(a.out.below.setCell (p:=⟨w.heap.size+1,0,Yb⟩) (by show w.heap.size<=w.heap.size+1;omega) _).setCell (p:=⟨w.heap.size+1,1,Yb⟩) (by show w.heap.size<=w.heap.size+1;omega) _⟩
    ·have i2:((K:Int)==0)=false:=by simpa using N
     have ar:=HO.out.2.2.resolve_left N;have hz:Z=(okO (Zl (n,l) (z,y))).bind fun s=>okO (ZP s (1,2)):=by rw[HO.out.1,Yn g1,Yn N]
     have Y:=fun(f:Yh)=>Zdu f (n,l) (z,y) ae ar;have al:=Zbi.ok (n,l) (z,y) ae ar;have E:=ZcD (Zl (n,l) (z,y));generalize Zl (n,l) (z,y)=Q at *;obtain⟨⟨o,u⟩,gz⟩:=Q;dsimp only at Y E al;have Y:=zh Y;have x0:=C.out.cell 0;have x1:=C.out.cell 1;have y0:=M.out.cell 0;have y1:=M.out.cell 1;clear g1 N ae ar;rcases E with⟨je,jo⟩|⟨je,jo⟩
     ·subst je;have bi:=al rfl;rw[jo,Option.bind_some]at hz;go_upto_region 13 with(go_at_call 52;go_fit (Y.out _);rintro e8 w8 ⟨rfl,j⟩)
      have a8:=below_alloc1 w8 (Yg #[Yd Yf o,Yd Yf u] 23);have a:=zh ((a.out.keep j).keep a8);have TS:=Blk.start w8 #[Yd Yf o,Yd Yf u] 23;clear j a8 x0 x1 y0 y1 O S;generalize w8.heap.size=bo at *;generalize w8.alloc (Yg #[Yd Yf o,Yd Yf u] 23)=w9 at *;have x0:=TS.cell 0;have x1:=TS.cell 1;have d:=fun(f:Yh)=>Zd2 f (o,u) (1,2) bi ZiA;have E:=ZcD (ZP (o,u) (1,2));rw[<-hz]at E;generalize ZP (o,u) (1,2)=Q2 at *;obtain⟨⟨hx,hy⟩,bc⟩:=Q2;dsimp only at d E;have aa:=zh d;have JU:=zh E;clear d E hz al bi jo TS;have V:=a.out.R.cell 0;have W:=a.out.R.cell 1;have T:=a.out.R.free 0;have U:=a.out.R.free 1;go_wp2_with (go_at_call 52;go_fit (aa.out _);rintro e9 ck ⟨rfl,bb⟩;have a:=zh (a.out.keep bb);clear bb V W T U;have V:=a.out.R.cell 0;have W:=a.out.R.cell 1;have T:=a.out.R.free 0;have U:=a.out.R.free 1);have k:=(a.out.R.set 0 (Yd Yf (hx))).set 1 (Yd Yf (hy));have z0:=k.cell 0;have L:=k.cell 1;exact bodyPost_ret (v:=.tuple #[Zb (hx) (hy),Yd Yf (bc)]) (by simp[results,Tryz.results128,go_sem,z0,L]) rfl ⟨⟨hx,hy,bc,rfl,JU.out⟩,(a.out.below.setCell (p:=⟨w.heap.size+1,0,Yb⟩) (by show w.heap.size<=w.heap.size+1;omega) _).setCell (p:=⟨w.heap.size+1,1,Yb⟩) (by show w.heap.size<=w.heap.size+1;omega) _⟩
     ·have cg:(gz != 0)=true:=by simpa using je
      have JZ:=zh (zi je (show Z=Yb from by rw[hz,jo];rfl));clear je jo hz al;go_upto_region 13 with(go_at_call 52;go_fit (Y.out _);rintro e8 w8 ⟨rfl,j⟩)
      have a8:=below_alloc1 w8 (Yg #[Yd Yf o,Yd Yf u] 23);have a:=zh ((a.out.keep j).keep a8);have TS:=Blk.start w8 #[Yd Yf o,Yd Yf u] 23;clear j a8 x0 x1 y0 y1 O S;generalize w8.heap.size=bo at *;generalize w8.alloc (Yg #[Yd Yf o,Yd Yf u] 23)=w9 at *;have x0:=TS.cell 0;have x1:=TS.cell 1;have V:=a.out.R.cell 0;have W:=a.out.R.cell 1;have T:=a.out.R.free 0;have U:=a.out.R.free 1;go_wp2_with fail;have k:=(a.out.R.set 0 (Yd Yf (o))).set 1 (Yd Yf (u));have z0:=k.cell 0;have L:=k.cell 1;exact bodyPost_ret (v:=.tuple #[Zb (o) (u),Yd Yf (gz)]) (by simp[results,Tryz.results128,go_sem,z0,L]) rfl ⟨⟨o,u,gz,rfl,.inr JZ.out⟩,(a.out.below.setCell (p:=⟨w.heap.size+1,0,Yb⟩) (by show w.heap.size<=w.heap.size+1;omega) _).setCell (p:=⟨w.heap.size+1,1,Yb⟩) (by show w.heap.size<=w.heap.size+1;omega) _⟩
def ZbL:List ((Yi×Yi)×Stg)->List Yi
 |[]=>[]
 |x::r=>x.1.1::x.1.2::ZbL r
theorem Zic:∀(l:List ((Yi×Yi)×Stg)) (k:Nat) (x:(Yi×Yi)×Stg),l[k]? = Ya x->(ZbL l)[k*2]? = Ya x.1.1/\(ZbL l)[k*2+1]? = Ya x.1.2
 |[],k,x,h=>by simp at h
 |y::r,0,x,h=>by
  obtain rfl:y=x:=by simpa using h
  exact⟨rfl,rfl⟩
 |y::r,k+1,x,h=>by
  rw[List.getElem?_cons_succ]at h;obtain⟨a,b⟩:=Zic r k x h;exact⟨by rw[show(k+1)*2=k*2+1+1 by omega];exact a,by rw[show(k+1)*2+1=k*2+1+1+1 by omega];exact b⟩
def Zk4 (w:Yh) (v:Yi) (st:List Stg):Prop:=
 ∃A c a,v=Yc A st.length c/\st.length<=c/\c<=maxLen/\a.map (·.2)=st/\Zw w w.heap.size 2 A st.length (ZbL a)/\∀x∈a,ZA w x.1.1 x.2.1/\ZA w x.1.2 x.2.2
theorem Zom {w wr:Yh} {A:Option Addr} {n k:Nat} {rs:List ((Yi×Yi)×Stg)} {x:(Yi×Yi)×Stg} (h:Zw w w.heap.size 2 A n (ZbL rs)) (f:Below w.heap.size w wr) (j:rs[k]? = Ya x) (i:0<n) :
  ∃c,A=Ya c/\wr.cell? (c.add (k*2))=Ya x.1.1/\wr.cell? ⟨(c.add (k*2)).block,(c.add (k*2)).off+1,Yb⟩=Ya x.1.2:=by
 obtain⟨c,e,d,hc⟩:=h.2 i;obtain⟨a,b⟩:=Zic rs k x j;have g:=(f.cell (p:=c.add (k*2)) (by rw[ZJ];exact d)).trans (hc _ _ a);have d1:=(f.cell (p:=c.add (k*2+1)) (by rw[ZJ];exact d)).trans (hc _ _ b);rw[<-ZcA]at d1;exact⟨c,e,g,d1⟩
def ZhE (k:Nat):List (Int×Int):=List.replicate k (0,1)
theorem ZmV (k:Nat):ZhE (k+1)=ZhE k++[(0,1)]:=List.replicate_succ'
theorem ZpJ {P:List Int} {st:List Stg} {j:Nat} {m:List (Int×Int)}:ZdQ P st (j+1) m=if P.contains (j:Int)=true then ZdQ P st j m else(ZdC (ZcL st j).1 (ZcL st j).2 m).bind fun x=>ZdQ P st j (m.set j x):=rfl
theorem Zsc (x y:Int):∀u∈[Value.int Yf x,Yd Yf y],u.oneCell'=true:=fun u hu=>by
 simp only[List.mem_cons,List.not_mem_nil,or_false]at hu;rcases hu with rfl|rfl<;>rfl
theorem ZrP {s:Stg} {m:List (Int×Int)} (h:Zex (.inl (s.1,s.2))) (hm:ZC m) {x:Int×Int} (e:ZdC s.1 s.2 m=Ya x):OkR x:=ZhR (x:=.inl (s.1,s.2)) h hm e
def ZhD (P:List Int) (st:List Stg) (Z:List (Trm×Int)):List (Int×Int)×Int:=
 match (ZdQ P st 8 m0).bind (Zbe (ZaI Z))with
 |none=>([],2)
 |some m=>(m,0)
theorem ZlT (w:Yh) (v vs vp:Yi) (st:List Stg) (t:List Trm) (a:List Int) (h:Zk4 w v st) (hs:Zai w vs t) (hp:ZaR w vp a) (h8:st.length=8) (ac:t.length=a.length) (a7:t.length<=1000)
  (bi:∀s∈st,Zex (.inl (s.1,s.2))/\s.1.length<=1000/\s.2.length<=1000) (bh:∀s∈t,TrmOk s) (be:∀p∈a,∃n:Nat,p=n/\n<8) :
  Calls Tryz.prog 82 #[v,vs,vp] w (ZbK w (ZhD a st (t.zip a))):=by
 obtain⟨i0,hi,cf,cg,ch⟩:=info_parts ZdE;obtain⟨A,c,rs,rfl,h2,h3,h4,h5,h6⟩:=h;rw[h8]at h5⊢;have bf:rs.length=8:=by rw[<-h8,<-h4,List.length_map]
 have HN:=zh (zi bf (zi h4 (zi h5 (zi h6 (zi h8 bi)))));have S:=zh (zi hs (zi hp (zi ac (zi a7 (zi bh be)))));obtain⟨Z,hZ⟩:∃Z,Z=t.zip a:=⟨_,rfl⟩
 rw[<-hZ];have HZ:=zh hZ;obtain⟨z,M⟩:∃z,z=ZhD a st Z:=⟨_,rfl⟩
 rw[<-M];have HR:=zh M;obtain⟨As,cs,rfl⟩:∃A c,vs=Yc A t.length c:=by obtain⟨A,c,_,e,_⟩:=hs;exact⟨A,c,e⟩
 obtain⟨Ap,cp,rfl⟩:∃A c,vp=Yc A a.length c:=by obtain⟨A,c,e,_⟩:=hp;exact⟨A,c,e⟩
 clear h2 h3 h4 h5 h6 bf h8 bi hs hp ac a7 bh be hZ M;go_enter Tryz.func82,Tryz.ntmps82;go_wp2_with fail;go_loopg [8,9] 8 (fun g v8 v9 wr=>∃(k:Nat) (va:Yi),va=v8/\v9=Yd Yf k/\k<=8/\g=8-k/\wr.ownsRow w.heap.size 23 2 va k (Zq (ZhE k))/\Below w.heap.size w wr)
 case atStart=>exact⟨0,_,rfl,rfl,Nat.zero_le _,rfl,⟨rfl,.inl ⟨rfl,rfl⟩⟩,Below.refl _ _⟩
 case round=>
  obtain⟨k,va,rfl,rfl,U,N,ho,hb⟩:=hrel;by_cases ai:k<8
  ·have i1:(k:Int)<8:=by omega
   have wk:IntKind.i64.wrap ((k:Int)+1)=(k:Int)+1:=IntWalk.i64_in _ (by omega);have a1:=below_alloc1 wr (Yg #[Yd Yf 0,Yd Yf 1] 23);have NA:Zbf (wr.alloc (Yg #[Yd Yf 0,Yd Yf 1] 23)) 0 wr.heap.size [Yd Yf 0,Yd Yf 1]:=by have B:=Blk.start wr #[Yd Yf 0,Yd Yf 1] 23;exact⟨Nat.zero_le _,B.lt,fun j u hu=>by rw[B.cell j];simpa using hu⟩
   have OW:=zh (ho.kept (ZY a1 Yb) (by cases hv:va.ownBlock<;>simp));have NR:=zh (NA.reads (size:=2) rfl);have HB:=zh (hb.trans (a1.mono hb.size));have C:=zh (zi ai N);clear ho hb a1 NA U N ai;go_wp2_with (at_builtin;refine Zj _ rfl _ _ 35 rfl w.heap.size 23 i0 (.agg #[Yd Yf 0,Yd Yf 0]) 2 16 Tryz.underlying35 hi cf cg ch rfl (by decide) _ k (Zq (ZhE k)) rfl OW.out (wr.heap.size+1) (Ya ⟨wr.heap.size,0,Yb⟩) 1 1 [Yd Yf 0,Yd Yf 1] rfl NR.out (Zsc _ _) (by have:=C.out;unfold maxLen;omega) (by have:=C.out;omega) HB.out.size ?_);intro v9 w9 ae O b9;have bb:=HB.out.grown O HB.out.size (fun b q=>(World.ownsRow.lt OW.out b q).1);have OK:=zh (zi (show w9.ownsRow w.heap.size 23 2 v9 (k+1) (Zq (ZhE (k+1)))from by rw[ZmV,ZdK];exact ae) bb);clear ae O b9 bb OW NR;go_wp2_with fail;go_roundg (8-(k+1))
   case measure=>have:=C.out;omega
   case rel=>exact⟨k+1,v9,rfl,by push_cast;rfl,by have:=C.out;omega,rfl,OK.out.1,OK.out.2⟩
  ·obtain rfl:k=8:=by omega
   obtain⟨gb,f,rfl⟩:∃g f,va=Yc (Ya ⟨g,0,Yb⟩) 8 f:=by
    rcases ho.2 with⟨_,q⟩|⟨g,f,_,e,_⟩
    ·omega
    ·exact⟨g,f,e⟩
   have D0:=zh (show WitS w wr gb f m0 from⟨ho,rfl,fun x hx=>by rw[List.eq_of_mem_replicate hx];exact Zak,hb⟩);clear ho hb N U ai;go_upto_region 7 with fail;generalize wr=wo at *;go_wp2_with fail;go_loopg [10] 8 (fun g ck wr=>∃(k:Nat) (m:List (Int×Int)),ck=Yd Yf ((k:Int)-1)/\k<=8/\g=k/\ZdQ a st 8 m0=ZdQ a st k m/\WitS w wr gb f m)
   case atStart=>exact⟨8,m0,by simp,Nat.le_refl _,rfl,rfl,D0.out⟩
   case round=>
    clear D0;obtain⟨k,m,rfl,U,N,d,D⟩:=hrel;cases k with
    |zero=>
     have bj:ZdQ a st 8 m0=Ya m:=d;have ci:¬(0:Int)<=(((0:Nat):Int)-1):=by omega
     have RS:=zh (show z=(match Zbe (ZaI Z) m with|none=>([],2)|some l=>(l,0))from by rw[HR.out];unfold ZhD;rw[bj];rfl);have I:=zh D;have cb:=S.out.2.2.2.1;clear d bj D U N;obtain⟨Q,E⟩:∃Q,t.length=Q:=⟨_,rfl⟩
     rw[E];rw[E]at cb;go_upto_region 15 with fail;generalize dk:wr=em at *;go_wp2_with fail;go_loopg [13] Q (fun g cm wr=>∃(i:Nat) (l:List (Int×Int)),cm=Yd Yf i/\i<=Q/\g=Q-i/\Zbe (ZaI (Z.take i)) m=Ya l/\WitS w wr gb f l)
     case atStart=>exact⟨0,m,rfl,Nat.zero_le _,rfl,rfl,I.out⟩
     case round=>
      clear I;obtain⟨i,l,rfl,U,N,K,D⟩:=hrel;have am:Z.length=Q:=by rw[HZ.out,List.length_zip,<-S.out.2.2.1,E];exact Nat.min_self _
      by_cases ah:i=Q
      ·have he:Z.take i=Z:=by rw[ah,<-am];exact List.take_length
       rw[he]at K
       have L:=zh (show ZbK w z (.returned (.tuple #[Yc (Ya ⟨gb,0,Yb⟩) 8 f,Yd Yf 0])) wr from by
        have Y:z=(l,0):=by rw[RS.out,K]
        rw[Y]
        exact⟨Ya ⟨gb,0,Yb⟩,f,by rw[D.len],by rw[D.len];exact D.rats,D.ok,D.below⟩)
       subst ah;clear U N D he K am;go_wp2_with fail;go_ret2;exact L.out
      ·have W:i<Q:=by omega
       have ca:=S.out.1;obtain⟨A2,c2,ss,es,_,_,g4,g5,g6⟩:=ca;have ea:As=A2:=by injection es
       rw[<-ea,E]at g5;clear es ea;have ce:ss.length=Q:=by rw[<-E,<-g4,List.length_map]
       obtain⟨y,hy⟩:∃y,ss[i]? = Ya y:=⟨_,Ym (by omega)⟩
       have al:t[i]? = Ya y.2:=by rw[<-g4,List.getElem?_map,hy];rfl
       obtain⟨p,X⟩:∃p,a[i]? = Ya p:=⟨_,Ym (by rw[<-S.out.2.2.1,E];exact W)⟩
       obtain⟨p8,bc,bd⟩:=S.out.2.2.2.2.2 p (List.mem_of_getElem? X);have bk:Z[i]? = Ya (y.2,p):=by rw[HZ.out,List.getElem?_zip_eq_some];exact⟨al,X⟩
       have nx:Zbe (ZaI (Z.take (i+1))) m=(Zd9 (.inr y.2) l).bind fun x=>Ya (l.set p8 x):=by rw[List.take_add_one,bk];show Zbe (ZaI (Z.take i++[(y.2,p)])) m=_;unfold ZaI at K⊢;rw[List.map_append,Ze9,K,Option.bind_some,List.map_singleton,Zbe,bc];rfl
       have nn:Zd9 (.inr y.2) l=Yb->Zbe (ZaI Z) m=Yb:=fun q=>by
        have:ZaI Z=ZaI (Z.take (i+1))++ZaI (Z.drop (i+1)):=by unfold ZaI;rw[<-List.map_append,List.take_append_drop]
        rw[this,Ze9,nx,q];rfl
       obtain⟨ad,rfl,d0,d1,d2⟩:=ZaY g5 D.below hy (by omega);have T:=S.out.2.1;obtain⟨A3,c3,ep,_,_,f4⟩:=T;have eb:Ap=A3:=by injection ep
       rw[<-eb]at f4;clear ep eb;obtain⟨d3,rfl,dp⟩:=ZbM f4 D.below X (by rw[<-S.out.2.2.1];omega);have G:=S.out.2.2.2.2.1 y.2 (List.mem_of_getElem? al);have aj:=(g6 y (List.mem_of_getElem? hy)).below D.below;have VA:=zh (ZiG wr y.1 _ y.2.1 l y.2.2.1 y.2.2.2 aj D.rats G.ok.wide D.ok.wide G.k.wide.1.1 G.k.wide.1.2 G.k.wide.2.1 G.k.wide.2.2);have ju:=ZcD (Zv (Zaa y.2.1 l y.2.2).1,(Zaa y.2.1 l y.2.2).2);have bm:=fun(x:Int×Int) (q:Zd9 (.inr y.2) l=Ya x)=>ZhR (x:=.inr y.2) G D.ok q;have vz:Zd9 (.inr y.2) l=okO (Zv (Zaa y.2.1 l y.2.2).1,(Zaa y.2.1 l y.2.2).2):=rfl;have wk:IntKind.i64.wrap ((i:Int)+1)=(i:Int)+1:=IntWalk.i64_in _ (by omega);have i1:(i:Int)<(Q:Int):=by omega
       have i2:(0:Int)<=(i:Int):=by omega
       have ip:i<a.length:=by rw[<-S.out.2.2.1,E];exact W
       have ed:(i:Int)<(a.length:Int):=by omega
       subst bc;have i5:(0:Int)<=(p8:Int):=by omega
       have i6:(p8:Int)<8:=by omega
       obtain⟨yv,yl,y1,y2⟩:=y;dsimp only at *;obtain⟨Ay,cy,rfl⟩:=Zc aj;generalize Zaa yl l (y1,y2)=V at *;obtain⟨⟨H,R⟩,er⟩:=V;unfold Zv at ju vz;dsimp only at *;rw[<-vz]at ju;have JU:=zh ju;have bx:=zh bm;have NX:=zh (zi nx nn);have C:=zh (zi W (zi N bd));have I:=zh D;clear ju bm nx nn vz aj G f4 X bk al hy g4 g5 g6 ce W U N K ah am D bd;go_upto_region 18 with(go_at_call 129;go_fit VA.out;rintro e5 w5 ⟨rfl,J⟩)
       have a6:=below_alloc1 w5 (Yg #[Yd Yf H,Yd Yf R] 23);have D6:=zh ((I.out.keep J).keep a6);have V6:=zh (Blk.start w5 #[Yd Yf H,Yd Yf R] 23);have d5:=ZS a6 (ZS J dp);clear a6 J d0 d1 d2 dp;generalize w5.heap.size=bv at *;generalize w5.alloc (Yg #[Yd Yf H,Yd Yf R] 23)=w6 at *;rcases JU.out with⟨he,F⟩|⟨he,F⟩
       ·subst he;have ov:=bx.out (-H,R) F;have wn:IntKind.i64.wrap (-H)=-H:=IntWalk.i64_in _ (by have:=ZqW ov;dsimp only at this;omega);have bt:=zh (show Zbe (ZaI (Z.take (i+1))) m=Ya (l.set p8 (-H,R))from by rw[NX.out.1,F];rfl);obtain⟨u,u0,u1,q0,eg⟩:=D6.out.cells (p:=p8) (by have:=C.out;omega);have D8:=zh (D6.out.put p8 (-H,R) ov);have c0:w6.cell? ⟨bv,0,Yb⟩=Ya (Yd Yf H):=V6.out.cell 0;have c1:w6.cell? ⟨bv,1,Yb⟩=Ya (Yd Yf R):=V6.out.cell 1;clear ov F;go_upto_region 20 with fail;go_region
        all_goals
         go_wp2_with fail;go_roundg (Q-(i+1))
         case measure=>have:=C.out;omega
         case rel=>exact⟨i+1,l.set p8 (-H,R),by push_cast;rfl,by have:=C.out;omega,rfl,bt.out,⟨D8.out.o,D8.out.len,D8.out.ok,D8.out.below.drew⟩⟩
       ·have ne:(er != 0)=true:=by simpa using he
        have L:=zh (show ZbK w z (.returned (.tuple #[Yc Yb 0 0,Yd Yf 2])) w6 from by
         have Y:z=([],2):=by rw[RS.out,NX.out.2 F]
         rw[Y]
         exact Za7 D6.out.below)
        clear F he;go_wp2_with fail;go_ret2;exact L.out
    |succ j=>
     have e1:(((j+1:Nat):Int)-1)=(j:Int):=by omega
     rw[e1];have ci:(0:Int)<=(j:Int):=by omega
     have wk:IntKind.i64.wrap ((j:Int)-1)=(j:Int)-1:=IntWalk.i64_in _ (by omega);have T:=S.out.2.1.below D.below;have cn:=Zrm wr _ a (j:Int) T;obtain⟨B,hc⟩:∃B,a.contains (j:Int)=B:=⟨_,rfl⟩
     rw[hc]at cn;have CN:=zh cn;replace d:=d.trans (ZpJ (P:=a) (st:=st) (j:=j) (m:=m));have I:=zh D;have C:=zh (zi U N);clear e1 T D U N cn;cases B with
     |true=>
      replace d:=d.trans (Yo hc);have HW:=zh d;clear d hc;go_wp2_with (go_at_call 127;go_fit CN.out;rintro e w2 ⟨rfl,rfl⟩);go_roundg j
      case measure=>have:=C.out;omega
      case rel=>exact⟨j,m,rfl,by have:=C.out;omega,rfl,HW.out,I.out⟩
     |false=>
      replace d:=d.trans (Yn (by rw[hc];decide));obtain⟨x,hx⟩:∃x,rs[j]? = Ya x:=⟨_,Ym (by have:=HN.out.1;have:=C.out;omega)⟩
      have ak:st[j]? = Ya x.2:=by rw[<-HN.out.2.1,List.getElem?_map,hx];rfl
      have bg:ZcL st j=x.2:=by unfold ZcL;rw[ak];rfl
      rw[bg]at d;obtain⟨ad,rfl,d0,d1⟩:=Zom HN.out.2.2.1 I.out.below hx (by omega);obtain⟨H,R⟩:=HN.out.2.2.2.1 x (List.mem_of_getElem? hx);obtain⟨f1,f2,f3⟩:=HN.out.2.2.2.2.2 x.2 (List.mem_of_getElem? ak);have HO:=zh (ZmD wr x.1.1 x.1.2 _ m x.2.1 x.2.2 (H.below I.out.below) (R.below I.out.below) (fun r Y=>⟨(f1.1 r Y).ok.wide,(f1.1 r Y).k.wide⟩) (fun r Y=>⟨(f1.2 r Y).ok.wide,(f1.2 r Y).k.wide⟩) I.out.rats I.out.ok.wide f2 f3);have ok:=fun(y:Int×Int) (hy:ZdC x.2.1 x.2.2 m=Ya y)=>ZrP (s:=x.2) f1 I.out.ok hy;have i8:(j:Int)<8:=by have:=C.out;omega
      obtain⟨⟨xa,xb⟩,xs⟩:=x;dsimp only at *;have bu:=zh ok;have HW:=zh d;clear ok d hc bg ak hx H R f1 f2 f3;go_upto_region 10 with(go_at_call 127;go_fit CN.out;rintro e w2 ⟨rfl,rfl⟩)
      go_upto_region 11 with(go_at_call 128;go_fit HO.out;rintro e5 w5 ⟨⟨cx,cy,cz,rfl,F⟩,J⟩)
      have a6:=below_alloc1 w5 (Yg #[Yd Yf cx,Yd Yf cy] 23);have D6:=zh ((I.out.keep J).keep a6);have V6:=zh (Blk.start w5 #[Yd Yf cx,Yd Yf cy] 23);clear a6 J d0 d1;generalize w5.heap.size=bv at *;generalize w5.alloc (Yg #[Yd Yf cx,Yd Yf cy] 23)=w6 at *;rcases F with⟨rfl,F⟩|⟨a8,F⟩
      ·have ov:=bu.out (cx,cy) F;have NX:=zh (show ZdQ a st 8 m0=ZdQ a st j (m.set j (cx,cy))from by rw[HW.out,F];rfl);obtain⟨u,u0,u1,q0,H⟩:=D6.out.cells (p:=j) (by omega);have D8:=zh (D6.out.put j (cx,cy) ov);have c0:=V6.out.cell 0;have c1:=V6.out.cell 1;clear ov F;go_wp2_with fail;go_roundg j
       case measure=>have:=C.out;omega
       case rel=>exact⟨j,m.set j (cx,cy),rfl,by have:=C.out;omega,rfl,NX.out,D8.out⟩
      ·have ne:(cz != 0)=true:=by simpa using a8
       have L:=zh (show ZbK w z (.returned (.tuple #[Yc Yb 0 0,Yd Yf 2])) w6 from by
        rw[HR.out,show ZhD a st Z=([],2)from by unfold ZhD;rw[HW.out,F];rfl]
        exact Za7 D6.out.below)
       clear F a8;go_wp2_with fail;go_ret2;exact L.out
end Go.Proofs.YtbfnnolakggbfaaGreatDoor
