import Derived.Deep.DeepFit
import Derived.Test.YtbfnnolakggbfaaGreatDoorQAK
import Derived.Test.YtbfnnolakggbfaaGreatDoorQBC
import Derived.Test.YtbfnnolakggbfaaGreatDoorQBG
set_option maxRecDepth 100000
set_option maxHeartbeats 8000000
open Option renaming some → Ya, none → Yb
open Go.Value renaming int → Yd
open Go.IntKind renaming i64 → Yf
open Go.Obj renaming cells → Yg
open Go renaming World → Yh, Value → Yi
open Go.RowKit
namespace Go.Proofs.YtbfnnolakggbfaaGreatDoor
def Zik (w:Yh) (b a:Nat) (x y:Yi) (w':Yh):Prop:=
 ((w'.cell? ⟨b,0,Yb⟩=Ya x/\w'.cell? ⟨b,1,Yb⟩=Ya y)/\((w'.cell? ⟨a,0,Yb⟩=Ya (Zf w' ⟨a,0,Yb⟩)/\w'.frozen? ⟨a,0,Yb⟩=false)/\(w'.cell? ⟨a,1,Yb⟩=Ya (Zf w' ⟨a,1,Yb⟩)/\w'.frozen? ⟨a,1,Yb⟩=false)))/\Below w.heap.size w w'
theorem Zez {w:Yh} {b c i j:Nat} {x:Yi} (h:c≠b):(w.setCell ⟨b,i,Yb⟩ x).cell? ⟨c,j,Yb⟩=w.cell? ⟨c,j,Yb⟩:=World.cell?_of_block (Below.heap_setCell _ _ _ _ h)
theorem Zkr (p:Addr):ZcQ fun w=>w.cell? p=Ya (Zf w p)/\w.frozen? p=false:=fun _ _ a h=>
 ⟨ZH (ZS a h.1),(a.frozen (World.block_lt_of_cell? _ _ h.1)).trans h.2⟩
theorem Zd7 (w:Yh) (a b:Nat) (x y:Yi):ZcQ (Zik w a b x y):=
 Zx (Zx (Zx (Zu _ _) (Zu _ _)) (Zx (Zkr _) (Zkr _))) (ZbO w)
theorem Zki {w e:Yh} {d b:Nat} {x y u v:Yi} (a:d≠b) (c:w.heap.size<=b) (h:Zik w d b x y e):Zik w d b x y ((e.setCell ⟨b,0,Yb⟩ u).setCell ⟨b,1,Yb⟩ v):=by
 obtain⟨⟨⟨a0,f⟩,⟨c0,g⟩,c1,i⟩,j⟩:=h;refine⟨⟨⟨?_,?_⟩,⟨Zao (Zao c0),?_⟩,Zao (Zao c1),?_⟩,(j.setCell (p:=⟨b,0,Yb⟩) c _).setCell (p:=⟨b,1,Yb⟩) c _⟩
 ·rw[Zez a,Zez a];exact a0
 ·rw[Zez a,Zez a];exact f
 ·rw[World.frozen?_setCell,World.frozen?_setCell];exact g
 ·rw[World.frozen?_setCell,World.frozen?_setCell];exact i
theorem Zkh {w b:Yh} {c d:Nat} {x y u v:Yi} (e:Blk b c #[x,y]) (a:Blk b d #[u,v]) (f:Below w.heap.size w b):Zik w c d x y b:=
 ⟨⟨⟨e.cell 0,e.cell 1⟩,⟨ZH (a.cell 0),a.free 0⟩,ZH (a.cell 1),a.free 1⟩,f⟩
theorem Znl {w b:Yh} {c a:Nat} {x y u v:Yi} (h:Zik w c a x y b):((b.setCell ⟨a,0,Yb⟩ u).setCell ⟨a,1,Yb⟩ v).cell? ⟨a,0,Yb⟩=Ya u/\((b.setCell ⟨a,0,Yb⟩ u).setCell ⟨a,1,Yb⟩ v).cell? ⟨a,1,Yb⟩=Ya v:=
 ZaF h.1.2.1.1 h.1.2.2.1
theorem Zni (w:Yh) (x y:Int×Int) (c:OkR x) (h:OkR y):Calls Tryz.prog 147 #[Zb x.1 x.2,Zb y.1 y.2] w fun r w'=>r=.returned (.tuple #[Zb (Zl x y).1.1 (Zl x y).1.2,Yd Yf (Zl x y).2])/\Below w.heap.size w w':=by
 obtain⟨d,e,v⟩:=c;obtain⟨f,g,u⟩:=h;have:=ZjN v u w;rw[<-e,<-g]at this;have a:x.2.toNat=d:=by rw[e];rfl
 have b:y.2.toNat=f:=by rw[g];rfl
 unfold Zl Zcr;rw[a,b];exact this
theorem Zro (w:Yh) (x y:Int×Int) (c:OkR x) (h:OkR y):Calls Tryz.prog 27 #[Zb x.1 x.2,Zb y.1 y.2] w fun r w'=>r=.returned (.tuple #[Zb (Zl x (Zv y)).1.1 (Zl x (Zv y)).1.2,Yd Yf (Zl x (Zv y)).2])/\Below w.heap.size w w':=by
 obtain⟨d,e,v⟩:=c;obtain⟨f,g,u⟩:=h;have:=Zkt v u w;rw[<-e,<-g]at this;have a:x.2.toNat=d:=by rw[e];rfl
 have b:y.2.toNat=f:=by rw[g];rfl
 unfold Zl Zcr Zv;dsimp only;rw[a,b,show x.1*y.2+-y.1*x.2=x.1*y.2-y.1*x.2 by rw[Int.neg_mul];omega];exact this
theorem Zrn (w:Yh) (x y:Int×Int) (c:OkR x) (h:OkR y):Calls Tryz.prog 26 #[Zb x.1 x.2,Zb y.1 y.2] w fun r w'=>r=.returned (.tuple #[Zb (ZP x y).1.1 (ZP x y).1.2,Yd Yf (ZP x y).2])/\Below w.heap.size w w':=by
 obtain⟨d,e,v⟩:=c;obtain⟨f,g,u⟩:=h;have:=Zhi v u w;rw[<-e,<-g]at this;have a:x.2.toNat=d:=by rw[e];rfl
 have b:y.2.toNat=f:=by rw[g];rfl
 unfold ZP Zcr;rw[a,b];exact this
def okO (r:(Int×Int)×Int):Option (Int×Int):=if r.2=0 then Ya r.1 else Yb
def ZdC (a up:List Rw) (m:List (Int×Int)):Option (Int×Int):=
 (Za4 a m a.length).bind fun b=>(Za4 up m up.length).bind fun t=>
  if a.length=0 then(if up.length=0 then Ya (0,1)else okO (Zl t (Zv (1,1))))
  else if up.length=0 then okO (Zl (Zv b) (1,1))else(okO (Zl (Zv b) t)).bind fun s=>okO (ZP s (1,2))
theorem ZcD (r:(Int×Int)×Int):(r.2=0/\okO r=Ya r.1)\/(r.2≠0/\okO r=Yb):=by
 unfold okO;by_cases h:r.2=0
 ·exact .inl ⟨h,Yo h⟩
 ·exact .inr ⟨h,Yn h⟩
theorem ZiA:OkR (1,2):=⟨2,rfl,by decide,by decide,by decide,by decide⟩
def Zk1 (w:Yh) (r:Option (Int×Int)) (e:Ending) (w':Yh):Prop:=
 (∃x y z:Int,e=.returned (.tuple #[Zb x y,Yd Yf z])/\((z=0/\r=Ya (x,y))\/(z≠0/\r=Yb)))/\Below w.heap.size w w'
theorem ZdX {ts:List Rw} {m:List (Int×Int)} (f:∀r∈ts,Zz r.2.1/\Bd r.2.2) (hm:Zz m):∀(k:Nat) (x:Int×Int),Za4 ts m k=Ya x->(k=0/\x=(0,0))\/OkR x
 |0,x,h=>by
  obtain rfl:=Option.some.inj h;exact .inl ⟨rfl,rfl⟩
 |k+1,x,h=>by
  rw[Za4,Option.bind_eq_some_iff]at h;obtain⟨i,d,h⟩:=h;cases hk:ts[k]? with
  |none=>rw[hk]at h;cases h
  |some r=>
   rw[hk]at h;dsimp only at h
   split at h
   ·rename_i he
    obtain rfl:=Option.some.inj h;have e:=f r (List.mem_of_getElem? hk);obtain⟨a,b,c,_,q⟩:=ZeP e.1 e.2 hm he;have j:=Zda a c b 8 _ q;unfold ZbX
    split
    ·exact .inr j
    ·rename_i g
     rcases ZdX f hm k i d with⟨rfl,_⟩|q
     ·exact absurd (.inl rfl) g
     ·exact .inr q
   ·cases h
theorem Zlw {w:Yh} {v a:Yi} {ts:List Rw} {m:List (Int×Int)} (h:ZA w v ts) (c:∀r∈ts,Zz r.2.1/\Bd r.2.2) (b:Za w a m) (hm:Zz m) {x:Int×Int} (d:Za4 ts m ts.length=Ya x) :
  Calls Tryz.prog 149 #[v,a] w fun e w'=>e=.returned (.tuple #[Zb x.1 x.2,Yd Yf 0])/\Below w.heap.size w w':=by
 have:=Zi2 w v a ts m h c b hm;rw[d]at this;exact this
theorem Zlv {w:Yh} {v a:Yi} {ts:List Rw} {m:List (Int×Int)} (h:ZA w v ts) (g:∀r∈ts,Zz r.2.1/\Bd r.2.2) (f:Za w a m) (hm:Zz m) (i:Za4 ts m ts.length=Yb) :
  Calls Tryz.prog 149 #[v,a] w fun e w'=>∃E:Int,(E != 0)=true/\e=.returned (.tuple #[Zb 0 0,Yd Yf E])/\Below w.heap.size w w':=by
 have:=Zi2 w v a ts m h g f hm;rw[i]at this
 exact this.mono fun e w' q=>by
  obtain⟨⟨E,b,c⟩,d⟩:=q;exact⟨E,by simpa using b,c,d⟩
structure BtS (W wr:Yh) (b1 b2:Nat) (v1 v2:Yi):Prop where
 R:Blk wr W.heap.size #[Yd Yf 0,Yd Yf 0]
 x:Blk wr b1 #[v1]
 y:Blk wr b2 #[v2]
 below:Below W.heap.size W wr
theorem BtS.keep {W wr e:Yh} {b c:Nat} {d v2:Yi} (h:BtS W wr b c d v2) (a:Below wr.heap.size wr e):BtS W e b c d v2:=⟨h.R.keep a,h.x.keep a,h.y.keep a,h.below.trans (a.mono h.below.size)⟩
theorem Zq9 (w:Yh) (vb:Yi) (m:List (Int×Int)) (b1 b2:Nat) (v1 v2:Yi) (D up:List Rw) (B1:Blk w b1 #[v1]) (B2:Blk w b2 #[v2]) (X:ZA w v1 D) (Y:ZA w v2 up) (I:∀r∈D,Zz r.2.1/\Bd r.2.2) (J:∀r∈up,Zz r.2.1/\Bd r.2.2) (i:Za w vb m) (hm:Zz m) :
  Calls Tryz.prog 148 #[vb,.pointer (Ya ⟨b1,0,Yb⟩),.pointer (Ya ⟨b2,0,Yb⟩)] w (Zk1 w (ZdC D up m)):=by
 have a0:=below_alloc1 w (Yg #[Yd Yf 0,Yd Yf 0] 23);have D0:BtS w (w.alloc (Yg #[Yd Yf 0,Yd Yf 0] 23)) b1 b2 v1 v2:=⟨Blk.start w _ _,B1.keep a0,B2.keep a0,a0⟩
 obtain⟨A1,c1,rfl⟩:∃A c,v1=.slice A D.length c:=by obtain⟨A,c,_,e,_⟩:=X;exact⟨A,c,e⟩
 obtain⟨A2,c2,rfl⟩:∃A c,v2=.slice A up.length c:=by obtain⟨A,c,_,e,_⟩:=Y;exact⟨A,c,e⟩
 obtain⟨Ab,cb,rfl⟩:=Zc i;have d:=zh D0;have hO:ZdC D up m=(Za4 D m D.length).bind fun b=>(Za4 up m up.length).bind fun t=>if D.length=0 then(if up.length=0 then Ya (0,1)else okO (Zl t (Zv (1,1))))else if up.length=0 then okO (Zl (Zv b) (1,1))else(okO (Zl (Zv b) t)).bind fun s=>okO (ZP s (1,2)):=rfl;generalize ZdC D up m=Z at *;have C:=ZdX I hm D.length;have L:=ZdX J hm up.length;cases e1:Za4 D m D.length with
 |none=>
  have L1:=zh (fun(f:Yh) (q:Below w.heap.size w f)=>Zlv (X.below q) I (i.below q) hm e1);rw[e1,Option.bind_none]at hO;subst hO;have x0:=D0.x.cell 0;clear e1 C L X Y I J i hm B1 B2 D0 a0;generalize D.length=n1 at *;generalize m.length=nm at *;go_enter Tryz.func148,Tryz.ntmps148;go_upto_region 2 with(go_at_call 149;go_fit (L1.out _ d.out.below);rintro e5 w2 ⟨E,hE,rfl,n⟩)
  have a2:=below_alloc1 w2 (Yg #[Yd Yf 0,Yd Yf 0] 23);have d:=zh ((d.out.keep n).keep a2);clear n a2 x0;generalize w2.alloc (Yg #[Yd Yf 0,Yd Yf 0] 23)=w3 at *;have r0:=d.out.R.cell 0;have r1:=d.out.R.cell 1;have q0:=d.out.R.free 0;have q1:=d.out.R.free 1;go_wp2_with fail;have G:=(d.out.R.set 0 (Yd Yf 0)).set 1 (Yd Yf 0);have z0:=G.cell 0;have M:=G.cell 1;exact bodyPost_ret (v:=.tuple #[Zb 0 0,Yd Yf E]) (by simp[results,Tryz.results148,go_sem,z0,M]) rfl ⟨⟨0,0,E,rfl,.inr ⟨by simpa using hE,rfl⟩⟩,(d.out.below.setCell (p:=⟨w.heap.size,0,Yb⟩) (Nat.le_refl _) _).setCell (p:=⟨w.heap.size,1,Yb⟩) (Nat.le_refl _) _⟩
 |some b=>
  have L1:=zh (fun(f:Yh) (q:Below w.heap.size w f)=>Zlw (X.below q) I (i.below q) hm e1);rw[e1,Option.bind_some]at hO;have C:=C b e1;cases e2:Za4 up m up.length with
  |none=>
   have L2:=zh (fun(f:Yh) (q:Below w.heap.size w f)=>Zlv (Y.below q) J (i.below q) hm e2);rw[e2,Option.bind_none]at hO;subst hO;have x0:=D0.x.cell 0;clear e1 e2 C L X Y I J i hm B1 B2 D0 a0;obtain⟨k,j⟩:=b;dsimp only at *;generalize D.length=n1 at *;generalize up.length=n2 at *;generalize m.length=nm at *;go_enter Tryz.func148,Tryz.ntmps148;go_upto_region 2 with(go_at_call 149;go_fit (L1.out _ d.out.below);rintro e5 w2 ⟨rfl,n⟩)
   have a2:=below_alloc1 w2 (Yg #[Yd Yf k,Yd Yf j] 23);have d:=zh ((d.out.keep n).keep a2);clear n a2 x0;generalize w2.alloc (Yg #[Yd Yf k,Yd Yf j] 23)=w3 at *;have y0:=d.out.y.cell 0;go_upto_region 5 with(go_at_call 149;go_fit (L2.out _ d.out.below);rintro e6 w4 ⟨E,hE,rfl,B⟩)
   have a4:=below_alloc1 w4 (Yg #[Yd Yf 0,Yd Yf 0] 23);have d:=zh ((d.out.keep B).keep a4);clear B a4 y0;generalize w4.alloc (Yg #[Yd Yf 0,Yd Yf 0] 23)=w5 at *;have r0:=d.out.R.cell 0;have r1:=d.out.R.cell 1;have q0:=d.out.R.free 0;have q1:=d.out.R.free 1;go_wp2_with fail;have G:=(d.out.R.set 0 (Yd Yf 0)).set 1 (Yd Yf 0);have z0:=G.cell 0;have M:=G.cell 1;exact bodyPost_ret (v:=.tuple #[Zb 0 0,Yd Yf E]) (by simp[results,Tryz.results148,go_sem,z0,M]) rfl ⟨⟨0,0,E,rfl,.inr ⟨by simpa using hE,rfl⟩⟩,(d.out.below.setCell (p:=⟨w.heap.size,0,Yb⟩) (Nat.le_refl _) _).setCell (p:=⟨w.heap.size,1,Yb⟩) (Nat.le_refl _) _⟩
  |some t=>
   have L2:=zh (fun(f:Yh) (q:Below w.heap.size w f)=>Zlw (Y.below q) J (i.below q) hm e2);rw[e2,Option.bind_some]at hO;have L:=L t e2;have NG:=zh (fun(f:Yh)=>Zla f b (C.elim (fun q=>.inr q.2) .inl));have x0:=D0.x.cell 0;clear e1 e2 X Y I J i hm B1 B2 D0 a0;have HO:=zh (zi hO (zi C L));clear hO C L;obtain⟨k,j⟩:=b;obtain⟨O,N⟩:=t;unfold Zv at NG;dsimp only at *;generalize D.length=n1 at *;generalize up.length=n2 at *;generalize m.length=nm at *;go_enter Tryz.func148,Tryz.ntmps148;go_upto_region 2 with(go_at_call 149;go_fit (L1.out _ d.out.below);rintro e5 w2 ⟨rfl,n⟩)
   have a2:=below_alloc1 w2 (Yg #[Yd Yf k,Yd Yf j] 23);have T6:=zh (Blk.start w2 #[Yd Yf k,Yd Yf j] 23);have d:=zh ((d.out.keep n).keep a2);clear n a2 x0;generalize w2.heap.size=b6 at *;generalize w2.alloc (Yg #[Yd Yf k,Yd Yf j] 23)=w3 at *;have y0:=d.out.y.cell 0;go_upto_region 5 with(go_at_call 149;go_fit (L2.out _ d.out.below);rintro e6 w4 ⟨rfl,B⟩)
   have a4:=below_alloc1 w4 (Yg #[Yd Yf O,Yd Yf N] 23);have T6:=zh ((T6.out.keep B).keep a4);have T8:=zh (Blk.start w4 #[Yd Yf O,Yd Yf N] 23);have N8:=zh (show w4.heap.size≠w.heap.size from by have:=d.out.R.lt;have:=B.size;omega);have d:=zh ((d.out.keep B).keep a4);clear B a4 y0;generalize w4.heap.size=b8 at *;generalize w4.alloc (Yg #[Yd Yf O,Yd Yf N] 23)=w5 at *;have s0:=T6.out.cell 0;have s1:=T6.out.cell 1;go_upto_region 8 with(go_at_call 113;go_fit (NG.out _);rintro e7 w6 ⟨rfl,ac⟩)
   have a6:=below_alloc1 w6 (Yg #[Yd Yf (-k),Yd Yf j] 23);have T9:=zh (Blk.start w6 #[Yd Yf (-k),Yd Yf j] 23);have T8:=zh ((T8.out.keep ac).keep a6);have N9:=zh (show w6.heap.size≠w.heap.size from by have:=d.out.R.lt;have:=ac.size;omega);have d:=zh ((d.out.keep ac).keep a6);clear ac a6 s0 s1;generalize w6.heap.size=b9 at *;generalize w6.alloc (Yg #[Yd Yf (-k),Yd Yf j] 23)=w7 at *;have x0:=d.out.x.cell 0;have y0:=d.out.y.cell 0;by_cases T:n1=0
   ·have i1:((n1:Int)==0)=true:=by rw[T];rfl
    by_cases z:n2=0
    ·have i2:((n2:Int)==0)=true:=by rw[z];rfl
     have HZ:=zh (show Z=Ya (0,1)from by rw[HO.out.1,Yo T,Yo z]);clear T z;go_wp2_with (go_at_call 30;go_fit (Zbl _ _);rintro e8 w8 ⟨rfl,W⟩;have d:=zh (d.out.keep W);clear W;have r0:=d.out.R.cell 0;have r1:=d.out.R.cell 1;have q0:=d.out.R.free 0;have q1:=d.out.R.free 1);have G:=(d.out.R.set 0 (Yd Yf 0)).set 1 (Yd Yf 1);have z0:=G.cell 0;have M:=G.cell 1;exact bodyPost_ret (v:=.tuple #[Zb 0 1,Yd Yf 0]) (by simp[results,Tryz.results148,go_sem,z0,M]) rfl ⟨⟨0,1,0,rfl,.inl ⟨rfl,HZ.out⟩⟩,(d.out.below.setCell (p:=⟨w.heap.size,0,Yb⟩) (Nat.le_refl _) _).setCell (p:=⟨w.heap.size,1,Yb⟩) (Nat.le_refl _) _⟩
    ·have i2:((n2:Int)==0)=false:=by simpa using z
     have ok:=HO.out.2.2.resolve_left (fun q=>z q.1);have g:=fun(f:Yh)=>Zro f (O,N) (1,1) ok ZdZ;have H:=ZcD (Zl (O,N) (Zv (1,1)));have hz:Z=okO (Zl (O,N) (Zv (1,1))):=by rw[HO.out.1,Yo T,Yn z]
     rw[<-hz]at H;generalize Zl (O,N) (Zv (1,1))=Q at *;obtain⟨⟨U,V⟩,gz⟩:=Q;dsimp only at g H;have o:=zh g;have JU:=zh H;have aj:=N8;clear g H hz ok T z;go_upto_region 13 with fail;have HS:=Zd7 _ _ _ _ _ _ _ (Zn w7) (Zkh T8.out d.out.R d.out.below);unfold Zik at HS;refine wp_region_noPanic ?_;refine wp_region_held_drew (S:=(fun f=>((f.cell? ⟨b8,0,Yb⟩=Ya (Yd Yf O)/\f.cell? ⟨b8,1,Yb⟩=Ya (Yd Yf N))/\((f.cell? ⟨w.heap.size,0,Yb⟩=Ya (Zf f ⟨w.heap.size,0,Yb⟩)/\f.frozen? ⟨w.heap.size,0,Yb⟩=false)/\(f.cell? ⟨w.heap.size,1,Yb⟩=Ya (Zf f ⟨w.heap.size,1,Yb⟩)/\f.frozen? ⟨w.heap.size,1,Yb⟩=false)))/\Below w.heap.size w f)) (by kernel_rfl) HS (fun a=>?_);clear HS;refine tk 0 rfl ?_;(try simp only[cl,Act.put]);refine rd 1 rfl fun K l=>?_;go_simp
     (first
      |(go_at_call 30;go_fit (Zbl _ _);rintro e5 w5 ⟨rfl,i⟩)
      |(go_at_call 27;go_fit (o.out _);rintro e6 w6 ⟨rfl,i⟩))
     go_wp2_with fail;refine l.out _ _ (Zd7 _ _ _ _ _ _ _ i a) (fun h=>?_);clear l K a i;have a:=h;clear h;(try simp only[cl,Act.put]);refine rd 2 rfl fun K l=>?_;go_simp
     (first
      |(go_at_call 30;go_fit (Zbl _ _);rintro e5 w5 ⟨rfl,i⟩)
      |(go_at_call 27;go_fit (o.out _);rintro e6 w6 ⟨rfl,i⟩))
     go_wp2_with fail;refine l.out _ _ (Zd7 _ _ _ _ _ _ _ i a) (fun h=>?_);clear l K a i;have a:=h;clear h;(try simp only[cl,Act.put]);refine tk 3 rfl ?_;refine tk 4 rfl ?_;(try simp only[cl,Act.put]);refine rd 5 rfl fun K l=>?_;have P:=zh a;obtain⟨⟨⟨h0,X⟩,⟨Y,h3⟩,h4,h5⟩,h6⟩:=id a;go_simp;clear h0 X Y h3 h4 h5 h6;refine l.out _ _ (Zki aj.out (Nat.le_refl _) P.out) (fun h=>?_);clear l K a;have a:=h;clear h;(try simp only[cl,Act.put]);refine tk 6 rfl ?_;(try simp only[cl,Act.put]);refine wpAnyH_done (by kernel_rfl) ?_ _;refine NoPanic.normal ?_;go_wp2_with fail;obtain⟨z0,M⟩:=Znl (u:=Yd Yf U) (v:=Yd Yf V) P.out;exact bodyPost_ret (v:=.tuple #[Zb U V,Yd Yf gz]) (by simp[results,Tryz.results148,go_sem,z0,M]) rfl ⟨⟨U,V,gz,rfl,JU.out⟩,a.2⟩
   ·have i1:((n1:Int)==0)=false:=by simpa using T
    have F:=ZbF (HO.out.2.1.resolve_left (fun q=>T q.1));unfold Zv at F;dsimp only at F;by_cases z:n2=0
    ·have i2:((n2:Int)==0)=true:=by rw[z];rfl
     have g:=fun(f:Yh)=>Zni f (-k,j) (1,1) F ZdZ;have H:=ZcD (Zl (-k,j) (1,1));have hz:Z=okO (Zl (-k,j) (1,1)):=by rw[HO.out.1,Yn T,Yo z];rfl
     rw[<-hz]at H;generalize Zl (-k,j) (1,1)=Q at *;obtain⟨⟨U,V⟩,gz⟩:=Q;dsimp only at g H;have o:=zh g;have JU:=zh H;have aj:=N9;clear g H hz F T z;go_upto_region 11 with fail;have HS:=Zd7 _ _ _ _ _ _ _ (Zn w7) (Zkh T9.out d.out.R d.out.below);unfold Zik at HS;refine wp_region_noPanic ?_;refine wp_region_held_drew (S:=(fun f=>((f.cell? ⟨b9,0,Yb⟩=Ya (Yd Yf (-k))/\f.cell? ⟨b9,1,Yb⟩=Ya (Yd Yf j))/\((f.cell? ⟨w.heap.size,0,Yb⟩=Ya (Zf f ⟨w.heap.size,0,Yb⟩)/\f.frozen? ⟨w.heap.size,0,Yb⟩=false)/\(f.cell? ⟨w.heap.size,1,Yb⟩=Ya (Zf f ⟨w.heap.size,1,Yb⟩)/\f.frozen? ⟨w.heap.size,1,Yb⟩=false)))/\Below w.heap.size w f)) (by kernel_rfl) HS (fun a=>?_);clear HS;refine tk 0 rfl ?_;(try simp only[cl,Act.put]);refine rd 1 rfl fun K l=>?_;go_simp
     (first
      |(go_at_call 30;go_fit (Zbl _ _);rintro e5 w5 ⟨rfl,i⟩)
      |(go_at_call 147;go_fit (o.out _);rintro e6 w6 ⟨rfl,i⟩))
     go_wp2_with fail;refine l.out _ _ (Zd7 _ _ _ _ _ _ _ i a) (fun h=>?_);clear l K a i;have a:=h;clear h;(try simp only[cl,Act.put]);refine rd 2 rfl fun K l=>?_;go_simp
     (first
      |(go_at_call 30;go_fit (Zbl _ _);rintro e5 w5 ⟨rfl,i⟩)
      |(go_at_call 147;go_fit (o.out _);rintro e6 w6 ⟨rfl,i⟩))
     go_wp2_with fail;refine l.out _ _ (Zd7 _ _ _ _ _ _ _ i a) (fun h=>?_);clear l K a i;have a:=h;clear h;(try simp only[cl,Act.put]);refine tk 3 rfl ?_;refine tk 4 rfl ?_;(try simp only[cl,Act.put]);refine rd 5 rfl fun K l=>?_;have P:=zh a;obtain⟨⟨⟨h0,X⟩,⟨Y,h3⟩,h4,h5⟩,h6⟩:=id a;go_simp;clear h0 X Y h3 h4 h5 h6;refine l.out _ _ (Zki aj.out (Nat.le_refl _) P.out) (fun h=>?_);clear l K a;have a:=h;clear h;(try simp only[cl,Act.put]);refine tk 6 rfl ?_;(try simp only[cl,Act.put]);refine wpAnyH_done (by kernel_rfl) ?_ _;refine NoPanic.normal ?_;go_wp2_with fail;obtain⟨z0,M⟩:=Znl (u:=Yd Yf U) (v:=Yd Yf V) P.out;exact bodyPost_ret (v:=.tuple #[Zb U V,Yd Yf gz]) (by simp[results,Tryz.results148,go_sem,z0,M]) rfl ⟨⟨U,V,gz,rfl,JU.out⟩,a.2⟩
    ·have i2:((n2:Int)==0)=false:=by simpa using z
     have ao:=HO.out.2.2.resolve_left (fun q=>z q.1);have g:=fun(f:Yh)=>Zni f (-k,j) (O,N) F ao;have ad:=Zbi.ok (-k,j) (O,N) F ao;have hz:Z=(okO (Zl (-k,j) (O,N))).bind fun s=>okO (ZP s (1,2)):=by rw[HO.out.1,Yn T,Yn z];rfl
     generalize Zl (-k,j) (O,N)=Q at *;obtain⟨⟨sx,sy⟩,sz⟩:=Q;dsimp only at g ad;have o:=zh g;have s0:=T9.out.cell 0;have s1:=T9.out.cell 1;have t0:=T8.out.cell 0;have t1:=T8.out.cell 1;clear g ao F T z;go_upto_region 15 with(go_at_call 147;go_fit (o.out _);rintro e8 w8 ⟨rfl,W⟩)
     have a8:=below_alloc1 w8 (Yg #[Yd Yf sx,Yd Yf sy] 23);have aw:=zh (Blk.start w8 #[Yd Yf sx,Yd Yf sy] 23);have d:=zh ((d.out.keep W).keep a8);clear W a8 s0 s1 t0 t1 x0 y0;generalize w8.heap.size=cq at *;generalize w8.alloc (Yg #[Yd Yf sx,Yd Yf sy] 23)=w9 at *;by_cases he:sz=0
     ·subst he;have os:=ad rfl;have am:=fun(f:Yh)=>Zrn f (sx,sy) (1,2) os ZiA;have H:=ZcD (ZP (sx,sy) (1,2));have a1:Z=okO (ZP (sx,sy) (1,2)):=by rw[hz];rfl
      rw[<-a1]at H;generalize ZP (sx,sy) (1,2)=Q at *;obtain⟨⟨U,V⟩,gz⟩:=Q;dsimp only at am H;have OM:=zh am;have JU:=zh H;have s0:=aw.out.cell 0;have s1:=aw.out.cell 1;clear am H hz a1 os ad;go_wp2_with (go_at_call 26;go_fit (OM.out _);rintro e9 ct ⟨rfl,az⟩;have d:=zh (d.out.keep az);clear az;have r0:=d.out.R.cell 0;have r1:=d.out.R.cell 1;have q0:=d.out.R.free 0;have q1:=d.out.R.free 1);have G:=(d.out.R.set 0 (Yd Yf U)).set 1 (Yd Yf V);have z0:=G.cell 0;have M:=G.cell 1;exact bodyPost_ret (v:=.tuple #[Zb U V,Yd Yf gz]) (by simp[results,Tryz.results148,go_sem,z0,M]) rfl ⟨⟨U,V,gz,rfl,JU.out⟩,(d.out.below.setCell (p:=⟨w.heap.size,0,Yb⟩) (Nat.le_refl _) _).setCell (p:=⟨w.heap.size,1,Yb⟩) (Nat.le_refl _) _⟩
     ·have ne:(sz != 0)=true:=by simpa using he
      have HZ:=zh (show Z=Yb from by rw[hz];unfold okO;dsimp only;rw[Yn he];rfl);have HE:=zh he;have r0:=d.out.R.cell 0;have r1:=d.out.R.cell 1;have q0:=d.out.R.free 0;have q1:=d.out.R.free 1;clear he hz ad;go_wp2_with fail;have G:=(d.out.R.set 0 (Yd Yf 0)).set 1 (Yd Yf 0);have z0:=G.cell 0;have M:=G.cell 1;exact bodyPost_ret (v:=.tuple #[Zb 0 0,Yd Yf sz]) (by simp[results,Tryz.results148,go_sem,z0,M]) rfl ⟨⟨0,0,sz,rfl,.inr ⟨HE.out,HZ.out⟩⟩,(d.out.below.setCell (p:=⟨w.heap.size,0,Yb⟩) (Nat.le_refl _) _).setCell (p:=⟨w.heap.size,1,Yb⟩) (Nat.le_refl _) _⟩
end Go.Proofs.YtbfnnolakggbfaaGreatDoor
