import Derived.Deep.DeepFit
import Derived.Deep.CutRange
import Derived.Test.YtbfnnolakggbfaaGreatDoorQAL
import Derived.Test.YtbfnnolakggbfaaGreatDoorQAU
set_option maxRecDepth 100000
set_option maxHeartbeats 8000000
open Option renaming some → Ya, none → Yb
open Go.Value renaming slice → Yc, int → Yd, pointer → Ye
open Go.IntKind renaming i64 → Yf
open Go.Obj renaming cells → Yg
open Go renaming World → Yh, Value → Yi
namespace Go.Proofs.YtbfnnolakggbfaaGreatDoor
section
open Go.RowKit
structure DivS (W wr:Yh) (vl vs vp:Yi) (L Q:List Trm) (P:List Int) (b8 k g i:Nat) (va:Yi) (t:Trm):Prop where
 sol:SolS W wr vl vs vp L Q P
 kk:wr.cell? ⟨b8,0,Yb⟩=Ya (Yd Yf k)
 r:Za wr va t.1
 c0:wr.cell? ⟨g,i*3,Yb⟩=Ya va
 c1:wr.cell? ⟨g,i*3+1,Yb⟩=Ya (Yd Yf t.2.1)
 c2:wr.cell? ⟨g,i*3+2,Yb⟩=Ya (Yd Yf t.2.2)
section
variable {W wr w2:Yh} {vl vs vp va:Yi} {L Q:List Trm} {P:List Int} {b8 k g i:Nat} {t:Trm}
theorem DivS.keep (h:DivS W wr vl vs vp L Q P b8 k g i va t) (a:Below wr.heap.size wr w2):DivS W w2 vl vs vp L Q P b8 k g i va t:=
 ⟨h.sol.keep a,Zd a (World.block_lt_of_cell? _ _ h.kk) h.kk,h.r.below a,Zd a (World.block_lt_of_cell? _ _ h.c0) h.c0,Zd a (World.block_lt_of_cell? _ _ h.c1) h.c1,Zd a (World.block_lt_of_cell? _ _ h.c2) h.c2⟩
theorem DivS.cells (h:DivS W wr vl vs vp L Q P b8 k g i va t):((wr.cell? ⟨b8,0,Yb⟩=Ya (Yd Yf k))/\wr.cell? ⟨g,i*3,Yb⟩=Ya va/\wr.cell? ⟨g,i*3+1,Yb⟩=Ya (Yd Yf t.2.1)/\wr.cell? ⟨g,i*3+2,Yb⟩=Ya (Yd Yf t.2.2))/\DivS W wr vl vs vp L Q P b8 k g i va t:=
 ⟨⟨h.kk,h.c0,h.c1,h.c2⟩,h⟩
theorem ZdU {A:Prop} (a:Below wr.heap.size wr w2) (h:A/\DivS W wr vl vs vp L Q P b8 k g i va t):((w2.cell? ⟨b8,0,Yb⟩=Ya (Yd Yf k))/\w2.cell? ⟨g,i*3,Yb⟩=Ya va/\w2.cell? ⟨g,i*3+1,Yb⟩=Ya (Yd Yf t.2.1)/\w2.cell? ⟨g,i*3+2,Yb⟩=Ya (Yd Yf t.2.2))/\DivS W w2 vl vs vp L Q P b8 k g i va t:=
 (h.2.keep a).cells
theorem ZjY {A:Prop} {wo:Yh} {o:Obj} (h:A/\DivS W wo.drew vl vs vp L Q P b8 k g i va t):(((wo.alloc o).drew.cell? ⟨b8,0,Yb⟩=Ya (Yd Yf k))/\(wo.alloc o).drew.cell? ⟨g,i*3,Yb⟩=Ya va/\(wo.alloc o).drew.cell? ⟨g,i*3+1,Yb⟩=Ya (Yd Yf t.2.1)/\(wo.alloc o).drew.cell? ⟨g,i*3+2,Yb⟩=Ya (Yd Yf t.2.2))/\DivS W (wo.alloc o).drew vl vs vp L Q P b8 k g i va t:=
 (h.2.keep (below_alloc1 wo.drew o)).cells
theorem ZiS {A:Prop} (h:A/\DivS W wr vl vs vp L Q P b8 k g i va t):DivS W wr vl vs vp L Q P b8 k g i va t:=h.2
end
structure HoleT (wA wr:Yh) (c:Nat):Prop where
 F:FracBox wr c (Yc Yb 0 0) (Yd Yf 0) (Yd Yf 0)
 hc:c=wA.heap.size
 below:Below wA.heap.size wA wr
theorem HoleT.start (a:Yh) (ty:TypeId):HoleT a (a.alloc (Yg #[Yc Yb 0 0,Yd Yf 0,Yd Yf 0] ty)) a.heap.size:=⟨FracBox.start _ _ _ _ _,rfl,below_alloc1 _ _⟩
theorem HoleT.keep {d wr b:Yh} {c:Nat} (h:HoleT d wr c) (a:Below wr.heap.size wr b):HoleT d b c:=⟨h.F.keep a,h.hc,h.below.trans (a.mono h.below.size)⟩
theorem HoleT.fill {a wr:Yh} {c:Nat} (h:HoleT a wr c) (x y z:Yi):Below a.heap.size a (((wr.setCell ⟨c,0,Yb⟩ x).setCell ⟨c,1,Yb⟩ y).setCell ⟨c,2,Yb⟩ z)/\FracBox (((wr.setCell ⟨c,0,Yb⟩ x).setCell ⟨c,1,Yb⟩ y).setCell ⟨c,2,Yb⟩ z) c x y z:=by have e:=h.hc;exact⟨((h.below.setCell (by show _<=c;omega) _).setCell (by show _<=c;omega) _).setCell (by show _<=c;omega) _,h.F.write x y z⟩
theorem Zlm {A:Prop} {W a:Yh} {d f e c:Yi} {L Q:List Trm} {P:List Int} {b k g i:Nat} {t:Trm} {ty:TypeId} (_:A/\DivS W (a.alloc (Yg #[Yc Yb 0 0,Yd Yf 0,Yd Yf 0] ty)) d f e L Q P b k g i c t) :
  HoleT a (a.alloc (Yg #[Yc Yb 0 0,Yd Yf 0,Yd Yf 0] ty)) a.heap.size:=HoleT.start a ty
theorem Zj1 {A:Prop} {W a:Yh} {d f e c:Yi} {L Q:List Trm} {P:List Int} {b k g i:Nat} {t:Trm} {ty:TypeId} (_:A/\DivS W (a.alloc (Yg #[Yc Yb 0 0,Yd Yf 0,Yd Yf 0] ty)).drew d f e L Q P b k g i c t) :
  HoleT a.drew (a.alloc (Yg #[Yc Yb 0 0,Yd Yf 0,Yd Yf 0] ty)).drew a.heap.size:=HoleT.start a.drew ty
def ZkY (W:Yh) (g i h:Yi) (L Q:List Trm) (P:List Int) (j k:Nat) (M:List (Int×Int)) (m1 m2 e:Int) (b f:Yi) (a:Yh):Prop:=
 ∃c A d,b=Ye (Ya ⟨c,0,Yb⟩)/\f=Yd Yf e/\FracBox a c (Yc A M.length d) (Yd Yf m1) (Yd Yf m2)/\Za a (Yc A M.length d) M/\Off (three g i h) (Yc A M.length d) M/\SolS W a g i h L Q P/\a.cell? ⟨j,0,Yb⟩=Ya (Yd Yf k)/\¬three g i h c
section
variable {W w5 w6 wA wr:Yh} {vl vs vp va:Yi} {L Q:List Trm} {P:List Int} {b8 k g i c:Nat} {t:Trm} {M:List (Int×Int)} {m1 m2 e:Int} {A:Option Addr} {d:Nat}
theorem ZoK (D:DivS W w6 vl vs vp L Q P b8 k g i va t) (ty:TypeId) (f:Za w6 (Yc A M.length d) M) (c:Off (three vl vs vp) (Yc A M.length d) M) :
  ZkY W vl vs vp L Q P b8 k M m1 m2 e (Ye (Ya ⟨w6.heap.size,0,Yb⟩)) (Yd Yf e) (w6.alloc (Yg #[Yc A M.length d,Yd Yf m1,Yd Yf m2] ty)):=by
 have a:=below_alloc1 w6 (Yg #[Yc A M.length d,Yd Yf m1,Yd Yf m2] ty);have b:=D.keep a;exact⟨_,A,d,rfl,rfl,FracBox.start _ _ _ _ _,f.below a,c,b.sol,b.kk,fun q=>by have:=D.sol.lt _ q;omega⟩
theorem Zp0 (D:DivS W wA vl vs vp L Q P b8 k g i va t) (hc:HoleT wA wr c) (m:Za wr (Yc A M.length d) M) (l:Off (three vl vs vp) (Yc A M.length d) M) (j:Off (fun b=>b=c) (Yc A M.length d) M) :
  ZkY W vl vs vp L Q P b8 k M m1 m2 e (Ye (Ya ⟨c,0,Yb⟩)) (Yd Yf e) (((wr.setCell ⟨c,0,Yb⟩ (Yc A M.length d)).setCell ⟨c,1,Yb⟩ (Yd Yf m1)).setCell ⟨c,2,Yb⟩ (Yd Yf m2)):=by
 obtain⟨a,F⟩:=hc.fill (Yc A M.length d) (Yd Yf m1) (Yd Yf m2);have h:=D.keep a;have e:=hc.hc;refine⟨_,A,d,rfl,rfl,F,?_,l,h.sol,h.kk,fun q=>by have:=D.sol.lt _ q;omega⟩;exact m.off j (ZX (ZX ZaH ZaH) ZaH) (fun b f=>by injection f with f;exact f.symm)
end
theorem FracBox.grown {w w':Yh} {d:Option Nat} {c:Nat} {x y z:Yi} (h:FracBox w c x y z) (b:w.grownBy w' d) (a:d≠Ya c):FracBox w' c x y z where
 k0:=b.cell h.k0 (fun e=>a e.symm)
 k1:=b.cell h.k1 (fun e=>a e.symm)
 k2:=b.cell h.k2 (fun e=>a e.symm)
 l0:=(b.frozen_far _ h.lt (fun e=>a e.symm)).trans h.l0
 l1:=(b.frozen_far _ h.lt (fun e=>a e.symm)).trans h.l1
 l2:=(b.frozen_far _ h.lt (fun e=>a e.symm)).trans h.l2
 lt:=Nat.lt_of_lt_of_le h.lt b.size
def Zq2 (w:Yh) (base:Nat) (v:Yi) (us:List Trm) (S:Nat->Prop) (e:Ending) (w':Yh):Prop:=e=.returned (Yd Yf 0)/\ZV w' base v us S/\w.grownBy w' v.ownBlock
def ZrG (w:Yh) (v:Yi) (e:Ending) (w':Yh):Prop:=∃z:Int,(z != 0)=true/\e=.returned (Yd Yf z)/\w.grownBy w' v.ownBlock
theorem Zh7 {w:Yh} {base:Nat} {v:Yi} {ts us:List Trm} {S:Nat->Prop} {p:Trm} {f:Yi} {i:Int} {b c:Nat} (hm:Zah (ZO p i) ts=Ya us) (h:ZV w base v ts S) (r:∀g,v.ownBlock=Ya g->S g) (l:∀g,S g->g<w.heap.size) (d:∀t∈ts,TrmOk t) (o:TrmOk p) (E:ElimIn w S b c f p i) :
  Calls Tryz.prog 111 #[v,.func (.func 146) #[] #[Ye (Ya ⟨b,0,Yb⟩),Ye (Ya ⟨c,0,Yb⟩)]] w (Zq2 w base v us S):=by
 refine(Zh6 w base v ts S p f i b c h r l d o E).mono fun e u n=>?_;obtain⟨m,⟨s,a,j,k⟩|⟨a,_⟩⟩:=n
 ·rw[hm]at a;obtain rfl:=Option.some.inj a;exact⟨j,k,m⟩
 ·rw[hm]at a;cases a
theorem Zi8 {w:Yh} {base:Nat} {v:Yi} {ts:List Trm} {S:Nat->Prop} {p:Trm} {f:Yi} {i:Int} {b a:Nat} (hm:Zah (ZO p i) ts=Yb) (h:ZV w base v ts S) (r:∀g,v.ownBlock=Ya g->S g) (l:∀g,S g->g<w.heap.size) (c:∀t∈ts,TrmOk t) (o:TrmOk p) (E:ElimIn w S b a f p i) :
  Calls Tryz.prog 111 #[v,.func (.func 146) #[] #[Ye (Ya ⟨b,0,Yb⟩),Ye (Ya ⟨a,0,Yb⟩)]] w (ZrG w v):=by
 refine(Zh6 w base v ts S p f i b a h r l c o E).mono fun e u n=>?_;obtain⟨m,⟨s,d,_⟩|⟨_,z,j,k⟩⟩:=n
 ·rw[hm]at d;cases d
 ·exact⟨z,j,k,m⟩
structure CelS (wr:Yh) (T3:Nat->Prop) (c b8:Nat) (A:Option Addr) (d:Nat) (M:List (Int×Int)) (m1 m2:Int) (k B:Nat):Prop where
 F:FracBox wr c (Yc A M.length d) (Yd Yf m1) (Yd Yf m2)
 kk:wr.cell? ⟨b8,0,Yb⟩=Ya (Yd Yf k)
 r:Za wr (Yc A M.length d) M
 off:Off T3 (Yc A M.length d) M
 nc:¬T3 c
 nb:¬T3 b8
 sz:B<=wr.heap.size
def Zbf (w:Yh) (B c:Nat) (a:List Yi):Prop:=B<=c/\c<w.heap.size/\∀(j:Nat) (u:Yi),a[j]? = Ya u->w.cell? ⟨c,j,Yb⟩=Ya u
section
variable {W wr w2 wo:Yh} {T3:Nat->Prop} {c b8 d k B:Nat} {A:Option Addr} {M:List (Int×Int)} {m1 m2:Int}
theorem CelS.keep (h:CelS wr T3 c b8 A d M m1 m2 k B) (a:Below wr.heap.size wr w2):CelS w2 T3 c b8 A d M m1 m2 k B:=
 ⟨h.F.keep a,Zd a (World.block_lt_of_cell? _ _ h.kk) h.kk,h.r.below a,h.off,h.nc,h.nb,Nat.le_trans h.sz a.size⟩
theorem CelS.grown {a:Option Nat} (h:CelS wr T3 c b8 A d M m1 m2 k B) (f:wr.grownBy w2 a) (g:∀b,a=Ya b->T3 b):CelS w2 T3 c b8 A d M m1 m2 k B:=
 ⟨h.F.grown f fun e=>h.nc (g _ e),f.cell h.kk fun e=>h.nb (g _ e.symm),h.r.off h.off f g,h.off,h.nc,h.nb,Nat.le_trans h.sz f.size⟩
theorem CelS.cells (h:CelS wr T3 c b8 A d M m1 m2 k B):(wr.cell? ⟨c,0,Yb⟩=Ya (Yc A M.length d)/\wr.cell? ⟨c,1,Yb⟩=Ya (Yd Yf m1)/\wr.cell? ⟨c,2,Yb⟩=Ya (Yd Yf m2)/\wr.cell? ⟨b8,0,Yb⟩=Ya (Yd Yf k))/\CelS wr T3 c b8 A d M m1 m2 k B:=
 ⟨⟨h.F.k0,h.F.k1,h.F.k2,h.kk⟩,h⟩
theorem Zb1 {Y:Prop} (h:Y/\CelS wr T3 c b8 A d M m1 m2 k B):CelS wr T3 c b8 A d M m1 m2 k B:=h.2
theorem ZdT {Y:Prop} (a:Below wr.heap.size wr w2) (h:Y/\CelS wr T3 c b8 A d M m1 m2 k B):(w2.cell? ⟨c,0,Yb⟩=Ya (Yc A M.length d)/\w2.cell? ⟨c,1,Yb⟩=Ya (Yd Yf m1)/\w2.cell? ⟨c,2,Yb⟩=Ya (Yd Yf m2)/\w2.cell? ⟨b8,0,Yb⟩=Ya (Yd Yf k))/\CelS w2 T3 c b8 A d M m1 m2 k B:=(h.2.keep a).cells
theorem Zds {Y:Prop} {a:Option Nat} (e:wr.grownBy w2 a) (f:∀b,a=Ya b->T3 b) (h:Y/\CelS wr T3 c b8 A d M m1 m2 k B):(w2.cell? ⟨c,0,Yb⟩=Ya (Yc A M.length d)/\w2.cell? ⟨c,1,Yb⟩=Ya (Yd Yf m1)/\w2.cell? ⟨c,2,Yb⟩=Ya (Yd Yf m2)/\w2.cell? ⟨b8,0,Yb⟩=Ya (Yd Yf k))/\CelS w2 T3 c b8 A d M m1 m2 k B:=(h.2.grown e f).cells
theorem Zei {Y:Prop} {o:Obj} (h:Y/\CelS wo.drew T3 c b8 A d M m1 m2 k B):((wo.alloc o).drew.cell? ⟨c,0,Yb⟩=Ya (Yc A M.length d)/\(wo.alloc o).drew.cell? ⟨c,1,Yb⟩=Ya (Yd Yf m1)/\(wo.alloc o).drew.cell? ⟨c,2,Yb⟩=Ya (Yd Yf m2)/\(wo.alloc o).drew.cell? ⟨b8,0,Yb⟩=Ya (Yd Yf k))/\CelS (wo.alloc o).drew T3 c b8 A d M m1 m2 k B:=(h.2.keep (below_alloc1 wo.drew o)).cells
theorem Zbf.keep {n:Nat} {b:List Yi} (h:Zbf wr B n b) (a:Below wr.heap.size wr w2):Zbf w2 B n b:=
 ⟨h.1,Nat.lt_of_lt_of_le h.2.1 a.size,fun j u hu=>Zd a h.2.1 (h.2.2 j u hu)⟩
theorem Zbf.grown {n:Nat} {d:List Yi} {a:Option Nat} (h:Zbf wr B n d) (c:wr.grownBy w2 a) (f:∀b,a=Ya b->b<B):Zbf w2 B n d:=
 ⟨h.1,Nat.lt_of_lt_of_le h.2.1 c.size,fun j u hu=>c.cell (h.2.2 j u hu) fun e=>by have:=f n e.symm;have:=h.1;omega⟩
theorem Zbf.reads {n size:Nat} {a:List Yi} (h:Zbf wr B n a) (b:a.length=1*size):Zw wr (n+1) size (Ya ⟨n,0,Yb⟩) 1 a:=
 ⟨b,fun _=>⟨_,rfl,Nat.lt_succ_self n,fun j u hu=>by rw[Addr.add_lit,Nat.zero_add];exact h.2.2 j u hu⟩⟩
theorem Zas {x:Array Yi} {ty:TypeId} (a:B<=wo.heap.size):Zbf (wo.alloc (.cells x ty)) B wo.heap.size x.toList:=by refine⟨a,by simp,fun j u hu=>?_⟩;rw[cell_of_row _ _ j x ty (0,0) (heap_alloc_new wo _)];simpa using hu
theorem Zhk {Y:Prop} {x:Array Yi} {ty:TypeId} (_:Y/\CelS (wo.alloc (.cells x ty)) T3 c b8 A d M m1 m2 k B) (a:B<=wo.heap.size):Zbf (wo.alloc (.cells x ty)) B wo.heap.size x.toList:=Zas a
theorem ZfU {Y:Prop} {x:Array Yi} {ty:TypeId} (_:Y/\CelS (wo.alloc (.cells x ty)).drew T3 c b8 A d M m1 m2 k B) (a:B<=wo.heap.size):Zbf (wo.alloc (.cells x ty)).drew B wo.heap.size x.toList:=(Zas (wo:=wo) (ty:=ty) a).keep (Zn _)
variable {vl vs vp:Yi} {L Q:List Trm} {P:List Int}
theorem Zhp {Y:Prop} {o:Obj} (_:Y/\CelS (wo.alloc o) T3 c b8 A d M m1 m2 k B) (h:SolS W wo vl vs vp L Q P):SolS W (wo.alloc o) vl vs vp L Q P:=h.keep (below_alloc1 _ _)
theorem Zf0 {Y:Prop} {o:Obj} (_:Y/\CelS (wo.alloc o).drew T3 c b8 A d M m1 m2 k B) (h:SolS W wo.drew vl vs vp L Q P):SolS W (wo.alloc o).drew vl vs vp L Q P:=h.keep (below_alloc1 wo.drew o)
theorem ZfV {Y:Prop} {o:Obj} {n:Nat} {a:List Yi} (_:Y/\CelS (wo.alloc o) T3 c b8 A d M m1 m2 k B) (h:Zbf wo B n a):Zbf (wo.alloc o) B n a:=h.keep (below_alloc1 _ _)
theorem ZeZ {Y:Prop} {o:Obj} {n:Nat} {a:List Yi} (_:Y/\CelS (wo.alloc o).drew T3 c b8 A d M m1 m2 k B) (h:Zbf wo.drew B n a):Zbf (wo.alloc o).drew B n a:=h.keep (below_alloc1 wo.drew o)
end
def Zbn (w:Yh) (r:(List Trm×List Int)×Int) (e:Ending) (w':Yh):Prop:=
 ∃A c B d,e=.returned (.tuple #[Yc A r.1.1.length c,Yc B r.1.2.length d,Yd Yf r.2])/\Zai w' (Yc A r.1.1.length c) r.1.1/\ZaR w' (Yc B r.1.2.length d) r.1.2/\Below w.heap.size w w'
theorem Zb4 {w w':Yh} {z:Int} (a:Below w.heap.size w w'):Zbn w (([],[]),z) (.returned (.tuple #[Yc Yb 0 0,Yc Yb 0 0,Yd Yf z])) w':=
 ⟨Yb,0,Yb,0,rfl,Zai.nil _,ZaR.nil _,a⟩
theorem ZnF (w:Yh) (v:Yi) (ts:List Trm) (h:Zai w v ts) (f:∀t∈ts,Zz t.1/\Bd t.2) (a:¬(ts.length<=400/\ts.any ZT=false)) :
  Calls Tryz.prog 70 #[v] w (Zbn w (Zy ts)):=by
 rw[Zgw a];obtain⟨A,c,l,rfl,g,i,_⟩:=id h;by_cases d:ts.length<=400
 ·have hq:ts.any ZT=true:=by
   cases e:ts.any ZT
   ·exact absurd ⟨d,e⟩ a
   ·rfl
  have b:=ZgK w _ ts f h;rw[hq]at b;have j:=Lib.hid b;have i1:¬(400:Int)<(ts.length:Int):=by omega
  have i2:¬400<ts.length:=by omega
  clear a h f g i hq b d;generalize ts.length=n at *;go_enter Tryz.func70,Tryz.ntmps70;go_wp2_with (go_at_call 102;go_fit j.out;rintro e m ⟨rfl,k⟩);go_ret3;exact Zb4 k
 ·have i1:(400:Int)<(ts.length:Int):=by omega
  have i2:400<ts.length:=by omega
  clear a h f g i d;generalize ts.length=n at *;go_enter Tryz.func70,Tryz.ntmps70;go_wp2_with fail;go_ret3;exact Zb4 (Below.refl _ _)
theorem ZoW (w:Yh) (v:Yi) (ts:List Trm) (h:Zai w v ts) (hw:∀t∈ts,Zz t.1/\Bd t.2) (hr:ts.length<=400/\ts.any ZT=false) :
  Calls Tryz.prog 70 #[v] w (Zbn w (Zy ts)):=by
 have Z:∀t∈ts,TrmOk t:=fun t ht=>by
  have q:ZT t=false:=by
   cases e:ZT t
   ·rfl
   ·have:=List.any_eq_true.2 ⟨t,ht,e⟩;rw[hr.2]at this;cases this
  unfold ZT at q;obtain⟨p,a,b⟩:=Zaj (by simpa using q) (hw t ht).1 (hw t ht).2.1.1 (hw t ht).2.1.2 (hw t ht).2.2.1 (hw t ht).2.2.2;exact⟨a,b,p⟩
 obtain⟨iT,bs,b1,b3,b4⟩:=info_parts Zgi;obtain⟨iI,br,bx,bz,b0⟩:=info_parts ZnJ;obtain⟨A,c,rs,rfl,h2,h3,_⟩:=id h;have cc:=ZgK w _ ts hw h;rw[hr.2]at cc;have CC:=Lib.hid cc;have CL:=Lib.hid (fun(E:Yh) (O:Below w.heap.size w E)=>Zop E _ ts (h.below O) (by omega));have i1:¬(400:Int)<(ts.length:Int):=by omega
 have i2:¬400<ts.length:=by omega
 have HR:=Lib.hid (And.intro hr (And.intro Z (rfl:ts.length=ts.length)));clear hr h hw h2 h3 cc Z;generalize ts.length=n at i1 i2 CC CL⊢;go_enter Tryz.func70,Tryz.ntmps70
 go_upto_region 4 with(first
  |(go_at_call 102;go_fit CC.out;rintro e w1 ⟨rfl,O⟩)
  |(go_at_call 104;go_fit (CL.out _ O);rintro e w2 ⟨A2,c2,rfl,hT,cn⟩))
 have D0:SolS w w2 (Yc A2 ts.length c2) (Yc Yb 0 0) (Yc Yb 0 0) ts [] []:=by
  have b2:=O.trans (cn.mono O.size);refine⟨(hT.base O.size).mono fun b q=>.inl ?_,ZV.nil _ _ _,World.ownsRow_nil _ _ _ _,fun b _ q=>(by cases q),fun b _ q=>(by cases q),fun b q=>(by cases q),b2⟩;rcases q with q|q|q
  ·exact(hT.lt b q).1
  ·cases q
  ·cases q
 have D0:=Lib.hid D0;clear CL CC hT O cn i1 i2;generalize Value.slice A2 ts.length c2=V2 at *;go_wp2_with fail;go_loopg [5,6,7,22] 8 (fun g v5 v6 v7 ed wr=>∃(k:Nat) (s:Zco) (vl T R:Yi),vl=v5/\T=v6/\R=v7/\ed=Yd Yf k/\k<=8/\g=8-k/\Zaz ts k=Ya s/\SolS w wr vl T R s.1 s.2.1 s.2.2)
 case atStart=>exact⟨0,(ts,[],[]),_,_,_,rfl,rfl,rfl,rfl,by omega,rfl,rfl,D0.out⟩
 case round=>
  clear D0;obtain⟨k,⟨L,Q,P⟩,vl,T,R,rfl,rfl,rfl,rfl,hk,hg,hs,D⟩:=hrel;dsimp only at D;have so:=Zc5 HR.out.2.1 k _ hs;by_cases a7:8<=k
  ·have i1:¬(k:Int)<8:=by omega
   have cc:=ZkK wr _ L D.l.terms;have hA:Zy ts=if L.any prK=true then(([],[]),1)else((Q,P),0):=by unfold Zy;rw[Yo HR.out.1,show(8:Nat)=k by omega,hs]
   have hQ:=D.s.terms;have hP:=Zd1 D.p;have hB:=D.below;obtain⟨Aq,cq,rfl⟩:∃A c,T=Yc A Q.length c:=by obtain⟨A,c,_,e,_⟩:=hQ;exact⟨A,c,e⟩
   obtain⟨Ap,cp,rfl⟩:∃A c,R=Yc A P.length c:=by obtain⟨A,c,e,_⟩:=hP;exact⟨A,c,e⟩
   cases hq:L.any prK
   ·rw[hq]at cc;have W:=Lib.hid (fun(E:Yh) (O:Below wr.heap.size wr E)=>show Zbn w (Zy ts) (.returned (.tuple #[Yc Aq Q.length cq,Yc Ap P.length cp,Yd Yf 0])) E by rw[hA,hq];exact⟨Aq,cq,Ap,cp,rfl,hQ.below O,hP.below O,hB.trans (O.mono hB.size)⟩);have CC:=Lib.hid cc;clear cc hA hq hQ hP hB D so hs hk hg a7;generalize Q.length=nq at *;generalize P.length=np at *;go_wp2_with (go_at_call 102;go_fit CC.out;rintro e w1 ⟨rfl,O⟩);go_ret3;exact W.out _ O
   ·rw[hq]at cc;have CC:=Lib.hid cc;have W:=Lib.hid (fun(E:Yh) (O:Below wr.heap.size wr E)=>show Zbn w (Zy ts) (.returned (.tuple #[Yc Yb 0 0,Yc Yb 0 0,Yd Yf 1])) E by rw[hA,hq];exact Zb4 (hB.trans (O.mono hB.size)));clear cc hA hq hQ hP hB D so hs hk hg a7;go_wp2_with (go_at_call 102;go_fit CC.out;rintro e w1 ⟨rfl,O⟩);go_ret3;exact W.out _ O
  ·have i1:(k:Int)<8:=by omega
   have wk:IntKind.i64.wrap ((k:Int)+1)=(k:Int)+1:=IntWalk.i64_in _ (by omega);have a0:=below_alloc1 wr (Yg #[Yd Yf k] 3);have D1:=D.keep a0;have k8:(wr.alloc (Yg #[Yd Yf k] 3)).cell? ⟨wr.heap.size,0,Yb⟩=Ya (Yd Yf k):=by go_simp
   have IX:=Lib.hid (ZnH (wr.alloc (Yg #[Yd Yf k] 3)) vl L wr.heap.size k k8 D1.l.terms);have n8:¬three vl T R wr.heap.size:=fun q=>by have:=D.lt _ q;omega
   have J:=Lib.hid (And.intro k8 (And.intro n8 (And.intro hs (And.intro so (And.intro a7 hg)))));have DD:=Lib.hid D1;clear k8 n8 hs so a0 D D1 hk hg a7;go_upto_region 10 with(go_at_call 105;go_fit IX.out;rintro e w3 ⟨z,rfl,hz,bo⟩)
   have DD:=Lib.hid (DD.out.keep bo);have k8:=Zd bo (World.block_lt_of_cell? _ _ J.out.1) J.out.1;have J:=Lib.hid (And.intro k8 J.out.2);clear IX bo k8;generalize wr.heap.size=b8 at *;rcases hz with⟨rfl,ct⟩|⟨i,rfl,⟨t,ht,hp⟩,cz⟩
   ·have ar:Zaz ts (k+1)=Ya (L,Q,P):=by rw[Zaz,J.out.2.2.1];show ZaJ (L,Q,P) k=_;unfold ZaJ;rw[Zqa ct]
    have ci:=Lib.hid (And.intro ar DD.out);clear ar ct DD;go_wp2_with fail;go_roundg (8-(k+1))
    case measure=>have:=J.out.2.2.2.2;omega
    case rel=>exact⟨k+1,(L,Q,P),_,_,_,rfl,rfl,rfl,by push_cast;rfl,by have:=J.out.2.2.2.2;omega,rfl,ci.out.1,ci.out.2⟩
   ·have aq:i<L.length:=by
     rcases Nat.lt_or_ge i L.length with q|q
     ·exact q
     ·rw[List.getElem?_eq_none q]at ht;cases ht
    obtain⟨g,G,rfl,bq,cs,dy,cr⟩:=DD.out.l.form (by omega);obtain⟨va,hr,cu,d0,d1,d2,_,_,_⟩:=DD.out.l.cells ht;have Z:=J.out.2.2.2.1.l t (List.mem_of_getElem? ht);have c4:(atL t.1 k).1≠0:=by unfold Zbb at hp;simpa using hp
    have cy:ZaJ (L,Q,P) k=if(ZL t k).2.2=0 then(Zah (ZO ((ZL t k).1,(ZL t k).2.1) k) (L.eraseIdx i)).bind fun l=>(Zah (ZO ((ZL t k).1,(ZL t k).2.1) k) Q).map fun q=>(l,q++[((ZL t k).1,(ZL t k).2.1)],P++[(k:Int)])else Yb:=by unfold ZaJ;rw[Zlo ht hp cz];dsimp only;rw[ht,Option.bind_some]
    have dv:∀(E:Yh),Za E va t.1->Calls Tryz.prog 108 #[.agg #[va,Yd Yf t.2.1,Yd Yf t.2.2],Yd Yf k] E (ZaQ E (ZL t k).1 (ZL t k).2.1 (ZL t k).2.2):=fun E h=>Zms E va t.1 t.2 k h Z.ok.wide Z.k.wide (Z.ok.at k) c4;have DS:DivS w w3 (Yc (Ya ⟨g,0,Yb⟩) L.length G) T R L Q P b8 k g i va t:=⟨DD.out,J.out.1,hr,d0,d1,d2⟩
    have hd:=Zg3 Z hp;have ac:Zaz ts (k+1)=ZaJ (L,Q,P) k:=by rw[Zaz,J.out.2.2.1];rfl
    rw[cy]at ac;generalize ZL t k=z at *;obtain⟨M,⟨U,V⟩,er⟩:=z;obtain⟨A1,c1,rfl⟩:=Zc hr;obtain⟨t0,tn,td⟩:=t;dsimp only at *;have i2:(i:Int)<(L.length:Int):=by omega
    have i3:(0:Int)<=(i:Int):=by omega
    have i4:¬(i:Int)<0:=by omega
    have wi:IntKind.i64.wrap ((i:Int)+1)=(i:Int)+1:=IntWalk.i64_in _ (by unfold maxLen at cr;omega);have DV:=Lib.hid dv;have SK:=Lib.hid (And.intro ac (And.intro hd aq));have bj:=Lib.hid DS;clear hr cu d0 d1 d2 Z c4 cy dv hd ac hp cz ht DD aq bq cs dy cr DS;go_upto_region 11 with fail;go_cut [10,11]from 23 to 67 (fun eb ec wx=>ZkY w (Yc (Ya ⟨g,0,Yb⟩) L.length G) T R L Q P b8 k M U V er eb ec wx)
    case first=>
     have HS:=ZdU (Zn _) bj.out.cells;clear bj;refine wp_region_noPanic ?_;refine wp_region_held_drew (S:=(fun E=>((E.cell? ⟨b8,0,Yb⟩=Ya (Yd Yf k))/\E.cell? ⟨g,i*3,Yb⟩=Ya (Yc A1 t0.length c1)/\E.cell? ⟨g,i*3+1,Yb⟩=Ya (Yd Yf tn)/\E.cell? ⟨g,i*3+2,Yb⟩=Ya (Yd Yf td))/\DivS w E (Yc (Ya ⟨g,0,Yb⟩) L.length G) T R L Q P b8 k g i (Yc A1 t0.length c1) (t0,tn,td))) (by kernel_rfl) HS (fun d=>?_);clear HS;refine tk 0 rfl ?_;refine tk 1 rfl ?_;refine tk 2 rfl ?_;refine tk 3 rfl ?_;refine tk 4 rfl ?_;(try simp only[cl,Act.put]);refine wpAnyH_ready (rs:=[5,9]) (by kernel_rfl) (by simp) (AllReadyH.cons (o:=_) rfl (fun K m=>?_) (AllReadyH.cons (o:=_) rfl (fun K m=>?_) AllReadyH.nil))
     rotate_left
     go_simp
     (first|refine m.out _ _ (ZjY (by with_reducible assumption)) (fun f=>?_)|refine m.out _ _ (ZdU (below_alloc1 _ _) (by with_reducible assumption)) (fun f=>?_))
     clear m K
     (first|have HC:=Lib.hid (Zlm f)|have HC:=Lib.hid (Zj1 f))
     have I:=Lib.hid d;clear d;have d:=f;clear f;(try simp only[cl,Act.put]);refine rd 5 rfl fun K m=>?_
     rotate_right
     all_goals
      go_simp;(go_at_call 108;go_fit (DV.out _ (ZiS (by with_reducible assumption)).r);rintro e6 w6 ⟨v6,rfl,bu,O,bn⟩;obtain⟨A6,c6,rfl⟩:=Zc bu;(try (have HF:=Lib.hid (Off.fresh (l:=M) (S:=fun b=>b=_) bn (fun b q=>by rw[q];exact HC.out.F.lt));have HC:=Lib.hid (HC.out.keep O)));have HV:=Lib.hid (And.intro bu (Off.fresh (l:=M) bn (fun b q=>((ZiS d).sol.lt b q).2)));clear bu bn);go_wp2_with fail;refine m.out _ _ (ZdU (by with_reducible assumption) (by with_reducible assumption)) (fun f=>?_);clear m K d O;have d:=f;clear f;(try simp only[cl,Act.put])
     all_goals
      refine tk 6 rfl ?_;refine tk 7 rfl ?_;refine tk 8 rfl ?_;(try simp only[cl,Act.put])
     refine rd 9 rfl fun K m=>?_;go_simp
     (first|refine m.out _ _ (ZjY (by with_reducible assumption)) (fun f=>?_)|refine m.out _ _ (ZdU (below_alloc1 _ _) (by with_reducible assumption)) (fun f=>?_))
     clear m K
     (first|have HC:=Lib.hid (Zlm f)|have HC:=Lib.hid (Zj1 f))
     have I:=Lib.hid d;clear d;have d:=f;clear f;(try simp only[cl,Act.put])
     all_goals
      refine rd 10 rfl fun K m=>?_;obtain⟨⟨h0,h1,h2,h3,h4,h5,h6⟩,h7,h8⟩:=HC.out;clear h7 h8;go_simp;clear h0 h1 h2 h3 h4 h5 h6
      (first
       |refine m.out _ _ (ZdU (below_alloc1 _ _) I.out) (fun f=>?_)
       |refine m.out _ _ (ZdU (HC.out.fill _ _ _).1 I.out) (fun f=>?_))
      clear m K d;have d:=f;clear f;(try simp only[cl,Act.put]);refine tk 11 rfl ?_;(try simp only[cl,Act.put]);refine wpAnyH_done (by kernel_rfl) ?_ _;refine NoPanic.normal ?_;go_wp2_with fail;go_meet
      case rel=>first|exact ZoK (ZiS I.out) 37 HV.out.1 HV.out.2|exact Zp0 (ZiS I.out) HC.out HV.out.1 HV.out.2 HF.out
    case rest=>
     obtain⟨c,A6,d6,rfl,rfl,F6,r6,o6,D6,k6,n6⟩:=hcut;clear bj;by_cases he:er=0
     rotate_left
     ·have ne:(er != 0)=true:=by simpa using he
      have bt:=SK.out.1;rw[Yn he]at bt;have W:=Lib.hid (show Zbn w (Zy ts) (.returned (.tuple #[Yc Yb 0 0,Yc Yb 0 0,Yd Yf 2])) wc by rw[ZfC (by have:=J.out.2.2.2.2;omega) bt];exact Zb4 D6.below);clear F6 r6 o6 D6 k6 n6 he bt;go_wp2_with fail;go_ret3;exact W.out
     ·subst he;have aq:=SK.out.2.2;have cw:=SK.out.2.1 rfl;have ac:=SK.out.1;rw[Yo rfl]at ac;have so:=J.out.2.2.2.1;have j0:=F6.k0;have j1:=F6.k1;have j2:=F6.k2;have HH:=Lib.hid (And.intro aq (And.intro cw (And.intro ac so)));have ai:Hid (¬three (Yc (Ya ⟨g,0,Yb⟩) (L.length-1) G) T R c/\¬three (Yc (Ya ⟨g,0,Yb⟩) (L.length-1) G) T R b8):=⟨n6,J.out.2.1⟩
      have M6:=Lib.hid (And.intro D6 (And.intro F6 (And.intro r6 (And.intro o6 (And.intro n6 k6)))));clear SK aq cw ac so D6 F6 r6 o6 n6;have ba:=Lib.hid (ZmS _ _ _ _ _ _ _ _ M6.out.1.l (Or.inl rfl) HH.out.1);have cf:=Lib.hid (fun(E:Yh) (D:SolS w E (Yc (Ya ⟨g,0,Yb⟩) (L.length-1) G) T R (L.eraseIdx i) Q P) (r:Za E (Yc A6 M.length d6) M) (o:Off (three (Yc (Ya ⟨g,0,Yb⟩) (L.length-1) G) T R) (Yc A6 M.length d6) M)=>Zjx E (three (Yc (Ya ⟨g,0,Yb⟩) (L.length-1) G) T R) (Yc A6 M.length d6) (M,U,V) k r o (fun b q=>(D.lt b q).2))
      go_upto_region 16 with(first
       |(go_at_call 109;go_loud (go_fit ba.out;rintro e7 w7 ⟨rfl,l7,g7⟩;have D7:=M6.out.1.left l7 g7 rfl;have F7:=M6.out.2.1.grown g7 (fun e=>M6.out.2.2.2.2.1 (Or.inl e));have r7:=M6.out.2.2.1.off M6.out.2.2.2.1 g7 (fun b e=>Or.inl e);have k7:=g7.cell M6.out.2.2.2.2.2 (fun e=>J.out.2.1 (Or.inl e.symm));have o7:Off (three (Yc (Ya ⟨g,0,Yb⟩) (L.length-1) G) T R) (Yc A6 M.length d6) M:=M6.out.2.2.2.1;clear j0 j1 j2 k6;have j0:=F7.k0;have j1:=F7.k1;have j2:=F7.k2;have M7:=Lib.hid (And.intro D7 (And.intro F7 (And.intro r7 (And.intro o7 k7))));clear l7 g7 D7 F7 r7 o7 M6))
       |(go_at_call 110;go_fit (cf.out _ M7.out.1 M7.out.2.2.1 M7.out.2.2.2.1);rintro e8 w8 ⟨b,bp,rfl,E8,ap⟩;have M8:=Lib.hid (And.intro (M7.out.1.keep ap) (And.intro (M7.out.2.1.keep ap) (And.intro (M7.out.2.2.1.below ap) (And.intro M7.out.2.2.2.1 (Zd ap (World.block_lt_of_cell? _ _ M7.out.2.2.2.2) M7.out.2.2.2.2)))));have E8:=Lib.hid E8;clear ap M7 j0 j1 j2 k7))
      have ag:∀u∈L.eraseIdx i,TrmOk u:=fun u hu=>HH.out.2.2.2.l u (List.mem_of_mem_eraseIdx hu);have bl:=Lib.hid (fun(h:Zaz ts (k+1)=Yb) (E:Yh) (O:Below w.heap.size w E)=>show Zbn w (Zy ts) (.returned (.tuple #[Yc Yb 0 0,Yc Yb 0 0,Yd Yf 2])) E by rw[ZfC (by have:=J.out.2.2.2.2;omega) h];exact Zb4 O);cases hm1:Zah (ZO (M,U,V) k) (L.eraseIdx i)with
      |none=>
       have W:=Lib.hid (bl.out (by rw[HH.out.2.2.1,hm1];rfl));have RN:=Lib.hid (Zi8 hm1 M8.out.1.l (fun _ q=>Or.inl q) (fun b q=>(M8.out.1.lt b q).2) ag HH.out.2.1 E8.out);clear hm1 ag;go_wp2_with (go_at_call 111;go_fit RN.out;rintro e9 w9 ⟨z,hz,rfl,g9⟩);go_ret3;exact W.out _ (M8.out.1.below.grown g9 M8.out.1.below.size (fun b q=>(M8.out.1.lt b (Or.inl q)).1))
      |some l'=>
       have RY:=Lib.hid (Zh7 hm1 M8.out.1.l (fun _ q=>Or.inl q) (fun b q=>(M8.out.1.lt b q).2) ag HH.out.2.1 E8.out);clear ag;cases hm2:Zah (ZO (M,U,V) k) Q with
       |none=>
        have W:=Lib.hid (bl.out (by rw[HH.out.2.2.1,hm1,hm2];rfl));have RN:=Lib.hid (fun(w9:Yh) (D9:SolS w w9 (Yc (Ya ⟨g,0,Yb⟩) (L.length-1) G) T R l' Q P) (E9:ElimIn w9 (three (Yc (Ya ⟨g,0,Yb⟩) (L.length-1) G) T R) b bp (Yc A6 M.length d6) (M,U,V) k)=>Zi8 hm2 D9.s (fun _ q=>Or.inr (Or.inl q)) (fun b q=>(D9.lt b q).2) HH.out.2.2.2.q HH.out.2.1 E9);clear hm1 hm2
        go_wp2_with (go_at_call 111;(first
         |go_fit RY.out;rintro e9 w9 ⟨rfl,l9,g9⟩;have D9:=Lib.hid (M8.out.1.left l9 g9 rfl);have E9:=Lib.hid (E8.out.grown g9 (fun b q=>Or.inl q));clear l9 g9
         |go_fit (RN.out _ D9.out E9.out);rintro dt ak ⟨z,hz,rfl,ab⟩))
        go_ret3;exact W.out _ (D9.out.below.grown ab D9.out.below.size (fun b q=>(D9.out.lt b (Or.inr (Or.inl q))).1))
       |some q'=>
        have ar:Zaz ts (k+1)=Ya (l',q'++[(M,U,V)],P++[(k:Int)]):=by rw[HH.out.2.2.1,hm1,hm2];rfl
        have R2:=Lib.hid (fun(w9:Yh) (D9:SolS w w9 (Yc (Ya ⟨g,0,Yb⟩) (L.length-1) G) T R l' Q P) (E9:ElimIn w9 (three (Yc (Ya ⟨g,0,Yb⟩) (L.length-1) G) T R) b bp (Yc A6 M.length d6) (M,U,V) k)=>Zh7 hm2 D9.s (fun _ q=>Or.inr (Or.inl q)) (fun b q=>(D9.lt b q).2) HH.out.2.2.2.q HH.out.2.1 E9);have cx:q'.length+1<=1000:=by have h1:=Zc0 hm2;have h2:Q.length=P.length:=HH.out.2.2.2.ql;have h3:P.length<=k:=HH.out.2.2.2.k;have h4:=J.out.2.2.2.2;omega
        have am:=Lib.hid (And.intro ar cx);clear hm1 hm2 ar cx
        go_upto_region 18 with(go_at_call 111;(first
         |go_fit RY.out;rintro e9 w9 ⟨rfl,l9,g9⟩;have D9:=Lib.hid (M8.out.1.left l9 g9 rfl);have E9:=Lib.hid (E8.out.grown g9 (fun b q=>Or.inl q));have M9:=Lib.hid (And.intro (M8.out.2.1.grown g9 (fun e=>ai.out.1 (Or.inl e))) (And.intro (M8.out.2.2.1.off M8.out.2.2.2.1 g9 (fun b e=>Or.inl e)) (g9.cell M8.out.2.2.2.2 (fun e=>ai.out.2 (Or.inl e.symm)))));clear l9 g9
         |go_fit (R2.out _ D9.out E9.out);rintro dt ak ⟨rfl,c7,ab⟩;have ay:=Lib.hid (D9.out.sel c7 ab rfl);have a1:=Lib.hid (And.intro (M9.out.1.grown ab (fun e=>ai.out.1 (Or.inr (Or.inl e)))) (And.intro (M9.out.2.1.off M8.out.2.2.2.1 ab (fun b e=>Or.inr (Or.inl e))) (ab.cell M9.out.2.2 (fun e=>ai.out.2 (Or.inr (Or.inl e.symm))))));clear c7 ab))
        have bm:=Lib.hid (And.intro (fun b q=>(ay.out.lt b (Or.inr (Or.inl q))).2:∀b,T.ownBlock=Ya b->b<ak.heap.size) (fun b q=>(ay.out.lt b (Or.inr (Or.inr q))).2:∀b,R.ownBlock=Ya b->b<ak.heap.size));have ce:CelS ak (three (Yc (Ya ⟨g,0,Yb⟩) (L.length-1) G) T R) c b8 A6 d6 M U V k ak.heap.size:=⟨a1.out.1,a1.out.2.2,a1.out.2.1,M8.out.2.2.2.1,ai.out.1,ai.out.2,Nat.le_refl _⟩
        have ao:=Lib.hid (fun(u:Yi) (hu:u∈[Value.slice A6 M.length d6,Yd Yf U,Yd Yf V])=>(by simp at hu;rcases hu with rfl|rfl|rfl<;>rfl:u.oneCell'=true));have an:=Lib.hid (fun(u:Yi) (hu:u∈[Value.int Yf (k:Int)])=>(by simp at hu;rw[hu];rfl:u.oneCell'=true));have LQ:=Lib.hid (And.intro (by have:=am.out.2;unfold maxLen;omega:q'.length+1<=maxLen) (by have:=am.out.2;omega:(q'.length+1)*40<=140737488355328));have dz:P.length<=8:=by have h3:P.length<=k:=HH.out.2.2.2.k;have:=J.out.2.2.2.2;omega
        have LP:=Lib.hid (And.intro (by unfold maxLen;omega:P.length+1<=maxLen) (by omega:(P.length+1)*8<=140737488355328));clear dz;have HS:=ZdT (Zn _) ce.cells;have B:=Lib.hid (ay.out.keep (Zn _));clear ce M8 D9 ay M9 a1 E8 E9 RY R2 bl ba cf i2 i3 i4 wi;refine wp_region_noPanic ?_;refine wp_region_held_drew (S:=(fun E=>(E.cell? ⟨c,0,Yb⟩=Ya (Yc A6 M.length d6)/\E.cell? ⟨c,1,Yb⟩=Ya (Yd Yf U)/\E.cell? ⟨c,2,Yb⟩=Ya (Yd Yf V)/\E.cell? ⟨b8,0,Yb⟩=Ya (Yd Yf k))/\CelS E (three (Yc (Ya ⟨g,0,Yb⟩) (L.length-1) G) T R) c b8 A6 d6 M U V k ak.heap.size)) (by kernel_rfl) HS (fun d=>?_);clear HS;refine tk 0 rfl ?_;refine tk 1 rfl ?_;refine tk 4 rfl ?_;refine tk 5 rfl ?_;(try simp only[cl,Act.put]);refine wpAnyH_ready (rs:=[2,6]) (by kernel_rfl) (by simp) ?_;refine AllReadyH.cons (o:=_) rfl (fun K m=>?_) ?_
        ·go_simp
         (first|refine m.out _ _ (Zei (by with_reducible assumption)) (fun f=>?_)|refine m.out _ _ (ZdT (below_alloc1 _ _) (by with_reducible assumption)) (fun f=>?_))
         (first|have B:=Lib.hid (Zf0 f B.out)|have B:=Lib.hid (Zhp f B.out))
         (try (first|have N:=Lib.hid (ZeZ f N.out)|have N:=Lib.hid (ZfV f N.out)))
         (first|have Y:=ZfU f (Zb1 d).sz|have Y:=Zhk f (Zb1 d).sz)
         (try rw[World.size_alloc]at Y);have X:=Lib.hid Y;clear Y;clear m K d;have d:=f;clear f;(try simp only[cl,Act.put]);refine wpAnyH_ready (rs:=[3,6]) (by kernel_rfl) (by simp) ?_;refine AllReadyH.cons (o:=_) rfl (fun K m=>?_) ?_
         ·obtain⟨au,q1,q2,q3⟩:=B.out.s;refine ZQ _ rfl _ _ 102 rfl w.heap.size 37 iT (.agg #[Yc Yb 0 0,Yd Yf 0,Yd Yf 0]) 3 40 Tryz.underlying102 bs b1 b3 b4 rfl (by decide) _ q'.length (Ze au) rfl q2 _ (Ya _) 1 1 [Yc A6 M.length d6,Yd Yf U,Yd Yf V] rfl (X.out.reads rfl) ao.out LQ.out.1 LQ.out.2 B.out.below.size (fun c8 db y j C=>?_);have B:=Lib.hid (B.out.push (t:=(M,U,V)) q1 q3 y j C (Zb1 d).r (Zb1 d).off);(try have N:=Lib.hid (N.out.grown j bm.out.1));refine m.out _ _ (Zds j (fun b q=>Or.inr (Or.inl q)) d) (fun f=>?_);clear m K d y j C q1 q2 q3 X;have d:=f;clear f;(try simp only[cl,Act.put]);refine rd 6 rfl fun K m=>?_;go_simp
          (first|refine m.out _ _ (Zei (by with_reducible assumption)) (fun f=>?_)|refine m.out _ _ (ZdT (below_alloc1 _ _) (by with_reducible assumption)) (fun f=>?_))
          (first|have B:=Lib.hid (Zf0 f B.out)|have B:=Lib.hid (Zhp f B.out))
          (try (first|have X:=Lib.hid (ZeZ f X.out)|have X:=Lib.hid (ZfV f X.out)))
          (first|have H:=ZfU f (Zb1 d).sz|have H:=Zhk f (Zb1 d).sz)
          (try rw[World.size_alloc]at H);have N:=Lib.hid H;clear H;clear m K d;have d:=f;clear f;(try simp only[cl,Act.put]);refine rd 7 rfl fun K m=>?_;refine ZQ _ rfl _ _ 105 rfl w.heap.size 3 iI (Yd Yf 0) 1 8 Tryz.underlying105 br bx bz b0 rfl (by decide) _ P.length (ZbT P) rfl B.out.p _ (Ya _) 1 1 [Yd Yf k] rfl (N.out.reads rfl) an.out LP.out.1 LP.out.2 B.out.below.size (fun c9 dc y j C=>?_);have B:=Lib.hid (B.out.pushp (x:=(k:Int)) y j C);refine m.out _ _ (Zds j (fun b q=>Or.inr (Or.inr q)) d) (fun f=>?_);clear m K d y j C N;have d:=f;clear f;(try simp only[cl,Act.put]);refine tk 8 rfl ?_;refine tk 9 rfl ?_;(try simp only[cl,Act.put]);refine wpAnyH_done (by kernel_rfl) ?_ _;refine NoPanic.normal ?_;go_wp2_with fail;go_roundg (8-(k+1))
          case measure=>have:=J.out.2.2.2.2;omega
          case rel=>exact⟨k+1,(l',q'++[(M,U,V)],P++[(k:Int)]),_,_,_,rfl,rfl,rfl,by push_cast;rfl,by have:=J.out.2.2.2.2;omega,rfl,am.out.1,B.out⟩
         refine AllReadyH.cons (o:=_) rfl (fun K m=>?_) AllReadyH.nil;go_simp
         (first|refine m.out _ _ (Zei (by with_reducible assumption)) (fun f=>?_)|refine m.out _ _ (ZdT (below_alloc1 _ _) (by with_reducible assumption)) (fun f=>?_))
         (first|have B:=Lib.hid (Zf0 f B.out)|have B:=Lib.hid (Zhp f B.out))
         (try (first|have X:=Lib.hid (ZeZ f X.out)|have X:=Lib.hid (ZfV f X.out)))
         (first|have H:=ZfU f (Zb1 d).sz|have H:=Zhk f (Zb1 d).sz)
         (try rw[World.size_alloc]at H);have N:=Lib.hid H;clear H;clear m K d;have d:=f;clear f;(try simp only[cl,Act.put]);refine rd 3 rfl fun K m=>?_;obtain⟨au,q1,q2,q3⟩:=B.out.s;refine ZQ _ rfl _ _ 102 rfl w.heap.size 37 iT (.agg #[Yc Yb 0 0,Yd Yf 0,Yd Yf 0]) 3 40 Tryz.underlying102 bs b1 b3 b4 rfl (by decide) _ q'.length (Ze au) rfl q2 _ (Ya _) 1 1 [Yc A6 M.length d6,Yd Yf U,Yd Yf V] rfl (X.out.reads rfl) ao.out LQ.out.1 LQ.out.2 B.out.below.size (fun c8 db y j C=>?_);have B:=Lib.hid (B.out.push (t:=(M,U,V)) q1 q3 y j C (Zb1 d).r (Zb1 d).off);(try have N:=Lib.hid (N.out.grown j bm.out.1));refine m.out _ _ (Zds j (fun b q=>Or.inr (Or.inl q)) d) (fun f=>?_);clear m K d y j C q1 q2 q3 X;have d:=f;clear f;(try simp only[cl,Act.put]);refine rd 7 rfl fun K m=>?_;refine ZQ _ rfl _ _ 105 rfl w.heap.size 3 iI (Yd Yf 0) 1 8 Tryz.underlying105 br bx bz b0 rfl (by decide) _ P.length (ZbT P) rfl B.out.p _ (Ya _) 1 1 [Yd Yf k] rfl (N.out.reads rfl) an.out LP.out.1 LP.out.2 B.out.below.size (fun c9 dc y j C=>?_);have B:=Lib.hid (B.out.pushp (x:=(k:Int)) y j C);refine m.out _ _ (Zds j (fun b q=>Or.inr (Or.inr q)) d) (fun f=>?_);clear m K d y j C N;have d:=f;clear f;(try simp only[cl,Act.put]);refine tk 8 rfl ?_;refine tk 9 rfl ?_;(try simp only[cl,Act.put]);refine wpAnyH_done (by kernel_rfl) ?_ _;refine NoPanic.normal ?_;go_wp2_with fail;go_roundg (8-(k+1))
         case measure=>have:=J.out.2.2.2.2;omega
         case rel=>exact⟨k+1,(l',q'++[(M,U,V)],P++[(k:Int)]),_,_,_,rfl,rfl,rfl,by push_cast;rfl,by have:=J.out.2.2.2.2;omega,rfl,am.out.1,B.out⟩
        refine AllReadyH.cons (o:=_) rfl (fun K m=>?_) AllReadyH.nil;go_simp
        (first|refine m.out _ _ (Zei (by with_reducible assumption)) (fun f=>?_)|refine m.out _ _ (ZdT (below_alloc1 _ _) (by with_reducible assumption)) (fun f=>?_))
        (first|have B:=Lib.hid (Zf0 f B.out)|have B:=Lib.hid (Zhp f B.out))
        (try (first|have X:=Lib.hid (ZeZ f X.out)|have X:=Lib.hid (ZfV f X.out)))
        (first|have H:=ZfU f (Zb1 d).sz|have H:=Zhk f (Zb1 d).sz)
        (try rw[World.size_alloc]at H);have N:=Lib.hid H;clear H;clear m K d;have d:=f;clear f;(try simp only[cl,Act.put]);refine rd 2 rfl fun K m=>?_;go_simp
        (first|refine m.out _ _ (Zei (by with_reducible assumption)) (fun f=>?_)|refine m.out _ _ (ZdT (below_alloc1 _ _) (by with_reducible assumption)) (fun f=>?_))
        (first|have B:=Lib.hid (Zf0 f B.out)|have B:=Lib.hid (Zhp f B.out))
        (try (first|have N:=Lib.hid (ZeZ f N.out)|have N:=Lib.hid (ZfV f N.out)))
        (first|have Y:=ZfU f (Zb1 d).sz|have Y:=Zhk f (Zb1 d).sz)
        (try rw[World.size_alloc]at Y);have X:=Lib.hid Y;clear Y;clear m K d;have d:=f;clear f;(try simp only[cl,Act.put]);refine rd 3 rfl fun K m=>?_;obtain⟨au,q1,q2,q3⟩:=B.out.s;refine ZQ _ rfl _ _ 102 rfl w.heap.size 37 iT (.agg #[Yc Yb 0 0,Yd Yf 0,Yd Yf 0]) 3 40 Tryz.underlying102 bs b1 b3 b4 rfl (by decide) _ q'.length (Ze au) rfl q2 _ (Ya _) 1 1 [Yc A6 M.length d6,Yd Yf U,Yd Yf V] rfl (X.out.reads rfl) ao.out LQ.out.1 LQ.out.2 B.out.below.size (fun c8 db y j C=>?_);have B:=Lib.hid (B.out.push (t:=(M,U,V)) q1 q3 y j C (Zb1 d).r (Zb1 d).off);(try have N:=Lib.hid (N.out.grown j bm.out.1));refine m.out _ _ (Zds j (fun b q=>Or.inr (Or.inl q)) d) (fun f=>?_);clear m K d y j C q1 q2 q3 X;have d:=f;clear f;(try simp only[cl,Act.put]);refine rd 7 rfl fun K m=>?_;refine ZQ _ rfl _ _ 105 rfl w.heap.size 3 iI (Yd Yf 0) 1 8 Tryz.underlying105 br bx bz b0 rfl (by decide) _ P.length (ZbT P) rfl B.out.p _ (Ya _) 1 1 [Yd Yf k] rfl (N.out.reads rfl) an.out LP.out.1 LP.out.2 B.out.below.size (fun c9 dc y j C=>?_);have B:=Lib.hid (B.out.pushp (x:=(k:Int)) y j C);refine m.out _ _ (Zds j (fun b q=>Or.inr (Or.inr q)) d) (fun f=>?_);clear m K d y j C N;have d:=f;clear f;(try simp only[cl,Act.put]);refine tk 8 rfl ?_;refine tk 9 rfl ?_;(try simp only[cl,Act.put]);refine wpAnyH_done (by kernel_rfl) ?_ _;refine NoPanic.normal ?_;go_wp2_with fail;go_roundg (8-(k+1))
        case measure=>have:=J.out.2.2.2.2;omega
        case rel=>exact⟨k+1,(l',q'++[(M,U,V)],P++[(k:Int)]),_,_,_,rfl,rfl,rfl,by push_cast;rfl,by have:=J.out.2.2.2.2;omega,rfl,am.out.1,B.out⟩
theorem ZnE (w:Yh) (v:Yi) (ts:List Trm) (h:Zai w v ts) (b:∀t∈ts,Zz t.1/\Bd t.2):Calls Tryz.prog 70 #[v] w (Zbn w (Zy ts)):=by
 by_cases a:ts.length<=400/\ts.any ZT=false
 ·exact ZoW w v ts h b a
 ·exact ZnF w v ts h b a
end
end Go.Proofs.YtbfnnolakggbfaaGreatDoor
