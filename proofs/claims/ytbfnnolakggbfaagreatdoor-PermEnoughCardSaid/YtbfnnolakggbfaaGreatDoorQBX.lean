import Derived.Deep.DeepFit
import Derived.Test.YtbfnnolakggbfaaGreatDoorQAK
set_option maxRecDepth 100000
set_option maxHeartbeats 8000000
open Option renaming some → Ya, none → Yb
open Go.Value renaming int → Yd
open Go.IntKind renaming i64 → Yf
open Go.Obj renaming cells → Yg
open Go renaming World → Yh
open Go.RowKit
namespace Go.Proofs.YtbfnnolakggbfaaGreatDoor
theorem Zo3 (a b:Nat) (c:a<5) (d:b<5) (w:Yh) (f:ZcO w) :
  Calls Tryz.prog 22 #[Yd Yf a,Yd Yf b] w fun e w'=>e=.returned (.tuple #[Yd Yf (Zfl a b),.bool (Zfl a b != -1)])/\w'=w:=by
 have hc:=f.2 a b c d;have i:=fun k=>ZeC k w;clear f;have g:a=0\/a=1\/a=2\/a=3\/a=4:=by omega
 have h:b=0\/b=1\/b=2\/b=3\/b=4:=by omega
 clear c d;rcases g with rfl|rfl|rfl|rfl|rfl<;>rcases h with rfl|rfl|rfl|rfl|rfl <;>
 ·(simp only[Zfl,Zdo,List.getD_cons_zero,List.getD_cons_succ,Nat.reduceMul,Nat.reduceAdd]at hc⊢
   go_enter Tryz.func22,Tryz.ntmps22
   go_wp2_with (go_at_call 17;go_fit (i _);rintro e j ⟨rfl,rfl⟩)
   exact bodyPost_ret (v:=.tuple #[_,_]) (by simp[results,Tryz.results22,go_sem]<;>exact⟨rfl,rfl⟩) rfl ⟨rfl,rfl⟩)
theorem Zi0 (k p:Int) (h:¬(0<=k/\k<5)\/((0<=k/\k<5)/\¬(0<=p/\p<5))) (w:Yh) :
  Calls Tryz.prog 22 #[Yd Yf k,Yd Yf p] w fun e w'=>e=.returned (.tuple #[Yd Yf (-1),.bool false])/\w'=w:=by
 have b:=fun k=>ZeC k w;rcases h with h|⟨h,g⟩
 ·have a:(decide (0<=k)&&decide (k<5))=false:=by
   rcases Bool.eq_false_or_eq_true (decide (0<=k)&&decide (k<5))with q|q
   ·simp at q;exact absurd q h
   ·exact q
  have i1:=b k;rw[a]at i1;clear h a b;go_enter Tryz.func22,Tryz.ntmps22;go_wp2_with (go_at_call 17;go_fit i1;rintro e c ⟨rfl,rfl⟩);exact bodyPost_ret (v:=.tuple #[Yd Yf (-1),.bool false]) (by simp[results,Tryz.results22,go_sem]) rfl ⟨rfl,rfl⟩
 ·have i1:=b k;have i2:=b p;rw[show(decide (0<=k)&&decide (k<5))=true by simp;exact h]at i1;have a:(decide (0<=p)&&decide (p<5))=false:=by
   rcases Bool.eq_false_or_eq_true (decide (0<=p)&&decide (p<5))with q|q
   ·simp at q;exact absurd q g
   ·exact q
  rw[a]at i2;clear h a b g;go_enter Tryz.func22,Tryz.ntmps22;go_wp2_with (go_at_call 17;(first|with_reducible refine i1.mono ?_|with_reducible refine i2.mono ?_);rintro e c ⟨rfl,rfl⟩);exact bodyPost_ret (v:=.tuple #[Yd Yf (-1),.bool false]) (by simp[results,Tryz.results22,go_sem]) rfl ⟨rfl,rfl⟩
theorem ZnN (k p:Int) (w:Yh) (a:ZcO w) :
  Calls Tryz.prog 22 #[Yd Yf k,Yd Yf p] w fun e w'=>e=.returned (.tuple #[Yd Yf (ZdM k p),.bool (ZdM k p != -1)])/\w'=w:=by
 by_cases h:0<=k/\k<5
 ·by_cases g:0<=p/\p<5
  ·have:=Zo3 k.toNat p.toNat (by omega) (by omega) w a;rw[Int.toNat_of_nonneg h.1,Int.toNat_of_nonneg g.1]at this;rw[show ZdM k p=Zfl k.toNat p.toNat by unfold ZdM;rw[Yo ⟨h.1,h.2,g.1,g.2⟩]];exact this
  ·have:=Zi0 k p (.inr ⟨h,g⟩) w;rw[show ZdM k p=-1 by unfold ZdM;rw[Yn (fun q=>g ⟨q.2.2.1,q.2.2.2⟩)]];exact this
 ·have:=Zi0 k p (.inl h) w;rw[show ZdM k p=-1 by unfold ZdM;rw[Yn (fun q=>h ⟨q.1,q.2.1⟩)]];exact this
def Zg9 (k p:Int):Bool:=(k==0)&&(p != 3)
theorem ZoV (k n d r s p:Int) (w:Yh):Calls Tryz.prog 39 #[Zb3 k n d r s,Yd Yf p] w fun e w'=>e=.returned (.bool (Zg9 k p))/\Below w.heap.size w w':=by
 have a:=below_alloc1 w (.cells (Zay k n d r s) 26);unfold Zg9;cases hk:k==0
 ·go_enter Tryz.func39,Tryz.ntmps39;go_wp2_with fail;go_ret;exact⟨rfl,a⟩
 ·cases hp:p != 3
  ·go_enter Tryz.func39,Tryz.ntmps39;go_wp2_with fail;go_ret;exact⟨rfl,a⟩
  ·go_enter Tryz.func39,Tryz.ntmps39;go_wp2_with fail;go_ret;exact⟨rfl,a⟩
def ZkV (k s p i:Int):Int:=if Zg9 k p then i else s
def ZnM (k p i:Int):Bool:=if Zg9 k p then i != 0 else i==0
theorem Zqg (k n d r s p i:Int) (w:Yh):Calls Tryz.prog 23 #[Zb3 k n d r s,Yd Yf p,.int .u32 i] w fun e w'=>e=.returned (.tuple #[.int .u32 (ZkV k s p i),.bool (ZnM k p i)])/\Below w.heap.size w w':=by
 have a:=below_alloc1 w (.cells (Zay k n d r s) 26);have f:=fun w=>ZoV k n d r s p w;have h:=Blk.start w (Zay k n d r s) 26;unfold ZkV ZnM;cases hg:Zg9 k p<;>simp only[hg]at f
 ·simp only[Bool.false_eq_true,if_false];generalize l:(i==0)=I at *;go_enter Tryz.func23,Tryz.ntmps23;go_wp2_with (go_at_call 39;go_fit (f _);rintro e g ⟨rfl,b⟩;have j:=h.keep b;have c3:g.cell? ⟨w.heap.size,4,Yb⟩=Ya (.int .u32 s):=j.cell 4;have c:=zh (a.trans (b.mono a.size)));exact bodyPost_ret (v:=.tuple #[.int .u32 s,.bool I]) (by simp[results,Tryz.results23,go_sem]) rfl ⟨rfl,c.out⟩
 ·simp only[if_true];generalize l:(i != 0)=I at *;go_enter Tryz.func23,Tryz.ntmps23;go_wp2_with (go_at_call 39;go_fit (f _);rintro e g ⟨rfl,b⟩;have c:=zh (a.trans (b.mono a.size)));exact bodyPost_ret (v:=.tuple #[.int .u32 i,.bool I]) (by simp[results,Tryz.results23,go_sem]) rfl ⟨rfl,c.out⟩
theorem Zrh:Valid 0 1:=⟨by decide,by decide,by decide,by decide⟩
theorem ZkW:Valid 1 1:=⟨by decide,by decide,by decide,by decide⟩
theorem ZoY {w c d:Yh} {x y:Value} (e:Below c.heap.size c d)
  (h:(c.cell? ⟨w.heap.size,0,Yb⟩=Ya x/\c.cell? ⟨w.heap.size,1,Yb⟩=Ya y)/\w.heap.size<c.heap.size/\Below w.heap.size w c) :
  (d.cell? ⟨w.heap.size,0,Yb⟩=Ya x/\d.cell? ⟨w.heap.size,1,Yb⟩=Ya y)/\w.heap.size<d.heap.size/\Below w.heap.size w d:=by
 obtain⟨⟨a,b⟩,g,k⟩:=h;have f:=e.size;exact⟨⟨Zd e g a,Zd e g b⟩,by omega,k.trans (e.mono (by omega))⟩
theorem Zqv {x:Int} {y:Nat} (v:Valid x y) (h:0<x) (i:x<y) (w:Yh):Calls Tryz.prog 24 #[Zb x y] w fun e w'=>e=.returned (.bool true)/\Below w.heap.size w w':=by
 have c0:=fun w=>Zep v Zrh w;have c1:=fun w=>Zep v ZkW w;simp only[Int.natCast_one]at c0 c1;rw[show ZbY x 0 y 1=1 by unfold ZbY;rw[Yn (by omega),Yn (by omega)]]at c0;rw[show ZbY x 1 y 1=-1 by unfold ZbY;rw[Yo (by omega)]]at c1;have a:=fun w=>ZdH 0 w;have b:=fun w=>ZdH 1 w;have k:(((w.alloc (Yg #[Yd Yf x,Yd Yf y] 23)).drew.cell? ⟨w.heap.size,0,Yb⟩=Ya (Yd Yf x)/\(w.alloc (Yg #[Yd Yf x,Yd Yf y] 23)).drew.cell? ⟨w.heap.size,1,Yb⟩=Ya (Yd Yf y))/\w.heap.size<(w.alloc (Yg #[Yd Yf x,Yd Yf y] 23)).drew.heap.size/\Below w.heap.size w (w.alloc (Yg #[Yd Yf x,Yd Yf y] 23)).drew):=
  ⟨⟨by go_simp,by go_simp⟩,by simp,(below_alloc1 _ _).drew⟩
 have c:=zh c0;have d:=zh c1;have f:=zh a;have g:=zh b;clear c0 c1 a b h i v;go_enter Tryz.func24,Tryz.ntmps24;go_upto_region 1 with fail
 go_region_held3 (fun w'=>(w'.cell? ⟨w.heap.size,0,Yb⟩=Ya (Yd Yf x)/\w'.cell? ⟨w.heap.size,1,Yb⟩=Ya (Yd Yf y))/\w.heap.size<w'.heap.size/\Below w.heap.size w w')
  (first
   |with_reducible assumption
   |with_reducible exact ZoY (by with_reducible assumption) (by with_reducible assumption))
  (first
   |(go_at_call 12;(first|with_reducible refine(f.out _).mono ?_|with_reducible refine(g.out _).mono ?_);rintro e w' ⟨rfl,j⟩)
   |(go_at_call 40;(first|with_reducible refine(c.out _).mono ?_|with_reducible refine(d.out _).mono ?_);rintro e w' ⟨rfl,j⟩))
 go_wp2_with fail;go_ret;exact⟨rfl,(by with_reducible assumption:(_/\_)/\_/\Below w.heap.size w _).2.2⟩
theorem Zm6 (a x y k n d r s i u v E:Int) (g D:Nat) (w:Yh) (O:Blk w g (Zay k n d r s)) (P:Blk w D #[.int .u32 i])
  (Q:∀w,Calls Tryz.prog 26 #[Zb n d,Zb x y] w fun e w'=>e=.returned (.tuple #[Zb u v,Yd Yf E])/\Below w.heap.size w w') :
  Calls Tryz.prog 25 #[Yd Yf a,Zb x y,.pointer (Ya ⟨g,0,Yb⟩),.pointer (Ya ⟨D,0,Yb⟩)] w fun e w'=>e=.returned (.tuple #[Zb3 a u v r i,Yd Yf E])/\Below w.heap.size w w':=by
 have l:=below_alloc2 w (Yg #[Yd Yf x,Yd Yf y] 23) (.cells (Zay 0 0 0 0 0) 26);have j:=O.keep l;have L:=P.keep l;have B:Blk _ w.heap.size _:=(Blk.start w #[Yd Yf x,Yd Yf y] 23).keep (below_alloc1 _ (.cells (Zay 0 0 0 0 0) 26));have t:=Blk.start (w.alloc (Yg #[Yd Yf x,Yd Yf y] 23)) (Zay 0 0 0 0 0) 26;rw[show(w.alloc (Yg #[Yd Yf x,Yd Yf y] 23)).heap.size=w.heap.size+1 by simp]at t;generalize S:(w.alloc (Yg #[Yd Yf x,Yd Yf y] 23)).alloc (.cells (Zay 0 0 0 0 0) 26)=m at *;have Y:m.cell? ⟨g,1,Yb⟩=Ya (Yd Yf n):=j.cell 1;have Z:m.cell? ⟨g,2,Yb⟩=Ya (Yd Yf d):=j.cell 2;have r0:m.cell? ⟨w.heap.size,0,Yb⟩=Ya (Yd Yf x):=B.cell 0;have r1:m.cell? ⟨w.heap.size,1,Yb⟩=Ya (Yd Yf y):=B.cell 1;have H:=zh j;have I:=zh L;have G:=zh t;have z:=zh l;have J:=zh Q;clear O P Q j L B t l;go_enter Tryz.func25,Tryz.ntmps25;go_upto_region 2 with(go_at_call 26;go_fit (J.out _);rintro e o ⟨rfl,F⟩)
 have a3:=F.trans ((below_alloc1 o (Yg #[Yd Yf u,Yd Yf v] 23)).mono F.size);have K:=H.out.keep a3;have M:=I.out.keep a3;have b:=G.out.keep a3;have C:=Blk.start o #[Yd Yf u,Yd Yf v] 23;have A:=zh (z.out.trans (a3.mono z.out.size));clear H I G z J Y Z r0 r1 F a3;generalize o.heap.size=N at *;generalize o.alloc (Yg #[Yd Yf u,Yd Yf v] 23)=c at *;have u0:c.cell? ⟨N,0,Yb⟩=Ya (Yd Yf u):=C.cell 0;have u1:c.cell? ⟨N,1,Yb⟩=Ya (Yd Yf v):=C.cell 1;have p3:c.cell? ⟨g,3,Yb⟩=Ya (Yd Yf r):=K.cell 3;have s0:c.cell? ⟨D,0,Yb⟩=Ya (.int .u32 i):=M.cell 0;have z0:c.cell? ⟨w.heap.size+1,0,Yb⟩=Ya (Yd Yf 0):=b.cell 0;have f0:=b.free 0;have z1:c.cell? ⟨w.heap.size+1,1,Yb⟩=Ya (Yd Yf 0):=b.cell 1;have f1:=b.free 1;have z2:c.cell? ⟨w.heap.size+1,2,Yb⟩=Ya (Yd Yf 0):=b.cell 2;have f2:=b.free 2;have z3:c.cell? ⟨w.heap.size+1,3,Yb⟩=Ya (Yd Yf 0):=b.cell 3;have f3:=b.free 3;have z4:c.cell? ⟨w.heap.size+1,4,Yb⟩=Ya (.int .u32 0):=b.cell 4;have f4:=b.free 4;have f:=zh (((((b.set 0 (Yd Yf a)).set 1 (Yd Yf u)).set 2 (Yd Yf v)).set 3 (Yd Yf r)).set 4 (.int .u32 i));clear K M b C;go_wp2_with fail;have R:=zh (((((A.out.setCell (p:=⟨w.heap.size+1,0,Yb⟩) (by simp) (Yd Yf a)).setCell (p:=⟨w.heap.size+1,1,Yb⟩) (by simp) (Yd Yf u)).setCell (p:=⟨w.heap.size+1,2,Yb⟩) (by simp) (Yd Yf v)).setCell (p:=⟨w.heap.size+1,3,Yb⟩) (by simp) (Yd Yf r)).setCell (p:=⟨w.heap.size+1,4,Yb⟩) (by simp) (.int .u32 i));generalize((((c.setCell ⟨w.heap.size+1,0,Yb⟩ (Yd Yf a)).setCell ⟨w.heap.size+1,1,Yb⟩ (Yd Yf u)).setCell ⟨w.heap.size+1,2,Yb⟩ (Yd Yf v)).setCell ⟨w.heap.size+1,3,Yb⟩ (Yd Yf r)).setCell ⟨w.heap.size+1,4,Yb⟩ (.int .u32 i)=h at *;have T:h.cell? ⟨w.heap.size+1,0,Yb⟩=Ya (Yd Yf a):=f.out.cell 0;have U:h.cell? ⟨w.heap.size+1,1,Yb⟩=Ya (Yd Yf u):=f.out.cell 1;have V:h.cell? ⟨w.heap.size+1,2,Yb⟩=Ya (Yd Yf v):=f.out.cell 2;have W:h.cell? ⟨w.heap.size+1,3,Yb⟩=Ya (Yd Yf r):=f.out.cell 3;have X:h.cell? ⟨w.heap.size+1,4,Yb⟩=Ya (.int .u32 i):=f.out.cell 4;exact bodyPost_ret (v:=.tuple #[Zb3 a u v r i,Yd Yf E]) (by simp[results,Tryz.results25,go_sem,T,U,V,W,X]) rfl ⟨rfl,R.out⟩
def SpB (w a:Yh) (k n d r s x y:Int):Prop:=
 Blk a w.heap.size (Zay k n d r s)/\Blk a (w.heap.size+1) #[Yd Yf x,Yd Yf y]/\Blk a (w.heap.size+1+1) (Zay 0 0 0 0 0)/\Blk a (w.heap.size+1+1+1) (Zay 0 0 0 0 0)/\Below w.heap.size w a
theorem SpB.keep {w b c:Yh} {k n d r s x y:Int} (h:SpB w b k n d r s x y) (a:Below b.heap.size b c):SpB w c k n d r s x y:=
 ⟨h.1.keep a,h.2.1.keep a,h.2.2.1.keep a,h.2.2.2.1.keep a,h.2.2.2.2.trans (a.mono h.2.2.2.2.size)⟩
theorem SpB.start (w:Yh) (k n d r s x y:Int) (a b:TypeId) :
  SpB w ((((w.alloc (.cells (Zay k n d r s) a)).alloc (Yg #[Yd Yf x,Yd Yf y] b)).alloc (.cells (Zay 0 0 0 0 0) a)).alloc (.cells (Zay 0 0 0 0 0) a)) k n d r s x y:=by
 have t:=below_alloc1 w (.cells (Zay k n d r s) a);have h:(w.alloc (.cells (Zay k n d r s) a)).heap.size=w.heap.size+1:=by simp
 have u:=Blk.start w (Zay k n d r s) a;generalize w.alloc (.cells (Zay k n d r s) a)=c at *;have i:=below_alloc1 c (Yg #[Yd Yf x,Yd Yf y] b);have o:(c.alloc (Yg #[Yd Yf x,Yd Yf y] b)).heap.size=c.heap.size+1:=by simp
 have j:=Blk.start c #[Yd Yf x,Yd Yf y] b;generalize c.alloc (Yg #[Yd Yf x,Yd Yf y] b)=e at *;have g:=below_alloc1 e (.cells (Zay 0 0 0 0 0) a);have v:(e.alloc (.cells (Zay 0 0 0 0 0) a)).heap.size=e.heap.size+1:=by simp
 have l:=Blk.start e (Zay 0 0 0 0 0) a;generalize e.alloc (.cells (Zay 0 0 0 0 0) a)=p at *;have f:=below_alloc1 p (.cells (Zay 0 0 0 0 0) a);have m:=Blk.start p (Zay 0 0 0 0 0) a;rw[v,o,h]at m;rw[o,h]at l;rw[h]at j;exact⟨((u.keep i).keep g).keep f,(j.keep g).keep f,l.keep f,m,((t.trans (i.mono (by omega))).trans (g.mono (by omega))).trans (f.mono (by omega))⟩
theorem ZiE {w:Yh} {b:Nat} {a0 c a2 a3 a4:Value} (h:Blk w b #[a0,c,a2,a3,a4]) (v0 a v2 v3 v4:Value):Blk (((((w.setCell ⟨b,0,Yb⟩ (v0)).setCell ⟨b,1,Yb⟩ (a)).setCell ⟨b,2,Yb⟩ (v2)).setCell ⟨b,3,Yb⟩ (v3)).setCell ⟨b,4,Yb⟩ (v4)) b #[v0,a,v2,v3,v4]:=
 ((((h.set 0 v0).set 1 a).set 2 v2).set 3 v3).set 4 v4
theorem Zc3 {w:Yh} {b c:Nat} {d:Array Value} (h:Blk w c d) (a:b≠c) (v0 e v2 v3 v4:Value):Blk (((((w.setCell ⟨b,0,Yb⟩ (v0)).setCell ⟨b,1,Yb⟩ (e)).setCell ⟨b,2,Yb⟩ (v2)).setCell ⟨b,3,Yb⟩ (v3)).setCell ⟨b,4,Yb⟩ (v4)) c d:=
 ((((h.other (p:=⟨b,0,Yb⟩) a v0).other (p:=⟨b,1,Yb⟩) a e).other (p:=⟨b,2,Yb⟩) a v2).other (p:=⟨b,3,Yb⟩) a v3).other (p:=⟨b,4,Yb⟩) a v4
theorem ZcG {B b:Nat} {w d:Yh} (h:Below B w d) (a:B<=b) (v0 c v2 v3 v4:Value):Below B w (((((d.setCell ⟨b,0,Yb⟩ (v0)).setCell ⟨b,1,Yb⟩ (c)).setCell ⟨b,2,Yb⟩ (v2)).setCell ⟨b,3,Yb⟩ (v3)).setCell ⟨b,4,Yb⟩ (v4)):=
 ((((h.setCell (p:=⟨b,0,Yb⟩) a v0).setCell (p:=⟨b,1,Yb⟩) a c).setCell (p:=⟨b,2,Yb⟩) a v2).setCell (p:=⟨b,3,Yb⟩) a v3).setCell (p:=⟨b,4,Yb⟩) a v4
theorem ZaA {w:Yh} {b:Nat} {a0 a a2 a3 a4:Value} (h:Blk w b #[a0,a,a2,a3,a4]) :
  (w.cell? ⟨b,0,Yb⟩=Ya a0/\w.cell? ⟨b,1,Yb⟩=Ya a/\w.cell? ⟨b,2,Yb⟩=Ya a2/\w.cell? ⟨b,3,Yb⟩=Ya a3/\w.cell? ⟨b,4,Yb⟩=Ya a4) ∧
  w.frozen? ⟨b,0,Yb⟩=false/\w.frozen? ⟨b,1,Yb⟩=false/\w.frozen? ⟨b,2,Yb⟩=false/\w.frozen? ⟨b,3,Yb⟩=false/\w.frozen? ⟨b,4,Yb⟩=false:=
 ⟨⟨h.cell 0,h.cell 1,h.cell 2,h.cell 3,h.cell 4⟩,h.free 0,h.free 1,h.free 2,h.free 3,h.free 4⟩
abbrev ZeM (e:Int):Value:=.tuple #[Zb3 0 0 0 0 0,Zb3 0 0 0 0 0,Yd Yf e]
end Go.Proofs.YtbfnnolakggbfaaGreatDoor
