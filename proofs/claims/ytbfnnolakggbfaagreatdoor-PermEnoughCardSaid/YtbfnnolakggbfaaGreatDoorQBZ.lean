import Derived.Deep.DeepFit
import Derived.Test.YtbfnnolakggbfaaGreatDoorQBA
import Derived.Test.YtbfnnolakggbfaaGreatDoorQBK
import Derived.Test.YtbfnnolakggbfaaGreatDoorQBN
import Derived.Test.YtbfnnolakggbfaaGreatDoorQBU
import Derived.Test.YtbfnnolakggbfaaGreatDoorQBW
import Derived.Test.YtbfnnolakggbfaaGreatDoorQBY
set_option maxRecDepth 100000
set_option maxHeartbeats 8000000
open Option renaming some → Ya, none → Yb
open Go.Value renaming int → Yd, pointer → Ye
open Go.IntKind renaming i64 → Yf
open Go.Obj renaming cells → Yg
open Go renaming World → Yh
open Go.RowKit
namespace Go.Proofs.YtbfnnolakggbfaaGreatDoor
theorem Zri (w:Yh):Calls Tryz.prog 10 #[] w fun e w'=>e=.returned (Zb3 0 1 1 (-1) 0)/\Below w.heap.size w w':=by have a:=below_alloc1 w (.cells (Zay 0 0 0 0 0) 26);have f:=Blk.start w (Zay 0 0 0 0 0) 26;have j:=zh (fun w=>ZdH 1 w);generalize k:w.alloc (.cells (Zay 0 0 0 0 0) 26)=r at *;go_enter Tryz.func10,Tryz.ntmps10;go_wp2_with (go_at_call 12;go_fit (j.out _);rintro e s ⟨rfl,d⟩;have c:=f.keep d;have h:=a.trans (d.mono a.size);obtain⟨⟨z0,t,z2,z3,z4⟩,l,m,n,o,p⟩:=ZaA c;have g:=zh (ZiE c (Yd Yf 0) (Yd Yf 1) (Yd Yf 1) (Yd Yf (-1)) (.int .u32 0));have i:=zh (ZcG h (b:=w.heap.size) (Nat.le_refl _) (Yd Yf 0) (Yd Yf 1) (Yd Yf 1) (Yd Yf (-1)) (.int .u32 0)));obtain⟨⟨a0,a,a2,a3,a4⟩,_⟩:=ZaA g.out;exact bodyPost_ret (v:=Zb3 0 1 1 (-1) 0) (by simp[results,Tryz.results10,go_sem,a0,a,a2,a3,a4]) rfl ⟨rfl,i.out⟩
theorem ZhA:Valid 2 3:=⟨by decide,by decide,by decide,by decide⟩
theorem Zpc (w:Yh) (a:ZcO w):Calls Tryz.prog 9 #[Zb3 0 1 1 (-1) 0,Yd Yf 3,Zb 1 3,.int .u32 0] w fun e w'=>e=.returned (.tuple #[Zb3 3 2 3 (-1) 0,Zb3 3 1 3 (-1) 0,Yd Yf 0])/\Below w.heap.size w w':=
 Zok 0 1 1 (-1) 0 3 0 ZkX (by decide) (by decide) w a (by decide) (by decide) 2 1 3 0 2 3 0 (fun w=>Zo9 ZkW ZkX ZkX (by decide) w) (fun w=>Zr1 ZkW ZkX ZhA (by decide) w) (fun w=>Zo9 ZkW ZhA ZhA (by decide) w)
theorem Zmg (w:Yh) (g:ZcO w):Calls Tryz.prog 4 #[] w fun r w'=>r=.returned (.bool true)/\Below w.heap.size w w':=by
 have d:=zh (Zri w);have f:=zh (fun(w':Yh) (a:Below w.heap.size w w')=>Zpc w' (g.below a));clear g;go_enter Tryz.func4,Tryz.ntmps4
 go_upto_region 2 with(first
  |(go_at_call 10;go_fit d.out;rintro e i ⟨rfl,a⟩)
  |(go_at_call 9;go_fit (f.out _ a);rintro e h ⟨rfl,b⟩))
 have c:=zh (a.trans (b.mono a.size));clear d f a b;go_wp2_with fail;go_ret;exact⟨rfl,c.out.trans ((below_alloc2 h _ _).mono c.out.size)⟩
def plR (k n d r s b a c rd Z:Int) (T:List UInt8):Nat->Value->Yh->Prop
 |0,v,_=>v=.agg #[Yd Yf k,Yd Yf n,Yd Yf d,Yd Yf r,.int .u32 s]
 |1,v,_=>v=Zb b a
 |2,v,_=>v=Zb c rd
 |3,v,_=>v=Yd Yf Z
 |4,v,_=>v=.agg #[Yd Yf k,Yd Yf n,Yd Yf d,Yd Yf r,.int .u32 s]
 |5,v,_=>v=Zb b a
 |6,v,_=>v=Zb c rd
 |7,v,_=>v=Yd Yf Z
 |8,v,_=>v=.bool true
 |9,v,_=>v=.bool true
 |10,v,_=>v=.agg #[Yd Yf k,Yd Yf n,Yd Yf d,Yd Yf r,.int .u32 s]
 |11,v,_=>v=txt T
 |12,v,_=>v=.agg #[Yd Yf k,Yd Yf n,Yd Yf d,Yd Yf r,.int .u32 s]
 |13,v,_=>v=txt T
 |14,v,_=>v=.bool true
 |15,v,_=>v=.bool true
 |16,v,_=>v=.bool true
 |_,_,_=>True
theorem Zqw (k n d r s c b e rd Z:Int) (T:List UInt8):∀j v a f,Below a.heap.size a f->plR k n d r s c b e rd Z T j v a->plR k n d r s c b e rd Z T j v f
 |0,_,_,_,_,h=>h
 |1,_,_,_,_,h=>h
 |2,_,_,_,_,h=>h
 |3,_,_,_,_,h=>h
 |4,_,_,_,_,h=>h
 |5,_,_,_,_,h=>h
 |6,_,_,_,_,h=>h
 |7,_,_,_,_,h=>h
 |8,_,_,_,_,h=>h
 |9,_,_,_,_,h=>h
 |10,_,_,_,_,h=>h
 |11,_,_,_,_,h=>h
 |12,_,_,_,_,h=>h
 |13,_,_,_,_,h=>h
 |14,_,_,_,_,h=>h
 |15,_,_,_,_,h=>h
 |16,_,_,_,_,h=>h
 |_+17,_,_,_,_,_=>trivial
theorem Zsk:Zoy Zfw:=fun w v e l r h c a b d=>Zmu w v e l r h c a b d
theorem Zsi:Zm0 Zfw:=fun w v e l r h c a b d=>ZlP ZmM w v e l r h c a b d
theorem ZjF (w:Yh) (ht:PeTabs w) (k n d r s:Int) (N:-9223372036854775808<=n) (O:n<=9223372036854775807) (d1:-9223372036854775808<=d) (d2:d<=9223372036854775807) (r1:-9223372036854775808<=r) (r2:r<=9223372036854775807)
  (l u:Int) (a1:-9223372036854775808<=l) (a2:l<=9223372036854775807) (a3:-9223372036854775808<=u) (a4:u<=9223372036854775807) (m rd:Int) (b1:-9223372036854775808<=m) (K:m<=9223372036854775807) (L:-9223372036854775808<=rd) (M:rd<=9223372036854775807) :
  Calls Tryz.prog 3 #[.agg #[Yd Yf k,Yd Yf n,Yd Yf d,Yd Yf r,.int .u32 s],Zb l u,Zb m rd] w fun e w'=>e=.returned (.bool true)/\Below w.heap.size w w':=by
 have E:=zh (show Blk (((w.alloc (Yg #[Yd Yf k,Yd Yf n,Yd Yf d,Yd Yf r,.int .u32 s] 26)).alloc (Yg #[Yd Yf l,Yd Yf u] 23)).alloc (Yg #[Yd Yf m,Yd Yf rd] 23)) (w.heap.size+1+1) #[Yd Yf m,Yd Yf rd]by have:=Blk.start ((w.alloc (Yg #[Yd Yf k,Yd Yf n,Yd Yf d,Yd Yf r,.int .u32 s] 26)).alloc (Yg #[Yd Yf l,Yd Yf u] 23)) #[Yd Yf m,Yd Yf rd] 23;rw[World.size_alloc,World.size_alloc]at this;exact this);have f:=zh (show Blk (((w.alloc (Yg #[Yd Yf k,Yd Yf n,Yd Yf d,Yd Yf r,.int .u32 s] 26)).alloc (Yg #[Yd Yf l,Yd Yf u] 23)).alloc (Yg #[Yd Yf m,Yd Yf rd] 23)) w.heap.size #[Yd Yf k,Yd Yf n,Yd Yf d,Yd Yf r,.int .u32 s]from((Blk.start w _ _).keep (below_alloc1 _ _)).keep (below_alloc1 _ _));have D:=zh (show Blk (((w.alloc (Yg #[Yd Yf k,Yd Yf n,Yd Yf d,Yd Yf r,.int .u32 s] 26)).alloc (Yg #[Yd Yf l,Yd Yf u] 23)).alloc (Yg #[Yd Yf m,Yd Yf rd] 23)) (w.heap.size+1) #[Yd Yf l,Yd Yf u]by have:=(Blk.start (w.alloc (Yg #[Yd Yf k,Yd Yf n,Yd Yf d,Yd Yf r,.int .u32 s] 26)) #[Yd Yf l,Yd Yf u] 23).keep (below_alloc1 _ (Yg #[Yd Yf m,Yd Yf rd] 23));rw[World.size_alloc]at this;exact this);have A:=zh (show Below w.heap.size w (((w.alloc (Yg #[Yd Yf k,Yd Yf n,Yd Yf d,Yd Yf r,.int .u32 s] 26)).alloc (Yg #[Yd Yf l,Yd Yf u] 23)).alloc (Yg #[Yd Yf m,Yd Yf rd] 23))from((Below.refl _ _).alloc (Nat.le_refl _) _|>.alloc (by simp) _).alloc (by simp;omega) _);have AW:=zh (fun(w':Yh) (b:Below w.heap.size w w')=>Zmg w' (ht.rests.below b));have HT:=zh ht;have g:=zh (zi N (zi O (zi d1 (zi d2 (zi r1 (zi r2 (zi a1 (zi a2 (zi a3 (zi a4 (zi b1 (zi K (zi L M)))))))))))));clear ht N O d1 d2 r1 r2 a1 a2 a3 a4 b1 K L M;by_cases q:r < -1099511627776
 ·have e0:decide (r < -1099511627776)=true:=decide_eq_true q;clear q g HT E D;go_enter Tryz.func3,Tryz.ntmps3;go_upto_region 1 with fail;generalize(((w.alloc (Yg #[Yd Yf k,Yd Yf n,Yd Yf d,Yd Yf r,.int .u32 s] 26)).alloc (Yg #[Yd Yf l,Yd Yf u] 23)).alloc (Yg #[Yd Yf m,Yd Yf rd] 23))=a at *;have r3:=fun(w':Yh) (b:Below a.heap.size a w')=>show w'.cell? ⟨w.heap.size,3,Yb⟩=Ya (Yd Yf r)from(f.out.keep b).cell 3;have RR:=zh r3;clear r3
  go_wp2_with (first
   |(go_at_call 4;go_fit (AW.out _ A.out);rintro e w2 ⟨rfl,c⟩;have r3:=RR.out _ c;have A:=zh (A.out.trans (c.mono A.out.size)))
   |(go_at_call 4;go_fit (AW.out _ A.out);rintro e w2 ⟨rfl,c⟩;have A:=zh (A.out.trans (c.mono A.out.size))))
  go_ret;exact⟨rfl,A.out⟩
 have e0:decide (r < -1099511627776)=false:=decide_eq_false q;have SP:=zh (fun(w':Yh) (b:Below w.heap.size w w')=>Zpj w' (HT.out.below b) k n d r s g.out.1 g.out.2.1 g.out.2.2.1 g.out.2.2.2.1 (by omega) g.out.2.2.2.2.2.1);have SR:=zh (fun(w':Yh)=>Zpt w' k n d r s g.out.1 g.out.2.1 g.out.2.2.1 g.out.2.2.2.1 (by omega) g.out.2.2.2.2.2.1);have rr:r≠r-1:=by omega
 clear q rr HT;generalize Zgv k n d r=T at *;go_enter Tryz.func3,Tryz.ntmps3;go_upto_region 1 with fail;generalize(((w.alloc (Yg #[Yd Yf k,Yd Yf n,Yd Yf d,Yd Yf r,.int .u32 s] 26)).alloc (Yg #[Yd Yf l,Yd Yf u] 23)).alloc (Yg #[Yd Yf m,Yd Yf rd] 23))=P at *;generalize w.heap.size+1+1=G at *;generalize w.heap.size+1=F at *;obtain⟨h,Y⟩:∃h,w.heap.size=h:=⟨_,rfl⟩
 rw[Y]at f⊢;clear Y;replace f:=zh (fun(w':Yh) (p:Below P.heap.size P w')=>f.out.keep p);replace D:=zh (fun(w':Yh) (p:Below P.heap.size P w')=>D.out.keep p);replace E:=zh (fun(w':Yh) (p:Below P.heap.size P w')=>E.out.keep p);go_upto_region 3 with(go_at_call 4;go_fit (AW.out _ A.out);rintro e C ⟨rfl,c⟩;have r3:C.cell? ⟨h,3,Yb⟩=Ya (Yd Yf r):=(f.out _ c).cell 3)
 have J:=zh (A.out.trans (c.mono A.out.size));have B:=zh c;have l0:C.cell? ⟨F,0,Yb⟩=Ya (Yd Yf l):=(D.out _ c).cell 0;have l1:C.cell? ⟨G,0,Yb⟩=Ya (Yd Yf m):=(E.out _ c).cell 0;clear c A AW;cases g1:(l==-9223372036854775808)
 rotate_left
 ·go_wp2_with fail;go_ret;exact⟨rfl,J.out⟩
 cases g2:(m==-9223372036854775808)
 rotate_left
 ·go_wp2_with fail;go_ret;exact⟨rfl,J.out⟩
 have al:l≠-9223372036854775808:=by simpa using g1
 have am:m≠-9223372036854775808:=by simpa using g2
 obtain⟨N,O,d1,d2,r1,r2,a1,a2,a3,a4,b1,K,L,M⟩:=g.out;have EP:=zh (fun w'=>Zmt Zfw Zsk w' k n d r s l u m rd (by omega) a2 (by omega) K ⟨⟨N,O⟩,d1,d2⟩ ⟨a3,a4⟩ ⟨L,M⟩);have ER:=zh (fun w'=>ZmG Zfw Zsi w' k n d r s l u m rd (by omega) a2 (by omega) K ⟨⟨N,O⟩,d1,d2⟩ ⟨a3,a4⟩ ⟨L,M⟩);clear N O d1 d2 r1 r2 a1 a2 a3 a4 b1 K L M al am;generalize Zfw (ZdP r m rd) (ZK 1 n d (-l) u)=Z at *;replace SP:=zh (fun(w':Yh) (b:Below C.heap.size C w')=>SP.out w' (J.out.trans (b.mono J.out.size)));go_upto_region 5 with fail;replace f:=zh (fun(w':Yh) (p:Below C.heap.size C w')=>f.out w' (B.out.trans (p.mono B.out.size)));replace D:=zh (fun(w':Yh) (p:Below C.heap.size C w')=>D.out w' (B.out.trans (p.mono B.out.size)));replace E:=zh (fun(w':Yh) (p:Below C.heap.size C w')=>E.out w' (B.out.trans (p.mono B.out.size)));clear r3 l0 l1 g1 g2 e0 g;refine Zbw (fun x=>{ tmps:=#[.agg #[Yd Yf k,Yd Yf n,Yd Yf d,Yd Yf r,.int .u32 s],Zb l u,Zb m rd,Ye (Ya ⟨h,0,Yb⟩),Ye (Ya ⟨F,0,Yb⟩),Ye (Ya ⟨G,0,Yb⟩),x 16,.bool true,.bool false,.bool false,Ye (Ya ⟨h,3,Yb⟩),Yd Yf r,.bool false,.bool false,undef,Ye (Ya ⟨F,0,Yb⟩),Yd Yf l,.bool false,.bool false,Ye (Ya ⟨G,0,Yb⟩),Yd Yf m,.bool false,.bool false,x 0,x 1,x 2,x 3,x 4,x 5,x 6,x 7,x 8,x 9,x 10,x 11,x 12,x 13,x 14,x 15],defers:=[] }) (fun j=>if j=16 then .bool false else undef) (plR k n d r s l u m rd Z T) (by kernel_rfl) (by kernel_rfl) (by rfl) ?_ (Zqw k n d r s l u m rd Z T) ?_ ?_
 ·intro i o ho x v;have hi:i<17:=(Array.getElem?_eq_some_iff.1 ho).1;have hc:i=0\/i=1\/i=2\/i=3\/i=4\/i=5\/i=6\/i=7\/i=8\/i=9\/i=10\/i=11\/i=12\/i=13\/i=14\/i=15\/i=16:=by omega
  rcases hc with rfl|rfl|rfl|rfl|rfl|rfl|rfl|rfl|rfl|rfl|rfl|rfl|rfl|rfl|rfl|rfl|rfl <;>
  ·have e:=Option.some.inj ho;subst e;rfl
 ·intro i o ho x a b t K' z;have hi:i<17:=(Array.getElem?_eq_some_iff.1 ho).1;have hc:i=0\/i=1\/i=2\/i=3\/i=4\/i=5\/i=6\/i=7\/i=8\/i=9\/i=10\/i=11\/i=12\/i=13\/i=14\/i=15\/i=16:=by omega
  rcases hc with rfl|rfl|rfl|rfl|rfl|rfl|rfl|rfl|rfl|rfl|rfl|rfl|rfl|rfl|rfl|rfl|rfl<;>(have e:=Option.some.inj ho;subst e)
  ·have H:a.cell? ⟨h,0,Yb⟩=Ya (Yd Yf k):=(f.out a b).cell 0;have I:a.cell? ⟨h,1,Yb⟩=Ya (Yd Yf n):=(f.out a b).cell 1;have q2:a.cell? ⟨h,2,Yb⟩=Ya (Yd Yf d):=(f.out a b).cell 2;have q3:a.cell? ⟨h,3,Yb⟩=Ya (Yd Yf r):=(f.out a b).cell 3;have q4:a.cell? ⟨h,4,Yb⟩=Ya (.int .u32 s):=(f.out a b).cell 4;go_simp;exact z.out _ _ (Below.refl _ _) rfl
  ·have H:a.cell? ⟨F,0,Yb⟩=Ya (Yd Yf l):=(D.out a b).cell 0;have I:a.cell? ⟨F,1,Yb⟩=Ya (Yd Yf u):=(D.out a b).cell 1;go_simp;exact z.out _ _ (Below.refl _ _) rfl
  ·have H:a.cell? ⟨G,0,Yb⟩=Ya (Yd Yf m):=(E.out a b).cell 0;have I:a.cell? ⟨G,1,Yb⟩=Ya (Yd Yf rd):=(E.out a b).cell 1;go_simp;exact z.out _ _ (Below.refl _ _) rfl
  ·have d0:=t ⟨0,.data⟩ (by simp) rfl;have d1:=t ⟨1,.data⟩ (by simp) rfl;have d2:=t ⟨2,.data⟩ (by simp) rfl;dsimp only[plR]at d0 d1 d2;generalize x 0=z0 at *;generalize x 1=z1 at *;generalize x 2=z2 at *;subst d0 d1 d2;go_simp;go_at_call 5;refine(EP.out a).mono ?_;rintro e' w2 ⟨rfl,c⟩;go_wp2_with fail;exact z.out _ _ c rfl
  ·have H:a.cell? ⟨h,0,Yb⟩=Ya (Yd Yf k):=(f.out a b).cell 0;have I:a.cell? ⟨h,1,Yb⟩=Ya (Yd Yf n):=(f.out a b).cell 1;have q2:a.cell? ⟨h,2,Yb⟩=Ya (Yd Yf d):=(f.out a b).cell 2;have q3:a.cell? ⟨h,3,Yb⟩=Ya (Yd Yf r):=(f.out a b).cell 3;have q4:a.cell? ⟨h,4,Yb⟩=Ya (.int .u32 s):=(f.out a b).cell 4;go_simp;exact z.out _ _ (Below.refl _ _) rfl
  ·have H:a.cell? ⟨F,0,Yb⟩=Ya (Yd Yf l):=(D.out a b).cell 0;have I:a.cell? ⟨F,1,Yb⟩=Ya (Yd Yf u):=(D.out a b).cell 1;go_simp;exact z.out _ _ (Below.refl _ _) rfl
  ·have H:a.cell? ⟨G,0,Yb⟩=Ya (Yd Yf m):=(E.out a b).cell 0;have I:a.cell? ⟨G,1,Yb⟩=Ya (Yd Yf rd):=(E.out a b).cell 1;go_simp;exact z.out _ _ (Below.refl _ _) rfl
  ·have d4:=t ⟨4,.data⟩ (by simp) rfl;have d5:=t ⟨5,.data⟩ (by simp) rfl;have d6:=t ⟨6,.data⟩ (by simp) rfl;dsimp only[plR]at d4 d5 d6;generalize x 4=z4 at *;generalize x 5=z5 at *;generalize x 6=z6 at *;subst d4 d5 d6;go_simp;go_at_call 6;refine(ER.out a).mono ?_;rintro e' w2 ⟨rfl,c⟩;go_wp2_with fail;exact z.out _ _ c rfl
  ·have d3:=t ⟨3,.data⟩ (by simp) rfl;have d7:=t ⟨7,.data⟩ (by simp) rfl;dsimp only[plR]at d3 d7;generalize x 3=z3 at *;generalize x 7=z7 at *;subst d3 d7;have ee:(Z==Z)=true:=by simp
   go_simp;exact z.out _ _ (Below.refl _ _) rfl
  ·have d8:=t ⟨8,.data⟩ (by simp) rfl;dsimp only[plR]at d8;generalize x 8=z8 at *;subst d8;go_simp;exact z.out _ _ (Below.refl _ _) rfl
  ·have y:=t ⟨9,.guard⟩ (by simp) rfl;dsimp only[plR]at y;generalize x 9=z9 at *;subst y;have H:a.cell? ⟨h,0,Yb⟩=Ya (Yd Yf k):=(f.out a b).cell 0;have I:a.cell? ⟨h,1,Yb⟩=Ya (Yd Yf n):=(f.out a b).cell 1;have q2:a.cell? ⟨h,2,Yb⟩=Ya (Yd Yf d):=(f.out a b).cell 2;have q3:a.cell? ⟨h,3,Yb⟩=Ya (Yd Yf r):=(f.out a b).cell 3;have q4:a.cell? ⟨h,4,Yb⟩=Ya (.int .u32 s):=(f.out a b).cell 4;go_simp;exact z.out _ _ (Below.refl _ _) rfl
  ·have y:=t ⟨9,.guard⟩ (by simp) rfl;have Q:=t ⟨10,.data⟩ (by simp) rfl;dsimp only[plR]at y Q;generalize x 9=z9 at *;generalize x 10=bn at *;subst y Q;go_simp;go_at_call 7;refine(SP.out a b).mono ?_;rintro e' w2 ⟨rfl,c⟩;go_wp2_with fail;exact z.out _ _ c rfl
  ·have y:=t ⟨9,.guard⟩ (by simp) rfl;dsimp only[plR]at y;generalize x 9=z9 at *;subst y;have H:a.cell? ⟨h,0,Yb⟩=Ya (Yd Yf k):=(f.out a b).cell 0;have I:a.cell? ⟨h,1,Yb⟩=Ya (Yd Yf n):=(f.out a b).cell 1;have q2:a.cell? ⟨h,2,Yb⟩=Ya (Yd Yf d):=(f.out a b).cell 2;have q3:a.cell? ⟨h,3,Yb⟩=Ya (Yd Yf r):=(f.out a b).cell 3;have q4:a.cell? ⟨h,4,Yb⟩=Ya (.int .u32 s):=(f.out a b).cell 4;go_simp;exact z.out _ _ (Below.refl _ _) rfl
  ·have y:=t ⟨9,.guard⟩ (by simp) rfl;have S:=t ⟨12,.data⟩ (by simp) rfl;dsimp only[plR]at y S;generalize x 9=z9 at *;generalize x 12=bp at *;subst y S;go_simp;go_at_call 8;refine(SR.out a).mono ?_;rintro e' w2 ⟨rfl,c⟩;go_wp2_with fail;exact z.out _ _ c rfl
  ·have y:=t ⟨9,.guard⟩ (by simp) rfl;have R:=t ⟨11,.data⟩ (by simp) rfl;have U:=t ⟨13,.data⟩ (by simp) rfl;dsimp only[plR]at y R U;generalize x 9=z9 at *;generalize x 11=bo at *;generalize x 13=bq at *;subst y R U;go_simp;exact z.out _ _ (Below.refl _ _) rfl
  ·have y:=t ⟨9,.data⟩ (by simp) rfl;have V:=t ⟨14,.data⟩ (by simp) rfl;dsimp only[plR]at y V;generalize x 9=z9 at *;generalize x 14=br at *;subst y V;go_simp;exact z.out _ _ (Below.refl _ _) rfl
  ·have W:=t ⟨15,.data⟩ (by simp) rfl;dsimp only[plR]at W;generalize x 15=bs at *;subst W;go_simp;exact z.out _ _ (Below.refl _ _) rfl
 ·intro x a b hx;have X:=hx 16 (by decide);dsimp only[plR]at X;generalize x 0=y0 at *;generalize x 1=y1 at *;generalize x 2=y2 at *;generalize x 3=y3 at *;generalize x 4=y4 at *;generalize x 5=y5 at *;generalize x 6=y6 at *;generalize x 7=y7 at *;generalize x 8=y8 at *;generalize x 9=y9 at *;generalize x 10=bg at *;generalize x 11=bh at *;generalize x 12=bi at *;generalize x 13=bj at *;generalize x 14=bk at *;generalize x 15=bl at *;generalize x 16=bm at *;subst X;clear hx;have HL:=zh (J.out.trans (b.mono J.out.size));go_wp2_with fail;go_ret;exact⟨rfl,HL.out⟩
end Go.Proofs.YtbfnnolakggbfaaGreatDoor
