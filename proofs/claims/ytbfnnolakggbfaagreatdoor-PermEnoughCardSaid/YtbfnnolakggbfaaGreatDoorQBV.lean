import Derived.Deep.DeepFit
import Derived.Test.YtbfnnolakggbfaaGreatDoorQBB
set_option maxRecDepth 100000
set_option maxHeartbeats 8000000
open Option renaming some → Ya, none → Yb
open Go.Value renaming slice → Yc, int → Yd, pointer → Ye
open Go.IntKind renaming i64 → Yf
open Go.Obj renaming cells → Yg
open Go.RowKit
namespace Go.Proofs.YtbfnnolakggbfaaGreatDoor
def Zdc (n d c a:Int) (b:Nat) (V:Value) (Z:Int):Nat->Value->World->Prop
 |0,v,_=>v=V
 |1,v,_=>v=.func (.func 11) #[] #[]
 |2,v,_=>v=Ye (Ya ⟨b,1,Yb⟩)
 |3,v,_=>v=Zb n d
 |4,v,_=>v=Zb c a
 |5,v,_=>v=Zb (-c) a
 |6,v,w=>ZcU w 1 n d (-c) a v
 |7,v,_=>v=Yd Yf Z
 |8,v,_=>v=Yd Yf Z
 |_,_,_=>True
theorem ZjU (n d e c:Int) (b:Nat) (V:Value) (Z:Int):∀j v a f,Below a.heap.size a f->Zdc n d e c b V Z j v a->Zdc n d e c b V Z j v f
 |0,_,_,_,_,h=>h
 |1,_,_,_,_,h=>h
 |2,_,_,_,_,h=>h
 |3,_,_,_,_,h=>h
 |4,_,_,_,_,h=>h
 |5,_,_,_,_,h=>h
 |6,_,_,_,hb,h=>h.keep hb
 |7,_,_,_,_,h=>h
 |8,_,_,_,_,h=>h
 |_+9,_,_,_,_,_=>trivial
def Zoy (E:List Rw->Rw->Int):Prop:=∀(w:World) (v a:Value) (l:List Rw) (r:Rw),ZA w v l->(∀r∈l,Zac r)->l.length<=1000->Za w a r.2.1->Zac r->Calls Tryz.prog 14 #[v,.agg #[Yd Yf r.1,a,Yd Yf r.2.2.1,Yd Yf r.2.2.2]] w fun e b=>e=.returned (Yd Yf (E l r))/\Below w.heap.size w b
def ZdP (r a rd:Int):List Rw:=if r==-1 then [ZK 0 1 1 (-1) 1]else [ZK 2 1 1 0 1,ZK 1 (-1) 1 1 1,ZK 1 1 1 (-a) rd]
theorem Zmt (E:List Rw->Rw->Int) (L:Zoy E) (w:World) (k n d r s c h m rd:Int) (h1:-9223372036854775807<=c) (h2:c<=9223372036854775807) (h3:-9223372036854775807<=m) (h4:m<=9223372036854775807) (hn:Bd (n,d)) (hl:-9223372036854775808<=h/\h<=9223372036854775807) (hr:-9223372036854775808<=rd/\rd<=9223372036854775807) :
  Calls Tryz.prog 5 #[.agg #[Yd Yf k,Yd Yf n,Yd Yf d,Yd Yf r,.int .u32 s],Zb c h,Zb m rd] w fun e w'=>e=.returned (Yd Yf (E (ZdP r m rd) (ZK 1 n d (-c) h)))/\Below w.heap.size w w':=by
 have t:=zh (zi h1 (zi h2 (zi h3 (zi h4 (zi hn (zi hl hr))))));have BR:=zh (show Blk (((w.alloc (Yg #[Yd Yf k,Yd Yf n,Yd Yf d,Yd Yf r,.int .u32 s] 26)).alloc (Yg #[Yd Yf c,Yd Yf h] 23)).alloc (Yg #[Yd Yf m,Yd Yf rd] 23)) (w.heap.size+1+1) #[Yd Yf m,Yd Yf rd]by have:=Blk.start ((w.alloc (Yg #[Yd Yf k,Yd Yf n,Yd Yf d,Yd Yf r,.int .u32 s] 26)).alloc (Yg #[Yd Yf c,Yd Yf h] 23)) #[Yd Yf m,Yd Yf rd] 23;rw[World.size_alloc,World.size_alloc]at this;exact this);have N:=zh (show Blk (((w.alloc (Yg #[Yd Yf k,Yd Yf n,Yd Yf d,Yd Yf r,.int .u32 s] 26)).alloc (Yg #[Yd Yf c,Yd Yf h] 23)).alloc (Yg #[Yd Yf m,Yd Yf rd] 23)) (w.heap.size) #[Yd Yf k,Yd Yf n,Yd Yf d,Yd Yf r,.int .u32 s]from((Blk.start w _ _).keep (below_alloc1 _ _)).keep (below_alloc1 _ _));have Y:=zh (show Blk (((w.alloc (Yg #[Yd Yf k,Yd Yf n,Yd Yf d,Yd Yf r,.int .u32 s] 26)).alloc (Yg #[Yd Yf c,Yd Yf h] 23)).alloc (Yg #[Yd Yf m,Yd Yf rd] 23)) (w.heap.size+1) #[Yd Yf c,Yd Yf h]by have:=(Blk.start (w.alloc (Yg #[Yd Yf k,Yd Yf n,Yd Yf d,Yd Yf r,.int .u32 s] 26)) #[Yd Yf c,Yd Yf h] 23).keep (below_alloc1 _ (Yg #[Yd Yf m,Yd Yf rd] 23));rw[World.size_alloc]at this;exact this);have H0:=zh (show Below w.heap.size w (((w.alloc (Yg #[Yd Yf k,Yd Yf n,Yd Yf d,Yd Yf r,.int .u32 s] 26)).alloc (Yg #[Yd Yf c,Yd Yf h] 23)).alloc (Yg #[Yd Yf m,Yd Yf rd] 23))from((Below.refl _ _).alloc (Nat.le_refl _) _|>.alloc (by simp) _).alloc (by simp;omega) _);go_enter Tryz.func5,Tryz.ntmps5;go_upto_region 2 with fail;refine Zbw (fun x=>{ tmps:=#[.agg #[Yd Yf k,Yd Yf n,Yd Yf d,Yd Yf r,.int .u32 s],Zb c h,Zb m rd,Ye (Ya ⟨w.heap.size,0,Yb⟩),Ye (Ya ⟨w.heap.size+1,0,Yb⟩),Ye (Ya ⟨w.heap.size+1+1,0,Yb⟩),Yd Yf 0,.func (.func 11) #[] #[],x 14,x 0,x 1,x 2,x 3,x 4,x 5,x 6,x 7,x 8,x 9,x 10,x 11,x 12,x 13,undef,undef,undef,undef,undef,undef,undef,undef,undef,undef,undef,undef,undef,undef,undef,undef],defers:=[] }) (fun _=>undef) (enR m rd) (by kernel_rfl) (by kernel_rfl) (by rfl) ?_ (Zp7 m rd) ?_ ?_
 ·intro i o u x v;have hi:i<15:=(Array.getElem?_eq_some_iff.1 u).1;have hc:i=0\/i=1\/i=2\/i=3\/i=4\/i=5\/i=6\/i=7\/i=8\/i=9\/i=10\/i=11\/i=12\/i=13\/i=14:=by omega
  rcases hc with rfl|rfl|rfl|rfl|rfl|rfl|rfl|rfl|rfl|rfl|rfl|rfl|rfl|rfl|rfl <;>
  ·have e:=Option.some.inj u;subst e;rfl
 ·intro i o u x b p l K' f;have hi:i<15:=(Array.getElem?_eq_some_iff.1 u).1;have hc:i=0\/i=1\/i=2\/i=3\/i=4\/i=5\/i=6\/i=7\/i=8\/i=9\/i=10\/i=11\/i=12\/i=13\/i=14:=by omega
  rcases hc with rfl|rfl|rfl|rfl|rfl|rfl|rfl|rfl|rfl|rfl|rfl|rfl|rfl|rfl|rfl<;>(have e:=Option.some.inj u;subst e)
  ·go_simp;exact f.out _ _ (Below.refl _ _) rfl
  ·go_simp;go_at_call 12;refine(Zcq 1 b).mono ?_;rintro A y ⟨rfl,a⟩;go_wp2_with fail;exact f.out _ _ a rfl
  ·go_simp;go_at_call 12;refine(Zcq 0 b).mono ?_;rintro A y ⟨rfl,a⟩;go_wp2_with fail;exact f.out _ _ a rfl
  ·have F:=l ⟨0,.data⟩ (by simp) rfl;have d1:=l ⟨1,.data⟩ (by simp) rfl;have d2:=l ⟨2,.data⟩ (by simp) rfl;dsimp only[enR]at F d1 d2;generalize x 0=y0 at *;generalize x 1=y1 at *;generalize x 2=y2 at *;subst F d1 d2;go_simp;go_at_call 11;refine(Zd3 2 1 1 0 1 b).mono ?_;rintro A y ⟨⟨v,rfl,D⟩,a⟩;go_wp2_with fail;exact f.out _ _ a D
  ·go_simp;exact f.out _ _ (Below.refl _ _) rfl
  ·go_simp;go_at_call 12;refine(Zcq (-1) b).mono ?_;rintro A y ⟨rfl,a⟩;go_wp2_with fail;exact f.out _ _ a rfl
  ·go_simp;go_at_call 12;refine(Zcq 1 b).mono ?_;rintro A y ⟨rfl,a⟩;go_wp2_with fail;exact f.out _ _ a rfl
  ·have H:=l ⟨4,.data⟩ (by simp) rfl;have I:=l ⟨5,.data⟩ (by simp) rfl;have J:=l ⟨6,.data⟩ (by simp) rfl;dsimp only[enR]at H I J;generalize x 4=y4 at *;generalize x 5=y5 at *;generalize x 6=y6 at *;subst H I J;go_simp;go_at_call 11;refine(Zd3 1 (-1) 1 1 1 b).mono ?_;rintro A y ⟨⟨v,rfl,D⟩,a⟩;go_wp2_with fail;exact f.out _ _ a D
  ·go_simp;exact f.out _ _ (Below.refl _ _) rfl
  ·go_simp;go_at_call 12;refine(Zcq 1 b).mono ?_;rintro A y ⟨rfl,a⟩;go_wp2_with fail;exact f.out _ _ a rfl
  ·have q0:b.cell? ⟨w.heap.size+1+1,0,Yb⟩=Ya (Yd Yf m):=(BR.out.keep p).cell 0;have q1:b.cell? ⟨w.heap.size+1+1,1,Yb⟩=Ya (Yd Yf rd):=(BR.out.keep p).cell 1;go_simp;exact f.out _ _ (Below.refl _ _) rfl
  ·have ae:=l ⟨10,.data⟩ (by simp) rfl;dsimp only[enR]at ae;generalize x 10=S at *;subst ae;go_simp;go_at_call 13;refine(Zes m rd b h3 h4).mono ?_;rintro A y ⟨rfl,a⟩;go_wp2_with fail;exact f.out _ _ a rfl
  ·have d8:=l ⟨8,.data⟩ (by simp) rfl;have d9:=l ⟨9,.data⟩ (by simp) rfl;have af:=l ⟨11,.data⟩ (by simp) rfl;dsimp only[enR]at d8 d9 af;generalize x 8=y8 at *;generalize x 9=y9 at *;generalize x 11=T at *;subst d8 d9 af;go_simp;go_at_call 11;refine(Zd3 1 1 1 (-m) rd b).mono ?_;rintro A y ⟨⟨v,rfl,D⟩,a⟩;go_wp2_with fail;exact f.out _ _ a D
  ·have G:=l ⟨3,.data⟩ (by simp) rfl;have K:=l ⟨7,.data⟩ (by simp) rfl;have ag:=l ⟨12,.data⟩ (by simp) rfl;dsimp only[enR]at G K ag;generalize x 3=y3 at *;generalize x 7=y7 at *;generalize x 12=U at *;obtain⟨g3,rfl,B3⟩:=G;obtain⟨g7,rfl,B7⟩:=K;obtain⟨ai,rfl,ar⟩:=ag;go_simp;have bz:=below_alloc1 b (Yg #[Yd Yf 2,Yc (Ya ⟨g3,0,Yb⟩) 1 1,Yd Yf 0,Yd Yf 1,Yd Yf 1,Yc (Ya ⟨g7,0,Yb⟩) 1 1,Yd Yf 1,Yd Yf 1,Yd Yf 1,Yc (Ya ⟨ai,0,Yb⟩) 1 1,Yd Yf (-m),Yd Yf rd] 39);exact f.out _ _ bz ⟨b.heap.size,_,_,_,rfl,⟨g3,rfl,B3.keep bz⟩,⟨g7,rfl,B7.keep bz⟩,⟨ai,rfl,ar.keep bz⟩,_,rfl,Blk.start b _ _⟩
  ·have ah:=l ⟨13,.data⟩ (by simp) rfl;dsimp only[enR]at ah;generalize x 13=W at *;obtain⟨g,rx,ry,rz,rfl,a7,a8,ba,cs,a6,hB⟩:=ah;go_simp;exact f.out _ _ (Below.refl _ _) ⟨g,rx,ry,rz,rfl,a7,a8,ba,cs,a6,hB⟩
 ·intro x b p M;have C:=M 14 (by decide);dsimp only[enR]at C;generalize x 0=y0 at *;generalize x 1=y1 at *;generalize x 2=y2 at *;generalize x 3=y3 at *;generalize x 4=y4 at *;generalize x 5=y5 at *;generalize x 6=y6 at *;generalize x 7=y7 at *;generalize x 8=y8 at *;generalize x 9=y9 at *;generalize x 10=S at *;generalize x 11=T at *;generalize x 12=U at *;generalize x 13=W at *;generalize x 14=bd at *;clear M;have P:=zh (H0.out.trans (p.mono H0.out.size));have r3:b.cell? ⟨w.heap.size,3,Yb⟩=Ya (Yd Yf r):=(N.out.keep p).cell 3;cases hr:(r==-1)
  ·have ac:=Zoq C;have HW:E (ZdP r m rd) (ZK 1 n d (-c) h)=E [ZK 2 1 1 0 1,ZK 1 (-1) 1 1 1,ZK 1 1 1 (-m) rd] (ZK 1 n d (-c) h):=by unfold ZdP;rw[hr];rfl
   have HV:=zh ac
   have ax:=zh (show ∀q∈[ZK 2 1 1 0 1,ZK 1 (-1) 1 1 1,ZK 1 1 1 (-m) rd],Zac q from fun q hq=>by
    simp only[List.mem_cons,List.not_mem_nil,or_false]at hq
    rcases hq with rfl|rfl|rfl<;>exact Zcz (by decide) (by first|decide|(have:=t.out;exact⟨⟨by omega,by omega⟩,by omega⟩)) (by first|decide|(have:=t.out;exact⟨⟨by omega,by omega⟩,by omega⟩)))
   have HZ:=zh HW.symm;clear ac C HW;have BP:=zh (fun(w':World) (z:Below b.heap.size b w')=>(N.out.keep p).keep z);have X:=zh (fun(w':World) (z:Below b.heap.size b w')=>(Y.out.keep p).keep z);have B:=zh (show(-9223372036854775807<=c)/\(c<=9223372036854775807)/\(∀q∈[ZK 2 1 1 0 1,ZK 1 (-1) 1 1 1,ZK 1 1 1 (-m) rd],Zac q)/\[ZK 2 1 1 0 1,ZK 1 (-1) 1 1 1,ZK 1 1 1 (-m) rd].length<=1000/\Zac (ZK 1 n d (-c) h)from⟨t.out.1,t.out.2.1,ax.out,by simp,Zcz (by decide) t.out.2.2.2.2.1 (by have:=t.out;exact⟨⟨by omega,by omega⟩,by omega⟩)⟩);have HE:=zh L;generalize hZ:E [ZK 2 1 1 0 1,ZK 1 (-1) 1 1 1,ZK 1 1 1 (-m) rd] (ZK 1 n d (-c) h)=Z at *;have O:=zh hZ;clear hZ p;go_upto_region 5 with fail;clear r3;generalize bd=V at *;refine Zbw (fun x=>{ tmps:=#[.agg #[Yd Yf k,Yd Yf n,Yd Yf d,Yd Yf r,.int .u32 s],Zb c h,Zb m rd,Ye (Ya ⟨w.heap.size,0,Yb⟩),Ye (Ya ⟨w.heap.size+1,0,Yb⟩),Ye (Ya ⟨w.heap.size+1+1,0,Yb⟩),x 8,.func (.func 11) #[] #[],V,y0,y1,y2,y3,y4,y5,y6,y7,y8,y9,S,T,U,W,Ye (Ya ⟨w.heap.size,3,Yb⟩),Yd Yf r,.bool false,undef,undef,undef,undef,undef,x 0,x 1,x 2,x 3,x 4,x 5,x 6,x 7],defers:=[] }) (fun j=>if j=8 then Yd Yf 0 else undef) (Zdc n d c h w.heap.size V Z) (by kernel_rfl) (by kernel_rfl) (by rfl) ?_ (ZjU n d c h w.heap.size V Z) ?_ ?_
   ·intro i o u x v;have hi:i<9:=(Array.getElem?_eq_some_iff.1 u).1;have hc:i=0\/i=1\/i=2\/i=3\/i=4\/i=5\/i=6\/i=7\/i=8:=by omega
    rcases hc with rfl|rfl|rfl|rfl|rfl|rfl|rfl|rfl|rfl <;>
    ·have e:=Option.some.inj u;subst e;rfl
   ·intro i o u x b p l K' f;have hi:i<9:=(Array.getElem?_eq_some_iff.1 u).1;have hc:i=0\/i=1\/i=2\/i=3\/i=4\/i=5\/i=6\/i=7\/i=8:=by omega
    rcases hc with rfl|rfl|rfl|rfl|rfl|rfl|rfl|rfl|rfl<;>(have e:=Option.some.inj u;subst e)
    ·go_simp;exact f.out _ _ (Below.refl _ _) rfl
    ·go_simp;exact f.out _ _ (Below.refl _ _) rfl
    ·go_simp;exact f.out _ _ (Below.refl _ _) rfl
    ·have d2:=l ⟨2,.data⟩ (by simp) rfl;dsimp only[Zdc]at d2;generalize x 2=z2 at *;subst d2;have q1:b.cell? ⟨w.heap.size,1,Yb⟩=Ya (Yd Yf n):=(BP.out b p).cell 1;have q2:b.cell? ⟨w.heap.size,2,Yb⟩=Ya (Yd Yf d):=(BP.out b p).cell 2;go_simp;exact f.out _ _ (Below.refl _ _) rfl
    ·have q0:b.cell? ⟨w.heap.size+1,0,Yb⟩=Ya (Yd Yf c):=(X.out b p).cell 0;have q1:b.cell? ⟨w.heap.size+1,1,Yb⟩=Ya (Yd Yf h):=(X.out b p).cell 1;go_simp;exact f.out _ _ (Below.refl _ _) rfl
    ·have H:=l ⟨4,.data⟩ (by simp) rfl;dsimp only[Zdc]at H;generalize x 4=z4 at *;subst H;go_simp;go_at_call 13;refine(Zes c h b B.out.1 B.out.2.1).mono ?_;rintro A y ⟨rfl,a⟩;go_wp2_with fail;exact f.out _ _ a rfl
    ·have d1:=l ⟨1,.data⟩ (by simp) rfl;have G:=l ⟨3,.data⟩ (by simp) rfl;have I:=l ⟨5,.data⟩ (by simp) rfl;dsimp only[Zdc]at d1 G I;generalize x 1=z1 at *;generalize x 3=z3 at *;generalize x 5=z5 at *;subst d1 G I;go_simp;go_at_call 11;refine(Zd3 1 n d (-c) h b).mono ?_;rintro A y ⟨⟨v,rfl,D⟩,a⟩;go_wp2_with fail;exact f.out _ _ a D
    ·have F:=l ⟨0,.data⟩ (by simp) rfl;have J:=l ⟨6,.data⟩ (by simp) rfl;dsimp only[Zdc]at F J;generalize x 0=z0 at *;generalize x 6=z6 at *;subst F;obtain⟨g6,rfl,B6⟩:=J;have CE:=zh (HE.out b z0 (Yc (Ya ⟨g6,0,Yb⟩) 1 1) _ (ZK 1 n d (-c) h) (HV.out.below p) B.out.2.2.1 B.out.2.2.2.1 (ZcE B6) B.out.2.2.2.2);dsimp only[ZK]at CE;go_simp;go_at_call 14;refine CE.out.mono ?_;rintro A y ⟨rfl,a⟩;go_wp2_with fail;exact f.out _ _ a (congrArg (Value.int Yf) O.out)
    ·have K:=l ⟨7,.data⟩ (by simp) rfl;dsimp only[Zdc]at K;generalize x 7=z7 at *;subst K;go_simp;exact f.out _ _ (Below.refl _ _) rfl
   ·intro x b p M;have h8:=M 8 (by decide);dsimp only[Zdc]at h8;generalize x 8=z8 at *;subst h8;clear M;go_wp2_with fail;go_ret;exact⟨by rw[<-HZ.out];rfl,P.out.trans (p.mono P.out.size)⟩
  ·have HW:E (ZdP r m rd) (ZK 1 n d (-c) h)=E [ZK 0 1 1 (-1) 1] (ZK 1 n d (-c) h):=by unfold ZdP;rw[hr];rfl
   have HZ:=zh HW.symm;have B:=zh (show(-9223372036854775807<=c)/\(c<=9223372036854775807)/\(∀q∈[ZK 0 1 1 (-1) 1],Zac q)/\[ZK 0 1 1 (-1) 1].length<=1000/\Zac (ZK 1 n d (-c) h)from⟨t.out.1,t.out.2.1,fun q hq=>by rw[List.mem_singleton.1 hq];exact Zcz (by decide) (by decide) (by decide),by simp,Zcz (by decide) t.out.2.2.2.2.1 (by have:=t.out;exact⟨⟨by omega,by omega⟩,by omega⟩)⟩);have HE:=zh L;generalize hZ:E [ZK 0 1 1 (-1) 1] (ZK 1 n d (-c) h)=Z at *;have O:=zh hZ;have H1:=zh p;clear hZ C p HW
   go_upto_region 5 with(first
    |(go_at_call 12;go_fit (Zcq 1 b);rintro e2 y ⟨rfl,a⟩)
    |(go_at_call 12;go_fit (Zcq (-1) y);rintro e3 w3 ⟨rfl,Q⟩)
    |(go_at_call 11;go_fit (Zd3 0 1 1 (-1) 1 w3);rintro e4 w4 ⟨⟨v4,rfl,g4,rfl,B4⟩,R⟩))
   have b5:=below_alloc1 w4 (Yg #[Yd Yf 0,Yc (Ya ⟨g4,0,Yb⟩) 1 1,Yd Yf (-1),Yd Yf 1] 39);have HV:=zh (Zqr (B4.keep b5) (Blk.start w4 #[Yd Yf 0,Yc (Ya ⟨g4,0,Yb⟩) 1 1,Yd Yf (-1),Yd Yf 1] 39));have a5:=a.trans ((Q.trans ((R.trans (b5.mono R.size)).mono Q.size)).mono a.size);have BP:=zh (fun(w':World) z=>(((N.out.keep H1.out).keep a5).keep (w':=w') z));have X:=zh (fun(w':World) z=>(((Y.out.keep H1.out).keep a5).keep (w':=w') z));replace P:=zh (P.out.trans (a5.mono P.out.size));clear r3 a Q R b5 a5 B4;generalize w4.alloc (Yg #[Yd Yf 0,Yc (Ya ⟨g4,0,Yb⟩) 1 1,Yd Yf (-1),Yd Yf 1] 39)=w5 at *;generalize Value.slice (Ya ⟨w4.heap.size,0,Yb⟩) 1 1=V at *;refine Zbw (fun x=>{ tmps:=#[.agg #[Yd Yf k,Yd Yf n,Yd Yf d,Yd Yf r,.int .u32 s],Zb c h,Zb m rd,Ye (Ya ⟨w.heap.size,0,Yb⟩),Ye (Ya ⟨w.heap.size+1,0,Yb⟩),Ye (Ya ⟨w.heap.size+1+1,0,Yb⟩),x 8,.func (.func 11) #[] #[],V,y0,y1,y2,y3,y4,y5,y6,y7,y8,y9,S,T,U,W,Ye (Ya ⟨w.heap.size,3,Yb⟩),Yd Yf r,.bool true,.func (.func 11) #[] #[],Zb 1 1,Zb (-1) 1,.agg #[Yd Yf 0,Yc (Ya ⟨g4,0,Yb⟩) 1 1,Yd Yf (-1),Yd Yf 1],V,x 0,x 1,x 2,x 3,x 4,x 5,x 6,x 7],defers:=[] }) (fun j=>if j=8 then Yd Yf 0 else undef) (Zdc n d c h w.heap.size V Z) (by kernel_rfl) (by kernel_rfl) (by rfl) ?_ (ZjU n d c h w.heap.size V Z) ?_ ?_
   ·intro i o u x v;have hi:i<9:=(Array.getElem?_eq_some_iff.1 u).1;have hc:i=0\/i=1\/i=2\/i=3\/i=4\/i=5\/i=6\/i=7\/i=8:=by omega
    rcases hc with rfl|rfl|rfl|rfl|rfl|rfl|rfl|rfl|rfl <;>
    ·have e:=Option.some.inj u;subst e;rfl
   ·intro i o u x b p l K' f;have hi:i<9:=(Array.getElem?_eq_some_iff.1 u).1;have hc:i=0\/i=1\/i=2\/i=3\/i=4\/i=5\/i=6\/i=7\/i=8:=by omega
    rcases hc with rfl|rfl|rfl|rfl|rfl|rfl|rfl|rfl|rfl<;>(have e:=Option.some.inj u;subst e)
    ·go_simp;exact f.out _ _ (Below.refl _ _) rfl
    ·go_simp;exact f.out _ _ (Below.refl _ _) rfl
    ·go_simp;exact f.out _ _ (Below.refl _ _) rfl
    ·have d2:=l ⟨2,.data⟩ (by simp) rfl;dsimp only[Zdc]at d2;generalize x 2=z2 at *;subst d2;have q1:b.cell? ⟨w.heap.size,1,Yb⟩=Ya (Yd Yf n):=(BP.out b p).cell 1;have q2:b.cell? ⟨w.heap.size,2,Yb⟩=Ya (Yd Yf d):=(BP.out b p).cell 2;go_simp;exact f.out _ _ (Below.refl _ _) rfl
    ·have q0:b.cell? ⟨w.heap.size+1,0,Yb⟩=Ya (Yd Yf c):=(X.out b p).cell 0;have q1:b.cell? ⟨w.heap.size+1,1,Yb⟩=Ya (Yd Yf h):=(X.out b p).cell 1;go_simp;exact f.out _ _ (Below.refl _ _) rfl
    ·have H:=l ⟨4,.data⟩ (by simp) rfl;dsimp only[Zdc]at H;generalize x 4=z4 at *;subst H;go_simp;go_at_call 13;refine(Zes c h b B.out.1 B.out.2.1).mono ?_;rintro A y ⟨rfl,a⟩;go_wp2_with fail;exact f.out _ _ a rfl
    ·have d1:=l ⟨1,.data⟩ (by simp) rfl;have G:=l ⟨3,.data⟩ (by simp) rfl;have I:=l ⟨5,.data⟩ (by simp) rfl;dsimp only[Zdc]at d1 G I;generalize x 1=z1 at *;generalize x 3=z3 at *;generalize x 5=z5 at *;subst d1 G I;go_simp;go_at_call 11;refine(Zd3 1 n d (-c) h b).mono ?_;rintro A y ⟨⟨v,rfl,D⟩,a⟩;go_wp2_with fail;exact f.out _ _ a D
    ·have F:=l ⟨0,.data⟩ (by simp) rfl;have J:=l ⟨6,.data⟩ (by simp) rfl;dsimp only[Zdc]at F J;generalize x 0=z0 at *;generalize x 6=z6 at *;subst F;obtain⟨g6,rfl,B6⟩:=J;have CE:=zh (HE.out b z0 (Yc (Ya ⟨g6,0,Yb⟩) 1 1) _ (ZK 1 n d (-c) h) (HV.out.below p) B.out.2.2.1 B.out.2.2.2.1 (ZcE B6) B.out.2.2.2.2);dsimp only[ZK]at CE;go_simp;go_at_call 14;refine CE.out.mono ?_;rintro A y ⟨rfl,a⟩;go_wp2_with fail;exact f.out _ _ a (congrArg (Value.int Yf) O.out)
    ·have K:=l ⟨7,.data⟩ (by simp) rfl;dsimp only[Zdc]at K;generalize x 7=z7 at *;subst K;go_simp;exact f.out _ _ (Below.refl _ _) rfl
   ·intro x b p M;have h8:=M 8 (by decide);dsimp only[Zdc]at h8;generalize x 8=z8 at *;subst h8;clear M;go_wp2_with fail;go_ret;exact⟨by rw[<-HZ.out];rfl,P.out.trans (p.mono P.out.size)⟩
theorem Zdr (n d:Int) (w:World):Calls Tryz.prog 15 #[Yd Yf n,Yd Yf d] w fun e w'=>e=.returned (Zb n d)/\Below w.heap.size w w':=by go_enter Tryz.func15,Tryz.ntmps15;go_wp2_with fail;exact bodyPost_ret (v:=Zb n d) (by simp[results,Tryz.results15,go_sem]) rfl ⟨rfl,below_alloc1 _ _⟩
end Go.Proofs.YtbfnnolakggbfaaGreatDoor
