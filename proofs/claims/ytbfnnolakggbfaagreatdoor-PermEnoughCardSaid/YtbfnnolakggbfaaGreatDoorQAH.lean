import Derived.Deep.DeepFit
import Derived.Test.YtbfnnolakggbfaaGreatDoorQAG
set_option maxRecDepth 100000
set_option maxHeartbeats 8000000
open Option renaming some → Ya, none → Yb
open Go.Value renaming slice → Yc, int → Yd
open Go.IntKind renaming i64 → Yf
open Go renaming World → Yh, Value → Yi
open Go.RowKit
namespace Go.Proofs.YtbfnnolakggbfaaGreatDoor
structure BoxF (w w1:Yh) (x y z:Yi):Prop where
 c0:w1.cell? ⟨w.heap.size,0,Yb⟩=Ya x
 c1:w1.cell? ⟨w.heap.size,1,Yb⟩=Ya y
 c2:w1.cell? ⟨w.heap.size,2,Yb⟩=Ya z
 i0:w1.cell? ⟨w.heap.size+1,0,Yb⟩=Ya (Yd Yf 0)
 i1:w1.cell? ⟨w.heap.size+1,1,Yb⟩=Ya (Yd Yf 0)
 j0:w1.frozen? ⟨w.heap.size+1,0,Yb⟩=false
 j1:w1.frozen? ⟨w.heap.size+1,1,Yb⟩=false
 size:w.heap.size+1<w1.heap.size
 below:Below w.heap.size w w1
theorem BoxF.start (w:Yh) (A:Option Addr) (n c:Nat) (B:Option Addr) (m d:Nat) (s:Bool) (ty a:TypeId):BoxF w ((w.alloc (.cells #[Yc A n c,Yc B m d,.bool s] ty)).alloc (.cells #[Yd Yf 0,Yd Yf 0] a)) (Yc A n c) (Yc B m d) (.bool s) where
 c0:=by go_simp
 c1:=by go_simp
 c2:=by go_simp
 i0:=by go_simp
 i1:=by go_simp
 j0:=by go_simp
 j1:=by go_simp
 size:=by simp
 below:=below_alloc2 _ _ _
theorem BoxF.keep {w b c:Yh} {x y z:Yi} (h:BoxF w b x y z) (a:Below b.heap.size b c):BoxF w c x y z:=
 have s:=h.size;have t:=a.size
 {c0:=Zd a (by omega) h.c0,c1:=Zd a (by omega) h.c1,c2:=Zd a (by omega) h.c2
  i0:=Zd a (by omega) h.i0,i1:=Zd a (by omega) h.i1,j0:=Zo a (by omega) h.j0,j1:=Zo a (by omega) h.j1
  size:=by omega,below:=h.below.trans (a.mono (by omega)) }
theorem Zp.any (v:Yi):Zp 0 v:=fun _ _=>Nat.zero_le _
def toV (N D:Nat) (m:Bool):Yi:=.tuple #[Zb (ZbH m (N / Nat.gcd N D) (D / Nat.gcd N D)) (Zb0 (N / Nat.gcd N D) (D / Nat.gcd N D)),Yd Yf (ZbS (N / Nat.gcd N D) (D / Nat.gcd N D))]
theorem Zji (w:Yh) (B:Nat) (v:Yi) (N D:Nat) (m:Bool) (h:ZcT w B v N D m) (W:(bitsOf N).length<=298) (S:(bitsOf D).length<=298) (z:0<D) :
  Calls Tryz.prog 84 #[v] w fun e w'=>e=.returned (toV N D m)/\Below w.heap.size w w':=by
 obtain⟨vn,vd,rfl,Y,X,_,_⟩:=h;have ab:=Y;have aa:=X;obtain⟨A,c,rfl,_,_,_⟩:=ab;obtain⟨E,d,rfl,_,_,_⟩:=aa;have a:=BoxF.start w A (bitsOf N).length c E (bitsOf D).length d m 127 23;have C:0<Nat.gcd N D:=Nat.gcd_pos_of_pos_right _ z;have F:(bitsOf (Nat.gcd N D)).length<=298:=Nat.le_trans (Zhd (Nat.le_of_dvd z (Nat.gcd_dvd_right N D))) S;have T:(bitsOf (N / Nat.gcd N D)).length<=298:=Nat.le_trans (Zhd (Nat.div_le_self _ _)) W;have U:(bitsOf (D / Nat.gcd N D)).length<=298:=Nat.le_trans (Zhd (Nat.div_le_self _ _)) S;have V:=fun(l:Yh) (f:Below w.heap.size w l)=>ZiR l _ _ N D (Y.below f) (X.below f) W S 0 (Nat.zero_le _) (Zp.any _) (Zp.any _);have d1:=fun(l:Yh) (g:Yi) (f:Below w.heap.size w l) (k:Zi l g (bitsOf (Nat.gcd N D)))=>Zju l _ _ N (Nat.gcd N D) (Y.below f) k W F C;have d2:=fun(l:Yh) (g:Yi) (f:Below w.heap.size w l) (k:Zi l g (bitsOf (Nat.gcd N D)))=>Zju l _ _ D (Nat.gcd N D) (X.below f) k S F C;have M:=fun(l:Yh) (g:Yi) (k:Zi l g (bitsOf (N / Nat.gcd N D)))=>ZkE l g _ k T;have v2:=fun(l:Yh) (g:Yi) (k:Zi l g (bitsOf (D / Nat.gcd N D)))=>ZkE l g _ k U;unfold toV;generalize N / Nat.gcd N D=P at *;generalize D / Nat.gcd N D=Q at *;clear Y X W S z C F T U;by_cases Z:P<9223372036854775808
 ·by_cases hQ:Q<9223372036854775808
  ·have s:ZfF P=.tuple #[Yd Yf P,.bool true]:=if_pos Z;have t:ZfF Q=.tuple #[Yd Yf Q,.bool true]:=if_pos hQ;have j:P<=9223372036854775807/\Q<=9223372036854775807:=⟨by omega,by omega⟩
   have u:ZbH m P Q=(if m then -(P:Int)else P):=if_pos j;have x:Zb0 P Q=Q:=if_pos j;have y:ZbS P Q=0:=if_pos j;rw[s]at M;rw[t]at v2;rw[u,x,y];clear j u x y s t;cases m
   ·go_enter Tryz.func84,Tryz.ntmps84;go_upto_region 1 with fail;have k1:=V _ a.below;obtain⟨c0,c1,c2,i0,i1,j0,j1,_,_⟩:=id a
    go_wp2_with (first
     |(go_at_call 58;go_fit k1;rintro e l ⟨g,rfl,k,f,_⟩;have a:=a.keep f;clear f;obtain⟨c0,c1,c2,i0,i1,j0,j1,_,_⟩:=id a;have k2:=d1 l g a.below k)
     |(go_at_call 92;go_fit k2;rintro e O ⟨K,r1,rfl,i,G,f,_⟩;have a:=a.keep f;have k:=k.below f;clear k2;obtain⟨c0,c1,c2,i0,i1,j0,j1,_,_⟩:=id a;have p:=d2 O g a.below k)
     |(go_at_call 92;go_fit p;rintro e r ⟨L,r2,rfl,o,H,f,_⟩;have a:=a.keep f;have i:=i.below f;clear p;obtain⟨c0,c1,c2,i0,i1,j0,j1,_,_⟩:=id a;have I:=M r K i;have J:=v2 r L o)
     |(go_at_call 130;go_fit I;rintro e R ⟨rfl,rfl⟩)
     |(go_at_call 130;go_fit J;rintro e R ⟨rfl,rfl⟩))
    exact bodyPost_ret (v:=.tuple #[Zb (P:Int) (Q:Int),Yd Yf 0]) (by simp[results,Tryz.results84,go_sem,i0,i1]) rfl ⟨rfl,(a.below.setCell (by show w.heap.size<=w.heap.size+1;omega) _).setCell (by show w.heap.size<=w.heap.size+1;omega) _⟩
   ·go_enter Tryz.func84,Tryz.ntmps84;go_upto_region 1 with fail;have k1:=V _ a.below;obtain⟨c0,c1,c2,i0,i1,j0,j1,_,_⟩:=id a
    go_wp2_with (first
     |(go_at_call 58;go_fit k1;rintro e l ⟨g,rfl,k,f,_⟩;have a:=a.keep f;clear f;obtain⟨c0,c1,c2,i0,i1,j0,j1,_,_⟩:=id a;have k2:=d1 l g a.below k)
     |(go_at_call 92;go_fit k2;rintro e O ⟨K,r1,rfl,i,G,f,_⟩;have a:=a.keep f;have k:=k.below f;clear k2;obtain⟨c0,c1,c2,i0,i1,j0,j1,_,_⟩:=id a;have p:=d2 O g a.below k)
     |(go_at_call 92;go_fit p;rintro e r ⟨L,r2,rfl,o,H,f,_⟩;have a:=a.keep f;have i:=i.below f;clear p;obtain⟨c0,c1,c2,i0,i1,j0,j1,_,_⟩:=id a;have I:=M r K i;have J:=v2 r L o)
     |(go_at_call 130;go_fit I;rintro e R ⟨rfl,rfl⟩)
     |(go_at_call 130;go_fit J;rintro e R ⟨rfl,rfl⟩))
    exact bodyPost_ret (v:=.tuple #[Zb (-(P:Int)) (Q:Int),Yd Yf 0]) (by simp[results,Tryz.results84,go_sem,i0,i1]) rfl ⟨rfl,(a.below.setCell (by show w.heap.size<=w.heap.size+1;omega) _).setCell (by show w.heap.size<=w.heap.size+1;omega) _⟩
  ·have s:ZfF P=.tuple #[Yd Yf P,.bool true]:=if_pos Z;have t:ZfF Q=.tuple #[Yd Yf 0,.bool false]:=if_neg hQ;have j:¬(P<=9223372036854775807/\Q<=9223372036854775807):=by omega
   have u:ZbH m P Q=0:=if_neg j;have x:Zb0 P Q=0:=if_neg j;have y:ZbS P Q=3:=if_neg j;rw[s]at M;rw[t]at v2;rw[u,x,y];clear j u x y s t;go_enter Tryz.func84,Tryz.ntmps84;go_upto_region 1 with fail;have k1:=V _ a.below;obtain⟨c0,c1,c2,i0,i1,j0,j1,_,_⟩:=id a
   go_wp2_with (first
    |(go_at_call 58;go_fit k1;rintro e l ⟨g,rfl,k,f,_⟩;have a:=a.keep f;clear f;obtain⟨c0,c1,c2,i0,i1,j0,j1,_,_⟩:=id a;have k2:=d1 l g a.below k)
    |(go_at_call 92;go_fit k2;rintro e O ⟨K,r1,rfl,i,G,f,_⟩;have a:=a.keep f;have k:=k.below f;clear k2;obtain⟨c0,c1,c2,i0,i1,j0,j1,_,_⟩:=id a;have p:=d2 O g a.below k)
    |(go_at_call 92;go_fit p;rintro e r ⟨L,r2,rfl,o,H,f,_⟩;have a:=a.keep f;have i:=i.below f;clear p;obtain⟨c0,c1,c2,i0,i1,j0,j1,_,_⟩:=id a;have I:=M r K i;have J:=v2 r L o)
    |(go_at_call 130;go_fit I;rintro e R ⟨rfl,rfl⟩)
    |(go_at_call 130;go_fit J;rintro e R ⟨rfl,rfl⟩))
   exact bodyPost_ret (v:=.tuple #[Zb 0 0,Yd Yf 3]) (by simp[results,Tryz.results84,go_sem,i0,i1]) rfl ⟨rfl,(a.below.setCell (by show w.heap.size<=w.heap.size+1;omega) _).setCell (by show w.heap.size<=w.heap.size+1;omega) _⟩
 ·have s:ZfF P=.tuple #[Yd Yf 0,.bool false]:=if_neg Z;obtain⟨nq,bq,t⟩:∃(n:Int) (b:Bool),ZfF Q=.tuple #[Yd Yf n,.bool b]:=by
   unfold ZfF
   split
   ·exact⟨_,_,rfl⟩
   ·exact⟨_,_,rfl⟩
  have j:¬(P<=9223372036854775807/\Q<=9223372036854775807):=by omega
  have u:ZbH m P Q=0:=if_neg j;have x:Zb0 P Q=0:=if_neg j;have y:ZbS P Q=3:=if_neg j;rw[s]at M;rw[t]at v2;rw[u,x,y];clear j u x y s t;go_enter Tryz.func84,Tryz.ntmps84;go_upto_region 1 with fail;have k1:=V _ a.below;obtain⟨c0,c1,c2,i0,i1,j0,j1,_,_⟩:=id a
  go_wp2_with (first
   |(go_at_call 58;go_fit k1;rintro e l ⟨g,rfl,k,f,_⟩;have a:=a.keep f;clear f;obtain⟨c0,c1,c2,i0,i1,j0,j1,_,_⟩:=id a;have k2:=d1 l g a.below k)
   |(go_at_call 92;go_fit k2;rintro e O ⟨K,r1,rfl,i,G,f,_⟩;have a:=a.keep f;have k:=k.below f;clear k2;obtain⟨c0,c1,c2,i0,i1,j0,j1,_,_⟩:=id a;have p:=d2 O g a.below k)
   |(go_at_call 92;go_fit p;rintro e r ⟨L,r2,rfl,o,H,f,_⟩;have a:=a.keep f;have i:=i.below f;clear p;obtain⟨c0,c1,c2,i0,i1,j0,j1,_,_⟩:=id a;have I:=M r K i;have J:=v2 r L o)
   |(go_at_call 130;go_fit I;rintro e R ⟨rfl,rfl⟩)
   |(go_at_call 130;go_fit J;rintro e R ⟨rfl,rfl⟩))
  exact bodyPost_ret (v:=.tuple #[Zb 0 0,Yd Yf 3]) (by simp[results,Tryz.results84,go_sem,i0,i1]) rfl ⟨rfl,(a.below.setCell (by show w.heap.size<=w.heap.size+1;omega) _).setCell (by show w.heap.size<=w.heap.size+1;omega) _⟩
theorem Zqe {w a b:Yh} {d e f y0 y1 i z0 j z2:Yi} (c:Below a.heap.size a b)
  (h:(a.cell? ⟨w.heap.size,0,Yb⟩=Ya d/\a.cell? ⟨w.heap.size,1,Yb⟩=Ya e/\a.cell? ⟨w.heap.size,2,Yb⟩=Ya f/\a.cell? ⟨w.heap.size+1,0,Yb⟩=Ya y0/\a.cell? ⟨w.heap.size+1,1,Yb⟩=Ya y1/\a.cell? ⟨w.heap.size+1,2,Yb⟩=Ya i/\a.cell? ⟨w.heap.size+1+1,0,Yb⟩=Ya z0/\a.cell? ⟨w.heap.size+1+1,1,Yb⟩=Ya j/\a.cell? ⟨w.heap.size+1+1,2,Yb⟩=Ya z2)/\w.heap.size+2<a.heap.size/\Below w.heap.size w a/\(a.frozen? ⟨w.heap.size+1+1,0,Yb⟩=false/\a.frozen? ⟨w.heap.size+1+1,1,Yb⟩=false/\a.frozen? ⟨w.heap.size+1+1,2,Yb⟩=false)) :
  (b.cell? ⟨w.heap.size,0,Yb⟩=Ya d/\b.cell? ⟨w.heap.size,1,Yb⟩=Ya e/\b.cell? ⟨w.heap.size,2,Yb⟩=Ya f/\b.cell? ⟨w.heap.size+1,0,Yb⟩=Ya y0/\b.cell? ⟨w.heap.size+1,1,Yb⟩=Ya y1/\b.cell? ⟨w.heap.size+1,2,Yb⟩=Ya i/\b.cell? ⟨w.heap.size+1+1,0,Yb⟩=Ya z0/\b.cell? ⟨w.heap.size+1+1,1,Yb⟩=Ya j/\b.cell? ⟨w.heap.size+1+1,2,Yb⟩=Ya z2)/\w.heap.size+2<b.heap.size/\Below w.heap.size w b/\(b.frozen? ⟨w.heap.size+1+1,0,Yb⟩=false/\b.frozen? ⟨w.heap.size+1+1,1,Yb⟩=false/\b.frozen? ⟨w.heap.size+1+1,2,Yb⟩=false):=by
 obtain⟨⟨a0,l,a2,a3,a4,a5,m,n,o⟩,g,k,⟨m0,p,r⟩⟩:=h;have s:=c.size;exact⟨⟨Zd c (by omega) a0,Zd c (by omega) l,Zd c (by omega) a2,Zd c (by omega) a3,Zd c (by omega) a4,Zd c (by omega) a5,Zd c (by omega) m,Zd c (by omega) n,Zd c (by omega) o⟩,by omega,k.trans (c.mono k.size),⟨Zo c (by omega) m0,Zo c (by omega) p,Zo c (by omega) r⟩⟩
structure BoxS (w w1:Yh) (x0 x1 x2 y0 y1 y2 z0 z1 z2:Yi):Prop where
 c0:w1.cell? ⟨w.heap.size,0,Yb⟩=Ya x0
 c1:w1.cell? ⟨w.heap.size,1,Yb⟩=Ya x1
 c2:w1.cell? ⟨w.heap.size,2,Yb⟩=Ya x2
 d0:w1.cell? ⟨w.heap.size+1,0,Yb⟩=Ya y0
 d1:w1.cell? ⟨w.heap.size+1,1,Yb⟩=Ya y1
 d2:w1.cell? ⟨w.heap.size+1,2,Yb⟩=Ya y2
 i0:w1.cell? ⟨w.heap.size+1+1,0,Yb⟩=Ya z0
 i1:w1.cell? ⟨w.heap.size+1+1,1,Yb⟩=Ya z1
 i2:w1.cell? ⟨w.heap.size+1+1,2,Yb⟩=Ya z2
 j0:w1.frozen? ⟨w.heap.size+1+1,0,Yb⟩=false
 j1:w1.frozen? ⟨w.heap.size+1+1,1,Yb⟩=false
 j2:w1.frozen? ⟨w.heap.size+1+1,2,Yb⟩=false
 size:w.heap.size+2<w1.heap.size
 below:Below w.heap.size w w1
theorem BoxS.keep {w b c:Yh} {d e f y0 y1 g z0 i z2:Yi} (h:BoxS w b d e f y0 y1 g z0 i z2) (a:Below b.heap.size b c):BoxS w c d e f y0 y1 g z0 i z2:=
 have s:=h.size;have t:=a.size
 {c0:=Zd a (by omega) h.c0,c1:=Zd a (by omega) h.c1,c2:=Zd a (by omega) h.c2
  d0:=Zd a (by omega) h.d0,d1:=Zd a (by omega) h.d1,d2:=Zd a (by omega) h.d2
  i0:=Zd a (by omega) h.i0,i1:=Zd a (by omega) h.i1,i2:=Zd a (by omega) h.i2
  j0:=Zo a (by omega) h.j0,j1:=Zo a (by omega) h.j1,j2:=Zo a (by omega) h.j2
  size:=by omega,below:=h.below.trans (a.mono (by omega)) }
structure FracBox (w1:Yh) (b:Nat) (x y z:Yi):Prop where
 k0:w1.cell? ⟨b,0,Yb⟩=Ya x
 k1:w1.cell? ⟨b,1,Yb⟩=Ya y
 k2:w1.cell? ⟨b,2,Yb⟩=Ya z
 l0:w1.frozen? ⟨b,0,Yb⟩=false
 l1:w1.frozen? ⟨b,1,Yb⟩=false
 l2:w1.frozen? ⟨b,2,Yb⟩=false
 lt:b<w1.heap.size
theorem FracBox.keep {c d:Yh} {b:Nat} {x y z:Yi} (h:FracBox c b x y z) (a:Below c.heap.size c d):FracBox d b x y z:=
 have t:=a.size;have l:=h.lt
 {k0:=Zd a l h.k0,k1:=Zd a l h.k1,k2:=Zd a l h.k2,l0:=Zo a l h.l0,l1:=Zo a l h.l1,l2:=Zo a l h.l2,lt:=by omega }
theorem FracBox.start (w:Yh) (x y z:Yi) (ty:TypeId):FracBox (w.alloc (.cells #[x,y,z] ty)) w.heap.size x y z where
 k0:=by go_simp
 k1:=by go_simp
 k2:=by go_simp
 l0:=by go_simp
 l1:=by go_simp
 l2:=by go_simp
 lt:=by simp
theorem Zm4 {w a:Yh} {b c d y0 y1 e z0 f z2:Yi} (h:(a.cell? ⟨w.heap.size,0,Yb⟩=Ya b/\a.cell? ⟨w.heap.size,1,Yb⟩=Ya c/\a.cell? ⟨w.heap.size,2,Yb⟩=Ya d/\a.cell? ⟨w.heap.size+1,0,Yb⟩=Ya y0/\a.cell? ⟨w.heap.size+1,1,Yb⟩=Ya y1/\a.cell? ⟨w.heap.size+1,2,Yb⟩=Ya e/\a.cell? ⟨w.heap.size+1+1,0,Yb⟩=Ya z0/\a.cell? ⟨w.heap.size+1+1,1,Yb⟩=Ya f/\a.cell? ⟨w.heap.size+1+1,2,Yb⟩=Ya z2)/\w.heap.size+2<a.heap.size/\Below w.heap.size w a/\(a.frozen? ⟨w.heap.size+1+1,0,Yb⟩=false/\a.frozen? ⟨w.heap.size+1+1,1,Yb⟩=false/\a.frozen? ⟨w.heap.size+1+1,2,Yb⟩=false)):BoxS w a b c d y0 y1 e z0 f z2:=by obtain⟨⟨a0,i,a2,a3,a4,a5,j,l,m⟩,g,k,m0,n,o⟩:=h;exact⟨a0,i,a2,a3,a4,a5,j,l,m,m0,n,o,g,k⟩
theorem Zkw {w a:Yh} {A B C:Prop} (h:A/\B/\Below w.heap.size w a/\C):Below w.heap.size w a:=h.2.2.1
theorem Zhu {w wc e f:Yh} {b T Z:Nat} {v d:Yi} {S:Bool} (j:∀w',Below b wc w'->Zi w' d (bitsOf Z)) (a:Zp (w.heap.size+3) d) (g:Below b wc e) (h:Below e.heap.size e f)
  (o:Zi f v (bitsOf T)) (k:Zp e.heap.size v) (m:b<e.heap.size) (n:w.heap.size+2<b) (i:Below w.heap.size w f) (x y:Yi) :
  Zjk w T Z S (.returned (.agg #[v,d,.bool S])) (((((f.setCell ⟨b,0,Yb⟩ x).setCell ⟨b,2,Yb⟩ y).setCell ⟨w.heap.size+1+1,0,Yb⟩ v).setCell ⟨w.heap.size+1+1,1,Yb⟩ d).setCell ⟨w.heap.size+1+1,2,Yb⟩ (.bool S)):=by
 have c:=k.mono (B':=b+1) (by omega);refine⟨_,rfl,⟨v,d,rfl,?_,?_,c.mono (by omega),a.mono (by omega)⟩,?_⟩
 ·exact((((o.setCell c (Nat.lt_succ_self _) _).setCell c (Nat.lt_succ_self _) _).setCell c (by show w.heap.size+1+1<_;omega) _).setCell c (by show w.heap.size+1+1<_;omega) _).setCell c (by show w.heap.size+1+1<_;omega) _
 ·have l:=j _ (((g.trans (h.mono (by omega))).setCell (p:=⟨b,0,Yb⟩) (Nat.le_refl _) x).setCell (p:=⟨b,2,Yb⟩) (Nat.le_refl _) y);exact((l.setCell a (by show w.heap.size+1+1<_;omega) _).setCell a (by show w.heap.size+1+1<_;omega) _).setCell a (by show w.heap.size+1+1<_;omega) _
 ·exact((((i.setCell (by show w.heap.size<=b;omega) _).setCell (by show w.heap.size<=b;omega) _).setCell (by show w.heap.size<=w.heap.size+1+1;omega) _).setCell (by show w.heap.size<=w.heap.size+1+1;omega) _).setCell (by show w.heap.size<=w.heap.size+1+1;omega) _
theorem ZiF (w:Yh) (Ba Bb:Nat) (va vb:Yi) (N D M E:Nat) (s t:Bool) (ha:ZcT w Ba va N D s) (p:ZcT w Bb vb M E t)
  (hN:(bitsOf N).length<=70) (hD:(bitsOf D).length<=70) (hM:(bitsOf M).length<=70) (hE:(bitsOf E).length<=70) :
  Calls Tryz.prog 85 #[va,vb] w (Zjk w (Zba s (N*E) t (M*D)) (D*E) (ZbI s (N*E) t (M*D))):=by
 obtain⟨v1,v2,rfl,h1,h2,_,_⟩:=ha;obtain⟨v3,v4,rfl,h3,h4,_,_⟩:=p;have m1:=fun(F:Yh) (p:Below w.heap.size w F)=>ZdY F _ _ N E (h1.below p) (h4.below p) (by omega);have m2:=fun(F:Yh) (p:Below w.heap.size w F)=>ZdY F _ _ M D (h3.below p) (h2.below p) (by omega);have m3:=fun(F:Yh) (p:Below w.heap.size w F)=>ZdY F _ _ D E (h2.below p) (h4.below p) (by omega);have l1:=(Zfj (a:=N) (lb:=bitsOf E) (k:=0) rfl 140 (by omega)).2;have l2:=(Zfj (a:=M) (lb:=bitsOf D) (k:=0) rfl 140 (by omega)).2;have l3:=(Zfj (a:=D) (lb:=bitsOf E) (k:=0) rfl 140 (by omega)).2;rw[List.drop_zero,Zab]at l1 l2 l3;obtain⟨A1,e1,rfl,_,_,_⟩:=h1;obtain⟨A2,e2,rfl,_,_,_⟩:=h2;obtain⟨A3,e3,rfl,_,_,_⟩:=h3;obtain⟨A4,e4,rfl,_,_,_⟩:=h4;obtain⟨T,hT⟩:∃T,T=Zba s (N*E) t (M*D):=⟨_,rfl⟩
 obtain⟨S,hS⟩:∃S,S=ZbI s (N*E) t (M*D):=⟨_,rfl⟩
 rw[<-hT,<-hS];unfold Zba at hT;unfold ZbI at hS;generalize N*E=X at *;generalize M*D=Y at *;generalize D*E=Z at *;have L:=Lib.hid (And.intro l1 (And.intro l2 l3));have HT:=Lib.hid (And.intro hT hS);clear l1 l2 l3 hN hD hM hE hT hS;go_enter Tryz.func85,Tryz.ntmps85;go_upto_region 1 with fail
 go_region_held3 (fun g=>(g.cell? ⟨w.heap.size,0,Yb⟩=Ya (Yc A1 (bitsOf N).length e1)/\g.cell? ⟨w.heap.size,1,Yb⟩=Ya (Yc A2 (bitsOf D).length e2)/\g.cell? ⟨w.heap.size,2,Yb⟩=Ya (.bool s)/\g.cell? ⟨w.heap.size+1,0,Yb⟩=Ya (Yc A3 (bitsOf M).length e3)/\g.cell? ⟨w.heap.size+1,1,Yb⟩=Ya (Yc A4 (bitsOf E).length e4)/\g.cell? ⟨w.heap.size+1,2,Yb⟩=Ya (.bool t)/\g.cell? ⟨w.heap.size+1+1,0,Yb⟩=Ya (Yc Yb 0 0)/\g.cell? ⟨w.heap.size+1+1,1,Yb⟩=Ya (Yc Yb 0 0)/\g.cell? ⟨w.heap.size+1+1,2,Yb⟩=Ya (.bool false))/\w.heap.size+2<g.heap.size/\Below w.heap.size w g/\(g.frozen? ⟨w.heap.size+1+1,0,Yb⟩=false/\g.frozen? ⟨w.heap.size+1+1,1,Yb⟩=false/\g.frozen? ⟨w.heap.size+1+1,2,Yb⟩=false))
  (first
   |with_reducible assumption
   |with_reducible exact Zqe (by with_reducible assumption) (by with_reducible assumption)
   |exact⟨⟨by go_simp,by go_simp,by go_simp,by go_simp,by go_simp,by go_simp,by go_simp,by go_simp,by go_simp⟩,by simp,(((Below.refl _ _).alloc (Nat.le_refl _) _).alloc (by simp) _|>.alloc (by simp;omega) _).drew,⟨by go_simp,by go_simp,by go_simp⟩⟩)
  (first
   |(go_at_call 86;go_fit (m1 _ (Zkw (by with_reducible assumption)));rintro e wa ⟨x,rfl,u,bl,fx⟩)
   |(go_at_call 86;go_fit (m2 _ (Zkw (by with_reducible assumption)));rintro e wb ⟨y,rfl,I,U,fy⟩))
 have d:=Zm4 (by with_reducible assumption);have u:=u.below U;have k3:=m3 wb d.below;obtain⟨c0,c1,c2,d0,d1,d2,_,_,_,_,_,_,_,_⟩:=id d
 go_upto_region 3 with(first
  |(go_at_call 86;go_fit k3;rintro e wc ⟨z,rfl,hz,r,fz⟩;have am:=hz;obtain⟨G,H,rfl,_⟩:=am))
 have d:=(d.keep r).keep (below_alloc1 wc (.cells #[Yc Yb 0 0,Yc G (bitsOf Z).length H,.bool false] 127));have o:=FracBox.start wc (Yc Yb 0 0) (Yc G (bitsOf Z).length H) (.bool false) 127;have l:=below_alloc1 wc (.cells #[Yc Yb 0 0,Yc G (bitsOf Z).length H,.bool false] 127);have J:=fun(g:Yh) (h:Below wc.heap.size wc g)=>hz.below h;have u:=(u.below r).below l;have I:=(I.below r).below l;clear hz;have U:=d.below;generalize wc.alloc (.cells #[Yc Yb 0 0,Yc G (bitsOf Z).length H,.bool false] 127)=A at *;have aa:w.heap.size+2<wb.heap.size:=(Zm4 (by with_reducible assumption)).size;have W:w.heap.size+2<wc.heap.size:=by have:=r.size;omega
 have V:=fz.mono (B':=w.heap.size+3) (by omega);clear fz aa;generalize wc.heap.size=b at *;have n0:¬w.heap.size=b:=by omega
 have n1:¬w.heap.size+1=b:=by omega
 have n2:¬w.heap.size+1+1=b:=by omega
 obtain⟨c0,c1,c2,d0,d1,d2,i0,i1,i2,j0,j1,j2,_,_⟩:=id d;have K:=Lib.hid (And.intro W V);have HB:=Lib.hid o.lt;clear W V;by_cases f:s=t
 ·have ak:(s==t)=true:=by simpa using f
  have ad:=Zjp A x y X Y u I (by have:=L.out;omega) (by have:=L.out;omega);have j:T=X+Y/\S=s:=by obtain⟨B,a2⟩:=HT.out;rw[if_pos f]at B a2;exact⟨B,a2⟩
  obtain⟨rfl,rfl⟩:=j;clear f
  go_wp2_with (first
   |(go_at_call 93;go_fit ad;rintro e O ⟨v,rfl,C,c,R⟩;have n:=C;obtain⟨P,Q,rfl,_⟩:=n;have d:=d.keep c;have o:=o.keep c;obtain⟨c0,c1,c2,d0,d1,d2,i0,i1,i2,j0,j1,j2,_,_⟩:=id d;obtain⟨k0,k1,k2,l0,l1,l2,_⟩:=id o))
  exact bodyPost_ret (v:=.agg #[Yc P (bitsOf (X+Y)).length Q,Yc G (bitsOf Z).length H,.bool S]) (by simp[results,Tryz.results85,go_sem,i0,i1,i2]) rfl (Zhu J K.out.2 l c C R HB.out K.out.1 d.below _ _)
 ·have ak:(s==t)=false:=by simpa using f
  by_cases i:X<Y
  ·have m:decide (X<Y)=true:=decide_eq_true i;have ls:=Ziw A x y X Y u I;rw[m]at ls;have sb:=fun(q:Nat)=>ZjK (A.drewN q) y x Y X (I.drewN q) (u.drewN q) (by have:=L.out;omega) (by have:=L.out;omega) (by omega);have j:T=Y-X/\S=t:=by obtain⟨B,a2⟩:=HT.out;rw[if_neg f,if_pos i]at B a2;exact⟨B,a2⟩
   obtain⟨rfl,rfl⟩:=j;clear f i m
   go_wp2_with (first
    |(go_at_call 131;go_fit ls;rintro e O ⟨rfl,q,rfl⟩;have sq:=sb q)
    |(go_at_call 132;go_fit sq;rintro e O ⟨v,rfl,C,c,R⟩;have c:Below A.heap.size A O:=⟨c.os,c.tape,c.output,c.size,c.block⟩;have n:=C;obtain⟨P,Q,rfl,_⟩:=n;have d:=d.keep c;have o:=o.keep c;obtain⟨c0,c1,c2,d0,d1,d2,i0,i1,i2,j0,j1,j2,_,_⟩:=id d;obtain⟨k0,k1,k2,l0,l1,l2,_⟩:=id o))
   exact bodyPost_ret (v:=.agg #[Yc P (bitsOf (Y-X)).length Q,Yc G (bitsOf Z).length H,.bool S]) (by simp[results,Tryz.results85,go_sem,i0,i1,i2]) rfl (Zhu J K.out.2 l c C R HB.out K.out.1 d.below _ _)
  ·have m:decide (X<Y)=false:=decide_eq_false i;have ls:=Ziw A x y X Y u I;rw[m]at ls;have sb:=fun(q:Nat)=>ZjK (A.drewN q) x y X Y (u.drewN q) (I.drewN q) (by have:=L.out;omega) (by have:=L.out;omega) (by omega);have j:T=X-Y/\S=s:=by obtain⟨B,a2⟩:=HT.out;rw[if_neg f,if_neg i]at B a2;exact⟨B,a2⟩
   obtain⟨rfl,rfl⟩:=j;clear f i m
   go_wp2_with (first
    |(go_at_call 131;go_fit ls;rintro e O ⟨rfl,q,rfl⟩;have sq:=sb q)
    |(go_at_call 132;go_fit sq;rintro e O ⟨v,rfl,C,c,R⟩;have c:Below A.heap.size A O:=⟨c.os,c.tape,c.output,c.size,c.block⟩;have n:=C;obtain⟨P,Q,rfl,_⟩:=n;have d:=d.keep c;have o:=o.keep c;obtain⟨c0,c1,c2,d0,d1,d2,i0,i1,i2,j0,j1,j2,_,_⟩:=id d;obtain⟨k0,k1,k2,l0,l1,l2,_⟩:=id o))
   exact bodyPost_ret (v:=.agg #[Yc P (bitsOf (X-Y)).length Q,Yc G (bitsOf Z).length H,.bool S]) (by simp[results,Tryz.results85,go_sem,i0,i1,i2]) rfl (Zhu J K.out.2 l c C R HB.out K.out.1 d.below _ _)
end Go.Proofs.YtbfnnolakggbfaaGreatDoor
