import Derived.Deep.DeepFit
import Derived.Test.YtbfnnolakggbfaaGreatDoorQAN
import Derived.Test.YtbfnnolakggbfaaGreatDoorQAO
set_option maxRecDepth 100000
set_option maxHeartbeats 8000000
open Option renaming some → Ya, none → Yb
open Go.Value renaming slice → Yc, int → Yd
open Go.IntKind renaming i64 → Yf
open Go.Obj renaming cells → Yg
open Go renaming World → Yh, Value → Yi
namespace Go.Proofs.YtbfnnolakggbfaaGreatDoor
section
open Go.RowKit
theorem Zc {w:Yh} {v:Yi} {l:List (Int×Int)} (h:Za w v l):∃A c,v=Yc A l.length c:=by obtain⟨A,c,rfl,_⟩:=h;exact⟨A,c,rfl⟩
def Za1 (h:How) (l m:List (Int×Int)) (kx a:Int×Int):List (Int×Int)×(Int×Int)×Int:=
 if(h kx a).2=0/\ZZ h l m (max l.length m.length)then(Zs (Zax h l m),(h kx a).1,0)else([],(0,0),3)
theorem Zjz (w:Yh) (x y:Int×Int) (b:OkR x) (c:OkR y) :
  Calls Tryz.prog 147 #[Zb x.1 x.2,Zb y.1 y.2] w fun r g=>r=.returned (.tuple #[Zb (Zl x y).1.1 (Zl x y).1.2,Yd Yf (Zl x y).2])/\Below w.heap.size w g:=by
 obtain⟨d,e,v⟩:=b;obtain⟨h,a,f⟩:=c;have:=ZjN v f w;unfold Zl Zcr;rw[e,a];exact this
theorem Znb (w:Yh) (x y:Int×Int) (b:OkR x) (c:OkR y) :
  Calls Tryz.prog 26 #[Zb x.1 x.2,Zb y.1 y.2] w fun r g=>r=.returned (.tuple #[Zb (ZP x y).1.1 (ZP x y).1.2,Yd Yf (ZP x y).2])/\Below w.heap.size w g:=by
 obtain⟨d,e,v⟩:=b;obtain⟨h,a,f⟩:=c;have:=Zhi v f w;unfold ZP Zcr;rw[e,a];exact this
theorem ZoZ (w:Yh) (x y a:Int×Int) (q:Nat) (h:OkR x) (g:OkR a) (hq:RatAt w q a.1 a.2) :
  Calls Tryz.prog 47 #[Zb x.1 x.2,Zb y.1 y.2,.pointer (Ya ⟨q,0,Yb⟩)] w fun r l=>r=.returned (.tuple #[Zb (Zt a x y).1.1 (Zt a x y).1.2,Yd Yf (Zt a x y).2])/\Below w.heap.size w l:=by
 have i:=fun w=>Znb w x a h g;unfold Zt;have k:=Lib.hid i;clear i h g;generalize(ZP x a).1.1=o at *;generalize(ZP x a).1.2=m at *;generalize(ZP x a).2=n at *;generalize x.1=c at *;generalize x.2=b at *;generalize y.1=f at *;generalize y.2=d at *;generalize a.1=s at *;generalize a.2=p at *;have B:Boxes w (((w.alloc (Yg #[Yd Yf c,Yd Yf b] 23)).alloc (Yg #[Yd Yf f,Yd Yf d] 23)).alloc (Yg #[Yd Yf 0,Yd Yf 0] 23)) c b f d:=Boxes.start w c b f d 0 23;have c0:=B.c0;have c1:=B.c1;have a0:Below w.heap.size w (((w.alloc (Yg #[Yd Yf c,Yd Yf b] 23)).alloc (Yg #[Yd Yf f,Yd Yf d] 23)).alloc (Yg #[Yd Yf 0,Yd Yf 0] 23)):=ZdA w (Yg #[Yd Yf c,Yd Yf b] 23) (Yg #[Yd Yf f,Yd Yf d] 23) (Yg #[Yd Yf 0,Yd Yf 0] 23) 0;have Q:=hq.keep a0;have k0:=Q.k0;have k1:=Q.k1;go_enter Tryz.func47,Tryz.ntmps47;go_wp2_with (go_at_call 26;go_fit (k.out _);rintro e t ⟨rfl,g⟩;have B:=B.keep g;have i0:=B.i0;have i1:=B.i1;have j0:=B.j0;have j1:=B.j1;have j:=Lib.hid B.below);exact bodyPost_ret (v:=.tuple #[Zb o m,Yd Yf n]) (by simp[results,Tryz.results47,go_sem,i0,i1]) rfl ⟨rfl,Zci j.out⟩
theorem Zch {w a:Yh} {l:List (Int×Int)} {k:Int×Int} {E:Int} {e:Ending} (h:ZaQ w l k E e a) :
  ∃A c,e=.returned (.tuple #[.agg #[Yc A l.length c,Yd Yf k.1,Yd Yf k.2],Yd Yf E])/\Za a (Yc A l.length c) l/\Below w.heap.size w a/\Zp w.heap.size (Yc A l.length c):=by
 obtain⟨v,he,b,d,f⟩:=h;obtain⟨A,c,rfl⟩:=Zc b;exact⟨A,c,he,b,d,f⟩
theorem Zcg {w e f:Yh} {v:Yi} {l:List (Int×Int)} {kn kd:Int} {b:Nat} (h:Za e v l) (g:Below w.heap.size w e) (c:Zp (b+1) v) (a:w.heap.size<=b) (d:f=((e.setCell ⟨b,0,Yb⟩ v).setCell ⟨b,1,Yb⟩ (Yd Yf kn)).setCell ⟨b,2,Yb⟩ (Yd Yf kd)) :
  Za f v l/\Below w.heap.size w f/\Zp w.heap.size v:=by
 subst d;exact⟨((h.setCell c (Nat.lt_succ_self b) _).setCell c (Nat.lt_succ_self b) _).setCell c (Nat.lt_succ_self b) _,((g.setCell a _).setCell a _).setCell a _,c.mono (by omega)⟩
theorem Zon (w:Yh) (r s:Yi) (l m:List (Int×Int)) (kx a:Int×Int) (t:Za w r l) (u:Za w s m) (D:ZC l) (hm:ZC m) (k:OkR kx) (n:OkR a) (J:l.length<=8) (f:m.length<=8) :
  Calls Tryz.prog 114 #[.agg #[r,Yd Yf kx.1,Yd Yf kx.2],.agg #[s,Yd Yf a.1,Yd Yf a.2]] w (ZaQ w (Za1 Zl l m kx a).1 (Za1 Zl l m kx a).2.1 (Za1 Zl l m kx a).2.2):=by
 have Q:=fun(b:Yh) (h:Below w.heap.size w b)=>ZbP b r l kx.1 kx.2 (t.below h) D.wide k.wide.1.1 k.wide.1.2 k.wide.2.1 k.wide.2.2;rw[Zav J D k]at Q;have R:=fun(b:Yh) (h:Below w.heap.size w b)=>ZbP b s m a.1 a.2 (u.below h) hm.wide n.wide.1.1 n.wide.1.2 n.wide.2.1 n.wide.2.2;rw[Zav f hm n]at R
 have co:=fun(b:Yh) (h:Below w.heap.size w b)=>show Calls Tryz.prog 45 #[.agg #[r,Yd Yf kx.1,Yd Yf kx.2],.agg #[s,Yd Yf a.1,Yd Yf a.2],.func (.func 147) #[] #[]] b (ZaQ b (Za1 Zl l m kx a).1 (Za1 Zl l m kx a).2.1 (Za1 Zl l m kx a).2.2)by
  unfold Za1
  split
  ·rename_i g
   exact Zmo b r s l m kx a (t.below h) (u.below h) D hm k n J f Zl (fun K _ x y=>Zjz K x y) g.1 g.2
  ·rename_i g
   exact Zmn b r s l m kx a (t.below h) (u.below h) D hm k n J f Zl Zbi (fun K _ x y=>Zjz K x y) g
 generalize Za1 Zl l m kx a=z at *;obtain⟨L,⟨T,S⟩,ze⟩:=z;dsimp only at *;have RA:=Lib.hid Q;have X:=Lib.hid R;have W:=Lib.hid co;obtain⟨A,c,rfl⟩:=Zc t;obtain⟨B,d,rfl⟩:=Zc u;clear Q R co t u D hm k n J f;generalize l.length=ll at *;generalize m.length=lm at *;obtain⟨xn,xd⟩:=kx;obtain⟨yn,yd⟩:=a;dsimp only at *;obtain⟨F,G,E,o⟩:=ZaD w (Yc A ll c) (Yd Yf xn) (Yd Yf xd) (Yc B lm d) (Yd Yf yn) (Yd Yf yd) (Yc Yb 0 0) (Yd Yf 0) (Yd Yf 0) 37;go_enter Tryz.func114,Tryz.ntmps114
 go_wp2_with (first
  |(go_at_call 44;(first
   |go_fit (RA.out _ o);rintro e w1 ⟨rfl,i⟩;have F:=F.keep i;have G:=G.keep i;have E:=E.keep i;have N:=o.trans (i.mono o.size);have k0:=F.k0;have k1:=F.k1;have k2:=F.k2;have m0:=G.k0;have m1:=G.k1;have m2:=G.k2
   |go_fit (X.out _ N);rintro e K ⟨rfl,j⟩;have F:=F.keep j;have G:=G.keep j;have E:=E.keep j;have O:=N.trans (j.mono N.size);have k0:=F.k0;have k1:=F.k1;have k2:=F.k2;have m0:=G.k0;have m1:=G.k1;have m2:=G.k2;have P:=E.lt))
  |(go_at_call 45;go_fit (W.out _ O);rintro e w3 H;obtain⟨U,c3,rfl,I,p,C⟩:=Zch H;clear H;have E:=E.keep p;have V:=O.trans (p.mono O.size);have Y:=E.k0;have Z:=E.k1;have e2:=E.k2;have l0:=E.l0;have l1:=E.l1;have l2:=E.l2;have M:=Lib.hid (And.intro I (And.intro V (C.mono P:Zp (w.heap.size+1+1+1) _)));clear I C p V))
 obtain⟨c0,c1,c2⟩:=Zag (x:=Yc U L.length c3) (y:=Yd Yf T) (z:=Yd Yf S) Y Z e2;obtain⟨r1,r2,r3⟩:=Zcg (w:=w) (kn:=T) (kd:=S) M.out.1 M.out.2.1 M.out.2.2 (by omega) rfl;exact bodyPost_ret (v:=.tuple #[.agg #[Yc U L.length c3,Yd Yf T,Yd Yf S],Yd Yf ze]) (by simp[results,Tryz.results114,go_sem,c0,c1,c2]) rfl ⟨_,rfl,r1,r2,r3⟩
end
section
open Go.RowKit
structure ScS (w wr:Yh) (s:Yi) (xn xd bn bd:Int):Prop where
 F:FracBox wr w.heap.size s (Yd Yf xn) (Yd Yf xd)
 Q:RatAt wr (w.heap.size+1) bn bd
 c0:wr.cell? ⟨w.heap.size+1+1,0,Yb⟩=Ya (Zf wr ⟨w.heap.size+1+1,0,Yb⟩)
 c1:wr.cell? ⟨w.heap.size+1+1,1,Yb⟩=Ya (Zf wr ⟨w.heap.size+1+1,1,Yb⟩)
 c2:wr.cell? ⟨w.heap.size+1+1,2,Yb⟩=Ya (Zf wr ⟨w.heap.size+1+1,2,Yb⟩)
 l0:wr.frozen? ⟨w.heap.size+1+1,0,Yb⟩=false
 l1:wr.frozen? ⟨w.heap.size+1+1,1,Yb⟩=false
 l2:wr.frozen? ⟨w.heap.size+1+1,2,Yb⟩=false
 sz:w.heap.size+1+1<wr.heap.size
 below:Below w.heap.size w wr
section
variable {w wr w2:Yh} {s:Yi} {xn xd bn bd:Int}
theorem ScS.keep (h:ScS w wr s xn xd bn bd) (a:Below wr.heap.size wr w2):ScS w w2 s xn xd bn bd:=
 have z:=a.size;have q:=h.sz
 ⟨h.F.keep a,h.Q.keep a,ZH (Zd a q h.c0),ZH (Zd a q h.c1),ZH (Zd a q h.c2),Zo a q h.l0,Zo a q h.l1,Zo a q h.l2,by omega,h.below.trans (a.mono h.below.size)⟩
theorem ScS.set (h:ScS w wr s xn xd bn bd) (o:Nat) (x:Yi):ScS w (wr.setCell ⟨w.heap.size+1+1,o,Yb⟩ x) s xn xd bn bd:=by have a:Below (w.heap.size+1+1) wr (wr.setCell ⟨w.heap.size+1+1,o,Yb⟩ x):=(Below.refl (w.heap.size+1+1) wr).setCell (p:=⟨w.heap.size+1+1,o,Yb⟩) (Nat.le_refl _) x;exact⟨h.F.keepB a (by omega),h.Q.keepB a (by omega),Zao h.c0,Zao h.c1,Zao h.c2,by rw[World.frozen?_setCell];exact h.l0,by rw[World.frozen?_setCell];exact h.l1,by rw[World.frozen?_setCell];exact h.l2,by rw[World.size_setCell];exact h.sz,h.below.trans (a.mono (by omega))⟩
theorem ScS.cells (h:ScS w wr s xn xd bn bd):((wr.cell? ⟨w.heap.size,0,Yb⟩=Ya s/\wr.cell? ⟨w.heap.size,1,Yb⟩=Ya (Yd Yf xn)/\wr.cell? ⟨w.heap.size,2,Yb⟩=Ya (Yd Yf xd))/\(wr.cell? ⟨w.heap.size+1+1,0,Yb⟩=Ya (Zf wr ⟨w.heap.size+1+1,0,Yb⟩)/\wr.cell? ⟨w.heap.size+1+1,1,Yb⟩=Ya (Zf wr ⟨w.heap.size+1+1,1,Yb⟩)/\wr.cell? ⟨w.heap.size+1+1,2,Yb⟩=Ya (Zf wr ⟨w.heap.size+1+1,2,Yb⟩))/\(wr.frozen? ⟨w.heap.size+1+1,0,Yb⟩=false/\wr.frozen? ⟨w.heap.size+1+1,1,Yb⟩=false/\wr.frozen? ⟨w.heap.size+1+1,2,Yb⟩=false))/\ScS w wr s xn xd bn bd:=
 ⟨⟨⟨h.F.k0,h.F.k1,h.F.k2⟩,⟨h.c0,h.c1,h.c2⟩,⟨h.l0,h.l1,h.l2⟩⟩,h⟩
theorem Zc9 {A:Prop} (h:A/\ScS w wr s xn xd bn bd):ScS w wr s xn xd bn bd:=h.2
theorem ScS.three (h:ScS w wr s xn xd bn bd) (x y z:Yi):(((wr.setCell ⟨w.heap.size+1+1,0,Yb⟩ x).setCell ⟨w.heap.size+1+1,1,Yb⟩ y).setCell ⟨w.heap.size+1+1,2,Yb⟩ z).cell? ⟨w.heap.size+1+1,0,Yb⟩=Ya x/\(((wr.setCell ⟨w.heap.size+1+1,0,Yb⟩ x).setCell ⟨w.heap.size+1+1,1,Yb⟩ y).setCell ⟨w.heap.size+1+1,2,Yb⟩ z).cell? ⟨w.heap.size+1+1,1,Yb⟩=Ya y/\(((wr.setCell ⟨w.heap.size+1+1,0,Yb⟩ x).setCell ⟨w.heap.size+1+1,1,Yb⟩ y).setCell ⟨w.heap.size+1+1,2,Yb⟩ z).cell? ⟨w.heap.size+1+1,2,Yb⟩=Ya z:=
 Zag h.c0 h.c1 h.c2
theorem ScS.start (w:Yh) (s:Yi) (c b e d:Int) (ty a:TypeId):ScS w (((w.alloc (Yg #[s,Yd Yf c,Yd Yf b] ty)).alloc (Yg #[Yd Yf e,Yd Yf d] a)).alloc (Yg #[Yc Yb 0 0,Yd Yf 0,Yd Yf 0] ty)) s c b e d:=by have F:=FracBox.start w s (Yd Yf c) (Yd Yf b) ty;have f:=below_alloc1 (w.alloc (Yg #[s,Yd Yf c,Yd Yf b] ty)) (Yg #[Yd Yf e,Yd Yf d] a);have Q:=RatAt.start (w.alloc (Yg #[s,Yd Yf c,Yd Yf b] ty)) e d a;have a2:=below_alloc1 ((w.alloc (Yg #[s,Yd Yf c,Yd Yf b] ty)).alloc (Yg #[Yd Yf e,Yd Yf d] a)) (Yg #[Yc Yb 0 0,Yd Yf 0,Yd Yf 0] ty);have G:=FracBox.start ((w.alloc (Yg #[s,Yd Yf c,Yd Yf b] ty)).alloc (Yg #[Yd Yf e,Yd Yf d] a)) (Yc Yb 0 0) (Yd Yf 0) (Yd Yf 0) ty;rw[World.size_alloc]at Q;rw[World.size_alloc,World.size_alloc]at G;exact⟨(F.keep f).keep a2,Q.keep a2,ZH G.k0,ZH G.k1,ZH G.k2,G.l0,G.l1,G.l2,G.lt,(below_alloc2 w _ _).trans (a2.mono (by simp;omega))⟩
end
theorem Zl8 (w:Yh) (s:Yi) (l:List (Int×Int)) (kx kb:Int×Int) (D:Za w s l) (B:ZC l) (n:OkR kx) (f:OkR kb) (C:l.length<=8) :
  Calls Tryz.prog 29 #[.agg #[s,Yd Yf kx.1,Yd Yf kx.2],Zb kb.1 kb.2] w (ZaQ w (Za1 (Zt kb) l [] kx (0,1)).1 (Za1 (Zt kb) l [] kx (0,1)).2.1 (Za1 (Zt kb) l [] kx (0,1)).2.2):=by
 have J:=fun(b:Yh) (h:Below w.heap.size w b)=>ZbP b s l kx.1 kx.2 (D.below h) B.wide n.wide.1.1 n.wide.1.2 n.wide.2.1 n.wide.2.2;rw[Zav C B n]at J;have M:=fun(b:Yh)=>Zdv kb.1 kb.2 b f.wide.1.1 f.wide.1.2 f.wide.2.1 f.wide.2.2;rw[f.right]at M
 have co:=fun(b:Yh) (hq:RatAt b (w.heap.size+1) kb.1 kb.2) (Z:Za b s l)=>show Calls Tryz.prog 45 #[.agg #[s,Yd Yf kx.1,Yd Yf kx.2],.agg #[Yc Yb 0 0,Yd Yf 0,Yd Yf 1],.func (.func 47) #[] #[.pointer (Ya ⟨w.heap.size+1,0,Yb⟩)]] b (ZaQ b (Za1 (Zt kb) l [] kx (0,1)).1 (Za1 (Zt kb) l [] kx (0,1)).2.1 (Za1 (Zt kb) l [] kx (0,1)).2.2)by
  have Y:ZC []:=fun x n=>by cases n
  have hw:∀t,Below b.heap.size b t->∀x y,OkR x->OkR y->Calls Tryz.prog 47 #[Zb x.1 x.2,Zb y.1 y.2,.pointer (Ya ⟨w.heap.size+1,0,Yb⟩)] t fun r w3=>r=.returned (.tuple #[Zb (Zt kb x y).1.1 (Zt kb x y).1.2,Yd Yf (Zt kb x y).2])/\Below t.heap.size t w3:=
   fun t o x y ox _=>ZoZ t x y kb (w.heap.size+1) ox f (hq.keep o)
  unfold Za1
  split
  ·rename_i g
   exact ZkJ b s (Yc Yb 0 0) l [] kx (0,1) Z (Za.nil b) B Y n Zak C (by simp) (Zt kb) _ hw g.1 g.2
  ·rename_i g
   exact ZkI b s (Yc Yb 0 0) l [] kx (0,1) Z (Za.nil b) B Y n Zak C (by simp) (Zt kb) (Zck f) _ hw g
 generalize Za1 (Zt kb) l [] kx (0,1)=z at *;obtain⟨L,⟨zn,zd⟩,ze⟩:=z;dsimp only at *;have RA:=Lib.hid J;have RB:=Lib.hid M;have R:=Lib.hid co;have T:=Lib.hid D;have V:=Lib.hid ZqQ;obtain⟨A,c,rfl⟩:=Zc D;clear J M co D B n f C;generalize l.length=I at *;obtain⟨O,N⟩:=kx;obtain⟨X,W⟩:=kb;dsimp only at *;have H:=ScS.start w (Yc A I c) O N X W 37 23;go_enter Tryz.func29,Tryz.ntmps29
 go_upto_region 3 with(first
  |(go_at_call 44;go_fit (RA.out _ H.below);rintro e w1 ⟨rfl,u⟩;have H:=H.keep u;have q0:=H.Q.k0;have q1:=H.Q.k1)
  |(go_at_call 34;go_fit (RB.out _);rintro e t ⟨rfl,o⟩;have H:=H.keep o))
 have U:=(H.keep (Zn _)).cells;clear H u o q0 q1;refine wp_region_noPanic ?_;refine wp_region_held_drew (S:=(fun b=>((b.cell? ⟨w.heap.size,0,Yb⟩=Ya (Yc A I c)/\b.cell? ⟨w.heap.size,1,Yb⟩=Ya (Yd Yf O)/\b.cell? ⟨w.heap.size,2,Yb⟩=Ya (Yd Yf N))/\(b.cell? ⟨w.heap.size+1+1,0,Yb⟩=Ya (Zf b ⟨w.heap.size+1+1,0,Yb⟩)/\b.cell? ⟨w.heap.size+1+1,1,Yb⟩=Ya (Zf b ⟨w.heap.size+1+1,1,Yb⟩)/\b.cell? ⟨w.heap.size+1+1,2,Yb⟩=Ya (Zf b ⟨w.heap.size+1+1,2,Yb⟩))/\(b.frozen? ⟨w.heap.size+1+1,0,Yb⟩=false/\b.frozen? ⟨w.heap.size+1+1,1,Yb⟩=false/\b.frozen? ⟨w.heap.size+1+1,2,Yb⟩=false))/\ScS w b (Yc A I c) O N X W)) (by kernel_rfl) U (fun a=>?_);clear U;refine tk 0 rfl ?_;refine tk 2 rfl ?_;(try simp only[cl,Act.put]);refine rd 1 rfl fun K p=>?_;go_simp
 (first
  |(go_at_call 46;go_fit (V.out _);rintro e w4 ⟨rfl,f⟩)
  |(go_at_call 45;go_fit (R.out _ (Zc9 (by with_reducible assumption)).Q (T.out.below (Zc9 (by with_reducible assumption)).below));rintro e w5 k;obtain⟨P,c5,rfl,m,f,j⟩:=Zch k;clear k;have i:=Lib.hid (And.intro m (j.mono (Zc9 (by with_reducible assumption)).sz:Zp (w.heap.size+1+1+1) _));clear m j))
 go_wp2_with fail;refine p.out _ _ (((Zc9 (by with_reducible assumption)).keep (by with_reducible assumption)).cells) (fun d=>?_);clear p K a f;have a:=d;clear d;(try simp only[cl,Act.put]);refine rd 3 rfl fun K p=>?_;go_simp
 (first
  |(go_at_call 46;go_fit (V.out _);rintro e w4 ⟨rfl,f⟩)
  |(go_at_call 45;go_fit (R.out _ (Zc9 (by with_reducible assumption)).Q (T.out.below (Zc9 (by with_reducible assumption)).below));rintro e w5 k;obtain⟨P,c5,rfl,m,f,j⟩:=Zch k;clear k;have i:=Lib.hid (And.intro m (j.mono (Zc9 (by with_reducible assumption)).sz:Zp (w.heap.size+1+1+1) _));clear m j))
 go_wp2_with fail;refine p.out _ _ (((Zc9 (by with_reducible assumption)).keep (by with_reducible assumption)).cells) (fun d=>?_);clear p K a f;have a:=d;clear d;(try simp only[cl,Act.put]);refine tk 4 rfl ?_;refine tk 5 rfl ?_;(try simp only[cl,Act.put]);refine rd 6 rfl fun K p=>?_;go_simp;refine p.out _ _ ?_ (fun d=>?_)
 ·exact(((Zc9 (by with_reducible assumption)).set _ _).set _ _|>.set _ _).cells
 clear p K a;have a:=d;clear d;(try simp only[cl,Act.put]);refine tk 7 rfl ?_;(try simp only[cl,Act.put]);refine wpAnyH_done (by kernel_rfl) ?_ _;refine NoPanic.normal ?_;go_wp2_with fail;have E:=(Zc9 a).c0;have F:=(Zc9 a).c1;have G:=(Zc9 a).c2;have hB:=Lib.hid (Zc9 a).below;obtain⟨c0,c1,c2⟩:=Zeo E F G;rw[c0]at E;rw[c1]at F;rw[c2]at G;refine bodyPost_ret (v:=.tuple #[.agg #[Yc P L.length c5,Yd Yf zn,Yd Yf zd],Yd Yf ze]) (by simp[results,Tryz.results29,go_sem,E,F,G]) rfl ⟨_,rfl,?_,hB.out,i.out.2.mono (by omega)⟩;exact(((i.out.1.setCell i.out.2 (Nat.lt_succ_self _) _).setCell i.out.2 (Nat.lt_succ_self _) _).setCell i.out.2 (Nat.lt_succ_self _) _)
theorem Zoo (w:Yh) (R S:Yi) (l m:List (Int×Int)) (i g o n:Int) (C:Za w R l) (D:Za w S m) (L:Zz l) (k:Zz m) (T:-9223372036854775808<=i) (U:i<=9223372036854775807) (V:-9223372036854775808<=g) (W:g<=9223372036854775807)
  (y1:-9223372036854775808<=o) (X:o<=9223372036854775807) (Y:-9223372036854775808<=n) (Z:n<=9223372036854775807) (j:ZM l i g=false\/(ZM l i g=true/\ZM m o n=false)) :
  Calls Tryz.prog 114 #[.agg #[R,Yd Yf i,Yd Yf g],.agg #[S,Yd Yf o,Yd Yf n]] w (ZaQ w [] (0,0) 2):=by
 have p:=fun(u:Yh) (h:Below w.heap.size w u)=>ZbP u R l i g (C.below h) L T U V W;have H:=fun(u:Yh) (h:Below w.heap.size w u)=>ZbP u S m o n (D.below h) k y1 X Y Z;obtain⟨A,c,rfl⟩:=Zc C;obtain⟨B,d,rfl⟩:=Zc D;rcases j with j|⟨j,t⟩
 ·rw[j]at p;have RA:=Lib.hid p;clear p H C D L k T U V W y1 X Y Z j;generalize l.length=M at *;generalize m.length=N at *;obtain⟨F,G,E,a⟩:=ZaD w (Yc A M c) (Yd Yf i) (Yd Yf g) (Yc B N d) (Yd Yf o) (Yd Yf n) (Yc Yb 0 0) (Yd Yf 0) (Yd Yf 0) 37;go_enter Tryz.func114,Tryz.ntmps114;go_wp2_with (go_at_call 44;go_fit (RA.out _ a);rintro e w1 ⟨rfl,f⟩;have E:=E.keep f;have r:=Lib.hid (a.trans (f.mono a.size));have I:=E.k0;have J:=E.k1;have K:=E.k2;have l0:=E.l0;have l1:=E.l1;have l2:=E.l2);obtain⟨c0,c1,c2⟩:=Zag (x:=Yc Yb 0 0) (y:=Yd Yf 0) (z:=Yd Yf 0) I J K;obtain⟨O,P,Q⟩:=Zcg (w:=w) (b:=w.heap.size+1+1) (kn:=0) (kd:=0) (Za.nil w1) r.out (Zp.none_ _ _ _) (by omega) rfl;exact bodyPost_ret (v:=.tuple #[.agg #[Yc Yb 0 0,Yd Yf 0,Yd Yf 0],Yd Yf 2]) (by simp[results,Tryz.results114,go_sem,c0,c1,c2]) rfl ⟨_,rfl,O,P,Q⟩
 ·rw[j]at p;rw[t]at H;have RA:=Lib.hid p;have RB:=Lib.hid H;clear p H C D L k T U V W y1 X Y Z j t;generalize l.length=M at *;generalize m.length=N at *;obtain⟨F,G,E,a⟩:=ZaD w (Yc A M c) (Yd Yf i) (Yd Yf g) (Yc B N d) (Yd Yf o) (Yd Yf n) (Yc Yb 0 0) (Yd Yf 0) (Yd Yf 0) 37;go_enter Tryz.func114,Tryz.ntmps114
  go_wp2_with (go_at_call 44;(first
    |go_fit (RA.out _ a);rintro e w1 ⟨rfl,f⟩;have G:=G.keep f;have E:=E.keep f;have r:=a.trans (f.mono a.size);have m0:=G.k0;have m1:=G.k1;have m2:=G.k2
    |go_fit (RB.out _ r);rintro e w2 ⟨rfl,s⟩;have E:=E.keep s;have b2:=Lib.hid (r.trans (s.mono r.size));have I:=E.k0;have J:=E.k1;have K:=E.k2;have l0:=E.l0;have l1:=E.l1;have l2:=E.l2))
  obtain⟨c0,c1,c2⟩:=Zag (x:=Yc Yb 0 0) (y:=Yd Yf 0) (z:=Yd Yf 0) I J K;obtain⟨O,P,Q⟩:=Zcg (w:=w) (b:=w.heap.size+1+1) (kn:=0) (kd:=0) (Za.nil w2) b2.out (Zp.none_ _ _ _) (by omega) rfl;exact bodyPost_ret (v:=.tuple #[.agg #[Yc Yb 0 0,Yd Yf 0,Yd Yf 0],Yd Yf 2]) (by simp[results,Tryz.results114,go_sem,c0,c1,c2]) rfl ⟨_,rfl,O,P,Q⟩
theorem Zl9 (w:Yh) (G:Yi) (l:List (Int×Int)) (g f j i:Int) (n:Za w G l) (C:Zz l) (I:-9223372036854775808<=g) (J:g<=9223372036854775807) (K:-9223372036854775808<=f) (L:f<=9223372036854775807)
  (y1:-9223372036854775808<=j) (M:j<=9223372036854775807) (N:-9223372036854775808<=i) (O:i<=9223372036854775807) (d:ZM l g f=false\/(ZM l g f=true/\Zaf j i=false)) :
  Calls Tryz.prog 29 #[.agg #[G,Yd Yf g,Yd Yf f],Zb j i] w (ZaQ w [] (0,0) 2):=by
 have k:=fun(p:Yh) (h:Below w.heap.size w p)=>ZbP p G l g f (n.below h) C I J K L;have o:=fun(p:Yh)=>Zdv j i p y1 M N O;obtain⟨A,c,rfl⟩:=Zc n;have H:=ScS.start w (Yc A l.length c) g f j i 37 23;rcases d with d|⟨d,m⟩
 ·rw[d]at k;have RA:=Lib.hid k;clear k o n C I J K L y1 M N O d;generalize l.length=S at *;go_enter Tryz.func29,Tryz.ntmps29;go_wp2_with (go_at_call 44;go_fit (RA.out _ H.below);rintro e P ⟨rfl,a⟩;have H:=H.keep a;have s:=H.c0;have t:=H.c1;have u:=H.c2;have l0:=H.l0;have l1:=H.l1;have l2:=H.l2;have r:=Lib.hid H.below);obtain⟨c0,c1,c2⟩:=Zag (x:=Yc Yb 0 0) (y:=Yd Yf 0) (z:=Yd Yf 0) s t u;obtain⟨D,E,F⟩:=Zcg (w:=w) (b:=w.heap.size+1+1) (kn:=0) (kd:=0) (Za.nil P) r.out (Zp.none_ _ _ _) (by omega) rfl;exact bodyPost_ret (v:=.tuple #[.agg #[Yc Yb 0 0,Yd Yf 0,Yd Yf 0],Yd Yf 2]) (by simp[results,Tryz.results29,go_sem,c0,c1,c2]) rfl ⟨_,rfl,D,E,F⟩
 ·rw[d]at k;rw[m]at o;have RA:=Lib.hid k;have R:=Lib.hid o;clear k o n C I J K L y1 M N O d m;generalize l.length=S at *;go_enter Tryz.func29,Tryz.ntmps29
  go_wp2_with (first
   |(go_at_call 44;go_fit (RA.out _ H.below);rintro e P ⟨rfl,a⟩;have H:=H.keep a;have U:=H.Q.k0;have V:=H.Q.k1)
   |(go_at_call 34;go_fit (R.out _);rintro e T ⟨rfl,B⟩;have H:=H.keep B;have s:=H.c0;have t:=H.c1;have u:=H.c2;have l0:=H.l0;have l1:=H.l1;have l2:=H.l2;have r:=Lib.hid H.below))
  obtain⟨c0,c1,c2⟩:=Zag (x:=Yc Yb 0 0) (y:=Yd Yf 0) (z:=Yd Yf 0) s t u;obtain⟨D,E,F⟩:=Zcg (w:=w) (b:=w.heap.size+1+1) (kn:=0) (kd:=0) (Za.nil T) r.out (Zp.none_ _ _ _) (by omega) rfl;exact bodyPost_ret (v:=.tuple #[.agg #[Yc Yb 0 0,Yd Yf 0,Yd Yf 0],Yd Yf 2]) (by simp[results,Tryz.results29,go_sem,c0,c1,c2]) rfl ⟨_,rfl,D,E,F⟩
end
end Go.Proofs.YtbfnnolakggbfaaGreatDoor
