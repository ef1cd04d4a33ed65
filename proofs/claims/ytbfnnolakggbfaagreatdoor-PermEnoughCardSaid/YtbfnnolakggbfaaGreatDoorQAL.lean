import Derived.Deep.DeepFit
import Derived.Test.YtbfnnolakggbfaaGreatDoorQAI
set_option maxRecDepth 100000
set_option maxHeartbeats 8000000
open Option renaming some → Ya, none → Yb
open Go.Value renaming int → Yd
open Go.IntKind renaming i64 → Yf
open Go.RowKit
namespace Go.Proofs.YtbfnnolakggbfaaGreatDoor
theorem ZrS {n m:Int} {d e:Nat} (v:Valid n d) (u:Valid m e) (w:World) :
  Calls Tryz.prog 52 #[Yd Yf 0,Zb n d,Zb m e] w fun r w'=>r=.returned (toV (Zba (decide (n<0)) (n.natAbs*(e:Int).natAbs) (decide (m<0)) (m.natAbs*(d:Int).natAbs)) ((d:Int).natAbs*(e:Int).natAbs) (ZbI (decide (n<0)) (n.natAbs*(e:Int).natAbs) (decide (m<0)) (m.natAbs*(d:Int).natAbs)))/\Below w.heap.size w w':=by
 have vn:=v.n_le;have vd:=v.d_le;have un:=u.n_le;have ud:=u.d_le;have ra:=fun w=>ZaC n d w (by omega) (by omega) (by omega) (by omega);have rb:=fun w=>ZaC m e w (by omega) (by omega) (by omega) (by omega);rw[v.right]at ra;rw[u.right]at rb;have fa:=Lib.hid (fun w=>Zcp n d w (by omega) (by omega) (by omega) (by omega));have fb:=Lib.hid (fun w=>Zcp m e w (by omega) (by omega) (by omega) (by omega));have ln:=Lib.hid (Zbs vn);have lm:=Lib.hid (Zbs un);have ld:=Lib.hid (Zbs (n:=(d:Int).natAbs) (by simpa using vd));have le:=Lib.hid (Zbs (n:=(e:Int).natAbs) (by simpa using ud));have dp:=Lib.hid (Nat.mul_pos (show 0<(d:Int).natAbs by simpa using v.pos) (show 0<(e:Int).natAbs by simpa using u.pos));clear vn vd un ud;generalize(e:Int)=E at *;generalize(d:Int)=D at *;go_enter Tryz.func52,Tryz.ntmps52;go_upto_region 1 with fail;have B:=Boxes.start w n D m E 0 23
 go_upto_region 3 with(first
  |(go_at_call 37;(first|with_reducible refine(ra _).mono ?_|with_reducible refine(rb _).mono ?_);rintro e w1 ⟨rfl,hb⟩;have B:=B.keep hb;have c0:=B.c0;have c1:=B.c1;have c2:=B.c2;have c3:=B.c3))
 go_cut [8,9] (fun v8 v9 wx=>ZkT w n D m E v8 v9 wx)
 case first=>
  have ax:=ZeA B;have BD:=Zcf ax;have hz:=ZbZ (ZeA B);obtain⟨z0,z1,z2⟩:=hz
  rename_i K0 ag J0 K1 ah ai
  have az:=Lib.hid ag;have aa:=Lib.hid ah;have ab:=Lib.hid ai;clear ra rb c0 c1 c2 c3 B hb ag ah ai;clear v u
  go_region_held3 (fun w'=>(w'.cell? ⟨w.heap.size,0,Yb⟩=Ya (Yd Yf n)/\w'.cell? ⟨w.heap.size,1,Yb⟩=Ya (Yd Yf D)/\w'.cell? ⟨w.heap.size+1,0,Yb⟩=Ya (Yd Yf m)/\w'.cell? ⟨w.heap.size+1,1,Yb⟩=Ya (Yd Yf E)/\w'.cell? ⟨w.heap.size+1+1,0,Yb⟩=Ya (Yd Yf 0)/\w'.cell? ⟨w.heap.size+1+1,1,Yb⟩=Ya (Yd Yf 0))/\w.heap.size+2<w'.heap.size/\Below w.heap.size w w'/\(w'.frozen? ⟨w.heap.size+1+1,0,Yb⟩=false/\w'.frozen? ⟨w.heap.size+1+1,1,Yb⟩=false))
   (((repeat (first|with_reducible refine ZdD (by dsimp only;omega) _ ?_|with_reducible refine ZbE (below_alloc1 _ _) ?_|with_reducible refine Zcf ?_));with_reducible assumption))
   (first
    |(go_at_call 83;go_fit (fa.out _);rintro e l ⟨va,rfl,bg,f⟩;obtain⟨x1,x2,rfl,x,y,aj,ak⟩:=bg;have BA:(l.cell? ⟨w.heap.size,0,Yb⟩=Ya (Yd Yf n)/\l.cell? ⟨w.heap.size,1,Yb⟩=Ya (Yd Yf D)/\l.cell? ⟨w.heap.size+1,0,Yb⟩=Ya (Yd Yf m)/\l.cell? ⟨w.heap.size+1,1,Yb⟩=Ya (Yd Yf E)/\l.cell? ⟨w.heap.size+1+1,0,Yb⟩=Ya (Yd Yf 0)/\l.cell? ⟨w.heap.size+1+1,1,Yb⟩=Ya (Yd Yf 0))/\w.heap.size+2<l.heap.size/\Below w.heap.size w l/\(l.frozen? ⟨w.heap.size+1+1,0,Yb⟩=false/\l.frozen? ⟨w.heap.size+1+1,1,Yb⟩=false):=ZbE f (by with_reducible assumption)
      obtain⟨A1,e1,rfl,J⟩:=id x;obtain⟨A2,e2,rfl,K⟩:=id y;clear J K;have ac:=Lib.hid (x.inside aj);have ad:=Lib.hid (y.inside ak);have a1:=Lib.hid x;have a6:=Lib.hid y;clear x y aj ak
      obtain⟨s0,s1,s2⟩:=ZbZ BA
      (first
       |(with_reducible have Y:=Zdh f;obtain⟨a,k⟩:=Y;obtain⟨m0,O,P,Q,R,U,p⟩:=id a;obtain⟨n0,n1,n2,n3,n4,n5,n6⟩:=id k;have j:=Lib.hid a;have C:=Lib.hid k;clear a k)
       |(with_reducible have a:=Zdg f;obtain⟨m0,O,P,Q,R,U,p⟩:=id a;have j:=Lib.hid a;clear a)
       |(with_reducible have Y:=Zcv f;obtain⟨a,k⟩:=Y;obtain⟨m0,O,P,Q,R,U,p⟩:=id a;obtain⟨n0,n1,n2,n3,n4,n5,n6⟩:=id k;have j:=Lib.hid a;have C:=Lib.hid k;clear a k)
       |(with_reducible have a:=Zcu f;obtain⟨m0,O,P,Q,R,U,p⟩:=id a;have j:=Lib.hid a;clear a)
       |skip)
      have cr:=Lib.hid f;clear f)
    |(go_at_call 83;go_fit (fb.out _);rintro e o ⟨vb,rfl,bh,g⟩;obtain⟨y1,y2,rfl,z,A,al,am⟩:=bh;have BB:(o.cell? ⟨w.heap.size,0,Yb⟩=Ya (Yd Yf n)/\o.cell? ⟨w.heap.size,1,Yb⟩=Ya (Yd Yf D)/\o.cell? ⟨w.heap.size+1,0,Yb⟩=Ya (Yd Yf m)/\o.cell? ⟨w.heap.size+1,1,Yb⟩=Ya (Yd Yf E)/\o.cell? ⟨w.heap.size+1+1,0,Yb⟩=Ya (Yd Yf 0)/\o.cell? ⟨w.heap.size+1+1,1,Yb⟩=Ya (Yd Yf 0))/\w.heap.size+2<o.heap.size/\Below w.heap.size w o/\(o.frozen? ⟨w.heap.size+1+1,0,Yb⟩=false/\o.frozen? ⟨w.heap.size+1+1,1,Yb⟩=false):=ZbE g (by with_reducible assumption)
      obtain⟨A3,e3,rfl,L⟩:=id z;obtain⟨A4,e4,rfl,M⟩:=id A;clear L M;have ae:=Lib.hid (z.inside al);have af:=Lib.hid (A.inside am);have a7:=Lib.hid z;have a8:=Lib.hid A;clear z A al am
      obtain⟨t0,t1,t2⟩:=ZbZ BB
      (first
       |(with_reducible have Y:=Zcv g;obtain⟨H,G2⟩:=Y;obtain⟨p0,V,W,X,p4,p5,p6⟩:=id H;obtain⟨q0,q1,q2,q3,q4,q5,q6⟩:=id G2;have Z:=Lib.hid H;have Gc:=Lib.hid G2;clear H G2;have i:=ZcW g)
       |(with_reducible have H:=Zcu g;obtain⟨p0,V,W,X,p4,p5,p6⟩:=id H;have Z:=Lib.hid H;clear H;have i:=Zdf g)
       |have i:=id g)
      (first
       |(have a:=j.out.keep i;have k:=C.out.keep i;have bf:=id p;have c5:=id n6;obtain⟨p0,V,W,X,p4,p5,p6⟩:=id a;obtain⟨q0,q1,q2,q3,q4,q5,q6⟩:=id k;clear m0 O P Q R U p n0 n1 n2 n3 n4 n5 n6 j C;have j:=Lib.hid a;have C:=Lib.hid k;clear a k)
       |(have a:=j.out.keep i;have c6:=Nat.ne_of_lt p;have bz:=Nat.ne_of_gt p;have bf:=id p;clear m0 O P Q R U p j;obtain⟨m0,O,P,Q,R,U,p⟩:=id a;have j:=Lib.hid a;clear a)
       |skip)
      have I:=Lib.hid i;clear g i))
  all_goals
   refine ab.out _ _ (Met.intro (aa.out _ _ ?_))
   (repeat apply Exists.intro)
   refine⟨?_,rfl⟩;clear az aa ab;have c8:l.heap.size<=o.heap.size:=I.out.size;refine⟨_,_,.slice A1 (bitsOf n.natAbs).length e1,.slice A2 (bitsOf D.natAbs).length e2,.slice A3 (bitsOf m.natAbs).length e3,.slice A4 (bitsOf E.natAbs).length e4,rfl,rfl,?_,?_,?_,?_,?_,?_,?_,?_,?_,?_,?_,?_,?_,?_⟩
   ·omega
   ·omega
   ·omega
   ·(repeat (first|with_reducible exact FracBox.write j.out _ _ _|with_reducible exact FracBox.write C.out _ _ _|with_reducible exact FracBox.write Z.out _ _ _|with_reducible exact FracBox.write Gc.out _ _ _|with_reducible exact FracBox.write (FracBox.other (FracBox.other (FracBox.other j.out (by dsimp only;omega) _) (by dsimp only;omega) _) (by dsimp only;omega) _) _ _ _|with_reducible exact FracBox.write (FracBox.other (FracBox.other (FracBox.other C.out (by dsimp only;omega) _) (by dsimp only;omega) _) (by dsimp only;omega) _) _ _ _|with_reducible exact FracBox.write (FracBox.other (FracBox.other (FracBox.other Z.out (by dsimp only;omega) _) (by dsimp only;omega) _) (by dsimp only;omega) _) _ _ _|with_reducible exact FracBox.write (FracBox.other (FracBox.other (FracBox.other Gc.out (by dsimp only;omega) _) (by dsimp only;omega) _) (by dsimp only;omega) _) _ _ _|with_reducible exact FracBox.start_at (by simp only[World.size_setCell,World.size_alloc]) _ _ _ _|with_reducible refine FracBox.other ?_ (by dsimp only;omega) _|with_reducible refine FracBox.alloc ?_ _))
   ·(repeat (first|with_reducible exact FracBox.write j.out _ _ _|with_reducible exact FracBox.write C.out _ _ _|with_reducible exact FracBox.write Z.out _ _ _|with_reducible exact FracBox.write Gc.out _ _ _|with_reducible exact FracBox.write (FracBox.other (FracBox.other (FracBox.other j.out (by dsimp only;omega) _) (by dsimp only;omega) _) (by dsimp only;omega) _) _ _ _|with_reducible exact FracBox.write (FracBox.other (FracBox.other (FracBox.other C.out (by dsimp only;omega) _) (by dsimp only;omega) _) (by dsimp only;omega) _) _ _ _|with_reducible exact FracBox.write (FracBox.other (FracBox.other (FracBox.other Z.out (by dsimp only;omega) _) (by dsimp only;omega) _) (by dsimp only;omega) _) _ _ _|with_reducible exact FracBox.write (FracBox.other (FracBox.other (FracBox.other Gc.out (by dsimp only;omega) _) (by dsimp only;omega) _) (by dsimp only;omega) _) _ _ _|with_reducible exact FracBox.start_at (by simp only[World.size_setCell,World.size_alloc]) _ _ _ _|with_reducible refine FracBox.other ?_ (by dsimp only;omega) _|with_reducible refine FracBox.alloc ?_ _))
   ·(repeat (first|with_reducible exact(a1.out.below I.out)|with_reducible refine Zi.set_out ?_ ac.out (by dsimp only;(try simp only[World.size_alloc,World.size_drew]);omega) _|with_reducible refine Zi.alloc_ ?_ _))
   ·(repeat (first|with_reducible exact(a6.out.below I.out)|with_reducible refine Zi.set_out ?_ ad.out (by dsimp only;(try simp only[World.size_alloc,World.size_drew]);omega) _|with_reducible refine Zi.alloc_ ?_ _))
   ·(repeat (first|with_reducible exact a7.out|with_reducible refine Zi.set_out ?_ ae.out (by dsimp only;(try simp only[World.size_alloc]);omega) _|with_reducible refine Zi.alloc_ ?_ _))
   ·(repeat (first|with_reducible exact a8.out|with_reducible refine Zi.set_out ?_ af.out (by dsimp only;(try simp only[World.size_alloc]);omega) _|with_reducible refine Zi.alloc_ ?_ _))
   ·exact ZeR (by((repeat (first|with_reducible refine ZdD (by dsimp only;omega) _ ?_|with_reducible refine ZbE (below_alloc1 _ _) ?_|with_reducible refine Zcf ?_));with_reducible assumption))
   ·exact ZaU ac.out (by(try simp only[World.size_alloc,World.size_drew]);omega)
   ·exact ZaU ad.out (by(try simp only[World.size_alloc,World.size_drew]);omega)
   ·exact ZaU ae.out (by(try simp only[World.size_alloc]);omega)
   ·exact ZaU af.out (by(try simp only[World.size_alloc]);omega)
 case rest=>
  obtain⟨b,c,x1,x2,y1,y2,rfl,rfl,c4,hb,hc,F,G,h1,h2,h3,h4,N,q1,q2,q3,q4⟩:=hcut;obtain⟨A1,e1,rfl,J⟩:=id h1;obtain⟨A2,e2,rfl,K⟩:=id h2;obtain⟨A3,e3,rfl,L⟩:=id h3;obtain⟨A4,e4,rfl,M⟩:=id h4;clear J K L M ra rb c0 c1 c2 c3;have cv:=fa;have cw:=fb;obtain⟨k0,k1,k2,k3,k4,k5,k6⟩:=id F;obtain⟨g0,g1,g2,g3,g4,g5,g6⟩:=id G;have HF:=Lib.hid F;have HG:=Lib.hid G;obtain⟨T,hT⟩:∃T,T=Zba (decide (n<0)) (n.natAbs*E.natAbs) (decide (m<0)) (m.natAbs*D.natAbs):=⟨_,rfl⟩
  obtain⟨S,hS⟩:∃S,S=ZbI (decide (n<0)) (n.natAbs*E.natAbs) (decide (m<0)) (m.natAbs*D.natAbs):=⟨_,rfl⟩
  have sm:=ZiF wc 0 0 _ _ n.natAbs D.natAbs m.natAbs E.natAbs (decide (n<0)) (decide (m<0)) ⟨_,_,rfl,h1,h2,Zp.any _,Zp.any _⟩ ⟨_,_,rfl,h3,h4,Zp.any _,Zp.any _⟩ ln.out ld.out lm.out le.out;have ll:=Lib.hid (ZlG (s:=decide (n<0)) (t:=decide (m<0)) ln.out le.out lm.out ld.out);rw[<-hT,<-hS]at sm;rw[<-hT]at ll;have tt:=fun(w':World) (B:Nat) (v:Value) (h:ZcT w' B v T (D.natAbs*E.natAbs) S)=>Zji w' B v T _ S h ll.out (ZeL ld.out le.out) dp.out;obtain⟨V,W,X,hV⟩:∃V W X,toV T (D.natAbs*E.natAbs) S=.tuple #[Zb V W,Yd Yf X]:=⟨_,_,_,rfl⟩
  rw[hV]at tt;have HE:=Lib.hid hV.symm;rw[hT,hS]at HE;have H1:=Lib.hid h1;have H2:=Lib.hid h2;have H3:=Lib.hid h3;have H4:=Lib.hid h4;have SM:=Lib.hid sm;have TO:=Lib.hid tt;clear h1 h2 h3 h4 sm tt F G hT hS hV k3 k4 k5 g3 g4 g5
  go_wp2_with (first
   |(go_at_call 85;go_fit SM.out;rintro e wd ⟨v,rfl,hv,bd⟩;have N:=N.keep bd;have HV:=Lib.hid hv;clear hv)
   |(go_at_call 84;go_fit (TO.out _ _ _ HV.out);rintro e we ⟨rfl,be⟩;have N:=N.keep be;obtain⟨c0,c1,c2,c3,i0,i1,j0,j1,_,_⟩:=id N))
  exact bodyPost_ret (v:=.tuple #[Zb V W,Yd Yf X]) (by simp[results,Tryz.results52,go_sem,i0,i1]) rfl ⟨congrArg Ending.returned HE.out,(N.below.setCell (by show w.heap.size<=w.heap.size+1+1;omega) _).setCell (by show w.heap.size<=w.heap.size+1+1;omega) _⟩
end Go.Proofs.YtbfnnolakggbfaaGreatDoor
