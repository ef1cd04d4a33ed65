import Derived.Deep.DeepFit
import Derived.Test.YtbfnnolakggbfaaGreatDoorQAI
set_option maxRecDepth 100000
set_option maxHeartbeats 8000000
open Option renaming some → Ya, none → Yb
open Go.Value renaming slice → Yc, int → Yd
open Go.IntKind renaming i64 → Yf
open Go.RowKit
namespace Go.Proofs.YtbfnnolakggbfaaGreatDoor
theorem ZrU {n m:Int} {d e:Nat} (v:Valid n d) (u:Valid m e) (w:World) :
  Calls Tryz.prog 52 #[Yd Yf 2,Zb n d,Zb m e] w fun r w'=>r=.returned (toV (n.natAbs*m.natAbs) ((d:Int).natAbs*(e:Int).natAbs) (decide (n<0) != decide (m<0)))/\Below w.heap.size w w':=by
 have vn:=v.n_le;have vd:=v.d_le;have un:=u.n_le;have ud:=u.d_le;have ra:=fun w=>ZaC n d w (by omega) (by omega) (by omega) (by omega);have rb:=fun w=>ZaC m e w (by omega) (by omega) (by omega) (by omega);rw[v.right]at ra;rw[u.right]at rb;have fa:=Lib.hid (fun w=>Zcp n d w (by omega) (by omega) (by omega) (by omega));have fb:=Lib.hid (fun w=>Zcp m e w (by omega) (by omega) (by omega) (by omega));have ln:=Lib.hid (Zbs vn);have lm:=Lib.hid (Zbs un);have ld:=Lib.hid (Zbs (n:=(d:Int).natAbs) (by simpa using vd));have le:=Lib.hid (Zbs (n:=(e:Int).natAbs) (by simpa using ud));have dp:=Lib.hid (Nat.mul_pos (show 0<(d:Int).natAbs by simpa using v.pos) (show 0<(e:Int).natAbs by simpa using u.pos));clear vn vd un ud;generalize(e:Int)=E at *;generalize(d:Int)=D at *;go_enter Tryz.func52,Tryz.ntmps52;go_upto_region 1 with fail;have B:=Boxes.start w n D m E 0 23
 go_upto_region 3 with(first
  |(go_at_call 37;(first|with_reducible refine(ra _).mono ?_|with_reducible refine(rb _).mono ?_);rintro e w1 ⟨rfl,l⟩;have B:=B.keep l;have c0:=B.c0;have c1:=B.c1;have c2:=B.c2;have c3:=B.c3))
 go_cut [8,9] (fun v8 v9 wx=>ZkT w n D m E v8 v9 wx)
 case first=>
  have az:=ZeA B;have BD:=Zcf az;have hz:=ZbZ (ZeA B);obtain⟨z0,z1,z2⟩:=hz
  rename_i K0 ah J0 K1 ai aj
  have a8:=Lib.hid ah;have ab:=Lib.hid ai;have ac:=Lib.hid aj;clear ra rb c0 c1 c2 c3 B l ah ai aj;clear v u
  go_region_held3 (fun w'=>(w'.cell? ⟨w.heap.size,0,Yb⟩=Ya (Yd Yf n)/\w'.cell? ⟨w.heap.size,1,Yb⟩=Ya (Yd Yf D)/\w'.cell? ⟨w.heap.size+1,0,Yb⟩=Ya (Yd Yf m)/\w'.cell? ⟨w.heap.size+1,1,Yb⟩=Ya (Yd Yf E)/\w'.cell? ⟨w.heap.size+1+1,0,Yb⟩=Ya (Yd Yf 0)/\w'.cell? ⟨w.heap.size+1+1,1,Yb⟩=Ya (Yd Yf 0))/\w.heap.size+2<w'.heap.size/\Below w.heap.size w w'/\(w'.frozen? ⟨w.heap.size+1+1,0,Yb⟩=false/\w'.frozen? ⟨w.heap.size+1+1,1,Yb⟩=false))
   (((repeat (first|with_reducible refine ZdD (by dsimp only;omega) _ ?_|with_reducible refine ZbE (below_alloc1 _ _) ?_|with_reducible refine Zcf ?_));with_reducible assumption))
   (first
    |(go_at_call 83;go_fit (fa.out _);rintro e t ⟨va,rfl,o,f⟩;obtain⟨x1,x2,rfl,z,A,ak,al⟩:=o;have BA:(t.cell? ⟨w.heap.size,0,Yb⟩=Ya (Yd Yf n)/\t.cell? ⟨w.heap.size,1,Yb⟩=Ya (Yd Yf D)/\t.cell? ⟨w.heap.size+1,0,Yb⟩=Ya (Yd Yf m)/\t.cell? ⟨w.heap.size+1,1,Yb⟩=Ya (Yd Yf E)/\t.cell? ⟨w.heap.size+1+1,0,Yb⟩=Ya (Yd Yf 0)/\t.cell? ⟨w.heap.size+1+1,1,Yb⟩=Ya (Yd Yf 0))/\w.heap.size+2<t.heap.size/\Below w.heap.size w t/\(t.frozen? ⟨w.heap.size+1+1,0,Yb⟩=false/\t.frozen? ⟨w.heap.size+1+1,1,Yb⟩=false):=ZbE f (by with_reducible assumption)
      obtain⟨A1,e1,rfl,P⟩:=id z;obtain⟨A2,e2,rfl,Q⟩:=id A;clear P Q;have ad:=Lib.hid (z.inside ak);have ae:=Lib.hid (A.inside al);have ba:=Lib.hid z;have bb:=Lib.hid A;clear z A ak al
      obtain⟨s0,s1,s2⟩:=ZbZ BA
      (first
       |(with_reducible have Z:=Zdh f;obtain⟨a,k⟩:=Z;obtain⟨m0,J,K,T,U,V,y⟩:=id a;obtain⟨n0,n1,n2,n3,n4,n5,n6⟩:=id k;have j:=Lib.hid a;have I:=Lib.hid k;clear a k)
       |(with_reducible have a:=Zdg f;obtain⟨m0,J,K,T,U,V,y⟩:=id a;have j:=Lib.hid a;clear a)
       |(with_reducible have Z:=Zcv f;obtain⟨a,k⟩:=Z;obtain⟨m0,J,K,T,U,V,y⟩:=id a;obtain⟨n0,n1,n2,n3,n4,n5,n6⟩:=id k;have j:=Lib.hid a;have I:=Lib.hid k;clear a k)
       |(with_reducible have a:=Zcu f;obtain⟨m0,J,K,T,U,V,y⟩:=id a;have j:=Lib.hid a;clear a)
       |skip)
      have cn:=Lib.hid f;clear f)
    |(go_at_call 83;go_fit (fb.out _);rintro e x ⟨vb,rfl,p,g⟩;obtain⟨y1,y2,rfl,C,H,am,an⟩:=p;have BB:(x.cell? ⟨w.heap.size,0,Yb⟩=Ya (Yd Yf n)/\x.cell? ⟨w.heap.size,1,Yb⟩=Ya (Yd Yf D)/\x.cell? ⟨w.heap.size+1,0,Yb⟩=Ya (Yd Yf m)/\x.cell? ⟨w.heap.size+1,1,Yb⟩=Ya (Yd Yf E)/\x.cell? ⟨w.heap.size+1+1,0,Yb⟩=Ya (Yd Yf 0)/\x.cell? ⟨w.heap.size+1+1,1,Yb⟩=Ya (Yd Yf 0))/\w.heap.size+2<x.heap.size/\Below w.heap.size w x/\(x.frozen? ⟨w.heap.size+1+1,0,Yb⟩=false/\x.frozen? ⟨w.heap.size+1+1,1,Yb⟩=false):=ZbE g (by with_reducible assumption)
      obtain⟨A3,e3,rfl,R⟩:=id C;obtain⟨A4,e4,rfl,S⟩:=id H;clear R S;have af:=Lib.hid (C.inside am);have ag:=Lib.hid (H.inside an);have bc:=Lib.hid C;have bd:=Lib.hid H;clear C H am an
      obtain⟨t0,t1,t2⟩:=ZbZ BB
      (first
       |(with_reducible have Z:=Zcv g;obtain⟨L,G2⟩:=Z;obtain⟨p0,W,X,Y,p4,p5,p6⟩:=id L;obtain⟨q0,q1,q2,q3,q4,q5,q6⟩:=id G2;have Gb:=Lib.hid L;have Gc:=Lib.hid G2;clear L G2;have i:=ZcW g)
       |(with_reducible have L:=Zcu g;obtain⟨p0,W,X,Y,p4,p5,p6⟩:=id L;have Gb:=Lib.hid L;clear L;have i:=Zdf g)
       |have i:=id g)
      (first
       |(have a:=j.out.keep i;have k:=I.out.keep i;have bp:=id y;have cw:=id n6;obtain⟨p0,W,X,Y,p4,p5,p6⟩:=id a;obtain⟨q0,q1,q2,q3,q4,q5,q6⟩:=id k;clear m0 J K T U V y n0 n1 n2 n3 n4 n5 n6 j I;have j:=Lib.hid a;have I:=Lib.hid k;clear a k)
       |(have a:=j.out.keep i;have cx:=Nat.ne_of_lt y;have b1:=Nat.ne_of_gt y;have bp:=id y;clear m0 J K T U V y j;obtain⟨m0,J,K,T,U,V,y⟩:=id a;have j:=Lib.hid a;clear a)
       |skip)
      have M:=Lib.hid i;clear g i))
  all_goals
   refine ac.out _ _ (Met.intro (ab.out _ _ ?_))
   (repeat apply Exists.intro)
   refine⟨?_,rfl⟩;clear a8 ab ac;have cz:t.heap.size<=x.heap.size:=M.out.size;refine⟨_,_,Yc A1 (bitsOf n.natAbs).length e1,Yc A2 (bitsOf D.natAbs).length e2,Yc A3 (bitsOf m.natAbs).length e3,Yc A4 (bitsOf E.natAbs).length e4,rfl,rfl,?_,?_,?_,?_,?_,?_,?_,?_,?_,?_,?_,?_,?_,?_⟩
   ·omega
   ·omega
   ·omega
   ·(repeat (first|with_reducible exact FracBox.write j.out _ _ _|with_reducible exact FracBox.write I.out _ _ _|with_reducible exact FracBox.write Gb.out _ _ _|with_reducible exact FracBox.write Gc.out _ _ _|with_reducible exact FracBox.write (FracBox.other (FracBox.other (FracBox.other j.out (by dsimp only;omega) _) (by dsimp only;omega) _) (by dsimp only;omega) _) _ _ _|with_reducible exact FracBox.write (FracBox.other (FracBox.other (FracBox.other I.out (by dsimp only;omega) _) (by dsimp only;omega) _) (by dsimp only;omega) _) _ _ _|with_reducible exact FracBox.write (FracBox.other (FracBox.other (FracBox.other Gb.out (by dsimp only;omega) _) (by dsimp only;omega) _) (by dsimp only;omega) _) _ _ _|with_reducible exact FracBox.write (FracBox.other (FracBox.other (FracBox.other Gc.out (by dsimp only;omega) _) (by dsimp only;omega) _) (by dsimp only;omega) _) _ _ _|with_reducible exact FracBox.start_at (by simp only[World.size_setCell,World.size_alloc]) _ _ _ _|with_reducible refine FracBox.other ?_ (by dsimp only;omega) _|with_reducible refine FracBox.alloc ?_ _))
   ·(repeat (first|with_reducible exact FracBox.write j.out _ _ _|with_reducible exact FracBox.write I.out _ _ _|with_reducible exact FracBox.write Gb.out _ _ _|with_reducible exact FracBox.write Gc.out _ _ _|with_reducible exact FracBox.write (FracBox.other (FracBox.other (FracBox.other j.out (by dsimp only;omega) _) (by dsimp only;omega) _) (by dsimp only;omega) _) _ _ _|with_reducible exact FracBox.write (FracBox.other (FracBox.other (FracBox.other I.out (by dsimp only;omega) _) (by dsimp only;omega) _) (by dsimp only;omega) _) _ _ _|with_reducible exact FracBox.write (FracBox.other (FracBox.other (FracBox.other Gb.out (by dsimp only;omega) _) (by dsimp only;omega) _) (by dsimp only;omega) _) _ _ _|with_reducible exact FracBox.write (FracBox.other (FracBox.other (FracBox.other Gc.out (by dsimp only;omega) _) (by dsimp only;omega) _) (by dsimp only;omega) _) _ _ _|with_reducible exact FracBox.start_at (by simp only[World.size_setCell,World.size_alloc]) _ _ _ _|with_reducible refine FracBox.other ?_ (by dsimp only;omega) _|with_reducible refine FracBox.alloc ?_ _))
   ·(repeat (first|with_reducible exact(ba.out.below M.out)|with_reducible refine Zi.set_out ?_ ad.out (by dsimp only;(try simp only[World.size_alloc,World.size_drew]);omega) _|with_reducible refine Zi.alloc_ ?_ _))
   ·(repeat (first|with_reducible exact(bb.out.below M.out)|with_reducible refine Zi.set_out ?_ ae.out (by dsimp only;(try simp only[World.size_alloc,World.size_drew]);omega) _|with_reducible refine Zi.alloc_ ?_ _))
   ·(repeat (first|with_reducible exact bc.out|with_reducible refine Zi.set_out ?_ af.out (by dsimp only;(try simp only[World.size_alloc]);omega) _|with_reducible refine Zi.alloc_ ?_ _))
   ·(repeat (first|with_reducible exact bd.out|with_reducible refine Zi.set_out ?_ ag.out (by dsimp only;(try simp only[World.size_alloc]);omega) _|with_reducible refine Zi.alloc_ ?_ _))
   ·exact ZeR (by((repeat (first|with_reducible refine ZdD (by dsimp only;omega) _ ?_|with_reducible refine ZbE (below_alloc1 _ _) ?_|with_reducible refine Zcf ?_));with_reducible assumption))
   ·exact ZaU ad.out (by(try simp only[World.size_alloc,World.size_drew]);omega)
   ·exact ZaU ae.out (by(try simp only[World.size_alloc,World.size_drew]);omega)
   ·exact ZaU af.out (by(try simp only[World.size_alloc]);omega)
   ·exact ZaU ag.out (by(try simp only[World.size_alloc]);omega)
 case rest=>
  obtain⟨b,c,x1,x2,y1,y2,rfl,rfl,cu,l,hc,F,G,h1,h2,h3,h4,BX,q1,q2,q3,q4⟩:=hcut;obtain⟨A1,e1,rfl,P⟩:=id h1;obtain⟨A2,e2,rfl,Q⟩:=id h2;obtain⟨A3,e3,rfl,R⟩:=id h3;obtain⟨A4,e4,rfl,S⟩:=id h4;clear P Q R S ra rb c0 c1 c2 c3;obtain⟨Sg,N⟩:∃s,s=decide (n<0):=⟨_,rfl⟩
  obtain⟨Tg,O⟩:∃s,s=decide (m<0):=⟨_,rfl⟩
  rw[<-N]at F;rw[<-O]at G;have J:=Lib.hid (fun(w':World) (l:Below wc.heap.size wc w')=>ZdY w' _ _ n.natAbs m.natAbs (h1.below l) (h3.below l) (by have:=ln.out;have:=lm.out;omega));have K:=Lib.hid (fun(w':World) (l:Below wc.heap.size wc w')=>ZdY w' _ _ D.natAbs E.natAbs (h2.below l) (h4.below l) (by have:=ld.out;have:=le.out;omega));have tt:=fun(w':World) (B:Nat) (v:Value) (h:ZcT w' B v (n.natAbs*m.natAbs) (D.natAbs*E.natAbs) (Sg != Tg))=>Zji w' B v _ _ (Sg != Tg) h (ZeL ln.out lm.out) (ZeL ld.out le.out) dp.out;obtain⟨W,X,Y,hV⟩:∃W X Y,toV (n.natAbs*m.natAbs) (D.natAbs*E.natAbs) (Sg != Tg)=.tuple #[Zb W X,Yd Yf Y]:=⟨_,_,_,rfl⟩
  rw[hV]at tt;have HE:=Lib.hid hV.symm;rw[N,O]at HE;have HS:=ZkC BX F G l hc;have TO:=Lib.hid tt;have z1:=l;have z2:=hc;clear h1 h2 h3 h4 tt F G N O hV q1 q2 q3 q4 BX;go_upto_region 11 with fail
  go_region_held3 (fun w'=>(w'.cell? ⟨b,0,Yb⟩=Ya (Yc A1 (bitsOf n.natAbs).length e1)/\w'.cell? ⟨b,1,Yb⟩=Ya (Yc A2 (bitsOf D.natAbs).length e2)/\w'.cell? ⟨b,2,Yb⟩=Ya (.bool Sg)/\w'.cell? ⟨c,0,Yb⟩=Ya (Yc A3 (bitsOf m.natAbs).length e3)/\w'.cell? ⟨c,1,Yb⟩=Ya (Yc A4 (bitsOf E.natAbs).length e4)/\w'.cell? ⟨c,2,Yb⟩=Ya (.bool Tg))/\(w.heap.size+2<b/\w.heap.size+2<c/\b<w'.heap.size/\c<w'.heap.size)/\Below w.heap.size w w'/\(w'.cell? ⟨w.heap.size+1+1,0,Yb⟩=Ya (Zf w' ⟨w.heap.size+1+1,0,Yb⟩)/\w'.cell? ⟨w.heap.size+1+1,1,Yb⟩=Ya (Zf w' ⟨w.heap.size+1+1,1,Yb⟩))/\(w'.frozen? ⟨w.heap.size+1+1,0,Yb⟩=false/\w'.frozen? ⟨w.heap.size+1+1,1,Yb⟩=false))
   (first
    |with_reducible assumption
    |with_reducible exact Zh1 (by with_reducible assumption) (by with_reducible assumption)
    |with_reducible exact ZeG (ZeG (by with_reducible assumption)))
   (first
    |(go_at_call 86;go_fit (J.out _ (Zn wc));rintro e wd ⟨va,rfl,o,bn,_⟩;obtain⟨A5,e5,rfl,bq⟩:=id o;clear bq;have a6:=Lib.hid o;clear o)
    |(go_at_call 86;go_fit (K.out _ (ZhV bn));rintro e we ⟨vb,rfl,p,bo,_⟩;obtain⟨A6,e6,rfl,br⟩:=id p;clear br;have a7:=Lib.hid p;clear p)
    |(go_at_call 84;(refine(TO.out _ 0 _ ⟨_,_,rfl,a6.out.below bo,a7.out,Zp.any _,Zp.any _⟩).mono ?_);rintro e wf ⟨rfl,cv⟩))
  go_wp2_with fail;obtain⟨i0,i1,hB⟩:=ZjP rfl (by with_reducible assumption);exact bodyPost_ret (v:=.tuple #[Zb W X,Yd Yf Y]) (by simp[results,Tryz.results52,go_sem,i0,i1]) rfl ⟨congrArg Ending.returned HE.out,hB⟩
end Go.Proofs.YtbfnnolakggbfaaGreatDoor
