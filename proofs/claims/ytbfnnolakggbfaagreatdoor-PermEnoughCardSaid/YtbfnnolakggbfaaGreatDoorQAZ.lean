import Derived.Deep.DeepFit
import Derived.Test.YtbfnnolakggbfaaGreatDoorQAE
import Derived.Test.YtbfnnolakggbfaaGreatDoorQAI
set_option maxRecDepth 100000
set_option maxHeartbeats 8000000
open Option renaming some → Ya, none → Yb
open Go.Value renaming int → Yd
open Go.IntKind renaming i64 → Yf
open Go.RowKit
namespace Go.Proofs.YtbfnnolakggbfaaGreatDoor
theorem Zin {w a:World} {n D m E:Int} (h:(a.cell? ⟨w.heap.size,0,Yb⟩=Ya (Yd Yf n)/\a.cell? ⟨w.heap.size,1,Yb⟩=Ya (Yd Yf D)/\a.cell? ⟨w.heap.size+1,0,Yb⟩=Ya (Yd Yf m)/\a.cell? ⟨w.heap.size+1,1,Yb⟩=Ya (Yd Yf E))/\w.heap.size+1<a.heap.size/\Below w.heap.size w a):((a.drew).cell? ⟨w.heap.size,0,Yb⟩=Ya (Yd Yf n)/\(a.drew).cell? ⟨w.heap.size,1,Yb⟩=Ya (Yd Yf D)/\(a.drew).cell? ⟨w.heap.size+1,0,Yb⟩=Ya (Yd Yf m)/\(a.drew).cell? ⟨w.heap.size+1,1,Yb⟩=Ya (Yd Yf E))/\w.heap.size+1<(a.drew).heap.size/\Below w.heap.size w (a.drew):=⟨h.1,h.2.1,h.2.2.drew⟩
theorem Zm5 {w a:World} {n D m E:Int} {p:Addr} (f:w.heap.size+1<p.block) (x:Value) (h:(a.cell? ⟨w.heap.size,0,Yb⟩=Ya (Yd Yf n)/\a.cell? ⟨w.heap.size,1,Yb⟩=Ya (Yd Yf D)/\a.cell? ⟨w.heap.size+1,0,Yb⟩=Ya (Yd Yf m)/\a.cell? ⟨w.heap.size+1,1,Yb⟩=Ya (Yd Yf E))/\w.heap.size+1<a.heap.size/\Below w.heap.size w a):((a.setCell p x).cell? ⟨w.heap.size,0,Yb⟩=Ya (Yd Yf n)/\(a.setCell p x).cell? ⟨w.heap.size,1,Yb⟩=Ya (Yd Yf D)/\(a.setCell p x).cell? ⟨w.heap.size+1,0,Yb⟩=Ya (Yd Yf m)/\(a.setCell p x).cell? ⟨w.heap.size+1,1,Yb⟩=Ya (Yd Yf E))/\w.heap.size+1<(a.setCell p x).heap.size/\Below w.heap.size w (a.setCell p x):=by
 obtain⟨⟨a0,d,a2,a3⟩,g,k⟩:=h;have o:=fun(q:Addr) (hq:q.block<=w.heap.size+1)=>World.cell?_setCell_other a p q x (fun e=>by rw[e]at f;omega);have b:w.heap.size<=w.heap.size+1:=by omega
 have c:w.heap.size+1<=w.heap.size+1:=by omega
 exact⟨⟨(o ⟨_,0,Yb⟩ b).trans a0,(o ⟨_,1,Yb⟩ b).trans d,(o ⟨_,0,Yb⟩ c).trans a2,(o ⟨_,1,Yb⟩ c).trans a3⟩,by rw[World.size_setCell];exact g,k.setCell (by omega) x⟩
theorem Zg2 {w a:World} {A C:Prop} (h:A/\w.heap.size+1<a.heap.size/\C):w.heap.size<a.heap.size/\w.heap.size+1<a.heap.size:=by have:=h.2.1;omega
theorem ZoH {w a:World} {n D m E:Int} (h:(a.cell? ⟨w.heap.size,0,Yb⟩=Ya (Yd Yf n)/\a.cell? ⟨w.heap.size,1,Yb⟩=Ya (Yd Yf D)/\a.cell? ⟨w.heap.size+1,0,Yb⟩=Ya (Yd Yf m)/\a.cell? ⟨w.heap.size+1,1,Yb⟩=Ya (Yd Yf E))/\w.heap.size+1<a.heap.size/\Below w.heap.size w a):Below w.heap.size w a:=h.2.2
def ZrA (w:World) (n D m E:Int) (p q:Value) (a:World):Prop:=∃b c d e f g,p=.pointer (Ya ⟨b,0,Yb⟩)/\q=.pointer (Ya ⟨c,0,Yb⟩)/\b≠c/\w.heap.size+1<b/\w.heap.size+1<c ∧
 FracBox a b d e (.bool (decide (n<0)))/\FracBox a c f g (.bool (decide (m<0)))/\Zi a d (bitsOf n.natAbs)/\Zi a e (bitsOf D.natAbs)/\Zi a f (bitsOf m.natAbs)/\Zi a g (bitsOf E.natAbs)/\Below w.heap.size w a/\Zew d (bitsOf n.natAbs) c/\Zew e (bitsOf D.natAbs) c/\Zew f (bitsOf m.natAbs) c/\Zew g (bitsOf E.natAbs) c
theorem Zml {T:Nat}:(((bitsOf T).length:Int)==0)=decide (T=0):=by
 by_cases h:T=0
 ·subst h;rw[ZaM];rfl
 ·rw[decide_eq_false h];have:(bitsOf T).length≠0:=by rw[Zbz h];simp
  exact beq_eq_false_iff_ne.2 (by omega)
theorem ZkN {n m:Int} {d e:Nat} (v:Valid n d) (u:Valid m e) {T:Nat} {S:Bool} (hT:T=Zba (decide (n<0)) (n.natAbs*(e:Int).natAbs) (!decide (m<0)) (m.natAbs*(d:Int).natAbs))
  (hS:S=ZbI (decide (n<0)) (n.natAbs*(e:Int).natAbs) (!decide (m<0)) (m.natAbs*(d:Int).natAbs)) {V:Int} (hV:V=if T=0 then 0 else if S=true then -1 else 1) (w:World) :
  Calls Tryz.prog 158 #[Zb n d,Zb m e] w fun r w'=>r=.returned (Yd Yf V)/\Below w.heap.size w w':=by
 have vn:=v.n_le;have vd:=v.d_le;have un:=u.n_le;have ud:=u.d_le;have ra:=fun w=>ZaC n d w (by omega) (by omega) (by omega) (by omega);have rb:=fun w=>ZaC m e w (by omega) (by omega) (by omega) (by omega);rw[v.right]at ra;rw[u.right]at rb;have fa:=Lib.hid (fun w=>Zcp n d w (by omega) (by omega) (by omega) (by omega));have fb:=Lib.hid (fun w=>Zcp m e w (by omega) (by omega) (by omega) (by omega));have ln:=Lib.hid (Zbs vn);have lm:=Lib.hid (Zbs un);have ld:=Lib.hid (Zbs (n:=(d:Int).natAbs) (by simpa using vd));have le:=Lib.hid (Zbs (n:=(e:Int).natAbs) (by simpa using ud));have HT:=Lib.hid hT;have HS:=Lib.hid hS;have L:=Lib.hid hV;clear hT hS hV;clear vn vd un ud;generalize(e:Int)=E at *;generalize(d:Int)=D at *;go_enter Tryz.func158,Tryz.ntmps158;go_upto_region 1 with fail;have B:=Zjd w n D m E 23
 go_upto_region 3 with(first
  |(go_at_call 37;(first|with_reducible refine(ra _).mono ?_|with_reducible refine(rb _).mono ?_);rintro e w1 ⟨rfl,hb⟩;have B:=Zcy hb B;obtain⟨⟨c0,c1,c2,c3⟩,_,_⟩:=id B))
 go_cut [5,6] (fun v8 v9 wx=>ZrA w n D m E v8 v9 wx)
 case first=>
  have ac:=id B;have BD:=Zin ac;have hz:=Zg2 ac;obtain⟨z0,z1⟩:=hz
  rename_i K0 am J0 K1 an ao
  have bc:=Lib.hid am;have af:=Lib.hid an;have ag:=Lib.hid ao;clear ra rb c0 c1 c2 c3 B hb am an ao;clear v u
  go_region_held3 (fun w'=>(w'.cell? ⟨w.heap.size,0,Yb⟩=Ya (Yd Yf n)/\w'.cell? ⟨w.heap.size,1,Yb⟩=Ya (Yd Yf D)/\w'.cell? ⟨w.heap.size+1,0,Yb⟩=Ya (Yd Yf m)/\w'.cell? ⟨w.heap.size+1,1,Yb⟩=Ya (Yd Yf E))/\w.heap.size+1<w'.heap.size/\Below w.heap.size w w')
   (((repeat (first|with_reducible refine Zm5 (by dsimp only;omega) _ ?_|with_reducible refine Zcy (below_alloc1 _ _) ?_|with_reducible refine Zin ?_));with_reducible assumption))
   (first
    |(go_at_call 83;go_fit (fa.out _);rintro e U ⟨va,rfl,bq,g⟩;obtain⟨x1,x2,rfl,C,H,ap,aq⟩:=bq;have BA:(U.cell? ⟨w.heap.size,0,Yb⟩=Ya (Yd Yf n)/\U.cell? ⟨w.heap.size,1,Yb⟩=Ya (Yd Yf D)/\U.cell? ⟨w.heap.size+1,0,Yb⟩=Ya (Yd Yf m)/\U.cell? ⟨w.heap.size+1,1,Yb⟩=Ya (Yd Yf E))/\w.heap.size+1<U.heap.size/\Below w.heap.size w U:=Zcy g (by with_reducible assumption)
      obtain⟨A1,e1,rfl,O⟩:=id C;obtain⟨A2,e2,rfl,P⟩:=id H;clear O P;have ai:=Lib.hid (C.inside ap);have aj:=Lib.hid (H.inside aq);have bd:=Lib.hid C;have be:=Lib.hid H;clear C H ap aq
      obtain⟨s0,s1⟩:=Zg2 BA
      (first
       |(with_reducible have GG:=Zdh g;obtain⟨a,l⟩:=GG;obtain⟨m0,X,Y,Z,m4,m5,A⟩:=id a;obtain⟨n0,n1,n2,n3,n4,n5,n6⟩:=id l;have j:=Lib.hid a;have K:=Lib.hid l;clear a l)
       |(with_reducible have a:=Zdg g;obtain⟨m0,X,Y,Z,m4,m5,A⟩:=id a;have j:=Lib.hid a;clear a)
       |(with_reducible have GG:=Zcv g;obtain⟨a,l⟩:=GG;obtain⟨m0,X,Y,Z,m4,m5,A⟩:=id a;obtain⟨n0,n1,n2,n3,n4,n5,n6⟩:=id l;have j:=Lib.hid a;have K:=Lib.hid l;clear a l)
       |(with_reducible have a:=Zcu g;obtain⟨m0,X,Y,Z,m4,m5,A⟩:=id a;have j:=Lib.hid a;clear a)
       |skip)
      have cz:=Lib.hid g;clear g)
    |(go_at_call 83;go_fit (fb.out _);rintro e W ⟨vb,rfl,br,h⟩;obtain⟨y1,y2,rfl,I,J,ar,au⟩:=br;have BB:(W.cell? ⟨w.heap.size,0,Yb⟩=Ya (Yd Yf n)/\W.cell? ⟨w.heap.size,1,Yb⟩=Ya (Yd Yf D)/\W.cell? ⟨w.heap.size+1,0,Yb⟩=Ya (Yd Yf m)/\W.cell? ⟨w.heap.size+1,1,Yb⟩=Ya (Yd Yf E))/\w.heap.size+1<W.heap.size/\Below w.heap.size w W:=Zcy h (by with_reducible assumption)
      obtain⟨A3,e3,rfl,Q⟩:=id I;obtain⟨A4,e4,rfl,R⟩:=id J;clear Q R;have ak:=Lib.hid (I.inside ar);have al:=Lib.hid (J.inside au);have bf:=Lib.hid I;have bg:=Lib.hid J;clear I J ar au
      obtain⟨t0,t1⟩:=Zg2 BB
      (first
       |(with_reducible have GG:=Zcv h;obtain⟨M,G2⟩:=GG;obtain⟨p0,p1,p2,p3,p4,p5,p6⟩:=id M;obtain⟨q0,q1,q2,q3,q4,q5,q6⟩:=id G2;have Gb:=Lib.hid M;have Gc:=Lib.hid G2;clear M G2;have i:=ZcW h)
       |(with_reducible have M:=Zcu h;obtain⟨p0,p1,p2,p3,p4,p5,p6⟩:=id M;have Gb:=Lib.hid M;clear M;have i:=Zdf h)
       |have i:=id h)
      (first
       |(have a:=j.out.keep i;have l:=K.out.keep i;have bp:=id A;have c6:=id n6;obtain⟨p0,p1,p2,p3,p4,p5,p6⟩:=id a;obtain⟨q0,q1,q2,q3,q4,q5,q6⟩:=id l;clear m0 X Y Z m4 m5 A n0 n1 n2 n3 n4 n5 n6 j K;have j:=Lib.hid a;have K:=Lib.hid l;clear a l)
       |(have a:=j.out.keep i;have c7:=Nat.ne_of_lt A;have cb:=Nat.ne_of_gt A;have bp:=id A;clear m0 X Y Z m4 m5 A j;obtain⟨m0,X,Y,Z,m4,m5,A⟩:=id a;have j:=Lib.hid a;clear a)
       |skip)
      have N:=Lib.hid i;clear h i))
  all_goals
   refine ag.out _ _ (Met.intro (af.out _ _ ?_))
   (repeat apply Exists.intro)
   refine⟨?_,rfl⟩;clear bc af ag;have c8:U.heap.size<=W.heap.size:=N.out.size;refine⟨_,_,.slice A1 (bitsOf n.natAbs).length e1,.slice A2 (bitsOf D.natAbs).length e2,.slice A3 (bitsOf m.natAbs).length e3,.slice A4 (bitsOf E.natAbs).length e4,rfl,rfl,?_,?_,?_,?_,?_,?_,?_,?_,?_,?_,?_,?_,?_,?_⟩
   ·omega
   ·omega
   ·omega
   ·(repeat (first|with_reducible exact FracBox.write j.out _ _ _|with_reducible exact FracBox.write K.out _ _ _|with_reducible exact FracBox.write Gb.out _ _ _|with_reducible exact FracBox.write Gc.out _ _ _|with_reducible exact FracBox.write (FracBox.other (FracBox.other (FracBox.other j.out (by dsimp only;omega) _) (by dsimp only;omega) _) (by dsimp only;omega) _) _ _ _|with_reducible exact FracBox.write (FracBox.other (FracBox.other (FracBox.other K.out (by dsimp only;omega) _) (by dsimp only;omega) _) (by dsimp only;omega) _) _ _ _|with_reducible exact FracBox.write (FracBox.other (FracBox.other (FracBox.other Gb.out (by dsimp only;omega) _) (by dsimp only;omega) _) (by dsimp only;omega) _) _ _ _|with_reducible exact FracBox.write (FracBox.other (FracBox.other (FracBox.other Gc.out (by dsimp only;omega) _) (by dsimp only;omega) _) (by dsimp only;omega) _) _ _ _|with_reducible exact FracBox.start_at (by simp only[World.size_setCell,World.size_alloc]) _ _ _ _|with_reducible refine FracBox.other ?_ (by dsimp only;omega) _|with_reducible refine FracBox.alloc ?_ _))
   ·(repeat (first|with_reducible exact FracBox.write j.out _ _ _|with_reducible exact FracBox.write K.out _ _ _|with_reducible exact FracBox.write Gb.out _ _ _|with_reducible exact FracBox.write Gc.out _ _ _|with_reducible exact FracBox.write (FracBox.other (FracBox.other (FracBox.other j.out (by dsimp only;omega) _) (by dsimp only;omega) _) (by dsimp only;omega) _) _ _ _|with_reducible exact FracBox.write (FracBox.other (FracBox.other (FracBox.other K.out (by dsimp only;omega) _) (by dsimp only;omega) _) (by dsimp only;omega) _) _ _ _|with_reducible exact FracBox.write (FracBox.other (FracBox.other (FracBox.other Gb.out (by dsimp only;omega) _) (by dsimp only;omega) _) (by dsimp only;omega) _) _ _ _|with_reducible exact FracBox.write (FracBox.other (FracBox.other (FracBox.other Gc.out (by dsimp only;omega) _) (by dsimp only;omega) _) (by dsimp only;omega) _) _ _ _|with_reducible exact FracBox.start_at (by simp only[World.size_setCell,World.size_alloc]) _ _ _ _|with_reducible refine FracBox.other ?_ (by dsimp only;omega) _|with_reducible refine FracBox.alloc ?_ _))
   ·(repeat (first|with_reducible exact(bd.out.below N.out)|with_reducible refine Zi.set_out ?_ ai.out (by dsimp only;(try simp only[World.size_alloc,World.size_drew]);omega) _|with_reducible refine Zi.alloc_ ?_ _))
   ·(repeat (first|with_reducible exact(be.out.below N.out)|with_reducible refine Zi.set_out ?_ aj.out (by dsimp only;(try simp only[World.size_alloc,World.size_drew]);omega) _|with_reducible refine Zi.alloc_ ?_ _))
   ·(repeat (first|with_reducible exact bf.out|with_reducible refine Zi.set_out ?_ ak.out (by dsimp only;(try simp only[World.size_alloc]);omega) _|with_reducible refine Zi.alloc_ ?_ _))
   ·(repeat (first|with_reducible exact bg.out|with_reducible refine Zi.set_out ?_ al.out (by dsimp only;(try simp only[World.size_alloc]);omega) _|with_reducible refine Zi.alloc_ ?_ _))
   ·exact ZoH (n:=n) (D:=D) (m:=m) (E:=E) (by((repeat (first|with_reducible refine Zm5 (by dsimp only;omega) _ ?_|with_reducible refine Zcy (below_alloc1 _ _) ?_|with_reducible refine Zin ?_));with_reducible assumption))
   ·exact ZaU ai.out (by(try simp only[World.size_alloc,World.size_drew]);omega)
   ·exact ZaU aj.out (by(try simp only[World.size_alloc,World.size_drew]);omega)
   ·exact ZaU ak.out (by(try simp only[World.size_alloc]);omega)
   ·exact ZaU al.out (by(try simp only[World.size_alloc]);omega)
 case rest=>
  obtain⟨b,c,x1,x2,y1,y2,rfl,rfl,bo,hb,hc,F,G,h1,h2,h3,h4,f,q1,q2,q3,q4⟩:=hcut;obtain⟨A1,e1,rfl,O⟩:=id h1;obtain⟨A2,e2,rfl,P⟩:=id h2;obtain⟨A3,e3,rfl,Q⟩:=id h3;obtain⟨A4,e4,rfl,R⟩:=id h4;clear O P Q R ra rb c0 c1 c2 c3;obtain⟨Tg,ah⟩:∃s,s=decide (m<0):=⟨_,rfl⟩
  rw[<-ah]at G HT HS;obtain⟨k0,k1,k2,k3,k4,k5,k6⟩:=id F;obtain⟨g0,g1,g2,g3,g4,g5,g6⟩:=id G;have sm:=ZiF (wc.setCell ⟨c,2,Yb⟩ (.bool (!Tg))) 0 0 _ _ n.natAbs D.natAbs m.natAbs E.natAbs (decide (n<0)) (!Tg) ⟨_,_,rfl,h1.set_ne (p:=⟨c,2,Yb⟩) q1 _,h2.set_ne (p:=⟨c,2,Yb⟩) q2 _,Zp.any _,Zp.any _⟩ ⟨_,_,rfl,h3.set_ne (p:=⟨c,2,Yb⟩) q3 _,h4.set_ne (p:=⟨c,2,Yb⟩) q4 _,Zp.any _,Zp.any _⟩ ln.out ld.out lm.out le.out;rw[<-HT.out,<-HS.out]at sm;have f:=f.setCell (p:=⟨c,2,Yb⟩) (by show w.heap.size<=c;omega) (.bool (!Tg));have SM:=Lib.hid sm;have ca:=Ne.symm bo;have hz:=@Zml T;clear h1 h2 h3 h4 sm F G HT HS ah q1 q2 q3 q4;by_cases k:T=0
  ·rw[decide_eq_true k]at hz;obtain rfl:V=0:=L.out.trans (if_pos k);clear k L
   go_wp2_with (first
    |(go_at_call 85;go_fit SM.out;rintro e wd ⟨v,rfl,⟨v1,v2,rfl,y,z,_,_⟩,o⟩;obtain⟨A5,e5,rfl,t⟩:=y;obtain⟨A6,e6,rfl,x⟩:=z;clear t x;have f:=f.trans (o.mono f.size)))
   go_ret;exact⟨rfl,f.trans ((below_alloc1 _ _).mono f.size)⟩
  ·rw[decide_eq_false k]at hz;have L:=Lib.hid (L.out.trans (if_neg k));clear k;cases S
   ·obtain rfl:V=1:=L.out.trans (if_neg (by decide));clear L
    go_wp2_with (first
     |(go_at_call 85;go_fit SM.out;rintro e wd ⟨v,rfl,⟨v1,v2,rfl,y,z,_,_⟩,o⟩;obtain⟨A5,e5,rfl,t⟩:=y;obtain⟨A6,e6,rfl,x⟩:=z;clear t x;have f:=f.trans (o.mono f.size)))
    go_ret;exact⟨rfl,f.trans ((below_alloc1 _ _).mono f.size)⟩
   ·obtain rfl:V=-1:=L.out.trans (if_pos rfl);clear L
    go_wp2_with (first
     |(go_at_call 85;go_fit SM.out;rintro e wd ⟨v,rfl,⟨v1,v2,rfl,y,z,_,_⟩,o⟩;obtain⟨A5,e5,rfl,t⟩:=y;obtain⟨A6,e6,rfl,x⟩:=z;clear t x;have f:=f.trans (o.mono f.size)))
    go_ret;exact⟨rfl,f.trans ((below_alloc1 _ _).mono f.size)⟩
end Go.Proofs.YtbfnnolakggbfaaGreatDoor
