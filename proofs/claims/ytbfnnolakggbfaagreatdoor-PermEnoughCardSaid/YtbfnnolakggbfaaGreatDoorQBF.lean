import Derived.Deep.DeepFit
import Derived.Test.YtbfnnolakggbfaaGreatDoorQBE
set_option maxRecDepth 100000
set_option maxHeartbeats 8000000
open Option renaming some → Ya, none → Yb
open Go.Value renaming slice → Yc, int → Yd
open Go.IntKind renaming i64 → Yf
open Go.Obj renaming cells → Yg
open Go renaming Value → Yi
namespace Go.Proofs.YtbfnnolakggbfaaGreatDoor
section
open Go.RowKit
theorem Zem (a:Rw) (v:List Rw):∀(u c:List Rw),Zap a c (u++v)=(Zap a c u).bind fun d=>Zap a d v
 |[],c=>rfl
 |b::r,c=>by
  rw[List.cons_append,Zap,Zap];cases Zbt a b with
  |none=>rfl
  |some t=>exact Zem a v r (c++[t])
theorem Zen (up d:List Rw):∀(e b:List Rw),ZaL b (e++d) up=(ZaL b e up).bind fun c=>ZaL c d up
 |[],b=>rfl
 |a::r,b=>by
  rw[List.cons_append,ZaL,ZaL];cases Zap a b up with
  |none=>rfl
  |some t=>exact Zen up d r t
structure SumS (S0:Nat->Prop) (W w:World) (va:Yi) (xa:List Rw) (vb:Yi) (xb:List Rw) (vc:Yi) (xc:List Rw) (ba:Nat) (v:Yi) (a:Rw):Prop where
 tri:Tri S0 W w va xa vb xb vc xc
 B:Blk w ba #[Yd Yf a.1,v,Yd Yf a.2.2.1,Yd Yf a.2.2.2]
 nb:¬four S0 va vb vc ba
 r:Za w v a.2.1
 off:Off (four S0 va vb vc) v a.2.1
section
variable {S0:Nat->Prop} {W w w':World} {va va' vb vc v vt:Yi} {xa xb xc:List Rw} {ba:Nat} {a:Rw}
theorem SumS.keep (h:SumS S0 W w va xa vb xb vc xc ba v a) (b:Below w.heap.size w w'):SumS S0 W w' va xa vb xb vc xc ba v a:=
 ⟨h.tri.keep b,h.B.keep b,h.nb,h.r.below b,h.off⟩
theorem SumS.push {t:Rw} {rs:List (Yi×Rw)} (h:SumS S0 W w va xa vb xb vc xc ba v a) (i:rs.map (·.2)=xa) (j:∀x∈rs,Za w x.1 x.2.2.1/\Off (four S0 va vb vc) x.1 x.2.2.1)
  (c:w'.ownsRow W.heap.size 39 4 va' (xa.length+1) (Zr rs++[Yd Yf t.1,vt,Yd Yf t.2.2.1,Yd Yf t.2.2.2])) (f:w.grownBy w' va.ownBlock) (g:va'.ownBlock=va.ownBlock\/va'.ownBlock=Ya w.heap.size) (n:Za w vt t.2.1) (m:Off (four S0 va vb vc) vt t.2.1) :
  SumS S0 W w' va' (xa++[t]) vb xb vc xc ba v a:=by
 have d:∀b,four S0 va' vb vc b->four S0 va vb vc b\/w.heap.size<=b:=by
  intro b q;rcases q with q|q
  ·rcases g with e|e
   ·rw[e]at q;exact .inl (.inl q)
   ·rw[e]at q;injection q with q;exact .inr (by omega)
  ·exact .inl (.inr q)
 have l:=h.B.lt;exact⟨h.tri.push i j c f g n m,h.B.grown f (fun e=>h.nb (.inl e)),fun q=>(d ba q).elim h.nb (fun q=>by omega),h.r.off h.off f (fun b k=>.inl k),h.off.more h.r d⟩
end
def Zjn (b:Nat->Prop) (W:World) (o:Option (List Rw)) (c:Yi) (f:List Rw) (d:Yi) (g:List Rw) (e:Ending) (w':World):Prop:=
 (∃l a,o=Ya l/\e=.returned (.tuple #[a,Yd Yf 0])/\Tri b W w' a l c f d g) ∨
 (o=Yb/\∃z:Int,(z != 0)=true/\e=.returned (.tuple #[Yc Yb 0 0,Yd Yf z])/\Below W.heap.size W w')
theorem Zmd (S0:Nat->Prop) (W w:World) (M:Yi) (J:List Rw) (vb:Yi) (u:List Rw) (vc:Yi) (d:List Rw) (h:Tri S0 W w M J vb u vc d) (hb:∀r∈u,TrmOk r.2) (hc:∀r∈d,TrmOk r.2) (hl:J.length<=1000/\u.length<=1000/\d.length<=1000) :
  Calls Tryz.prog 116 #[M,vb,vc] w (Zjn S0 W (Za2 (J,u,d)) vb u vc d):=by
 obtain⟨iR,aw,bj,bk,bm⟩:=info_parts ZcP;have D0:=zh h;obtain⟨Aa,ca,rfl⟩:∃A c,M=Yc A J.length c:=by obtain⟨A,c,_,e,_⟩:=h.a.rows;exact⟨A,c,e⟩
 obtain⟨Ab,cb,rfl⟩:∃A c,vb=Yc A u.length c:=by obtain⟨A,c,_,e,_⟩:=h.b.rows;exact⟨A,c,e⟩
 obtain⟨Ac,cc,rfl⟩:∃A c,vc=Yc A d.length c:=by obtain⟨A,c,_,e,_⟩:=h.c.rows;exact⟨A,c,e⟩
 obtain⟨n,hn⟩:∃n,n=u.length:=⟨_,rfl⟩
 obtain⟨m,hm⟩:∃m,m=d.length:=⟨_,rfl⟩
 obtain⟨p,hp⟩:∃p,p=J.length:=⟨_,rfl⟩
 have hw:Za2 (J,u,d)=if 400<p+n*m then Yb else ZaL J u d:=by rw[hp,hn,hm];rfl
 rw[hw];obtain⟨q,hq⟩:∃q,q=n*m:=⟨_,rfl⟩
 have c5:q<=1000000:=by rw[hq,hn,hm];exact Nat.mul_le_mul hl.2.1 hl.2.2
 rw[<-hq]at hw⊢;have m1:IntKind.i64.wrap ((n:Int)*(m:Int))=(q:Int):=by rw[show(n:Int)*(m:Int)=(q:Int)by rw[hq];push_cast;rfl];exact IntWalk.i64_in _ (by omega)
 have m2:IntKind.i64.wrap ((p:Int)+(q:Int))=(p:Int)+(q:Int):=IntWalk.i64_in _ (by have:=hl.1;omega);have K:=zh (zi hn (zi hm (zi hp (zi hq (zi hb (zi hc hl))))));clear hw c5 h hb hc;rw[<-hn,<-hm,<-hp]at D0⊢;by_cases I:400<p+q
 ·have i1:(400:Int)<(p:Int)+(q:Int):=by omega
  rw[Yo I];clear hn hm hp hq hl I K;go_enter Tryz.func116,Tryz.ntmps116;go_wp2_with fail;go_ret2;exact .inr ⟨rfl,3,rfl,rfl,D0.out.below⟩
 ·have i1:¬(400:Int)<(p:Int)+(q:Int):=by omega
  rw[Yn I];have HB:=zh I;clear hn hm hp hq hl I;go_enter Tryz.func116,Tryz.ntmps116;go_wp2_with fail;go_loopg [0,26] n (fun g v0 da wr=>∃(i:Nat) (l:List Rw) (M:Yi),M=v0/\da=Yd Yf i/\i<=n/\g=n-i/\ZaL J (u.take i) d=Ya l/\l.length=p+i*m/\Tri S0 W wr M l (Yc Ab n cb) u (Yc Ac m cc) d)
  case atStart=>exact⟨0,J,_,rfl,rfl,Nat.zero_le _,rfl,rfl,by rw[Nat.zero_mul,K.out.2.2.1];rfl,D0.out⟩
  case round=>
   clear D0 m1 m2 i1;obtain⟨i,l,M,rfl,rfl,hi,hg,V,a7,D⟩:=hrel;by_cases a6:i=n
   ·have he:u.take i=u:=by rw[a6,K.out.1];exact List.take_length
    rw[he]at V;have an:=zh (show Zjn S0 W (ZaL J u d) (Yc Ab n cb) u (Yc Ac m cc) d (.returned (.tuple #[M,Yd Yf 0])) wr from .inl ⟨_,M,V,rfl,D⟩);subst a6;clear hi hg D he V a7;have i3:¬(i:Int)<(i:Int):=by omega
    go_wp2_with fail;go_ret2;exact an.out
   ·have a8:i<n:=by omega
    obtain⟨Y,z1,z2,z3⟩:=D.b;obtain⟨y,hy⟩:∃y,Y[i]? = Ya y:=⟨_,Ym (by rw[show Y.length=n by rw[K.out.1,<-z1,List.length_map]];omega)⟩
    have bf:u[i]? = Ya y.2:=by rw[<-z1,List.getElem?_map,hy];rfl
    rw[<-K.out.1]at z2;obtain⟨ad,rfl,d0,d1,d2,d3⟩:=ZaT (Zw.of_own z2) (Below.refl _ _) hy (by omega);have af:=z3 y (List.mem_of_getElem? hy);have b6:=K.out.2.2.2.2.1 y.2 (List.mem_of_getElem? bf);have nx:ZaL J (u.take (i+1)) d=Zap y.2 l d:=by rw[List.take_add_one,bf];show ZaL J (u.take i++[y.2]) d=_;rw[Zen,V,Option.bind_some,ZaL];cases Zap y.2 l d<;>rfl
    have nn:Zap y.2 l d=Yb->ZaL J u d=Yb:=fun q=>by
     rw[<-List.take_append_drop (i+1) u,Zen,nx,q];rfl
    have i1:(i:Int)<(n:Int):=by omega
    have i2:(0:Int)<=(i:Int):=by omega
    have wk:IntKind.i64.wrap ((i:Int)+1)=(i:Int)+1:=IntWalk.i64_in _ (by have:=K.out.2.2.2.2.2.2.2.1;have:=K.out.1;omega);have ak:(i+1)*m<=n*m:=Nat.mul_le_mul_right m a8;have b4:l.length+m<=400:=by have:=HB.out;have:=K.out.2.2.2.1;rw[Nat.add_mul,Nat.one_mul]at ak;omega
    have b5:(i+1)*m=i*m+m:=by rw[Nat.add_mul,Nat.one_mul]
    obtain⟨yv,G,f,F,a2⟩:=y;dsimp only at *;obtain⟨Ax,cx,rfl⟩:=Zc af.1;have HK:=zh (zi a8 (zi hg (zi nx (zi nn (zi b6 (zi b4 (zi a7 b5)))))));have ax:=below_alloc1 wr (Yg #[Yd Yf G,Yc Ax f.length cx,Yd Yf F,Yd Yf a2] 39);have S1:=zh (show SumS S0 W (wr.alloc (Yg #[Yd Yf G,Yc Ax f.length cx,Yd Yf F,Yd Yf a2] 39)) M l (Yc (Ya ad) n cb) u (Yc Ac m cc) d wr.heap.size (Yc Ax f.length cx) (G,f,F,a2)from⟨D.keep ax,Blk.start wr #[Yd Yf G,Yc Ax f.length cx,Yd Yf F,Yd Yf a2] 39,fun q=>by have:=D.lt _ q;omega,af.1.below ax,af.2⟩);clear a6 hi hg bf hy af b6 nx nn V a8 a7 b4 ak b5 D ax z1 z2 z3;go_upto_region 6 with fail;clear d0 d1 d2 d3;generalize wr.alloc (Yg #[Yd Yf G,Yc Ax f.length cx,Yd Yf F,Yd Yf a2] 39)=w1 at *;generalize wr.heap.size=ba at *;have S1:=zh (zi S1.out (show Zap (G,f,F,a2) l (d.take 0)=Ya l from rfl));go_wp2_with fail;go_loopg [0,32] m (fun g v0 db wr=>∃(j:Nat) (l2:List Rw) (M:Yi),M=v0/\db=Yd Yf j/\j<=m/\g=m-j/\Zap (G,f,F,a2) l (d.take j)=Ya l2/\l2.length=l.length+j/\SumS S0 W wr M l2 (Yc (Ya ad) n cb) u (Yc Ac m cc) d ba (Yc Ax f.length cx) (G,f,F,a2))
    case atStart=>exact⟨0,l,_,rfl,rfl,Nat.zero_le _,rfl,S1.out.2,rfl,S1.out.1⟩
    case round=>
     clear S1;obtain⟨j,l2,M,rfl,rfl,hj,av,X,ae,D⟩:=hrel;by_cases ac:j=m
     ·have ez:d.take j=d:=by rw[ac,K.out.2.1];exact List.take_length
      rw[ez]at X;have NX:=zh (zi (show ZaL J (u.take (i+1)) d=Ya l2 from by rw[HK.out.2.2.1,X]) (show l2.length=p+(i+1)*m from by rw[ae,HK.out.2.2.2.2.2.2.1,HK.out.2.2.2.2.2.2.2,ac];omega));have DT:=zh D.tri;subst ac;clear X ez hj av D ae;have i3:¬(j:Int)<(j:Int):=by omega
      go_wp2_with fail;go_roundg (n-(i+1))
      case measure=>have:=HK.out.1;have:=HK.out.2.1;omega
      case rel=>exact⟨i+1,l2,_,rfl,by push_cast;rfl,by have:=HK.out.1;omega,rfl,NX.out.1,NX.out.2,DT.out⟩
     ·have aj:j<m:=by omega
      obtain⟨Y,z1,z2,z3⟩:=D.tri.c;obtain⟨x,hx⟩:∃x,Y[j]? = Ya x:=⟨_,Ym (by rw[show Y.length=m by rw[K.out.2.1,<-z1,List.length_map]];omega)⟩
      have be:d[j]? = Ya x.2:=by rw[<-z1,List.getElem?_map,hx];rfl
      rw[<-K.out.2.1]at z2;obtain⟨bw,rfl,d0,d1,d2,d3⟩:=ZaT (Zw.of_own z2) (Below.refl _ _) hx (by omega);have bc:=(z3 x (List.mem_of_getElem? hx)).1;have T:=K.out.2.2.2.2.2.1 x.2 (List.mem_of_getElem? be);have bg:Zap (G,f,F,a2) l (d.take (j+1))=(Zbt (G,f,F,a2) x.2).map fun t=>l2++[t]:=by rw[List.take_add_one,be];show Zap _ l (d.take j++[x.2])=_;rw[Zem,X,Option.bind_some,Zap];cases Zbt (G,f,F,a2) x.2<;>rfl
      have b8:Zbt (G,f,F,a2) x.2=Yb->ZaL J u d=Yb:=fun q=>HK.out.2.2.2.1 (by
       rw[<-List.take_append_drop (j+1) d,Zem,bg,q]
       rfl)
      have bh:=HK.out.2.2.2.2.1;have ap:=fun(w':World) (hb:Below wr.heap.size wr w')=>ZiL w' (Yc Ax f.length cx) x.1 f x.2.2.1 (F,a2) x.2.2.2 (D.r.below hb) (bc.below hb) bh.ok.wide T.ok.wide bh.k.wide T.k.wide;have L:Zbt (G,f,F,a2) x.2=(Zcc (f,F,a2) x.2.2).map fun t=>(Zdl (G,f,F,a2) x.2,t):=rfl;unfold Zcc at L;dsimp only at L ap;generalize ZaO f x.2.2.1 (F,a2) x.2.2.2=Q at *;have i3:(j:Int)<(m:Int):=by omega
      have i4:(0:Int)<=(j:Int):=by omega
      have wj:IntKind.i64.wrap ((j:Int)+1)=(j:Int)+1:=IntWalk.i64_in _ (by have:=K.out.2.2.2.2.2.2.2.2;have:=K.out.2.1;omega);have b3:l2.length+1<=1000:=by have:=HK.out.2.2.2.2.2.1;omega
      obtain⟨U,⟨C,E⟩,e2⟩:=Q;obtain⟨xv,bo,bl,b1,b2⟩:=x;dsimp only at *;obtain⟨Ay,cy,rfl⟩:=Zc bc;have AD:=zh ap;have H:=zh (zi aj (zi av (zi bg (zi b8 (zi ae L)))));have LK:=zh (show l2.length+1<=maxLen/\(l2.length+1)*48<=140737488355328 from by unfold maxLen;omega);have DJ:=zh D;clear ac hj av X D be hx bc T bg b8 bh ap L aj ae b3 z1 z2 z3;go_upto_region 9 with fail;have ay:=below_alloc1 wr (Yg #[Yd Yf bo,Yc Ay bl.length cy,Yd Yf b1,Yd Yf b2] 39);have YB:=Blk.start wr #[Yd Yf bo,Yc Ay bl.length cy,Yd Yf b1,Yd Yf b2] 39;have S:=zh (zi (DJ.out.keep ay) (zi YB ay));clear d0 d1 d2 d3 ay YB;generalize dt:wr.heap.size=bb at *;generalize wr.alloc (Yg #[Yd Yf bo,Yc Ay bl.length cy,Yd Yf b1,Yd Yf b2] 39)=w2 at *;have r1:=S.out.1.B.cell 1;have r2:=S.out.1.B.cell 2;have r3:=S.out.1.B.cell 3;have y1:=S.out.2.1.cell 1;have y2:=S.out.2.1.cell 2;have y3:=S.out.2.1.cell 3;go_upto_region 10 with(go_at_call 114;go_fit (AD.out _ S.out.2.2);rintro e7 w7 ⟨v7,rfl,bd,au,bx⟩;obtain⟨O,P,rfl⟩:=Zc bd)
      have az:=below_alloc1 w7 (Yg #[Yc O U.length P,Yd Yf C,Yd Yf E] 37);have fo:Off (four S0 M (Yc (Ya ad) n cb) (Yc (Ya bw) m cc)) (Yc O U.length P) U:=Off.fresh bx (fun b q=>by have:=DJ.out.tri.lt b q;have:=S.out.2.2.size;omega);have N:=zh (zi ((S.out.1.keep au).keep az) (zi (bd.below az) fo));have P3:=zh (zi ((S.out.2.1.keep au).keep az) (Blk.start w7 #[Yc O U.length P,Yd Yf C,Yd Yf E] 37));clear r1 r2 r3 y1 y2 y3 S az fo bd au bx;generalize w7.heap.size=bz at *;generalize w7.alloc (Yg #[Yc O U.length P,Yd Yf C,Yd Yf E] 37)=w3 at *;have L:=H.out.2.2.2.2.2;by_cases he:e2=0
      ·subst he;rw[Yo rfl,Option.map_some]at L;have r0:=N.out.1.B.cell 0;have y0:=P3.out.1.cell 0;have p0:=P3.out.2.cell 0;have p1:=P3.out.2.cell 1;have p2:=P3.out.2.cell 2;by_cases ha:G=2
       ·have ea:(G==2)=true:=by rw[ha];rfl
        have NX:=zh (show Zap (G,f,F,a2) l (d.take (j+1))=Ya (l2++[(2,U,C,E)])from by rw[H.out.2.2.1,L];unfold Zdl;simp[ha]);have v:=zh (N.out.1.tri.ahead (n:=U.length) (op:=2) (kn:=C) (kd:=E) (A:=O) (c:=P) rfl 39);obtain⟨Z,QV⟩:=v.out;have v:=zh QV;clear QV L ha;go_wp2_with (at_builtin;refine Zj _ rfl _ _ 43 rfl W.heap.size 39 iR (.agg #[Yd Yf 0,Yc Yb 0 0,Yd Yf 0,Yd Yf 0]) 4 48 Tryz.underlying43 aw bj bk bm rfl (by decide) _ l2.length (Zr Z) rfl v.out.2.1 (w3.heap.size+1) (Ya ⟨w3.heap.size,0,Yb⟩) 1 1 [Yd Yf 2,Yc O U.length P,Yd Yf C,Yd Yf E] rfl v.out.2.2.2.2 (Zb2 _ _ _ _ _ _) (by have:=LK.out;omega) (by have:=LK.out;omega) v.out.2.2.2.1.below.size ?_);intro v9 w9 s o z;have f:=below_alloc1 w3 (Yg #[Yd Yf 2,Yc O U.length P,Yd Yf C,Yd Yf E] 39);have D8:=zh (SumS.push (t:=(2,U,C,E)) (N.out.1.keep f) v.out.1 v.out.2.2.1 s o (by first|exact z|simpa using z) (N.out.2.1.below f) N.out.2.2);clear s o z f;go_wp2_with fail;go_roundg (m-(j+1))
        case measure=>have:=H.out.1;have:=H.out.2.1;omega
        case rel=>exact⟨j+1,l2++[(2,U,C,E)],_,rfl,by push_cast;rfl,by have:=H.out.1;omega,rfl,NX.out,by rw[Yj,H.out.2.2.2.2.1];rfl,D8.out⟩
       ·have ea:(G==2)=false:=by simpa using ha
        by_cases R:bo=2
        ·have eb:(bo==2)=true:=by rw[R];rfl
         have NX:=zh (show Zap (G,f,F,a2) l (d.take (j+1))=Ya (l2++[(2,U,C,E)])from by rw[H.out.2.2.1,L];unfold Zdl;simp[R]);have v:=zh (N.out.1.tri.ahead (n:=U.length) (op:=2) (kn:=C) (kd:=E) (A:=O) (c:=P) rfl 39);obtain⟨Z,QV⟩:=v.out;have v:=zh QV;clear QV L ha R;go_wp2_with (at_builtin;refine Zj _ rfl _ _ 43 rfl W.heap.size 39 iR (.agg #[Yd Yf 0,Yc Yb 0 0,Yd Yf 0,Yd Yf 0]) 4 48 Tryz.underlying43 aw bj bk bm rfl (by decide) _ l2.length (Zr Z) rfl v.out.2.1 (w3.heap.size+1) (Ya ⟨w3.heap.size,0,Yb⟩) 1 1 [Yd Yf 2,Yc O U.length P,Yd Yf C,Yd Yf E] rfl v.out.2.2.2.2 (Zb2 _ _ _ _ _ _) (by have:=LK.out;omega) (by have:=LK.out;omega) v.out.2.2.2.1.below.size ?_);intro v9 w9 s o z;have f:=below_alloc1 w3 (Yg #[Yd Yf 2,Yc O U.length P,Yd Yf C,Yd Yf E] 39);have D8:=zh (SumS.push (t:=(2,U,C,E)) (N.out.1.keep f) v.out.1 v.out.2.2.1 s o (by first|exact z|simpa using z) (N.out.2.1.below f) N.out.2.2);clear s o z f;go_wp2_with fail;go_roundg (m-(j+1))
         case measure=>have:=H.out.1;have:=H.out.2.1;omega
         case rel=>exact⟨j+1,l2++[(2,U,C,E)],_,rfl,by push_cast;rfl,by have:=H.out.1;omega,rfl,NX.out,by rw[Yj,H.out.2.2.2.2.1];rfl,D8.out⟩
        ·have eb:(bo==2)=false:=by simpa using R
         have NX:=zh (show Zap (G,f,F,a2) l (d.take (j+1))=Ya (l2++[(1,U,C,E)])from by rw[H.out.2.2.1,L];unfold Zdl;simp[ha,R]);have v:=zh (N.out.1.tri.ahead (n:=U.length) (op:=1) (kn:=C) (kd:=E) (A:=O) (c:=P) rfl 39);obtain⟨Z,QV⟩:=v.out;have v:=zh QV;clear QV L ha R;go_wp2_with (at_builtin;refine Zj _ rfl _ _ 43 rfl W.heap.size 39 iR (.agg #[Yd Yf 0,Yc Yb 0 0,Yd Yf 0,Yd Yf 0]) 4 48 Tryz.underlying43 aw bj bk bm rfl (by decide) _ l2.length (Zr Z) rfl v.out.2.1 (w3.heap.size+1) (Ya ⟨w3.heap.size,0,Yb⟩) 1 1 [Yd Yf 1,Yc O U.length P,Yd Yf C,Yd Yf E] rfl v.out.2.2.2.2 (Zb2 _ _ _ _ _ _) (by have:=LK.out;omega) (by have:=LK.out;omega) v.out.2.2.2.1.below.size ?_);intro v9 w9 s o z;have f:=below_alloc1 w3 (Yg #[Yd Yf 1,Yc O U.length P,Yd Yf C,Yd Yf E] 39);have D8:=zh (SumS.push (t:=(1,U,C,E)) (N.out.1.keep f) v.out.1 v.out.2.2.1 s o (by first|exact z|simpa using z) (N.out.2.1.below f) N.out.2.2);clear s o z f;go_wp2_with fail;go_roundg (m-(j+1))
         case measure=>have:=H.out.1;have:=H.out.2.1;omega
         case rel=>exact⟨j+1,l2++[(1,U,C,E)],_,rfl,by push_cast;rfl,by have:=H.out.1;omega,rfl,NX.out,by rw[Yj,H.out.2.2.2.2.1];rfl,D8.out⟩
      ·have ne:(e2 != 0)=true:=by simpa using he
       rw[Yn he,Option.map_none]at L;have an:=zh (show Zjn S0 W (ZaL J u d) (Yc (Ya ad) n cb) u (Yc (Ya bw) m cc) d (.returned (.tuple #[Yc Yb 0 0,Yd Yf e2])) w3 from .inr ⟨H.out.2.2.2.1 L,e2,ne,rfl,N.out.1.tri.below⟩);clear L he;go_wp2_with fail;go_ret2;exact an.out
end
end Go.Proofs.YtbfnnolakggbfaaGreatDoor
