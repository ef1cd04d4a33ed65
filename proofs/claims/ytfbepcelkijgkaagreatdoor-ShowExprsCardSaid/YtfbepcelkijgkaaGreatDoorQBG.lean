import Derived.Test.YtfbepcelkijgkaaGreatDoorQAV
import Derived.Test.YtfbepcelkijgkaaGreatDoorQAX
import Derived.Test.YtfbepcelkijgkaaGreatDoorQBF
set_option maxRecDepth 100000
set_option maxHeartbeats 8000000
open Option renaming none → Yb
open Go.Value renaming slice → Yc, int → Yd
open Go.IntKind renaming i64 → Yf
open Go.Obj renaming cells → Yg
namespace Go.Proofs.YtfbepcelkijgkaaGreatDoor
section
open Go.RowKit
theorem ZnL (M w:World) (z:Nat) (K:Value) (L:List Tok) (s:PS) (h:ParS M w z K L s) :
  Calls Tryz.prog 49 #[.pointer (some ⟨z,0,Yb⟩)] w (Zcc M z K L w (ZbX L s).1 (ZbX L s).2):=by
 obtain⟨R,hR⟩:∃R,R=Za1 L (Zbs L) [125] (L.length+1) [] (Zg L [123] (Zb L (Zg L [112,114,111,116,111] s)).2):=⟨_,rfl⟩
 have hM:ZbX L s=(.mk 1 [(Zb L (Zg L [112,114,111,116,111] s)).1] [] (Ze L s) R.1,R.2):=by rw[hR];rfl
 rw[hM];have HR:=zh hR;clear hM hR;obtain⟨iS,hS,bx,bz,b0⟩:=info_parts Zba;obtain⟨iU,hU,b1,b2,b3⟩:=info_parts Zbg;obtain⟨iN,hN,bu,bv,bw⟩:=info_parts Za0;have a0:=below_alloc1 w (Yg #[Yd Yf 0,Yc Yb 0 0,Yc Yb 0 0,Yc Yb 0 0,Yd Yf 0,Yc Yb 0 0] 58);have ha:=h.keep a0;generalize Z:w.alloc (Yg #[Yd Yf 0,Yc Yb 0 0,Yc Yb 0 0,Yc Yb 0 0,Yd Yf 0,Yc Yb 0 0] 58)=wa at *;have RB:=zh (Zap M wa z K L s 1 ha);have H:=zh h;have u:=zh h.size0;clear a0 ha h;go_enter Tryz.func49,Tryz.ntmps49;go_upto_region 2 with(go_at_call 46;(with_reducible refine RB.out.mono ?_);rintro e w1 ⟨rfl,hb⟩;have B1:=zh hb;clear hb)
 have G2:=zh (Gn.start (k:=1) (p:=Ze L s) H.out Z B1.out);clear Z RB;generalize w1.alloc (Yg #[Yd Yf 1,Yc Yb 0 0,Yc Yb 0 0,Yc Yb 0 0,Yd Yf (Ze L s),Yc Yb 0 0] 58)=w2 at *;clear B1;generalize w1.heap.size=b at *;have j:=zh (Zac M w2 z K L s [112,114,111,116,111] G2.out.P);go_upto_region 3 with(go_at_call 71;(with_reducible refine j.out.mono ?_);rintro e w3 ⟨rfl,o,f⟩;have G3:=zh (G2.out.call o f);clear o f)
 clear G2;clear j;(try go_upto_region 3 with fail);refine Zbd 8 0 3 G3.out (by simp) (fun v5 A4 n4 N w4 m=>?_);(try dsimp only at m);have G4:=zh m;clear m G3;(try simp only[cl,Act.put]);have j:=zh (Zac M w4 z K L (Zb L (Zg L [112,114,111,116,111] s)).2 [123] G4.out.P);go_upto_region 5 with(go_at_call 71;(with_reducible refine j.out.mono ?_);rintro e w5 ⟨rfl,o,f⟩;have G5:=zh (G4.out.call o f);clear o f)
 clear G4;clear j;go_upto_region 5 with fail;have ac:=zh G5.out.P.few.1;go_loopg [] (L.length+1) (fun g wr=>∃(l:List Tr) (t:PS) (x:NV) (vs:List (NV×Tr)),R=Za1 L (Zbs L) [125] g l t/\True/\(t.err=0->L.length-t.at_<g)/\vs.length+g<=L.length+1/\vs.map (·.2)=l/\Gn M w wr z b w.heap.size K L t x 1 (Ze L s) [(Zb L (Zg L [112,114,111,116,111] s)).1] [] vs)
 case atStart=>exact⟨[],_,_,[],HR.out,trivial,fun _=>by omega,by simp,rfl,G5.out⟩
 case round=>
  obtain⟨l,t,x,vs,O,hD,f,i,hvl,m⟩:=hrel;have SH:=m.shape;obtain⟨A,I,D,B,G,E,C,J,F,rfl⟩:=SH;clear G5;have a:=zh m;have LB:=zh (show vs.length<=100004 by have:=ac.out;omega);clear m;by_cases n:t.err=0
  ·skip
   obtain⟨X,rfl⟩:∃X,gk=X+1:=⟨gk-1,by have:=f n;omega⟩
   have r:(t.err==0)=true:=by simp[n]
   by_cases hc:isM L [125] t=true
   ·skip
    have c:R=(l,Zd t):=by rw[O,Za1,Yo n,Yo hc]
    have j:=zh (ZX (y:=[125]) a.out.P hc);have HQ:=zh (zi c (zi hD hvl));clear O c hD f i hvl n hc;obtain⟨S,T,U,V,N⟩:=a.out.P.cells;have W:=a.out.P.frees;go_upto_region 7 with(go_at_call 73;(with_reducible refine j.out.mono ?_);rintro e ax ⟨rfl,o,f⟩;have d:=zh (a.out.call o f);clear o f)
    clear S T U V N W;clear r j a;obtain⟨c,_,hvl⟩:=HQ.out;subst c;subst hvl;obtain⟨q0,q1,q2,q3,q4,q5⟩:=d.out.cells;dsimp only at q1 q2 q5;have qf:=d.out.free;obtain⟨z0,z1,z2,z3,z4,z5⟩:=d.out.zeros u.out;have zf:=d.out.rfree u.out;have so:=Zt;go_wp2_with fail;obtain⟨r0,r1,r2,r3,r4,r5⟩:=ZaJ (d.out.R u.out) (Yd Yf 1) (Yc A I D) (Yc B G E) (Yc Yb 0 0) (Yd Yf (Ze L s)) (Yc C J F);obtain⟨o1,o2,o3⟩:=d.out.out u.out (Yd Yf 1) (Yc A I D) (Yc B G E) (Yc Yb 0 0) (Yd Yf (Ze L s)) (Yc C J F);exact bodyPost_ret (v:=.agg #[Yd Yf 1,(Yc A I D),(Yc B G E),Yc Yb 0 0,Yd Yf (Ze L s),(Yc C J F)]) (by simp[results,Tryz.results49,go_sem,so,r0,r1,r2,r3,r4,r5]) rfl ⟨((Yc A I D),(Yc B G E),(Yc C J F)),rfl,o1,o2,o3⟩
   ·skip
    have Y:isM L [125] t=false:=by simpa using hc
    have c:R=Za1 L (Zbs L) [125] X (l++[((Zbs L) t).1]) ((Zbs L) t).2:=by rw[O,Za1,Yo n,Yn hc]
    have j:=zh (ZP (y:=[125]) a.out.P Y);have HK:=zh (zi c (zi (f n) (zi i (zi hvl (zi n hD)))));clear O c hD f i hvl hc Y n;obtain⟨S,T,U,V,N⟩:=a.out.P.cells;have W:=a.out.P.frees;go_upto_region 6 with(go_at_call 73;(with_reducible refine j.out.mono ?_);rintro e ax ⟨rfl,o,f⟩;have d:=zh (a.out.call o f);clear o f)
    clear S T U V N W;clear r j a;have GT:=zh d.out;(try go_upto_region 6 with fail);refine ZdG 30 0 3 d.out (by have:=LB.out;(try simp only[Yj,Yk,Yl]);omega) (by intro _ _;go_simp) (fun wr hP=>Zpm M wr z K L t hP) (fun v5 bb bi bg bs bq m=>?_);(try dsimp only at m);have Q:=zh m;clear m d;(try simp only[cl,Act.put]);go_wp2_with fail;go_roundg X
    case measure=>omega
    case rel=>
     have AD:Gon L t ((Zbs L) t).2:=part_go GT.out.P.few.2.1 GT.out.P.lt;refine⟨_,_,_,_,HK.out.1,trivial,fun q=>?_,?_,?_,by simpa using Q.out⟩
     ·have:=AD.on q;have:=HK.out.2.1;have:=Q.out.P.lt;omega
     ·have:=HK.out.2.2.1;simp only[Yj,Yk,Yl];omega
     ·rw[List.map_append,HK.out.2.2.2.1];rfl
  ·skip
   have c:R=(l,t):=by
    rw[O];cases gk with
    |zero=>rfl
    |succ X=>rw[Za1,Yn n]
   have r:(t.err==0)=false:=by simp[n]
   have HQ:=zh (zi c (zi hD hvl));clear O c hD f i hvl n;obtain⟨S,T,U,V,N⟩:=a.out.P.cells;have W:=a.out.P.frees;go_upto_region 7 with fail;clear S T U V N W;clear r;obtain⟨c,_,hvl⟩:=HQ.out;subst c;subst hvl;obtain⟨q0,q1,q2,q3,q4,q5⟩:=a.out.cells;dsimp only at q1 q2 q5;have qf:=a.out.free;obtain⟨z0,z1,z2,z3,z4,z5⟩:=a.out.zeros u.out;have zf:=a.out.rfree u.out;have so:=Zt;go_wp2_with fail;obtain⟨r0,r1,r2,r3,r4,r5⟩:=ZaJ (a.out.R u.out) (Yd Yf 1) (Yc A I D) (Yc B G E) (Yc Yb 0 0) (Yd Yf (Ze L s)) (Yc C J F);obtain⟨o1,o2,o3⟩:=a.out.out u.out (Yd Yf 1) (Yc A I D) (Yc B G E) (Yc Yb 0 0) (Yd Yf (Ze L s)) (Yc C J F);exact bodyPost_ret (v:=.agg #[Yd Yf 1,(Yc A I D),(Yc B G E),Yc Yb 0 0,Yd Yf (Ze L s),(Yc C J F)]) (by simp[results,Tryz.results49,go_sem,so,r0,r1,r2,r3,r4,r5]) rfl ⟨((Yc A I D),(Yc B G E),(Yc C J F)),rfl,o1,o2,o3⟩
def Zi2 (c:World) (a:Nat) (b:Value) (L:List Tok) (f:Nat) (st:PS->Tr×PS):Prop:=∀(w:World) (t:PS),ParS c w a b L t->Dp L f t->t.err=0->Calls Tryz.prog 101 #[.pointer (some ⟨a,0,Yb⟩)] w (Zcc c a b L w (st t).1 (st t).2)
theorem Znw (Z w:World) (z:Nat) (Y:Value) (L:List Tok) (s:PS) (f:Nat) (st:PS->Tr×PS) (af:Stm L f st) (ag:Zi2 Z z Y L f st) (h:ParS Z w z Y L s) (hd:Dp L (f+1) s) (K:s.deep<=200) :
  Calls Tryz.prog 76 #[.pointer (some ⟨z,0,Yb⟩)] w (Zcc Z z Y L w (Zau L st s).1 (Zau L st s).2):=by
 obtain⟨R,hR⟩:∃R,R=Za1 L st [125] (L.length+1) [] (inM L (Zg L [123] s)):=⟨_,rfl⟩
 have hM:Zau L st s=(.mk 7 [] [] (Ze L s) R.1,ZdQ R.2):=by rw[hR];rfl
 rw[hM];have WG:=ZE h.few.2.1 [123] h.lt;have DW:=(Zav (f+1)).next _ _ hd WG.toAdv;have HI:=zh (zi DW (Zfo DW (.inr (by rw[WG.deep];exact K))));have HR:=zh hR;have ab:=zh (zi af ag);clear hM hR WG DW hd K af ag;obtain⟨iS,hS,b8,b9,ca⟩:=info_parts Zba;obtain⟨iU,hU,cb,cc,cd⟩:=info_parts Zbg;obtain⟨iN,hN,b5,b6,b7⟩:=info_parts Za0;have a0:=below_alloc1 w (Yg #[Yd Yf 0,Yc Yb 0 0,Yc Yb 0 0,Yc Yb 0 0,Yd Yf 0,Yc Yb 0 0] 58);have ha:=h.keep a0;generalize ah:w.alloc (Yg #[Yd Yf 0,Yc Yb 0 0,Yc Yb 0 0,Yc Yb 0 0,Yd Yf 0,Yc Yb 0 0] 58)=wa at *;have RB:=zh (Zap Z wa z Y L s 7 ha);have H:=zh h;have J:=zh h.size0;clear a0 ha h;go_enter Tryz.func76,Tryz.ntmps76;go_upto_region 2 with(go_at_call 46;(with_reducible refine RB.out.mono ?_);rintro e w1 ⟨rfl,hb⟩;have B1:=zh hb;clear hb)
 have G2:=zh (Gn.start (k:=7) (p:=Ze L s) H.out ah B1.out);clear ah RB;generalize w1.alloc (Yg #[Yd Yf 7,Yc Yb 0 0,Yc Yb 0 0,Yc Yb 0 0,Yd Yf (Ze L s),Yc Yb 0 0] 58)=w2 at *;clear B1;generalize w1.heap.size=b at *;have o:=zh (Zac Z w2 z Y L s [123] G2.out.P);go_upto_region 3 with(go_at_call 71;(with_reducible refine o.out.mono ?_);rintro e w3 ⟨rfl,u,j⟩;have G3:=zh (G2.out.call u j);clear u j)
 clear G2;clear o;have o:=zh (Zig Z w3 z Y L (Zg L [123] s) G3.out.P HI.out.1.lo (by have:=HI.out.1.hi;omega));go_upto_region 4 with(go_at_call 100;(with_reducible refine o.out.mono ?_);rintro e w4 ⟨rfl,u,j⟩;have G4:=zh (G3.out.call u j);clear u j)
 clear G3;clear o;go_upto_region 4 with fail;have am:=zh G4.out.P.few.1;go_loopg [] (L.length+1) (fun g wr=>∃(l:List Tr) (t:PS) (x:NV) (vs:List (NV×Tr)),R=Za1 L st [125] g l t/\Dp L f t/\(t.err=0->L.length-t.at_<g)/\vs.length+g<=L.length+1/\vs.map (·.2)=l/\Gn Z w wr z b w.heap.size Y L t x 7 (Ze L s) [] [] vs)
 case atStart=>exact⟨[],_,_,[],HR.out,HI.out.2,fun _=>by omega,by simp,rfl,G4.out⟩
 case round=>
  obtain⟨l,t,x,vs,hr,hD,j,n,hvl,X⟩:=hrel;have SH:=X.shape;obtain⟨M,V,Q,N,U,S,O,W,T,rfl⟩:=SH;clear G4;have a:=zh X;have LB:=zh (show vs.length<=100004 by have:=am.out;omega);clear X;by_cases r:t.err=0
  ·skip
   obtain⟨g2,rfl⟩:∃g2,gk=g2+1:=⟨gk-1,by have:=j r;omega⟩
   have I:(t.err==0)=true:=by simp[r]
   by_cases hc:isM L [125] t=true
   ·skip
    have d:R=(l,Zd t):=by rw[hr,Za1,Yo r,Yo hc]
    have o:=zh (ZX (y:=[125]) a.out.P hc);have HQ:=zh (zi d (zi hD hvl));clear hr d hD j n hvl r hc;obtain⟨B,C,D,E,F⟩:=a.out.P.cells;have G:=a.out.P.frees;go_upto_region 6 with(go_at_call 73;(with_reducible refine o.out.mono ?_);rintro e aj ⟨rfl,u,j⟩;have i:=zh (a.out.call u j);clear u j)
    clear B C D E F G;clear I o a;obtain⟨d,hD,hvl⟩:=HQ.out;subst d;subst hvl;have HD:=zh (show 0<=PS.deep t/\PS.deep t<=100000 from⟨hD.lo,by have:=hD.hi;omega⟩);clear hD;have LO:=zh (show 0<=PS.deep (Zd t)/\PS.deep (Zd t)<=100000 from HD.out);have wd:IntKind.i64.wrap (PS.deep (Zd t)-1)=PS.deep (Zd t)-1:=IntWalk.i64_in _ (by have:=LO.out;omega);have m:=i.out.P.deeper (PS.deep (Zd t)-1);have c:=zh (i.out.call m.1 m.2);clear m;obtain⟨B,C,D,E,F⟩:=i.out.P.cells;have G:=i.out.P.frees;go_upto_region 7 with fail;clear B C D E F G;clear wd LO i;generalize aj.setCell ⟨z,2,Yb⟩ (Yd Yf (PS.deep (Zd t)-1))=ak at *;obtain⟨q0,q1,q2,q3,q4,q5⟩:=c.out.cells;dsimp only at q1 q2 q5;have qf:=c.out.free;obtain⟨z0,z1,z2,z3,z4,z5⟩:=c.out.zeros J.out;have zf:=c.out.rfree J.out;have so:=Zt;go_wp2_with fail;obtain⟨r0,r1,r2,r3,r4,r5⟩:=ZaJ (c.out.R J.out) (Yd Yf 7) (Yc M V Q) (Yc N U S) (Yc Yb 0 0) (Yd Yf (Ze L s)) (Yc O W T);obtain⟨o1,o2,o3⟩:=c.out.out J.out (Yd Yf 7) (Yc M V Q) (Yc N U S) (Yc Yb 0 0) (Yd Yf (Ze L s)) (Yc O W T);exact bodyPost_ret (v:=.agg #[Yd Yf 7,(Yc M V Q),(Yc N U S),Yc Yb 0 0,Yd Yf (Ze L s),(Yc O W T)]) (by simp[results,Tryz.results76,go_sem,so,r0,r1,r2,r3,r4,r5]) rfl ⟨((Yc M V Q),(Yc N U S),(Yc O W T)),rfl,o1,o2,o3⟩
   ·skip
    have ae:isM L [125] t=false:=by simpa using hc
    have d:R=Za1 L st [125] g2 (l++[(st t).1]) (st t).2:=by rw[hr,Za1,Yo r,Yn hc]
    have o:=zh (ZP (y:=[125]) a.out.P ae);have A:=zh (zi d (zi (j r) (zi n (zi hvl (zi r hD)))));clear hr d hD j n hvl hc ae r;obtain⟨B,C,D,E,F⟩:=a.out.P.cells;have G:=a.out.P.frees;go_upto_region 5 with(go_at_call 73;(with_reducible refine o.out.mono ?_);rintro e aj ⟨rfl,u,j⟩;have i:=zh (a.out.call u j);clear u j)
    clear B C D E F G;clear I o a;(try go_upto_region 5 with fail);refine ZdG 21 0 3 i.out (by have:=LB.out;(try simp only[Yj,Yk,Yl]);omega) (by intro _ _;go_simp) (fun wr hP=>ab.out.2 wr t hP A.out.2.2.2.2.2 A.out.2.2.2.2.1) (fun v5 bn bu bs b3 ak X=>?_);(try dsimp only at X);have c:=zh X;clear X i;(try simp only[cl,Act.put]);go_wp2_with fail;go_roundg g2
    case measure=>omega
    case rel=>
     have AD:Gon L t (st t).2:=ab.out.1 t A.out.2.2.2.2.2 A.out.2.2.2.2.1;refine⟨_,_,_,_,A.out.1,(Zav f).next _ _ A.out.2.2.2.2.2 AD.toAdv,fun q=>?_,?_,?_,by simpa using c.out⟩
     ·have:=AD.on q;have:=A.out.2.1;have:=c.out.P.lt;omega
     ·have:=A.out.2.2.1;simp only[Yj,Yk,Yl];omega
     ·rw[List.map_append,A.out.2.2.2.1];rfl
  ·skip
   have d:R=(l,t):=by
    rw[hr];cases gk with
    |zero=>rfl
    |succ g2=>rw[Za1,Yn r]
   have I:(t.err==0)=false:=by simp[r]
   have HQ:=zh (zi d (zi hD hvl));clear hr d hD j n hvl r;obtain⟨B,C,D,E,F⟩:=a.out.P.cells;have G:=a.out.P.frees;go_upto_region 6 with fail;clear B C D E F G;clear I;obtain⟨d,hD,hvl⟩:=HQ.out;subst d;subst hvl;have HD:=zh (show 0<=PS.deep t/\PS.deep t<=100000 from⟨hD.lo,by have:=hD.hi;omega⟩);clear hD;have LO:=zh (show 0<=PS.deep t/\PS.deep t<=100000 from HD.out);have wd:IntKind.i64.wrap (PS.deep t-1)=PS.deep t-1:=IntWalk.i64_in _ (by have:=LO.out;omega);have m:=a.out.P.deeper (PS.deep t-1);have c:=zh (a.out.call m.1 m.2);clear m;obtain⟨B,C,D,E,F⟩:=a.out.P.cells;have G:=a.out.P.frees;go_upto_region 7 with fail;clear B C D E F G;clear wd LO a;generalize wr.setCell ⟨z,2,Yb⟩ (Yd Yf (PS.deep t-1))=ak at *;obtain⟨q0,q1,q2,q3,q4,q5⟩:=c.out.cells;dsimp only at q1 q2 q5;have qf:=c.out.free;obtain⟨z0,z1,z2,z3,z4,z5⟩:=c.out.zeros J.out;have zf:=c.out.rfree J.out;have so:=Zt;go_wp2_with fail;obtain⟨r0,r1,r2,r3,r4,r5⟩:=ZaJ (c.out.R J.out) (Yd Yf 7) (Yc M V Q) (Yc N U S) (Yc Yb 0 0) (Yd Yf (Ze L s)) (Yc O W T);obtain⟨o1,o2,o3⟩:=c.out.out J.out (Yd Yf 7) (Yc M V Q) (Yc N U S) (Yc Yb 0 0) (Yd Yf (Ze L s)) (Yc O W T);exact bodyPost_ret (v:=.agg #[Yd Yf 7,(Yc M V Q),(Yc N U S),Yc Yb 0 0,Yd Yf (Ze L s),(Yc O W T)]) (by simp[results,Tryz.results76,go_sem,so,r0,r1,r2,r3,r4,r5]) rfl ⟨((Yc M V Q),(Yc N U S),(Yc O W T)),rfl,o1,o2,o3⟩
end
section
open Go.RowKit
theorem Zks {L:List Tok} {g:Nat} {s:PS} (h:Dp L g s):Dp L 201 s:=⟨h.lt,fun e=>⟨(h.fuel e).1,by have:=h.lo;omega⟩,h.lo,h.hi⟩
abbrev ex7 (L:List Tok):PS->Tr×PS:=ZaU L (ZJ L 201)
theorem Zip {L:List Tok} (a:ZaE L) (g:Nat):Onw L (Dp L g) (ex7 L):=fun s b=>ZhE a (Zav 201) (Zck a 201) s (Zks b)
theorem Zon (c:World) (a:Nat) (b:Value) (L:List Tok) (d:ZaE L) (g:Nat):Zbt 122 c a b L (Dp L g) (ex7 L):=fun w s h e=>Zo1 c a b L d 201 w s h (Zks e)
def Zb8 (c:World) (a:Nat) (b:Value) (L:List Tok) (f:Nat) (st:PS->Tr×PS):Prop:=Zbt 76 c a b L (fun s=>Dp L (f+1) s/\s.deep<=200) (Zau L st)
theorem Zkk {e:World} {a:Nat} {d:Value} {L:List Tok} {f:Nat} {st:PS->Tr×PS} (b:Stm L f st) (c:Zi2 e a d L f st):Zb8 e a d L f st:=fun w s h hd=>Znw e w a d L s f st b c h hd.1 hd.2
theorem Zrt (J w:World) (E:Nat) (I:Value) (L:List Tok) (s:PS) (f:Nat) (ex st:PS->Tr×PS) (hb:Zb8 J E I L f st) (h:ParS J w E I L s) (hd:Dp L (f+1) s) (O:s.deep<=200) :
  Calls Tryz.prog 50 #[.pointer (some ⟨E,0,Yb⟩)] w (Zcc J E I L w (fnM L ex st s).1 (fnM L ex st s).2):=by
 obtain⟨R,hR⟩:∃R,R=Zag L (ZaO L) (L.length+1) true [] (Zg L [40] (Zb L (Zg L [102,110] s)).2):=⟨_,rfl⟩
 have hM:fnM L ex st s=(.mk 4 [(Zb L (Zg L [102,110] s)).1] [] (Ze L s) (R.1++[(Zau L st R.2).1]),(Zau L st R.2).2):=by rw[hR];rfl
 rw[hM];have D:=Zab (L:=L) (f+1);have g1:=ZE h.few.2.1 [102,110] h.lt;have F:=ZA h.few.2.1 (g1.lt h.lt);have g3:=ZE h.few.2.1 [40] (F.lt (g1.lt h.lt));have HD:=zh (D.next _ _ ⟨hd,O⟩ ((g1.toAdv.trans F.toAdv).trans g3.toAdv));have HR:=zh hR;have HB:=zh hb;clear hM hR D g1 F g3 hd O hb;obtain⟨iS,hS,ci,cj,ck⟩:=info_parts Zba;obtain⟨iU,hU,cm,cn,co⟩:=info_parts Zbg;obtain⟨iN,hN,ce,cg,ch⟩:=info_parts Za0;have a0:=below_alloc1 w (Yg #[Yd Yf 0,Yc Yb 0 0,Yc Yb 0 0,Yc Yb 0 0,Yd Yf 0,Yc Yb 0 0] 58);have ha:=h.keep a0;generalize aj:w.alloc (Yg #[Yd Yf 0,Yc Yb 0 0,Yc Yb 0 0,Yc Yb 0 0,Yd Yf 0,Yc Yb 0 0] 58)=wa at *;have RB:=zh (Zap J wa E I L s 4 ha);have H:=zh h;have N:=zh h.size0;clear a0 ha h;go_enter Tryz.func50,Tryz.ntmps50;go_upto_region 2 with(go_at_call 46;(with_reducible refine RB.out.mono ?_);rintro e w1 ⟨rfl,hb⟩;have B1:=zh hb;clear hb)
 have G2:=zh (Gn.start (k:=4) (p:=Ze L s) H.out aj B1.out);clear aj RB;generalize w1.alloc (Yg #[Yd Yf 4,Yc Yb 0 0,Yc Yb 0 0,Yc Yb 0 0,Yd Yf (Ze L s),Yc Yb 0 0] 58)=w2 at *;clear B1;generalize w1.heap.size=b at *;have z:=zh (Zac J w2 E I L s [102,110] G2.out.P);go_upto_region 3 with(go_at_call 71;(with_reducible refine z.out.mono ?_);rintro e w3 ⟨rfl,A,n⟩;have G3:=zh (G2.out.call A n);clear A n)
 clear G2;clear z;(try go_upto_region 3 with fail);refine Zbd 9 0 3 G3.out (by simp) (fun v5 A4 n4 c4 w4 m=>?_);(try dsimp only at m);have G4:=zh m;clear m G3;(try simp only[cl,Act.put]);have z:=zh (Zac J w4 E I L (Zb L (Zg L [102,110] s)).2 [40] G4.out.P);go_upto_region 5 with(go_at_call 71;(with_reducible refine z.out.mono ?_);rintro e w5 ⟨rfl,A,n⟩;have G5:=zh (G4.out.call A n);clear A n)
 clear G4;clear z;go_upto_region 6 with fail;have aq:=zh G5.out.P.few.1;go_loopg [4] (L.length+1) (fun g vf wr=>∃(l:List Tr) (t:PS) (x:NV) (vs:List (NV×Tr)) (first:Bool),vf=.bool first/\R=Zag L (ZaO L) g first l t/\(Dp L (f+1) t/\PS.deep t<=200)/\(t.err=0->L.length-t.at_<g)/\vs.length+g<=L.length+1/\vs.map (·.2)=l/\Gn J w wr E b w.heap.size I L t x 4 (Ze L s) [(Zb L (Zg L [102,110] s)).1] [] vs)
 case atStart=>exact⟨[],_,_,[],true,rfl,HR.out,HD.out,fun _=>by omega,by simp,rfl,G5.out⟩
 case round=>
  obtain⟨l,t,x,vs,first,rfl,hr,hD,n,hlen,hvl,m⟩:=hrel;have SH:=m.shape;obtain⟨Q,W,T,S,V,U,xC,xq,xe,rfl⟩:=SH;clear G5;have a:=zh m;have LB:=zh (show vs.length<=100004 by have:=aq.out;omega);clear m;by_cases G:t.err=0
  ·skip
   obtain⟨F,rfl⟩:∃F,gk=F+1:=⟨gk-1,by have:=n G;omega⟩
   have M:(t.err==0)=true:=by simp[G]
   by_cases hc:isM L [41] t=true
   ·skip
    have d:R=(l,Zd t):=by rw[hr,Zag,Yo G,Yo hc]
    have z:=zh (ZX (y:=[41]) a.out.P hc);have AQ:=ZR a.out.P.few.2.1 a.out.P.lt hc;have HQ:=zh (zi d (zi ((Zab (f+1)).next _ _ hD (AQ.toAdv)) hvl));clear hr d hD n hlen hvl G hc AQ;obtain⟨c0,c1,c2,c3,c4⟩:=a.out.P.cells;have cf:=a.out.P.frees;go_upto_region 11 with(go_at_call 73;(with_reducible refine z.out.mono ?_);rintro e am ⟨rfl,A,n⟩;have j:=zh (a.out.call A n);clear A n)
    clear c0 c1 c2 c3 c4 cf;clear M z a;obtain⟨d,hD,hvl⟩:=HQ.out;subst d;subst hvl;have Y:=zh hD;clear hD;(try go_upto_region 11 with fail);refine ZdG 42 0 3 j.out (by have:=LB.out;(try simp only[Yj,Yk,Yl]);omega) (by intro _ _;go_simp) (fun wr Z=>HB.out wr _ Z Y.out) (fun v5 o u r bi bg m=>?_);(try dsimp only at m);have i:=zh m;clear m j;(try simp only[cl,Act.put]);(try go_upto_region 12 with fail);obtain⟨q0,q1,q2,q3,q4,q5⟩:=i.out.cells;dsimp only at q1 q2 q5;have qf:=i.out.free;obtain⟨z0,z1,z2,z3,z4,z5⟩:=i.out.zeros N.out;have zf:=i.out.rfree N.out;have so:=Zt;go_wp2_with fail;obtain⟨r0,r1,r2,r3,r4,r5⟩:=ZaJ (i.out.R N.out) (Yd Yf 4) (Yc Q W T) (Yc S V U) (Yc Yb 0 0) (Yd Yf (Ze L s)) (.slice o u r);obtain⟨o1,o2,o3⟩:=i.out.out N.out (Yd Yf 4) (Yc Q W T) (Yc S V U) (Yc Yb 0 0) (Yd Yf (Ze L s)) (.slice o u r);rw[List.map_append]at o2;exact bodyPost_ret (v:=.agg #[Yd Yf 4,(Yc Q W T),(Yc S V U),Yc Yb 0 0,Yd Yf (Ze L s),(.slice o u r)]) (by simp[results,Tryz.results50,go_sem,so,r0,r1,r2,r3,r4,r5]) rfl ⟨((Yc Q W T),(Yc S V U),(.slice o u r)),rfl,o1,o2,o3⟩
   ·skip
    have ai:isM L [41] t=false:=by simpa using hc
    have z:=zh (ZP (y:=[41]) a.out.P ai);have c:=zh (zi hr (zi (n G) (zi hlen (zi hvl (zi G (zi hD hc))))));clear hr hD n hlen hvl hc ai G;obtain⟨c0,c1,c2,c3,c4⟩:=a.out.P.cells;have cf:=a.out.P.frees;go_upto_region 7 with(go_at_call 73;(with_reducible refine z.out.mono ?_);rintro e am ⟨rfl,A,n⟩;have j:=zh (a.out.call A n);clear A n)
    clear c0 c1 c2 c3 c4 cf;clear M z a;cases first with
    |true=>
     have d:R=Zag L (ZaO L) F false (l++[((ZaO L) t).1]) ((ZaO L) t).2:=by rw[c.out.1,Zag,Yo c.out.2.2.2.2.1,Yn c.out.2.2.2.2.2.2];rfl
     have X:=Adv.refl (L:=L) t;have C:=zh (zi d (zi c.out.2.1 (zi c.out.2.2.1 (zi c.out.2.2.2.1 (zi X ((Zab (f+1)).next _ _ c.out.2.2.2.2.2.1 (X)))))));clear d X c;go_upto_region 10 with fail;have K:=zh j.out;(try go_upto_region 10 with fail);refine ZdG 35 0 3 j.out (by have:=LB.out;(try simp only[Yj,Yk,Yl]);omega) (by intro _ _;go_simp) (fun wr Z=>ZiQ J wr E I L t Z) (fun v5 bs b0 bx cb bh m=>?_);(try dsimp only at m);have B:=zh m;clear m j;(try simp only[cl,Act.put]);go_wp2_with fail;go_roundg F
     case measure=>omega
     case rel=>
      have AD:Gon L t ((ZaO L) t).2:=C.out.2.2.2.2.1.then_ (Zej K.out.P.few.2.1 K.out.P.lt);refine⟨_,_,_,_,false,rfl,C.out.1,(Zab (f+1)).next _ _ C.out.2.2.2.2.2 (Zej K.out.P.few.2.1 K.out.P.lt).toAdv,fun q=>?_,?_,?_,B.out⟩
      ·have:=AD.on q;have:=C.out.2.1;have:PS.at_ ((ZaO L) t).2<L.length:=B.out.P.lt;omega
      ·have:=C.out.2.2.1;simp only[Yj,Yk,Yl];omega
      ·rw[List.map_append,C.out.2.2.2.1];rfl
    |false=>
     have d:R=Zag L (ZaO L) F false (l++[((ZaO L) (Zg L [44] t)).1]) ((ZaO L) (Zg L [44] t)).2:=by rw[c.out.1,Zag,Yo c.out.2.2.2.2.1,Yn c.out.2.2.2.2.2.2];rfl
     have X:=(ZE j.out.P.few.2.1 [44] j.out.P.lt).toAdv;have C:=zh (zi d (zi c.out.2.1 (zi c.out.2.2.1 (zi c.out.2.2.2.1 (zi X ((Zab (f+1)).next _ _ c.out.2.2.2.2.2.1 (X)))))));clear d X c;(try go_upto_region 8 with fail);have z:=zh (Zac J am E I L t [44] j.out.P);go_upto_region 10 with(go_at_call 71;(with_reducible refine z.out.mono ?_);rintro e bh ⟨rfl,A,n⟩;have B:=zh (j.out.call A n);clear A n)
     clear j;clear z;have K:=zh B.out;(try go_upto_region 10 with fail);refine ZdG 35 0 3 B.out (by have:=LB.out;(try simp only[Yj,Yk,Yl]);omega) (by intro _ _;go_simp) (fun wr Z=>ZiQ J wr E I L (Zg L [44] t) Z) (fun v5 bt b1 bz cc b9 m=>?_);(try dsimp only at m);have ab:=zh m;clear m B;(try simp only[cl,Act.put]);go_wp2_with fail;go_roundg F
     case measure=>omega
     case rel=>
      have AD:Gon L t ((ZaO L) (Zg L [44] t)).2:=C.out.2.2.2.2.1.then_ (Zej K.out.P.few.2.1 K.out.P.lt);refine⟨_,_,_,_,false,rfl,C.out.1,(Zab (f+1)).next _ _ C.out.2.2.2.2.2 (Zej K.out.P.few.2.1 K.out.P.lt).toAdv,fun q=>?_,?_,?_,ab.out⟩
      ·have:=AD.on q;have:=C.out.2.1;have:PS.at_ ((ZaO L) (Zg L [44] t)).2<L.length:=ab.out.P.lt;omega
      ·have:=C.out.2.2.1;simp only[Yj,Yk,Yl];omega
      ·rw[List.map_append,C.out.2.2.2.1];rfl
  ·skip
   have d:R=(l,t):=by
    rw[hr];cases gk with
    |zero=>rfl
    |succ F=>rw[Zag,Yn G]
   have M:(t.err==0)=false:=by simp[G]
   have HQ:=zh (zi d (zi hD hvl));clear hr d hD n hlen hvl G;obtain⟨c0,c1,c2,c3,c4⟩:=a.out.P.cells;have cf:=a.out.P.frees;go_upto_region 11 with fail;clear c0 c1 c2 c3 c4 cf;clear M;obtain⟨d,hD,hvl⟩:=HQ.out;subst d;subst hvl;have Y:=zh hD;clear hD;(try go_upto_region 11 with fail);refine ZdG 42 0 3 a.out (by have:=LB.out;(try simp only[Yj,Yk,Yl]);omega) (by intro _ _;go_simp) (fun wr Z=>HB.out wr _ Z Y.out) (fun v5 o u r bi bg m=>?_);(try dsimp only at m);have i:=zh m;clear m a;(try simp only[cl,Act.put]);(try go_upto_region 12 with fail);obtain⟨q0,q1,q2,q3,q4,q5⟩:=i.out.cells;dsimp only at q1 q2 q5;have qf:=i.out.free;obtain⟨z0,z1,z2,z3,z4,z5⟩:=i.out.zeros N.out;have zf:=i.out.rfree N.out;have so:=Zt;go_wp2_with fail;obtain⟨r0,r1,r2,r3,r4,r5⟩:=ZaJ (i.out.R N.out) (Yd Yf 4) (Yc Q W T) (Yc S V U) (Yc Yb 0 0) (Yd Yf (Ze L s)) (.slice o u r);obtain⟨o1,o2,o3⟩:=i.out.out N.out (Yd Yf 4) (Yc Q W T) (Yc S V U) (Yc Yb 0 0) (Yd Yf (Ze L s)) (.slice o u r);rw[List.map_append]at o2;exact bodyPost_ret (v:=.agg #[Yd Yf 4,(Yc Q W T),(Yc S V U),Yc Yb 0 0,Yd Yf (Ze L s),(.slice o u r)]) (by simp[results,Tryz.results50,go_sem,so,r0,r1,r2,r3,r4,r5]) rfl ⟨((Yc Q W T),(Yc S V U),(.slice o u r)),rfl,o1,o2,o3⟩
end
end Go.Proofs.YtfbepcelkijgkaaGreatDoor
