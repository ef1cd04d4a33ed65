import Derived.Deep.DeepFit
import Derived.Test.YtbfnnolakggbfaaGreatDoorQAQ
set_option maxRecDepth 100000
set_option maxHeartbeats 8000000
open Option renaming some → Ya, none → Yb
open Go.Value renaming slice → Yc, int → Yd
open Go.IntKind renaming i64 → Yf
open Go.Obj renaming cells → Yg
open Go renaming World → Yh
open Go.RowKit
namespace Go.Proofs.YtbfnnolakggbfaaGreatDoor
theorem ZnZ (w:Yh) (va vb:Value) (l m:List (Int×Int)) (kx W:Int×Int) (ha:Za w va l) (t:Za w vb m) (hl:ZC l) (hm:ZC m) (hx:OkR kx) (hy:OkR W) (h8:l.length<=8) (cp:m.length<=8)
  (hk:(Zl kx W).2=0) (hc:ZZ Zl l m (max l.length m.length)) :
  Calls Tryz.prog 33 #[Yd Yf 0,.agg #[va,Yd Yf kx.1,Yd Yf kx.2],.agg #[vb,Yd Yf W.1,Yd Yf W.2]] w (ZaQ w (Zs (Zax Zl l m)) (Zl kx W).1 0):=by
 obtain⟨i0,hi,bx,bz,b0⟩:=info_parts ZdE;have ra:=fun(p:Yh) (h:Below w.heap.size w p)=>ZaN p va l kx.1 kx.2 (ha.below h) hl.wide hx.wide.1.1 hx.wide.1.2 hx.wide.2.1 hx.wide.2.2;rw[Zav h8 hl hx]at ra;have rb:=fun(p:Yh) (h:Below w.heap.size w p)=>ZaN p vb m W.1 W.2 (t.below h) hm.wide hy.wide.1.1 hy.wide.1.2 hy.wide.2.1 hy.wide.2.2;rw[Zav cp hm hy]at rb;have h1:=fun(p:Yh)=>Zdu p kx W hx hy;have al:∀(p:Yh) (k:Nat),Calls Tryz.prog 52 #[Yd Yf 0,Zb (atL l k).1 (atL l k).2,Zb (atL m k).1 (atL m k).2] p fun r w2=>r=.returned (.tuple #[Zb (Zl (atL l k) (atL m k)).1.1 (Zl (atL l k) (atL m k)).1.2,Yd Yf (Zl (atL l k) (atL m k)).2])/\Below p.heap.size p w2:=fun p k=>Zdu p _ _ (hl.at k) (hm.at k);have al:=Lib.hid al;rw[hk]at h1;obtain⟨A,c,rfl⟩:=Zc ha;obtain⟨B,d,rfl⟩:=Zc t;obtain⟨n,hn⟩:∃n,n=max l.length m.length:=⟨_,rfl⟩
 have d3:n<=8:=by omega
 rw[<-hn]at hc;have HR:=Lib.hid (show ZaE Zl l m n=Zax Zl l m by rw[hn];rfl);have HN:=Lib.hid (And.intro hn hc);have ba:ZC (Zax Zl l m):=ZcY Zbi hl hm (by rw[<-hn];exact hc);have V:OkR (Zl kx W).1:=Zbi.ok _ _ hx hy hk;have bp:(Zax Zl l m).length<=8:=by rw[Zee];omega
 have ow:=fun(p:Yh) (v:Value) (h:Za p v (Zax Zl l m))=>ZeE p v (Zax Zl l m) (Zl kx W).1.1 (Zl kx W).1.2 h ba.wide V.wide.1.1 V.wide.1.2 V.wide.2.1 V.wide.2.2 (Zav bp ba V);have OW:=Lib.hid ow;have H1:=Lib.hid h1;have RA:=Lib.hid ra;have RB:=Lib.hid rb;have TS:=Lib.hid (And.intro ha t);clear h1 ra rb ha t hl hm hx hy hk hn hc ba V bp ow;generalize l.length=M at *;generalize m.length=T at *;generalize(Zl kx W).1=z at *;obtain⟨R,Q⟩:=z;obtain⟨xn,xd⟩:=kx;obtain⟨yn,yd⟩:=W;dsimp only at *;obtain⟨F,G,E,am⟩:=ZaD w (Yc A M c) (Yd Yf xn) (Yd Yf xd) (Yc B T d) (Yd Yf yn) (Yd Yf yd) (Yc Yb 0 0) (Yd Yf 0) (Yd Yf 0) 37;go_enter Tryz.func33,Tryz.ntmps33
 go_upto_region 6 with(first
  |(go_at_call 51;(first
   |go_fit (RA.out _ am);rintro e w1 ⟨rfl,ab⟩;have F:=F.keep ab;have G:=G.keep ab;have E:=E.keep ab;have b1:=am.trans (ab.mono am.size);have k1:=F.k1;have k2:=F.k2;have m0:=G.k0;have m1:=G.k1;have m2:=G.k2
   |go_fit (RB.out _ b1);rintro e w2 ⟨rfl,ac⟩;have F:=F.keep ac;have G:=G.keep ac;have E:=E.keep ac;have b2:=b1.trans (ac.mono b1.size);have k1:=F.k1;have k2:=F.k2;have m1:=G.k1;have m2:=G.k2))
  |(go_at_call 52;go_fit (H1.out _);rintro e w3 ⟨rfl,ad⟩;have F:=F.keep ad;have G:=G.keep ad;have E:=E.keep ad;have e3:=E.lt;have b3:=b2.trans (ad.mono b2.size)))
 clear ab ac ad am b1 b2 k1 k2 m0 m1 m2;go_upto_region 7 with fail;have a1:=below_alloc1 w3 (Yg #[Yd Yf R,Yd Yf Q] 23);have a2:=below_alloc1 (w3.alloc (Yg #[Yd Yf R,Yd Yf Q] 23)) (Yg #[Yc Yb 0 0,Yd Yf R,Yd Yf Q] 37);have O:=FracBox.start (w3.alloc (Yg #[Yd Yf R,Yd Yf Q] 23)) (Yc Yb 0 0) (Yd Yf R) (Yd Yf Q) 37;rw[World.size_alloc]at O;have b5:=b3.trans (a1.mono b3.size);have D0:DoS w ((w3.alloc (Yg #[Yd Yf R,Yd Yf Q] 23)).alloc (Yg #[Yc Yb 0 0,Yd Yf R,Yd Yf Q] 37)) w3.heap.size 0 (Yc A M c) xn xd (Yc B T d) yn yd R Q (Yc Yb 0 0) (ZaE Zl l m 0):=
  ⟨(F.keep a1).keep a2,(G.keep a1).keep a2,(E.keep a1).keep a2,O,⟨rfl,.inl ⟨rfl,rfl⟩⟩,e3,b5.trans (a2.mono b5.size)⟩
 generalize w3.heap.size=b at *;have D0:=Lib.hid D0;clear F G E O a1 a2 b3 b5 e3;go_wp2_with fail;go_loopg [11] n (fun g c7 wr=>∃(k:Nat) (v:Value),c7=Yd Yf k/\k<=n/\g=n-k/\ZZ Zl l m k/\DoS w wr b k (Yc A M c) xn xd (Yc B T d) yn yd R Q v (ZaE Zl l m k))
 case atStart=>exact⟨0,_,rfl,Nat.zero_le _,rfl,fun i hi=>absurd hi (Nat.not_lt_zero _),D0.out⟩
 case round=>
  clear D0;obtain⟨k,v,rfl,hk,hg,ae,D⟩:=hrel;have k0:=D.F.k0;have m0:=D.G.k0;by_cases an:k=n
  ·have bv:decide ((k:Int)<(M:Int))=false:=decide_eq_false (by have:=HN.out.1;omega);have bw:decide (k<M)=false:=decide_eq_false (by have:=HN.out.1;omega);have ct:M<=k:=by have:=HN.out.1;omega
   have cr:decide ((k:Int)<(T:Int))=false:=decide_eq_false (by have:=HN.out.1;omega);have cu:decide (k<T)=false:=decide_eq_false (by have:=HN.out.1;omega);have d5:T<=k:=by have:=HN.out.1;omega
   have ao:Za wr v (ZaE Zl l m k):=Zdn (base:=b+2) (by rw[ZjQ];exact D.o);rw[an,HR.out]at ao;have RW:=Lib.hid ao;have J:=Lib.hid D;obtain⟨Av,cv,rfl⟩:=Zc ao;have o0:=D.O.k0;have o1:=D.O.k1;have o2:=D.O.k2;generalize(Zax Zl l m).length=nc at *;generalize Zs (Zax Zl l m)=L at *;clear ae hg hk D ao an;go_wp2_with (go_at_call 54;go_fit (OW.out _ _ RW.out);rintro e w8 hT;obtain⟨v8,rfl,bc,bq,br⟩:=hT;obtain⟨A8,c8,rfl⟩:=Zc bc;have HV:=Lib.hid (And.intro bc (br.mono J.out.E.lt:Zp (w.heap.size+1+1+1) _));have P:=J.out.keep bq;have B8:=Lib.hid P.below;have e0:=P.E.k0;have e1:=P.E.k1;have e2:=P.E.k2;have l0:=P.E.l0;have l1:=P.E.l1;have l2:=P.E.l2;clear bc bq br P);obtain⟨c0,c1,c2⟩:=Zag (x:=Yc A8 L.length c8) (y:=Yd Yf R) (z:=Yd Yf Q) e0 e1 e2;obtain⟨r1,r2,r3⟩:=Zcg (w:=w) (b:=w.heap.size+1+1) (kn:=R) (kd:=Q) HV.out.1 B8.out HV.out.2 (by omega) rfl;exact bodyPost_ret (v:=.tuple #[.agg #[Yc A8 L.length c8,Yd Yf R,Yd Yf Q],Yd Yf 0]) (by simp[results,Tryz.results33,go_sem,c0,c1,c2]) rfl ⟨_,rfl,r1,r2,r3⟩
  ·have af:k<n:=by omega
   have i2:(0:Int)<=(k:Int):=by omega
   have U:=HN.out.2 k af;by_cases di:k<M
   ·have bv:decide ((k:Int)<(M:Int))=true:=decide_eq_true (by omega);have cs:(k:Int)<(M:Int):=by omega
    have bw:decide (k<M)=true:=decide_eq_true (by omega);have Z:=fun(p:Yh) (t:Below w.heap.size w p)=>ZaV p (Yc A M c) l xn xd k (TS.out.1.below t);have aa:=fun(p:Yh) (t:Below w.heap.size w p)=>ZaV p (Yc B T d) m yn yd k (TS.out.2.below t);have hw:=fun(p:Yh)=>al.out p k;rw[U]at hw;have X:=Lib.hid Z;have ay:=Lib.hid aa;have HW:=Lib.hid hw;have N:=Lib.hid af;have HK:=Lib.hid hg
    have az:Hid (ZZ Zl l m (k+1)):=fun i hi=>by
     rcases Nat.lt_or_ge i k with g|g
     ·exact ae i g
     ·obtain rfl:i=k:=by omega
      exact U
    have NX:=Lib.hid (Zc8 Zl l m k);have J:=Lib.hid D;have m1:=D.G.k1;have m2:=D.G.k2;clear Z aa hw D ae U hg an hk af;generalize(Zl (atL l k) (atL m k)).1=q at *;obtain⟨qn,qd⟩:=q;generalize atL l k=x at *;generalize atL m k=y at *;obtain⟨x1,x2⟩:=x;obtain⟨y1,y2⟩:=y;dsimp only at *;go_upto_region 13 with(go_at_call 53;go_fit (ay.out _ J.out.below);rintro e w5 ⟨rfl,t⟩;have J:=Lib.hid (J.out.keep t);clear t)
    go_cut [13,14]from 39 to 78 (fun bh bi wx=>ZcS w b k (Yc A M c) xn xd (Yc B T d) yn yd R Q v (ZaE Zl l m k) qn qd 0 bh bi wx)
    case first=>
     have HS:=Zm (Zn _) ((J.out.keep (below_alloc1 w5 (Yg #[Yd Yf y1,Yd Yf y2] 23))).cells (RatAt.start w5 y1 y2 23));generalize w5.heap.size=cy at *;generalize w5.alloc (Yg #[Yd Yf y1,Yd Yf y2] 23)=wq at *;clear J m1 m2 k0 m0;refine wp_region_noPanic ?_;refine wp_region_held_drew (S:=(fun p=>((p.cell? ⟨w.heap.size,0,Yb⟩=Ya (Yc A M c)/\p.cell? ⟨w.heap.size,1,Yb⟩=Ya (Yd Yf xn)/\p.cell? ⟨w.heap.size,2,Yb⟩=Ya (Yd Yf xd))/\(p.cell? ⟨cy,0,Yb⟩=Ya (Yd Yf y1)/\p.cell? ⟨cy,1,Yb⟩=Ya (Yd Yf y2))/\RatAt p cy y1 y2)/\DoS w p b k (Yc A M c) xn xd (Yc B T d) yn yd R Q v (ZaE Zl l m k))) (by kernel_rfl) HS (fun a=>?_);clear HS;refine tk 0 rfl ?_;refine tk 1 rfl ?_;refine tk 2 rfl ?_;refine tk 4 rfl ?_;(try simp only[cl,Act.put]);refine wpAnyH_ready (rs:=[3,9]) (by kernel_rfl) (by simp) (AllReadyH.cons (o:=_) rfl (fun K s=>?_) (AllReadyH.cons (o:=_) rfl (fun K s=>?_) AllReadyH.nil))
     rotate_left
     go_simp;refine s.out _ _ (Zm (below_alloc1 _ _) (by with_reducible assumption)) (fun f=>?_);clear s K
     (first|have C:=Lib.hid (Zaw f)|have C:=Lib.hid (Zam f))
     have j:=Lib.hid a;clear a;have a:=f;clear f;(try simp only[cl,Act.put]);refine rd 3 rfl fun K s=>?_
     rotate_right
     all_goals
      go_simp
      (first
       |(go_at_call 53;go_fit (X.out _ (Zan (by with_reducible assumption)).below);rintro e w6 ⟨rfl,t⟩;(try (have C:=Lib.hid (C.out.keep t))))
       |(go_at_call 52;go_fit (HW.out _);rintro e w7 ⟨rfl,t⟩;(try (have C:=Lib.hid (C.out.keep t)))))
      go_wp2_with fail;refine s.out _ _ (Zm (by with_reducible assumption) (by with_reducible assumption)) (fun f=>?_);clear s K a t;have a:=f;clear f;(try simp only[cl,Act.put])
     all_goals (try (have _:=C.out;refine rd 5 rfl fun K s=>?_))
     refine wpAnyH_ready (rs:=[5,9]) (by kernel_rfl) (by simp) (AllReadyH.cons (o:=_) rfl (fun K s=>?_) (AllReadyH.cons (o:=_) rfl (fun K s=>?_) AllReadyH.nil))
     rotate_left
     go_simp;refine s.out _ _ (Zm (below_alloc1 _ _) (by with_reducible assumption)) (fun f=>?_);clear s K
     (first|have C:=Lib.hid (Zaw f)|have C:=Lib.hid (Zam f))
     have j:=Lib.hid a;clear a;have a:=f;clear f;(try simp only[cl,Act.put]);refine rd 5 rfl fun K s=>?_
     rotate_right
     all_goals
      go_simp
      (first
       |(go_at_call 53;go_fit (X.out _ (Zan (by with_reducible assumption)).below);rintro e w6 ⟨rfl,t⟩;(try (have C:=Lib.hid (C.out.keep t))))
       |(go_at_call 52;go_fit (HW.out _);rintro e w7 ⟨rfl,t⟩;(try (have C:=Lib.hid (C.out.keep t)))))
      go_wp2_with fail;refine s.out _ _ (Zm (by with_reducible assumption) (by with_reducible assumption)) (fun f=>?_);clear s K a t;have a:=f;clear f;(try simp only[cl,Act.put])
     all_goals
      refine tk 6 rfl ?_;refine tk 7 rfl ?_;refine tk 8 rfl ?_;(try simp only[cl,Act.put])
     refine rd 9 rfl fun K s=>?_;go_simp;refine s.out _ _ (Zm (below_alloc1 _ _) (by with_reducible assumption)) (fun f=>?_);clear s K
     (first|have C:=Lib.hid (Zaw f)|have C:=Lib.hid (Zam f))
     have j:=Lib.hid a;clear a;have a:=f;clear f;(try simp only[cl,Act.put])
     all_goals
      refine rd 10 rfl fun K s=>?_;obtain⟨h6,h0,h1,h2,h3,h4,h5⟩:=C.out;clear h6;go_simp;clear h0 h1 h2 h3 h4 h5
      (first
       |refine s.out _ _ (Zm (below_alloc1 _ _) j.out) (fun f=>?_)
       |refine s.out _ _ (Zm (C.out.fill _ _).1 j.out) (fun f=>?_))
      clear s K a;have a:=f;clear f;(try simp only[cl,Act.put]);refine tk 11 rfl ?_;(try simp only[cl,Act.put]);refine wpAnyH_done (by kernel_rfl) ?_ _;refine NoPanic.normal ?_;go_wp2_with fail;go_meet
      case rel=>first|exact Zcj (Zan j.out) 23|exact ZcC (Zan j.out) C.out
    case rest=>
     obtain⟨cc,rfl,rfl,RC,D⟩:=hcut;clear J m1 m2 k0 m0;have cz:=RC.k0;have c6:=RC.k1;have o0:=D.O.k0;have J:=Lib.hid D;have cq:k<=8:=by have:=N.out;omega
     have bg:b+2<=wc.heap.size:=by have:=D.O.lt;omega
     clear D;have Y:=Lib.hid J.out.o;go_wp2_with (at_builtin;refine wpList_append_own _ rfl _ _ 35 rfl (b+2) 23 i0 (.agg #[Yd Yf 0,Yd Yf 0]) 2 16 Tryz.underlying35 hi bx bz b0 rfl (by decide) _ _ _ rfl (Y.out.alloc _) ⟨wc.heap.size,0,Yb⟩ 1 1 [Yd Yf qn,Yd Yf qd] rfl rfl ?c1 ?c2 ?c3 ?c4 ?c5 ?_)
     case c1=>exact Zd0 _ _ _
     case c2=>intro u hu;simp at hu;rcases hu with rfl|rfl<;>rfl
     case c3=>unfold maxLen;omega
     case c4=>omega
     case c5=>simp;omega
     intro v' w8 I H _;obtain⟨b9,cg,rfl⟩:=Zdt I;have P:=J.out.push (q:=(qn,qd)) H I;have g8:=Zb8 bg Y.out H;have o8:=(J.out.O.keepB g8 (by omega)).k0;have f8:=(J.out.O.keepB g8 (by omega)).l0;have P:=Lib.hid P;clear I H g8;have wk:IntKind.i64.wrap ((k:Int)+1)=(k:Int)+1:=IntWalk.i64_in _ (by have:=N.out;omega);go_wp2_with fail;go_roundg (n-(k+1))
     case measure=>have:=HK.out;have:=N.out;omega
     case rel=>exact⟨k+1,_,by push_cast;rfl,by have:=N.out;omega,rfl,az.out,by rw[NX.out];exact P.out⟩
   ·have bv:decide ((k:Int)<(M:Int))=false:=decide_eq_false (by omega);have cs:¬(k:Int)<(M:Int):=by omega
    have bw:decide (k<M)=false:=decide_eq_false (by omega);have ct:M<=k:=by omega
    have cu:decide (k<T)=true:=decide_eq_true (by have:=HN.out.1;omega);have cr:decide ((k:Int)<(T:Int))=true:=decide_eq_true (by have:=HN.out.1;omega);have d4:(k:Int)<(T:Int):=by have:=HN.out.1;omega
    have Z:=fun(p:Yh) (t:Below w.heap.size w p)=>ZaV p (Yc A M c) l xn xd k (TS.out.1.below t);have aa:=fun(p:Yh) (t:Below w.heap.size w p)=>ZaV p (Yc B T d) m yn yd k (TS.out.2.below t);have hw:=fun(p:Yh)=>al.out p k;rw[U]at hw;have X:=Lib.hid Z;have ay:=Lib.hid aa;have HW:=Lib.hid hw;have N:=Lib.hid af;have HK:=Lib.hid hg
    have az:Hid (ZZ Zl l m (k+1)):=fun i hi=>by
     rcases Nat.lt_or_ge i k with g|g
     ·exact ae i g
     ·obtain rfl:i=k:=by omega
      exact U
    have NX:=Lib.hid (Zc8 Zl l m k);have J:=Lib.hid D;have m1:=D.G.k1;have m2:=D.G.k2;clear Z aa hw D ae U hg an hk af;generalize(Zl (atL l k) (atL m k)).1=q at *;obtain⟨qn,qd⟩:=q;generalize atL l k=x at *;generalize atL m k=y at *;obtain⟨x1,x2⟩:=x;obtain⟨y1,y2⟩:=y;dsimp only at *;go_upto_region 13 with(go_at_call 53;go_fit (ay.out _ J.out.below);rintro e w5 ⟨rfl,t⟩;have J:=Lib.hid (J.out.keep t);clear t)
    go_cut [13,14]from 39 to 78 (fun bh bi wx=>ZcS w b k (Yc A M c) xn xd (Yc B T d) yn yd R Q v (ZaE Zl l m k) qn qd 0 bh bi wx)
    case first=>
     have HS:=Zm (Zn _) ((J.out.keep (below_alloc1 w5 (Yg #[Yd Yf y1,Yd Yf y2] 23))).cells (RatAt.start w5 y1 y2 23));generalize w5.heap.size=cy at *;generalize w5.alloc (Yg #[Yd Yf y1,Yd Yf y2] 23)=wq at *;clear J m1 m2 k0 m0;refine wp_region_noPanic ?_;refine wp_region_held_drew (S:=(fun p=>((p.cell? ⟨w.heap.size,0,Yb⟩=Ya (Yc A M c)/\p.cell? ⟨w.heap.size,1,Yb⟩=Ya (Yd Yf xn)/\p.cell? ⟨w.heap.size,2,Yb⟩=Ya (Yd Yf xd))/\(p.cell? ⟨cy,0,Yb⟩=Ya (Yd Yf y1)/\p.cell? ⟨cy,1,Yb⟩=Ya (Yd Yf y2))/\RatAt p cy y1 y2)/\DoS w p b k (Yc A M c) xn xd (Yc B T d) yn yd R Q v (ZaE Zl l m k))) (by kernel_rfl) HS (fun a=>?_);clear HS;refine tk 0 rfl ?_;refine tk 1 rfl ?_;refine tk 2 rfl ?_;refine tk 4 rfl ?_;(try simp only[cl,Act.put]);refine wpAnyH_ready (rs:=[3,9]) (by kernel_rfl) (by simp) (AllReadyH.cons (o:=_) rfl (fun K s=>?_) (AllReadyH.cons (o:=_) rfl (fun K s=>?_) AllReadyH.nil))
     rotate_left
     go_simp;refine s.out _ _ (Zm (below_alloc1 _ _) (by with_reducible assumption)) (fun f=>?_);clear s K
     (first|have C:=Lib.hid (Zaw f)|have C:=Lib.hid (Zam f))
     have j:=Lib.hid a;clear a;have a:=f;clear f;(try simp only[cl,Act.put]);refine rd 3 rfl fun K s=>?_
     rotate_right
     all_goals
      go_simp
      (first
       |(go_at_call 53;go_fit (X.out _ (Zan (by with_reducible assumption)).below);rintro e w6 ⟨rfl,t⟩;(try (have C:=Lib.hid (C.out.keep t))))
       |(go_at_call 52;go_fit (HW.out _);rintro e w7 ⟨rfl,t⟩;(try (have C:=Lib.hid (C.out.keep t)))))
      go_wp2_with fail;refine s.out _ _ (Zm (by with_reducible assumption) (by with_reducible assumption)) (fun f=>?_);clear s K a t;have a:=f;clear f;(try simp only[cl,Act.put])
     all_goals (try (have _:=C.out;refine rd 5 rfl fun K s=>?_))
     refine wpAnyH_ready (rs:=[5,9]) (by kernel_rfl) (by simp) (AllReadyH.cons (o:=_) rfl (fun K s=>?_) (AllReadyH.cons (o:=_) rfl (fun K s=>?_) AllReadyH.nil))
     rotate_left
     go_simp;refine s.out _ _ (Zm (below_alloc1 _ _) (by with_reducible assumption)) (fun f=>?_);clear s K
     (first|have C:=Lib.hid (Zaw f)|have C:=Lib.hid (Zam f))
     have j:=Lib.hid a;clear a;have a:=f;clear f;(try simp only[cl,Act.put]);refine rd 5 rfl fun K s=>?_
     rotate_right
     all_goals
      go_simp
      (first
       |(go_at_call 53;go_fit (X.out _ (Zan (by with_reducible assumption)).below);rintro e w6 ⟨rfl,t⟩;(try (have C:=Lib.hid (C.out.keep t))))
       |(go_at_call 52;go_fit (HW.out _);rintro e w7 ⟨rfl,t⟩;(try (have C:=Lib.hid (C.out.keep t)))))
      go_wp2_with fail;refine s.out _ _ (Zm (by with_reducible assumption) (by with_reducible assumption)) (fun f=>?_);clear s K a t;have a:=f;clear f;(try simp only[cl,Act.put])
     all_goals
      refine tk 6 rfl ?_;refine tk 7 rfl ?_;refine tk 8 rfl ?_;(try simp only[cl,Act.put])
     refine rd 9 rfl fun K s=>?_;go_simp;refine s.out _ _ (Zm (below_alloc1 _ _) (by with_reducible assumption)) (fun f=>?_);clear s K
     (first|have C:=Lib.hid (Zaw f)|have C:=Lib.hid (Zam f))
     have j:=Lib.hid a;clear a;have a:=f;clear f;(try simp only[cl,Act.put])
     all_goals
      refine rd 10 rfl fun K s=>?_;obtain⟨h6,h0,h1,h2,h3,h4,h5⟩:=C.out;clear h6;go_simp;clear h0 h1 h2 h3 h4 h5
      (first
       |refine s.out _ _ (Zm (below_alloc1 _ _) j.out) (fun f=>?_)
       |refine s.out _ _ (Zm (C.out.fill _ _).1 j.out) (fun f=>?_))
      clear s K a;have a:=f;clear f;(try simp only[cl,Act.put]);refine tk 11 rfl ?_;(try simp only[cl,Act.put]);refine wpAnyH_done (by kernel_rfl) ?_ _;refine NoPanic.normal ?_;go_wp2_with fail;go_meet
      case rel=>first|exact Zcj (Zan j.out) 23|exact ZcC (Zan j.out) C.out
    case rest=>
     obtain⟨cc,rfl,rfl,RC,D⟩:=hcut;clear J m1 m2 k0 m0;have cz:=RC.k0;have c6:=RC.k1;have o0:=D.O.k0;have J:=Lib.hid D;have cq:k<=8:=by have:=N.out;omega
     have bg:b+2<=wc.heap.size:=by have:=D.O.lt;omega
     clear D;have Y:=Lib.hid J.out.o;go_wp2_with (at_builtin;refine wpList_append_own _ rfl _ _ 35 rfl (b+2) 23 i0 (.agg #[Yd Yf 0,Yd Yf 0]) 2 16 Tryz.underlying35 hi bx bz b0 rfl (by decide) _ _ _ rfl (Y.out.alloc _) ⟨wc.heap.size,0,Yb⟩ 1 1 [Yd Yf qn,Yd Yf qd] rfl rfl ?c1 ?c2 ?c3 ?c4 ?c5 ?_)
     case c1=>exact Zd0 _ _ _
     case c2=>intro u hu;simp at hu;rcases hu with rfl|rfl<;>rfl
     case c3=>unfold maxLen;omega
     case c4=>omega
     case c5=>simp;omega
     intro v' w8 I H _;obtain⟨b9,cg,rfl⟩:=Zdt I;have P:=J.out.push (q:=(qn,qd)) H I;have g8:=Zb8 bg Y.out H;have o8:=(J.out.O.keepB g8 (by omega)).k0;have f8:=(J.out.O.keepB g8 (by omega)).l0;have P:=Lib.hid P;clear I H g8;have wk:IntKind.i64.wrap ((k:Int)+1)=(k:Int)+1:=IntWalk.i64_in _ (by have:=N.out;omega);go_wp2_with fail;go_roundg (n-(k+1))
     case measure=>have:=HK.out;have:=N.out;omega
     case rel=>exact⟨k+1,_,by push_cast;rfl,by have:=N.out;omega,rfl,az.out,by rw[NX.out];exact P.out⟩
theorem ZnY (w:Yh) (va vb:Value) (l m:List (Int×Int)) (kx ky:Int×Int) (ha:Za w va l) (t:Za w vb m) (hl:ZC l) (hm:ZC m) (hx:OkR kx) (hy:OkR ky) (h8:l.length<=8) (ce:m.length<=8)
  (bt:¬((Zl kx ky).2=0/\ZZ Zl l m (max l.length m.length))) :
  Calls Tryz.prog 33 #[Yd Yf 0,.agg #[va,Yd Yf kx.1,Yd Yf kx.2],.agg #[vb,Yd Yf ky.1,Yd Yf ky.2]] w (ZaQ w [] (0,0) 3):=by
 obtain⟨i0,hi,cg,ch,ci⟩:=info_parts ZdE;have ra:=fun(s:Yh) (h:Below w.heap.size w s)=>ZaN s va l kx.1 kx.2 (ha.below h) hl.wide hx.wide.1.1 hx.wide.1.2 hx.wide.2.1 hx.wide.2.2;rw[Zav h8 hl hx]at ra;have rb:=fun(s:Yh) (h:Below w.heap.size w s)=>ZaN s vb m ky.1 ky.2 (t.below h) hm.wide hy.wide.1.1 hy.wide.1.2 hy.wide.2.1 hy.wide.2.2;rw[Zav ce hm hy]at rb;have h1:=fun(s:Yh)=>Zdu s kx ky hx hy;have am:∀(s:Yh) (k:Nat),Calls Tryz.prog 52 #[Yd Yf 0,Zb (atL l k).1 (atL l k).2,Zb (atL m k).1 (atL m k).2] s fun r w2=>r=.returned (.tuple #[Zb (Zl (atL l k) (atL m k)).1.1 (Zl (atL l k) (atL m k)).1.2,Yd Yf (Zl (atL l k) (atL m k)).2])/\Below s.heap.size s w2:=fun s k=>Zdu s _ _ (hl.at k) (hm.at k);have am:=Lib.hid am;by_cases hk:(Zl kx ky).2=0
 rotate_left
 ·have hz:=Zbi.no kx ky hx hy hk;rw[hz]at h1;obtain⟨A,c,rfl⟩:=Zc ha;obtain⟨B,d,rfl⟩:=Zc t;have H1:=Lib.hid h1;have RA:=Lib.hid ra;have RB:=Lib.hid rb;clear h1 ra rb ha t hl hm hx hy hk hz bt am h8 ce;generalize l.length=J at *;generalize m.length=V at *;obtain⟨xn,Z⟩:=kx;obtain⟨yn,yd⟩:=ky
  skip
  dsimp only at *;obtain⟨F,G,E,ab⟩:=ZaD w (Yc A J c) (Yd Yf xn) (Yd Yf Z) (Yc B V d) (Yd Yf yn) (Yd Yf yd) (Yc Yb 0 0) (Yd Yf 0) (Yd Yf 0) 37;go_enter Tryz.func33,Tryz.ntmps33
  go_upto_region 4 with(first
   |(go_at_call 51;(first
    |go_fit (RA.out _ ab);rintro e w1 ⟨rfl,T⟩;have F:=F.keep T;have G:=G.keep T;have E:=E.keep T;have b1:=ab.trans (T.mono ab.size);have k1:=F.k1;have k2:=F.k2;have m0:=G.k0;have m1:=G.k1;have m2:=G.k2
    |go_fit (RB.out _ b1);rintro e w2 ⟨rfl,U⟩;have F:=F.keep U;have G:=G.keep U;have E:=E.keep U;have b2:=b1.trans (U.mono b1.size);have k1:=F.k1;have k2:=F.k2;have m1:=G.k1;have m2:=G.k2))
   |(go_at_call 52;go_fit (H1.out _);rintro e w3 ⟨rfl,ac⟩;have E:=E.keep ac;have b3:=b2.trans (ac.mono b2.size)))
  have a1:=below_alloc1 w3 (Yg #[Yd Yf 0,Yd Yf 0] 23);have E:=E.keep a1;have b4:=Lib.hid (b3.trans (a1.mono b3.size));have k0:=E.k0;have k1:=E.k1;have k2:=E.k2;have l0:=E.l0;have l1:=E.l1;have l2:=E.l2;clear T U ac ab a1 F G b1 b2 b3;go_wp2_with fail;obtain⟨c0,c1,c2⟩:=Zag (x:=Yc Yb 0 0) (y:=Yd Yf 0) (z:=Yd Yf 0) k0 k1 k2;refine bodyPost_ret (v:=.tuple #[.agg #[Yc Yb 0 0,Yd Yf 0,Yd Yf 0],Yd Yf 3]) (by simp[results,Tryz.results33,go_sem,c0,c1,c2]) rfl ⟨_,rfl,Za.nil _,?_,Zp.none_ _ _ _⟩;exact((b4.out.setCell (by show w.heap.size<=w.heap.size+1+1;omega) _).setCell (by show w.heap.size<=w.heap.size+1+1;omega) _).setCell (by show w.heap.size<=w.heap.size+1+1;omega) _
 have a7:¬ZZ Zl l m (max l.length m.length):=fun q=>bt ⟨hk,q⟩;rw[hk]at h1;obtain⟨A,c,rfl⟩:=Zc ha;obtain⟨B,d,rfl⟩:=Zc t;obtain⟨n,hn⟩:∃n,n=max l.length m.length:=⟨_,rfl⟩
 have dn:n<=8:=by omega
 rw[<-hn]at a7;have HN:=Lib.hid (And.intro hn a7);have HH:=Lib.hid (fun k:Nat=>Zbi.no _ _ (hl.at k) (hm.at k));have H1:=Lib.hid h1;have RA:=Lib.hid ra;have RB:=Lib.hid rb;have TS:=Lib.hid (And.intro ha t);clear h1 ra rb ha t hl hm hx hy hk hn bt a7;generalize l.length=J at *;generalize m.length=V at *;generalize(Zl kx ky).1=z at *;obtain⟨zn,zd⟩:=z;obtain⟨xn,Z⟩:=kx;obtain⟨yn,yd⟩:=ky;dsimp only at *;obtain⟨F,G,E,ab⟩:=ZaD w (Yc A J c) (Yd Yf xn) (Yd Yf Z) (Yc B V d) (Yd Yf yn) (Yd Yf yd) (Yc Yb 0 0) (Yd Yf 0) (Yd Yf 0) 37;go_enter Tryz.func33,Tryz.ntmps33
 go_upto_region 6 with(first
  |(go_at_call 51;(first
   |go_fit (RA.out _ ab);rintro e w1 ⟨rfl,T⟩;have F:=F.keep T;have G:=G.keep T;have E:=E.keep T;have b1:=ab.trans (T.mono ab.size);have k1:=F.k1;have k2:=F.k2;have m0:=G.k0;have m1:=G.k1;have m2:=G.k2
   |go_fit (RB.out _ b1);rintro e w2 ⟨rfl,U⟩;have F:=F.keep U;have G:=G.keep U;have E:=E.keep U;have b2:=b1.trans (U.mono b1.size);have k1:=F.k1;have k2:=F.k2;have m1:=G.k1;have m2:=G.k2))
  |(go_at_call 52;go_fit (H1.out _);rintro e w3 ⟨rfl,ac⟩;have F:=F.keep ac;have G:=G.keep ac;have E:=E.keep ac;have e3:=E.lt;have b3:=b2.trans (ac.mono b2.size)))
 clear T U ac ab b1 b2 k1 k2 m0 m1 m2;go_upto_region 7 with fail;have a1:=below_alloc1 w3 (Yg #[Yd Yf zn,Yd Yf zd] 23);have a2:=below_alloc1 (w3.alloc (Yg #[Yd Yf zn,Yd Yf zd] 23)) (Yg #[Yc Yb 0 0,Yd Yf zn,Yd Yf zd] 37);have O:=FracBox.start (w3.alloc (Yg #[Yd Yf zn,Yd Yf zd] 23)) (Yc Yb 0 0) (Yd Yf zn) (Yd Yf zd) 37;rw[World.size_alloc]at O;have b5:=b3.trans (a1.mono b3.size);have D0:DoS w ((w3.alloc (Yg #[Yd Yf zn,Yd Yf zd] 23)).alloc (Yg #[Yc Yb 0 0,Yd Yf zn,Yd Yf zd] 37)) w3.heap.size 0 (Yc A J c) xn Z (Yc B V d) yn yd zn zd (Yc Yb 0 0) (ZaE Zl l m 0):=
  ⟨(F.keep a1).keep a2,(G.keep a1).keep a2,(E.keep a1).keep a2,O,⟨rfl,.inl ⟨rfl,rfl⟩⟩,e3,b5.trans (a2.mono b5.size)⟩
 generalize w3.heap.size=b at *;have D0:=Lib.hid D0;clear F G E O a1 a2 b3 b5 e3;go_wp2_with fail;go_loopg [11] n (fun g da wr=>∃(k:Nat) (v:Value),da=Yd Yf k/\k<=n/\g=n-k/\ZZ Zl l m k/\DoS w wr b k (Yc A J c) xn Z (Yc B V d) yn yd zn zd v (ZaE Zl l m k))
 case atStart=>exact⟨0,_,rfl,Nat.zero_le _,rfl,fun i hi=>absurd hi (Nat.not_lt_zero _),D0.out⟩
 case round=>
  clear D0;obtain⟨k,v,rfl,hk,hg,ao,D⟩:=hrel;have k0:=D.F.k0;have m0:=D.G.k0;by_cases a6:k=n
  ·subst a6;exact absurd ao HN.out.2
  ·have ae:k<n:=by omega
   have i2:(0:Int)<=(k:Int):=by omega
   by_cases Y:(Zl (atL l k) (atL m k)).2=0
   ·by_cases cf:k<J
    ·have bu:decide ((k:Int)<(J:Int))=true:=decide_eq_true (by omega);have bv:(k:Int)<(J:Int):=by omega
     have bw:decide (k<J)=true:=decide_eq_true (by omega);have Q:=fun(s:Yh) (t:Below w.heap.size w s)=>ZaV s (Yc A J c) l xn Z k (TS.out.1.below t);have R:=fun(s:Yh) (t:Below w.heap.size w s)=>ZaV s (Yc B V d) m yn yd k (TS.out.2.below t);have hw:=fun(s:Yh)=>am.out s k;rw[Y]at hw;have N:=Lib.hid Q;have al:=Lib.hid R;have HW:=Lib.hid hw;have P:=Lib.hid ae;have HK:=Lib.hid hg
     have bi:Hid (ZZ Zl l m (k+1)):=fun i hi=>by
      rcases Nat.lt_or_ge i k with g|g
      ·exact ao i g
      ·obtain rfl:i=k:=by omega
       exact Y
     have NX:=Lib.hid (Zc8 Zl l m k);have I:=Lib.hid D;have m1:=D.G.k1;have m2:=D.G.k2;clear Q R hw D ao Y hg a6 hk ae;generalize(Zl (atL l k) (atL m k)).1=q at *;obtain⟨qn,qd⟩:=q;generalize atL l k=x at *;generalize atL m k=y at *;obtain⟨x1,x2⟩:=x;obtain⟨W,X⟩:=y;dsimp only at *;go_upto_region 13 with(go_at_call 53;go_fit (al.out _ I.out.below);rintro e w5 ⟨rfl,t⟩;have I:=Lib.hid (I.out.keep t);clear t)
     go_cut [13,14]from 39 to 78 (fun aq ar wx=>ZcS w b k (Yc A J c) xn Z (Yc B V d) yn yd zn zd v (ZaE Zl l m k) qn qd 0 aq ar wx)
     case first=>
      have HS:=Zm (Zn _) ((I.out.keep (below_alloc1 w5 (Yg #[Yd Yf W,Yd Yf X] 23))).cells (RatAt.start w5 W X 23));generalize w5.heap.size=cy at *;generalize w5.alloc (Yg #[Yd Yf W,Yd Yf X] 23)=wq at *;clear I m1 m2 k0 m0;refine wp_region_noPanic ?_;refine wp_region_held_drew (S:=(fun s=>((s.cell? ⟨w.heap.size,0,Yb⟩=Ya (Yc A J c)/\s.cell? ⟨w.heap.size,1,Yb⟩=Ya (Yd Yf xn)/\s.cell? ⟨w.heap.size,2,Yb⟩=Ya (Yd Yf Z))/\(s.cell? ⟨cy,0,Yb⟩=Ya (Yd Yf W)/\s.cell? ⟨cy,1,Yb⟩=Ya (Yd Yf X))/\RatAt s cy W X)/\DoS w s b k (Yc A J c) xn Z (Yc B V d) yn yd zn zd v (ZaE Zl l m k))) (by kernel_rfl) HS (fun a=>?_);clear HS;refine tk 0 rfl ?_;refine tk 1 rfl ?_;refine tk 2 rfl ?_;refine tk 4 rfl ?_;(try simp only[cl,Act.put]);refine wpAnyH_ready (rs:=[3,9]) (by kernel_rfl) (by simp) (AllReadyH.cons (o:=_) rfl (fun K p=>?_) (AllReadyH.cons (o:=_) rfl (fun K p=>?_) AllReadyH.nil))
      rotate_left
      go_simp;refine p.out _ _ (Zm (below_alloc1 _ _) (by with_reducible assumption)) (fun f=>?_);clear p K
      (first|have C:=Lib.hid (Zaw f)|have C:=Lib.hid (Zam f))
      have j:=Lib.hid a;clear a;have a:=f;clear f;(try simp only[cl,Act.put]);refine rd 3 rfl fun K p=>?_
      rotate_right
      all_goals
       go_simp
       (first
        |(go_at_call 53;go_fit (N.out _ (Zan (by with_reducible assumption)).below);rintro e w6 ⟨rfl,t⟩;(try (have C:=Lib.hid (C.out.keep t))))
        |(go_at_call 52;go_fit (HW.out _);rintro e w7 ⟨rfl,t⟩;(try (have C:=Lib.hid (C.out.keep t)))))
       go_wp2_with fail;refine p.out _ _ (Zm (by with_reducible assumption) (by with_reducible assumption)) (fun f=>?_);clear p K a t;have a:=f;clear f;(try simp only[cl,Act.put])
      all_goals (try (have _:=C.out;refine rd 5 rfl fun K p=>?_))
      refine wpAnyH_ready (rs:=[5,9]) (by kernel_rfl) (by simp) (AllReadyH.cons (o:=_) rfl (fun K p=>?_) (AllReadyH.cons (o:=_) rfl (fun K p=>?_) AllReadyH.nil))
      rotate_left
      go_simp;refine p.out _ _ (Zm (below_alloc1 _ _) (by with_reducible assumption)) (fun f=>?_);clear p K
      (first|have C:=Lib.hid (Zaw f)|have C:=Lib.hid (Zam f))
      have j:=Lib.hid a;clear a;have a:=f;clear f;(try simp only[cl,Act.put]);refine rd 5 rfl fun K p=>?_
      rotate_right
      all_goals
       go_simp
       (first
        |(go_at_call 53;go_fit (N.out _ (Zan (by with_reducible assumption)).below);rintro e w6 ⟨rfl,t⟩;(try (have C:=Lib.hid (C.out.keep t))))
        |(go_at_call 52;go_fit (HW.out _);rintro e w7 ⟨rfl,t⟩;(try (have C:=Lib.hid (C.out.keep t)))))
       go_wp2_with fail;refine p.out _ _ (Zm (by with_reducible assumption) (by with_reducible assumption)) (fun f=>?_);clear p K a t;have a:=f;clear f;(try simp only[cl,Act.put])
      all_goals
       refine tk 6 rfl ?_;refine tk 7 rfl ?_;refine tk 8 rfl ?_;(try simp only[cl,Act.put])
      refine rd 9 rfl fun K p=>?_;go_simp;refine p.out _ _ (Zm (below_alloc1 _ _) (by with_reducible assumption)) (fun f=>?_);clear p K
      (first|have C:=Lib.hid (Zaw f)|have C:=Lib.hid (Zam f))
      have j:=Lib.hid a;clear a;have a:=f;clear f;(try simp only[cl,Act.put])
      all_goals
       refine rd 10 rfl fun K p=>?_;obtain⟨h6,h0,h1,h2,h3,h4,h5⟩:=C.out;clear h6;go_simp;clear h0 h1 h2 h3 h4 h5
       (first
        |refine p.out _ _ (Zm (below_alloc1 _ _) j.out) (fun f=>?_)
        |refine p.out _ _ (Zm (C.out.fill _ _).1 j.out) (fun f=>?_))
       clear p K a;have a:=f;clear f;(try simp only[cl,Act.put]);refine tk 11 rfl ?_;(try simp only[cl,Act.put]);refine wpAnyH_done (by kernel_rfl) ?_ _;refine NoPanic.normal ?_;go_wp2_with fail;go_meet
       case rel=>first|exact Zcj (Zan j.out) 23|exact ZcC (Zan j.out) C.out
     case rest=>
      obtain⟨cc,rfl,rfl,RC,D⟩:=hcut;clear I m1 m2 k0 m0;have c8:=RC.k0;have c9:=RC.k1;have o0:=D.O.k0;have I:=Lib.hid D;have cv:k<=8:=by have:=P.out;omega
      have b0:b+2<=wc.heap.size:=by have:=D.O.lt;omega
      clear D;have az:=Lib.hid I.out.o;go_wp2_with (at_builtin;refine wpList_append_own _ rfl _ _ 35 rfl (b+2) 23 i0 (.agg #[Yd Yf 0,Yd Yf 0]) 2 16 Tryz.underlying35 hi cg ch ci rfl (by decide) _ _ _ rfl (az.out.alloc _) ⟨wc.heap.size,0,Yb⟩ 1 1 [Yd Yf qn,Yd Yf qd] rfl rfl ?c1 ?c2 ?c3 ?c4 ?c5 ?_)
      case c1=>exact Zd0 _ _ _
      case c2=>intro u hu;simp at hu;rcases hu with rfl|rfl<;>rfl
      case c3=>unfold maxLen;omega
      case c4=>omega
      case c5=>simp;omega
      intro v' w8 M L _;obtain⟨cn,cu,rfl⟩:=Zdt M;have D8:=I.out.push (q:=(qn,qd)) L M;have g8:=Zb8 b0 az.out L;have o8:=(I.out.O.keepB g8 (by omega)).k0;have f8:=(I.out.O.keepB g8 (by omega)).l0;have D8:=Lib.hid D8;clear M L g8;have wk:IntKind.i64.wrap ((k:Int)+1)=(k:Int)+1:=IntWalk.i64_in _ (by have:=P.out;omega);go_wp2_with fail;go_roundg (n-(k+1))
      case measure=>have:=HK.out;have:=P.out;omega
      case rel=>exact⟨k+1,_,by push_cast;rfl,by have:=P.out;omega,rfl,bi.out,by rw[NX.out];exact D8.out⟩
    ·have bu:decide ((k:Int)<(J:Int))=false:=decide_eq_false (by omega);have bv:¬(k:Int)<(J:Int):=by omega
     have bw:decide (k<J)=false:=decide_eq_false (by omega);have c6:J<=k:=by omega
     have c7:decide (k<V)=true:=decide_eq_true (by have:=HN.out.1;omega);have cx:decide ((k:Int)<(V:Int))=true:=decide_eq_true (by have:=HN.out.1;omega);have cz:(k:Int)<(V:Int):=by have:=HN.out.1;omega
     have Q:=fun(s:Yh) (t:Below w.heap.size w s)=>ZaV s (Yc A J c) l xn Z k (TS.out.1.below t);have R:=fun(s:Yh) (t:Below w.heap.size w s)=>ZaV s (Yc B V d) m yn yd k (TS.out.2.below t);have hw:=fun(s:Yh)=>am.out s k;rw[Y]at hw;have N:=Lib.hid Q;have al:=Lib.hid R;have HW:=Lib.hid hw;have P:=Lib.hid ae;have HK:=Lib.hid hg
     have bi:Hid (ZZ Zl l m (k+1)):=fun i hi=>by
      rcases Nat.lt_or_ge i k with g|g
      ·exact ao i g
      ·obtain rfl:i=k:=by omega
       exact Y
     have NX:=Lib.hid (Zc8 Zl l m k);have I:=Lib.hid D;have m1:=D.G.k1;have m2:=D.G.k2;clear Q R hw D ao Y hg a6 hk ae;generalize(Zl (atL l k) (atL m k)).1=q at *;obtain⟨qn,qd⟩:=q;generalize atL l k=x at *;generalize atL m k=y at *;obtain⟨x1,x2⟩:=x;obtain⟨W,X⟩:=y;dsimp only at *;go_upto_region 13 with(go_at_call 53;go_fit (al.out _ I.out.below);rintro e w5 ⟨rfl,t⟩;have I:=Lib.hid (I.out.keep t);clear t)
     go_cut [13,14]from 39 to 78 (fun aq ar wx=>ZcS w b k (Yc A J c) xn Z (Yc B V d) yn yd zn zd v (ZaE Zl l m k) qn qd 0 aq ar wx)
     case first=>
      have HS:=Zm (Zn _) ((I.out.keep (below_alloc1 w5 (Yg #[Yd Yf W,Yd Yf X] 23))).cells (RatAt.start w5 W X 23));generalize w5.heap.size=cy at *;generalize w5.alloc (Yg #[Yd Yf W,Yd Yf X] 23)=wq at *;clear I m1 m2 k0 m0;refine wp_region_noPanic ?_;refine wp_region_held_drew (S:=(fun s=>((s.cell? ⟨w.heap.size,0,Yb⟩=Ya (Yc A J c)/\s.cell? ⟨w.heap.size,1,Yb⟩=Ya (Yd Yf xn)/\s.cell? ⟨w.heap.size,2,Yb⟩=Ya (Yd Yf Z))/\(s.cell? ⟨cy,0,Yb⟩=Ya (Yd Yf W)/\s.cell? ⟨cy,1,Yb⟩=Ya (Yd Yf X))/\RatAt s cy W X)/\DoS w s b k (Yc A J c) xn Z (Yc B V d) yn yd zn zd v (ZaE Zl l m k))) (by kernel_rfl) HS (fun a=>?_);clear HS;refine tk 0 rfl ?_;refine tk 1 rfl ?_;refine tk 2 rfl ?_;refine tk 4 rfl ?_;(try simp only[cl,Act.put]);refine wpAnyH_ready (rs:=[3,9]) (by kernel_rfl) (by simp) (AllReadyH.cons (o:=_) rfl (fun K p=>?_) (AllReadyH.cons (o:=_) rfl (fun K p=>?_) AllReadyH.nil))
      rotate_left
      go_simp;refine p.out _ _ (Zm (below_alloc1 _ _) (by with_reducible assumption)) (fun f=>?_);clear p K
      (first|have C:=Lib.hid (Zaw f)|have C:=Lib.hid (Zam f))
      have j:=Lib.hid a;clear a;have a:=f;clear f;(try simp only[cl,Act.put]);refine rd 3 rfl fun K p=>?_
      rotate_right
      all_goals
       go_simp
       (first
        |(go_at_call 53;go_fit (N.out _ (Zan (by with_reducible assumption)).below);rintro e w6 ⟨rfl,t⟩;(try (have C:=Lib.hid (C.out.keep t))))
        |(go_at_call 52;go_fit (HW.out _);rintro e w7 ⟨rfl,t⟩;(try (have C:=Lib.hid (C.out.keep t)))))
       go_wp2_with fail;refine p.out _ _ (Zm (by with_reducible assumption) (by with_reducible assumption)) (fun f=>?_);clear p K a t;have a:=f;clear f;(try simp only[cl,Act.put])
      all_goals (try (have _:=C.out;refine rd 5 rfl fun K p=>?_))
      refine wpAnyH_ready (rs:=[5,9]) (by kernel_rfl) (by simp) (AllReadyH.cons (o:=_) rfl (fun K p=>?_) (AllReadyH.cons (o:=_) rfl (fun K p=>?_) AllReadyH.nil))
      rotate_left
      go_simp;refine p.out _ _ (Zm (below_alloc1 _ _) (by with_reducible assumption)) (fun f=>?_);clear p K
      (first|have C:=Lib.hid (Zaw f)|have C:=Lib.hid (Zam f))
      have j:=Lib.hid a;clear a;have a:=f;clear f;(try simp only[cl,Act.put]);refine rd 5 rfl fun K p=>?_
      rotate_right
      all_goals
       go_simp
       (first
        |(go_at_call 53;go_fit (N.out _ (Zan (by with_reducible assumption)).below);rintro e w6 ⟨rfl,t⟩;(try (have C:=Lib.hid (C.out.keep t))))
        |(go_at_call 52;go_fit (HW.out _);rintro e w7 ⟨rfl,t⟩;(try (have C:=Lib.hid (C.out.keep t)))))
       go_wp2_with fail;refine p.out _ _ (Zm (by with_reducible assumption) (by with_reducible assumption)) (fun f=>?_);clear p K a t;have a:=f;clear f;(try simp only[cl,Act.put])
      all_goals
       refine tk 6 rfl ?_;refine tk 7 rfl ?_;refine tk 8 rfl ?_;(try simp only[cl,Act.put])
      refine rd 9 rfl fun K p=>?_;go_simp;refine p.out _ _ (Zm (below_alloc1 _ _) (by with_reducible assumption)) (fun f=>?_);clear p K
      (first|have C:=Lib.hid (Zaw f)|have C:=Lib.hid (Zam f))
      have j:=Lib.hid a;clear a;have a:=f;clear f;(try simp only[cl,Act.put])
      all_goals
       refine rd 10 rfl fun K p=>?_;obtain⟨h6,h0,h1,h2,h3,h4,h5⟩:=C.out;clear h6;go_simp;clear h0 h1 h2 h3 h4 h5
       (first
        |refine p.out _ _ (Zm (below_alloc1 _ _) j.out) (fun f=>?_)
        |refine p.out _ _ (Zm (C.out.fill _ _).1 j.out) (fun f=>?_))
       clear p K a;have a:=f;clear f;(try simp only[cl,Act.put]);refine tk 11 rfl ?_;(try simp only[cl,Act.put]);refine wpAnyH_done (by kernel_rfl) ?_ _;refine NoPanic.normal ?_;go_wp2_with fail;go_meet
       case rel=>first|exact Zcj (Zan j.out) 23|exact ZcC (Zan j.out) C.out
     case rest=>
      obtain⟨cc,rfl,rfl,RC,D⟩:=hcut;clear I m1 m2 k0 m0;have c8:=RC.k0;have c9:=RC.k1;have o0:=D.O.k0;have I:=Lib.hid D;have cv:k<=8:=by have:=P.out;omega
      have b0:b+2<=wc.heap.size:=by have:=D.O.lt;omega
      clear D;have az:=Lib.hid I.out.o;go_wp2_with (at_builtin;refine wpList_append_own _ rfl _ _ 35 rfl (b+2) 23 i0 (.agg #[Yd Yf 0,Yd Yf 0]) 2 16 Tryz.underlying35 hi cg ch ci rfl (by decide) _ _ _ rfl (az.out.alloc _) ⟨wc.heap.size,0,Yb⟩ 1 1 [Yd Yf qn,Yd Yf qd] rfl rfl ?c1 ?c2 ?c3 ?c4 ?c5 ?_)
      case c1=>exact Zd0 _ _ _
      case c2=>intro u hu;simp at hu;rcases hu with rfl|rfl<;>rfl
      case c3=>unfold maxLen;omega
      case c4=>omega
      case c5=>simp;omega
      intro v' w8 M L _;obtain⟨cn,cu,rfl⟩:=Zdt M;have D8:=I.out.push (q:=(qn,qd)) L M;have g8:=Zb8 b0 az.out L;have o8:=(I.out.O.keepB g8 (by omega)).k0;have f8:=(I.out.O.keepB g8 (by omega)).l0;have D8:=Lib.hid D8;clear M L g8;have wk:IntKind.i64.wrap ((k:Int)+1)=(k:Int)+1:=IntWalk.i64_in _ (by have:=P.out;omega);go_wp2_with fail;go_roundg (n-(k+1))
      case measure=>have:=HK.out;have:=P.out;omega
      case rel=>exact⟨k+1,_,by push_cast;rfl,by have:=P.out;omega,rfl,bi.out,by rw[NX.out];exact D8.out⟩
   ·by_cases cf:k<J
    ·have bu:decide ((k:Int)<(J:Int))=true:=decide_eq_true (by omega);have bv:(k:Int)<(J:Int):=by omega
     have bw:decide (k<J)=true:=decide_eq_true (by omega);have Q:=fun(s:Yh) (t:Below w.heap.size w s)=>ZaV s (Yc A J c) l xn Z k (TS.out.1.below t);have R:=fun(s:Yh) (t:Below w.heap.size w s)=>ZaV s (Yc B V d) m yn yd k (TS.out.2.below t);have hw:=fun(s:Yh)=>am.out s k;rw[HH.out k Y]at hw;have N:=Lib.hid Q;have al:=Lib.hid R;have HW:=Lib.hid hw;have P:=Lib.hid ae;have HK:=Lib.hid hg;have I:=Lib.hid D;have m1:=D.G.k1;have m2:=D.G.k2;clear Q R hw D ao Y hg a6 hk ae;generalize atL l k=x at *;generalize atL m k=y at *;obtain⟨x1,x2⟩:=x;obtain⟨W,X⟩:=y;dsimp only at *;go_upto_region 13 with(go_at_call 53;go_fit (al.out _ I.out.below);rintro e w5 ⟨rfl,t⟩;have I:=Lib.hid (I.out.keep t);clear t)
     go_cut [13,14]from 39 to 78 (fun aq ar wx=>ZcS w b k (Yc A J c) xn Z (Yc B V d) yn yd zn zd v (ZaE Zl l m k) 0 0 3 aq ar wx)
     case first=>
      have HS:=Zm (Zn _) ((I.out.keep (below_alloc1 w5 (Yg #[Yd Yf W,Yd Yf X] 23))).cells (RatAt.start w5 W X 23));generalize w5.heap.size=cy at *;generalize w5.alloc (Yg #[Yd Yf W,Yd Yf X] 23)=wq at *;clear I m1 m2 k0 m0;refine wp_region_noPanic ?_;refine wp_region_held_drew (S:=(fun s=>((s.cell? ⟨w.heap.size,0,Yb⟩=Ya (Yc A J c)/\s.cell? ⟨w.heap.size,1,Yb⟩=Ya (Yd Yf xn)/\s.cell? ⟨w.heap.size,2,Yb⟩=Ya (Yd Yf Z))/\(s.cell? ⟨cy,0,Yb⟩=Ya (Yd Yf W)/\s.cell? ⟨cy,1,Yb⟩=Ya (Yd Yf X))/\RatAt s cy W X)/\DoS w s b k (Yc A J c) xn Z (Yc B V d) yn yd zn zd v (ZaE Zl l m k))) (by kernel_rfl) HS (fun a=>?_);clear HS;refine tk 0 rfl ?_;refine tk 1 rfl ?_;refine tk 2 rfl ?_;refine tk 4 rfl ?_;(try simp only[cl,Act.put]);refine wpAnyH_ready (rs:=[3,9]) (by kernel_rfl) (by simp) (AllReadyH.cons (o:=_) rfl (fun K p=>?_) (AllReadyH.cons (o:=_) rfl (fun K p=>?_) AllReadyH.nil))
      rotate_left
      go_simp;refine p.out _ _ (Zm (below_alloc1 _ _) (by with_reducible assumption)) (fun f=>?_);clear p K
      (first|have C:=Lib.hid (Zaw f)|have C:=Lib.hid (Zam f))
      have j:=Lib.hid a;clear a;have a:=f;clear f;(try simp only[cl,Act.put]);refine rd 3 rfl fun K p=>?_
      rotate_right
      all_goals
       go_simp
       (first
        |(go_at_call 53;go_fit (N.out _ (Zan (by with_reducible assumption)).below);rintro e w6 ⟨rfl,t⟩;(try (have C:=Lib.hid (C.out.keep t))))
        |(go_at_call 52;go_fit (HW.out _);rintro e w7 ⟨rfl,t⟩;(try (have C:=Lib.hid (C.out.keep t)))))
       go_wp2_with fail;refine p.out _ _ (Zm (by with_reducible assumption) (by with_reducible assumption)) (fun f=>?_);clear p K a t;have a:=f;clear f;(try simp only[cl,Act.put])
      all_goals (try (have _:=C.out;refine rd 5 rfl fun K p=>?_))
      refine wpAnyH_ready (rs:=[5,9]) (by kernel_rfl) (by simp) (AllReadyH.cons (o:=_) rfl (fun K p=>?_) (AllReadyH.cons (o:=_) rfl (fun K p=>?_) AllReadyH.nil))
      rotate_left
      go_simp;refine p.out _ _ (Zm (below_alloc1 _ _) (by with_reducible assumption)) (fun f=>?_);clear p K
      (first|have C:=Lib.hid (Zaw f)|have C:=Lib.hid (Zam f))
      have j:=Lib.hid a;clear a;have a:=f;clear f;(try simp only[cl,Act.put]);refine rd 5 rfl fun K p=>?_
      rotate_right
      all_goals
       go_simp
       (first
        |(go_at_call 53;go_fit (N.out _ (Zan (by with_reducible assumption)).below);rintro e w6 ⟨rfl,t⟩;(try (have C:=Lib.hid (C.out.keep t))))
        |(go_at_call 52;go_fit (HW.out _);rintro e w7 ⟨rfl,t⟩;(try (have C:=Lib.hid (C.out.keep t)))))
       go_wp2_with fail;refine p.out _ _ (Zm (by with_reducible assumption) (by with_reducible assumption)) (fun f=>?_);clear p K a t;have a:=f;clear f;(try simp only[cl,Act.put])
      all_goals
       refine tk 6 rfl ?_;refine tk 7 rfl ?_;refine tk 8 rfl ?_;(try simp only[cl,Act.put])
      refine rd 9 rfl fun K p=>?_;go_simp;refine p.out _ _ (Zm (below_alloc1 _ _) (by with_reducible assumption)) (fun f=>?_);clear p K
      (first|have C:=Lib.hid (Zaw f)|have C:=Lib.hid (Zam f))
      have j:=Lib.hid a;clear a;have a:=f;clear f;(try simp only[cl,Act.put])
      all_goals
       refine rd 10 rfl fun K p=>?_;obtain⟨h6,h0,h1,h2,h3,h4,h5⟩:=C.out;clear h6;go_simp;clear h0 h1 h2 h3 h4 h5
       (first
        |refine p.out _ _ (Zm (below_alloc1 _ _) j.out) (fun f=>?_)
        |refine p.out _ _ (Zm (C.out.fill _ _).1 j.out) (fun f=>?_))
       clear p K a;have a:=f;clear f;(try simp only[cl,Act.put]);refine tk 11 rfl ?_;(try simp only[cl,Act.put]);refine wpAnyH_done (by kernel_rfl) ?_ _;refine NoPanic.normal ?_;go_wp2_with fail;go_meet
       case rel=>first|exact Zcj (Zan j.out) 23|exact ZcC (Zan j.out) C.out
     case rest=>
      obtain⟨cc,rfl,rfl,RC,H⟩:=hcut;clear I m1 m2 k0 m0 RC;have k0:=H.E.k0;have k1:=H.E.k1;have k2:=H.E.k2;have l0:=H.E.l0;have l1:=H.E.l1;have l2:=H.E.l2;have b1:=Lib.hid H.below;clear H;go_wp2_with fail;obtain⟨c0,c1,c2⟩:=Zag (x:=Yc Yb 0 0) (y:=Yd Yf 0) (z:=Yd Yf 0) k0 k1 k2;refine bodyPost_ret (v:=.tuple #[.agg #[Yc Yb 0 0,Yd Yf 0,Yd Yf 0],Yd Yf 3]) (by simp[results,Tryz.results33,go_sem,c0,c1,c2]) rfl ⟨_,rfl,Za.nil _,?_,Zp.none_ _ _ _⟩;exact((b1.out.setCell (by show w.heap.size<=w.heap.size+1+1;omega) _).setCell (by show w.heap.size<=w.heap.size+1+1;omega) _).setCell (by show w.heap.size<=w.heap.size+1+1;omega) _
    ·have bu:decide ((k:Int)<(J:Int))=false:=decide_eq_false (by omega);have bv:¬(k:Int)<(J:Int):=by omega
     have bw:decide (k<J)=false:=decide_eq_false (by omega);have c6:J<=k:=by omega
     have c7:decide (k<V)=true:=decide_eq_true (by have:=HN.out.1;omega);have cx:decide ((k:Int)<(V:Int))=true:=decide_eq_true (by have:=HN.out.1;omega);have cz:(k:Int)<(V:Int):=by have:=HN.out.1;omega
     have Q:=fun(s:Yh) (t:Below w.heap.size w s)=>ZaV s (Yc A J c) l xn Z k (TS.out.1.below t);have R:=fun(s:Yh) (t:Below w.heap.size w s)=>ZaV s (Yc B V d) m yn yd k (TS.out.2.below t);have hw:=fun(s:Yh)=>am.out s k;rw[HH.out k Y]at hw;have N:=Lib.hid Q;have al:=Lib.hid R;have HW:=Lib.hid hw;have P:=Lib.hid ae;have HK:=Lib.hid hg;have I:=Lib.hid D;have m1:=D.G.k1;have m2:=D.G.k2;clear Q R hw D ao Y hg a6 hk ae;generalize atL l k=x at *;generalize atL m k=y at *;obtain⟨x1,x2⟩:=x;obtain⟨W,X⟩:=y;dsimp only at *;go_upto_region 13 with(go_at_call 53;go_fit (al.out _ I.out.below);rintro e w5 ⟨rfl,t⟩;have I:=Lib.hid (I.out.keep t);clear t)
     go_cut [13,14]from 39 to 78 (fun aq ar wx=>ZcS w b k (Yc A J c) xn Z (Yc B V d) yn yd zn zd v (ZaE Zl l m k) 0 0 3 aq ar wx)
     case first=>
      have HS:=Zm (Zn _) ((I.out.keep (below_alloc1 w5 (Yg #[Yd Yf W,Yd Yf X] 23))).cells (RatAt.start w5 W X 23));generalize w5.heap.size=cy at *;generalize w5.alloc (Yg #[Yd Yf W,Yd Yf X] 23)=wq at *;clear I m1 m2 k0 m0;refine wp_region_noPanic ?_;refine wp_region_held_drew (S:=(fun s=>((s.cell? ⟨w.heap.size,0,Yb⟩=Ya (Yc A J c)/\s.cell? ⟨w.heap.size,1,Yb⟩=Ya (Yd Yf xn)/\s.cell? ⟨w.heap.size,2,Yb⟩=Ya (Yd Yf Z))/\(s.cell? ⟨cy,0,Yb⟩=Ya (Yd Yf W)/\s.cell? ⟨cy,1,Yb⟩=Ya (Yd Yf X))/\RatAt s cy W X)/\DoS w s b k (Yc A J c) xn Z (Yc B V d) yn yd zn zd v (ZaE Zl l m k))) (by kernel_rfl) HS (fun a=>?_);clear HS;refine tk 0 rfl ?_;refine tk 1 rfl ?_;refine tk 2 rfl ?_;refine tk 4 rfl ?_;(try simp only[cl,Act.put]);refine wpAnyH_ready (rs:=[3,9]) (by kernel_rfl) (by simp) (AllReadyH.cons (o:=_) rfl (fun K p=>?_) (AllReadyH.cons (o:=_) rfl (fun K p=>?_) AllReadyH.nil))
      rotate_left
      go_simp;refine p.out _ _ (Zm (below_alloc1 _ _) (by with_reducible assumption)) (fun f=>?_);clear p K
      (first|have C:=Lib.hid (Zaw f)|have C:=Lib.hid (Zam f))
      have j:=Lib.hid a;clear a;have a:=f;clear f;(try simp only[cl,Act.put]);refine rd 3 rfl fun K p=>?_
      rotate_right
      all_goals
       go_simp
       (first
        |(go_at_call 53;go_fit (N.out _ (Zan (by with_reducible assumption)).below);rintro e w6 ⟨rfl,t⟩;(try (have C:=Lib.hid (C.out.keep t))))
        |(go_at_call 52;go_fit (HW.out _);rintro e w7 ⟨rfl,t⟩;(try (have C:=Lib.hid (C.out.keep t)))))
       go_wp2_with fail;refine p.out _ _ (Zm (by with_reducible assumption) (by with_reducible assumption)) (fun f=>?_);clear p K a t;have a:=f;clear f;(try simp only[cl,Act.put])
      all_goals (try (have _:=C.out;refine rd 5 rfl fun K p=>?_))
      refine wpAnyH_ready (rs:=[5,9]) (by kernel_rfl) (by simp) (AllReadyH.cons (o:=_) rfl (fun K p=>?_) (AllReadyH.cons (o:=_) rfl (fun K p=>?_) AllReadyH.nil))
      rotate_left
      go_simp;refine p.out _ _ (Zm (below_alloc1 _ _) (by with_reducible assumption)) (fun f=>?_);clear p K
      (first|have C:=Lib.hid (Zaw f)|have C:=Lib.hid (Zam f))
      have j:=Lib.hid a;clear a;have a:=f;clear f;(try simp only[cl,Act.put]);refine rd 5 rfl fun K p=>?_
      rotate_right
      all_goals
       go_simp
       (first
        |(go_at_call 53;go_fit (N.out _ (Zan (by with_reducible assumption)).below);rintro e w6 ⟨rfl,t⟩;(try (have C:=Lib.hid (C.out.keep t))))
        |(go_at_call 52;go_fit (HW.out _);rintro e w7 ⟨rfl,t⟩;(try (have C:=Lib.hid (C.out.keep t)))))
       go_wp2_with fail;refine p.out _ _ (Zm (by with_reducible assumption) (by with_reducible assumption)) (fun f=>?_);clear p K a t;have a:=f;clear f;(try simp only[cl,Act.put])
      all_goals
       refine tk 6 rfl ?_;refine tk 7 rfl ?_;refine tk 8 rfl ?_;(try simp only[cl,Act.put])
      refine rd 9 rfl fun K p=>?_;go_simp;refine p.out _ _ (Zm (below_alloc1 _ _) (by with_reducible assumption)) (fun f=>?_);clear p K
      (first|have C:=Lib.hid (Zaw f)|have C:=Lib.hid (Zam f))
      have j:=Lib.hid a;clear a;have a:=f;clear f;(try simp only[cl,Act.put])
      all_goals
       refine rd 10 rfl fun K p=>?_;obtain⟨h6,h0,h1,h2,h3,h4,h5⟩:=C.out;clear h6;go_simp;clear h0 h1 h2 h3 h4 h5
       (first
        |refine p.out _ _ (Zm (below_alloc1 _ _) j.out) (fun f=>?_)
        |refine p.out _ _ (Zm (C.out.fill _ _).1 j.out) (fun f=>?_))
       clear p K a;have a:=f;clear f;(try simp only[cl,Act.put]);refine tk 11 rfl ?_;(try simp only[cl,Act.put]);refine wpAnyH_done (by kernel_rfl) ?_ _;refine NoPanic.normal ?_;go_wp2_with fail;go_meet
       case rel=>first|exact Zcj (Zan j.out) 23|exact ZcC (Zan j.out) C.out
     case rest=>
      obtain⟨cc,rfl,rfl,RC,H⟩:=hcut;clear I m1 m2 k0 m0 RC;have k0:=H.E.k0;have k1:=H.E.k1;have k2:=H.E.k2;have l0:=H.E.l0;have l1:=H.E.l1;have l2:=H.E.l2;have b1:=Lib.hid H.below;clear H;go_wp2_with fail;obtain⟨c0,c1,c2⟩:=Zag (x:=Yc Yb 0 0) (y:=Yd Yf 0) (z:=Yd Yf 0) k0 k1 k2;refine bodyPost_ret (v:=.tuple #[.agg #[Yc Yb 0 0,Yd Yf 0,Yd Yf 0],Yd Yf 3]) (by simp[results,Tryz.results33,go_sem,c0,c1,c2]) rfl ⟨_,rfl,Za.nil _,?_,Zp.none_ _ _ _⟩;exact((b1.out.setCell (by show w.heap.size<=w.heap.size+1+1;omega) _).setCell (by show w.heap.size<=w.heap.size+1+1;omega) _).setCell (by show w.heap.size<=w.heap.size+1+1;omega) _
end Go.Proofs.YtbfnnolakggbfaaGreatDoor
