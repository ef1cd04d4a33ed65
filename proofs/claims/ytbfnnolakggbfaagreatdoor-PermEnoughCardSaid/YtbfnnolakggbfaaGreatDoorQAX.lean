import Derived.Deep.DeepFit
import Derived.Test.YtbfnnolakggbfaaGreatDoorQAW
set_option maxRecDepth 100000
set_option maxHeartbeats 8000000
open Option renaming some → Ya
open Go.Value renaming slice → Yc, int → Yd
open Go.IntKind renaming i64 → Yf
open Go renaming World → Yh
open Go.RowKit
namespace Go.Proofs.YtbfnnolakggbfaaGreatDoor
theorem Zoc (w:Yh) (t G:Value) (l m:List (Int×Int)) (b a:Int) (o:Za w t l) (P:Za w G m) (D:Zz l) (H:-9223372036854775808<=b) (I:b<=9223372036854775807) (J:-9223372036854775808<=a) (K:a<=9223372036854775807) (p:ZM l b a=false) :
  Calls Tryz.prog 129 #[.agg #[t,Yd Yf b,Yd Yf a],G] w fun r w'=>r=.returned (.tuple #[Zb (Zaa l m (b,a)).1.1 (Zaa l m (b,a)).1.2,Yd Yf (Zaa l m (b,a)).2])/\Below w.heap.size w w':=by
 have s:=fun(w':Yh) (h:Below w.heap.size w w')=>ZaN w' t l b a (o.below h) D H I J K;rw[p]at s;have j:=Zf3 (m:=m) (kx:=(b,a)) (l:=l) (fun g=>by rw[p]at g;cases g.1);generalize Zaa l m (b,a)=V at *;have k:=Lib.hid j;have L:=Lib.hid s;obtain⟨A,c,rfl⟩:=Zc o;obtain⟨B,d,rfl,N,C,O⟩:=P;unfold maxLen at C;clear s o D H I J K p j;generalize l.length=Q at *;generalize m.length=n at *;clear O N C;obtain⟨F,E,⟨u,z⟩,i⟩:=Zc7 w (Yc A Q c) (Yd Yf b) (Yd Yf a) 37 23;go_enter Tryz.func129,Tryz.ntmps129;go_wp2_with (go_at_call 51;go_fit (L.out _ i);rintro e T ⟨rfl,f⟩;have E:=E.keep f;have u:=Zo f (by simp) u;have z:=Zo f (by simp) z;have M:=i.trans (f.mono i.size);have R:=E.k0;have S:=E.k1);obtain⟨c0,c1⟩:=ZaF (x:=Yd Yf 0) (y:=Yd Yf 0) E.k0 E.k1;exact bodyPost_ret (v:=.tuple #[Zb 0 0,Yd Yf 2]) (by simp[results,Tryz.results129,go_sem,c0,c1]) rfl ⟨by rw[k.out],(M.setCell (by show w.heap.size<=w.heap.size+1;omega) _).setCell (by show w.heap.size<=w.heap.size+1;omega) _⟩
theorem Zob (w:Yh) (va vb:Value) (l m:List (Int×Int)) (t p:Int) (ha:Za w va l) (C:Za w vb m) (hl:Zz l) (hm:Zz m) (x1:-9223372036854775808<=t) (x2:t<=9223372036854775807) (x3:-9223372036854775808<=p) (x4:p<=9223372036854775807) (hr:ZM l t p=true) :
  Calls Tryz.prog 129 #[.agg #[va,Yd Yf t,Yd Yf p],vb] w fun r w'=>r=.returned (.tuple #[Zb (Zaa l m (t,p)).1.1 (Zaa l m (t,p)).1.2,Yd Yf (Zaa l m (t,p)).2])/\Below w.heap.size w w':=by
 obtain⟨h8,al,ox⟩:=Zaj hr hl x1 x2 x3 x4;have rt:=fun(w':Yh) (h:Below w.heap.size w w')=>ZaN w' va l t p (ha.below h) hl x1 x2 x3 x4;rw[hr]at rt;have RT:=Lib.hid rt;have bt:=Lib.hid al;have cp:=Lib.hid ox;have ec:=Lib.hid (fun x hx=>hm x (List.mem_of_mem_take hx):Zz (m.take 8));obtain⟨A,c,rfl,a2,a3,a4⟩:=ha;obtain⟨B,d,rfl,g2,g3,g4⟩:=id C;unfold maxLen at g3;obtain⟨n,hn⟩:∃n,n=min l.length m.length:=⟨_,rfl⟩
 have L:=Lib.hid (show n=min l.length m.length/\l.length<=8/\n<=8/\m.length<=9223372036854775807 from by omega);have G4:=Lib.hid a4;have B4:=Lib.hid g4;have LE:=Lib.hid (And.intro (fun(k:Nat) (h:k<l.length)=>(⟨_,Ym h⟩:∃x,l[k]? = Ya x)) (fun(k:Nat) (h:k<m.length)=>(⟨_,Ym h⟩:∃x,m[k]? = Ya x)));have HR:=Lib.hid hr;have bs:=Lib.hid hm;obtain⟨V,b6⟩:∃V,V=Zaa l m (t,p):=⟨_,rfl⟩
 rw[<-b6];have a7:=Lib.hid b6;obtain⟨j,hj⟩:∃j,j=min m.length 8:=⟨_,rfl⟩
 have JT:=Lib.hid (show(j=min m.length 8/\m.length<=9223372036854775807)/\m.take j=m.take 8 from⟨⟨hj,by omega⟩,by rw[hj,Zl7]⟩);have LM:=Lib.hid (And.intro (fun(I:Za6 (m.take 8)=true) (s:Int×Int) (e:ZaK l m (t,p) n=Ya s)=>Zmb (kx:=(t,p)) (l:=l) (m:=m) (s:=s) ⟨hr,I⟩ (by rw[<-hn];exact e)) (fun(I:Za6 (m.take 8)=true) (e:ZaK l m (t,p) n=none)=>ZkD (kx:=(t,p)) (l:=l) (m:=m) ⟨hr,I⟩ (by rw[<-hn];exact e)));clear rt al ox a2 a3 a4 g2 g3 g4 C hl hm x1 x2 x3 x4 hr h8 hn b6 hj;generalize l.length=D at *;generalize m.length=lm at *;by_cases dl:8<lm
 ·skip
  obtain⟨F,E,⟨f0,f1⟩,ax⟩:=Zc7 w (Yc A D c) (Yd Yf t) (Yd Yf p) 37 23;go_enter Tryz.func129,Tryz.ntmps129;go_upto_region 3 with(go_at_call 51;go_fit (RT.out _ ax);rintro e w1 ⟨rfl,bj⟩;have H0:=Lib.hid ((BoxV.mk F E f0 f1 ax).keep bj))
  clear F E f0 f1 ax bj;go_wp2_with fail;go_loopg [6] j (fun g v6 wr=>∃k:Nat,v6=Yd Yf k/\k<=j/\g=j-k/\Za6 (m.take k)=true/\BoxV w wr (Yc A D c) t p)
  case atStart=>exact⟨0,rfl,Nat.zero_le _,rfl,by rw[List.take_zero];rfl,H0.out⟩
  case round=>
   clear H0;obtain⟨k,rfl,hk,hg,z,H⟩:=hrel;by_cases bl:k=j
   ·subst bl;have I:Za6 (m.take 8)=true:=by rw[JT.out.2]at z;exact z
    have ve:=fun(s:Int×Int) (e:ZaK l m (t,p) n=Ya s)=>a7.out.trans (LM.out.1 I s e);have ov:=fun(e:ZaK l m (t,p) n=none)=>a7.out.trans (LM.out.2 I e);have VE:=Lib.hid ve;have OV:=Lib.hid ov;have ab:=Lib.hid (And.intro I bs.out);have k1:=H.F.k1;have k2:=H.F.k2;have HX:=Lib.hid H;obtain rfl:k=8:=by have:=JT.out;omega
    have x1:decide (8<lm)=true:=decide_eq_true dl;have x2:(8:Int)<(lm:Int):=by omega
    clear ve ov I z hk hg H;go_upto_region 9 with fail;clear k1 k2 x1 x2;have a1:=below_alloc1 wr (.cells #[Yd Yf t,Yd Yf p] 23);have e3:=HX.out.E.lt;have H1:=HX.out.keep a1;have V0:ValS w (wr.alloc (.cells #[Yd Yf t,Yd Yf p] 23)) wr.heap.size (Yc A D c) t p t p:=
     ⟨H1.F,H1.E,H1.e0,H1.e1,RatAt.start wr t p 23,by go_simp,by go_simp,e3,H1.below⟩
    have V0:=Lib.hid V0;obtain⟨w9,bo⟩:∃w9,w9=wr.alloc (.cells #[Yd Yf t,Yd Yf p] 23):=⟨_,rfl⟩
    rw[<-bo]at V0⊢;generalize wr.heap.size=b at *;clear a1 e3 H1 HX bo;go_wp2_with fail;go_loopg [8] n (fun g v8 wr=>∃(k:Nat) (s:Int×Int),v8=Yd Yf k/\k<=n/\g=n-k/\ZaK l m (t,p) k=Ya s/\ValS w wr b (Yc A D c) t p s.1 s.2)
    case atStart=>exact⟨0,(t,p),rfl,Nat.zero_le _,rfl,rfl,V0.out⟩
    case round=>
     clear V0;obtain⟨k,s,rfl,hk,hg,hs,H⟩:=hrel;by_cases bm:k=n
     ·subst bm;have HV:=Lib.hid (VE.out s hs);obtain⟨s1,s2⟩:=s;dsimp only at H;have z0:=H.S.k0;have z1:=H.S.k1;have e0:=H.E.k0;have e1:=H.E.k1;have f0:=H.e0;have f1:=H.e1;have k0:=H.F.k0;have HB:=Lib.hid H.below;clear hs hg hk H;by_cases bn:k<D
      ·have i1:(k:Int)<(D:Int):=by omega
       have i2:decide (k<D)=true:=decide_eq_true bn;have i3:decide (k<lm)=false:=decide_eq_false (by have:=L.out;omega);have i4:lm<=k:=by have:=L.out;omega
       go_wp2_with fail;obtain⟨c0,c1⟩:=ZaF (x:=Yd Yf s1) (y:=Yd Yf s2) e0 e1;exact bodyPost_ret (v:=.tuple #[Zb s1 s2,Yd Yf 0]) (by simp[results,Tryz.results129,go_sem,c0,c1]) rfl ⟨by rw[HV.out],(HB.out.setCell (by show w.heap.size<=w.heap.size+1;omega) _).setCell (by show w.heap.size<=w.heap.size+1;omega) _⟩
      ·have i2:decide (k<D)=false:=decide_eq_false bn;have i4:D<=k:=by omega
       go_wp2_with fail;obtain⟨c0,c1⟩:=ZaF (x:=Yd Yf s1) (y:=Yd Yf s2) e0 e1;exact bodyPost_ret (v:=.tuple #[Zb s1 s2,Yd Yf 0]) (by simp[results,Tryz.results129,go_sem,c0,c1]) rfl ⟨by rw[HV.out],(HB.out.setCell (by show w.heap.size<=w.heap.size+1;omega) _).setCell (by show w.heap.size<=w.heap.size+1;omega) _⟩
     ·have R:k<n:=by omega
      obtain⟨x,hx⟩:=LE.out.1 k (by have:=L.out;omega);obtain⟨y,hy⟩:=LE.out.2 k (by have:=L.out;omega);obtain⟨ad,rfl,d1,d3⟩:=Zbc G4.out H.below hx (by have:=L.out;omega);obtain⟨bd,rfl,t1,t3⟩:=Zbc B4.out H.below hy (by have:=L.out;omega);have U:OkR (atL l k):=bt.out.at k;have W:OkR (atL m k):=ZgC ab.out.1 ab.out.2 (by have:=L.out;omega);have ex:atL l k=x:=ZcV hx;have ey:atL m k=y:=ZcV hy;have az:OkR s:=ZiK bt.out ab.out.1 ab.out.2 cp.out k s (by have:=L.out;omega) hs;have T:=fun(w':Yh)=>Zd2 w' (atL l k) (atL m k) U W;have Y:=Zb6.no (atL l k) (atL m k) U W;have J:=@Zhr l m (t,p) s k hs;have st:=@Zhs l m (t,p) s k hs;have P:=fun(w':Yh) (h:(ZP (atL l k) (atL m k)).2=0)=>Zdu w' s (ZP (atL l k) (atL m k)).1 az (Zb6.ok _ _ U W h);have Q:=fun(h:(ZP (atL l k) (atL m k)).2=0)=>Zbi.no s (ZP (atL l k) (atL m k)).1 az (Zb6.ok _ _ U W h);rw[ex,ey]at T J st P Y Q;obtain⟨p1,p2⟩:=x;obtain⟨q1,q2⟩:=y;obtain⟨s1,s2⟩:=s;dsimp only at T d1 d3 t1 t3 H P J st Y Q;have HS:=ZaS (A:=True) (Zn _) (And.intro (And.intro trivial (And.intro (And.intro d1 d3) (And.intro t1 t3))) H);generalize ZP (p1,p2) (q1,q2)=M at *;obtain⟨⟨m1,m2⟩,me⟩:=M;dsimp only at T P J st Y Q;have HM:=Lib.hid T;have NX:=Lib.hid J;have ST:=Lib.hid st;have AD:=Lib.hid P;have O:=Lib.hid R;have HG:=Lib.hid hg;have au:=Lib.hid Y;have aq:=Lib.hid Q;have i1:(k:Int)<(D:Int):=by have:=L.out;omega
      have i2:(0:Int)<=(k:Int):=by omega
      have i3:(k:Int)<(lm:Int):=by have:=L.out;omega
      have g1:decide (k<D)=true:=decide_eq_true (by have:=L.out;omega);have g3:decide (k<lm)=true:=decide_eq_true (by have:=L.out;omega);have k0:=H.F.k0;clear hx hy U W ex ey az T J st P hs R hg hk bm Y Q;go_upto_region 12 with fail;clear k0 d1 d3 t1 t3;go_cut [9,10]from 34 to 73 (fun v8 v9 wx=>ZgY w b (Yc (Ya ad) D c) t p s1 s2 m1 m2 me v8 v9 wx)
      case first=>
       clear H;refine wp_region_noPanic ?_;refine wp_region_held_drew (S:=(fun w'=>(w'.cell? ⟨w.heap.size,0,none⟩=Ya (Yc (Ya ad) D c)/\(w'.cell? (ad.add (k*2))=Ya (Yd Yf p1)/\w'.cell? ⟨(ad.add (k*2)).block,(ad.add (k*2)).off+1,none⟩=Ya (Yd Yf p2))/\(w'.cell? (bd.add (k*2))=Ya (Yd Yf q1)/\w'.cell? ⟨(bd.add (k*2)).block,(bd.add (k*2)).off+1,none⟩=Ya (Yd Yf q2)))/\ValS w w' b (Yc (Ya ad) D c) t p s1 s2)) (by kernel_rfl) HS (fun a=>?_);clear HS;refine tk 0 rfl ?_;refine tk 1 rfl ?_;refine tk 2 rfl ?_;refine tk 3 rfl ?_;refine tk 4 rfl ?_;refine tk 5 rfl ?_;refine tk 6 rfl ?_;refine tk 7 rfl ?_;refine tk 8 rfl ?_;(try simp only[cl,Act.put]);refine wpAnyH_ready (rs:=[9,13]) (by kernel_rfl) (by simp) (AllReadyH.cons (o:=_) rfl (fun K G=>?_) (AllReadyH.cons (o:=_) rfl (fun K G=>?_) AllReadyH.nil))
       rotate_left
       go_simp;refine G.out _ _ (ZaS (below_alloc1 _ _) (by with_reducible assumption)) (fun f=>?_);clear G K
       (first|have HC:=Lib.hid (Zea f)|have HC:=Lib.hid (Zdy f))
       have i:=Lib.hid a;clear a;have a:=f;clear f;(try simp only[cl,Act.put]);refine rd 9 rfl fun K G=>?_
       rotate_right
       all_goals
        go_simp;(go_at_call 52;go_fit (HM.out _);rintro e w6 ⟨rfl,C⟩;(try (have HC:=Lib.hid (HC.out.keep C))));go_wp2_with fail;refine G.out _ _ (ZaS (by with_reducible assumption) (by with_reducible assumption)) (fun f=>?_);clear G K a C;have a:=f;clear f;(try simp only[cl,Act.put])
       all_goals
        refine tk 10 rfl ?_;refine tk 11 rfl ?_;refine tk 12 rfl ?_;(try simp only[cl,Act.put])
       refine rd 13 rfl fun K G=>?_;go_simp;refine G.out _ _ (ZaS (below_alloc1 _ _) (by with_reducible assumption)) (fun f=>?_);clear G K
       (first|have HC:=Lib.hid (Zea f)|have HC:=Lib.hid (Zdy f))
       have i:=Lib.hid a;clear a;have a:=f;clear f;(try simp only[cl,Act.put])
       all_goals
        refine rd 14 rfl fun K G=>?_;obtain⟨h6,h0,h1,h2,h3,h4,h5⟩:=HC.out;clear h6;go_simp;clear h0 h1 h2 h3 h4 h5
        (first
         |refine G.out _ _ (ZaS (below_alloc1 _ _) i.out) (fun f=>?_)
         |refine G.out _ _ (ZaS (HC.out.fill _ _).1 i.out) (fun f=>?_))
        clear G K a;have a:=f;clear f;(try simp only[cl,Act.put]);refine tk 15 rfl ?_;(try simp only[cl,Act.put]);refine wpAnyH_done (by kernel_rfl) ?_ _;refine NoPanic.normal ?_;go_wp2_with fail;go_meet
        case rel=>first|exact ZgI (ZeQ i.out) 23|exact ZhC (ZeQ i.out) HC.out
      case rest=>
       obtain⟨cc,rfl,rfl,RC,Z⟩:=hcut;clear H HS;have B2:=Lib.hid Z.below;by_cases ac:me=0
       ·subst ac;have a2:=fun(w':Yh)=>AD.out w' rfl;have k0:=RC.k0;have k1:=RC.k1;have z0:=Z.S.k0;have z1:=Z.S.k1;have J:=NX.out rfl;have st:=ST.out;have an:=aq.out rfl;generalize Zl (s1,s2) (m1,m2)=N at *;obtain⟨⟨n1,n2⟩,ne⟩:=N;dsimp only at a2 J st an;have A2:=Lib.hid a2;have NX:=Lib.hid J;have ST:=Lib.hid st;have AN:=Lib.hid an;clear a2 J st AD an aq au;by_cases ae:ne=0
        ·subst ae;have b5:Hid (ZaK l m (t,p) (k+1)=Ya (n1,n2)):=NX.out rfl;have wk:IntKind.i64.wrap ((k:Int)+1)=(k:Int)+1:=IntWalk.i64_in _ (by have:=L.out;have:=O.out;omega);go_wp2_with (go_at_call 52;go_fit (A2.out _);rintro e w7 ⟨rfl,C⟩;have u:=Z.keep C;have z0:=u.S.k0;have z1:=u.S.k1;have y0:=u.s0;have y1:=u.s1;have u:=Lib.hid u;clear C);go_roundg (n-(k+1))
         case measure=>have:=HG.out;have:=O.out;omega
         case rel=>exact⟨k+1,(n1,n2),by push_cast;rfl,by have:=O.out;omega,rfl,b5.out,u.out.store n1 n2⟩
        ·have HV:Hid (V=((0,0),3)):=OV.out (Zc6 (ST.out (fun g=>ae g.2)) _ (by have:=O.out;omega));have hN:=AN.out ae;have a2:=A2.out;obtain⟨⟨rfl,rfl⟩,rfl⟩:(n1=0/\n2=0)/\ne=3:=by simpa using hN
         clear A2 NX ST AN ae hN;have A2:=Lib.hid a2;clear a2;go_wp2_with (go_at_call 52;go_fit (A2.out _);rintro e w7 ⟨rfl,C⟩;have u:=Z.keep C;have z0:=u.S.k0;have z1:=u.S.k1;have y0:=u.s0;have y1:=u.s1;have H4:=u.store 0 0;have e0:=H4.E.k0;have e1:=H4.E.k1;have f0:=H4.e0;have f1:=H4.e1;have H4:=Lib.hid H4;clear C u);obtain⟨c0,c1⟩:=ZaF (x:=Yd Yf 0) (y:=Yd Yf 0) e0 e1;exact bodyPost_ret (v:=.tuple #[Zb 0 0,Yd Yf 3]) (by simp[results,Tryz.results129,go_sem,c0,c1]) rfl ⟨by rw[HV.out],(H4.out.below.setCell (by show w.heap.size<=w.heap.size+1;omega) _).setCell (by show w.heap.size<=w.heap.size+1;omega) _⟩
       ·have HV:Hid (V=((0,0),3)):=OV.out (Zc6 (ST.out (fun g=>ac g.1)) _ (by have:=O.out;omega));have hN:=au.out ac;obtain⟨⟨rfl,rfl⟩,rfl⟩:(m1=0/\m2=0)/\me=3:=by simpa using hN
        have e0:=Z.E.k0;have e1:=Z.E.k1;have f0:=Z.e0;have f1:=Z.e1;clear AD NX ST aq au ac hN HM RC Z;go_wp2_with fail;obtain⟨c0,c1⟩:=ZaF (x:=Yd Yf 0) (y:=Yd Yf 0) e0 e1;exact bodyPost_ret (v:=.tuple #[Zb 0 0,Yd Yf 3]) (by simp[results,Tryz.results129,go_sem,c0,c1]) rfl ⟨by rw[HV.out],(B2.out.setCell (by show w.heap.size<=w.heap.size+1;omega) _).setCell (by show w.heap.size<=w.heap.size+1;omega) _⟩
   ·have R:k<j:=by omega
    obtain⟨y,hy⟩:=LE.out.2 k (by have:=JT.out;omega);obtain⟨bd,rfl,t1,t3⟩:=Zbc B4.out H.below hy (by have:=JT.out;omega);have X:=bs.out y (List.mem_of_getElem? hy);have rr:=fun(w':Yh)=>ZaC y.1 y.2 w' X.1.1 X.1.2 X.2.1 X.2.2;have J:=Zfb hy z;have bp:(m.take 8)[k]? = Ya y:=by rw[List.getElem?_take,Yo (by have:=JT.out;omega)];exact hy
    have aw:=@Zga (m.take 8) k y bp;have i1:(k:Int)<(lm:Int):=by have:=JT.out;omega
    have i2:(0:Int)<=(k:Int):=by omega
    have i3:decide (k<lm)=true:=decide_eq_true (by have:=JT.out;omega);have i4:(k:Int)<8:=by have:=JT.out;omega
    have i5:decide (k<8)=true:=decide_eq_true (by have:=JT.out;omega);have wk:IntKind.i64.wrap ((k:Int)+1)=(k:Int)+1:=IntWalk.i64_in _ (by have:=JT.out;omega);obtain⟨y1,y2⟩:=y;dsimp only at rr J t1 t3 aw;have HX:=Lib.hid H;have HG:=Lib.hid (And.intro R hg);generalize Zaf y1 y2=rb at *;have RR:=Lib.hid rr;have NX:=Lib.hid J;have b0:=Lib.hid aw;clear rr J aw hy bp X z hk hg bl R H;cases rb
    ·have HV:Hid (V=((0,0),2)):=a7.out.trans (Zf3 (fun g=>by rw[b0.out rfl]at g;cases g.2));go_wp2_with (go_at_call 37;go_fit (RR.out _);rintro e w3 ⟨rfl,C⟩;have u:=HX.out.keep C;have e0:=u.E.k0;have e1:=u.E.k1;have f0:=u.e0;have f1:=u.e1;have B3:=Lib.hid u.below;clear u C);obtain⟨c0,c1⟩:=ZaF (x:=Yd Yf 0) (y:=Yd Yf 0) e0 e1;exact bodyPost_ret (v:=.tuple #[Zb 0 0,Yd Yf 2]) (by simp[results,Tryz.results129,go_sem,c0,c1]) rfl ⟨by rw[HV.out],(B3.out.setCell (by show w.heap.size<=w.heap.size+1;omega) _).setCell (by show w.heap.size<=w.heap.size+1;omega) _⟩
    ·go_wp2_with (go_at_call 37;go_fit (RR.out _);rintro e w3 ⟨rfl,C⟩;have u:=Lib.hid (HX.out.keep C);clear C);go_roundg (j-(k+1))
     case measure=>have:=HG.out;omega
     case rel=>exact⟨k+1,by push_cast;rfl,by have:=HG.out;omega,rfl,NX.out,u.out⟩
 ·skip
  obtain⟨F,E,⟨f0,f1⟩,ax⟩:=Zc7 w (Yc A D c) (Yd Yf t) (Yd Yf p) 37 23;go_enter Tryz.func129,Tryz.ntmps129;go_upto_region 3 with(go_at_call 51;go_fit (RT.out _ ax);rintro e w1 ⟨rfl,bj⟩;have H0:=Lib.hid ((BoxV.mk F E f0 f1 ax).keep bj))
  clear F E f0 f1 ax bj;go_wp2_with fail;go_loopg [6] j (fun g v6 wr=>∃k:Nat,v6=Yd Yf k/\k<=j/\g=j-k/\Za6 (m.take k)=true/\BoxV w wr (Yc A D c) t p)
  case atStart=>exact⟨0,rfl,Nat.zero_le _,rfl,by rw[List.take_zero];rfl,H0.out⟩
  case round=>
   clear H0;obtain⟨k,rfl,hk,hg,z,H⟩:=hrel;by_cases bl:k=j
   ·subst bl;have I:Za6 (m.take 8)=true:=by rw[JT.out.2]at z;exact z
    have ve:=fun(s:Int×Int) (e:ZaK l m (t,p) n=Ya s)=>a7.out.trans (LM.out.1 I s e);have ov:=fun(e:ZaK l m (t,p) n=none)=>a7.out.trans (LM.out.2 I e);have VE:=Lib.hid ve;have OV:=Lib.hid ov;have ab:=Lib.hid (And.intro I bs.out);have k1:=H.F.k1;have k2:=H.F.k2;have HX:=Lib.hid H;have x1:decide (k<lm)=false:=decide_eq_false (by have:=JT.out;omega);have x2:lm<=k:=by have:=JT.out;omega
    clear ve ov I z hk hg H;go_upto_region 9 with fail;clear k1 k2 x1 x2;have a1:=below_alloc1 wr (.cells #[Yd Yf t,Yd Yf p] 23);have e3:=HX.out.E.lt;have H1:=HX.out.keep a1;have V0:ValS w (wr.alloc (.cells #[Yd Yf t,Yd Yf p] 23)) wr.heap.size (Yc A D c) t p t p:=
     ⟨H1.F,H1.E,H1.e0,H1.e1,RatAt.start wr t p 23,by go_simp,by go_simp,e3,H1.below⟩
    have V0:=Lib.hid V0;obtain⟨w9,bo⟩:∃w9,w9=wr.alloc (.cells #[Yd Yf t,Yd Yf p] 23):=⟨_,rfl⟩
    rw[<-bo]at V0⊢;generalize wr.heap.size=b at *;clear a1 e3 H1 HX bo;go_wp2_with fail;go_loopg [8] n (fun g v8 wr=>∃(k:Nat) (s:Int×Int),v8=Yd Yf k/\k<=n/\g=n-k/\ZaK l m (t,p) k=Ya s/\ValS w wr b (Yc A D c) t p s.1 s.2)
    case atStart=>exact⟨0,(t,p),rfl,Nat.zero_le _,rfl,rfl,V0.out⟩
    case round=>
     clear V0;obtain⟨k,s,rfl,hk,hg,hs,H⟩:=hrel;by_cases bm:k=n
     ·subst bm;have HV:=Lib.hid (VE.out s hs);obtain⟨s1,s2⟩:=s;dsimp only at H;have z0:=H.S.k0;have z1:=H.S.k1;have e0:=H.E.k0;have e1:=H.E.k1;have f0:=H.e0;have f1:=H.e1;have k0:=H.F.k0;have HB:=Lib.hid H.below;clear hs hg hk H;by_cases bn:k<D
      ·have i1:(k:Int)<(D:Int):=by omega
       have i2:decide (k<D)=true:=decide_eq_true bn;have i3:decide (k<lm)=false:=decide_eq_false (by have:=L.out;omega);have i4:lm<=k:=by have:=L.out;omega
       go_wp2_with fail;obtain⟨c0,c1⟩:=ZaF (x:=Yd Yf s1) (y:=Yd Yf s2) e0 e1;exact bodyPost_ret (v:=.tuple #[Zb s1 s2,Yd Yf 0]) (by simp[results,Tryz.results129,go_sem,c0,c1]) rfl ⟨by rw[HV.out],(HB.out.setCell (by show w.heap.size<=w.heap.size+1;omega) _).setCell (by show w.heap.size<=w.heap.size+1;omega) _⟩
      ·have i2:decide (k<D)=false:=decide_eq_false bn;have i4:D<=k:=by omega
       go_wp2_with fail;obtain⟨c0,c1⟩:=ZaF (x:=Yd Yf s1) (y:=Yd Yf s2) e0 e1;exact bodyPost_ret (v:=.tuple #[Zb s1 s2,Yd Yf 0]) (by simp[results,Tryz.results129,go_sem,c0,c1]) rfl ⟨by rw[HV.out],(HB.out.setCell (by show w.heap.size<=w.heap.size+1;omega) _).setCell (by show w.heap.size<=w.heap.size+1;omega) _⟩
     ·have R:k<n:=by omega
      obtain⟨x,hx⟩:=LE.out.1 k (by have:=L.out;omega);obtain⟨y,hy⟩:=LE.out.2 k (by have:=L.out;omega);obtain⟨ad,rfl,d1,d3⟩:=Zbc G4.out H.below hx (by have:=L.out;omega);obtain⟨bd,rfl,t1,t3⟩:=Zbc B4.out H.below hy (by have:=L.out;omega);have U:OkR (atL l k):=bt.out.at k;have W:OkR (atL m k):=ZgC ab.out.1 ab.out.2 (by have:=L.out;omega);have ex:atL l k=x:=ZcV hx;have ey:atL m k=y:=ZcV hy;have az:OkR s:=ZiK bt.out ab.out.1 ab.out.2 cp.out k s (by have:=L.out;omega) hs;have T:=fun(w':Yh)=>Zd2 w' (atL l k) (atL m k) U W;have Y:=Zb6.no (atL l k) (atL m k) U W;have J:=@Zhr l m (t,p) s k hs;have st:=@Zhs l m (t,p) s k hs;have P:=fun(w':Yh) (h:(ZP (atL l k) (atL m k)).2=0)=>Zdu w' s (ZP (atL l k) (atL m k)).1 az (Zb6.ok _ _ U W h);have Q:=fun(h:(ZP (atL l k) (atL m k)).2=0)=>Zbi.no s (ZP (atL l k) (atL m k)).1 az (Zb6.ok _ _ U W h);rw[ex,ey]at T J st P Y Q;obtain⟨p1,p2⟩:=x;obtain⟨q1,q2⟩:=y;obtain⟨s1,s2⟩:=s;dsimp only at T d1 d3 t1 t3 H P J st Y Q;have HS:=ZaS (A:=True) (Zn _) (And.intro (And.intro trivial (And.intro (And.intro d1 d3) (And.intro t1 t3))) H);generalize ZP (p1,p2) (q1,q2)=M at *;obtain⟨⟨m1,m2⟩,me⟩:=M;dsimp only at T P J st Y Q;have HM:=Lib.hid T;have NX:=Lib.hid J;have ST:=Lib.hid st;have AD:=Lib.hid P;have O:=Lib.hid R;have HG:=Lib.hid hg;have au:=Lib.hid Y;have aq:=Lib.hid Q;have i1:(k:Int)<(D:Int):=by have:=L.out;omega
      have i2:(0:Int)<=(k:Int):=by omega
      have i3:(k:Int)<(lm:Int):=by have:=L.out;omega
      have g1:decide (k<D)=true:=decide_eq_true (by have:=L.out;omega);have g3:decide (k<lm)=true:=decide_eq_true (by have:=L.out;omega);have k0:=H.F.k0;clear hx hy U W ex ey az T J st P hs R hg hk bm Y Q;go_upto_region 12 with fail;clear k0 d1 d3 t1 t3;go_cut [9,10]from 34 to 73 (fun v8 v9 wx=>ZgY w b (Yc (Ya ad) D c) t p s1 s2 m1 m2 me v8 v9 wx)
      case first=>
       clear H;refine wp_region_noPanic ?_;refine wp_region_held_drew (S:=(fun w'=>(w'.cell? ⟨w.heap.size,0,none⟩=Ya (Yc (Ya ad) D c)/\(w'.cell? (ad.add (k*2))=Ya (Yd Yf p1)/\w'.cell? ⟨(ad.add (k*2)).block,(ad.add (k*2)).off+1,none⟩=Ya (Yd Yf p2))/\(w'.cell? (bd.add (k*2))=Ya (Yd Yf q1)/\w'.cell? ⟨(bd.add (k*2)).block,(bd.add (k*2)).off+1,none⟩=Ya (Yd Yf q2)))/\ValS w w' b (Yc (Ya ad) D c) t p s1 s2)) (by kernel_rfl) HS (fun a=>?_);clear HS;refine tk 0 rfl ?_;refine tk 1 rfl ?_;refine tk 2 rfl ?_;refine tk 3 rfl ?_;refine tk 4 rfl ?_;refine tk 5 rfl ?_;refine tk 6 rfl ?_;refine tk 7 rfl ?_;refine tk 8 rfl ?_;(try simp only[cl,Act.put]);refine wpAnyH_ready (rs:=[9,13]) (by kernel_rfl) (by simp) (AllReadyH.cons (o:=_) rfl (fun K G=>?_) (AllReadyH.cons (o:=_) rfl (fun K G=>?_) AllReadyH.nil))
       rotate_left
       go_simp;refine G.out _ _ (ZaS (below_alloc1 _ _) (by with_reducible assumption)) (fun f=>?_);clear G K
       (first|have HC:=Lib.hid (Zea f)|have HC:=Lib.hid (Zdy f))
       have i:=Lib.hid a;clear a;have a:=f;clear f;(try simp only[cl,Act.put]);refine rd 9 rfl fun K G=>?_
       rotate_right
       all_goals
        go_simp;(go_at_call 52;go_fit (HM.out _);rintro e w6 ⟨rfl,C⟩;(try (have HC:=Lib.hid (HC.out.keep C))));go_wp2_with fail;refine G.out _ _ (ZaS (by with_reducible assumption) (by with_reducible assumption)) (fun f=>?_);clear G K a C;have a:=f;clear f;(try simp only[cl,Act.put])
       all_goals
        refine tk 10 rfl ?_;refine tk 11 rfl ?_;refine tk 12 rfl ?_;(try simp only[cl,Act.put])
       refine rd 13 rfl fun K G=>?_;go_simp;refine G.out _ _ (ZaS (below_alloc1 _ _) (by with_reducible assumption)) (fun f=>?_);clear G K
       (first|have HC:=Lib.hid (Zea f)|have HC:=Lib.hid (Zdy f))
       have i:=Lib.hid a;clear a;have a:=f;clear f;(try simp only[cl,Act.put])
       all_goals
        refine rd 14 rfl fun K G=>?_;obtain⟨h6,h0,h1,h2,h3,h4,h5⟩:=HC.out;clear h6;go_simp;clear h0 h1 h2 h3 h4 h5
        (first
         |refine G.out _ _ (ZaS (below_alloc1 _ _) i.out) (fun f=>?_)
         |refine G.out _ _ (ZaS (HC.out.fill _ _).1 i.out) (fun f=>?_))
        clear G K a;have a:=f;clear f;(try simp only[cl,Act.put]);refine tk 15 rfl ?_;(try simp only[cl,Act.put]);refine wpAnyH_done (by kernel_rfl) ?_ _;refine NoPanic.normal ?_;go_wp2_with fail;go_meet
        case rel=>first|exact ZgI (ZeQ i.out) 23|exact ZhC (ZeQ i.out) HC.out
      case rest=>
       obtain⟨cc,rfl,rfl,RC,Z⟩:=hcut;clear H HS;have B2:=Lib.hid Z.below;by_cases ac:me=0
       ·subst ac;have a2:=fun(w':Yh)=>AD.out w' rfl;have k0:=RC.k0;have k1:=RC.k1;have z0:=Z.S.k0;have z1:=Z.S.k1;have J:=NX.out rfl;have st:=ST.out;have an:=aq.out rfl;generalize Zl (s1,s2) (m1,m2)=N at *;obtain⟨⟨n1,n2⟩,ne⟩:=N;dsimp only at a2 J st an;have A2:=Lib.hid a2;have NX:=Lib.hid J;have ST:=Lib.hid st;have AN:=Lib.hid an;clear a2 J st AD an aq au;by_cases ae:ne=0
        ·subst ae;have b5:Hid (ZaK l m (t,p) (k+1)=Ya (n1,n2)):=NX.out rfl;have wk:IntKind.i64.wrap ((k:Int)+1)=(k:Int)+1:=IntWalk.i64_in _ (by have:=L.out;have:=O.out;omega);go_wp2_with (go_at_call 52;go_fit (A2.out _);rintro e w7 ⟨rfl,C⟩;have u:=Z.keep C;have z0:=u.S.k0;have z1:=u.S.k1;have y0:=u.s0;have y1:=u.s1;have u:=Lib.hid u;clear C);go_roundg (n-(k+1))
         case measure=>have:=HG.out;have:=O.out;omega
         case rel=>exact⟨k+1,(n1,n2),by push_cast;rfl,by have:=O.out;omega,rfl,b5.out,u.out.store n1 n2⟩
        ·have HV:Hid (V=((0,0),3)):=OV.out (Zc6 (ST.out (fun g=>ae g.2)) _ (by have:=O.out;omega));have hN:=AN.out ae;have a2:=A2.out;obtain⟨⟨rfl,rfl⟩,rfl⟩:(n1=0/\n2=0)/\ne=3:=by simpa using hN
         clear A2 NX ST AN ae hN;have A2:=Lib.hid a2;clear a2;go_wp2_with (go_at_call 52;go_fit (A2.out _);rintro e w7 ⟨rfl,C⟩;have u:=Z.keep C;have z0:=u.S.k0;have z1:=u.S.k1;have y0:=u.s0;have y1:=u.s1;have H4:=u.store 0 0;have e0:=H4.E.k0;have e1:=H4.E.k1;have f0:=H4.e0;have f1:=H4.e1;have H4:=Lib.hid H4;clear C u);obtain⟨c0,c1⟩:=ZaF (x:=Yd Yf 0) (y:=Yd Yf 0) e0 e1;exact bodyPost_ret (v:=.tuple #[Zb 0 0,Yd Yf 3]) (by simp[results,Tryz.results129,go_sem,c0,c1]) rfl ⟨by rw[HV.out],(H4.out.below.setCell (by show w.heap.size<=w.heap.size+1;omega) _).setCell (by show w.heap.size<=w.heap.size+1;omega) _⟩
       ·have HV:Hid (V=((0,0),3)):=OV.out (Zc6 (ST.out (fun g=>ac g.1)) _ (by have:=O.out;omega));have hN:=au.out ac;obtain⟨⟨rfl,rfl⟩,rfl⟩:(m1=0/\m2=0)/\me=3:=by simpa using hN
        have e0:=Z.E.k0;have e1:=Z.E.k1;have f0:=Z.e0;have f1:=Z.e1;clear AD NX ST aq au ac hN HM RC Z;go_wp2_with fail;obtain⟨c0,c1⟩:=ZaF (x:=Yd Yf 0) (y:=Yd Yf 0) e0 e1;exact bodyPost_ret (v:=.tuple #[Zb 0 0,Yd Yf 3]) (by simp[results,Tryz.results129,go_sem,c0,c1]) rfl ⟨by rw[HV.out],(B2.out.setCell (by show w.heap.size<=w.heap.size+1;omega) _).setCell (by show w.heap.size<=w.heap.size+1;omega) _⟩
   ·have R:k<j:=by omega
    obtain⟨y,hy⟩:=LE.out.2 k (by have:=JT.out;omega);obtain⟨bd,rfl,t1,t3⟩:=Zbc B4.out H.below hy (by have:=JT.out;omega);have X:=bs.out y (List.mem_of_getElem? hy);have rr:=fun(w':Yh)=>ZaC y.1 y.2 w' X.1.1 X.1.2 X.2.1 X.2.2;have J:=Zfb hy z;have bp:(m.take 8)[k]? = Ya y:=by rw[List.getElem?_take,Yo (by have:=JT.out;omega)];exact hy
    have aw:=@Zga (m.take 8) k y bp;have i1:(k:Int)<(lm:Int):=by have:=JT.out;omega
    have i2:(0:Int)<=(k:Int):=by omega
    have i3:decide (k<lm)=true:=decide_eq_true (by have:=JT.out;omega);have i4:(k:Int)<8:=by have:=JT.out;omega
    have i5:decide (k<8)=true:=decide_eq_true (by have:=JT.out;omega);have wk:IntKind.i64.wrap ((k:Int)+1)=(k:Int)+1:=IntWalk.i64_in _ (by have:=JT.out;omega);obtain⟨y1,y2⟩:=y;dsimp only at rr J t1 t3 aw;have HX:=Lib.hid H;have HG:=Lib.hid (And.intro R hg);generalize Zaf y1 y2=rb at *;have RR:=Lib.hid rr;have NX:=Lib.hid J;have b0:=Lib.hid aw;clear rr J aw hy bp X z hk hg bl R H;cases rb
    ·have HV:Hid (V=((0,0),2)):=a7.out.trans (Zf3 (fun g=>by rw[b0.out rfl]at g;cases g.2));go_wp2_with (go_at_call 37;go_fit (RR.out _);rintro e w3 ⟨rfl,C⟩;have u:=HX.out.keep C;have e0:=u.E.k0;have e1:=u.E.k1;have f0:=u.e0;have f1:=u.e1;have B3:=Lib.hid u.below;clear u C);obtain⟨c0,c1⟩:=ZaF (x:=Yd Yf 0) (y:=Yd Yf 0) e0 e1;exact bodyPost_ret (v:=.tuple #[Zb 0 0,Yd Yf 2]) (by simp[results,Tryz.results129,go_sem,c0,c1]) rfl ⟨by rw[HV.out],(B3.out.setCell (by show w.heap.size<=w.heap.size+1;omega) _).setCell (by show w.heap.size<=w.heap.size+1;omega) _⟩
    ·go_wp2_with (go_at_call 37;go_fit (RR.out _);rintro e w3 ⟨rfl,C⟩;have u:=Lib.hid (HX.out.keep C);clear C);go_roundg (j-(k+1))
     case measure=>have:=HG.out;omega
     case rel=>exact⟨k+1,by push_cast;rfl,by have:=HG.out;omega,rfl,NX.out,u.out⟩
end Go.Proofs.YtbfnnolakggbfaaGreatDoor
