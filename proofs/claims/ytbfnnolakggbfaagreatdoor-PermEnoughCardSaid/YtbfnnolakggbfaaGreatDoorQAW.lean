import Derived.Deep.DeepFit
import Derived.Test.YtbfnnolakggbfaaGreatDoorQAT
set_option maxRecDepth 100000
set_option maxHeartbeats 8000000
open Option renaming some → Ya
open Go.Value renaming slice → Yc, int → Yd
open Go.IntKind renaming i64 → Yf
open Go.RowKit
namespace Go.Proofs.YtbfnnolakggbfaaGreatDoor
theorem Zou (w:World) (H Q:Value) (l m:List (Int×Int)) (i f:Int) (C:Za w H l) (Z:Za w Q m) (N:Zz l) (R:-9223372036854775808<=i) (S:i<=9223372036854775807) (T:-9223372036854775808<=f) (U:f<=9223372036854775807) (D:ZM l i f=false) :
  Calls Tryz.prog 122 #[.agg #[H,Yd Yf i,Yd Yf f],Q] w fun r w'=>r=.returned (.tuple #[Zb (Zaa l m (i,f)).1.1 (Zaa l m (i,f)).1.2,Yd Yf (Zaa l m (i,f)).2])/\Below w.heap.size w w':=by
 have G:=fun(w':World) (h:Below w.heap.size w w')=>ZbP w' H l i f (C.below h) N R S T U;rw[D]at G;have u:=Zf3 (m:=m) (kx:=(i,f)) (l:=l) (fun g=>by rw[D]at g;cases g.1);generalize Zaa l m (i,f)=V at *;have p:=Lib.hid u;have I:=Lib.hid G;obtain⟨A,c,rfl⟩:=Zc C;obtain⟨B,d,rfl,Y,K,L⟩:=Z;unfold maxLen at K;clear G C N R S T U D u;generalize l.length=P at *;obtain⟨j,M⟩:∃j,j=min m.length 8:=⟨_,rfl⟩
 have o:B=none->m.length=0:=fun e=>by
  rcases Nat.eq_zero_or_pos m.length with g|g
  ·exact g
  ·obtain⟨_,J,_⟩:=L.2 g;rw[e]at J;cases J
 generalize m.length=n at *;have O:min (n:Int) 8=(j:Int):=by omega
 have j1:(j:Int)<=(d:Int):=by omega
 have j2:(0:Int)<=(j:Int):=by omega
 have k:=Lib.hid (And.intro o M);clear L M o Y K;rcases B with _|ad
 ·obtain rfl:n=0:=k.out.1 rfl;obtain rfl:j=0:=by have:=k.out.2;omega
  obtain⟨F,E,⟨s,t⟩,b⟩:=Zc7 w (Yc A P c) (Yd Yf i) (Yd Yf f) 37 23;go_enter Tryz.func122,Tryz.ntmps122;go_wp2_with (go_at_call 44;go_fit (I.out _ b);rintro e w1 ⟨rfl,a⟩;have E:=E.keep a;have s:=Zo a (by simp) s;have t:=Zo a (by simp) t;have z:=b.trans (a.mono b.size);have W:=E.k0;have X:=E.k1);obtain⟨c0,c1⟩:=ZaF (x:=Yd Yf 0) (y:=Yd Yf 0) E.k0 E.k1;exact bodyPost_ret (v:=.tuple #[Zb 0 0,Yd Yf 2]) (by simp[results,Tryz.results122,go_sem,c0,c1]) rfl ⟨by rw[p.out],(z.setCell (by show w.heap.size<=w.heap.size+1;omega) _).setCell (by show w.heap.size<=w.heap.size+1;omega) _⟩
 ·skip
  obtain⟨F,E,⟨s,t⟩,b⟩:=Zc7 w (Yc A P c) (Yd Yf i) (Yd Yf f) 37 23;go_enter Tryz.func122,Tryz.ntmps122;go_wp2_with (go_at_call 44;go_fit (I.out _ b);rintro e w1 ⟨rfl,a⟩;have E:=E.keep a;have s:=Zo a (by simp) s;have t:=Zo a (by simp) t;have z:=b.trans (a.mono b.size);have W:=E.k0;have X:=E.k1);obtain⟨c0,c1⟩:=ZaF (x:=Yd Yf 0) (y:=Yd Yf 0) E.k0 E.k1;exact bodyPost_ret (v:=.tuple #[Zb 0 0,Yd Yf 2]) (by simp[results,Tryz.results122,go_sem,c0,c1]) rfl ⟨by rw[p.out],(z.setCell (by show w.heap.size<=w.heap.size+1;omega) _).setCell (by show w.heap.size<=w.heap.size+1;omega) _⟩
theorem Zot (w:World) (va vb:Value) (l m:List (Int×Int)) (p i:Int) (ha:Za w va l) (O:Za w vb m) (hl:Zz l) (hm:Zz m) (x1:-9223372036854775808<=p) (x2:p<=9223372036854775807) (x3:-9223372036854775808<=i) (x4:i<=9223372036854775807) (hr:ZM l p i=true) :
  Calls Tryz.prog 122 #[.agg #[va,Yd Yf p,Yd Yf i],vb] w fun r w'=>r=.returned (.tuple #[Zb (Zaa l m (p,i)).1.1 (Zaa l m (p,i)).1.2,Yd Yf (Zaa l m (p,i)).2])/\Below w.heap.size w w':=by
 obtain⟨h8,al,ox⟩:=Zaj hr hl x1 x2 x3 x4;have rt:=fun(w':World) (h:Below w.heap.size w w')=>ZbP w' va l p i (ha.below h) hl x1 x2 x3 x4;rw[hr]at rt;have RT:=Lib.hid rt;have bg:=Lib.hid al;have b7:=Lib.hid ox;have b5:=Lib.hid (fun x hx=>hm x (List.mem_of_mem_take hx):Zz (m.take 8));obtain⟨j,hj⟩:∃j,j=min m.length 8:=⟨_,rfl⟩
 obtain⟨A,c,rfl,a2,a3,a4⟩:=ha;obtain⟨B,d,rfl,g2,g3,g4⟩:=id O;unfold maxLen at g3;have bk:(m.take j).length=j:=by rw[List.length_take];omega
 have ar:=fun(w':World) (h:Below w.heap.size w w')=>ZgZ w' (Yc B j d) (m.take 8) (by
  have:=Za.take (w:=w) (k:=j) rfl g2 (by unfold maxLen;omega) g4 (by omega);rw[hj,Zl7,<-hj]at this
  exact this.below h) b5.out
 obtain⟨n,hn⟩:∃n,n=min l.length m.length:=⟨_,rfl⟩
 have Q:=Lib.hid (show n=min l.length m.length/\l.length<=8/\n<=8/\n=min l.length j/\j<=m.length/\j<=8 from by omega);have G4:=Lib.hid a4;have B4:=Lib.hid g4;have LE:=Lib.hid (And.intro (fun(k:Nat) (h:k<l.length)=>(⟨_,Ym h⟩:∃x,l[k]? = Ya x)) (fun(k:Nat) (h:k<m.length)=>(⟨_,Ym h⟩:∃x,m[k]? = Ya x)));by_cases D:Za6 (m.take 8)=true
 ·have ve:=fun(s:Int×Int) (e:ZaK l m (p,i) n=Ya s)=>Zmb (kx:=(p,i)) (l:=l) (m:=m) (s:=s) ⟨hr,D⟩ (by rw[<-hn];exact e);have ov:=fun(e:ZaK l m (p,i) n=none)=>ZkD (kx:=(p,i)) (l:=l) (m:=m) ⟨hr,D⟩ (by rw[<-hn];exact e);generalize Zaa l m (p,i)=V at *;have VE:=Lib.hid ve;have OV:=Lib.hid ov;have ab:=Lib.hid (And.intro D hm);rw[D]at ar;have AR:=Lib.hid ar;have ak:min (m.length:Int) 8=(j:Int):=by omega
  have ch:min (l.length:Int) (j:Int)=(n:Int):=by omega
  have j1:(j:Int)<=(d:Int):=by omega
  have j2:(0:Int)<=(j:Int):=by omega
  clear ve ov rt al ox a2 a3 a4 g2 g3 g4 O hl hm x1 x2 x3 x4 hr h8 D hn ar hj bk;generalize l.length=ll at *;generalize m.length=lm at *;obtain⟨F,E,⟨I,J⟩,C⟩:=Zc7 w (Yc A ll c) (Yd Yf p) (Yd Yf i) 37 23;go_enter Tryz.func122,Tryz.ntmps122
  go_upto_region 4 with(first
   |(go_at_call 44;go_fit (RT.out _ C);rintro e w1 ⟨rfl,u⟩;have F:=F.keep u;have E:=E.keep u;have I:=Zo u (by simp) I;have J:=Zo u (by simp) J;have b1:=C.trans (u.mono C.size))
   |(go_at_call 65;go_fit (AR.out _ b1);rintro e w2 ⟨rfl,z⟩;have F:=F.keep z;have I:=Zo z E.lt I;have J:=Zo z E.lt J;have E:=E.keep z;have b2:=b1.trans (z.mono b1.size)))
  clear ak;have k1:=F.k1;have k2:=F.k2;go_upto_region 5 with fail;clear k1 k2;have a1:=below_alloc1 w2 (.cells #[Yd Yf p,Yd Yf i] 23);have e3:=E.lt;have V0:ValS w (w2.alloc (.cells #[Yd Yf p,Yd Yf i] 23)) w2.heap.size (Yc A ll c) p i p i:=
   ⟨F.keep a1,E.keep a1,Zo a1 E.lt I,Zo a1 E.lt J,RatAt.start w2 p i 23,by go_simp,by go_simp,e3,b2.trans (a1.mono b2.size)⟩
  have k0:=V0.F.k0;have V0:=Lib.hid V0;generalize w2.heap.size=b at *;clear F E I J u z b1 b2 a1 e3 C;go_wp2_with fail;go_loopg [32] n (fun g cq wr=>∃(k:Nat) (s:Int×Int),cq=Yd Yf k/\k<=n/\g=n-k/\ZaK l m (p,i) k=Ya s/\ValS w wr b (Yc A ll c) p i s.1 s.2)
  case atStart=>exact⟨0,(p,i),rfl,Nat.zero_le _,rfl,rfl,V0.out⟩
  case round=>
   clear V0 k0;obtain⟨k,s,rfl,hk,hg,hs,H⟩:=hrel;by_cases bl:k=n
   ·subst bl;have HV:=Lib.hid (VE.out s hs);obtain⟨s1,s2⟩:=s;dsimp only at H;have z0:=H.S.k0;have z1:=H.S.k1;have e0:=H.E.k0;have e1:=H.E.k1;have I:=H.e0;have J:=H.e1;have HB:=Lib.hid H.below;clear hs hg hk H;go_wp2_with fail;obtain⟨c0,c1⟩:=ZaF (x:=Yd Yf s1) (y:=Yd Yf s2) e0 e1;exact bodyPost_ret (v:=.tuple #[Zb s1 s2,Yd Yf 0]) (by simp[results,Tryz.results122,go_sem,c0,c1]) rfl ⟨by rw[HV.out],(HB.out.setCell (by show w.heap.size<=w.heap.size+1;omega) _).setCell (by show w.heap.size<=w.heap.size+1;omega) _⟩
   ·have bm:k<n:=by omega
    obtain⟨x,hx⟩:=LE.out.1 k (by have:=Q.out;omega);obtain⟨y,hy⟩:=LE.out.2 k (by have:=Q.out;omega);obtain⟨ad,rfl,d1,d3⟩:=Zbc G4.out H.below hx (by have:=Q.out;omega);obtain⟨bd,rfl,t1,t3⟩:=Zbc B4.out H.below hy (by have:=Q.out;omega);have W:OkR (atL l k):=bg.out.at k;have X:OkR (atL m k):=ZgC ab.out.1 ab.out.2 (by have:=Q.out;omega);have ex:atL l k=x:=ZcV hx;have ey:atL m k=y:=ZcV hy;have aw:OkR s:=ZiK bg.out ab.out.1 ab.out.2 b7.out k s (by have:=Q.out;omega) hs;have U:=fun(w':World)=>Znb w' (atL l k) (atL m k) W X;have Y:=Zb6.no (atL l k) (atL m k) W X;have nx:=@Zhr l m (p,i) s k hs;have st:=@Zhs l m (p,i) s k hs;have R:=fun(w':World) (h:(ZP (atL l k) (atL m k)).2=0)=>Zjz w' s (ZP (atL l k) (atL m k)).1 aw (Zb6.ok _ _ W X h);have T:=fun(h:(ZP (atL l k) (atL m k)).2=0)=>Zbi.no s (ZP (atL l k) (atL m k)).1 aw (Zb6.ok _ _ W X h);rw[ex,ey]at U nx st R Y T;obtain⟨p1,p2⟩:=x;obtain⟨q1,q2⟩:=y;obtain⟨s1,s2⟩:=s;dsimp only at U d1 d3 t1 t3 H R nx st Y T;have HS:=ZaS (A:=True) (Zn _) (And.intro (And.intro trivial (And.intro (And.intro d1 d3) (And.intro t1 t3))) H);generalize ZP (p1,p2) (q1,q2)=M at *;obtain⟨⟨m1,m2⟩,me⟩:=M;dsimp only at U R nx st Y T;have HM:=Lib.hid U;have NX:=Lib.hid nx;have ST:=Lib.hid st;have AD:=Lib.hid R;have P:=Lib.hid bm;have HG:=Lib.hid hg;have aq:=Lib.hid Y;have am:=Lib.hid T;have i1:(k:Int)<(ll:Int):=by have:=Q.out;omega
    have i2:(0:Int)<=(k:Int):=by omega
    have i3:(k:Int)<(j:Int):=by have:=Q.out;omega
    have g1:decide (k<ll)=true:=decide_eq_true (by have:=Q.out;omega);have g3:decide (k<j)=true:=decide_eq_true (by have:=Q.out;omega);have k0:=H.F.k0;clear hx hy W X ex ey aw U nx st R hs bm hg hk bl Y T;go_upto_region 8 with fail;clear k0 d1 d3 t1 t3;go_cut [8,9]from 33 to 62 (fun v8 v9 wx=>ZgY w b (Yc (Ya ad) ll c) p i s1 s2 m1 m2 me v8 v9 wx)
    case first=>
     clear H;refine wp_region_noPanic ?_;refine wp_region_held_drew (S:=(fun w'=>(w'.cell? ⟨w.heap.size,0,none⟩=Ya (Yc (Ya ad) ll c)/\(w'.cell? (ad.add (k*2))=Ya (Yd Yf p1)/\w'.cell? ⟨(ad.add (k*2)).block,(ad.add (k*2)).off+1,none⟩=Ya (Yd Yf p2))/\(w'.cell? (bd.add (k*2))=Ya (Yd Yf q1)/\w'.cell? ⟨(bd.add (k*2)).block,(bd.add (k*2)).off+1,none⟩=Ya (Yd Yf q2)))/\ValS w w' b (Yc (Ya ad) ll c) p i s1 s2)) (by kernel_rfl) HS (fun a=>?_);clear HS;refine tk 0 rfl ?_;refine tk 1 rfl ?_;refine tk 2 rfl ?_;refine tk 3 rfl ?_;refine tk 4 rfl ?_;refine tk 5 rfl ?_;refine tk 6 rfl ?_;refine tk 7 rfl ?_;refine tk 8 rfl ?_;(try simp only[cl,Act.put]);refine wpAnyH_ready (rs:=[9,13]) (by kernel_rfl) (by simp) (AllReadyH.cons (o:=_) rfl (fun K L=>?_) (AllReadyH.cons (o:=_) rfl (fun K L=>?_) AllReadyH.nil))
     rotate_left
     go_simp;refine L.out _ _ (ZaS (below_alloc1 _ _) (by with_reducible assumption)) (fun f=>?_);clear L K
     (first|have HC:=Lib.hid (Zea f)|have HC:=Lib.hid (Zdy f))
     have t:=Lib.hid a;clear a;have a:=f;clear f;(try simp only[cl,Act.put]);refine rd 9 rfl fun K L=>?_
     rotate_right
     all_goals
      go_simp;(go_at_call 26;go_fit (HM.out _);rintro e w6 ⟨rfl,O⟩;(try (have HC:=Lib.hid (HC.out.keep O))));go_wp2_with fail;refine L.out _ _ (ZaS (by with_reducible assumption) (by with_reducible assumption)) (fun f=>?_);clear L K a O;have a:=f;clear f;(try simp only[cl,Act.put])
     all_goals
      refine tk 10 rfl ?_;refine tk 11 rfl ?_;refine tk 12 rfl ?_;(try simp only[cl,Act.put])
     refine rd 13 rfl fun K L=>?_;go_simp;refine L.out _ _ (ZaS (below_alloc1 _ _) (by with_reducible assumption)) (fun f=>?_);clear L K
     (first|have HC:=Lib.hid (Zea f)|have HC:=Lib.hid (Zdy f))
     have t:=Lib.hid a;clear a;have a:=f;clear f;(try simp only[cl,Act.put])
     all_goals
      refine rd 14 rfl fun K L=>?_;obtain⟨h6,h0,h1,h2,h3,h4,h5⟩:=HC.out;clear h6;go_simp;clear h0 h1 h2 h3 h4 h5
      (first
       |refine L.out _ _ (ZaS (below_alloc1 _ _) t.out) (fun f=>?_)
       |refine L.out _ _ (ZaS (HC.out.fill _ _).1 t.out) (fun f=>?_))
      clear L K a;have a:=f;clear f;(try simp only[cl,Act.put]);refine tk 15 rfl ?_;(try simp only[cl,Act.put]);refine wpAnyH_done (by kernel_rfl) ?_ _;refine NoPanic.normal ?_;go_wp2_with fail;go_meet
      case rel=>first|exact ZgI (ZeQ t.out) 23|exact ZhC (ZeQ t.out) HC.out
    case rest=>
     obtain⟨cc,rfl,rfl,RC,Z⟩:=hcut;clear H HS;have B2:=Lib.hid Z.below;by_cases ac:me=0
     ·subst ac;have a2:=fun(w':World)=>AD.out w' rfl;have k0:=RC.k0;have k1:=RC.k1;have z0:=Z.S.k0;have z1:=Z.S.k1;have nx:=NX.out rfl;have st:=ST.out;have an:=am.out rfl;generalize Zl (s1,s2) (m1,m2)=N at *;obtain⟨⟨n1,n2⟩,ne⟩:=N;dsimp only at a2 nx st an;have A2:=Lib.hid a2;have NX:=Lib.hid nx;have ST:=Lib.hid st;have AN:=Lib.hid an;clear a2 nx st AD an am aq;by_cases ae:ne=0
      ·subst ae;have cg:Hid (ZaK l m (p,i) (k+1)=Ya (n1,n2)):=NX.out rfl;have wk:IntKind.i64.wrap ((k:Int)+1)=(k:Int)+1:=IntWalk.i64_in _ (by have:=Q.out;have:=P.out;omega);go_wp2_with (go_at_call 147;go_fit (A2.out _);rintro e w7 ⟨rfl,O⟩;have G:=Z.keep O;have z0:=G.S.k0;have z1:=G.S.k1;have y0:=G.s0;have y1:=G.s1;have G:=Lib.hid G;clear O);go_roundg (n-(k+1))
       case measure=>have:=HG.out;have:=P.out;omega
       case rel=>exact⟨k+1,(n1,n2),by push_cast;rfl,by have:=P.out;omega,rfl,cg.out,G.out.store n1 n2⟩
      ·have HV:Hid (V=((0,0),3)):=OV.out (Zc6 (ST.out (fun g=>ae g.2)) _ (by have:=P.out;omega));have hN:=AN.out ae;have a2:=A2.out;obtain⟨⟨rfl,rfl⟩,rfl⟩:(n1=0/\n2=0)/\ne=3:=by simpa using hN
       clear A2 NX ST AN ae hN;have A2:=Lib.hid a2;clear a2;go_wp2_with (go_at_call 147;go_fit (A2.out _);rintro e w7 ⟨rfl,O⟩;have G:=Z.keep O;have z0:=G.S.k0;have z1:=G.S.k1;have y0:=G.s0;have y1:=G.s1;have H4:=G.store 0 0;have e0:=H4.E.k0;have e1:=H4.E.k1;have I:=H4.e0;have J:=H4.e1;have H4:=Lib.hid H4;clear O G);obtain⟨c0,c1⟩:=ZaF (x:=Yd Yf 0) (y:=Yd Yf 0) e0 e1;exact bodyPost_ret (v:=.tuple #[Zb 0 0,Yd Yf 3]) (by simp[results,Tryz.results122,go_sem,c0,c1]) rfl ⟨by rw[HV.out],(H4.out.below.setCell (by show w.heap.size<=w.heap.size+1;omega) _).setCell (by show w.heap.size<=w.heap.size+1;omega) _⟩
     ·have HV:Hid (V=((0,0),3)):=OV.out (Zc6 (ST.out (fun g=>ac g.1)) _ (by have:=P.out;omega));have hN:=aq.out ac;obtain⟨⟨rfl,rfl⟩,rfl⟩:(m1=0/\m2=0)/\me=3:=by simpa using hN
      have e0:=Z.E.k0;have e1:=Z.E.k1;have I:=Z.e0;have J:=Z.e1;clear AD NX ST am aq ac hN HM RC Z;go_wp2_with fail;obtain⟨c0,c1⟩:=ZaF (x:=Yd Yf 0) (y:=Yd Yf 0) e0 e1;exact bodyPost_ret (v:=.tuple #[Zb 0 0,Yd Yf 3]) (by simp[results,Tryz.results122,go_sem,c0,c1]) rfl ⟨by rw[HV.out],(B2.out.setCell (by show w.heap.size<=w.heap.size+1;omega) _).setCell (by show w.heap.size<=w.heap.size+1;omega) _⟩
 ·have aj:Za6 (m.take 8)=false:=by simpa using D
  rw[aj]at ar;have HV:=Lib.hid (Zf3 (l:=l) (m:=m) (kx:=(p,i)) (fun g=>D g.2));generalize Zaa l m (p,i)=V at *;have AR:=Lib.hid ar;have ak:min (m.length:Int) 8=(j:Int):=by omega
  have j1:(j:Int)<=(d:Int):=by omega
  have j2:(0:Int)<=(j:Int):=by omega
  clear rt al ox a2 a3 a4 g2 g3 g4 O hl hm x1 x2 x3 x4 hr h8 D aj hn ar hj bk;generalize l.length=ll at *;generalize m.length=lm at *;obtain⟨F,E,⟨I,J⟩,C⟩:=Zc7 w (Yc A ll c) (Yd Yf p) (Yd Yf i) 37 23;go_enter Tryz.func122,Tryz.ntmps122
  go_wp2_with (first
   |(go_at_call 44;go_fit (RT.out _ C);rintro e w1 ⟨rfl,u⟩;have F:=F.keep u;have E:=E.keep u;have I:=Zo u (by simp) I;have J:=Zo u (by simp) J;have b1:=C.trans (u.mono C.size))
   |(go_at_call 65;go_fit (AR.out _ b1);rintro e w2 ⟨rfl,z⟩;have I:=Zo z E.lt I;have J:=Zo z E.lt J;have E:=E.keep z;have b2:=Lib.hid (b1.trans (z.mono b1.size));have e0:=E.k0;have e1:=E.k1))
  obtain⟨c0,c1⟩:=ZaF (x:=Yd Yf 0) (y:=Yd Yf 0) e0 e1;exact bodyPost_ret (v:=.tuple #[Zb 0 0,Yd Yf 2]) (by simp[results,Tryz.results122,go_sem,c0,c1]) rfl ⟨by rw[HV.out],(b2.out.setCell (by show w.heap.size<=w.heap.size+1;omega) _).setCell (by show w.heap.size<=w.heap.size+1;omega) _⟩
end Go.Proofs.YtbfnnolakggbfaaGreatDoor
