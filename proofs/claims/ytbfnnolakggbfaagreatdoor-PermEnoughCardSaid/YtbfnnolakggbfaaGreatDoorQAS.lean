import Derived.Deep.DeepFit
import Derived.Test.YtbfnnolakggbfaaGreatDoorQAQ
set_option maxRecDepth 100000
set_option maxHeartbeats 8000000
open Option renaming some → Ya, none → Yb
open Go.Value renaming slice → Yc, int → Yd
open Go.IntKind renaming i64 → Yf
open Go.Obj renaming cells → Yg
open Go renaming World → Yh
open Go.RowKit
namespace Go.Proofs.YtbfnnolakggbfaaGreatDoor
theorem ZlN (w:Yh) (va:Value) (l:List (Int×Int)) (kx kb:Int×Int) (ha:Za w va l) (hl:ZC l) (U:OkR kx) (V:OkR kb) (h8:l.length<=8)
  (hk:((Zt kb) kx (0,1)).2=0) (hc:ZZ (Zt kb) l [] l.length) :
  Calls Tryz.prog 33 #[Yd Yf 2,.agg #[va,Yd Yf kx.1,Yd Yf kx.2],.agg #[Yc Yb 0 0,Yd Yf kb.1,Yd Yf kb.2]] w (ZaQ w (Zs (Zax (Zt kb) l [])) ((Zt kb) kx (0,1)).1 0):=by
 obtain⟨i0,hi,bq,br,bs⟩:=info_parts ZdE;have hm:ZC []:=fun x U=>by cases U
 have n:Za w (Yc Yb 0 0) []:=Za.nil w;have ra:=fun(f:Yh) (h:Below w.heap.size w f)=>ZaN f va l kx.1 kx.2 (ha.below h) hl.wide U.wide.1.1 U.wide.1.2 U.wide.2.1 U.wide.2.2;rw[Zav h8 hl U]at ra;have rb:=fun(f:Yh) (_:Below w.heap.size w f)=>ZaN f (Yc Yb 0 0) [] kb.1 kb.2 (Za.nil f) hm.wide V.wide.1.1 V.wide.1.2 V.wide.2.1 V.wide.2.2;rw[Zav (by simp) hm V]at rb;have h1:∀(f:Yh),Calls Tryz.prog 52 #[Yd Yf 2,Zb kx.1 kx.2,Zb kb.1 kb.2] f fun r w2=>r=.returned (.tuple #[Zb (Zt kb kx (0,1)).1.1 (Zt kb kx (0,1)).1.2,Yd Yf (Zt kb kx (0,1)).2])/\Below f.heap.size f w2:=fun f=>Zd2 f kx kb U V;have Z:∀(f:Yh) (k:Nat),Calls Tryz.prog 52 #[Yd Yf 2,Zb (atL l k).1 (atL l k).2,Zb kb.1 kb.2] f fun r w2=>r=.returned (.tuple #[Zb (Zt kb (atL l k) (atL [] k)).1.1 (Zt kb (atL l k) (atL [] k)).1.2,Yd Yf (Zt kb (atL l k) (atL [] k)).2])/\Below f.heap.size f w2:=fun f k=>Zd2 f _ _ (hl.at k) V;have Z:=Lib.hid Z;rw[hk]at h1;obtain⟨A,c,rfl⟩:=Zc ha;have HR:=Lib.hid (show ZaE (Zt kb) l [] l.length=Zax (Zt kb) l []by unfold Zax ZaE;rw[show max l.length ([]:List (Int×Int)).length=l.length by simp]);have HN:=Lib.hid (And.intro (rfl:l.length=l.length) hc);have ab:ZC (Zax (Zt kb) l []):=ZcY (Zck V) hl hm (by simpa using hc);have J:OkR ((Zt kb) kx (0,1)).1:=(Zck V).ok _ _ U Zak hk;have au:(Zax (Zt kb) l []).length<=8:=by rw[Zee];simp;omega
 have ow:=fun(f:Yh) (v:Value) (h:Za f v (Zax (Zt kb) l []))=>ZeE f v (Zax (Zt kb) l []) ((Zt kb) kx (0,1)).1.1 ((Zt kb) kx (0,1)).1.2 h ab.wide J.wide.1.1 J.wide.1.2 J.wide.2.1 J.wide.2.2 (Zav au ab J);have OW:=Lib.hid ow;have H1:=Lib.hid h1;have RA:=Lib.hid ra;have RB:=Lib.hid rb;have TS:=Lib.hid (And.intro ha n);clear h1 ra rb ha n hl hm U V hk hc ab J au ow;generalize l.length=p at *;generalize((Zt kb) kx (0,1)).1=z at *;obtain⟨I,H⟩:=z;obtain⟨xn,xd⟩:=kx;generalize kb.1=P at *;generalize kb.2=N at *;dsimp only at *;obtain⟨F,G,E,X⟩:=ZaD w (Yc A p c) (Yd Yf xn) (Yd Yf xd) (Yc Yb 0 0) (Yd Yf P) (Yd Yf N) (Yc Yb 0 0) (Yd Yf 0) (Yd Yf 0) 37;go_enter Tryz.func33,Tryz.ntmps33
 go_upto_region 6 with(first
  |(go_at_call 51;(first
   |go_fit (RA.out _ X);rintro e w1 ⟨rfl,Q⟩;have F:=F.keep Q;have G:=G.keep Q;have E:=E.keep Q;have b1:=X.trans (Q.mono X.size);have k1:=F.k1;have k2:=F.k2;have m0:=G.k0;have m1:=G.k1;have m2:=G.k2
   |go_fit (RB.out _ b1);rintro e w2 ⟨rfl,R⟩;have F:=F.keep R;have G:=G.keep R;have E:=E.keep R;have b2:=b1.trans (R.mono b1.size);have k1:=F.k1;have k2:=F.k2;have m1:=G.k1;have m2:=G.k2))
  |(go_at_call 52;go_fit (H1.out _);rintro e w3 ⟨rfl,T⟩;have F:=F.keep T;have G:=G.keep T;have E:=E.keep T;have e3:=E.lt;have b3:=b2.trans (T.mono b2.size)))
 clear Q R T X b1 b2 k1 k2 m0 m1 m2;go_upto_region 7 with fail;have a1:=below_alloc1 w3 (Yg #[Yd Yf I,Yd Yf H] 23);have a2:=below_alloc1 (w3.alloc (Yg #[Yd Yf I,Yd Yf H] 23)) (Yg #[Yc Yb 0 0,Yd Yf I,Yd Yf H] 37);have O:=FracBox.start (w3.alloc (Yg #[Yd Yf I,Yd Yf H] 23)) (Yc Yb 0 0) (Yd Yf I) (Yd Yf H) 37;rw[World.size_alloc]at O;have b5:=b3.trans (a1.mono b3.size);have D0:DoS w ((w3.alloc (Yg #[Yd Yf I,Yd Yf H] 23)).alloc (Yg #[Yc Yb 0 0,Yd Yf I,Yd Yf H] 37)) w3.heap.size 0 (Yc A p c) xn xd (Yc Yb 0 0) P N I H (Yc Yb 0 0) (ZaE (Zt kb) l [] 0):=
  ⟨(F.keep a1).keep a2,(G.keep a1).keep a2,(E.keep a1).keep a2,O,⟨rfl,.inl ⟨rfl,rfl⟩⟩,e3,b5.trans (a2.mono b5.size)⟩
 generalize w3.heap.size=b at *;have D0:=Lib.hid D0;clear F G E O a1 a2 b3 b5 e3;go_wp2_with fail;go_loopg [11] p (fun g bz wr=>∃(k:Nat) (v:Value),bz=Yd Yf k/\k<=p/\g=p-k/\ZZ (Zt kb) l [] k/\DoS w wr b k (Yc A p c) xn xd (Yc Yb 0 0) P N I H v (ZaE (Zt kb) l [] k))
 case atStart=>exact⟨0,_,rfl,Nat.zero_le _,rfl,fun i hi=>absurd hi (Nat.not_lt_zero _),D0.out⟩
 case round=>
  clear D0;obtain⟨k,v,rfl,hk,hg,aa,D⟩:=hrel;have k0:=D.F.k0;have m0:=D.G.k0;by_cases ad:k=p
  ·have bm:decide ((k:Int)<(p:Int))=false:=decide_eq_false (by have:=HN.out.1;omega);have bp:decide (k<p)=false:=decide_eq_false (by have:=HN.out.1;omega);have dh:p<=k:=by have:=HN.out.1;omega
   have dg:decide ((k:Int)<0)=false:=decide_eq_false (by omega);have bo:¬(k:Int)<0:=by omega
   have Y:Za wr v (ZaE (Zt kb) l [] k):=Zdn (base:=b+2) (by rw[ZjQ];exact D.o);rw[ad,HR.out]at Y;have RW:=Lib.hid Y;have s:=Lib.hid D;obtain⟨Av,cv,rfl⟩:=Zc Y;have o0:=D.O.k0;have o1:=D.O.k1;have o2:=D.O.k2;generalize(Zax (Zt kb) l []).length=nc at *;generalize Zs (Zax (Zt kb) l [])=L at *;clear aa hg hk D Y ad;go_wp2_with (go_at_call 54;go_fit (OW.out _ _ RW.out);rintro e w8 hT;obtain⟨v8,rfl,af,av,aw⟩:=hT;obtain⟨A8,c8,rfl⟩:=Zc af;have HV:=Lib.hid (And.intro af (aw.mono s.out.E.lt:Zp (w.heap.size+1+1+1) _));have M:=s.out.keep av;have B8:=Lib.hid M.below;have e0:=M.E.k0;have e1:=M.E.k1;have e2:=M.E.k2;have l0:=M.E.l0;have l1:=M.E.l1;have l2:=M.E.l2;clear af av aw M);obtain⟨c0,c1,c2⟩:=Zag (x:=Yc A8 L.length c8) (y:=Yd Yf I) (z:=Yd Yf H) e0 e1 e2;obtain⟨r1,r2,r3⟩:=Zcg (w:=w) (b:=w.heap.size+1+1) (kn:=I) (kd:=H) HV.out.1 B8.out HV.out.2 (by omega) rfl;exact bodyPost_ret (v:=.tuple #[.agg #[Yc A8 L.length c8,Yd Yf I,Yd Yf H],Yd Yf 0]) (by simp[results,Tryz.results33,go_sem,c0,c1,c2]) rfl ⟨_,rfl,r1,r2,r3⟩
  ·have ae:k<p:=by omega
   have i2:(0:Int)<=(k:Int):=by omega
   have ac:=HN.out.2 k ae;have bm:decide ((k:Int)<(p:Int))=true:=decide_eq_true (by omega);have bo:(k:Int)<(p:Int):=by omega
   have bp:decide (k<p)=true:=decide_eq_true (by omega);have ap:=fun(f:Yh) (n:Below w.heap.size w f)=>ZaV f (Yc A p c) l xn xd k (TS.out.1.below n);have aq:=fun(f:Yh) (n:Below w.heap.size w f)=>ZaV f (Yc Yb 0 0) [] P N k (TS.out.2.below n);have hw:=fun(f:Yh)=>Z.out f k;rw[ac]at hw;have am:=Lib.hid ap;have bc:=Lib.hid aq;have HW:=Lib.hid hw;have W:=Lib.hid ae;have HK:=Lib.hid hg
   have be:Hid (ZZ (Zt kb) l [] (k+1)):=fun i hi=>by
    rcases Nat.lt_or_ge i k with g|g
    ·exact aa i g
    ·obtain rfl:i=k:=by omega
     exact ac
   have NX:=Lib.hid (Zc8 (Zt kb) l [] k);have s:=Lib.hid D;have m1:=D.G.k1;have m2:=D.G.k2;clear ap aq hw D aa ac hg ad hk ae;generalize((Zt kb) (atL l k) (atL [] k)).1=q at *;obtain⟨qn,qd⟩:=q;generalize atL l k=x at *;generalize atL [] k=y at *;obtain⟨x1,x2⟩:=x;obtain⟨y1,y2⟩:=y;dsimp only at *;go_upto_region 13 with(go_at_call 53;go_fit (bc.out _ s.out.below);rintro e w5 ⟨rfl,n⟩;have s:=Lib.hid (s.out.keep n);have m1:=s.out.G.k1;have m2:=s.out.G.k2;have a5:=s.out.keep (below_alloc1 w5 (Yg #[Yd Yf y1,Yd Yf y2] 23));have n1:=a5.G.k1;have n2:=a5.G.k2;clear n)
   go_cut [13,14]from 39 to 78 (fun b0 b4 wx=>ZcS w b k (Yc A p c) xn xd (Yc Yb 0 0) P N I H v (ZaE (Zt kb) l [] k) qn qd 0 b0 b4 wx)
   case first=>
    have HS:=Zm (Zn _) ((s.out.keep (below_alloc1 w5 (Yg #[Yd Yf P,Yd Yf N] 23))).cells (RatAt.start w5 P N 23));generalize w5.heap.size=cy at *;generalize w5.alloc (Yg #[Yd Yf P,Yd Yf N] 23)=wq at *;clear s m1 m2 k0 m0 a5 n1 n2;refine wp_region_noPanic ?_;refine wp_region_held_drew (S:=(fun f=>((f.cell? ⟨w.heap.size,0,Yb⟩=Ya (Yc A p c)/\f.cell? ⟨w.heap.size,1,Yb⟩=Ya (Yd Yf xn)/\f.cell? ⟨w.heap.size,2,Yb⟩=Ya (Yd Yf xd))/\(f.cell? ⟨cy,0,Yb⟩=Ya (Yd Yf P)/\f.cell? ⟨cy,1,Yb⟩=Ya (Yd Yf N))/\RatAt f cy P N)/\DoS w f b k (Yc A p c) xn xd (Yc Yb 0 0) P N I H v (ZaE (Zt kb) l [] k))) (by kernel_rfl) HS (fun a=>?_);clear HS;refine tk 0 rfl ?_;refine tk 1 rfl ?_;refine tk 2 rfl ?_;refine tk 4 rfl ?_;(try simp only[cl,Act.put]);refine wpAnyH_ready (rs:=[3,9]) (by kernel_rfl) (by simp) (AllReadyH.cons (o:=_) rfl (fun K m=>?_) (AllReadyH.cons (o:=_) rfl (fun K m=>?_) AllReadyH.nil))
    rotate_left
    go_simp;refine m.out _ _ (Zm (below_alloc1 _ _) (by with_reducible assumption)) (fun d=>?_);clear m K
    (first|have t:=Lib.hid (Zaw d)|have t:=Lib.hid (Zam d))
    have j:=Lib.hid a;clear a;have a:=d;clear d;(try simp only[cl,Act.put]);refine rd 3 rfl fun K m=>?_
    rotate_right
    all_goals
     go_simp
     (first
      |(go_at_call 53;go_fit (am.out _ (Zan (by with_reducible assumption)).below);rintro e w6 ⟨rfl,n⟩;(try (have t:=Lib.hid (t.out.keep n))))
      |(go_at_call 52;go_fit (HW.out _);rintro e w7 ⟨rfl,n⟩;(try (have t:=Lib.hid (t.out.keep n)))))
     go_wp2_with fail;refine m.out _ _ (Zm (by with_reducible assumption) (by with_reducible assumption)) (fun d=>?_);clear m K a n;have a:=d;clear d;(try simp only[cl,Act.put])
    all_goals (try (have _:=t.out;refine rd 5 rfl fun K m=>?_))
    refine wpAnyH_ready (rs:=[5,9]) (by kernel_rfl) (by simp) (AllReadyH.cons (o:=_) rfl (fun K m=>?_) (AllReadyH.cons (o:=_) rfl (fun K m=>?_) AllReadyH.nil))
    rotate_left
    go_simp;refine m.out _ _ (Zm (below_alloc1 _ _) (by with_reducible assumption)) (fun d=>?_);clear m K
    (first|have t:=Lib.hid (Zaw d)|have t:=Lib.hid (Zam d))
    have j:=Lib.hid a;clear a;have a:=d;clear d;(try simp only[cl,Act.put]);refine rd 5 rfl fun K m=>?_
    rotate_right
    all_goals
     go_simp
     (first
      |(go_at_call 53;go_fit (am.out _ (Zan (by with_reducible assumption)).below);rintro e w6 ⟨rfl,n⟩;(try (have t:=Lib.hid (t.out.keep n))))
      |(go_at_call 52;go_fit (HW.out _);rintro e w7 ⟨rfl,n⟩;(try (have t:=Lib.hid (t.out.keep n)))))
     go_wp2_with fail;refine m.out _ _ (Zm (by with_reducible assumption) (by with_reducible assumption)) (fun d=>?_);clear m K a n;have a:=d;clear d;(try simp only[cl,Act.put])
    all_goals
     refine tk 6 rfl ?_;refine tk 7 rfl ?_;refine tk 8 rfl ?_;(try simp only[cl,Act.put])
    refine rd 9 rfl fun K m=>?_;go_simp;refine m.out _ _ (Zm (below_alloc1 _ _) (by with_reducible assumption)) (fun d=>?_);clear m K
    (first|have t:=Lib.hid (Zaw d)|have t:=Lib.hid (Zam d))
    have j:=Lib.hid a;clear a;have a:=d;clear d;(try simp only[cl,Act.put])
    all_goals
     refine rd 10 rfl fun K m=>?_;obtain⟨h6,h0,h1,h2,h3,h4,h5⟩:=t.out;clear h6;go_simp;clear h0 h1 h2 h3 h4 h5
     (first
      |refine m.out _ _ (Zm (below_alloc1 _ _) j.out) (fun d=>?_)
      |refine m.out _ _ (Zm (t.out.fill _ _).1 j.out) (fun d=>?_))
     clear m K a;have a:=d;clear d;(try simp only[cl,Act.put]);refine tk 11 rfl ?_;(try simp only[cl,Act.put]);refine wpAnyH_done (by kernel_rfl) ?_ _;refine NoPanic.normal ?_;go_wp2_with fail;go_meet
     case rel=>first|exact Zcj (Zan j.out) 23|exact ZcC (Zan j.out) t.out
   case rest=>
    obtain⟨cc,rfl,rfl,RC,D⟩:=hcut;clear s m1 m2 k0 m0 a5 n1 n2;have dm:=RC.k0;have dn:=RC.k1;have o0:=D.O.k0;have s:=Lib.hid D;have df:k<=8:=by have:=W.out;omega
    have bx:b+2<=wc.heap.size:=by have:=D.O.lt;omega
    clear D;have an:=Lib.hid s.out.o;go_wp2_with (at_builtin;refine wpList_append_own _ rfl _ _ 35 rfl (b+2) 23 i0 (.agg #[Yd Yf 0,Yd Yf 0]) 2 16 Tryz.underlying35 hi bq br bs rfl (by decide) _ _ _ rfl (an.out.alloc _) ⟨wc.heap.size,0,Yb⟩ 1 1 [Yd Yf qn,Yd Yf qd] rfl rfl ?c1 ?c2 ?c3 ?c4 ?c5 ?_)
    case c1=>exact Zd0 _ _ _
    case c2=>intro u hu;simp at hu;rcases hu with rfl|rfl<;>rfl
    case c3=>unfold maxLen;omega
    case c4=>omega
    case c5=>simp;omega
    intro v' w8 C B _;obtain⟨cj,cu,rfl⟩:=Zdt C;have M:=s.out.push (q:=(qn,qd)) B C;have g8:=Zb8 bx an.out B;have o8:=(s.out.O.keepB g8 (by omega)).k0;have f8:=(s.out.O.keepB g8 (by omega)).l0;have M:=Lib.hid M;clear C B g8;have wk:IntKind.i64.wrap ((k:Int)+1)=(k:Int)+1:=IntWalk.i64_in _ (by have:=W.out;omega);go_wp2_with fail;go_roundg (p-(k+1))
    case measure=>have:=HK.out;have:=W.out;omega
    case rel=>exact⟨k+1,_,by push_cast;rfl,by have:=W.out;omega,rfl,be.out,by rw[NX.out];exact M.out⟩
theorem ZlM (w:Yh) (va:Value) (l:List (Int×Int)) (kx kb:Int×Int) (ha:Za w va l) (hl:ZC l) (hx:OkR kx) (hy:OkR kb) (h8:l.length<=8)
  (av:¬(((Zt kb) kx (0,1)).2=0/\ZZ (Zt kb) l [] l.length)) :
  Calls Tryz.prog 33 #[Yd Yf 2,.agg #[va,Yd Yf kx.1,Yd Yf kx.2],.agg #[Yc Yb 0 0,Yd Yf kb.1,Yd Yf kb.2]] w (ZaQ w [] (0,0) 3):=by
 obtain⟨i0,hi,b8,b9,ca⟩:=info_parts ZdE;have hm:ZC []:=fun x hx=>by cases hx
 have n:Za w (Yc Yb 0 0) []:=Za.nil w;have ra:=fun(j:Yh) (h:Below w.heap.size w j)=>ZaN j va l kx.1 kx.2 (ha.below h) hl.wide hx.wide.1.1 hx.wide.1.2 hx.wide.2.1 hx.wide.2.2;rw[Zav h8 hl hx]at ra;have rb:=fun(j:Yh) (_:Below w.heap.size w j)=>ZaN j (Yc Yb 0 0) [] kb.1 kb.2 (Za.nil j) hm.wide hy.wide.1.1 hy.wide.1.2 hy.wide.2.1 hy.wide.2.2;rw[Zav (by simp) hm hy]at rb;have h1:∀(j:Yh),Calls Tryz.prog 52 #[Yd Yf 2,Zb kx.1 kx.2,Zb kb.1 kb.2] j fun r w2=>r=.returned (.tuple #[Zb (Zt kb kx (0,1)).1.1 (Zt kb kx (0,1)).1.2,Yd Yf (Zt kb kx (0,1)).2])/\Below j.heap.size j w2:=fun j=>Zd2 j kx kb hx hy;have Z:∀(j:Yh) (k:Nat),Calls Tryz.prog 52 #[Yd Yf 2,Zb (atL l k).1 (atL l k).2,Zb kb.1 kb.2] j fun r w2=>r=.returned (.tuple #[Zb (Zt kb (atL l k) (atL [] k)).1.1 (Zt kb (atL l k) (atL [] k)).1.2,Yd Yf (Zt kb (atL l k) (atL [] k)).2])/\Below j.heap.size j w2:=fun j k=>Zd2 j _ _ (hl.at k) hy;have Z:=Lib.hid Z;by_cases hk:((Zt kb) kx (0,1)).2=0
 rotate_left
 ·have hz:=(Zck hy).no kx (0,1) hx Zak hk;rw[hz]at h1;obtain⟨A,c,rfl⟩:=Zc ha;have H1:=Lib.hid h1;have RA:=Lib.hid ra;have RB:=Lib.hid rb;clear h1 ra rb ha n hl hm hx hy hk hz av Z h8;generalize l.length=s at *;obtain⟨R,Q⟩:=kx;generalize kb.1=J at *;generalize kb.2=I at *;dsimp only at *;obtain⟨F,G,E,L⟩:=ZaD w (Yc A s c) (Yd Yf R) (Yd Yf Q) (Yc Yb 0 0) (Yd Yf J) (Yd Yf I) (Yc Yb 0 0) (Yd Yf 0) (Yd Yf 0) 37;go_enter Tryz.func33,Tryz.ntmps33
  go_upto_region 4 with(first
   |(go_at_call 51;(first
    |go_fit (RA.out _ L);rintro e w1 ⟨rfl,B⟩;have F:=F.keep B;have G:=G.keep B;have E:=E.keep B;have b1:=L.trans (B.mono L.size);have k1:=F.k1;have k2:=F.k2;have m0:=G.k0;have V:=G.k1;have W:=G.k2
    |go_fit (RB.out _ b1);rintro e w2 ⟨rfl,C⟩;have F:=F.keep C;have G:=G.keep C;have E:=E.keep C;have b2:=b1.trans (C.mono b1.size);have k1:=F.k1;have k2:=F.k2;have V:=G.k1;have W:=G.k2))
   |(go_at_call 52;go_fit (H1.out _);rintro e w3 ⟨rfl,M⟩;have E:=E.keep M;have b3:=b2.trans (M.mono b2.size)))
  have a1:=below_alloc1 w3 (Yg #[Yd Yf 0,Yd Yf 0] 23);have E:=E.keep a1;have b4:=Lib.hid (b3.trans (a1.mono b3.size));have k0:=E.k0;have k1:=E.k1;have k2:=E.k2;have l0:=E.l0;have l1:=E.l1;have l2:=E.l2;clear B C M L a1 F G b1 b2 b3;go_wp2_with fail;obtain⟨c0,c1,c2⟩:=Zag (x:=Yc Yb 0 0) (y:=Yd Yf 0) (z:=Yd Yf 0) k0 k1 k2;refine bodyPost_ret (v:=.tuple #[.agg #[Yc Yb 0 0,Yd Yf 0,Yd Yf 0],Yd Yf 3]) (by simp[results,Tryz.results33,go_sem,c0,c1,c2]) rfl ⟨_,rfl,Za.nil _,?_,Zp.none_ _ _ _⟩;exact((b4.out.setCell (by show w.heap.size<=w.heap.size+1+1;omega) _).setCell (by show w.heap.size<=w.heap.size+1+1;omega) _).setCell (by show w.heap.size<=w.heap.size+1+1;omega) _
 have am:¬ZZ (Zt kb) l [] l.length:=fun q=>av ⟨hk,q⟩;rw[hk]at h1;obtain⟨A,c,rfl⟩:=Zc ha;have HN:=Lib.hid (And.intro (rfl:l.length=l.length) am);have HH:=Lib.hid (fun k:Nat=>(Zck hy).no _ _ (hl.at k) (hm.at k));have H1:=Lib.hid h1;have RA:=Lib.hid ra;have RB:=Lib.hid rb;have TS:=Lib.hid (And.intro ha n);clear h1 ra rb ha n hl hm hx hy hk av am;generalize l.length=s at *;generalize((Zt kb) kx (0,1)).1=z at *;obtain⟨U,T⟩:=z;obtain⟨R,Q⟩:=kx;generalize kb.1=J at *;generalize kb.2=I at *;dsimp only at *;obtain⟨F,G,E,L⟩:=ZaD w (Yc A s c) (Yd Yf R) (Yd Yf Q) (Yc Yb 0 0) (Yd Yf J) (Yd Yf I) (Yc Yb 0 0) (Yd Yf 0) (Yd Yf 0) 37;go_enter Tryz.func33,Tryz.ntmps33
 go_upto_region 6 with(first
  |(go_at_call 51;(first
   |go_fit (RA.out _ L);rintro e w1 ⟨rfl,B⟩;have F:=F.keep B;have G:=G.keep B;have E:=E.keep B;have b1:=L.trans (B.mono L.size);have k1:=F.k1;have k2:=F.k2;have m0:=G.k0;have V:=G.k1;have W:=G.k2
   |go_fit (RB.out _ b1);rintro e w2 ⟨rfl,C⟩;have F:=F.keep C;have G:=G.keep C;have E:=E.keep C;have b2:=b1.trans (C.mono b1.size);have k1:=F.k1;have k2:=F.k2;have V:=G.k1;have W:=G.k2))
  |(go_at_call 52;go_fit (H1.out _);rintro e w3 ⟨rfl,M⟩;have F:=F.keep M;have G:=G.keep M;have E:=E.keep M;have e3:=E.lt;have b3:=b2.trans (M.mono b2.size)))
 clear B C M L b1 b2 k1 k2 m0 V W;go_upto_region 7 with fail;have a1:=below_alloc1 w3 (Yg #[Yd Yf U,Yd Yf T] 23);have a2:=below_alloc1 (w3.alloc (Yg #[Yd Yf U,Yd Yf T] 23)) (Yg #[Yc Yb 0 0,Yd Yf U,Yd Yf T] 37);have O:=FracBox.start (w3.alloc (Yg #[Yd Yf U,Yd Yf T] 23)) (Yc Yb 0 0) (Yd Yf U) (Yd Yf T) 37;rw[World.size_alloc]at O;have b5:=b3.trans (a1.mono b3.size);have D0:DoS w ((w3.alloc (Yg #[Yd Yf U,Yd Yf T] 23)).alloc (Yg #[Yc Yb 0 0,Yd Yf U,Yd Yf T] 37)) w3.heap.size 0 (Yc A s c) R Q (Yc Yb 0 0) J I U T (Yc Yb 0 0) (ZaE (Zt kb) l [] 0):=
  ⟨(F.keep a1).keep a2,(G.keep a1).keep a2,(E.keep a1).keep a2,O,⟨rfl,.inl ⟨rfl,rfl⟩⟩,e3,b5.trans (a2.mono b5.size)⟩
 generalize w3.heap.size=b at *;have D0:=Lib.hid D0;clear F G E O a1 a2 b3 b5 e3;go_wp2_with fail;go_loopg [11] s (fun g cf wr=>∃(k:Nat) (v:Value),cf=Yd Yf k/\k<=s/\g=s-k/\ZZ (Zt kb) l [] k/\DoS w wr b k (Yc A s c) R Q (Yc Yb 0 0) J I U T v (ZaE (Zt kb) l [] k))
 case atStart=>exact⟨0,_,rfl,Nat.zero_le _,rfl,fun i hi=>absurd hi (Nat.not_lt_zero _),D0.out⟩
 case round=>
  clear D0;obtain⟨k,v,rfl,hk,hg,aj,D⟩:=hrel;have k0:=D.F.k0;have m0:=D.G.k0;by_cases au:k=s
  ·subst au;exact absurd aj HN.out.2
  ·have ak:k<s:=by omega
   have i2:(0:Int)<=(k:Int):=by omega
   by_cases ad:((Zt kb) (atL l k) (atL [] k)).2=0
   ·have b0:decide ((k:Int)<(s:Int))=true:=decide_eq_true (by omega);have b6:(k:Int)<(s:Int):=by omega
    have b7:decide (k<s)=true:=decide_eq_true (by omega);have aa:=fun(j:Yh) (n:Below w.heap.size w j)=>ZaV j (Yc A s c) l R Q k (TS.out.1.below n);have ab:=fun(j:Yh) (n:Below w.heap.size w j)=>ZaV j (Yc Yb 0 0) [] J I k (TS.out.2.below n);have hw:=fun(j:Yh)=>Z.out j k;rw[ad]at hw;have X:=Lib.hid aa;have ao:=Lib.hid ab;have HW:=Lib.hid hw;have Y:=Lib.hid ak;have HK:=Lib.hid hg
    have bp:Hid (ZZ (Zt kb) l [] (k+1)):=fun i hi=>by
     rcases Nat.lt_or_ge i k with g|g
     ·exact aj i g
     ·obtain rfl:i=k:=by omega
      exact ad
    have NX:=Lib.hid (Zc8 (Zt kb) l [] k);have t:=Lib.hid D;have V:=D.G.k1;have W:=D.G.k2;clear aa ab hw D aj ad hg au hk ak;generalize((Zt kb) (atL l k) (atL [] k)).1=q at *;obtain⟨qn,qd⟩:=q;generalize atL l k=x at *;generalize atL [] k=y at *;obtain⟨x1,x2⟩:=x;obtain⟨y1,y2⟩:=y;dsimp only at *;go_upto_region 13 with(go_at_call 53;go_fit (ao.out _ t.out.below);rintro e w5 ⟨rfl,n⟩;have t:=Lib.hid (t.out.keep n);have V:=t.out.G.k1;have W:=t.out.G.k2;have a5:=t.out.keep (below_alloc1 w5 (Yg #[Yd Yf y1,Yd Yf y2] 23));have n1:=a5.G.k1;have n2:=a5.G.k2;clear n)
    go_cut [13,14]from 39 to 78 (fun ax ay wx=>ZcS w b k (Yc A s c) R Q (Yc Yb 0 0) J I U T v (ZaE (Zt kb) l [] k) qn qd 0 ax ay wx)
    case first=>
     have HS:=Zm (Zn _) ((t.out.keep (below_alloc1 w5 (Yg #[Yd Yf J,Yd Yf I] 23))).cells (RatAt.start w5 J I 23));generalize w5.heap.size=cy at *;generalize w5.alloc (Yg #[Yd Yf J,Yd Yf I] 23)=wq at *;clear t V W k0 m0 a5 n1 n2;refine wp_region_noPanic ?_;refine wp_region_held_drew (S:=(fun j=>((j.cell? ⟨w.heap.size,0,Yb⟩=Ya (Yc A s c)/\j.cell? ⟨w.heap.size,1,Yb⟩=Ya (Yd Yf R)/\j.cell? ⟨w.heap.size,2,Yb⟩=Ya (Yd Yf Q))/\(j.cell? ⟨cy,0,Yb⟩=Ya (Yd Yf J)/\j.cell? ⟨cy,1,Yb⟩=Ya (Yd Yf I))/\RatAt j cy J I)/\DoS w j b k (Yc A s c) R Q (Yc Yb 0 0) J I U T v (ZaE (Zt kb) l [] k))) (by kernel_rfl) HS (fun a=>?_);clear HS;refine tk 0 rfl ?_;refine tk 1 rfl ?_;refine tk 2 rfl ?_;refine tk 4 rfl ?_;(try simp only[cl,Act.put]);refine wpAnyH_ready (rs:=[3,9]) (by kernel_rfl) (by simp) (AllReadyH.cons (o:=_) rfl (fun K m=>?_) (AllReadyH.cons (o:=_) rfl (fun K m=>?_) AllReadyH.nil))
     rotate_left
     go_simp;refine m.out _ _ (Zm (below_alloc1 _ _) (by with_reducible assumption)) (fun d=>?_);clear m K
     (first|have p:=Lib.hid (Zaw d)|have p:=Lib.hid (Zam d))
     have f:=Lib.hid a;clear a;have a:=d;clear d;(try simp only[cl,Act.put]);refine rd 3 rfl fun K m=>?_
     rotate_right
     all_goals
      go_simp
      (first
       |(go_at_call 53;go_fit (X.out _ (Zan (by with_reducible assumption)).below);rintro e w6 ⟨rfl,n⟩;(try (have p:=Lib.hid (p.out.keep n))))
       |(go_at_call 52;go_fit (HW.out _);rintro e w7 ⟨rfl,n⟩;(try (have p:=Lib.hid (p.out.keep n)))))
      go_wp2_with fail;refine m.out _ _ (Zm (by with_reducible assumption) (by with_reducible assumption)) (fun d=>?_);clear m K a n;have a:=d;clear d;(try simp only[cl,Act.put])
     all_goals (try (have _:=p.out;refine rd 5 rfl fun K m=>?_))
     refine wpAnyH_ready (rs:=[5,9]) (by kernel_rfl) (by simp) (AllReadyH.cons (o:=_) rfl (fun K m=>?_) (AllReadyH.cons (o:=_) rfl (fun K m=>?_) AllReadyH.nil))
     rotate_left
     go_simp;refine m.out _ _ (Zm (below_alloc1 _ _) (by with_reducible assumption)) (fun d=>?_);clear m K
     (first|have p:=Lib.hid (Zaw d)|have p:=Lib.hid (Zam d))
     have f:=Lib.hid a;clear a;have a:=d;clear d;(try simp only[cl,Act.put]);refine rd 5 rfl fun K m=>?_
     rotate_right
     all_goals
      go_simp
      (first
       |(go_at_call 53;go_fit (X.out _ (Zan (by with_reducible assumption)).below);rintro e w6 ⟨rfl,n⟩;(try (have p:=Lib.hid (p.out.keep n))))
       |(go_at_call 52;go_fit (HW.out _);rintro e w7 ⟨rfl,n⟩;(try (have p:=Lib.hid (p.out.keep n)))))
      go_wp2_with fail;refine m.out _ _ (Zm (by with_reducible assumption) (by with_reducible assumption)) (fun d=>?_);clear m K a n;have a:=d;clear d;(try simp only[cl,Act.put])
     all_goals
      refine tk 6 rfl ?_;refine tk 7 rfl ?_;refine tk 8 rfl ?_;(try simp only[cl,Act.put])
     refine rd 9 rfl fun K m=>?_;go_simp;refine m.out _ _ (Zm (below_alloc1 _ _) (by with_reducible assumption)) (fun d=>?_);clear m K
     (first|have p:=Lib.hid (Zaw d)|have p:=Lib.hid (Zam d))
     have f:=Lib.hid a;clear a;have a:=d;clear d;(try simp only[cl,Act.put])
     all_goals
      refine rd 10 rfl fun K m=>?_;obtain⟨h6,h0,h1,h2,h3,h4,h5⟩:=p.out;clear h6;go_simp;clear h0 h1 h2 h3 h4 h5
      (first
       |refine m.out _ _ (Zm (below_alloc1 _ _) f.out) (fun d=>?_)
       |refine m.out _ _ (Zm (p.out.fill _ _).1 f.out) (fun d=>?_))
      clear m K a;have a:=d;clear d;(try simp only[cl,Act.put]);refine tk 11 rfl ?_;(try simp only[cl,Act.put]);refine wpAnyH_done (by kernel_rfl) ?_ _;refine NoPanic.normal ?_;go_wp2_with fail;go_meet
      case rel=>first|exact Zcj (Zan f.out) 23|exact ZcC (Zan f.out) p.out
    case rest=>
     obtain⟨cc,rfl,rfl,RC,D⟩:=hcut;clear t V W k0 m0 a5 n1 n2;have c7:=RC.k0;have c8:=RC.k1;have o0:=D.O.k0;have t:=Lib.hid D;have c6:k<=8:=by have:=Y.out;omega
     have ce:b+2<=wc.heap.size:=by have:=D.O.lt;omega
     clear D;have ba:=Lib.hid t.out.o;go_wp2_with (at_builtin;refine wpList_append_own _ rfl _ _ 35 rfl (b+2) 23 i0 (.agg #[Yd Yf 0,Yd Yf 0]) 2 16 Tryz.underlying35 hi b8 b9 ca rfl (by decide) _ _ _ rfl (ba.out.alloc _) ⟨wc.heap.size,0,Yb⟩ 1 1 [Yd Yf qn,Yd Yf qd] rfl rfl ?c1 ?c2 ?c3 ?c4 ?c5 ?_)
     case c1=>exact Zd0 _ _ _
     case c2=>intro u hu;simp at hu;rcases hu with rfl|rfl<;>rfl
     case c3=>unfold maxLen;omega
     case c4=>omega
     case c5=>simp;omega
     intro v' w8 P N _;obtain⟨cs,cz,rfl⟩:=Zdt P;have D8:=t.out.push (q:=(qn,qd)) N P;have g8:=Zb8 ce ba.out N;have o8:=(t.out.O.keepB g8 (by omega)).k0;have f8:=(t.out.O.keepB g8 (by omega)).l0;have D8:=Lib.hid D8;clear P N g8;have wk:IntKind.i64.wrap ((k:Int)+1)=(k:Int)+1:=IntWalk.i64_in _ (by have:=Y.out;omega);go_wp2_with fail;go_roundg (s-(k+1))
     case measure=>have:=HK.out;have:=Y.out;omega
     case rel=>exact⟨k+1,_,by push_cast;rfl,by have:=Y.out;omega,rfl,bp.out,by rw[NX.out];exact D8.out⟩
   ·have b0:decide ((k:Int)<(s:Int))=true:=decide_eq_true (by omega);have b6:(k:Int)<(s:Int):=by omega
    have b7:decide (k<s)=true:=decide_eq_true (by omega);have aa:=fun(j:Yh) (n:Below w.heap.size w j)=>ZaV j (Yc A s c) l R Q k (TS.out.1.below n);have ab:=fun(j:Yh) (n:Below w.heap.size w j)=>ZaV j (Yc Yb 0 0) [] J I k (TS.out.2.below n);have hw:=fun(j:Yh)=>Z.out j k;rw[HH.out k ad]at hw;have X:=Lib.hid aa;have ao:=Lib.hid ab;have HW:=Lib.hid hw;have Y:=Lib.hid ak;have HK:=Lib.hid hg;have t:=Lib.hid D;have V:=D.G.k1;have W:=D.G.k2;clear aa ab hw D aj ad hg au hk ak;generalize atL l k=x at *;generalize atL [] k=y at *;obtain⟨x1,x2⟩:=x;obtain⟨y1,y2⟩:=y;dsimp only at *;go_upto_region 13 with(go_at_call 53;go_fit (ao.out _ t.out.below);rintro e w5 ⟨rfl,n⟩;have t:=Lib.hid (t.out.keep n);have V:=t.out.G.k1;have W:=t.out.G.k2;have a5:=t.out.keep (below_alloc1 w5 (Yg #[Yd Yf y1,Yd Yf y2] 23));have n1:=a5.G.k1;have n2:=a5.G.k2;clear n)
    go_cut [13,14]from 39 to 78 (fun ax ay wx=>ZcS w b k (Yc A s c) R Q (Yc Yb 0 0) J I U T v (ZaE (Zt kb) l [] k) 0 0 3 ax ay wx)
    case first=>
     have HS:=Zm (Zn _) ((t.out.keep (below_alloc1 w5 (Yg #[Yd Yf J,Yd Yf I] 23))).cells (RatAt.start w5 J I 23));generalize w5.heap.size=cy at *;generalize w5.alloc (Yg #[Yd Yf J,Yd Yf I] 23)=wq at *;clear t V W k0 m0 a5 n1 n2;refine wp_region_noPanic ?_;refine wp_region_held_drew (S:=(fun j=>((j.cell? ⟨w.heap.size,0,Yb⟩=Ya (Yc A s c)/\j.cell? ⟨w.heap.size,1,Yb⟩=Ya (Yd Yf R)/\j.cell? ⟨w.heap.size,2,Yb⟩=Ya (Yd Yf Q))/\(j.cell? ⟨cy,0,Yb⟩=Ya (Yd Yf J)/\j.cell? ⟨cy,1,Yb⟩=Ya (Yd Yf I))/\RatAt j cy J I)/\DoS w j b k (Yc A s c) R Q (Yc Yb 0 0) J I U T v (ZaE (Zt kb) l [] k))) (by kernel_rfl) HS (fun a=>?_);clear HS;refine tk 0 rfl ?_;refine tk 1 rfl ?_;refine tk 2 rfl ?_;refine tk 4 rfl ?_;(try simp only[cl,Act.put]);refine wpAnyH_ready (rs:=[3,9]) (by kernel_rfl) (by simp) (AllReadyH.cons (o:=_) rfl (fun K m=>?_) (AllReadyH.cons (o:=_) rfl (fun K m=>?_) AllReadyH.nil))
     rotate_left
     go_simp;refine m.out _ _ (Zm (below_alloc1 _ _) (by with_reducible assumption)) (fun d=>?_);clear m K
     (first|have p:=Lib.hid (Zaw d)|have p:=Lib.hid (Zam d))
     have f:=Lib.hid a;clear a;have a:=d;clear d;(try simp only[cl,Act.put]);refine rd 3 rfl fun K m=>?_
     rotate_right
     all_goals
      go_simp
      (first
       |(go_at_call 53;go_fit (X.out _ (Zan (by with_reducible assumption)).below);rintro e w6 ⟨rfl,n⟩;(try (have p:=Lib.hid (p.out.keep n))))
       |(go_at_call 52;go_fit (HW.out _);rintro e w7 ⟨rfl,n⟩;(try (have p:=Lib.hid (p.out.keep n)))))
      go_wp2_with fail;refine m.out _ _ (Zm (by with_reducible assumption) (by with_reducible assumption)) (fun d=>?_);clear m K a n;have a:=d;clear d;(try simp only[cl,Act.put])
     all_goals (try (have _:=p.out;refine rd 5 rfl fun K m=>?_))
     refine wpAnyH_ready (rs:=[5,9]) (by kernel_rfl) (by simp) (AllReadyH.cons (o:=_) rfl (fun K m=>?_) (AllReadyH.cons (o:=_) rfl (fun K m=>?_) AllReadyH.nil))
     rotate_left
     go_simp;refine m.out _ _ (Zm (below_alloc1 _ _) (by with_reducible assumption)) (fun d=>?_);clear m K
     (first|have p:=Lib.hid (Zaw d)|have p:=Lib.hid (Zam d))
     have f:=Lib.hid a;clear a;have a:=d;clear d;(try simp only[cl,Act.put]);refine rd 5 rfl fun K m=>?_
     rotate_right
     all_goals
      go_simp
      (first
       |(go_at_call 53;go_fit (X.out _ (Zan (by with_reducible assumption)).below);rintro e w6 ⟨rfl,n⟩;(try (have p:=Lib.hid (p.out.keep n))))
       |(go_at_call 52;go_fit (HW.out _);rintro e w7 ⟨rfl,n⟩;(try (have p:=Lib.hid (p.out.keep n)))))
      go_wp2_with fail;refine m.out _ _ (Zm (by with_reducible assumption) (by with_reducible assumption)) (fun d=>?_);clear m K a n;have a:=d;clear d;(try simp only[cl,Act.put])
     all_goals
      refine tk 6 rfl ?_;refine tk 7 rfl ?_;refine tk 8 rfl ?_;(try simp only[cl,Act.put])
     refine rd 9 rfl fun K m=>?_;go_simp;refine m.out _ _ (Zm (below_alloc1 _ _) (by with_reducible assumption)) (fun d=>?_);clear m K
     (first|have p:=Lib.hid (Zaw d)|have p:=Lib.hid (Zam d))
     have f:=Lib.hid a;clear a;have a:=d;clear d;(try simp only[cl,Act.put])
     all_goals
      refine rd 10 rfl fun K m=>?_;obtain⟨h6,h0,h1,h2,h3,h4,h5⟩:=p.out;clear h6;go_simp;clear h0 h1 h2 h3 h4 h5
      (first
       |refine m.out _ _ (Zm (below_alloc1 _ _) f.out) (fun d=>?_)
       |refine m.out _ _ (Zm (p.out.fill _ _).1 f.out) (fun d=>?_))
      clear m K a;have a:=d;clear d;(try simp only[cl,Act.put]);refine tk 11 rfl ?_;(try simp only[cl,Act.put]);refine wpAnyH_done (by kernel_rfl) ?_ _;refine NoPanic.normal ?_;go_wp2_with fail;go_meet
      case rel=>first|exact Zcj (Zan f.out) 23|exact ZcC (Zan f.out) p.out
    case rest=>
     obtain⟨cc,rfl,rfl,RC,H⟩:=hcut;clear t V W k0 m0 a5 n1 n2 RC;have k0:=H.E.k0;have k1:=H.E.k1;have k2:=H.E.k2;have l0:=H.E.l0;have l1:=H.E.l1;have l2:=H.E.l2;have b1:=Lib.hid H.below;clear H;go_wp2_with fail;obtain⟨c0,c1,c2⟩:=Zag (x:=Yc Yb 0 0) (y:=Yd Yf 0) (z:=Yd Yf 0) k0 k1 k2;refine bodyPost_ret (v:=.tuple #[.agg #[Yc Yb 0 0,Yd Yf 0,Yd Yf 0],Yd Yf 3]) (by simp[results,Tryz.results33,go_sem,c0,c1,c2]) rfl ⟨_,rfl,Za.nil _,?_,Zp.none_ _ _ _⟩;exact((b1.out.setCell (by show w.heap.size<=w.heap.size+1+1;omega) _).setCell (by show w.heap.size<=w.heap.size+1+1;omega) _).setCell (by show w.heap.size<=w.heap.size+1+1;omega) _
end Go.Proofs.YtbfnnolakggbfaaGreatDoor
