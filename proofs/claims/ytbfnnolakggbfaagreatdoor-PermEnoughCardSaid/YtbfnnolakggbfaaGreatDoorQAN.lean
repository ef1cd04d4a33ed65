import Derived.Deep.DeepFit
import Derived.Test.YtbfnnolakggbfaaGreatDoorQAJ
set_option maxRecDepth 100000
set_option maxHeartbeats 8000000
open Option renaming some → Ya, none → Yb
open Go.Value renaming slice → Yc, int → Yd
open Go.IntKind renaming i64 → Yf
open Go.Obj renaming cells → Yg
open Go renaming World → Yh
open Go.RowKit
namespace Go.Proofs.YtbfnnolakggbfaaGreatDoor
theorem Zmo (w:Yh) (va vb:Value) (l m:List (Int×Int)) (kx Q:Int×Int) (ha:Za w va l) (o:Za w vb m) (hl:ZC l) (hm:ZC m) (hx:OkR kx) (hy:OkR Q) (h8:l.length<=8) (ce:m.length<=8)
  (h:How) (ab:∀w',Below w.heap.size w w'->∀x y,OkR x->OkR y->Calls Tryz.prog 147 #[Zb x.1 x.2,Zb y.1 y.2] w' fun r w2=>r=.returned (.tuple #[Zb (h x y).1.1 (h x y).1.2,Yd Yf (h x y).2])/\Below w'.heap.size w' w2)
  (hk:(h kx Q).2=0) (hc:ZZ h l m (max l.length m.length)) :
  Calls Tryz.prog 45 #[.agg #[va,Yd Yf kx.1,Yd Yf kx.2],.agg #[vb,Yd Yf Q.1,Yd Yf Q.2],.func (.func 147) #[] #[]] w (ZaQ w (Zs (Zax h l m)) (h kx Q).1 0):=by
 obtain⟨i0,hi,bj,bk,bl⟩:=info_parts ZdE;have h1:=fun(w':Yh) (o:Below w.heap.size w w')=>ab w' o kx Q hx hy;rw[hk]at h1;obtain⟨A,c,rfl,a2,a3,a4⟩:=id ha;obtain⟨B,d,rfl,P,b3,b4⟩:=id o;obtain⟨n,hn⟩:∃n,n=max l.length m.length:=⟨_,rfl⟩
 have cg:n<=8:=by omega
 have HR:=Lib.hid (ZlQ h l m);rw[<-hn]at HR;have HC:=Lib.hid (Zee h l m);rw[<-hn]at hc HC;have HN:=Lib.hid (And.intro hn hc);have a7:=Lib.hid ab;have H1:=Lib.hid h1;have TS:=Lib.hid (And.intro ha (And.intro o (And.intro hl hm)));generalize l.length=T at *;generalize m.length=U at *;clear ab h1 ha o hl hm hx hy hn hc hk a2 a3 a4 P b3 b4;generalize(h kx Q).1=z at *;obtain⟨O,N⟩:=z;obtain⟨xn,xd⟩:=kx;obtain⟨yn,yd⟩:=Q;dsimp only at *;obtain⟨F,G,E,J⟩:=ZaD w (Yc A T c) (Yd Yf xn) (Yd Yf xd) (Yc B U d) (Yd Yf yn) (Yd Yf yd) (Yc Yb 0 0) (Yd Yf 0) (Yd Yf 0) 37;go_enter Tryz.func45,Tryz.ntmps45;go_upto_region 1 with fail;go_upto_region 4 with(go_at_call 147;go_fit (H1.out _ J);rintro e w1 ⟨rfl,C⟩;have F:=F.keep C;have G:=G.keep C;have E:=E.keep C;have e1:=E.lt;have b1:=J.trans (C.mono J.size))
 have a1:=below_alloc1 w1 (Yg #[Yd Yf O,Yd Yf N] 23);have R:=RatAt.start w1 O N 23;have F:=F.keep a1;have G:=G.keep a1;have E:=E.keep a1;have b1:=b1.trans (a1.mono b1.size);have k0:=F.k0;have m0:=G.k0;have bf:max T U=n:=HN.out.1.symm;have bg:max (T:Int) (U:Int)=(n:Int):=by omega
 clear C J a1 bf;go_upto_region 5 with(at_make;refine wpList_make_full _ rfl _ _ 35 rfl (w.heap.size+3) 23 i0 (.agg #[Yd Yf 0,Yd Yf 0]) 2 Tryz.underlying35 hi bj bk Yf Yf _ _ n rfl rfl ?c1 ?c2 ?c3 ?c4 ?c5 ?_)
 case c1=>first|rfl|omega
 case c2=>first|rfl|omega
 case c3=>rw[bl];omega
 case c4=>unfold maxLen;omega
 case c5=>simp;omega
 intro w2 j D;have P:Below (w1.heap.size+1) (w1.alloc (Yg #[Yd Yf O,Yd Yf N] 23)) w2:=(Below.refl _ _).grown D (by simp) (fun k hk=>by cases hk);have j:w2.ownsRow (w.heap.size+3) 23 2 (Yc (Ya ⟨w1.heap.size+1,0,Yb⟩) n n) n (Zq (Zbq h l m n 0)):=by rw[<-ZdN];exact j
 have t:w.heap.size+1+1<w1.heap.size:=e1;generalize w1.heap.size=b at *;have I:CombS w w2 b n (Yc A T c) xn xd (Yc B U d) yn yd O N:=⟨F.keepB P (by omega),G.keepB P (by omega),E.keepB P (by omega),R.keepB P (by omega),⟨_,j⟩,t,b1.trans (P.mono (by omega))⟩
 have al:=Lib.hid j;have aj:=Lib.hid I;clear P D j R F G E b1 k0 m0 bg I e1 t;go_wp2_with fail;go_loopg [35] n (fun g bm wr=>∃k:Nat,bm=Yd Yf k/\k<=n/\g=n-k/\ZZ h l m k/\CombS w wr b n (Yc A T c) xn xd (Yc B U d) yn yd O N/\wr.ownsRow (w.heap.size+3) 23 2 (Yc (Ya ⟨b+1,0,Yb⟩) n n) n (Zq (Zbq h l m n k)))
 case atStart=>exact⟨0,rfl,Nat.zero_le _,rfl,fun i hi=>absurd hi (Nat.not_lt_zero _),aj.out,al.out⟩
 case round=>
  clear aj al;obtain⟨k,rfl,hk,hg,Y,I,j⟩:=hrel;by_cases aq:k=n
  ·subst aq;have H:=j;rw[HR.out]at H;have ar:(Zax h l m).length=k:=HC.out;have tr:Calls Tryz.prog 67 #[Yc (Ya ⟨b+1,0,Yb⟩) k k] wr.drew (Zij wr.drew (Yc (Ya ⟨b+1,0,Yb⟩) k k) (Zs (Zax h l m))):=
    Zhz wr.drew _ _ (Zdn (base:=w.heap.size+3) (by rw[ar];exact H.drew))
   have TR:=Lib.hid tr;generalize Zs (Zax h l m)=L at *;have HS:=(I.ends.keep (Zn _)).cells;have LT:=Lib.hid I.lt;have i1:¬(k:Int)<(k:Int):=by omega
   clear H ar tr j I Y hg hk;go_upto_region 12 with fail;refine wp_region_noPanic ?_;refine wp_region_held_drew (S:=(fun w'=>((w'.cell? ⟨b,0,Yb⟩=Ya (Yd Yf O)/\w'.cell? ⟨b,1,Yb⟩=Ya (Yd Yf N))/\(w'.cell? ⟨w.heap.size+1+1,0,Yb⟩=Ya (Zf w' ⟨w.heap.size+1+1,0,Yb⟩)/\w'.cell? ⟨w.heap.size+1+1,1,Yb⟩=Ya (Zf w' ⟨w.heap.size+1+1,1,Yb⟩)/\w'.cell? ⟨w.heap.size+1+1,2,Yb⟩=Ya (Zf w' ⟨w.heap.size+1+1,2,Yb⟩))/\(w'.frozen? ⟨w.heap.size+1+1,0,Yb⟩=false/\w'.frozen? ⟨w.heap.size+1+1,1,Yb⟩=false/\w'.frozen? ⟨w.heap.size+1+1,2,Yb⟩=false))/\EndS w w' b O N)) (by kernel_rfl) HS (fun a=>?_);clear HS;refine tk 0 rfl ?_;refine tk 2 rfl ?_;(try simp only[cl,Act.put]);refine rd 1 rfl fun K p=>?_;go_simp;(go_at_call 67;go_fit TR.out;rintro e w5 ⟨v5,rfl,ac,o,au⟩;obtain⟨A5,c5,rfl,bh⟩:=id ac;clear bh;have X:=Lib.hid (And.intro ac au);clear ac au);go_wp2_with fail;refine p.out _ _ (((ZfR (by with_reducible assumption)).keep (by with_reducible assumption)).cells) (fun f=>?_);clear p K a o;have a:=f;clear f;(try simp only[cl,Act.put]);refine tk 3 rfl ?_;(try simp only[cl,Act.put]);refine rd 4 rfl fun K p=>?_;go_simp;refine p.out _ _ ?_ (fun f=>?_)
   ·exact(((ZfR (by with_reducible assumption)).set _ _).set _ _|>.set _ _).cells
   clear p K a;have a:=f;clear f;(try simp only[cl,Act.put]);refine tk 5 rfl ?_;(try simp only[cl,Act.put]);refine wpAnyH_done (by kernel_rfl) ?_ _;refine NoPanic.normal ?_;go_wp2_with fail;obtain⟨c0,c1,c2,hB⟩:=ZiV rfl (ZfR (by with_reducible assumption));refine bodyPost_ret (v:=.tuple #[.agg #[Yc A5 L.length c5,Yd Yf O,Yd Yf N],Yd Yf 0]) (by simp[results,Tryz.results45,go_sem,c0,c1,c2]) rfl ⟨_,rfl,?_,hB,fun q hq=>?_⟩
   ·have f5:Zp (b+1) (Yc A5 L.length c5):=fun q hq=>by
     rw[X.out.2]at hq;have:b+1=q:=by simpa[Value.ownBlock]using hq
     omega
    have t:=LT.out;exact(((X.out.1.setCell f5 (by show w.heap.size+1+1<_;omega) _).setCell f5 (by show w.heap.size+1+1<_;omega) _).setCell f5 (by show w.heap.size+1+1<_;omega) _)
   ·rw[X.out.2]at hq;have:b+1=q:=by simpa[Value.ownBlock]using hq
    have:=LT.out;omega
  ·have t:k<n:=by omega
   have i1:(k:Int)<(n:Int):=by omega
   have i2:(0:Int)<=(k:Int):=by omega
   have Z:=HN.out.2 k t;have an:=fun(w':Yh) (o:Below w.heap.size w w')=>Zbv w' (Yc A T c) l xn xd k (TS.out.1.below o);have ao:=fun(w':Yh) (o:Below w.heap.size w w')=>Zbv w' (Yc B U d) m yn yd k (TS.out.2.1.below o);have hw:=fun(w':Yh) (o:Below w.heap.size w w')=>a7.out w' o _ _ (TS.out.2.2.1.at (k:Int)) (TS.out.2.2.2.at (k:Int));rw[Z]at hw;have V:=Lib.hid an;have W:=Lib.hid ao;have HW:=Lib.hid hw;have u:Hid (wr.drew.ownsRow (w.heap.size+3) 23 2 (Yc (Ya ⟨b+1,0,Yb⟩) n n) n (Zq (Zbq h l m n k))):=j.drew;have HS:=(I.keep (Zn _)).cells t;have s:=Lib.hid t;have HK:=Lib.hid hg
   have a6:Hid (ZZ h l m (k+1)):=fun i hi=>by
    rcases Nat.lt_or_ge i k with g|g
    ·exact Y i g
    ·obtain rfl:i=k:=by omega
     exact Z
   have NX:=Lib.hid (Zfp h l m n k);clear an ao hw j I Y Z hg aq hk;generalize(h (atL l k) (atL m k)).1=q at *;obtain⟨qn,qd⟩:=q;generalize atL l k=x at *;generalize atL m k=y at *;obtain⟨x1,x2⟩:=x;obtain⟨y1,y2⟩:=y;dsimp only at *;go_upto_region 8 with fail;go_wp2_with fail;refine wp_region_noPanic ?_;refine wp_region_held_drew (S:=(fun w'=>(((w'.cell? ⟨w.heap.size,0,Yb⟩=Ya (Yc A T c)/\w'.cell? ⟨w.heap.size,1,Yb⟩=Ya (Yd Yf xn)/\w'.cell? ⟨w.heap.size,2,Yb⟩=Ya (Yd Yf xd))/\(w'.cell? ⟨w.heap.size+1,0,Yb⟩=Ya (Yc B U d)/\w'.cell? ⟨w.heap.size+1,1,Yb⟩=Ya (Yd Yf yn)/\w'.cell? ⟨w.heap.size+1,2,Yb⟩=Ya (Yd Yf yd)))/\((w'.cell? ⟨b+1,k*2,Yb⟩=Ya (Zf w' ⟨b+1,k*2,Yb⟩)/\w'.cell? ⟨b+1,k*2+1,Yb⟩=Ya (Zf w' ⟨b+1,k*2+1,Yb⟩))/\(w'.frozen? ⟨b+1,k*2,Yb⟩=false/\w'.frozen? ⟨b+1,k*2+1,Yb⟩=false)))/\CombS w w' b n (Yc A T c) xn xd (Yc B U d) yn yd O N)) (by kernel_rfl) HS (fun a=>?_);clear HS;refine tk 0 rfl ?_;refine tk 1 rfl ?_;refine tk 2 rfl ?_;refine tk 3 rfl ?_;refine tk 4 rfl ?_;refine tk 6 rfl ?_;refine tk 7 rfl ?_;(try simp only[cl,Act.put]);refine rd 5 rfl fun K p=>?_;go_simp
   (first
    |(go_at_call 66;(first|with_reducible refine(V.out _ (Zk (by with_reducible assumption)).below).mono ?_|with_reducible refine(W.out _ (Zk (by with_reducible assumption)).below).mono ?_);rintro e w5 ⟨rfl,o⟩;have u:=Lib.hid (ZD u.out o))
    |(go_at_call 147;go_fit (HW.out _ (Zk (by with_reducible assumption)).below);rintro e w6 ⟨rfl,o⟩;have u:=Lib.hid (ZD u.out o)))
   go_wp2_with fail;refine p.out _ _ (((Zk (by with_reducible assumption)).keep (by with_reducible assumption)).cells s.out) (fun f=>?_);clear p K a o;have a:=f;clear f;(try simp only[cl,Act.put]);refine rd 8 rfl fun K p=>?_;go_simp
   (first
    |(go_at_call 66;(first|with_reducible refine(V.out _ (Zk (by with_reducible assumption)).below).mono ?_|with_reducible refine(W.out _ (Zk (by with_reducible assumption)).below).mono ?_);rintro e w5 ⟨rfl,o⟩;have u:=Lib.hid (ZD u.out o))
    |(go_at_call 147;go_fit (HW.out _ (Zk (by with_reducible assumption)).below);rintro e w6 ⟨rfl,o⟩;have u:=Lib.hid (ZD u.out o)))
   go_wp2_with fail;refine p.out _ _ (((Zk (by with_reducible assumption)).keep (by with_reducible assumption)).cells s.out) (fun f=>?_);clear p K a o;have a:=f;clear f;(try simp only[cl,Act.put]);refine rd 9 rfl fun K p=>?_;go_simp
   (first
    |(go_at_call 66;(first|with_reducible refine(V.out _ (Zk (by with_reducible assumption)).below).mono ?_|with_reducible refine(W.out _ (Zk (by with_reducible assumption)).below).mono ?_);rintro e w5 ⟨rfl,o⟩;have u:=Lib.hid (ZD u.out o))
    |(go_at_call 147;go_fit (HW.out _ (Zk (by with_reducible assumption)).below);rintro e w6 ⟨rfl,o⟩;have u:=Lib.hid (ZD u.out o)))
   go_wp2_with fail;refine p.out _ _ (((Zk (by with_reducible assumption)).keep (by with_reducible assumption)).cells s.out) (fun f=>?_);clear p K a o;have a:=f;clear f;(try simp only[cl,Act.put]);refine tk 10 rfl ?_;refine tk 11 rfl ?_;refine tk 12 rfl ?_;refine tk 13 rfl ?_;(try simp only[cl,Act.put]);refine rd 14 rfl fun K p=>?_;go_simp;refine p.out _ _ ?_ (fun f=>?_)
   ·exact(((Zk (by with_reducible assumption)).set _ _).set _ _).cells s.out
   clear p K a;have a:=f;clear f;(try simp only[cl,Act.put]);refine tk 15 rfl ?_;(try simp only[cl,Act.put]);refine wpAnyH_done (by kernel_rfl) ?_ _;refine NoPanic.normal ?_;have I:=Lib.hid (Zk a);have ad:=((u.out.stored (k*2) (Yd Yf qn)).1.stored (k*2+1) (Yd Yf qd)).1;have av:=NX.out;have M:=Zcw (Zbq h l m n k) k (qn,qd);rw[<-av]at M;dsimp only at M;rw[<-M]at ad;have ba:=Lib.hid ad;clear a ad av M u;have wk:IntKind.i64.wrap ((k:Int)+1)=(k:Int)+1:=IntWalk.i64_in _ (by have:=s.out;omega);go_wp2_with fail;go_roundg (n-(k+1))
   case measure=>have:=HK.out;have:=s.out;omega
   case rel=>exact⟨k+1,by push_cast;rfl,by have:=s.out;omega,rfl,a6.out,I.out,ba.out⟩
theorem Zmn (w:Yh) (va vb:Value) (l m:List (Int×Int)) (kx ky:Int×Int) (ha:Za w va l) (f:Za w vb m) (hl:ZC l) (hm:ZC m) (hx:OkR kx) (hy:OkR ky) (h8:l.length<=8) (b6:m.length<=8)
  (h:How) (hh:HowOk h) (af:∀w',Below w.heap.size w w'->∀x y,OkR x->OkR y->Calls Tryz.prog 147 #[Zb x.1 x.2,Zb y.1 y.2] w' fun r w2=>r=.returned (.tuple #[Zb (h x y).1.1 (h x y).1.2,Yd Yf (h x y).2])/\Below w'.heap.size w' w2)
  (al:¬((h kx ky).2=0/\ZZ h l m (max l.length m.length))) :
  Calls Tryz.prog 45 #[.agg #[va,Yd Yf kx.1,Yd Yf kx.2],.agg #[vb,Yd Yf ky.1,Yd Yf ky.2],.func (.func 147) #[] #[]] w (ZaQ w [] (0,0) 3):=by
 obtain⟨i0,hi,bl,bm,bn⟩:=info_parts ZdE;have h1:=fun(w':Yh) (f:Below w.heap.size w w')=>af w' f kx ky hx hy;by_cases hk:(h kx ky).2=0
 rotate_left
 ·have hz:=hh.no kx ky hx hy hk;rw[hz]at h1;obtain⟨A,c,rfl,_⟩:=id ha;obtain⟨B,d,rfl,_⟩:=id f;have H1:=Lib.hid h1;generalize l.length=L at *;generalize m.length=M at *;clear af h1 hh ha f hl hm hx hy hk hz al;obtain⟨W,V⟩:=kx;obtain⟨Y,X⟩:=ky;dsimp only at *;obtain⟨F,G,E,u⟩:=ZaD w (Yc A L c) (Yd Yf W) (Yd Yf V) (Yc B M d) (Yd Yf Y) (Yd Yf X) (Yc Yb 0 0) (Yd Yf 0) (Yd Yf 0) 37;go_enter Tryz.func45,Tryz.ntmps45;go_upto_region 1 with fail;go_upto_region 2 with(go_at_call 147;go_fit (H1.out _ u);rintro e w1 ⟨rfl,C⟩;have E:=E.keep C;have N:=u.trans (C.mono u.size))
  have a1:=below_alloc1 w1 (Yg #[Yd Yf 0,Yd Yf 0] 23);have E:=E.keep a1;have N:=N.trans (a1.mono N.size);have k0:=E.k0;have k1:=E.k1;have k2:=E.k2;have l0:=E.l0;have l1:=E.l1;have l2:=E.l2;clear C u a1 F G;go_wp2_with fail;obtain⟨c0,c1,c2⟩:=Zag (x:=Yc Yb 0 0) (y:=Yd Yf 0) (z:=Yd Yf 0) k0 k1 k2;refine bodyPost_ret (v:=.tuple #[.agg #[Yc Yb 0 0,Yd Yf 0,Yd Yf 0],Yd Yf 3]) (by simp[results,Tryz.results45,go_sem,c0,c1,c2]) rfl ⟨_,rfl,Za.nil _,?_,Zp.none_ _ _ _⟩;exact((N.setCell (by show w.heap.size<=w.heap.size+1+1;omega) _).setCell (by show w.heap.size<=w.heap.size+1+1;omega) _).setCell (by show w.heap.size<=w.heap.size+1+1;omega) _
 have U:¬ZZ h l m (max l.length m.length):=fun q=>al ⟨hk,q⟩;rw[hk]at h1;obtain⟨A,c,rfl,a2,a3,a4⟩:=id ha;obtain⟨B,d,rfl,b2,b3,b4⟩:=id f;obtain⟨n,hn⟩:∃n,n=max l.length m.length:=⟨_,rfl⟩
 have b7:n<=8:=by omega
 rw[<-hn]at U;have HN:=Lib.hid (And.intro hn U);have au:=Lib.hid af;have HH:=Lib.hid hh;have H1:=Lib.hid h1;have Z:=Lib.hid (And.intro ha (And.intro f (And.intro hl hm)));generalize l.length=L at *;generalize m.length=M at *;clear af h1 hh ha f hl hm hx hy hn U al hk a2 a3 a4 b2 b3 b4;generalize(h kx ky).1=z at *;obtain⟨zn,zd⟩:=z;obtain⟨W,V⟩:=kx;obtain⟨Y,X⟩:=ky;dsimp only at *;obtain⟨F,G,E,u⟩:=ZaD w (Yc A L c) (Yd Yf W) (Yd Yf V) (Yc B M d) (Yd Yf Y) (Yd Yf X) (Yc Yb 0 0) (Yd Yf 0) (Yd Yf 0) 37;go_enter Tryz.func45,Tryz.ntmps45;go_upto_region 1 with fail;go_upto_region 4 with(go_at_call 147;go_fit (H1.out _ u);rintro e w1 ⟨rfl,C⟩;have F:=F.keep C;have G:=G.keep C;have E:=E.keep C;have e1:=E.lt;have N:=u.trans (C.mono u.size))
 have a1:=below_alloc1 w1 (Yg #[Yd Yf zn,Yd Yf zd] 23);have R:=RatAt.start w1 zn zd 23;have F:=F.keep a1;have G:=G.keep a1;have E:=E.keep a1;have N:=N.trans (a1.mono N.size);have k0:=F.k0;have m0:=G.k0;have bi:max L M=n:=HN.out.1.symm;have bj:max (L:Int) (M:Int)=(n:Int):=by omega
 clear C u a1 bi;go_upto_region 5 with(at_make;refine wpList_make_full _ rfl _ _ 35 rfl (w.heap.size+3) 23 i0 (.agg #[Yd Yf 0,Yd Yf 0]) 2 Tryz.underlying35 hi bl bm Yf Yf _ _ n rfl rfl ?c1 ?c2 ?c3 ?c4 ?c5 ?_)
 case c1=>first|rfl|omega
 case c2=>first|rfl|omega
 case c3=>rw[bn];omega
 case c4=>unfold maxLen;omega
 case c5=>simp;omega
 intro w2 o T;have b2:Below (w1.heap.size+1) (w1.alloc (Yg #[Yd Yf zn,Yd Yf zd] 23)) w2:=(Below.refl _ _).grown T (by simp) (fun k hk=>by cases hk);have o:w2.ownsRow (w.heap.size+3) 23 2 (Yc (Ya ⟨w1.heap.size+1,0,Yb⟩) n n) n (Zq (Zbq h l m n 0)):=by rw[<-ZdN];exact o
 have J:w.heap.size+1+1<w1.heap.size:=e1;generalize w1.heap.size=b at *;have CS:CombS w w2 b n (Yc A L c) W V (Yc B M d) Y X zn zd:=⟨F.keepB b2 (by omega),G.keepB b2 (by omega),E.keepB b2 (by omega),R.keepB b2 (by omega),⟨_,o⟩,J,N.trans (b2.mono (by omega))⟩
 have aw:=Lib.hid o;have ar:=Lib.hid CS;clear b2 T o R F G E N k0 m0 bj CS e1 J;go_wp2_with fail;go_loopg [35] n (fun g bo wr=>∃k:Nat,bo=Yd Yf k/\k<=n/\g=n-k/\ZZ h l m k/\CombS w wr b n (Yc A L c) W V (Yc B M d) Y X zn zd/\wr.ownsRow (w.heap.size+3) 23 2 (Yc (Ya ⟨b+1,0,Yb⟩) n n) n (Zq (Zbq h l m n k)))
 case atStart=>exact⟨0,rfl,Nat.zero_le _,rfl,fun i hi=>absurd hi (Nat.not_lt_zero _),ar.out,aw.out⟩
 case round=>
  clear ar aw;obtain⟨k,rfl,hk,hg,ae,CS,o⟩:=hrel;by_cases ak:k=n
  ·subst ak;exact absurd ae HN.out.2
  ·have J:k<n:=by omega
   have i1:(k:Int)<(n:Int):=by omega
   have i2:(0:Int)<=(k:Int):=by omega
   by_cases Q:(h (atL l k) (atL m k)).2=0
   ·have O:=fun(w':Yh) (f:Below w.heap.size w w')=>Zbv w' (Yc A L c) l W V k (Z.out.1.below f);have P:=fun(w':Yh) (f:Below w.heap.size w w')=>Zbv w' (Yc B M d) m Y X k (Z.out.2.1.below f);have hw:=fun(w':Yh) (f:Below w.heap.size w w')=>au.out w' f _ _ (Z.out.2.2.1.at (k:Int)) (Z.out.2.2.2.at (k:Int));rw[Q]at hw;have D:=Lib.hid O;have I:=Lib.hid P;have HW:=Lib.hid hw;have p:Hid (wr.drew.ownsRow (w.heap.size+3) 23 2 (Yc (Ya ⟨b+1,0,Yb⟩) n n) n (Zq (Zbq h l m n k))):=o.drew;have HS:=(CS.keep (Zn _)).cells J;have s:=Lib.hid J;have HK:=Lib.hid hg
    have bf:Hid (ZZ h l m (k+1)):=fun i hi=>by
     rcases Nat.lt_or_ge i k with g|g
     ·exact ae i g
     ·obtain rfl:i=k:=by omega
      exact Q
    have NX:=Lib.hid (Zfp h l m n k);clear O P hw o CS ae Q hg ak hk;generalize(h (atL l k) (atL m k)).1=q at *;obtain⟨qn,qd⟩:=q;generalize atL l k=x at *;generalize atL m k=y at *;obtain⟨x1,x2⟩:=x;obtain⟨y1,y2⟩:=y;dsimp only at *;go_upto_region 8 with fail;go_wp2_with fail;refine wp_region_noPanic ?_;refine wp_region_held_drew (S:=(fun w'=>(((w'.cell? ⟨w.heap.size,0,Yb⟩=Ya (Yc A L c)/\w'.cell? ⟨w.heap.size,1,Yb⟩=Ya (Yd Yf W)/\w'.cell? ⟨w.heap.size,2,Yb⟩=Ya (Yd Yf V))/\(w'.cell? ⟨w.heap.size+1,0,Yb⟩=Ya (Yc B M d)/\w'.cell? ⟨w.heap.size+1,1,Yb⟩=Ya (Yd Yf Y)/\w'.cell? ⟨w.heap.size+1,2,Yb⟩=Ya (Yd Yf X)))/\((w'.cell? ⟨b+1,k*2,Yb⟩=Ya (Zf w' ⟨b+1,k*2,Yb⟩)/\w'.cell? ⟨b+1,k*2+1,Yb⟩=Ya (Zf w' ⟨b+1,k*2+1,Yb⟩))/\(w'.frozen? ⟨b+1,k*2,Yb⟩=false/\w'.frozen? ⟨b+1,k*2+1,Yb⟩=false)))/\CombS w w' b n (Yc A L c) W V (Yc B M d) Y X zn zd)) (by kernel_rfl) HS (fun a=>?_);clear HS;refine tk 0 rfl ?_;refine tk 1 rfl ?_;refine tk 2 rfl ?_;refine tk 3 rfl ?_;refine tk 4 rfl ?_;refine tk 6 rfl ?_;refine tk 7 rfl ?_;(try simp only[cl,Act.put]);refine rd 5 rfl fun K t=>?_;go_simp
    (first
     |(go_at_call 66;(first|with_reducible refine(D.out _ (Zk (by with_reducible assumption)).below).mono ?_|with_reducible refine(I.out _ (Zk (by with_reducible assumption)).below).mono ?_);rintro e w5 ⟨rfl,f⟩;have p:=Lib.hid (ZD p.out f))
     |(go_at_call 147;go_fit (HW.out _ (Zk (by with_reducible assumption)).below);rintro e w6 ⟨rfl,f⟩;have p:=Lib.hid (ZD p.out f)))
    go_wp2_with fail;refine t.out _ _ (((Zk (by with_reducible assumption)).keep (by with_reducible assumption)).cells s.out) (fun j=>?_);clear t K a f;have a:=j;clear j;(try simp only[cl,Act.put]);refine rd 8 rfl fun K t=>?_;go_simp
    (first
     |(go_at_call 66;(first|with_reducible refine(D.out _ (Zk (by with_reducible assumption)).below).mono ?_|with_reducible refine(I.out _ (Zk (by with_reducible assumption)).below).mono ?_);rintro e w5 ⟨rfl,f⟩;have p:=Lib.hid (ZD p.out f))
     |(go_at_call 147;go_fit (HW.out _ (Zk (by with_reducible assumption)).below);rintro e w6 ⟨rfl,f⟩;have p:=Lib.hid (ZD p.out f)))
    go_wp2_with fail;refine t.out _ _ (((Zk (by with_reducible assumption)).keep (by with_reducible assumption)).cells s.out) (fun j=>?_);clear t K a f;have a:=j;clear j;(try simp only[cl,Act.put]);refine rd 9 rfl fun K t=>?_;go_simp
    (first
     |(go_at_call 66;(first|with_reducible refine(D.out _ (Zk (by with_reducible assumption)).below).mono ?_|with_reducible refine(I.out _ (Zk (by with_reducible assumption)).below).mono ?_);rintro e w5 ⟨rfl,f⟩;have p:=Lib.hid (ZD p.out f))
     |(go_at_call 147;go_fit (HW.out _ (Zk (by with_reducible assumption)).below);rintro e w6 ⟨rfl,f⟩;have p:=Lib.hid (ZD p.out f)))
    go_wp2_with fail;refine t.out _ _ (((Zk (by with_reducible assumption)).keep (by with_reducible assumption)).cells s.out) (fun j=>?_);clear t K a f;have a:=j;clear j;(try simp only[cl,Act.put]);refine tk 10 rfl ?_;refine tk 11 rfl ?_;refine tk 12 rfl ?_;refine tk 13 rfl ?_;(try simp only[cl,Act.put]);refine rd 14 rfl fun K t=>?_;go_simp;refine t.out _ _ ?_ (fun j=>?_)
    ·exact(((Zk (by with_reducible assumption)).set _ _).set _ _).cells s.out
    clear t K a;have a:=j;clear j;(try simp only[cl,Act.put]);refine tk 15 rfl ?_;(try simp only[cl,Act.put]);refine wpAnyH_done (by kernel_rfl) ?_ _;refine NoPanic.normal ?_;have CS:=Lib.hid (Zk a);have an:=((p.out.stored (k*2) (Yd Yf qn)).1.stored (k*2+1) (Yd Yf qd)).1;have ay:=NX.out;have ag:=Zcw (Zbq h l m n k) k (qn,qd);rw[<-ay]at ag;dsimp only at ag;rw[<-ag]at an;have bg:=Lib.hid an;clear a an ay ag p;have wk:IntKind.i64.wrap ((k:Int)+1)=(k:Int)+1:=IntWalk.i64_in _ (by have:=s.out;omega);go_wp2_with fail;go_roundg (n-(k+1))
    case measure=>have:=HK.out;have:=s.out;omega
    case rel=>exact⟨k+1,by push_cast;rfl,by have:=s.out;omega,rfl,bf.out,CS.out,bg.out⟩
   ·have O:=fun(w':Yh) (f:Below w.heap.size w w')=>Zbv w' (Yc A L c) l W V k (Z.out.1.below f);have P:=fun(w':Yh) (f:Below w.heap.size w w')=>Zbv w' (Yc B M d) m Y X k (Z.out.2.1.below f);have hw:=fun(w':Yh) (f:Below w.heap.size w w')=>au.out w' f _ _ (Z.out.2.2.1.at (k:Int)) (Z.out.2.2.2.at (k:Int));rw[HH.out.no _ _ (Z.out.2.2.1.at (k:Int)) (Z.out.2.2.2.at (k:Int)) Q]at hw;have D:=Lib.hid O;have I:=Lib.hid P;have HW:=Lib.hid hw;have p:Hid (wr.drew.ownsRow (w.heap.size+3) 23 2 (Yc (Ya ⟨b+1,0,Yb⟩) n n) n (Zq (Zbq h l m n k))):=o.drew;have HS:=(CS.keep (Zn _)).cells J;have s:=Lib.hid J;have HK:=Lib.hid hg;clear O P hw o CS ae Q hg ak hk;generalize atL l k=x at *;generalize atL m k=y at *;obtain⟨x1,x2⟩:=x;obtain⟨y1,y2⟩:=y;dsimp only at *;go_upto_region 8 with fail;go_wp2_with fail;refine wp_region_noPanic ?_;refine wp_region_held_drew (S:=(fun w'=>(((w'.cell? ⟨w.heap.size,0,Yb⟩=Ya (Yc A L c)/\w'.cell? ⟨w.heap.size,1,Yb⟩=Ya (Yd Yf W)/\w'.cell? ⟨w.heap.size,2,Yb⟩=Ya (Yd Yf V))/\(w'.cell? ⟨w.heap.size+1,0,Yb⟩=Ya (Yc B M d)/\w'.cell? ⟨w.heap.size+1,1,Yb⟩=Ya (Yd Yf Y)/\w'.cell? ⟨w.heap.size+1,2,Yb⟩=Ya (Yd Yf X)))/\((w'.cell? ⟨b+1,k*2,Yb⟩=Ya (Zf w' ⟨b+1,k*2,Yb⟩)/\w'.cell? ⟨b+1,k*2+1,Yb⟩=Ya (Zf w' ⟨b+1,k*2+1,Yb⟩))/\(w'.frozen? ⟨b+1,k*2,Yb⟩=false/\w'.frozen? ⟨b+1,k*2+1,Yb⟩=false)))/\CombS w w' b n (Yc A L c) W V (Yc B M d) Y X zn zd)) (by kernel_rfl) HS (fun a=>?_);clear HS;refine tk 0 rfl ?_;refine tk 1 rfl ?_;refine tk 2 rfl ?_;refine tk 3 rfl ?_;refine tk 4 rfl ?_;refine tk 6 rfl ?_;refine tk 7 rfl ?_;(try simp only[cl,Act.put]);refine rd 5 rfl fun K t=>?_;go_simp
    (first
     |(go_at_call 66;(first|with_reducible refine(D.out _ (Zk (by with_reducible assumption)).below).mono ?_|with_reducible refine(I.out _ (Zk (by with_reducible assumption)).below).mono ?_);rintro e w5 ⟨rfl,f⟩;have p:=Lib.hid (ZD p.out f))
     |(go_at_call 147;go_fit (HW.out _ (Zk (by with_reducible assumption)).below);rintro e w6 ⟨rfl,f⟩;have p:=Lib.hid (ZD p.out f)))
    go_wp2_with fail;refine t.out _ _ (((Zk (by with_reducible assumption)).keep (by with_reducible assumption)).cells s.out) (fun j=>?_);clear t K a f;have a:=j;clear j;(try simp only[cl,Act.put]);refine rd 8 rfl fun K t=>?_;go_simp
    (first
     |(go_at_call 66;(first|with_reducible refine(D.out _ (Zk (by with_reducible assumption)).below).mono ?_|with_reducible refine(I.out _ (Zk (by with_reducible assumption)).below).mono ?_);rintro e w5 ⟨rfl,f⟩;have p:=Lib.hid (ZD p.out f))
     |(go_at_call 147;go_fit (HW.out _ (Zk (by with_reducible assumption)).below);rintro e w6 ⟨rfl,f⟩;have p:=Lib.hid (ZD p.out f)))
    go_wp2_with fail;refine t.out _ _ (((Zk (by with_reducible assumption)).keep (by with_reducible assumption)).cells s.out) (fun j=>?_);clear t K a f;have a:=j;clear j;(try simp only[cl,Act.put]);refine rd 9 rfl fun K t=>?_;go_simp
    (first
     |(go_at_call 66;(first|with_reducible refine(D.out _ (Zk (by with_reducible assumption)).below).mono ?_|with_reducible refine(I.out _ (Zk (by with_reducible assumption)).below).mono ?_);rintro e w5 ⟨rfl,f⟩;have p:=Lib.hid (ZD p.out f))
     |(go_at_call 147;go_fit (HW.out _ (Zk (by with_reducible assumption)).below);rintro e w6 ⟨rfl,f⟩;have p:=Lib.hid (ZD p.out f)))
    go_wp2_with fail;refine t.out _ _ (((Zk (by with_reducible assumption)).keep (by with_reducible assumption)).cells s.out) (fun j=>?_);clear t K a f;have a:=j;clear j;(try simp only[cl,Act.put]);refine tk 10 rfl ?_;refine tk 11 rfl ?_;refine tk 12 rfl ?_;refine tk 13 rfl ?_;(try simp only[cl,Act.put]);refine rd 14 rfl fun K t=>?_;go_simp;refine t.out _ _ ?_ (fun j=>?_)
    ·exact(((Zk (by with_reducible assumption)).set _ _).set _ _).cells s.out
    clear t K a;have a:=j;clear j;(try simp only[cl,Act.put]);refine tk 15 rfl ?_;(try simp only[cl,Act.put]);refine wpAnyH_done (by kernel_rfl) ?_ _;refine NoPanic.normal ?_;have H:=Zk a;clear a;have k0:=H.E.k0;have k1:=H.E.k1;have k2:=H.E.k2;have l0:=H.E.l0;have l1:=H.E.l1;have l2:=H.E.l2;have N:=Lib.hid H.below;clear H;go_wp2_with fail;obtain⟨c0,c1,c2⟩:=Zag (x:=Yc Yb 0 0) (y:=Yd Yf 0) (z:=Yd Yf 0) k0 k1 k2;refine bodyPost_ret (v:=.tuple #[.agg #[Yc Yb 0 0,Yd Yf 0,Yd Yf 0],Yd Yf 3]) (by simp[results,Tryz.results45,go_sem,c0,c1,c2]) rfl ⟨_,rfl,Za.nil _,?_,Zp.none_ _ _ _⟩;exact((N.out.setCell (by show w.heap.size<=w.heap.size+1+1;omega) _).setCell (by show w.heap.size<=w.heap.size+1+1;omega) _).setCell (by show w.heap.size<=w.heap.size+1+1;omega) _
end Go.Proofs.YtbfnnolakggbfaaGreatDoor
