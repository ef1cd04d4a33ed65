import Derived.Deep.DeepFit
import Derived.Test.YtbfnnolakggbfaaGreatDoorQAX
import Derived.Test.YtbfnnolakggbfaaGreatDoorQBA
import Derived.Test.YtbfnnolakggbfaaGreatDoorQBB
import Derived.Test.YtbfnnolakggbfaaGreatDoorQBC
import Derived.Test.YtbfnnolakggbfaaGreatDoorQBK
import Derived.Test.YtbfnnolakggbfaaGreatDoorQBL
set_option maxRecDepth 100000
set_option maxHeartbeats 8000000
open Option renaming some → Ya, none → Yb
open Go.Value renaming slice → Yc, int → Yd
open Go.IntKind renaming i64 → Yf
open Go.Obj renaming cells → Yg
open Go renaming World → Yh, Value → Yi
open Go.RowKit Go.WideShapes
namespace Go.Proofs.YtbfnnolakggbfaaGreatDoor
theorem ZiG (w:Yh) (c d:Yi) (l m:List (Int×Int)) (b a:Int) (e:Za w c l) (f:Za w d m) (g:Zz l) (hm:Zz m) (h:-9223372036854775808<=b) (i:b<=9223372036854775807) (j:-9223372036854775808<=a) (k:a<=9223372036854775807) :
  Calls Tryz.prog 129 #[.agg #[c,Yd Yf b,Yd Yf a],d] w fun r w'=>r=.returned (.tuple #[Zb (Zaa l m (b,a)).1.1 (Zaa l m (b,a)).1.2,Yd Yf (Zaa l m (b,a)).2])/\Below w.heap.size w w':=by
 cases hr:ZM l b a
 ·exact Zoc w c d l m b a e f g h i j k hr
 ·exact Zob w c d l m b a e f g hm h i j k hr
def ZfH (w:Yh) (r:Option (Int×Int)) (e:Ending) (w':Yh):Prop:=
 (match r with
  |some x=>e=.returned (.tuple #[Zb x.1 x.2,.bool true])
  |none=>∃z:Int×Int,e=.returned (.tuple #[Zb z.1 z.2,.bool false]))/\Below w.heap.size w w'
theorem LowS.other {W wr:Yh} {a:Int×Int} (h:LowS W wr a) {p:Addr} (b:p.block≠W.heap.size) (c:p.block≠W.heap.size+1) (d:W.heap.size<=p.block) (v:Yi):LowS W (wr.setCell p v) a:=
 ⟨h.R.other b v,h.L.other c v,h.below.setCell d v⟩
theorem ZqW {x:Int×Int} (h:OkR x):-9223372036854775807<=x.1/\x.1<=9223372036854775807:=by obtain⟨d,e,v⟩:=h;have:=v.n_le;omega
theorem Zld {x:Int×Int} (b:OkR x) (w:Yh):Calls Tryz.prog 158 #[Zb x.1 x.2,Zb 0 0] w fun r w'=>r=.returned (Yd Yf 0)/\Below w.heap.size w w':=by
 have a:=b.wide;have c:Zaf x.1 x.2=true:=by obtain⟨d,e,v⟩:=b;rw[e];exact v.right
 exact ZlL x.1 x.2 0 0 w (fun w=>ZaC _ _ w a.1.1 a.1.2 a.2.1 a.2.2) (fun w=>ZaC 0 0 w (by decide) (by decide) (by decide) (by decide)) (.inr ⟨c,by decide⟩)
theorem Zra (a b:Int) (d e:Nat):0<ZbY (-a) (-b) d e↔a*(e:Int)<b*(d:Int):=by
 unfold ZbY;rw[Int.neg_mul,Int.neg_mul];by_cases h:-(a*(e:Int)) < -(b*(d:Int))
 ·rw[Yo h];exact⟨fun q=>absurd q (by decide),fun q=>by omega⟩
 ·rw[Yn h];by_cases c:-(a*(e:Int))=-(b*(d:Int))
  ·rw[Yo c];exact⟨fun q=>absurd q (by decide),fun q=>by omega⟩
  ·rw[Yn c];exact⟨fun _=>by omega,fun _=>by decide⟩
theorem Zn6 (w:Yh) (v vb:Yi) (ts:List Rw) (m:List (Int×Int)) (h:ZA w v ts) (hw:∀r∈ts,Zz r.2.1/\Bd r.2.2) (hb:Za w vb m) (hm:Zz m) :
  Calls Tryz.prog 153 #[v,vb,.bool true] w (ZfH w ((Za4 ts m ts.length).map Zv)):=by
 obtain⟨A,c,rs,rfl,h2,h3,h4,h5,h6⟩:=h;obtain⟨n,hn⟩:∃n,n=ts.length:=⟨_,rfl⟩
 have aj:rs.length=n:=by rw[hn,<-h4,List.length_map]
 have ai:n<=9223372036854775807:=by unfold maxLen at h3;omega
 rw[<-hn]at h2 h5⊢;obtain⟨N,I⟩:∃N,N=(Za4 ts m n).map Zv:=⟨_,rfl⟩
 rw[<-I];obtain⟨C,d,rfl⟩:=Zc hb;have J:=zh (zi aj (zi h4 (zi ai (zi h6 (zi hn (zi I (zi hw (zi hb hm))))))));have H5:=zh h5
 have S0:=zh (show LowS w ((w.alloc (Yg #[Yd Yf 0,Yd Yf 0] 23)).alloc (Yg #[Yd Yf 0,Yd Yf 0] 23)) (0,0)from by
  have B1:=Blk.start (w.alloc (Yg #[Yd Yf 0,Yd Yf 0] 23)) #[Yd Yf 0,Yd Yf 0] 23;rw[World.size_alloc]at B1
  exact⟨(Blk.start w #[Yd Yf 0,Yd Yf 0] 23).keep (below_alloc1 _ _),B1,below_alloc2 _ _ _⟩)
 generalize m.length=lm at *;clear hn aj h2 h3 h4 h5 h6 ai I hw hb hm;go_enter Tryz.func153,Tryz.ntmps153;go_upto_region 2 with fail;generalize(w.alloc (Yg #[Yd Yf 0,Yd Yf 0] 23)).alloc (Yg #[Yd Yf 0,Yd Yf 0] 23)=w1 at *;go_wp2_with fail;go_loopg [9] n (fun g v9 wr=>∃(k:Nat) (K:Int×Int),v9=Yd Yf k/\k<=n/\g=n-k/\Za4 ts m k=Ya K/\(k=0\/OkR K)/\(k=0->K=(0,0))/\LowS w wr (Zv K))
 case atStart=>exact⟨0,(0,0),rfl,Nat.zero_le _,rfl,rfl,.inl rfl,fun _=>rfl,S0.out⟩
 case round=>
  clear S0;obtain⟨k,K,rfl,hk,hg,M,T,W,D⟩:=hrel;by_cases S:k=n
  ·have e:N=Ya (Zv K):=by rw[J.out.2.2.2.2.2.1,<-S,M];rfl
   have HD:=zh (zi D e);have l0:=D.L.cell 0;have l1:=D.L.cell 1;have r0:=D.R.cell 0;have r1:=D.R.cell 1;have q0:=D.R.free 0;have q1:=D.R.free 1;subst S;clear hk hg M T W D e;generalize(Zv K)=E at *;obtain⟨f,t⟩:=E;dsimp only at l0 l1;go_wp2_with fail;have B5:=(HD.out.1.R.set 0 (Yd Yf f)).set 1 (Yd Yf t);have z0:=B5.cell 0;have z1:=B5.cell 1;rw[HD.out.2];exact bodyPost_ret (v:=.tuple #[Zb f t,.bool true]) (by simp[results,Tryz.results153,go_sem,z0,z1]) rfl ⟨rfl,(HD.out.1.below.setCell (p:=⟨w.heap.size,0,Yb⟩) (Nat.le_refl _) _).setCell (p:=⟨w.heap.size,1,Yb⟩) (Nat.le_refl _) _⟩
  ·have ah:k<n:=by omega
   obtain⟨x,hx⟩:∃x,rs[k]? = Ya x:=⟨_,Ym (by have:=J.out.1;omega)⟩
   obtain⟨ad,rfl,d0,d1,d2,d3⟩:=ZaT H5.out D.below hx (by omega);have hr:=J.out.2.2.2.1 x (List.mem_of_getElem? hx);have U:ts[k]? = Ya x.2:=by rw[<-J.out.2.1,List.getElem?_map,hx];rfl
   have l:=J.out.2.2.2.2.2.2.1 x.2 (List.mem_of_getElem? U);have tv:=fun(Z:Yh) (h:Below w.heap.size w Z)=>ZiG Z x.1 (Yc C lm d) x.2.2.1 m x.2.2.2.1 x.2.2.2.2 (hr.below h) (J.out.2.2.2.2.2.2.2.1.below h) l.1 J.out.2.2.2.2.2.2.2.2 l.2.1.1 l.2.1.2 l.2.2.1 l.2.2.2
   have vk:=fun(e:(Zaa x.2.2.1 m x.2.2.2).2=0)=>by
    obtain⟨a,b,c,_,q⟩:=ZeP l.1 l.2 J.out.2.2.2.2.2.2.2.2 e;exact Zda a c b 8 _ q
   have o:Za4 ts m (k+1)=if(Zaa x.2.2.1 m x.2.2.2).2=0 then Ya (ZbX k K (Zaa x.2.2.1 m x.2.2.2).1)else Yb:=by rw[Za4,M,Option.bind_some,U]
   have i1:(k:Int)<(n:Int):=by omega
   have i2:(0:Int)<=(k:Int):=by omega
   have wk:IntKind.i64.wrap ((k:Int)+1)=(k:Int)+1:=IntWalk.i64_in _ (by have:=J.out.2.2.1;omega);obtain⟨Ax,cx,az⟩:=Zc hr;obtain⟨x0,xo,xl,x1,x2⟩:=x;dsimp only at *;subst az;generalize Zaa xl m (x1,x2)=V at *;obtain⟨⟨i,v2⟩,af⟩:=V;dsimp only at *;have TV:=zh tv;have u:=zh (zi ah (zi hg (zi o (zi T (zi vk (zi W D))))));clear ah hg o T vk W D tv hr U l hx S hk M;go_upto_region 6 with(go_at_call 129;go_fit (TV.out _ u.out.2.2.2.2.2.2.below);rintro e5 w3 ⟨rfl,ag⟩)
   have a2:=below_alloc1 w3 (Yg #[Yd Yf i,Yd Yf v2] 23);have VB:=Blk.start w3 #[Yd Yf i,Yd Yf v2] 23;have D3:=u.out.2.2.2.2.2.2.keep ag;have s:=zh (zi (D3.keep a2) (zi VB (show w.heap.size+1<w3.heap.size from D3.L.lt)));clear a2 VB ag d0 d1 d2 d3 D3;generalize w3.heap.size=B at *;generalize w3.alloc (Yg #[Yd Yf i,Yd Yf v2] 23)=w4 at *;by_cases he:af=0
   ·subst he;have o:=u.out.2.2.1;rw[Yo rfl]at o;have X:=u.out.2.2.2.2.1 rfl;have wn:IntKind.i64.wrap (-i)=-i:=IntWalk.i64_in _ (by have:=X.wide;unfold Bd at this;have hb:=ZqW X;omega);have Y:w4.cell? ⟨B,0,Yb⟩=Ya (Yd Yf i):=s.out.2.1.cell 0;have g0:=s.out.2.1.free 0;go_upto_region 10 with fail;have P:=zh (zi (s.out.1.other (p:=⟨B,0,Yb⟩) (by show B≠w.heap.size;have:=s.out.2.2;omega) (by show B≠w.heap.size+1;have:=s.out.2.2;omega) (by show w.heap.size<=B;have:=s.out.2.2;omega) (Yd Yf (-i))) (s.out.2.1.set 0 (Yd Yf (-i))));clear Y g0 wn;generalize w4.setCell ⟨B,0,Yb⟩ (Yd Yf (-i))=w5 at *;have Y:w5.cell? ⟨B,0,Yb⟩=Ya (Yd Yf (-i)):=P.out.2.cell 0;have f1:w5.cell? ⟨B,1,Yb⟩=Ya (Yd Yf v2):=P.out.2.cell 1;have l0:=P.out.1.L.cell 0;have l1:=P.out.1.L.cell 1;by_cases j:k=0
    ·subst j;have z:=u.out.2.2.2.2.2.1 rfl;subst z;have NX:=zh (show Za4 ts m (0+1)=Ya (i,v2)from by rw[o];unfold ZbX;rw[Yo (.inl rfl)]);have cb:=fun Z=>Zld X.neg Z;replace l0:w5.cell? ⟨w.heap.size+1,0,Yb⟩=Ya (Yd Yf 0):=l0;replace l1:w5.cell? ⟨w.heap.size+1,1,Yb⟩=Ya (Yd Yf 0):=l1;have CB:=zh cb;clear o cb;go_upto_region 11 with(go_at_call 158;go_fit (CB.out _);rintro e7 O ⟨rfl,H⟩)
     have y:=P.out.1.keep H;have V5:=P.out.2.keep H;clear Y f1 l0 l1;have Y:O.cell? ⟨B,0,Yb⟩=Ya (Yd Yf (-i)):=V5.cell 0;have f1:O.cell? ⟨B,1,Yb⟩=Ya (Yd Yf v2):=V5.cell 1;have l0:O.cell? ⟨w.heap.size+1,0,Yb⟩=Ya (Yd Yf 0):=y.L.cell 0;have l1:O.cell? ⟨w.heap.size+1,1,Yb⟩=Ya (Yd Yf 0):=y.L.cell 1;have m0:=y.L.free 0;have m1:=y.L.free 1;go_wp2_with fail;go_roundg (n-1)
     case measure=>have:=u.out;omega
     case rel=>exact⟨1,(i,v2),by first|rfl|simp,by have:=u.out;omega,rfl,NX.out,.inr X,(fun q=>absurd q (by decide)),y.put (-i,v2)⟩
    ·have b4:((k:Int)==0)=false:=by simpa using j
     have ol:=u.out.2.2.2.1.resolve_left j;obtain⟨f,t⟩:=K;obtain⟨F,G,e1,e2,vx,vl,hc⟩:=Zlc X ol;dsimp only at e1 e2 vx vl hc l0 l1;subst e1 e2;have cm:=fun Z=>Zlb vx.neg vl.neg Z;have hc:0<ZbY (-i) (-f) F G↔i*(G:Int)<f*(F:Int):=Zra i f F G;have pk:ZbX k (f,(G:Int)) (i,(F:Int))=if 0<ZbY (-i) (-f) F G then(i,(F:Int))else(f,(G:Int)):=by
      unfold ZbX;dsimp only;by_cases q:0<ZbY (-i) (-f) F G
      ·rw[Yo q,Yo (.inr (hc.1 q))]
      ·rw[Yn q,Yn];rintro(a|a)
       ·exact j a
       ·exact q (hc.2 a)
     rw[pk]at o;generalize ZbY (-i) (-f) F G=cv at *;replace l0:w5.cell? ⟨w.heap.size+1,0,Yb⟩=Ya (Yd Yf (-f)):=l0;replace l1:w5.cell? ⟨w.heap.size+1,1,Yb⟩=Ya (Yd Yf G):=l1;have CM:=zh cm;have HO:=zh (zi X ol);clear cm pk hc vx vl X ol;go_upto_region 11 with(go_at_call 158;go_fit (CM.out _);rintro e7 O ⟨rfl,H⟩)
     have y:=P.out.1.keep H;have V5:=P.out.2.keep H;clear Y f1 l0 l1;have Y:O.cell? ⟨B,0,Yb⟩=Ya (Yd Yf (-i)):=V5.cell 0;have f1:O.cell? ⟨B,1,Yb⟩=Ya (Yd Yf F):=V5.cell 1;have l0:O.cell? ⟨w.heap.size+1,0,Yb⟩=Ya (Yd Yf (-f)):=y.L.cell 0;have l1:O.cell? ⟨w.heap.size+1,1,Yb⟩=Ya (Yd Yf G):=y.L.cell 1;have m0:=y.L.free 0;have m1:=y.L.free 1;by_cases Q:0<cv
     ·rw[Yo Q]at o;have NX:=zh o;have ar:=zh j;clear o j;go_wp2_with fail;go_roundg (n-(k+1))
      case measure=>have:=u.out;omega
      case rel=>exact⟨k+1,(i,(F:Int)),by push_cast;rfl,by have:=u.out;omega,rfl,NX.out,.inr HO.out.1,(fun q=>absurd q (by omega)),y.put (-i,(F:Int))⟩
     ·rw[Yn Q]at o;have NX:=zh o;have ar:=zh j;clear o j;go_wp2_with fail;go_roundg (n-(k+1))
      case measure=>have:=u.out;omega
      case rel=>exact⟨k+1,(f,(G:Int)),by push_cast;rfl,by have:=u.out;omega,rfl,NX.out,.inr HO.out.2,(fun q=>absurd q (by omega)),y⟩
   ·have b5:(af != 0)=true:=by simpa using he
    have o:=u.out.2.2.1;rw[Yn he]at o
    have RN:=zh (show N=Yb from by
     rw[J.out.2.2.2.2.2.1];have:=Zfh (n-(k+1)) o;rw[show k+1+(n-(k+1))=n by have:=u.out.1;omega]at this
     rw[this];rfl)
    have l0:=s.out.1.L.cell 0;have l1:=s.out.1.L.cell 1;have r0:=s.out.1.R.cell 0;have r1:=s.out.1.R.cell 1;have q0:=s.out.1.R.free 0;have q1:=s.out.1.R.free 1;clear o he;generalize(Zv K)=E at *;obtain⟨f,t⟩:=E;dsimp only at l0 l1;go_wp2_with fail;have B5:=(s.out.1.R.set 0 (Yd Yf f)).set 1 (Yd Yf t);have z0:=B5.cell 0;have z1:=B5.cell 1;rw[RN.out];exact bodyPost_ret (v:=.tuple #[Zb f t,.bool false]) (by simp[results,Tryz.results153,go_sem,z0,z1]) rfl ⟨⟨(f,t),rfl⟩,(s.out.1.below.setCell (p:=⟨w.heap.size,0,Yb⟩) (Nat.le_refl _) _).setCell (p:=⟨w.heap.size,1,Yb⟩) (Nat.le_refl _) _⟩
theorem Zn5 (w:Yh) (v vb:Yi) (ts:List Rw) (m:List (Int×Int)) (h:ZA w v ts) (hw:∀r∈ts,Zz r.2.1/\Bd r.2.2) (hb:Za w vb m) (hm:Zz m) :
  Calls Tryz.prog 153 #[v,vb,.bool false] w (ZfH w (Za4 ts m ts.length)):=by
 obtain⟨A,c,rs,rfl,h2,h3,h4,h5,h6⟩:=h;obtain⟨n,hn⟩:∃n,n=ts.length:=⟨_,rfl⟩
 have ah:rs.length=n:=by rw[hn,<-h4,List.length_map]
 have ag:n<=9223372036854775807:=by unfold maxLen at h3;omega
 rw[<-hn]at h2 h5⊢;obtain⟨J,E⟩:∃J,J=Za4 ts m n:=⟨_,rfl⟩
 rw[<-E];obtain⟨C,d,rfl⟩:=Zc hb;have G:=zh (zi ah (zi h4 (zi ag (zi h6 (zi hn (zi E (zi hw (zi hb hm))))))));have H5:=zh h5
 have S0:=zh (show LowS w ((w.alloc (Yg #[Yd Yf 0,Yd Yf 0] 23)).alloc (Yg #[Yd Yf 0,Yd Yf 0] 23)) (0,0)from by
  have B1:=Blk.start (w.alloc (Yg #[Yd Yf 0,Yd Yf 0] 23)) #[Yd Yf 0,Yd Yf 0] 23;rw[World.size_alloc]at B1
  exact⟨(Blk.start w #[Yd Yf 0,Yd Yf 0] 23).keep (below_alloc1 _ _),B1,below_alloc2 _ _ _⟩)
 generalize m.length=lm at *;clear hn ah h2 h3 h4 h5 h6 ag E hw hb hm;go_enter Tryz.func153,Tryz.ntmps153;go_upto_region 2 with fail;generalize(w.alloc (Yg #[Yd Yf 0,Yd Yf 0] 23)).alloc (Yg #[Yd Yf 0,Yd Yf 0] 23)=w1 at *;go_wp2_with fail;go_loopg [9] n (fun g v9 wr=>∃(k:Nat) (H:Int×Int),v9=Yd Yf k/\k<=n/\g=n-k/\Za4 ts m k=Ya H/\(k=0\/OkR H)/\(k=0->H=(0,0))/\LowS w wr H)
 case atStart=>exact⟨0,(0,0),rfl,Nat.zero_le _,rfl,rfl,.inl rfl,fun _=>rfl,S0.out⟩
 case round=>
  clear S0;obtain⟨k,H,rfl,hk,hg,I,S,U,D⟩:=hrel;by_cases Q:k=n
  ·have e:J=Ya H:=by rw[G.out.2.2.2.2.2.1,<-Q,I]
   have HD:=zh (zi D e);have l0:=D.L.cell 0;have l1:=D.L.cell 1;have r0:=D.R.cell 0;have r1:=D.R.cell 1;have q0:=D.R.free 0;have q1:=D.R.free 1;subst Q;clear hk hg I S U D e;generalize H=y at *;obtain⟨f,s⟩:=y;dsimp only at l0 l1;go_wp2_with fail;have Z:=(HD.out.1.R.set 0 (Yd Yf f)).set 1 (Yd Yf s);have z0:=Z.cell 0;have z1:=Z.cell 1;rw[HD.out.2];exact bodyPost_ret (v:=.tuple #[Zb f s,.bool true]) (by simp[results,Tryz.results153,go_sem,z0,z1]) rfl ⟨rfl,(HD.out.1.below.setCell (p:=⟨w.heap.size,0,Yb⟩) (Nat.le_refl _) _).setCell (p:=⟨w.heap.size,1,Yb⟩) (Nat.le_refl _) _⟩
  ·have af:k<n:=by omega
   obtain⟨x,hx⟩:∃x,rs[k]? = Ya x:=⟨_,Ym (by have:=G.out.1;omega)⟩
   obtain⟨ad,rfl,d0,d1,d2,d3⟩:=ZaT H5.out D.below hx (by omega);have hr:=G.out.2.2.2.1 x (List.mem_of_getElem? hx);have T:ts[k]? = Ya x.2:=by rw[<-G.out.2.1,List.getElem?_map,hx];rfl
   have j:=G.out.2.2.2.2.2.2.1 x.2 (List.mem_of_getElem? T);have tv:=fun(X:Yh) (h:Below w.heap.size w X)=>ZiG X x.1 (Yc C lm d) x.2.2.1 m x.2.2.2.1 x.2.2.2.2 (hr.below h) (G.out.2.2.2.2.2.2.2.1.below h) j.1 G.out.2.2.2.2.2.2.2.2 j.2.1.1 j.2.1.2 j.2.2.1 j.2.2.2
   have vk:=fun(e:(Zaa x.2.2.1 m x.2.2.2).2=0)=>by
    obtain⟨a,b,c,_,q⟩:=ZeP j.1 j.2 G.out.2.2.2.2.2.2.2.2 e;exact Zda a c b 8 _ q
   have l:Za4 ts m (k+1)=if(Zaa x.2.2.1 m x.2.2.2).2=0 then Ya (ZbX k H (Zaa x.2.2.1 m x.2.2.2).1)else Yb:=by rw[Za4,I,Option.bind_some,T]
   have i1:(k:Int)<(n:Int):=by omega
   have i2:(0:Int)<=(k:Int):=by omega
   have wk:IntKind.i64.wrap ((k:Int)+1)=(k:Int)+1:=IntWalk.i64_in _ (by have:=G.out.2.2.1;omega);obtain⟨Ax,cx,az⟩:=Zc hr;obtain⟨x0,xo,xl,x1,x2⟩:=x;dsimp only at *;subst az;generalize Zaa xl m (x1,x2)=V at *;obtain⟨⟨o,v2⟩,ac⟩:=V;dsimp only at *;have TV:=zh tv;have t:=zh (zi af (zi hg (zi l (zi S (zi vk (zi U D))))));clear af hg l S vk U D tv hr T j hx Q hk I;go_upto_region 6 with(go_at_call 129;go_fit (TV.out _ t.out.2.2.2.2.2.2.below);rintro e5 w3 ⟨rfl,ae⟩)
   have a2:=below_alloc1 w3 (Yg #[Yd Yf o,Yd Yf v2] 23);have VB:=Blk.start w3 #[Yd Yf o,Yd Yf v2] 23;have D3:=t.out.2.2.2.2.2.2.keep ae;have F:=zh (zi (D3.keep a2) (zi VB (show w.heap.size+1<w3.heap.size from D3.L.lt)));clear a2 VB ae d0 d1 d2 d3 D3;generalize w3.heap.size=W at *;generalize w3.alloc (Yg #[Yd Yf o,Yd Yf v2] 23)=w4 at *;by_cases he:ac=0
   ·subst he;have l:=t.out.2.2.1;rw[Yo rfl]at l;have ov:=t.out.2.2.2.2.1 rfl;go_upto_region 10 with fail;have M:=zh (zi F.out.1 F.out.2.1);generalize w4=Y at *;have f0:Y.cell? ⟨W,0,Yb⟩=Ya (Yd Yf o):=M.out.2.cell 0;have f1:Y.cell? ⟨W,1,Yb⟩=Ya (Yd Yf v2):=M.out.2.cell 1;have l0:=M.out.1.L.cell 0;have l1:=M.out.1.L.cell 1;by_cases i:k=0
    ·subst i;have z:=t.out.2.2.2.2.2.1 rfl;subst z;have NX:=zh (show Za4 ts m (0+1)=Ya (o,v2)from by rw[l];unfold ZbX;rw[Yo (.inl rfl)]);have cb:=fun X=>Zld ov X;replace l0:Y.cell? ⟨w.heap.size+1,0,Yb⟩=Ya (Yd Yf 0):=l0;replace l1:Y.cell? ⟨w.heap.size+1,1,Yb⟩=Ya (Yd Yf 0):=l1;have CB:=zh cb;clear l cb;go_upto_region 11 with(go_at_call 158;go_fit (CB.out _);rintro e7 K ⟨rfl,B⟩)
     have u:=M.out.1.keep B;have V5:=M.out.2.keep B;clear f0 f1 l0 l1;have f0:K.cell? ⟨W,0,Yb⟩=Ya (Yd Yf o):=V5.cell 0;have f1:K.cell? ⟨W,1,Yb⟩=Ya (Yd Yf v2):=V5.cell 1;have l0:K.cell? ⟨w.heap.size+1,0,Yb⟩=Ya (Yd Yf 0):=u.L.cell 0;have l1:K.cell? ⟨w.heap.size+1,1,Yb⟩=Ya (Yd Yf 0):=u.L.cell 1;have m0:=u.L.free 0;have m1:=u.L.free 1;go_wp2_with fail;go_roundg (n-1)
     case measure=>have:=t.out;omega
     case rel=>exact⟨1,(o,v2),by first|rfl|simp,by have:=t.out;omega,rfl,NX.out,.inr ov,(fun q=>absurd q (by decide)),u.put (o,v2)⟩
    ·have b2:((k:Int)==0)=false:=by simpa using i
     have ol:=t.out.2.2.2.1.resolve_left i;obtain⟨f,s⟩:=H;obtain⟨N,O,e1,e2,vx,vl,hc⟩:=Zlc ov ol;dsimp only at e1 e2 vx vl hc l0 l1;subst e1 e2;have cm:=fun X=>Zlb vx vl X;have pk:ZbX k (f,(O:Int)) (o,(N:Int))=if ZbY o f N O<0 then(o,(N:Int))else(f,(O:Int)):=by
      unfold ZbX;dsimp only;by_cases q:ZbY o f N O<0
      ·rw[Yo q,Yo (.inr (hc.1 q))]
      ·rw[Yn q,Yn];rintro(a|a)
       ·exact i a
       ·exact q (hc.2 a)
     rw[pk]at l;generalize ZbY o f N O=cv at *;replace l0:Y.cell? ⟨w.heap.size+1,0,Yb⟩=Ya (Yd Yf f):=l0;replace l1:Y.cell? ⟨w.heap.size+1,1,Yb⟩=Ya (Yd Yf O):=l1;have CM:=zh cm;have HO:=zh (zi ov ol);clear cm pk hc vx vl ov ol;go_upto_region 11 with(go_at_call 158;go_fit (CM.out _);rintro e7 K ⟨rfl,B⟩)
     have u:=M.out.1.keep B;have V5:=M.out.2.keep B;clear f0 f1 l0 l1;have f0:K.cell? ⟨W,0,Yb⟩=Ya (Yd Yf o):=V5.cell 0;have f1:K.cell? ⟨W,1,Yb⟩=Ya (Yd Yf N):=V5.cell 1;have l0:K.cell? ⟨w.heap.size+1,0,Yb⟩=Ya (Yd Yf f):=u.L.cell 0;have l1:K.cell? ⟨w.heap.size+1,1,Yb⟩=Ya (Yd Yf O):=u.L.cell 1;have m0:=u.L.free 0;have m1:=u.L.free 1;by_cases P:cv<0
     ·rw[Yo P]at l;have NX:=zh l;have aq:=zh i;clear l i;go_wp2_with fail;go_roundg (n-(k+1))
      case measure=>have:=t.out;omega
      case rel=>exact⟨k+1,(o,(N:Int)),by push_cast;rfl,by have:=t.out;omega,rfl,NX.out,.inr HO.out.1,(fun q=>absurd q (by omega)),u.put (o,(N:Int))⟩
     ·rw[Yn P]at l;have NX:=zh l;have aq:=zh i;clear l i;go_wp2_with fail;go_roundg (n-(k+1))
      case measure=>have:=t.out;omega
      case rel=>exact⟨k+1,(f,(O:Int)),by push_cast;rfl,by have:=t.out;omega,rfl,NX.out,.inr HO.out.2,(fun q=>absurd q (by omega)),u⟩
   ·have b3:(ac != 0)=true:=by simpa using he
    have l:=t.out.2.2.1;rw[Yn he]at l
    have RN:=zh (show J=Yb from by
     rw[G.out.2.2.2.2.2.1];have:=Zfh (n-(k+1)) l;rw[show k+1+(n-(k+1))=n by have:=t.out.1;omega]at this
     rw[this])
    have l0:=F.out.1.L.cell 0;have l1:=F.out.1.L.cell 1;have r0:=F.out.1.R.cell 0;have r1:=F.out.1.R.cell 1;have q0:=F.out.1.R.free 0;have q1:=F.out.1.R.free 1;clear l he;generalize H=y at *;obtain⟨f,s⟩:=y;dsimp only at l0 l1;go_wp2_with fail;have Z:=(F.out.1.R.set 0 (Yd Yf f)).set 1 (Yd Yf s);have z0:=Z.cell 0;have z1:=Z.cell 1;rw[RN.out];exact bodyPost_ret (v:=.tuple #[Zb f s,.bool false]) (by simp[results,Tryz.results153,go_sem,z0,z1]) rfl ⟨⟨(f,s),rfl⟩,(F.out.1.below.setCell (p:=⟨w.heap.size,0,Yb⟩) (Nat.le_refl _) _).setCell (p:=⟨w.heap.size,1,Yb⟩) (Nat.le_refl _) _⟩
def ZmY (w:Yh) (v:Yi) (l:List Rw):Prop:=
 ∀(a:Yh),Below w.heap.size w a->∀(c:Yi) (t:Trm) (b:Int),Za a c t.1->Zz t.1->Bd t.2->(b=1\/b=2) ->
  Calls Tryz.prog 32 #[v,.agg #[c,Yd Yf t.2.1,Yd Yf t.2.2],Yd Yf b] a fun e d=>e=.returned (Yd Yf (Zbd l t b))/\Below a.heap.size a d
theorem ZmH (w:Yh) (v y:Yi) (l:List Rw) (r:Rw) (N:ZmY w v l) (E:Za w y r.2.1) (j:Zac r) :
  Calls Tryz.prog 16 #[v,.agg #[Yd Yf r.1,y,Yd Yf r.2.2.1,Yd Yf r.2.2.2]] w fun e w'=>e=.returned (Yd Yf (Zn0 l r))/\Below w.heap.size w w':=by
 obtain⟨b,t⟩:=r;dsimp only at *;have a0:=below_alloc1 w (Yg #[Yd Yf b,y,Yd Yf t.2.1,Yd Yf t.2.2] 39);have W:=fun(w':Yh) (h:Below w.heap.size w w')=>N w' h y t 1 (E.below h) j.1 j.2.1 (.inl rfl);have K:=fun(w':Yh) (h:Below w.heap.size w w')=>N w' h y t 2 (E.below h) j.1 j.2.1 (.inr rfl);have X:=fun(w':Yh) (h:Below w.heap.size w w')=>Zdk w' y t.1 t.2 (-1,1) (E.below h) j.1 j.2.1 Zb7;have Y:=ZaP (l:=t.1) (kx:=t.2) (kb:=(-1,1)) j.1 j.2.1 Zb7;have hE:Zn0 l (b,t)=if b=1 then Zbd l t 2 else if b=2 then Zbd l t 1 else if b=0 then(if Zbd l t 2≠0 then Zbd l t 2 else if(Zh t.1 t.2 (-1,1)).2.2≠0 then 2 else Zbd l ((Zh t.1 t.2 (-1,1)).1,(Zh t.1 t.2 (-1,1)).2.1) 2)else 2:=rfl;rw[hE];have M:=fun(w':Yh) (h:Below w.heap.size w w') (va:Yi) (hv:Za w' va (Zh t.1 t.2 (-1,1)).1)=>N w' h va ((Zh t.1 t.2 (-1,1)).1,(Zh t.1 t.2 (-1,1)).2.1) 2 hv Y.1 Y.2 (.inr rfl);dsimp only at M;generalize Zbd l t 2=k at *;generalize Zbd l t 1=n1 at *;generalize Zbd l ((Zh t.1 t.2 (-1,1)).1,(Zh t.1 t.2 (-1,1)).2.1) 2=U at *;generalize Zh t.1 t.2 (-1,1)=P at *;obtain⟨L,⟨G,H⟩,x⟩:=P;obtain⟨tl,T,S⟩:=t;dsimp only at *;obtain⟨A,c,rfl⟩:=Zc E;have D:=zh (zi a0 (Blk.start w #[Yd Yf b,Yc A tl.length c,Yd Yf T,Yd Yf S] 39));have W:=zh W;have K:=zh K;have M:=zh M;have X:=zh X;obtain⟨Z,hZ⟩:∃Z:Int,Z=if b=1 then k else if b=2 then n1 else if b=0 then(if k≠0 then k else if x≠0 then 2 else U)else 2:=⟨_,rfl⟩
 rw[<-hZ];have J:=zh hZ;clear a0 E j N Y hE hZ;generalize tl.length=n at *;go_enter Tryz.func16,Tryz.ntmps16;go_upto_region 1 with fail;generalize a:w.heap.size=s at *;generalize w.alloc (Yg #[Yd Yf b,Yc A n c,Yd Yf T,Yd Yf S] 39)=V at *;have r0:V.cell? ⟨s,0,Yb⟩=Ya (Yd Yf b):=D.out.2.cell 0;have r1:V.cell? ⟨s,1,Yb⟩=Ya (Yc A n c):=D.out.2.cell 1;have r2:V.cell? ⟨s,2,Yb⟩=Ya (Yd Yf T):=D.out.2.cell 2;have r3:V.cell? ⟨s,3,Yb⟩=Ya (Yd Yf S):=D.out.2.cell 3;by_cases i:b=1
 ·have f:=zh (show Z=k from by rw[J.out,Yo i]);subst i;go_wp2_with (go_at_call 32;go_fit (K.out _ D.out.1);rintro Q m ⟨rfl,d⟩);go_ret;exact⟨by rw[f.out];rfl,by rw[a];exact ZF a D.out.1 d⟩
 ·have e1:(b==1)=false:=by simpa using i
  by_cases u:b=2
  ·have f:=zh (show Z=n1 from by rw[J.out,Yn i,Yo u]);subst u;clear i e1;go_wp2_with (go_at_call 32;go_fit (W.out _ D.out.1);rintro Q m ⟨rfl,d⟩);go_ret;exact⟨by rw[f.out];rfl,by rw[a];exact ZF a D.out.1 d⟩
  ·have Q:(b==2)=false:=by simpa using u
   by_cases R:b=0
   ·subst R;have HX:=zh (show Z=(if k≠0 then k else if x≠0 then 2 else U)from by rw[J.out,Yn i,Yn u,Yo rfl]);clear i u e1 Q;go_upto_region 8 with(go_at_call 32;go_fit (K.out _ D.out.1);rintro Q m ⟨rfl,d⟩)
    have o:=zh (zi (ZF a D.out.1 d) (D.out.2.keep d));clear r0 r1 r2 r3 D d;have r1:m.cell? ⟨s,1,Yb⟩=Ya (Yc A n c):=o.out.2.cell 1;have r2:m.cell? ⟨s,2,Yb⟩=Ya (Yd Yf T):=o.out.2.cell 2;have r3:m.cell? ⟨s,3,Yb⟩=Ya (Yd Yf S):=o.out.2.cell 3;by_cases g:k=0
    ·have HW:=zh (show Z=(if x≠0 then 2 else U)from by rw[HX.out,Yn (fun q=>q g)]);subst g;go_upto_region 11 with(go_at_call 33;go_fit (X.out _ o.out.1);rintro e5 z H5;have H6:∃A c,e5=.returned (.tuple #[.agg #[Yc A L.length c,Yd Yf G,Yd Yf H],Yd Yf x])/\Za z (Yc A L.length c) L/\Below m.heap.size m z/\Zp m.heap.size (Yc A L.length c):=Zch H5;obtain⟨I,O,rfl,F,C,ac⟩:=H6)
     have a6:=below_alloc1 z (Yg #[Yc I L.length O,Yd Yf G,Yd Yf H] 37);have p:=zh (zi (ZF a (ZF a o.out.1 C) a6) (zi (Blk.start z #[Yc I L.length O,Yd Yf G,Yd Yf H] 37) (F.below a6)));clear r1 r2 r3 o H5 F C ac a6;generalize z.heap.size=b6 at *;generalize z.alloc (Yg #[Yc I L.length O,Yd Yf G,Yd Yf H] 37)=w6 at *;have x0:w6.cell? ⟨b6,0,Yb⟩=Ya (Yc I L.length O):=p.out.2.1.cell 0;have x1:w6.cell? ⟨b6,1,Yb⟩=Ya (Yd Yf G):=p.out.2.1.cell 1;have x2:w6.cell? ⟨b6,2,Yb⟩=Ya (Yd Yf H):=p.out.2.1.cell 2;by_cases B:x=0
     ·have f:=zh (show Z=U from by rw[HW.out,Yn (fun q=>q B)]);subst B;go_wp2_with (go_at_call 32;go_fit (M.out _ p.out.1 _ p.out.2.2);rintro e7 w7 ⟨rfl,ae⟩);go_ret;exact⟨by rw[f.out];rfl,by rw[a];exact ZF a p.out.1 ae⟩
     ·have ne:(x != 0)=true:=by simpa using B
      have f:=zh (show Z=2 from by rw[HW.out,Yo B]);clear B;go_wp2_with fail;go_ret;exact⟨by rw[f.out];rfl,by rw[a];exact p.out.1⟩
    ·have ne:(k != 0)=true:=by simpa using g
     have f:=zh (show Z=k from by rw[HX.out,Yo g]);clear g;go_wp2_with fail;go_ret;exact⟨by rw[f.out];rfl,by rw[a];exact o.out.1⟩
   ·have e0:(b==0)=false:=by simpa using R
    have f:=zh (show Z=2 from by rw[J.out,Yn i,Yn u,Yn R]);clear R i u;go_wp2_with fail;go_ret;exact⟨by rw[f.out];rfl,by rw[a];exact D.out.1⟩
theorem Zql (a:ZgW) {w:Yh} {v:Yi} {l:List Rw} (h:ZA w v l) (i:∀r∈l,Zac r) (f:l.length<=1000):ZmY w v l:=
 fun m e k t j d b c g=>Zpp a m v k l t j (h.below e) i f d b c g
theorem ZlP (a:ZgW) (w:Yh) (v b:Yi) (l:List Rw) (r:Rw) (h:ZA w v l) (c:∀r∈l,Zac r) (f:l.length<=1000) (g:Za w b r.2.1) (d:Zac r) :
  Calls Tryz.prog 16 #[v,.agg #[Yd Yf r.1,b,Yd Yf r.2.2.1,Yd Yf r.2.2.2]] w fun e w'=>e=.returned (Yd Yf (Zfw l r))/\Below w.heap.size w w':=by
 have:=ZmH w v b l r (Zql a h c f) g d;rw[ZmF c d]at this;exact this
end Go.Proofs.YtbfnnolakggbfaaGreatDoor
