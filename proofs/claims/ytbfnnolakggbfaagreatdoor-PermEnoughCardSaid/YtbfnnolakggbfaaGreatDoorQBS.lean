import Derived.Deep.DeepFit
import Derived.Test.YtbfnnolakggbfaaGreatDoorQBJ
import Derived.Test.YtbfnnolakggbfaaGreatDoorQBO
import Derived.Test.YtbfnnolakggbfaaGreatDoorQBR
set_option maxRecDepth 100000
set_option maxHeartbeats 8000000
open Option renaming some → Ya, none → Yb
open Go.Value renaming slice → Yc, int → Yd, pointer → Ye
open Go.IntKind renaming i64 → Yf
open Go.Obj renaming cells → Yg
open Go renaming World → Yh, Value → Yi
namespace Go.Proofs.YtbfnnolakggbfaaGreatDoor
section
open Go.RowKit
theorem Zfy:∀(a b:List (Trm×Int)) (t:Trm),Za3 (a++b) t=(Za3 a t).bind (Za3 b)
 |[],b,t=>rfl
 |s::r,b,t=>by
  rw[List.cons_append,Za3,Za3];cases ZO s.1 s.2 t with
  |none=>rfl
  |some u=>exact Zfy r b u
theorem Zgk:∀(a:List (Trm×Int)) (t u:Trm),(∀s∈a,TrmOk s.1)->TrmOk t->Za3 a t=Ya u->TrmOk u
 |[],t,u,_,ht,h=>by
  obtain rfl:=Option.some.inj h;exact ht
 |s::r,t,u,hs,ht,h=>by
  rw[Za3,Option.bind_eq_some_iff]at h;obtain⟨x,b,c⟩:=h;exact Zgk r x u (fun y d=>hs y (List.mem_cons_of_mem _ d)) (Zm7 (hs s (by simp)) ht b) c
theorem Zhe (c:List (Trm×Int)):∀(a b:List Rw),ZaX c (a++b)=(ZaX c a).bind fun l=>(ZaX c b).map fun m=>l++m
 |[],b=>by simp[ZaX]
 |r::a,b=>by
  rw[List.cons_append,ZaX,ZaX,Zhe c a b];by_cases d:r.1=0
  ·rw[Yo d,Yo d]
  ·rw[Yn d,Yn d];cases Za3 c (ZN r.2)with
   |none=>rfl
   |some t=>
    simp only[Option.bind_some];cases ZaX c a with
    |none=>rfl
    |some l=>cases ZaX c b<;>rfl
theorem Zfg (b:List (Trm×Int)):∀(a l:List Rw),ZaX b a=Ya l->l.length<=a.length
 |[],l,h=>by
  obtain rfl:=Option.some.inj h;exact Nat.le_refl _
 |r::a,l,h=>by
  rw[ZaX]at h;by_cases c:r.1=0
  ·rw[Yo c]at h;have:=Zfg b a l h;rw[Yk];omega
  ·rw[Yn c,Option.bind_eq_some_iff]at h;obtain⟨t,_,h⟩:=h;obtain⟨m,hm,rfl⟩:=Option.map_eq_some_iff.1 h;rw[Yk,Yk];have:=Zfg b a m hm;omega
def ZfK (w:Yh) (o:Option (List Rw)) (e:Ending) (w':Yh):Prop:=
 (∃l A c,o=Ya l/\e=.returned (.tuple #[Yc A l.length c,.bool true])/\ZA w' (Yc A l.length c) l/\Below w.heap.size w w') ∨
 (o=Yb/\e=.returned (.tuple #[Yc Yb 0 0,.bool false])/\Below w.heap.size w w')
structure LsrS (S:Nat->Prop) (wo wr:Yh) (bt:Nat) (vt:Yi) (t:Trm):Prop where
 B:Blk wr bt #[vt,Yd Yf t.2.1,Yd Yf t.2.2]
 r:Za wr vt t.1
 off:Off S vt t.1
 below:Below wo.heap.size wo wr
 le:wo.heap.size<=bt
theorem LsrS.keep {S:Nat->Prop} {wo wr c:Yh} {b:Nat} {vt:Yi} {t:Trm} (h:LsrS S wo wr b vt t) (a:Below wr.heap.size wr c):LsrS S wo c b vt t:=
 ⟨h.B.keep a,h.r.below a,h.off,h.below.trans (a.mono h.below.size),h.le⟩
section
variable {wq wA wo wr w6:Yh} {A:Prop} {ty:TypeId} {c d:Nat} {M:List (Int×Int)} {m1 m2:Int} {Ad:Option Addr}
def Zf7 (a:Yh) (M:List (Int×Int)) (m1 m2:Int) (v:Yi) (b:Yh):Prop:=
 ∃c A d,v=Ye (Ya ⟨c,0,Yb⟩)/\FracBox b c (Yc A M.length d) (Yd Yf m1) (Yd Yf m2)/\Za b (Yc A M.length d) M/\Below a.heap.size a b/\Zp a.heap.size (Yc A M.length d)
theorem Zif (h:Below wq.heap.size wq w6) (ty:TypeId) (b:Za w6 (Yc Ad M.length d) M) (a:Zp wq.heap.size (Yc Ad M.length d)):Zf7 wq M m1 m2 (Ye (Ya ⟨w6.heap.size,0,Yb⟩)) (w6.alloc (Yg #[Yc Ad M.length d,Yd Yf m1,Yd Yf m2] ty)):=
 ⟨_,Ad,d,rfl,FracBox.start _ _ _ _ _,b.below (below_alloc1 _ _),h.trans ((below_alloc1 _ _).mono h.size),a⟩
theorem Zjh (h:Below wq.heap.size wq wA) (hc:HoleT wA wr c) (i:Za wr (Yc Ad M.length d) M) (g:Off (fun b=>b=c) (Yc Ad M.length d) M) (hq:Zp wq.heap.size (Yc Ad M.length d)) :
  Zf7 wq M m1 m2 (Ye (Ya ⟨c,0,Yb⟩)) (((wr.setCell ⟨c,0,Yb⟩ (Yc Ad M.length d)).setCell ⟨c,1,Yb⟩ (Yd Yf m1)).setCell ⟨c,2,Yb⟩ (Yd Yf m2)):=by
 obtain⟨k,j,l,e,F,r,b⟩:=Zfu (m1:=m1) (m2:=m2) h hc i g;obtain⟨a,F⟩:=hc.fill (Yc Ad M.length d) (Yd Yf m1) (Yd Yf m2);exact⟨_,Ad,d,rfl,F,i.off g (ZX (ZX ZaH ZaH) ZaH) (fun b f=>by injection f with f;exact f.symm),h.trans (a.mono h.size),hq⟩
end
section
variable {wq w1 w2 wo:Yh} {p:Addr} {v x:Yi} {o:Obj} {xs:Array Yi} {ty:TypeId} {row:Option Nat}
theorem Zrg (_:(wo.alloc (.cells xs ty)).cell? p=Ya v):Zbf (wo.alloc (.cells xs ty)) 0 wo.heap.size xs.toList:=Zas (Nat.zero_le _)
theorem Zqm (_:(wo.alloc (.cells xs ty)).drew.cell? p=Ya v):Zbf (wo.alloc (.cells xs ty)).drew 0 wo.heap.size xs.toList:=(Zas (wo:=wo) (ty:=ty) (Nat.zero_le _)).keep (Zn _)
theorem Zr5 (_:(wq.drew.alloc o).cell? p=Ya v):Below wq.heap.size wq (wq.drew.alloc o):=(Zn wq).trans (below_alloc1 wq.drew o)
theorem ZrO (_:(wq.alloc o).drew.cell? p=Ya v):Below wq.heap.size wq (wq.alloc o).drew:=(below_alloc1 wq o).drew
theorem ZeD (b:w1.grownBy w2 row) (h:w1.cell? p=Ya x) (a:row≠Ya p.block):w2.cell? p=Ya x:=
 (World.cell?_of_block (b.block p.block (World.block_lt_of_cell? _ _ h) (fun e=>a e.symm))).trans h
end
theorem Zpr (w:Yh) (v vs vp:Yi) (ts:List Rw) (Q:List Trm) (ab:List Int) (h:ZA w v ts) (hs:Zai w vs Q) (hp:ZaR w vp ab) (an:Q.length=ab.length) (L:∀r∈ts,TrmOk r.2) (W:∀s∈Q,TrmOk s) (hl:ts.length<=1000) (b5:Q.length<=1000) :
  Calls Tryz.prog 80 #[v,vs,vp] w (ZfK w (ZaX (Q.zip ab) ts)):=by
 obtain⟨iR,em,fd,fe,ff⟩:=info_parts ZcP;obtain⟨A,c,rs,rfl,h2,h3,h4,h5,h6⟩:=h;obtain⟨f8,ge,ss,rfl,g2,g3,g4,g5,g6⟩:=hs;obtain⟨Ap,cp,rfl,f2,f3,f4⟩:=hp;obtain⟨n,hn⟩:∃n,n=ts.length:=⟨_,rfl⟩
 obtain⟨m,hm⟩:∃m,m=Q.length:=⟨_,rfl⟩
 have df:rs.length=n:=by rw[hn,<-h4,List.length_map]
 have dh:ss.length=m:=by rw[hm,<-g4,List.length_map]
 rw[<-an]at f2 f4⊢;rw[<-hn]at h2 h5 hl⊢;rw[<-hm]at g2 g5 f2 f4 b5⊢;have de:ab.length=m:=by rw[hm,an]
 have HN:=zh (zi df (zi h4 (zi h5 (zi h6 (zi hn (zi hl L))))));have HM:=zh (zi dh (zi g4 (zi g5 (zi g6 (zi hm (zi b5 (zi W (zi de f4))))))));obtain⟨Z,hZ⟩:∃Z,Z=Q.zip ab:=⟨_,rfl⟩
 rw[<-hZ];have HZ:=zh hZ;clear hn df h2 h3 h4 h5 h6 hl L hm dh g2 g3 g4 g5 g6 f2 f3 f4 de an W b5 hZ;go_enter Tryz.func80,Tryz.ntmps80;go_wp2_with fail;go_loopg [8,9] n (fun g v8 v9 wr=>∃(k:Nat) (l:List Rw) (va:Yi),va=v8/\v9=Yd Yf k/\k<=n/\g=n-k/\ZaX Z (ts.take k)=Ya l/\Tri noB w wr va l Zce [] Zce [])
 case atStart=>exact⟨0,[],_,rfl,rfl,Nat.zero_le _,rfl,rfl,Tri.start (fun _ q=>q.elim)⟩
 case round=>
  obtain⟨k,l,va,rfl,rfl,hk,hg,W,D⟩:=hrel;by_cases b4:k=n
  ·have he:ts.take k=ts:=by rw[b4,HN.out.2.2.2.2.1];exact List.take_length
   rw[he]at W
   have bs:=zh (show ZfK w (ZaX Z ts) (.returned (.tuple #[va,.bool true])) wr from by
    have hr:=D.a.rows;obtain⟨A,c,e⟩:∃A c,va=Yc A l.length c:=by obtain⟨A,c,_,e,_⟩:=hr;exact⟨A,c,e⟩
    subst e
    exact .inl ⟨_,A,c,W,rfl,hr,D.below⟩)
   subst b4;clear hk hg D he W;go_wp2_with fail;go_ret2;exact bs.out
  ·have dc:k<n:=by omega
   obtain⟨y,hy⟩:∃y,rs[k]? = Ya y:=⟨_,Ym (by have:=HN.out.1;omega)⟩
   have cc:ts[k]? = Ya y.2:=by rw[<-HN.out.2.1,List.getElem?_map,hy];rfl
   obtain⟨ad,rfl,d0,d1,d2,d3⟩:=ZaT HN.out.2.2.1 D.below hy (by omega);have bj:ad.block<w.heap.size:=by obtain⟨gc,e,q,_⟩:=HN.out.2.2.1.2 (show 0<n by omega);injection e with e;rw[e];exact q
   have dg:=HN.out.2.2.2.1 y (List.mem_of_getElem? hy);have L:=HN.out.2.2.2.2.2.2 y.2 (List.mem_of_getElem? cc);have hr:=dg.below D.below;have bq:=Zfg Z _ _ W;have nx:ZaX Z (ts.take (k+1))=if y.2.1=0 then Ya l else(Za3 Z (ZN y.2.2)).map fun t=>l++[(y.2.1,t)]:=by
    rw[List.take_add_one,cc];show ZaX Z (ts.take k++[y.2])=_;rw[Zhe,W,Option.bind_some,ZaX,ZaX]
    split
    ·simp
    ·cases Za3 Z (ZN y.2.2)<;>rfl
   have nn:¬y.2.1=0->Za3 Z (ZN y.2.2)=Yb->ZaX Z ts=Yb:=fun q0 q=>by
    rw[<-List.take_append_drop (k+1) ts,Zhe,nx,Yn q0,q];rfl
   have i1:(k:Int)<(n:Int):=by omega
   have i2:(0:Int)<=(k:Int):=by omega
   have wk:IntKind.i64.wrap ((k:Int)+1)=(k:Int)+1:=IntWalk.i64_in _ (by have:=HN.out.2.2.2.2.2.1;omega);have eo:l.length<=1000:=by have:=HN.out.2.2.2.2.2.1;rw[List.length_take]at bq;omega
   have ow:=fun(u:Yh) (Y:Below wr.heap.size wr u)=>ZeE u y.1 y.2.2.1 y.2.2.2.1 y.2.2.2.2 (hr.below Y) L.ok.wide L.k.wide.1.1 L.k.wide.1.2 L.k.wide.2.1 L.k.wide.2.2 (Zav L.len L.ok L.k);have cf:=Zdq L;obtain⟨yv,xo,xl,x1,x2⟩:=y;unfold ZN at nx nn cf;dsimp only at *;obtain⟨Ax,cx,rfl⟩:=Zc hr;generalize Zs xl=yl at *;have HK:=zh (zi dc (zi hg (zi nx (zi nn cf))));have LK:=zh (show l.length+1<=maxLen/\(l.length+1)*48<=140737488355328 from by unfold maxLen;omega);have cy:=zh ow;have DD:=zh D;have cv:=zh bj;clear b4 hk hg cc hy dg L hr bq nx nn dc eo D ow cf bj;by_cases h0:xo=0
   ·have e0:(xo==0)=true:=by rw[h0];rfl
    have NX:=zh (show ZaX Z (ts.take (k+1))=Ya l from by rw[HK.out.2.2.1,Yo h0]);clear h0;go_wp2_with fail;go_roundg (n-(k+1))
    case measure=>have:=HK.out.1;have:=HK.out.2.1;omega
    case rel=>exact⟨k+1,l,_,rfl,by push_cast;rfl,by have:=HK.out.1;omega,rfl,NX.out,DD.out⟩
   have e0:(xo==0)=false:=by simpa using h0
   have H0:=zh h0;clear h0;go_upto_region 7 with(go_at_call 54;go_fit (cy.out _ (Below.refl _ _));rintro e5 w5 ⟨v5,rfl,b9,be,c9⟩;obtain⟨A5,c5,rfl⟩:=Zc b9)
   have a6:=below_alloc1 w5 (Yg #[Yc A5 yl.length c5,Yd Yf x1,Yd Yf x2] 37);have S1:=zh (show LsrS (four noB va Zce Zce) wr (w5.alloc (Yg #[Yc A5 yl.length c5,Yd Yf x1,Yd Yf x2] 37)) w5.heap.size (Yc A5 yl.length c5) (yl,x1,x2)from⟨Blk.start w5 #[Yc A5 yl.length c5,Yd Yf x1,Yd Yf x2] 37,b9.below a6,Off.fresh c9 (fun b q=>DD.out.lt b q),be.trans (a6.mono be.size),be.size⟩);clear d1 d2 d3 a6 b9 be c9 cy;replace d0:=ZS S1.out.below d0;generalize w5.alloc (Yg #[Yc A5 yl.length c5,Yd Yf x1,Yd Yf x2] 37)=w1 at *;generalize w5.heap.size=z at *;generalize wr=wo at *;have S1:=zh (zi S1.out (zi (show Za3 (Z.take 0) (yl,x1,x2)=Ya (yl,x1,x2)from rfl) d0));clear d0;go_wp2_with fail;go_loopg [11] m (fun g e3 wr=>∃(j:Nat) (t:Trm) (vt:Yi),e3=Yd Yf j/\j<=m/\g=m-j/\Za3 (Z.take j) (yl,x1,x2)=Ya t/\LsrS (four noB va Zce Zce) wo wr z vt t/\wr.cell? (ad.add (k*4))=Ya (Yd Yf xo))
   case atStart=>exact⟨0,(yl,x1,x2),_,rfl,Nat.zero_le _,rfl,S1.out.2.1,S1.out.1,S1.out.2.2⟩
   case round=>
    clear S1;obtain⟨j,t,vt,rfl,hj,b2,ah,D,d0⟩:=hrel;by_cases b3:j=m
    ·have ez:Z.take j=Z:=by
      rw[b3,HZ.out];have e:(Q.zip ab).length<=m:=by rw[List.length_zip,<-HM.out.2.2.2.2.1];omega
      exact List.take_of_length_le e
     rw[ez]at ah;obtain⟨T,V,rfl⟩:=Zc D.r;obtain⟨tl,R,t2⟩:=t;dsimp only at D;have NX:=zh (show ZaX Z (ts.take (k+1))=Ya (l++[(xo,tl,R,t2)])from by rw[HK.out.2.2.1,Yn H0.out,ah];rfl);have nb:va.ownBlock≠Ya z:=fun e=>by have:=DD.out.lt z (.inl e);have:=D.le;omega
     have na:va.ownBlock≠Ya (ad.add (k*4)).block:=fun e=>by
      rw[ZJ]at e;have:=(DD.out.a.lt _ e).1;have:=cv.out;omega
     have t0:wr.cell? ⟨z,0,Yb⟩=Ya (Yc T tl.length V):=D.B.cell 0;have N:wr.cell? ⟨z,1,Yb⟩=Ya (Yd Yf R):=D.B.cell 1;have O:wr.cell? ⟨z,2,Yb⟩=Ya (Yd Yf t2):=D.B.cell 2;have DT:=zh (zi (show Below wo.heap.size wo wr from D.below) (zi D.r D.off));dsimp only at DT;subst b3;clear ah ez hj b2 D;generalize tl.length=tn at *;have SG:=zh (fun(w1 w2:Yh) (hg:w1.grownBy w2 va.ownBlock) (h:(fun u=>(u.cell? ⟨z,0,Yb⟩=Ya (Yc T tn V)/\u.cell? ⟨z,1,Yb⟩=Ya (Yd Yf R)/\u.cell? ⟨z,2,Yb⟩=Ya (Yd Yf t2))/\u.cell? (ad.add (k*4))=Ya (Yd Yf xo)) w1)=>show(fun u=>(u.cell? ⟨z,0,Yb⟩=Ya (Yc T tn V)/\u.cell? ⟨z,1,Yb⟩=Ya (Yd Yf R)/\u.cell? ⟨z,2,Yb⟩=Ya (Yd Yf t2))/\u.cell? (ad.add (k*4))=Ya (Yd Yf xo)) w2 from⟨⟨ZeD hg h.1.1 nb,ZeD hg h.1.2.1 nb,ZeD hg h.1.2.2 nb⟩,ZeD hg h.2 na⟩);have G:=zh (show ZcQ (fun u=>(u.cell? ⟨z,0,Yb⟩=Ya (Yc T tn V)/\u.cell? ⟨z,1,Yb⟩=Ya (Yd Yf R)/\u.cell? ⟨z,2,Yb⟩=Ya (Yd Yf t2))/\u.cell? (ad.add (k*4))=Ya (Yd Yf xo))from Zx (Zx (Zu _ _) (Zx (Zu _ _) (Zu _ _))) (Zu _ _));clear nb na;have i3:¬(j:Int)<(j:Int):=by omega
     go_upto_region 16 with fail;generalize wr=H at *;have HS:((H.drew.cell? ⟨z,0,Yb⟩=Ya (Yc T tn V)/\H.drew.cell? ⟨z,1,Yb⟩=Ya (Yd Yf R)/\H.drew.cell? ⟨z,2,Yb⟩=Ya (Yd Yf t2))/\H.drew.cell? (ad.add (k*4))=Ya (Yd Yf xo)):=⟨⟨t0,N,O⟩,d0⟩
     clear t0 N O d0;refine wp_region_noPanic ?_;refine wp_region_held_drew (S:=(fun u=>(u.cell? ⟨z,0,Yb⟩=Ya (Yc T tn V)/\u.cell? ⟨z,1,Yb⟩=Ya (Yd Yf R)/\u.cell? ⟨z,2,Yb⟩=Ya (Yd Yf t2))/\u.cell? (ad.add (k*4))=Ya (Yd Yf xo))) (by kernel_rfl) HS (fun d=>?_);clear HS;refine tk 0 rfl ?_;refine tk 1 rfl ?_;refine tk 2 rfl ?_;refine tk 3 rfl ?_;refine tk 4 rfl ?_;refine tk 5 rfl ?_;refine tk 6 rfl ?_;refine tk 7 rfl ?_;(try simp only[cl,Act.put]);refine rd 8 rfl fun K E=>?_;go_simp
     (first|refine E.out _ _ (Zbh G.out (by with_reducible assumption)) (fun f=>?_)|refine E.out _ _ (G.out _ _ (below_alloc1 _ _) (by with_reducible assumption)) (fun f=>?_))
     clear E K;(try dsimp only at f)
     (first|(have bu:=Zrg f.1.1;have a8:=Zr5 f.1.1)|(have bu:=Zqm f.1.1;have a8:=ZrO f.1.1))
     have NA:=zh bu;clear bu;clear d;have d:=f;clear f;have br:=DD.out.keep (ZF rfl DT.out.1 a8);have bp:=DT.out.2.1.below a8;obtain⟨eu,z1,z2,z3⟩:=id br.a;have QW:=zh (zi br (zi z1 (zi z2 (zi z3 bp))));clear br z1 z2 z3 bp a8;(try simp only[cl,Act.put]);refine rd 9 rfl fun K E=>?_;refine ZQ _ rfl _ _ 43 rfl w.heap.size 39 iR (.agg #[Yd Yf 0,Yc Yb 0 0,Yd Yf 0,Yd Yf 0]) 4 48 Tryz.underlying43 em fd fe ff rfl (by decide) va l.length (Zr eu) rfl QW.out.2.2.1 _ (Ya _) 1 1 [Yd Yf xo,Yc T tn V,Yd Yf R,Yd Yf t2] rfl (NA.out.reads rfl) (Zb2 _ _ _ _ _ _) (by have:=LK.out;omega) (by have:=LK.out;omega) QW.out.1.below.size (fun gp gr bo aa b1=>?_);have D8:=zh (Tri.push (t:=(xo,tl,R,t2)) (vt:=Yc T tn V) QW.out.1 QW.out.2.1 QW.out.2.2.2.1 bo aa (by first|exact b1|simpa using b1) QW.out.2.2.2.2 DT.out.2.2);refine E.out _ _ (SG.out _ _ aa d) (fun f=>?_);(try dsimp only at f);clear E K d bo aa b1 NA QW;have d:=f;clear f;(try simp only[cl,Act.put]);refine tk 10 rfl ?_;(try simp only[cl,Act.put]);refine wpAnyH_done (by kernel_rfl) ?_ _;refine NoPanic.normal ?_;clear d;go_wp2_with fail;go_roundg (n-(k+1))
     case measure=>have:=HK.out.1;have:=HK.out.2.1;omega
     case rel=>exact⟨k+1,l++[(xo,tl,R,t2)],_,rfl,by push_cast;rfl,by have:=HK.out.1;omega,rfl,NX.out,D8.out⟩
    ·have bn:j<m:=by omega
     obtain⟨x,hx⟩:∃x,ss[j]? = Ya x:=⟨_,Ym (by have:=HM.out.1;omega)⟩
     have cb:Q[j]? = Ya x.2:=by rw[<-HM.out.2.1,List.getElem?_map,hx];rfl
     obtain⟨p,b6⟩:∃p,ab[j]? = Ya p:=⟨_,Ym (by have:=HM.out.2.2.2.2.2.2.2.1;omega)⟩
     have bl:Below w.heap.size w wr:=DD.out.below.trans (D.below.mono DD.out.below.size);obtain⟨I,rfl,e0,e1,e2⟩:=ZaY HM.out.2.2.1 bl hx (by omega);obtain⟨bz,rfl,pj⟩:=ZbM HM.out.2.2.2.2.2.2.2.2 bl b6 (by omega);have b7:=(HM.out.2.2.2.1 x (List.mem_of_getElem? hx)).below bl;have ao:=HM.out.2.2.2.2.2.2.1 x.2 (List.mem_of_getElem? cb);have dj:Z[j]? = Ya (x.2,p):=by rw[HZ.out,List.getElem?_zip_eq_some];exact⟨cb,b6⟩
     have ce:Za3 (Z.take (j+1)) (yl,x1,x2)=ZO x.2 p t:=by rw[List.take_add_one,dj];show Za3 (Z.take j++[(x.2,p)]) _=_;rw[Zfy,ah,Option.bind_some,Za3];cases ZO x.2 p t<;>rfl
     have dk:ZO x.2 p t=Yb->Za3 Z (yl,x1,x2)=Yb:=fun q=>by
      rw[<-List.take_append_drop (j+1) Z,Zfy,ce,q];rfl
     have bg:TrmOk t:=by refine Zgk (Z.take j) _ t (fun s hs=>?_) HK.out.2.2.2.2 ah;have:=List.mem_of_mem_take hs;rw[HZ.out]at this;exact HM.out.2.2.2.2.2.2.1 _ (List.of_mem_zip this).1
     have dl:=bg.ok.at p
     have c7:(atL t.1 p).1=0->ZO x.2 p t=Ya t:=fun q=>by
      have e:Zaq t.1 t.2 x.2.1 x.2.2 p=(t.1,t.2,0):=Yo q;unfold ZO;rw[e];rfl
     have c4:(atL t.1 p).1≠0->ZO x.2 p t=if(ZdF t.1 t.2 x.2.1 x.2.2 (atL t.1 p)).2.2=0 then Ya ((ZdF t.1 t.2 x.2.1 x.2.2 (atL t.1 p)).1,(ZdF t.1 t.2 x.2.1 x.2.2 (atL t.1 p)).2.1)else Yb:=fun q=>by
      unfold ZO;rw[Zj5 q]
     obtain⟨T,V,rfl⟩:=Zc D.r;have ta:=fun(u:Yh) (Y:Below wr.heap.size wr u)=>ZaV u (Yc T t.1.length V) t.1 t.2.1 t.2.2 p (D.r.below Y);have ls:=fun(u:Yh) (Y:Below wr.heap.size wr u)=>Zkj u (Yc T t.1.length V) x.1 t.1 x.2.1 t.2 x.2.2 (atL t.1 p) (D.r.below Y) (b7.below Y) bg.ok.wide ao.ok.wide bg.k.wide ao.k.wide dl;have i3:(j:Int)<(m:Int):=by omega
     have i4:(0:Int)<=(j:Int):=by omega
     have wj:IntKind.i64.wrap ((j:Int)+1)=(j:Int)+1:=IntWalk.i64_in _ (by have:=HM.out.2.2.2.2.2.1;omega);generalize ek:ZdF t.1 t.2 x.2.1 x.2.2 (atL t.1 p)=P at *;clear ek;generalize atL t.1 p=cq at *;obtain⟨cn,cd⟩:=cq;obtain⟨M,⟨m1,m2⟩,er⟩:=P;obtain⟨tl,R,t2⟩:=t;obtain⟨xv,sl,s1,s2⟩:=x;dsimp only at *;obtain⟨As,cs,rfl⟩:=Zc b7;have gj:∀w:Yh,(Instr.field 23 (.agg #[Yd Yf cn,Yd Yf cd]) 0).run Tryz.prog w=.ok (Yd Yf cn) w:=fun _=>by kernel_rfl
     have TA:=zh ta;have LS:=zh ls;have HJ:=zh (zi bn (zi b2 (zi ce (zi dk (zi c7 c4)))));have DJ:=zh (zi D d0);have t0:wr.cell? ⟨z,0,Yb⟩=Ya (Yc T tl.length V):=D.B.cell 0;have N:wr.cell? ⟨z,1,Yb⟩=Ya (Yd Yf R):=D.B.cell 1;have O:wr.cell? ⟨z,2,Yb⟩=Ya (Yd Yf t2):=D.B.cell 2;clear b3 hj b2 ah D d0 cb hx bl b6 b7 ao dj ce dk bg dl ta ls c7 c4 bn;generalize tl.length=tn at *;generalize sl.length=sn at *;go_upto_region 10 with fail;generalize eq:wr=H at *;clear eq;go_cut [12]from 33 to 60 (fun e7 wx=>ZiN H cn cd e7 wx)
     case first=>
       have G:=zh (show ZcQ (fun u=>((u.cell? ⟨z,0,Yb⟩=Ya (Yc T tn V)/\u.cell? ⟨z,1,Yb⟩=Ya (Yd Yf R)/\u.cell? ⟨z,2,Yb⟩=Ya (Yd Yf t2))/\u.cell? (bz.add j)=Ya (Yd Yf p))/\Below H.heap.size H u)from Zx (Zx (Zx (Zu _ _) (Zx (Zu _ _) (Zu _ _))) (Zu _ _)) (ZbO H));have HS:(((H.drew.cell? ⟨z,0,Yb⟩=Ya (Yc T tn V)/\H.drew.cell? ⟨z,1,Yb⟩=Ya (Yd Yf R)/\H.drew.cell? ⟨z,2,Yb⟩=Ya (Yd Yf t2))/\H.drew.cell? (bz.add j)=Ya (Yd Yf p))/\Below H.heap.size H H.drew):=⟨⟨⟨t0,N,O⟩,pj⟩,Zn _⟩
       clear t0 N O pj e0 e1 e2;refine wp_region_noPanic ?_;refine wp_region_held_drew (S:=(fun u=>((u.cell? ⟨z,0,Yb⟩=Ya (Yc T tn V)/\u.cell? ⟨z,1,Yb⟩=Ya (Yd Yf R)/\u.cell? ⟨z,2,Yb⟩=Ya (Yd Yf t2))/\u.cell? (bz.add j)=Ya (Yd Yf p))/\Below H.heap.size H u)) (by kernel_rfl) HS (fun d=>?_);clear HS;refine tk 0 rfl ?_;refine tk 1 rfl ?_;refine tk 2 rfl ?_;refine tk 3 rfl ?_;refine tk 4 rfl ?_;(try simp only[cl,Act.put]);refine wpAnyH_ready (rs:=[5,6]) (by kernel_rfl) (by simp) (AllReadyH.cons (o:=_) rfl (fun K E=>?_) (AllReadyH.cons (o:=_) rfl (fun K E=>?_) AllReadyH.nil))
       rotate_left
       go_simp
       (first|refine E.out _ _ (Zbh G.out (by with_reducible assumption)) (fun f=>?_)|refine E.out _ _ (G.out _ _ (below_alloc1 _ _) (by with_reducible assumption)) (fun f=>?_))
       clear E K;(try dsimp only at f)
       (first|have U:=zh (ZeW f)|have U:=zh (Zej f))
       have C:=zh d;clear d;have d:=f;clear f;(try simp only[cl,Act.put]);refine rd 5 rfl fun K E=>?_
       rotate_right
       all_goals
        go_simp;(go_at_call 53;go_fit (TA.out _ (ZG (by with_reducible assumption)));rintro e4 w4 ⟨rfl,Y⟩;(try have U:=zh (U.out.keep Y)));go_wp2_with fail;refine E.out _ _ (G.out _ _ Y (by with_reducible assumption)) (fun f=>?_);clear E K d Y;have d:=f;clear f;(try simp only[cl,Act.put])
       refine rd 6 rfl fun K E=>?_;go_simp
       (first|refine E.out _ _ (Zbh G.out (by with_reducible assumption)) (fun f=>?_)|refine E.out _ _ (G.out _ _ (below_alloc1 _ _) (by with_reducible assumption)) (fun f=>?_))
       clear E K;(try dsimp only at f)
       (first|have U:=zh (ZeW f)|have U:=zh (Zej f))
       have C:=zh d;clear d;have d:=f;clear f;(try simp only[cl,Act.put])
       all_goals
        refine rd 7 rfl fun K E=>?_;obtain⟨h7,h0,h1,h2,h3,h4,h8⟩:=U.out;clear h7 h8;go_simp;clear h0 h1 h2 h3 h4
        (first
         |refine E.out _ _ (G.out _ _ (below_alloc1 _ _) C.out) (fun f=>?_)
         |refine E.out _ _ (G.out _ _ (U.out.fill _ _).1 C.out) (fun f=>?_))
        clear E K d;(try dsimp only at f);have d:=f;clear f;(try simp only[cl,Act.put]);refine wpAnyH_done (by kernel_rfl) ?_ _;refine NoPanic.normal ?_;go_wp2_with fail;go_meet
        case rel=>first|exact Zi9 C.out.2 23|exact Zkk C.out.2 U.out
     case rest=>
      obtain⟨bc,rfl,RA,J⟩:=hcut;have D3:=zh (zi (DJ.out.1.keep J) (ZS J DJ.out.2));replace t0:=ZS J t0;replace N:=ZS J N;replace O:=ZS J O;replace e0:=ZS J e0;replace e1:=ZS J e1;replace e2:=ZS J e2;have j0:=RA.k0;have j1:=RA.k1;have LS:=zh (fun(u:Yh) (Y:Below wc.heap.size wc u)=>LS.out u (J.trans (Y.mono J.size)));clear J RA pj DJ;by_cases ag:cn=0
      ·have ec:(cn==0)=true:=by rw[ag];rfl
       have bv:=zh (HJ.out.2.2.1.trans (HJ.out.2.2.2.2.1 ag));clear ag;go_wp2_with fail;go_roundg (m-(j+1))
       case measure=>have:=HJ.out.1;have:=HJ.out.2.1;omega
       case rel=>exact⟨j+1,(tl,R,t2),_,by push_cast;rfl,by have:=HJ.out.1;omega,rfl,bv.out,D3.out.1,D3.out.2⟩
      ·have ec:(cn==0)=false:=by simpa using ag
       have bd:=zh (HJ.out.2.2.2.2.2 ag);clear ag;go_upto_region 12 with fail;generalize wc=H at *;go_cut [13,14]from 33 to 60 (fun e8 e9 wx=>e9=Yd Yf er/\Zf7 H M m1 m2 e8 wx)
       case first=>
        have G:=zh (show ZcQ (fun u=>((u.cell? ⟨z,0,Yb⟩=Ya (Yc T tn V)/\u.cell? ⟨z,1,Yb⟩=Ya (Yd Yf R)/\u.cell? ⟨z,2,Yb⟩=Ya (Yd Yf t2))/\((u.cell? (I.add (j*3))=Ya (Yc As sn cs)/\u.cell? ⟨(I.add (j*3)).block,(I.add (j*3)).off+1,Yb⟩=Ya (Yd Yf s1)/\u.cell? ⟨(I.add (j*3)).block,(I.add (j*3)).off+2,Yb⟩=Ya (Yd Yf s2))/\(u.cell? ⟨bc,0,Yb⟩=Ya (Yd Yf cn)/\u.cell? ⟨bc,1,Yb⟩=Ya (Yd Yf cd))))/\Below H.heap.size H u)from Zx (Zx (Zx (Zu _ _) (Zx (Zu _ _) (Zu _ _))) (Zx (Zx (Zu _ _) (Zx (Zu _ _) (Zu _ _))) (Zx (Zu _ _) (Zu _ _)))) (ZbO H));have HS:(((H.drew.cell? ⟨z,0,Yb⟩=Ya (Yc T tn V)/\H.drew.cell? ⟨z,1,Yb⟩=Ya (Yd Yf R)/\H.drew.cell? ⟨z,2,Yb⟩=Ya (Yd Yf t2))/\((H.drew.cell? (I.add (j*3))=Ya (Yc As sn cs)/\H.drew.cell? ⟨(I.add (j*3)).block,(I.add (j*3)).off+1,Yb⟩=Ya (Yd Yf s1)/\H.drew.cell? ⟨(I.add (j*3)).block,(I.add (j*3)).off+2,Yb⟩=Ya (Yd Yf s2))/\(H.drew.cell? ⟨bc,0,Yb⟩=Ya (Yd Yf cn)/\H.drew.cell? ⟨bc,1,Yb⟩=Ya (Yd Yf cd))))/\Below H.heap.size H H.drew):=⟨⟨⟨t0,N,O⟩,⟨⟨e0,e1,e2⟩,⟨j0,j1⟩⟩⟩,Zn _⟩
        clear t0 N O e0 e1 e2 j0 j1;refine wp_region_noPanic ?_;refine wp_region_held_drew (S:=(fun u=>((u.cell? ⟨z,0,Yb⟩=Ya (Yc T tn V)/\u.cell? ⟨z,1,Yb⟩=Ya (Yd Yf R)/\u.cell? ⟨z,2,Yb⟩=Ya (Yd Yf t2))/\((u.cell? (I.add (j*3))=Ya (Yc As sn cs)/\u.cell? ⟨(I.add (j*3)).block,(I.add (j*3)).off+1,Yb⟩=Ya (Yd Yf s1)/\u.cell? ⟨(I.add (j*3)).block,(I.add (j*3)).off+2,Yb⟩=Ya (Yd Yf s2))/\(u.cell? ⟨bc,0,Yb⟩=Ya (Yd Yf cn)/\u.cell? ⟨bc,1,Yb⟩=Ya (Yd Yf cd))))/\Below H.heap.size H u)) (by kernel_rfl) HS (fun d=>?_);clear HS;refine tk 0 rfl ?_;refine tk 1 rfl ?_;refine tk 2 rfl ?_;refine tk 3 rfl ?_;refine tk 4 rfl ?_;refine tk 5 rfl ?_;(try simp only[cl,Act.put]);refine wpAnyH_ready (rs:=[6,10]) (by kernel_rfl) (by simp) (AllReadyH.cons (o:=_) rfl (fun K E=>?_) (AllReadyH.cons (o:=_) rfl (fun K E=>?_) AllReadyH.nil))
        rotate_left
        go_simp
        (first|refine E.out _ _ (Zbh G.out (by with_reducible assumption)) (fun f=>?_)|refine E.out _ _ (G.out _ _ (below_alloc1 _ _) (by with_reducible assumption)) (fun f=>?_))
        clear E K;(try dsimp only at f)
        (first|have U:=zh (ZbB f)|have U:=zh (Zbg f))
        have C:=zh d;clear d;have d:=f;clear f;(try simp only[cl,Act.put]);refine rd 6 rfl fun K E=>?_
        rotate_right
        all_goals
         go_simp;(go_at_call 125;go_fit (LS.out _ (ZG (by with_reducible assumption)));rintro e6 w6 ⟨v6,rfl,ca,Y,af⟩;obtain⟨A6,c6,rfl⟩:=Zc ca;have cw:=zh (af.mono (ZG d).size);(try (have HF:=zh (Off.fresh (l:=M) (S:=fun b=>b=_) af (fun b q=>by rw[q];exact U.out.F.lt));have U:=zh (U.out.keep Y)));have HV:=zh ca;clear ca af);go_wp2_with fail;refine E.out _ _ (G.out _ _ Y (by with_reducible assumption)) (fun f=>?_);clear E K d Y;have d:=f;clear f;(try simp only[cl,Act.put])
        all_goals
         refine tk 7 rfl ?_;refine tk 8 rfl ?_;refine tk 9 rfl ?_;(try simp only[cl,Act.put])
        refine rd 10 rfl fun K E=>?_;go_simp
        (first|refine E.out _ _ (Zbh G.out (by with_reducible assumption)) (fun f=>?_)|refine E.out _ _ (G.out _ _ (below_alloc1 _ _) (by with_reducible assumption)) (fun f=>?_))
        clear E K;(try dsimp only at f)
        (first|have U:=zh (ZbB f)|have U:=zh (Zbg f))
        have C:=zh d;clear d;have d:=f;clear f;(try simp only[cl,Act.put])
        all_goals
         refine rd 11 rfl fun K E=>?_;obtain⟨⟨h0,h1,h2,h3,h4,h5,h6⟩,h7,h8⟩:=U.out;clear h7 h8;go_simp;clear h0 h1 h2 h3 h4 h5 h6
         (first
          |refine E.out _ _ (G.out _ _ (below_alloc1 _ _) C.out) (fun f=>?_)
          |refine E.out _ _ (G.out _ _ (U.out.fill _ _ _).1 C.out) (fun f=>?_))
         clear E K d;(try dsimp only at f);have d:=f;clear f;(try simp only[cl,Act.put]);refine tk 12 rfl ?_;(try simp only[cl,Act.put]);refine wpAnyH_done (by kernel_rfl) ?_ _;refine NoPanic.normal ?_;go_wp2_with fail;go_meet
         case rel=>first|exact⟨rfl,Zif C.out.2 37 HV.out cw.out⟩|exact⟨rfl,Zjh C.out.2 U.out HV.out HF.out cw.out⟩
       case rest=>
        obtain⟨rfl,c,A6,c6,rfl,F6,r6,J,af⟩:=hcut;have X:=zh (zi (D3.out.1.keep J) (ZS J D3.out.2));have bm:z<H.heap.size:=D3.out.1.B.lt;have HL:=zh (zi bm (zi r6 af));have k0:=F6.k0;have k1:=F6.k1;have k2:=F6.k2;clear t0 N O e0 e1 e2 j0 j1 F6 r6 J af bm;have n0:=X.out.1.B.free 0;have n1:=X.out.1.B.free 1;have n2:=X.out.1.B.free 2;have t0:=X.out.1.B.cell 0;have N:=X.out.1.B.cell 1;have O:=X.out.1.B.cell 2;by_cases he:er=0
        ·subst he;have bv:=zh (HJ.out.2.2.1.trans (bd.out.trans (Yo rfl)));have B8:Blk (((wc.setCell ⟨z,0,Yb⟩ (Yc A6 M.length c6)).setCell ⟨z,1,Yb⟩ (Yd Yf m1)).setCell ⟨z,2,Yb⟩ (Yd Yf m2)) z #[Yc A6 M.length c6,Yd Yf m1,Yd Yf m2]:=by have:=((X.out.1.B.set 0 (Yc A6 M.length c6)).set 1 (Yd Yf m1)).set 2 (Yd Yf m2);simpa using this
         have b8:=((X.out.1.below.setCell (p:=⟨z,0,Yb⟩) X.out.1.le (Yc A6 M.length c6)).setCell (p:=⟨z,1,Yb⟩) X.out.1.le (Yd Yf m1)).setCell (p:=⟨z,2,Yb⟩) X.out.1.le (Yd Yf m2);have di:=((HL.out.2.1.setCell HL.out.2.2 (p:=⟨z,0,Yb⟩) HL.out.1 (Yc A6 M.length c6)).setCell HL.out.2.2 (p:=⟨z,1,Yb⟩) HL.out.1 (Yd Yf m1)).setCell HL.out.2.2 (p:=⟨z,2,Yb⟩) HL.out.1 (Yd Yf m2);have fo:Off (four noB va Zce Zce) (Yc A6 M.length c6) M:=Off.fresh HL.out.2.2 (fun b q=>by have:=DD.out.lt b q;have:=HL.out.1;have:=X.out.1.le;omega);have dd:(ad.add (k*4)).block≠z:=by rw[ZJ];have:=cv.out;have:=X.out.1.le;have:=DD.out.below.size;omega
         have ho:∀(u:Yh) (i:Nat) (x:Yi),u.cell? (ad.add (k*4))=Ya (Yd Yf xo)->(u.setCell ⟨z,i,Yb⟩ x).cell? (ad.add (k*4))=Ya (Yd Yf xo):=fun u i x q=>(World.cell?_setCell_other _ _ _ _ (fun e=>dd (by rw[<-e]))).trans q;have c8:=ho _ 2 (Yd Yf m2) (ho _ 1 (Yd Yf m1) (ho _ 0 (Yc A6 M.length c6) X.out.2));have D8:=zh (zi (show LsrS (four noB va Zce Zce) wo (((wc.setCell ⟨z,0,Yb⟩ (Yc A6 M.length c6)).setCell ⟨z,1,Yb⟩ (Yd Yf m1)).setCell ⟨z,2,Yb⟩ (Yd Yf m2)) z (Yc A6 M.length c6) (M,m1,m2)from⟨B8,di,fo,b8,X.out.1.le⟩) c8);clear B8 b8 di fo c8 ho dd bd;go_wp2_with fail;go_roundg (m-(j+1))
         case measure=>have:=HJ.out.1;have:=HJ.out.2.1;omega
         case rel=>exact⟨j+1,(M,m1,m2),_,by push_cast;rfl,by have:=HJ.out.1;omega,rfl,bv.out,D8.out.1,D8.out.2⟩
        ·have ne:(er != 0)=true:=by simpa using he
         have bs:=zh (show ZfK w (ZaX Z ts) (.returned (.tuple #[Yc Yb 0 0,.bool false])) wc from .inr ⟨HK.out.2.2.2.1 H0.out (HJ.out.2.2.2.1 (bd.out.trans (Yn he))),rfl,DD.out.below.trans (X.out.1.below.mono DD.out.below.size)⟩);clear he bd;go_wp2_with fail;go_ret2;exact bs.out
end
section
open Go.RowKit
structure TriB (S0:Nat->Prop) (W w:Yh) (va:Yi) (xa:List Rw) (vb:Yi) (xb:List Rw) (vc:Yi) (xc:List Rw):Prop where
 a:Zal w W.heap.size va xa (four S0 va vb vc)
 b:Zal w W.heap.size vb xb (four S0 va vb vc)
 c:Zal w W.heap.size vc xc (four S0 va vb vc)
 ab:∀k,va.ownBlock=Ya k->vb.ownBlock≠Ya k
 ac:∀k,va.ownBlock=Ya k->vc.ownBlock≠Ya k
 bc:∀k,vb.ownBlock=Ya k->vc.ownBlock≠Ya k
 s0:∀b,S0 b->b<w.heap.size
 na:∀b,S0 b->va.ownBlock≠Ya b
 nb:∀b,S0 b->vb.ownBlock≠Ya b
 nc:∀b,S0 b->vc.ownBlock≠Ya b
 below:Below W.heap.size W w
section
variable {S0:Nat->Prop} {W w w':Yh} {va va' vb vc vt:Yi} {xa xb xc:List Rw}
theorem TriB.start (a:Below W.heap.size W w) (c:∀b,S0 b->b<w.heap.size):TriB S0 W w (Yc Yb 0 0) [] (Yc Yb 0 0) [] (Yc Yb 0 0) []:=
 ⟨Zal.nil _ _ _,Zal.nil _ _ _,Zal.nil _ _ _,fun b h=>(by cases h),fun b h=>(by cases h),fun b h=>(by cases h),c,fun _ _ h=>(by cases h),fun _ _ h=>(by cases h),fun _ _ h=>(by cases h),a⟩
theorem TriB.keep (h:TriB S0 W w va xa vb xb vc xc) (d:Below w.heap.size w w'):TriB S0 W w' va xa vb xb vc xc:=
 ⟨h.a.below d,h.b.below d,h.c.below d,h.ab,h.ac,h.bc,fun b q=>Nat.lt_of_lt_of_le (h.s0 b q) d.size,h.na,h.nb,h.nc,h.below.trans (d.mono h.below.size)⟩
theorem TriB.swab (h:TriB S0 W w va xa vb xb vc xc):TriB S0 W w vb xb va xa vc xc:=by
 have e:∀b,four S0 vb va vc b->four S0 va vb vc b\/w.heap.size<=b:=fun b q=>.inl (by
  rcases q with q|q|q
  ·exact .inr (.inl q)
  ·exact .inl q
  ·exact .inr (.inr q))
 exact⟨h.b.mono e,h.a.mono e,h.c.mono e,fun k p q=>h.ab k q p,h.bc,h.ac,h.s0,h.nb,h.na,h.nc,h.below⟩
theorem TriB.swac (h:TriB S0 W w va xa vb xb vc xc):TriB S0 W w vc xc vb xb va xa:=by
 have e:∀b,four S0 vc vb va b->four S0 va vb vc b\/w.heap.size<=b:=fun b q=>.inl (by
  rcases q with q|q|q|q
  ·exact .inr (.inr (.inl q))
  ·exact .inr (.inl q)
  ·exact .inl q
  ·exact .inr (.inr (.inr q)))
 exact⟨h.c.mono e,h.b.mono e,h.a.mono e,fun k p q=>h.bc k q p,fun k p q=>h.ac k q p,fun k p q=>h.ab k q p,h.s0,h.nc,h.nb,h.na,h.below⟩
theorem TriB.lt (h:TriB S0 W w va xa vb xb vc xc):∀b,four S0 va vb vc b->b<w.heap.size:=fun b q=>by
 rcases q with q|q|q|q
 ·exact(h.a.lt b q).2
 ·exact(h.b.lt b q).2
 ·exact(h.c.lt b q).2
 ·exact h.s0 b q
theorem TriB.old (h:TriB S0 W w va xa vb xb vc xc):∀b,four S0 va vb vc b->S0 b\/W.heap.size<=b:=fun b q=>by
 rcases q with q|q|q|q
 ·exact .inr (h.a.lt b q).1
 ·exact .inr (h.b.lt b q).1
 ·exact .inr (h.c.lt b q).1
 ·exact .inl q
theorem TriB.store (h:TriB S0 W w va xa vb xb vc xc) {b:Nat} (d:S0 b) (g:W.heap.size<=b) (i:Nat) (x:Yi):TriB S0 W (w.setCell ⟨b,i,Yb⟩ x) va xa vb xb vc xc:=by
 have f:w.grownBy (w.setCell ⟨b,i,Yb⟩ x) (Ya b):=ZaH
 exact⟨h.a.other f fun k e=>by injection e with e;subst e;exact⟨.inr (.inr (.inr d)),h.na _ d⟩,
  h.b.other f fun k e=>by injection e with e;subst e;exact⟨.inr (.inr (.inr d)),h.nb _ d⟩,
  h.c.other f fun k e=>by injection e with e;subst e;exact⟨.inr (.inr (.inr d)),h.nc _ d⟩,
  h.ab,h.ac,h.bc,fun k q=>by rw[World.size_setCell];exact h.s0 k q,h.na,h.nb,h.nc,h.below.setCell (p:=⟨b,i,Yb⟩) g x⟩
theorem TriB.push {t:Rw} {rs:List (Yi×Rw)} (h:TriB S0 W w va xa vb xb vc xc) (p:rs.map (·.2)=xa) (r:∀x∈rs,Za w x.1 x.2.2.1/\Off (four S0 va vb vc) x.1 x.2.2.1)
  (j:w'.ownsRow W.heap.size 39 4 va' (xa.length+1) (Zr rs++[Yd Yf t.1,vt,Yd Yf t.2.2.1,Yd Yf t.2.2.2])) (i:w.grownBy w' va.ownBlock) (m:va'.ownBlock=va.ownBlock\/va'.ownBlock=Ya w.heap.size) (u:Za w vt t.2.1) (s:Off (four S0 va vb vc) vt t.2.1) :
  TriB S0 W w' va' (xa++[t]) vb xb vc xc:=by
 have g:∀b,four S0 va' vb vc b->four S0 va vb vc b\/w.heap.size<=b:=by
  intro b q;rcases q with q|q
  ·rcases m with e|e
   ·rw[e]at q;exact .inl (.inl q)
   ·rw[e]at q;injection q with q;exact .inr (by omega)
  ·exact .inl (.inr q)
 have a:=Zal.appended (S:=four S0 va vb vc) (S':=four S0 va' vb vc) p r j i (fun b d=>.inl d) u s g;have n:Zal w W.heap.size vb xb (fun b=>four S0 va vb vc b\/four S0 va' vb vc b):=h.b.mono fun b d=>d.elim .inl (g b);have c0:Zal w W.heap.size vc xc (fun b=>four S0 va vb vc b\/four S0 va' vb vc b):=h.c.mono fun b d=>d.elim .inl (g b);have o:=n.other i fun b d=>⟨.inl (.inl d),h.ab b d⟩;have c1:=c0.other i fun b d=>⟨.inl (.inl d),h.ac b d⟩;refine⟨a,o.mono fun b d=>.inl (.inr d),c1.mono fun b d=>.inl (.inr d),fun k f q=>?_,fun k f q=>?_,h.bc,fun b q=>Nat.lt_of_lt_of_le (h.s0 b q) i.size,fun b q l=>?_,h.nb,h.nc,h.below.grown i h.below.size fun k f=>(h.a.lt k f).1⟩
 ·rcases m with e|e
  ·exact h.ab k (e▸f) q
  ·rw[e]at f;injection f with f;have:=(h.b.lt k q).2;omega
 ·rcases m with e|e
  ·exact h.ac k (e▸f) q
  ·rw[e]at f;injection f with f;have:=(h.c.lt k q).2;omega
 ·rcases m with e|e
  ·exact h.na b q (e▸l)
  ·rw[e]at l;injection l with l;have:=h.s0 b q;omega
theorem TriB.ahead {n:Nat} {op kn kd:Int} {A:Option Addr} {c k:Nat} (P:TriB S0 W w va xa vb xb vc xc) (d:xa.length=k) (ty:TypeId) :
  ∃rs,rs.map (·.2)=xa/\(w.alloc (Yg #[Yd Yf op,Yc A n c,Yd Yf kn,Yd Yf kd] ty)).ownsRow W.heap.size 39 4 va k (Zr rs)/\(∀x∈rs,Za (w.alloc (Yg #[Yd Yf op,Yc A n c,Yd Yf kn,Yd Yf kd] ty)) x.1 x.2.2.1/\Off (four S0 va vb vc) x.1 x.2.2.1)/\TriB S0 W (w.alloc (Yg #[Yd Yf op,Yc A n c,Yd Yf kn,Yd Yf kd] ty)) va xa vb xb vc xc ∧
   Zw (w.alloc (Yg #[Yd Yf op,Yc A n c,Yd Yf kn,Yd Yf kd] ty)) (w.heap.size+1) 4 (Ya ⟨w.heap.size,0,Yb⟩) 1 [Yd Yf op,Yc A n c,Yd Yf kn,Yd Yf kd]:=by
 have b:=P.keep (below_alloc1 w (Yg #[Yd Yf op,Yc A n c,Yd Yf kn,Yd Yf kd] ty));obtain⟨rs,e,z2,z3⟩:=b.a;rw[d]at z2;exact⟨rs,e,z2,z3,b,(Zas (wo:=w) (x:=#[Yd Yf op,Yc A n c,Yd Yf kn,Yd Yf kd]) (ty:=ty) (Nat.zero_le _)).reads (size:=4) rfl⟩
end
structure HoleW (wA wr:Yh) (c:Nat):Prop where
 F:Blk wr c #[Yd Yf 0,Yc Yb 0 0,Yd Yf 0,Yd Yf 0]
 hc:c=wA.heap.size
 below:Below wA.heap.size wA wr
section
variable {wq wA wo wr w6 w2:Yh} {A:Prop} {ty:TypeId} {c d:Nat} {M:List (Int×Int)} {m1 m2 op:Int} {Ad:Option Addr}
theorem HoleW.start (a:Yh) (ty:TypeId):HoleW a (a.alloc (Yg #[Yd Yf 0,Yc Yb 0 0,Yd Yf 0,Yd Yf 0] ty)) a.heap.size:=⟨Blk.start _ _ _,rfl,below_alloc1 _ _⟩
theorem HoleW.keep (h:HoleW wA wr c) (a:Below wr.heap.size wr w2):HoleW wA w2 c:=⟨h.F.keep a,h.hc,h.below.trans (a.mono h.below.size)⟩
theorem Zln (_:A/\Below wq.heap.size wq (wA.alloc (Yg #[Yd Yf 0,Yc Yb 0 0,Yd Yf 0,Yd Yf 0] ty))):HoleW wA (wA.alloc (Yg #[Yd Yf 0,Yc Yb 0 0,Yd Yf 0,Yd Yf 0] ty)) wA.heap.size:=HoleW.start wA ty
theorem Zj2 (_:A/\Below wq.heap.size wq (wo.alloc (Yg #[Yd Yf 0,Yc Yb 0 0,Yd Yf 0,Yd Yf 0] ty)).drew):HoleW wo.drew (wo.alloc (Yg #[Yd Yf 0,Yc Yb 0 0,Yd Yf 0,Yd Yf 0] ty)).drew wo.heap.size:=HoleW.start wo.drew ty
theorem HoleW.parts (h:HoleW wA wr c):(wr.cell? ⟨c,0,Yb⟩=Ya (Yd Yf 0)/\wr.cell? ⟨c,1,Yb⟩=Ya (Yc Yb 0 0)/\wr.cell? ⟨c,2,Yb⟩=Ya (Yd Yf 0)/\wr.cell? ⟨c,3,Yb⟩=Ya (Yd Yf 0))/\wr.frozen? ⟨c,0,Yb⟩=false/\wr.frozen? ⟨c,1,Yb⟩=false/\wr.frozen? ⟨c,2,Yb⟩=false/\wr.frozen? ⟨c,3,Yb⟩=false:=
 ⟨⟨h.F.cell 0,h.F.cell 1,h.F.cell 2,h.F.cell 3⟩,h.F.free 0,h.F.free 1,h.F.free 2,h.F.free 3⟩
theorem HoleW.fill (h:HoleW wA wr c) (a b d f:Yi):Below wA.heap.size wA ((((wr.setCell ⟨c,0,Yb⟩ a).setCell ⟨c,1,Yb⟩ b).setCell ⟨c,2,Yb⟩ d).setCell ⟨c,3,Yb⟩ f)/\Blk ((((wr.setCell ⟨c,0,Yb⟩ a).setCell ⟨c,1,Yb⟩ b).setCell ⟨c,2,Yb⟩ d).setCell ⟨c,3,Yb⟩ f) c #[a,b,d,f]:=by have e:=h.hc;refine⟨(((h.below.setCell (p:=⟨c,0,Yb⟩) (by show _<=c;omega) _).setCell (p:=⟨c,1,Yb⟩) (by show _<=c;omega) _).setCell (p:=⟨c,2,Yb⟩) (by show _<=c;omega) _).setCell (p:=⟨c,3,Yb⟩) (by show _<=c;omega) _,?_⟩;have:=(((h.F.set 0 a).set 1 b).set 2 d).set 3 f;simpa using this
def Zk3 (a:Yh) (op:Int) (M:List (Int×Int)) (m1 m2:Int) (v:Yi) (b:Yh):Prop:=
 ∃c A d,v=Ye (Ya ⟨c,0,Yb⟩)/\Blk b c #[Yd Yf op,Yc A M.length d,Yd Yf m1,Yd Yf m2]/\Za b (Yc A M.length d) M/\Below a.heap.size a b/\Zp a.heap.size (Yc A M.length d)
theorem Zow (h:Below wq.heap.size wq w6) (ty:TypeId) (b:Za w6 (Yc Ad M.length d) M) (a:Zp wq.heap.size (Yc Ad M.length d)):Zk3 wq op M m1 m2 (Ye (Ya ⟨w6.heap.size,0,Yb⟩)) (w6.alloc (Yg #[Yd Yf op,Yc Ad M.length d,Yd Yf m1,Yd Yf m2] ty)):=
 ⟨_,Ad,d,rfl,Blk.start _ _ _,b.below (below_alloc1 _ _),h.trans ((below_alloc1 _ _).mono h.size),a⟩
theorem ZpM (h:Below wq.heap.size wq wA) (hc:HoleW wA wr c) (g:Za wr (Yc Ad M.length d) M) (f:Off (fun b=>b=c) (Yc Ad M.length d) M) (hq:Zp wq.heap.size (Yc Ad M.length d)) :
  Zk3 wq op M m1 m2 (Ye (Ya ⟨c,0,Yb⟩)) ((((wr.setCell ⟨c,0,Yb⟩ (Yd Yf op)).setCell ⟨c,1,Yb⟩ (Yc Ad M.length d)).setCell ⟨c,2,Yb⟩ (Yd Yf m1)).setCell ⟨c,3,Yb⟩ (Yd Yf m2)):=by
 obtain⟨a,F⟩:=hc.fill (Yd Yf op) (Yc Ad M.length d) (Yd Yf m1) (Yd Yf m2);exact⟨_,Ad,d,rfl,F,g.off f (ZX (ZX (ZX ZaH ZaH) ZaH) ZaH) (fun b e=>by injection e with e;exact e.symm),h.trans (a.mono h.size),hq⟩
end
end
end Go.Proofs.YtbfnnolakggbfaaGreatDoor
