import Derived.Deep.DeepFit
import Derived.Test.YtbfnnolakggbfaaGreatDoorQAV
import Derived.Test.YtbfnnolakggbfaaGreatDoorQBC
import Derived.Test.YtbfnnolakggbfaaGreatDoorQBD
set_option maxRecDepth 100000
set_option maxHeartbeats 8000000
open Option renaming some → Ya, none → Yb
open Go.Value renaming slice → Yc, int → Yd
open Go.IntKind renaming i64 → Yf
open Go.Obj renaming cells → Yg
open Go renaming World → Yh, Value → Yi
namespace Go.Proofs.YtbfnnolakggbfaaGreatDoor
section
open Go.RowKit
def ZcQ (P:Yh->Prop):Prop:=∀a b:Yh,Below a.heap.size a b->P a->P b
theorem Zu (p:Addr) (x:Yi):ZcQ fun w=>w.cell? p=Ya x:=fun _ _ a h=>ZS a h
theorem Zx {P Q:Yh->Prop} (b:ZcQ P) (hq:ZcQ Q):ZcQ fun w=>P w/\Q w:=fun _ _ a h=>⟨b _ _ a h.1,hq _ _ a h.2⟩
theorem ZbO (a:Yh):ZcQ fun w=>Below a.heap.size a w:=fun _ _ b h=>h.trans (b.mono h.size)
theorem ZG {A:Prop} {a w':Yh} (h:A/\Below a.heap.size a w'):Below a.heap.size a w':=h.2
theorem Zbh {P:Yh->Prop} (a:ZcQ P) {wo:Yh} {o:Obj} (h:P wo.drew):P (wo.alloc o).drew:=a _ _ (below_alloc1 wo.drew o) h
section
variable {wq wA wo wr w6:Yh} {A:Prop} {ty:TypeId} {c d:Nat} {M:List (Int×Int)} {m1 m2:Int} {Ad:Option Addr}
theorem ZbB (_:A/\Below wq.heap.size wq (wA.alloc (Yg #[Yc Yb 0 0,Yd Yf 0,Yd Yf 0] ty))):HoleT wA (wA.alloc (Yg #[Yc Yb 0 0,Yd Yf 0,Yd Yf 0] ty)) wA.heap.size:=HoleT.start wA ty
theorem Zbg (_:A/\Below wq.heap.size wq (wo.alloc (Yg #[Yc Yb 0 0,Yd Yf 0,Yd Yf 0] ty)).drew):HoleT wo.drew (wo.alloc (Yg #[Yc Yb 0 0,Yd Yf 0,Yd Yf 0] ty)).drew wo.heap.size:=HoleT.start wo.drew ty
def ZfM (b:Yh) (M:List (Int×Int)) (m1 m2:Int) (v:Yi) (a:Yh):Prop:=
 ∃c A d,v=.pointer (Ya ⟨c,0,Yb⟩)/\FracBox a c (Yc A M.length d) (Yd Yf m1) (Yd Yf m2)/\Za a (Yc A M.length d) M/\Below b.heap.size b a
theorem ZgD (h:Below wq.heap.size wq w6) (ty:TypeId) (a:Za w6 (Yc Ad M.length d) M):ZfM wq M m1 m2 (.pointer (Ya ⟨w6.heap.size,0,Yb⟩)) (w6.alloc (Yg #[Yc Ad M.length d,Yd Yf m1,Yd Yf m2] ty)):=
 ⟨_,Ad,d,rfl,FracBox.start _ _ _ _ _,a.below (below_alloc1 _ _),h.trans ((below_alloc1 _ _).mono h.size)⟩
theorem Zfu (h:Below wq.heap.size wq wA) (hc:HoleT wA wr c) (g:Za wr (Yc Ad M.length d) M) (f:Off (fun b=>b=c) (Yc Ad M.length d) M) :
  ZfM wq M m1 m2 (.pointer (Ya ⟨c,0,Yb⟩)) (((wr.setCell ⟨c,0,Yb⟩ (Yc Ad M.length d)).setCell ⟨c,1,Yb⟩ (Yd Yf m1)).setCell ⟨c,2,Yb⟩ (Yd Yf m2)):=by
 obtain⟨a,F⟩:=hc.fill (Yc Ad M.length d) (Yd Yf m1) (Yd Yf m2);exact⟨_,Ad,d,rfl,F,g.off f (ZX (ZX ZaH ZaH) ZaH) (fun b e=>by injection e with e;exact e.symm),h.trans (a.mono h.size)⟩
end
theorem ZgA:∀(a b:List (Trm×Int)) (t:Trm),Za0 (a++b) t=(Za0 a t).bind (Za0 b)
 |[],b,t=>rfl
 |s::r,b,t=>by
  rw[List.cons_append,Za0,Za0];cases ZaW s.1 (Zv (atL t.1 s.2))with
  |none=>rfl
  |some m=>
   simp only[Option.bind_some];cases Zcc t m with
   |none=>rfl
   |some u=>exact ZgA r b u
theorem ZiJ (c:List (Trm×Int)):∀(a b:List Rw),Zbk c (a++b)=(Zbk c a).bind fun l=>(Zbk c b).map fun m=>l++m
 |[],b=>by simp[Zbk]
 |r::a,b=>by
  rw[List.cons_append,Zbk,Zbk,ZiJ c a b];cases Za0 c r.2 with
  |none=>rfl
  |some t=>
   simp only[Option.bind_some];cases Zbk c a with
   |none=>rfl
   |some l=>cases Zbk c b<;>rfl
theorem Zgz (b:List (Trm×Int)):∀(a l:List Rw),Zbk b a=Ya l->l.length=a.length
 |[],l,h=>by
  obtain rfl:=Option.some.inj h;rfl
 |r::a,l,h=>by
  rw[Zbk,Option.bind_eq_some_iff]at h;obtain⟨t,_,h⟩:=h;obtain⟨m,hm,rfl⟩:=Option.map_eq_some_iff.1 h;rw[Yk,Yk,Zgz b a m hm]
def Zk5 (w:Yh) (o:Option (List Rw)) (e:Ending) (w':Yh):Prop:=
 (∃l v,o=Ya l/\e=.returned (.tuple #[v,Yd Yf 0])/\ZA w' v l/\Below w.heap.size w w') ∨
 (o=Yb/\∃z:Int,(z != 0)=true/\e=.returned (.tuple #[Yc Yb 0 0,Yd Yf z])/\Below w.heap.size w w')
def Zce:Yi:=Yc Yb 0 0
def noB:Nat->Prop:=fun _=>False
structure SubS (S:Nat->Prop) (wo wr:Yh) (br:Nat) (xo:Int) (vt:Yi) (t:Trm):Prop where
 B:Blk wr br #[Yd Yf xo,vt,Yd Yf t.2.1,Yd Yf t.2.2]
 r:Za wr vt t.1
 off:Off S vt t.1
 below:Below br wo wr
theorem SubS.keep {S:Nat->Prop} {wo wr b:Yh} {br:Nat} {c:Int} {vt:Yi} {t:Trm} (h:SubS S wo wr br c vt t) (a:Below wr.heap.size wr b):SubS S wo b br c vt t:=
 ⟨h.B.keep a,h.r.below a,h.off,h.below.trans (a.mono (Nat.le_of_lt h.B.lt))⟩
theorem Zje (w:Yh) (v vs vp:Yi) (ts:List Rw) (T:List Trm) (Y:List Int) (h:ZA w v ts) (hs:Zai w vs T) (hp:ZaR w vp Y) (ak:T.length=Y.length) (al:∀r∈ts,TrmOk r.2) (R:∀s∈T,TrmOk s) (hl:ts.length<=1000) (bt:T.length<=1000) :
  Calls Tryz.prog 71 #[v,vs,vp] w (Zk5 w (Zbk (T.zip Y) ts)):=by
 obtain⟨iR,ei,fb,fc,fd⟩:=info_parts ZcP;obtain⟨A,c,rs,rfl,h2,h3,h4,h5,h6⟩:=h;obtain⟨f8,gg,ss,rfl,g2,g3,g4,g5,g6⟩:=hs;obtain⟨Ap,cp,rfl,f2,f3,f4⟩:=hp;obtain⟨n,hn⟩:∃n,n=ts.length:=⟨_,rfl⟩
 obtain⟨m,hm⟩:∃m,m=T.length:=⟨_,rfl⟩
 have db:rs.length=n:=by rw[hn,<-h4,List.length_map]
 have dc:ss.length=m:=by rw[hm,<-g4,List.length_map]
 rw[<-ak]at f2 f4⊢;rw[<-hn]at h2 h5 hl⊢;rw[<-hm]at g2 g5 f2 f4 bt⊢;have da:Y.length=m:=by rw[hm,ak]
 have HN:=zh (zi db (zi h4 (zi h5 (zi h6 (zi hn (zi hl al))))));have HM:=zh (zi dc (zi g4 (zi g5 (zi g6 (zi hm (zi bt (zi R (zi da f4))))))));obtain⟨Z,hZ⟩:∃Z,Z=T.zip Y:=⟨_,rfl⟩
 rw[<-hZ];have HZ:=zh hZ;clear hn db h2 h3 h4 h5 h6 hl al hm dc g2 g3 g4 g5 g6 f2 f3 f4 da ak R bt hZ;go_enter Tryz.func71,Tryz.ntmps71;go_wp2_with fail;go_loopg [8,17] n (fun g v8 e3 wr=>∃(k:Nat) (l:List Rw) (va:Yi),va=v8/\e3=Yd Yf k/\k<=n/\g=n-k/\Zbk Z (ts.take k)=Ya l/\Tri noB w wr va l Zce [] Zce [])
 case atStart=>exact⟨0,[],_,rfl,rfl,Nat.zero_le _,rfl,rfl,Tri.start (fun _ q=>q.elim)⟩
 case round=>
  obtain⟨k,l,va,rfl,rfl,hk,hg,R,D⟩:=hrel;by_cases bq:k=n
  ·have he:ts.take k=ts:=by rw[bq,HN.out.2.2.2.2.1];exact List.take_length
   rw[he]at R;have ag:=zh (show Zk5 w (Zbk Z ts) (.returned (.tuple #[va,Yd Yf 0])) wr from .inl ⟨_,va,R,rfl,D.a.rows,D.below⟩);subst bq;clear hk hg D he R;go_wp2_with fail;go_ret2;exact ag.out
  ·have c9:k<n:=by omega
   obtain⟨y,hy⟩:∃y,rs[k]? = Ya y:=⟨_,Ym (by have:=HN.out.1;omega)⟩
   have b0:ts[k]? = Ya y.2:=by rw[<-HN.out.2.1,List.getElem?_map,hy];rfl
   obtain⟨ad,rfl,d0,d1,d2,d3⟩:=ZaT HN.out.2.2.1 D.below hy (by omega);have bw:=HN.out.2.2.2.1 y (List.mem_of_getElem? hy);have al:=HN.out.2.2.2.2.2.2 y.2 (List.mem_of_getElem? b0);have bd:Off (four noB va Zce Zce) y.1 y.2.2.1:=(ZfW (W:=w) bw).mono fun b q=>(D.old b q).elim (fun a=>a.elim) id;have hr:=bw.below D.below;have bi:=Zgz Z _ _ R;have nx:Zbk Z (ts.take (k+1))=(Za0 Z y.2.2).map fun t=>l++[(y.2.1,t)]:=by rw[List.take_add_one,b0];show Zbk Z (ts.take k++[y.2])=_;rw[ZiJ,R,Option.bind_some,Zbk,Zbk];cases Za0 Z y.2.2<;>rfl
   have nn:Za0 Z y.2.2=Yb->Zbk Z ts=Yb:=fun q=>by
    rw[<-List.take_append_drop (k+1) ts,ZiJ,nx,q];rfl
   have i1:(k:Int)<(n:Int):=by omega
   have i2:(0:Int)<=(k:Int):=by omega
   have wk:IntKind.i64.wrap ((k:Int)+1)=(k:Int)+1:=IntWalk.i64_in _ (by have:=HN.out.2.2.2.2.2.1;omega);have ek:l.length<=1000:=by have:=HN.out.2.2.2.2.2.1;rw[List.length_take]at bi;omega
   obtain⟨yv,xo,xl,x1,x2⟩:=y;dsimp only at *;obtain⟨Ax,cx,rfl⟩:=Zc hr;have HK:=zh (zi c9 (zi hg (zi nx (zi nn al))));have LK:=zh (show l.length+1<=maxLen/\(l.length+1)*48<=140737488355328 from by unfold maxLen;omega);have DD:=zh D;have a1:=below_alloc1 wr (Yg #[Yd Yf xo,Yc Ax xl.length cx,Yd Yf x1,Yd Yf x2] 39);have S1:=zh (show SubS (four noB va Zce Zce) wr (wr.alloc (Yg #[Yd Yf xo,Yc Ax xl.length cx,Yd Yf x1,Yd Yf x2] 39)) wr.heap.size xo (Yc Ax xl.length cx) (xl,x1,x2)from⟨Blk.start wr #[Yd Yf xo,Yc Ax xl.length cx,Yd Yf x1,Yd Yf x2] 39,hr.below a1,bd,a1⟩);clear bq hk hg b0 hy bw al bd hr bi nx nn R c9 ek D a1;go_upto_region 5 with fail;clear d0 d1 d2 d3;generalize wr.alloc (Yg #[Yd Yf xo,Yc Ax xl.length cx,Yd Yf x1,Yd Yf x2] 39)=w1 at *;generalize bm:wr.heap.size=I at *;generalize wr=wo at *;have S1:=zh (zi S1.out (show Za0 (Z.take 0) (xl,x1,x2)=Ya (xl,x1,x2)from rfl));go_wp2_with fail;go_loopg [23] m (fun g e8 wr=>∃(j:Nat) (t:Trm) (vt:Yi),e8=Yd Yf j/\j<=m/\g=m-j/\Za0 (Z.take j) (xl,x1,x2)=Ya t/\SubS (four noB va Zce Zce) wo wr I xo vt t)
   case atStart=>exact⟨0,(xl,x1,x2),_,rfl,Nat.zero_le _,rfl,S1.out.2,S1.out.1⟩
   case round=>
    clear S1;obtain⟨j,t,vt,rfl,hj,bo,ac,D⟩:=hrel;by_cases bp:j=m
    ·
     have ez:Z.take j=Z:=by
      rw[bp,HZ.out];have e:(T.zip Y).length<=m:=by rw[List.length_zip,<-HM.out.2.2.2.2.1];omega
      exact List.take_of_length_le e
     rw[ez]at ac;obtain⟨At,ct,rfl⟩:=Zc D.r;obtain⟨tl,t1,t2⟩:=t;dsimp only at D;have NX:=zh (show Zbk Z (ts.take (k+1))=Ya (l++[(xo,tl,t1,t2)])from by rw[HK.out.2.2.1,ac];rfl);have D6:=DD.out.keep (by rw[bm];exact D.below);have QW:=zh (D6.ahead (n:=tl.length) (op:=xo) (kn:=t1) (kd:=t2) (A:=At) (c:=ct) rfl 39);obtain⟨ew,QV⟩:=QW.out;have QW:=zh QV;have DR:=zh (zi D.r D.off);have r0:=D.B.cell 0;have r1:=D.B.cell 1;have r2:=D.B.cell 2;have r3:=D.B.cell 3;subst bp;clear QV D6 ac ez hj bo D;have i3:¬(j:Int)<(j:Int):=by omega
     go_wp2_with (at_builtin;refine Zj _ rfl _ _ 43 rfl w.heap.size 39 iR (.agg #[Yd Yf 0,Yc Yb 0 0,Yd Yf 0,Yd Yf 0]) 4 48 Tryz.underlying43 ei fb fc fd rfl (by decide) _ l.length (Zr ew) rfl QW.out.2.1 (wr.heap.size+1) (Ya ⟨wr.heap.size,0,Yb⟩) 1 1 [Yd Yf xo,Yc At tl.length ct,Yd Yf t1,Yd Yf t2] rfl QW.out.2.2.2.2 (Zb2 _ _ _ _ _ _) (by have:=LK.out;omega) (by have:=LK.out;omega) QW.out.2.2.2.1.below.size ?_);intro v9 w9 be aj bk;have em:=DR.out.1.below (below_alloc1 wr (Yg #[Yd Yf xo,Yc At tl.length ct,Yd Yf t1,Yd Yf t2] 39));have D8:=zh (Tri.push (t:=(xo,tl,t1,t2)) QW.out.2.2.2.1 QW.out.1 QW.out.2.2.1 be aj (by first|exact bk|simpa using bk) em DR.out.2);clear be aj bk;go_wp2_with fail;go_roundg (n-(k+1))
     case measure=>have:=HK.out.1;have:=HK.out.2.1;omega
     case rel=>exact⟨k+1,l++[(xo,tl,t1,t2)],_,rfl,by push_cast;rfl,by have:=HK.out.1;omega,rfl,NX.out,D8.out⟩
    ·have bb:j<m:=by omega
     obtain⟨x,hx⟩:∃x,ss[j]? = Ya x:=⟨_,Ym (by have:=HM.out.1;omega)⟩
     have bz:T[j]? = Ya x.2:=by rw[<-HM.out.2.1,List.getElem?_map,hx];rfl
     obtain⟨p,bu⟩:∃p,Y[j]? = Ya p:=⟨_,Ym (by have:=HM.out.2.2.2.2.2.2.2.1;omega)⟩
     have bl:Below w.heap.size w wr:=DD.out.below.trans ((show Below wo.heap.size wo wr by rw[bm];exact D.below).mono DD.out.below.size);obtain⟨gc,rfl,d0,d1,d2⟩:=ZaY HM.out.2.2.1 bl hx (by omega);obtain⟨bj,rfl,pj⟩:=ZbM HM.out.2.2.2.2.2.2.2.2 bl bu (by omega);have bv:=(HM.out.2.2.2.1 x (List.mem_of_getElem? hx)).below bl;have X:=HM.out.2.2.2.2.2.2.1 x.2 (List.mem_of_getElem? bz);have de:Z[j]? = Ya (x.2,p):=by rw[HZ.out,List.getElem?_zip_eq_some];exact⟨bz,bu⟩
     have b1:Za0 (Z.take (j+1)) (xl,x1,x2)=Za0 [(x.2,p)] t:=by rw[List.take_add_one,de];show Za0 (Z.take j++[(x.2,p)]) _=_;rw[ZgA,ac,Option.bind_some]
     have df:Za0 [(x.2,p)] t=Yb->Za0 Z (xl,x1,x2)=Yb:=fun q=>by
      rw[<-List.take_append_drop (j+1) Z,ZgA,b1,q];rfl
     have am:TrmOk t:=by refine(Zl0 (Z.take j) _ t (fun s hs=>?_) HK.out.2.2.2.2 ac).1;have:=List.mem_of_mem_take hs;rw[HZ.out]at this;exact HM.out.2.2.2.2.2.2.1 _ (List.of_mem_zip this).1
     have L:Za0 [(x.2,p)] t=(ZaW x.2 (Zv (atL t.1 p))).bind fun m=>(Zcc t m).bind fun u=>Ya u:=rfl;unfold ZaW Zcc at L;have b2:=ZbF (am.ok.at p);have dg:=am.ok.at p;obtain⟨Ar,cr,rfl⟩:=Zc D.r;have ta:=fun(C:Yh) (E:Below wr.heap.size wr C)=>Zbv C (Yc Ar t.1.length cr) t.1 t.2.1 t.2.2 p (D.r.below E);have sc:=fun(C:Yh) (E:Below wr.heap.size wr C)=>ZcN C x.1 x.2.1 x.2.2 (Zv (atL t.1 p)) (bv.below E) X.ok.wide X.k.wide b2.wide;have ng:=fun(C:Yh)=>Zk9 C (atL t.1 p) dg;have wd:=ZaP X.ok.wide X.k.wide b2.wide;have i3:(j:Int)<(m:Int):=by omega
     have i4:(0:Int)<=(j:Int):=by omega
     have wj:IntKind.i64.wrap ((j:Int)+1)=(j:Int)+1:=IntWalk.i64_in _ (by have:=HM.out.2.2.2.2.2.1;omega);unfold Zv at *;generalize atL t.1 p=cq at *;obtain⟨cn,cd⟩:=cq;dsimp only at ta sc ng L wd;generalize Zh x.2.1 x.2.2 (-cn,cd)=P at *;obtain⟨M,⟨m1,m2⟩,er⟩:=P;obtain⟨tl,t1,t2⟩:=t;obtain⟨xv,sl,s1,s2⟩:=x;dsimp only at *;obtain⟨As,cs,rfl⟩:=Zc bv;have cv:=fun(C:Yh) (v6:Yi) (E:Below wr.heap.size wr C) (h6:Za C v6 M)=>ZiL C (Yc Ar tl.length cr) v6 tl M (t1,t2) (m1,m2) (D.r.below E) h6 am.ok.wide wd.1 am.k.wide wd.2;have TA:=zh ta;have SC:=zh sc;have NG:=zh ng;have AD:=zh cv;have HJ:=zh (zi bb (zi bo (zi b1 (zi df L))));have DJ:=zh D;have r1:=D.B.cell 1;have r2:=D.B.cell 2;have r3:=D.B.cell 3;clear bp hj bo ac D bz hx bl bu bv X de b1 df am L b2 dg ta sc ng wd cv bb;go_upto_region 8 with fail;have a2:=below_alloc1 wr (Yg #[Yc As sl.length cs,Yd Yf s1,Yd Yf s2] 37);have SB:=Blk.start wr #[Yc As sl.length cs,Yd Yf s1,Yd Yf s2] 37;have D2:=zh (zi (DJ.out.keep a2) a2);clear d0 d1 d2;have r1:=D2.out.1.B.cell 1;have r2:=D2.out.1.B.cell 2;have r3:=D2.out.1.B.cell 3;have pj:=ZS a2 pj;have z0:=SB.cell 0;have z1:=SB.cell 1;have z2:=SB.cell 2;clear a2 SB;generalize bn:wr.heap.size=bs at *;generalize gq:wr.alloc (Yg #[Yc As sl.length cs,Yd Yf s1,Yd Yf s2] 37)=O at *;have TA:=zh (fun(C:Yh) (E:Below O.heap.size O C)=>TA.out C (ZF bn D2.out.2 E));have SC:=zh (fun(C:Yh) (E:Below O.heap.size O C)=>SC.out C (ZF bn D2.out.2 E));go_cut [13,14]from 24 to 55 (fun e0 e1 wx=>e1=Yd Yf er/\ZfM O M m1 m2 e0 wx)
     case first=>
      have J:=zh (show ZcQ (fun C=>(((C.cell? ⟨bs,0,Yb⟩=Ya (Yc As sl.length cs)/\C.cell? ⟨bs,1,Yb⟩=Ya (Yd Yf s1)/\C.cell? ⟨bs,2,Yb⟩=Ya (Yd Yf s2))/\(C.cell? ⟨I,1,Yb⟩=Ya (Yc Ar tl.length cr)/\C.cell? ⟨I,2,Yb⟩=Ya (Yd Yf t1)/\C.cell? ⟨I,3,Yb⟩=Ya (Yd Yf t2)))/\C.cell? (bj.add j)=Ya (Yd Yf p))/\Below O.heap.size O C)from Zx (Zx (Zx (Zx (Zu _ _) (Zx (Zu _ _) (Zu _ _))) (Zx (Zu _ _) (Zx (Zu _ _) (Zu _ _)))) (Zu _ _)) (ZbO O));have HS:(((O.drew.cell? ⟨bs,0,Yb⟩=Ya (Yc As sl.length cs)/\O.drew.cell? ⟨bs,1,Yb⟩=Ya (Yd Yf s1)/\O.drew.cell? ⟨bs,2,Yb⟩=Ya (Yd Yf s2))/\(O.drew.cell? ⟨I,1,Yb⟩=Ya (Yc Ar tl.length cr)/\O.drew.cell? ⟨I,2,Yb⟩=Ya (Yd Yf t1)/\O.drew.cell? ⟨I,3,Yb⟩=Ya (Yd Yf t2)))/\O.drew.cell? (bj.add j)=Ya (Yd Yf p))/\Below O.heap.size O O.drew:=⟨⟨⟨⟨z0,z1,z2⟩,⟨r1,r2,r3⟩⟩,pj⟩,Zn _⟩
      clear z0 z1 z2 r1 r2 r3 pj;refine wp_region_noPanic ?_;refine wp_region_held_drew (S:=(fun C=>(((C.cell? ⟨bs,0,Yb⟩=Ya (Yc As sl.length cs)/\C.cell? ⟨bs,1,Yb⟩=Ya (Yd Yf s1)/\C.cell? ⟨bs,2,Yb⟩=Ya (Yd Yf s2))/\(C.cell? ⟨I,1,Yb⟩=Ya (Yc Ar tl.length cr)/\C.cell? ⟨I,2,Yb⟩=Ya (Yd Yf t1)/\C.cell? ⟨I,3,Yb⟩=Ya (Yd Yf t2)))/\C.cell? (bj.add j)=Ya (Yd Yf p))/\Below O.heap.size O C)) (by kernel_rfl) HS (fun f=>?_);clear HS;refine tk 0 rfl ?_;refine tk 1 rfl ?_;refine tk 2 rfl ?_;refine tk 3 rfl ?_;refine tk 4 rfl ?_;refine tk 5 rfl ?_;refine tk 6 rfl ?_;(try simp only[cl,Act.put]);refine wpAnyH_ready (rs:=[7,13]) (by kernel_rfl) (by simp) (AllReadyH.cons (o:=_) rfl (fun K H=>?_) (AllReadyH.cons (o:=_) rfl (fun K H=>?_) AllReadyH.nil))
      rotate_left
      go_simp
      (first|refine H.out _ _ (Zbh J.out (by with_reducible assumption)) (fun d=>?_)|refine H.out _ _ (J.out _ _ (below_alloc1 _ _) (by with_reducible assumption)) (fun d=>?_))
      clear H K;(try dsimp only at d)
      (first|have G:=zh (ZbB d)|have G:=zh (Zbg d))
      have i:=zh f;clear f;have f:=d;clear d;(try simp only[cl,Act.put]);refine rd 7 rfl fun K H=>?_
      rotate_right
      all_goals
       go_simp
       (first
        |(go_at_call 66;go_fit (TA.out _ (ZG (by with_reducible assumption)));rintro e4 w4 ⟨rfl,E⟩;(try have G:=zh (G.out.keep E)))
        |(go_at_call 113;go_fit (NG.out _);rintro e5 w5 ⟨rfl,E⟩;(try have G:=zh (G.out.keep E)))
        |(go_at_call 29;go_fit (SC.out _ (ZG (by with_reducible assumption)));rintro e6 w6 ⟨v6,rfl,N,E,V⟩;obtain⟨A6,c6,rfl⟩:=Zc N;(try (have HF:=zh (Off.fresh (l:=M) (S:=fun b=>b=_) V (fun b q=>by rw[q];exact G.out.F.lt));have G:=zh (G.out.keep E)));have HV:=zh N;clear N V))
       go_wp2_with fail;refine H.out _ _ (J.out _ _ E (by with_reducible assumption)) (fun d=>?_);clear H K f E;have f:=d;clear d;(try simp only[cl,Act.put])
      all_goals (try (have _:=G.out;refine rd 8 rfl fun K H=>?_))
      refine wpAnyH_ready (rs:=[8,13]) (by kernel_rfl) (by simp) (AllReadyH.cons (o:=_) rfl (fun K H=>?_) (AllReadyH.cons (o:=_) rfl (fun K H=>?_) AllReadyH.nil))
      rotate_left
      go_simp
      (first|refine H.out _ _ (Zbh J.out (by with_reducible assumption)) (fun d=>?_)|refine H.out _ _ (J.out _ _ (below_alloc1 _ _) (by with_reducible assumption)) (fun d=>?_))
      clear H K;(try dsimp only at d)
      (first|have G:=zh (ZbB d)|have G:=zh (Zbg d))
      have i:=zh f;clear f;have f:=d;clear d;(try simp only[cl,Act.put]);refine rd 8 rfl fun K H=>?_
      rotate_right
      all_goals
       go_simp
       (first
        |(go_at_call 66;go_fit (TA.out _ (ZG (by with_reducible assumption)));rintro e4 w4 ⟨rfl,E⟩;(try have G:=zh (G.out.keep E)))
        |(go_at_call 113;go_fit (NG.out _);rintro e5 w5 ⟨rfl,E⟩;(try have G:=zh (G.out.keep E)))
        |(go_at_call 29;go_fit (SC.out _ (ZG (by with_reducible assumption)));rintro e6 w6 ⟨v6,rfl,N,E,V⟩;obtain⟨A6,c6,rfl⟩:=Zc N;(try (have HF:=zh (Off.fresh (l:=M) (S:=fun b=>b=_) V (fun b q=>by rw[q];exact G.out.F.lt));have G:=zh (G.out.keep E)));have HV:=zh N;clear N V))
       go_wp2_with fail;refine H.out _ _ (J.out _ _ E (by with_reducible assumption)) (fun d=>?_);clear H K f E;have f:=d;clear d;(try simp only[cl,Act.put])
      all_goals (try (have _:=G.out;refine rd 9 rfl fun K H=>?_))
      refine wpAnyH_ready (rs:=[9,13]) (by kernel_rfl) (by simp) (AllReadyH.cons (o:=_) rfl (fun K H=>?_) (AllReadyH.cons (o:=_) rfl (fun K H=>?_) AllReadyH.nil))
      rotate_left
      go_simp
      (first|refine H.out _ _ (Zbh J.out (by with_reducible assumption)) (fun d=>?_)|refine H.out _ _ (J.out _ _ (below_alloc1 _ _) (by with_reducible assumption)) (fun d=>?_))
      clear H K;(try dsimp only at d)
      (first|have G:=zh (ZbB d)|have G:=zh (Zbg d))
      have i:=zh f;clear f;have f:=d;clear d;(try simp only[cl,Act.put]);refine rd 9 rfl fun K H=>?_
      rotate_right
      all_goals
       go_simp
       (first
        |(go_at_call 66;go_fit (TA.out _ (ZG (by with_reducible assumption)));rintro e4 w4 ⟨rfl,E⟩;(try have G:=zh (G.out.keep E)))
        |(go_at_call 113;go_fit (NG.out _);rintro e5 w5 ⟨rfl,E⟩;(try have G:=zh (G.out.keep E)))
        |(go_at_call 29;go_fit (SC.out _ (ZG (by with_reducible assumption)));rintro e6 w6 ⟨v6,rfl,N,E,V⟩;obtain⟨A6,c6,rfl⟩:=Zc N;(try (have HF:=zh (Off.fresh (l:=M) (S:=fun b=>b=_) V (fun b q=>by rw[q];exact G.out.F.lt));have G:=zh (G.out.keep E)));have HV:=zh N;clear N V))
       go_wp2_with fail;refine H.out _ _ (J.out _ _ E (by with_reducible assumption)) (fun d=>?_);clear H K f E;have f:=d;clear d;(try simp only[cl,Act.put])
      all_goals
       refine tk 10 rfl ?_;refine tk 11 rfl ?_;refine tk 12 rfl ?_;(try simp only[cl,Act.put])
      refine rd 13 rfl fun K H=>?_;go_simp
      (first|refine H.out _ _ (Zbh J.out (by with_reducible assumption)) (fun d=>?_)|refine H.out _ _ (J.out _ _ (below_alloc1 _ _) (by with_reducible assumption)) (fun d=>?_))
      clear H K;(try dsimp only at d)
      (first|have G:=zh (ZbB d)|have G:=zh (Zbg d))
      have i:=zh f;clear f;have f:=d;clear d;(try simp only[cl,Act.put])
      all_goals
       refine rd 14 rfl fun K H=>?_;obtain⟨⟨h0,h1,h2,h3,h4,h5,h6⟩,h7,h8⟩:=G.out;clear h7 h8;go_simp;clear h0 h1 h2 h3 h4 h5 h6
       (first
        |refine H.out _ _ (J.out _ _ (below_alloc1 _ _) i.out) (fun d=>?_)
        |refine H.out _ _ (J.out _ _ (G.out.fill _ _ _).1 i.out) (fun d=>?_))
       clear H K f;(try dsimp only at d);have f:=d;clear d;(try simp only[cl,Act.put]);refine tk 15 rfl ?_;(try simp only[cl,Act.put]);refine wpAnyH_done (by kernel_rfl) ?_ _;refine NoPanic.normal ?_;go_wp2_with fail;go_meet
       case rel=>first|exact⟨rfl,ZgD i.out.2 37 HV.out⟩|exact⟨rfl,Zfu i.out.2 G.out HV.out HF.out⟩
     case rest=>
      obtain⟨rfl,c,A6,c6,rfl,F6,r6,ai⟩:=hcut;have D3:=zh (zi (D2.out.1.keep ai) (ZF bn D2.out.2 ai));have bc:=Nat.lt_of_lt_of_le D2.out.1.B.lt ai.size;have HL:=zh bc;clear z0 z1 z2 r1 r2 r3 pj bc;have a7:=zh (fun(q:Za0 [((sl,s1,s2),p)] (tl,t1,t2)=Yb) (z:Int) (hz:(z != 0)=true) (C:Yh) (E:Below I wo C)=>show Zk5 w (Zbk Z ts) (.returned (.tuple #[Yc Yb 0 0,Yd Yf z])) C from .inr ⟨HK.out.2.2.2.1 (HJ.out.2.2.2.1 q),z,hz,rfl,DD.out.below.trans ((show Below wo.heap.size wo C by rw[bm];exact E).mono DD.out.below.size)⟩);have L:=HJ.out.2.2.2.2;by_cases he:er=0
      ·subst he;rw[Yo rfl,Option.bind_some]at L;have ad:=AD.out _ (Yc A6 M.length c6) D3.out.2 r6;dsimp only at L;generalize ZaO tl M (t1,t2) (m1,m2)=Q at *;obtain⟨U,⟨u1,u2⟩,e2⟩:=Q;dsimp only at L ad;have dy:=zh ad;have SO:=zh L;have k0:=F6.k0;have k1:=F6.k1;have k2:=F6.k2;have r1:=D3.out.1.B.cell 1;have r2:=D3.out.1.B.cell 2;have r3:=D3.out.1.B.cell 3;clear L ad F6 r6 ai;go_upto_region 12 with(go_at_call 114;go_fit dy.out;rintro e7 w7 ⟨v7,rfl,bx,c8,cz⟩;obtain⟨A7,c7,rfl⟩:=Zc bx;have HV:=zh (zi bx cz);have D7:=zh (D3.out.1.keep c8);clear bx cz c8 k0 k1 k2;have n1:=D7.out.B.free 1;have n2:=D7.out.B.free 2;have n3:=D7.out.B.free 3;have r1:=D7.out.B.cell 1;have r2:=D7.out.B.cell 2;have r3:=D7.out.B.cell 3)
       have B8:Blk (((w7.setCell ⟨I,1,Yb⟩ (Yc A7 U.length c7)).setCell ⟨I,2,Yb⟩ (Yd Yf u1)).setCell ⟨I,3,Yb⟩ (Yd Yf u2)) I #[Yd Yf xo,Yc A7 U.length c7,Yd Yf u1,Yd Yf u2]:=by have:=((D7.out.B.set 1 (Yc A7 U.length c7)).set 2 (Yd Yf u1)).set 3 (Yd Yf u2);simpa using this
       have b8:=((D7.out.below.setCell (p:=⟨I,1,Yb⟩) (Nat.le_refl _) (Yc A7 U.length c7)).setCell (p:=⟨I,2,Yb⟩) (Nat.le_refl _) (Yd Yf u1)).setCell (p:=⟨I,3,Yb⟩) (Nat.le_refl _) (Yd Yf u2);have dd:=((HV.out.1.setCell HV.out.2 (p:=⟨I,1,Yb⟩) HL.out (Yc A7 U.length c7)).setCell HV.out.2 (p:=⟨I,2,Yb⟩) HL.out (Yd Yf u1)).setCell HV.out.2 (p:=⟨I,3,Yb⟩) HL.out (Yd Yf u2);have fo:Off (four noB va Zce Zce) (Yc A7 U.length c7) U:=Off.fresh HV.out.2 (fun b q=>by have:=DD.out.lt b q;have:=HL.out;omega);have D8:=zh (show SubS (four noB va Zce Zce) wo (((w7.setCell ⟨I,1,Yb⟩ (Yc A7 U.length c7)).setCell ⟨I,2,Yb⟩ (Yd Yf u1)).setCell ⟨I,3,Yb⟩ (Yd Yf u2)) I xo (Yc A7 U.length c7) (U,u1,u2)from⟨B8,dd,fo,b8⟩);clear B8 b8 dd fo D7 HV n1 n2 n3 r1 r2 r3;generalize((w7.setCell ⟨I,1,Yb⟩ (Yc A7 U.length c7)).setCell ⟨I,2,Yb⟩ (Yd Yf u1)).setCell ⟨I,3,Yb⟩ (Yd Yf u2)=w8 at *;have so:=SO.out;by_cases h2:e2=0
       ·subst h2;rw[Yo rfl,Option.bind_some]at so;have d7:=zh (HJ.out.2.2.1.trans so);clear so;go_wp2_with fail;go_roundg (m-(j+1))
        case measure=>have:=HJ.out.1;have:=HJ.out.2.1;omega
        case rel=>exact⟨j+1,(U,u1,u2),_,by push_cast;rfl,by have:=HJ.out.1;omega,rfl,d7.out,D8.out⟩
       ·have ne:(e2 != 0)=true:=by simpa using h2
        rw[Yn h2]at so;have ag:=zh (a7.out so e2 ne w8 D8.out.below);clear so h2;go_wp2_with fail;go_ret2;exact ag.out
      ·have ne:(er != 0)=true:=by simpa using he
       rw[Yn he]at L;have ag:=zh (a7.out L er ne _ D3.out.1.below);clear L he F6 r6 ai;go_wp2_with fail;go_ret2;exact ag.out
end
end Go.Proofs.YtbfnnolakggbfaaGreatDoor
