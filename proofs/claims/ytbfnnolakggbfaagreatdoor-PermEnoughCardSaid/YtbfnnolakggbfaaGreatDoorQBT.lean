import Derived.Deep.DeepFit
import Derived.Test.YtbfnnolakggbfaaGreatDoorQBF
import Derived.Test.YtbfnnolakggbfaaGreatDoorQBS
set_option maxRecDepth 100000
set_option maxHeartbeats 8000000
open Option renaming some → Ya, none → Yb
open Go.Value renaming slice → Yc, int → Yd
open Go.IntKind renaming i64 → Yf
open Go.Obj renaming cells → Yg
open Go renaming World → Yh
namespace Go.Proofs.YtbfnnolakggbfaaGreatDoor
section
open Go.RowKit
def Zgc (a c:Nat) (S1:Nat->Prop) (b:Nat):Prop:=b=a\/b=c\/S1 b
structure DrpS (S1:Nat->Prop) (W w:Yh) (bq bs:Nat) (va:Value) (xa:List Rw) (vb:Value) (xb:List Rw) (vc:Value) (xc:List Rw):Prop where
 tri:TriB (Zgc bq bs S1) W w va xa vb xb vc xc
 B:Blk w bs #[vb,vc]
 Q:Blk w bq #[Yc Yb 0 0,Yc Yb 0 0]
 ne:bq≠bs
 ge:W.heap.size<=bq/\W.heap.size<=bs
section
variable {S1:Nat->Prop} {W w w':Yh} {bq bs:Nat} {va va' vb vb' vc vc':Value} {xa xb xc xa' xb' xc':List Rw}
theorem DrpS.keep (h:DrpS S1 W w bq bs va xa vb xb vc xc) (a:Below w.heap.size w w'):DrpS S1 W w' bq bs va xa vb xb vc xc:=⟨h.tri.keep a,h.B.keep a,h.Q.keep a,h.ne,h.ge⟩
theorem DrpS.start (w:Yh) (ty:TypeId) (c:∀b,S1 b->b<w.heap.size):DrpS S1 w ((w.alloc (Yg #[Yc Yb 0 0,Yc Yb 0 0] ty)).alloc (Yg #[Yc Yb 0 0,Yc Yb 0 0] ty)) w.heap.size (w.heap.size+1) (Yc Yb 0 0) [] (Yc Yb 0 0) [] (Yc Yb 0 0) []:=by
 have a:=Blk.start (w.alloc (Yg #[Yc Yb 0 0,Yc Yb 0 0] ty)) #[Yc Yb 0 0,Yc Yb 0 0] ty;rw[World.size_alloc]at a;refine⟨TriB.start (below_alloc2 w _ _) (fun b q=>?_),a,(Blk.start w _ _).keep (below_alloc1 _ _),by omega,Nat.le_refl _,by omega⟩;rw[World.size_alloc,World.size_alloc];rcases q with q|q|q
 ·omega
 ·omega
 ·have:=c b q;omega
theorem DrpS.pushA (h:DrpS S1 W w bq bs va xa vb xb vc xc) (a:w.grownBy w' va.ownBlock) (t:TriB (Zgc bq bs S1) W w' va' xa' vb xb vc xc):DrpS S1 W w' bq bs va' xa' vb xb vc xc:=
 ⟨t,h.B.grown a (h.tri.na bs (.inr (.inl rfl))),h.Q.grown a (h.tri.na bq (.inl rfl)),h.ne,h.ge⟩
theorem DrpS.pushB (h:DrpS S1 W w bq bs va xa vb xb vc xc) (a:w.grownBy w' vb.ownBlock) (t:TriB (Zgc bq bs S1) W w' va xa vb' xb' vc xc):DrpS S1 W (w'.setCell ⟨bs,0,Yb⟩ vb') bq bs va xa vb' xb' vc xc:=by have b:=(h.B.grown a (h.tri.nb bs (.inr (.inl rfl)))).set 0 vb';refine⟨t.store (.inr (.inl rfl)) h.ge.2 0 vb',by simpa using b,(h.Q.grown a (h.tri.nb bq (.inl rfl))).other (fun e=>h.ne e.symm) _,h.ne,h.ge⟩
theorem DrpS.pushC (h:DrpS S1 W w bq bs va xa vb xb vc xc) (a:w.grownBy w' vc.ownBlock) (t:TriB (Zgc bq bs S1) W w' va xa vb xb vc' xc'):DrpS S1 W (w'.setCell ⟨bs,1,Yb⟩ vc') bq bs va xa vb xb vc' xc':=by have b:=(h.B.grown a (h.tri.nc bs (.inr (.inl rfl)))).set 1 vc';refine⟨t.store (.inr (.inl rfl)) h.ge.2 1 vc',by simpa using b,(h.Q.grown a (h.tri.nc bq (.inl rfl))).other (fun e=>h.ne e.symm) _,h.ne,h.ge⟩
theorem DrpS.done (h:DrpS S1 W w bq bs va xa vb xb vc xc):TriB (Zgc bq bs S1) W ((w.setCell ⟨bq,0,Yb⟩ vb).setCell ⟨bq,1,Yb⟩ vc) va xa vb xb vc xc/\((w.setCell ⟨bq,0,Yb⟩ vb).setCell ⟨bq,1,Yb⟩ vc).cell? ⟨bq,0,Yb⟩=Ya vb/\((w.setCell ⟨bq,0,Yb⟩ vb).setCell ⟨bq,1,Yb⟩ vc).cell? ⟨bq,1,Yb⟩=Ya vc:=by have b:=(h.Q.set 0 vb).set 1 vc;exact⟨(h.tri.store (.inl rfl) h.ge.1 0 vb).store (.inl rfl) h.ge.1 1 vc,b.cell 0,b.cell 1⟩
theorem TriB.forms (h:TriB (Zgc bq bs S1) W w va xa vb xb vc xc):(∃A c,va=Yc A xa.length c)/\(∃A c,vb=Yc A xb.length c)/\∃A c,vc=Yc A xc.length c:=by obtain⟨A,c,_,e,_⟩:=h.a.rows;obtain⟨d,g,_,i,_⟩:=h.b.rows;obtain⟨f,c2,_,j,_⟩:=h.c.rows;exact⟨⟨A,c,e⟩,⟨d,g,i⟩,f,c2,j⟩
end
def ZeB (i:Int) (ts:List Rw):Option (Stg×List Rw):=(ZW i ([],[],[]) ts).bind fun s=>(Za2 s).map fun r=>((s.2.1,s.2.2),r)
def ZmW (S1:Nat->Prop) (w:Yh) (o:Option (Stg×List Rw)) (e:Ending) (w':Yh):Prop:=
 (∃a r b d f,o=Ya (a,r)/\e=.returned (.tuple #[.agg #[d,f],b,.bool true])/\RowsIn w' b r S1/\RowsIn w' d a.1 S1/\RowsIn w' f a.2 S1/\Below w.heap.size w w') ∨
 (o=Yb/\∃A n c g i h,e=.returned (.tuple #[.agg #[Yc A n c,.slice g i h],Yc Yb 0 0,.bool false])/\Below w.heap.size w w')
theorem Zpm (S1:Nat->Prop) (w:Yh) (v:Value) (ts:List Rw) (i:Int) (h:RowsIn w v ts S1) (fz:∀b,S1 b->b<w.heap.size) (aq:∀r∈ts,TrmOk r.2) (hl:ts.length<=1000) :
  Calls Tryz.prog 81 #[v,Yd Yf i] w (ZmW S1 w (ZeB i ts)):=by
 obtain⟨iR,b9,cg,ch,ci⟩:=info_parts ZcP;obtain⟨A,c,rs,rfl,h2,h3,h4,h5,h7,h6⟩:=h;obtain⟨n,hn⟩:∃n,n=ts.length:=⟨_,rfl⟩
 have fy:rs.length=n:=by rw[hn,<-h4,List.length_map]
 rw[<-hn]at h2 h5 hl⊢;have HN:=zh (zi fy (zi h4 (zi h5 (zi h6 (zi hn (zi hl aq))))));obtain⟨bn,cw⟩:∃bn,bn=ZeB i ts:=⟨_,rfl⟩
 rw[<-cw];have HR:=zh cw;have D0:=zh (DrpS.start (S1:=S1) w 122 fz);clear fz h7 hn fy h2 h3 h4 h5 h6 hl aq cw;go_enter Tryz.func81,Tryz.ntmps81;go_upto_region 3 with fail;generalize(w.alloc (Yg #[Yc Yb 0 0,Yc Yb 0 0] 122)).alloc (Yg #[Yc Yb 0 0,Yc Yb 0 0] 122)=wz at *;generalize fp:w.heap.size=bq at *;generalize fq:bq+1=bs at *;have gs:=zh (zi fp fq);clear fp fq;go_wp2_with fail;go_loopg [8,9] n (fun g v8 v9 wr=>∃(k:Nat) (s:Za5) (va vb vc:Value),va=v8/\v9=Yd Yf k/\k<=n/\g=n-k/\ZW i ([],[],[]) (ts.take k)=Ya s/\DrpS S1 w wr bq bs va s.1 vb s.2.1 vc s.2.2)
 case atStart=>exact⟨0,([],[],[]),_,_,_,rfl,rfl,Nat.zero_le _,rfl,rfl,D0.out⟩
 case round=>
  clear D0;obtain⟨k,⟨xa,T,L⟩,va,vb,vc,rfl,rfl,hk,hg,Z,D⟩:=hrel;dsimp only at D;by_cases dl:k=n
  ·have he:ts.take k=ts:=by rw[dl,HN.out.2.2.2.2.1];exact List.take_length
   rw[he]at Z;have so:=Zdx i ts _ (xa,T,L) (fun r hr=>HN.out.2.2.2.2.2.2 r hr) Z;have am:=Zdw i _ _ _ Z
   have eq:∀r∈T,TrmOk r.2:=fun r h=>by
    rcases so.lo r h with a|⟨_,_,a,_⟩
    ·cases a
    ·exact a.2.1
   have et:∀r∈L,TrmOk r.2:=fun r h=>by
    rcases so.up r h with a|⟨_,_,a,_⟩
    ·cases a
    ·exact a.2.1
   obtain⟨⟨Aa,ca,rfl⟩,⟨Ab,cb,rfl⟩,Ac,cc,rfl⟩:=D.tri.forms;obtain⟨nb,c7⟩:∃n,n=T.length:=⟨_,rfl⟩
   obtain⟨V,c5⟩:∃m,m=L.length:=⟨_,rfl⟩
   obtain⟨p,hp⟩:∃p,p=xa.length:=⟨_,rfl⟩
   have c4:p+nb+V<=1000:=by have:=HN.out.2.2.2.2.2.1;have:=HN.out.2.2.2.2.1;simp only[Yl]at am;omega
   have hw:Za2 (xa,T,L)=if 400<p+nb*V then Yb else ZaL xa T L:=by rw[hp,c7,c5];rfl
   have b8:bn=(Za2 (xa,T,L)).map fun r=>((T,L),r):=by rw[HR.out];unfold ZeB;rw[Z];rfl
   rw[hw]at b8;obtain⟨z,hz⟩:∃z,z=nb*V:=⟨_,rfl⟩
   have fx:z<=1000000:=by rw[hz];exact Nat.mul_le_mul (show nb<=1000 by omega) (show V<=1000 by omega)
   rw[<-hz]at b8;have m1:IntKind.i64.wrap ((nb:Int)*(V:Int))=(z:Int):=by rw[show(nb:Int)*(V:Int)=(z:Int)by rw[hz];push_cast;rfl];exact IntWalk.i64_in _ (by omega)
   have m2:IntKind.i64.wrap ((p:Int)+(z:Int))=(p:Int)+(z:Int):=IntWalk.i64_in _ (by omega);rw[<-c7,<-c5,<-hp]at D;rw[<-hp];have b0:=D.B.cell 0;have b1:=D.B.cell 1;have q0:=D.Q.cell 0;have q1:=D.Q.cell 1;have f0:=D.Q.free 0;have f1:=D.Q.free 1;have HL:=zh (zi c7 (zi c5 (zi hp (zi hz (zi eq (zi et c4))))));have dj:=zh b8;have DD:=zh D;by_cases bf:400<p+z
   ·have i4:(400:Int)<(p:Int)+(z:Int):=by omega
    have HE:=zh (b8.trans (by rw[Yo bf];rfl:_=Yb));clear hk hg Z he so am eq et c7 c5 hp c4 hw b8 hz fx D bf;subst dl;have i3:¬(k:Int)<(k:Int):=by omega
    go_wp2_with fail;obtain⟨TD,z0,z1⟩:=DD.out.done;exact bodyPost_ret (v:=.tuple #[.agg #[Yc Ab nb cb,Yc Ac V cc],Yc Yb 0 0,.bool false]) (by simp[results,Tryz.results81,go_sem,z0,z1]) rfl (.inr ⟨HE.out,_,_,_,_,_,_,rfl,TD.below⟩)
   ·have i4:¬(400:Int)<(p:Int)+(z:Int):=by omega
    have dj:=zh (show bn=(ZaL xa T L).map fun r=>((T,L),r)from by rw[dj.out,Yn bf]);have HB:=zh bf;clear hk hg Z he so am eq et c7 c5 hp c4 hw b8 hz fx D bf;subst dl;have i3:¬(k:Int)<(k:Int):=by omega
    go_upto_region 20 with fail;clear m1 m2 i3 i4 b0 b1 q0 q1 f0 f1;generalize wr=wo at *;go_wp2_with fail;go_loopg [8,14] nb (fun g v8 hh wr=>∃(q:Nat) (l:List Rw) (va:Value),va=v8/\hh=Yd Yf q/\q<=nb/\g=nb-q/\ZaL xa (T.take q) L=Ya l/\l.length=p+q*V/\DrpS S1 w wr bq bs va l (Yc Ab nb cb) T (Yc Ac V cc) L)
    case atStart=>exact⟨0,xa,_,rfl,rfl,Nat.zero_le _,rfl,rfl,by rw[Nat.zero_mul,HL.out.2.2.1];rfl,DD.out⟩
    case round=>
     clear DD;obtain⟨q,l,va,rfl,rfl,hi,hg,Z,ej,D⟩:=hrel;have b0:=D.B.cell 0;by_cases ei:q=nb
     ·have he:T.take q=T:=by rw[ei,HL.out.1];exact List.take_length
      rw[he]at Z;have DD:=zh D;have HE:=zh (show bn=Ya ((T,L),l)from by rw[dj.out,Z];rfl);have b1:=D.B.cell 1;have q0:=D.Q.cell 0;have q1:=D.Q.cell 1;have f0:=D.Q.free 0;have f1:=D.Q.free 1;subst ei;clear hi hg D he Z ej;have i3:¬(q:Int)<(q:Int):=by omega
      go_wp2_with fail;obtain⟨TD,z0,z1⟩:=DD.out.done;exact bodyPost_ret (v:=.tuple #[.agg #[Yc Ab q cb,Yc Ac V cc],va,.bool true]) (by simp[results,Tryz.results81,go_sem,z0,z1]) rfl (.inl ⟨(T,L),l,va,_,_,HE.out,rfl,TD.a.isin (fun b hb q=>TD.na b (.inr (.inr q)) hb) (fun b q=>.inl (.inr (.inr (.inr (.inr (.inr q)))))),TD.b.isin (fun b hb q=>TD.nb b (.inr (.inr q)) hb) (fun b q=>.inl (.inr (.inr (.inr (.inr (.inr q)))))),TD.c.isin (fun b hb q=>TD.nc b (.inr (.inr q)) hb) (fun b q=>.inl (.inr (.inr (.inr (.inr (.inr q)))))),TD.below⟩)
     ·have bp:q<nb:=by omega
      obtain⟨y,bg⟩:∃y,T[q]? = Ya y:=⟨_,Ym (by rw[<-HL.out.1];exact bp)⟩
      have aq:=HL.out.2.2.2.2.1 y (List.mem_of_getElem? bg);have nx:ZaL xa (T.take (q+1)) L=Zap y l L:=by rw[List.take_add_one,bg];show ZaL xa (T.take q++[y]) L=_;rw[Zen,Z,Option.bind_some,ZaL];cases Zap y l L<;>rfl
      have nn:Zap y l L=Yb->ZaL xa T L=Yb:=fun g=>by
       rw[<-List.take_append_drop (q+1) T,Zen,nx,g];rfl
      have i1:(q:Int)<(nb:Int):=by omega
      have i2:(0:Int)<=(q:Int):=by omega
      have wk:IntKind.i64.wrap ((q:Int)+1)=(q:Int)+1:=IntWalk.i64_in _ (by have:=HL.out.2.2.2.2.2.2;omega);have dw:(q+1)*V<=nb*V:=Nat.mul_le_mul_right V bp;have fv:l.length+V<=400:=by have:=HB.out;have:=HL.out.2.2.2.1;rw[Nat.add_mul,Nat.one_mul]at dw;omega
      have fw:(q+1)*V=q*V+V:=by rw[Nat.add_mul,Nat.one_mul]
      have HK:=zh (zi bp (zi hg (zi nx (zi nn (zi aq (zi fv (zi ej fw)))))));have SQ:=zh (zi D (show Zap y l (L.take 0)=Ya l from rfl));have HY:=zh bg;clear ei hi hg aq nx nn Z bp ej fv dw fw D bg;go_upto_region 23 with fail;clear b0;generalize wr=jj at *;go_wp2_with fail;go_loopg [8,15] V (fun g v8 hm wr=>∃(j:Nat) (l2:List Rw) (va:Value),va=v8/\hm=Yd Yf j/\j<=V/\g=V-j/\Zap y l (L.take j)=Ya l2/\l2.length=l.length+j/\DrpS S1 w wr bq bs va l2 (Yc Ab nb cb) T (Yc Ac V cc) L)
      case atStart=>exact⟨0,l,_,rfl,rfl,Nat.zero_le _,rfl,SQ.out.2,rfl,SQ.out.1⟩
      case round=>
       clear SQ;obtain⟨j,l2,va,rfl,rfl,hj,eh,c9,dm,D⟩:=hrel;by_cases dk:j=V
       ·have ez:L.take j=L:=by rw[dk,HL.out.2.1];exact List.take_length
        rw[ez]at c9;have NX:=zh (zi (show ZaL xa (T.take (q+1)) L=Ya l2 from by rw[HK.out.2.2.1,c9]) (show l2.length=p+(q+1)*V from by rw[dm,HK.out.2.2.2.2.2.2.1,HK.out.2.2.2.2.2.2.2,dk];omega));have DT:=zh D;have b1:=D.B.cell 1;subst dk;clear c9 ez hj eh D dm;have i3:¬(j:Int)<(j:Int):=by omega
        go_wp2_with fail;go_roundg (nb-(q+1))
        case measure=>have:=HK.out.1;have:=HK.out.2.1;omega
        case rel=>exact⟨q+1,l2,_,rfl,by push_cast;rfl,by have:=HK.out.1;omega,rfl,NX.out.1,NX.out.2,DT.out⟩
       ·have dv:j<V:=by omega
        obtain⟨f9,z1,z2,z3⟩:=D.tri.b;obtain⟨y',dq⟩:∃y,f9[q]? = Ya y:=⟨_,Ym (by rw[show f9.length=nb by rw[HL.out.1,<-z1,List.length_map]];exact HK.out.1)⟩
        have f4:y'.2=y:=by
         have h1:T[q]? = Ya y'.2:=by rw[<-z1,List.getElem?_map,dq];rfl
         rw[HY.out]at h1;exact(Option.some.inj h1).symm
        rw[<-HL.out.1]at z2;obtain⟨R,rfl,d0,d1,d2,d3⟩:=ZaT (Zw.of_own z2) (Below.refl _ _) dq (by have:=HK.out.1;omega);have a6:=(z3 y' (List.mem_of_getElem? dq)).1;obtain⟨dy,y1,y2,y3⟩:=D.tri.c;obtain⟨x,hx⟩:∃x,dy[j]? = Ya x:=⟨_,Ym (by rw[show dy.length=V by rw[HL.out.2.1,<-y1,List.length_map]];omega)⟩
        have em:L[j]? = Ya x.2:=by rw[<-y1,List.getElem?_map,hx];rfl
        rw[<-HL.out.2.1]at y2;obtain⟨N,rfl,e0,e1,e2,e3⟩:=ZaT (Zw.of_own y2) (Below.refl _ _) hx (by omega);have ce:=(y3 x (List.mem_of_getElem? hx)).1;have c8:=HL.out.2.2.2.2.2.1 x.2 (List.mem_of_getElem? em);have eo:Zap y l (L.take (j+1))=(Zbt y x.2).map fun t=>l2++[t]:=by rw[List.take_add_one,em];show Zap _ l (L.take j++[x.2])=_;rw[Zem,c9,Option.bind_some,Zap];cases Zbt y x.2<;>rfl
        have f7:Zbt y x.2=Yb->bn=Yb:=fun g=>by
         rw[dj.out,HK.out.2.2.2.1 (by
          rw[<-List.take_append_drop (j+1) L,Zem,eo,g]
          rfl)]
         rfl
        have ep:=HK.out.2.2.2.2.1;obtain⟨yv,bh⟩:=y';dsimp only at f4 d0 d1 d2 d3 a6;subst f4;have d6:=fun(J:Yh) (hb:Below wr.heap.size wr J)=>Zh5 J yv x.1 bh.2.1 x.2.2.1 bh.2.2 x.2.2.2 (a6.below hb) (ce.below hb) ep.ok.wide c8.ok.wide ep.k.wide c8.k.wide;have so:Zbt bh x.2=(Zcc bh.2 x.2.2).map fun t=>(Zdl bh x.2,t):=rfl;unfold Zcc at so;(try dsimp only at so d6);generalize ZaO bh.2.1 x.2.2.1 bh.2.2 x.2.2.2=QQ at *;have i3:(j:Int)<(V:Int):=by omega
        have i4:(0:Int)<=(j:Int):=by omega
        have wj:IntKind.i64.wrap ((j:Int)+1)=(j:Int)+1:=IntWalk.i64_in _ (by have:=HL.out.2.2.2.2.2.2;omega);have fu:l2.length+1<=1000:=by have:=HK.out.2.2.2.2.2.1;omega
        obtain⟨U,⟨u1,u2⟩,er⟩:=QQ;obtain⟨xv,bo,bl,d7,d8⟩:=x;obtain⟨ao,al,a1,a2⟩:=bh;dsimp only at *;obtain⟨Ax,cx,rfl⟩:=Zc a6;obtain⟨Ay,cy,rfl⟩:=Zc ce;have AD:=zh d6;have HJ:=zh (zi dv (zi eh (zi eo (zi f7 (zi dm so)))));have LK:=zh (show l2.length+1<=maxLen/\(l2.length+1)*48<=140737488355328 from by unfold maxLen;omega);have b0:=D.B.cell 0;have b1:=D.B.cell 1;have DJ:=zh D;clear dk hj eh c9 D em hx ce a6 c8 eo f7 ep d6 so dv dm fu z1 z2 z3 y1 y2 y3 dq HY;generalize al.length=yn at *;generalize bl.length=zn at *;go_upto_region 26 with fail;generalize wr=W at *;go_cut [16,17]from 102 to 149 (fun ho hq wx=>hq=Yd Yf er/\Zf7 W U u1 u2 ho wx)
        case first=>
         have X:=zh (show ZcQ (fun J=>((J.cell? ⟨bs,0,Yb⟩=Ya (Yc (Ya R) nb cb)/\J.cell? ⟨bs,1,Yb⟩=Ya (Yc (Ya N) V cc))/\((J.cell? ⟨(R.add (q*4)).block,(R.add (q*4)).off+1,Yb⟩=Ya (Yc Ax yn cx)/\J.cell? ⟨(R.add (q*4)).block,(R.add (q*4)).off+2,Yb⟩=Ya (Yd Yf a1)/\J.cell? ⟨(R.add (q*4)).block,(R.add (q*4)).off+3,Yb⟩=Ya (Yd Yf a2))/\(J.cell? ⟨(N.add (j*4)).block,(N.add (j*4)).off+1,Yb⟩=Ya (Yc Ay zn cy)/\J.cell? ⟨(N.add (j*4)).block,(N.add (j*4)).off+2,Yb⟩=Ya (Yd Yf d7)/\J.cell? ⟨(N.add (j*4)).block,(N.add (j*4)).off+3,Yb⟩=Ya (Yd Yf d8))))/\Below W.heap.size W J)from Zx (Zx (Zx (Zu _ _) (Zu _ _)) (Zx (Zx (Zu _ _) (Zx (Zu _ _) (Zu _ _))) (Zx (Zu _ _) (Zx (Zu _ _) (Zu _ _))))) (ZbO W));have HS:(((W.drew.cell? ⟨bs,0,Yb⟩=Ya (Yc (Ya R) nb cb)/\W.drew.cell? ⟨bs,1,Yb⟩=Ya (Yc (Ya N) V cc))/\((W.drew.cell? ⟨(R.add (q*4)).block,(R.add (q*4)).off+1,Yb⟩=Ya (Yc Ax yn cx)/\W.drew.cell? ⟨(R.add (q*4)).block,(R.add (q*4)).off+2,Yb⟩=Ya (Yd Yf a1)/\W.drew.cell? ⟨(R.add (q*4)).block,(R.add (q*4)).off+3,Yb⟩=Ya (Yd Yf a2))/\(W.drew.cell? ⟨(N.add (j*4)).block,(N.add (j*4)).off+1,Yb⟩=Ya (Yc Ay zn cy)/\W.drew.cell? ⟨(N.add (j*4)).block,(N.add (j*4)).off+2,Yb⟩=Ya (Yd Yf d7)/\W.drew.cell? ⟨(N.add (j*4)).block,(N.add (j*4)).off+3,Yb⟩=Ya (Yd Yf d8))))/\Below W.heap.size W W.drew):=⟨⟨⟨b0,b1⟩,⟨d1,d2,d3⟩,⟨e1,e2,e3⟩⟩,Zn _⟩
         clear b0 b1 d0 d1 d2 d3 e0 e1 e2 e3;refine wp_region_noPanic ?_;refine wp_region_held_drew (S:=(fun J=>((J.cell? ⟨bs,0,Yb⟩=Ya (Yc (Ya R) nb cb)/\J.cell? ⟨bs,1,Yb⟩=Ya (Yc (Ya N) V cc))/\((J.cell? ⟨(R.add (q*4)).block,(R.add (q*4)).off+1,Yb⟩=Ya (Yc Ax yn cx)/\J.cell? ⟨(R.add (q*4)).block,(R.add (q*4)).off+2,Yb⟩=Ya (Yd Yf a1)/\J.cell? ⟨(R.add (q*4)).block,(R.add (q*4)).off+3,Yb⟩=Ya (Yd Yf a2))/\(J.cell? ⟨(N.add (j*4)).block,(N.add (j*4)).off+1,Yb⟩=Ya (Yc Ay zn cy)/\J.cell? ⟨(N.add (j*4)).block,(N.add (j*4)).off+2,Yb⟩=Ya (Yd Yf d7)/\J.cell? ⟨(N.add (j*4)).block,(N.add (j*4)).off+3,Yb⟩=Ya (Yd Yf d8))))/\Below W.heap.size W J)) (by kernel_rfl) HS (fun u=>?_);clear HS;refine tk 0 rfl ?_;refine tk 1 rfl ?_;refine tk 2 rfl ?_;refine tk 3 rfl ?_;refine tk 4 rfl ?_;refine tk 5 rfl ?_;refine tk 6 rfl ?_;refine tk 7 rfl ?_;refine tk 8 rfl ?_;refine tk 9 rfl ?_;refine tk 10 rfl ?_;refine tk 11 rfl ?_;(try simp only[cl,Act.put]);refine wpAnyH_ready (rs:=[12,16]) (by kernel_rfl) (by simp) (AllReadyH.cons (o:=_) rfl (fun K Y=>?_) (AllReadyH.cons (o:=_) rfl (fun K Y=>?_) AllReadyH.nil))
         rotate_left
         go_simp
         (first|refine Y.out _ _ (Zbh X.out (by with_reducible assumption)) (fun C=>?_)|refine Y.out _ _ (X.out _ _ (below_alloc1 _ _) (by with_reducible assumption)) (fun C=>?_))
         clear Y K;(try dsimp only at C)
         (first|have HC:=zh (ZbB C)|have HC:=zh (Zbg C))
         have E:=zh u;clear u;have u:=C;clear C;(try simp only[cl,Act.put]);refine rd 12 rfl fun K Y=>?_
         rotate_right
         all_goals
          go_simp;(go_at_call 33;go_fit (AD.out _ (ZG (by with_reducible assumption)));rintro e6 w6 ⟨v6,rfl,cf,hb,ae⟩;obtain⟨A6,c6,rfl⟩:=Zc cf;have ck:=zh (ae.mono (ZG u).size);(try (have HF:=zh (Off.fresh (l:=U) (S:=fun b=>b=_) ae (fun b q=>by rw[q];exact HC.out.F.lt));have HC:=zh (HC.out.keep hb)));have HV:=zh cf;clear cf ae);go_wp2_with fail;refine Y.out _ _ (X.out _ _ hb (by with_reducible assumption)) (fun C=>?_);clear Y K u hb;have u:=C;clear C;(try simp only[cl,Act.put])
         all_goals
          refine tk 13 rfl ?_;refine tk 14 rfl ?_;refine tk 15 rfl ?_;(try simp only[cl,Act.put])
         refine rd 16 rfl fun K Y=>?_;go_simp
         (first|refine Y.out _ _ (Zbh X.out (by with_reducible assumption)) (fun C=>?_)|refine Y.out _ _ (X.out _ _ (below_alloc1 _ _) (by with_reducible assumption)) (fun C=>?_))
         clear Y K;(try dsimp only at C)
         (first|have HC:=zh (ZbB C)|have HC:=zh (Zbg C))
         have E:=zh u;clear u;have u:=C;clear C;(try simp only[cl,Act.put])
         all_goals
          refine rd 17 rfl fun K Y=>?_
          (obtain⟨⟨h0,h1,h2,h3,h4,h5,h6⟩,h7,h8⟩:=HC.out;clear h7 h8)
          go_simp;clear h0 h1 h2 h3 h4 h5 h6
          (first
           |refine Y.out _ _ (X.out _ _ (below_alloc1 _ _) E.out) (fun C=>?_)
           |refine Y.out _ _ (X.out _ _ (HC.out.fill _ _ _).1 E.out) (fun C=>?_))
          clear Y K u;(try dsimp only at C);have u:=C;clear C;(try simp only[cl,Act.put]);refine tk 18 rfl ?_;(try simp only[cl,Act.put]);refine wpAnyH_done (by kernel_rfl) ?_ _;refine NoPanic.normal ?_;go_wp2_with fail;go_meet
          case rel=>first|exact⟨rfl,Zif E.out.2 37 HV.out ck.out⟩|exact⟨rfl,Zjh E.out.2 HC.out HV.out HF.out ck.out⟩
        case rest=>
        obtain⟨rfl,c,A6,c6,rfl,F6,r6,ax,ae⟩:=hcut;have D4:=zh (DJ.out.keep ax);have fo:Off (four (Zgc bq bs S1) va (Yc (Ya R) nb cb) (Yc (Ya N) V cc)) (Yc A6 U.length c6) U:=Off.fresh ae (fun b g=>DJ.out.tri.lt b g);have HV:=zh (zi r6 fo);have k0:=F6.k0;have k1:=F6.k1;have k2:=F6.k2;replace b0:=ZS ax b0;replace b1:=ZS ax b1;replace d0:=ZS ax d0;replace e0:=ZS ax e0;clear d1 d2 d3 e1 e2 e3 F6 r6 ax ae fo DJ;have so:=HJ.out.2.2.2.2.2;by_cases he:er=0
        ·subst he;rw[Yo rfl,Option.map_some]at so;by_cases ha:ao=2
         ·have ea:(ao==2)=true:=by rw[ha];rfl
          have NX:=zh (show Zap (ao,al,a1,a2) l (L.take (j+1))=Ya (l2++[(2,U,u1,u2)])from by rw[HJ.out.2.2.1,so];unfold Zdl;simp[ha]);have I:=zh (D4.out.tri.ahead (n:=U.length) (op:=2) (kn:=u1) (kd:=u2) (A:=A6) (c:=c6) rfl 39);obtain⟨ak,QV⟩:=I.out;have I:=zh QV;clear QV so ha;go_wp2_with (at_builtin;refine Zj _ rfl _ _ 43 rfl w.heap.size 39 iR (.agg #[Yd Yf 0,Yc Yb 0 0,Yd Yf 0,Yd Yf 0]) 4 48 Tryz.underlying43 b9 cg ch ci rfl (by decide) _ l2.length (Zr ak) rfl I.out.2.1 (wc.heap.size+1) (Ya ⟨wc.heap.size,0,Yb⟩) 1 1 [Yd Yf 2,Yc A6 U.length c6,Yd Yf u1,Yd Yf u2] rfl I.out.2.2.2.2 (Zb2 _ _ _ _ _ _) (by have:=LK.out;omega) (by have:=LK.out;omega) I.out.2.2.2.1.below.size ?_);intro v9 w9 H f O;have ag:=below_alloc1 wc (Yg #[Yd Yf 2,Yc A6 U.length c6,Yd Yf u1,Yd Yf u2] 39);have D8:=zh ((D4.out.keep ag).pushA f (TriB.push (t:=(2,U,u1,u2)) I.out.2.2.2.1 I.out.1 I.out.2.2.1 H f (by first|exact O|simpa using O) (HV.out.1.below ag) HV.out.2));clear H f O ag;go_wp2_with fail;go_roundg (V-(j+1))
          case measure=>have:=HJ.out.1;have:=HJ.out.2.1;omega
          case rel=>exact⟨j+1,l2++[(2,U,u1,u2)],_,rfl,by push_cast;rfl,by have:=HJ.out.1;omega,rfl,NX.out,by rw[Yj,HJ.out.2.2.2.2.1];rfl,D8.out⟩
         ·have ea:(ao==2)=false:=by simpa using ha
          by_cases ap:bo=2
          ·have eb:(bo==2)=true:=by rw[ap];rfl
           have NX:=zh (show Zap (ao,al,a1,a2) l (L.take (j+1))=Ya (l2++[(2,U,u1,u2)])from by rw[HJ.out.2.2.1,so];unfold Zdl;simp[ap]);have I:=zh (D4.out.tri.ahead (n:=U.length) (op:=2) (kn:=u1) (kd:=u2) (A:=A6) (c:=c6) rfl 39);obtain⟨ak,QV⟩:=I.out;have I:=zh QV;clear QV so ha ap;go_wp2_with (at_builtin;refine Zj _ rfl _ _ 43 rfl w.heap.size 39 iR (.agg #[Yd Yf 0,Yc Yb 0 0,Yd Yf 0,Yd Yf 0]) 4 48 Tryz.underlying43 b9 cg ch ci rfl (by decide) _ l2.length (Zr ak) rfl I.out.2.1 (wc.heap.size+1) (Ya ⟨wc.heap.size,0,Yb⟩) 1 1 [Yd Yf 2,Yc A6 U.length c6,Yd Yf u1,Yd Yf u2] rfl I.out.2.2.2.2 (Zb2 _ _ _ _ _ _) (by have:=LK.out;omega) (by have:=LK.out;omega) I.out.2.2.2.1.below.size ?_);intro v9 w9 H f O;have ag:=below_alloc1 wc (Yg #[Yd Yf 2,Yc A6 U.length c6,Yd Yf u1,Yd Yf u2] 39);have D8:=zh ((D4.out.keep ag).pushA f (TriB.push (t:=(2,U,u1,u2)) I.out.2.2.2.1 I.out.1 I.out.2.2.1 H f (by first|exact O|simpa using O) (HV.out.1.below ag) HV.out.2));clear H f O ag;go_wp2_with fail;go_roundg (V-(j+1))
           case measure=>have:=HJ.out.1;have:=HJ.out.2.1;omega
           case rel=>exact⟨j+1,l2++[(2,U,u1,u2)],_,rfl,by push_cast;rfl,by have:=HJ.out.1;omega,rfl,NX.out,by rw[Yj,HJ.out.2.2.2.2.1];rfl,D8.out⟩
          ·have eb:(bo==2)=false:=by simpa using ap
           have NX:=zh (show Zap (ao,al,a1,a2) l (L.take (j+1))=Ya (l2++[(1,U,u1,u2)])from by rw[HJ.out.2.2.1,so];unfold Zdl;simp[ha,ap]);have I:=zh (D4.out.tri.ahead (n:=U.length) (op:=1) (kn:=u1) (kd:=u2) (A:=A6) (c:=c6) rfl 39);obtain⟨ak,QV⟩:=I.out;have I:=zh QV;clear QV so ha ap;go_wp2_with (at_builtin;refine Zj _ rfl _ _ 43 rfl w.heap.size 39 iR (.agg #[Yd Yf 0,Yc Yb 0 0,Yd Yf 0,Yd Yf 0]) 4 48 Tryz.underlying43 b9 cg ch ci rfl (by decide) _ l2.length (Zr ak) rfl I.out.2.1 (wc.heap.size+1) (Ya ⟨wc.heap.size,0,Yb⟩) 1 1 [Yd Yf 1,Yc A6 U.length c6,Yd Yf u1,Yd Yf u2] rfl I.out.2.2.2.2 (Zb2 _ _ _ _ _ _) (by have:=LK.out;omega) (by have:=LK.out;omega) I.out.2.2.2.1.below.size ?_);intro v9 w9 H f O;have ag:=below_alloc1 wc (Yg #[Yd Yf 1,Yc A6 U.length c6,Yd Yf u1,Yd Yf u2] 39);have D8:=zh ((D4.out.keep ag).pushA f (TriB.push (t:=(1,U,u1,u2)) I.out.2.2.2.1 I.out.1 I.out.2.2.1 H f (by first|exact O|simpa using O) (HV.out.1.below ag) HV.out.2));clear H f O ag;go_wp2_with fail;go_roundg (V-(j+1))
           case measure=>have:=HJ.out.1;have:=HJ.out.2.1;omega
           case rel=>exact⟨j+1,l2++[(1,U,u1,u2)],_,rfl,by push_cast;rfl,by have:=HJ.out.1;omega,rfl,NX.out,by rw[Yj,HJ.out.2.2.2.2.1];rfl,D8.out⟩
        ·have ne:(er != 0)=true:=by simpa using he
         rw[Yn he,Option.map_none]at so;have HE:=zh (HJ.out.2.2.2.1 so);have q0:=D4.out.Q.cell 0;have q1:=D4.out.Q.cell 1;have f0:=D4.out.Q.free 0;have f1:=D4.out.Q.free 1;clear so he;go_wp2_with fail;obtain⟨TD,z0,z1⟩:=D4.out.done;exact bodyPost_ret (v:=.tuple #[.agg #[Yc (Ya R) nb cb,Yc (Ya N) V cc],Yc Yb 0 0,.bool false]) (by simp[results,Tryz.results81,go_sem,z0,z1]) rfl (.inr ⟨HE.out,_,_,_,_,_,_,rfl,TD.below⟩)
  ·have bp:k<n:=by omega
   obtain⟨y,hy⟩:∃y,rs[k]? = Ya y:=⟨_,Ym (by have:=HN.out.1;omega)⟩
   have bg:ts[k]? = Ya y.2:=by rw[<-HN.out.2.1,List.getElem?_map,hy];rfl
   have eg:Below w.heap.size w wr:=D.tri.below;obtain⟨R,rfl,d0,d1,d2,d3⟩:=ZaT (w:=w) (wr:=wr) (by rw[gs.out.1];exact HN.out.2.2.1) eg hy (show 0<n by omega);have a6:=HN.out.2.2.2.1 y (List.mem_of_getElem? hy);have aq:=HN.out.2.2.2.2.2.2 y.2 (List.mem_of_getElem? bg)
   have dx:Off (four (Zgc bq bs S1) va vb vc) y.1 y.2.2.1:=a6.2.more a6.1 fun b g=>by
    rcases D.tri.old b g with(q|q|q)|q
    ·exact .inr (by rw[q];exact D.ge.1)
    ·exact .inr (by rw[q];exact D.ge.2)
    ·exact .inl q
    ·exact .inr q
   have hr:=a6.1.below eg;have am:=Zdw i _ _ _ Z;have nx:ZW i ([],[],[]) (ts.take (k+1))=Zar i (xa,T,L) y.2:=by rw[List.take_add_one,bg];show ZW i ([],[],[]) (ts.take k++[y.2])=_;rw[Zgy,Z];rfl
   have nn:Zar i (xa,T,L) y.2=Yb->bn=Yb:=fun q=>by
    have e:ZW i ([],[],[]) ts=Yb:=by rw[<-List.take_append_drop (k+1) ts,Zhq,nx,q];rfl
    rw[HR.out];unfold ZeB;rw[e];rfl
   have i1:(k:Int)<(n:Int):=by omega
   have i2:(0:Int)<=(k:Int):=by omega
   have wk:IntKind.i64.wrap ((k:Int)+1)=(k:Int)+1:=IntWalk.i64_in _ (by have:=HN.out.2.2.2.2.2.1;omega);have es:=aq.ok.at i;have ta:=fun(J:Yh) (hb:Below wr.heap.size wr J)=>ZaV J y.1 y.2.2.1 y.2.2.2.1 y.2.2.2.2 i (hr.below hb);have sc:=fun(J:Yh) (hb:Below wr.heap.size wr J) (hn:(atL y.2.2.1 i).1≠0)=>ZmK J y.1 y.2 (ZbC (atL y.2.2.1 i)) (hr.below hb) aq.ok.wide aq.k.wide (Zgq es hn).wide;have st:Zar i (xa,T,L) y.2=if(atL y.2.2.1 i).1=0 then Ya (xa++[y.2],T,L)else match ZaW y.2.2 (ZbC (atL y.2.2.1 i))with|none=>Yb|some t=>if 0<(atL y.2.2.1 i).1 then Ya (xa,T++[(y.2.1,t)],L)else Ya (xa,T,L++[(y.2.1,t)]):=rfl
   unfold ZaW at st;have c4:xa.length+T.length+L.length<=1000:=by have:=HN.out.2.2.2.2.2.1;rw[List.length_take]at am;simp only[Yl]at am;omega
   have f5:ZbC (atL y.2.2.1 i)=((atL y.2.2.1 i).2,((atL y.2.2.1 i).1.natAbs:Int)):=rfl;generalize Zh y.2.2.1 y.2.2.2 (ZbC (atL y.2.2.1 i))=P at *;generalize ZbC (atL y.2.2.1 i)=iv at *;generalize g4:atL y.2.2.1 i=cq at *;obtain⟨yv,xo,xl,x1,x2⟩:=y;obtain⟨M,⟨m1,m2⟩,er⟩:=P;obtain⟨cn,cd⟩:=cq;obtain⟨bt,bu⟩:=iv;dsimp only at *;obtain⟨Ax,cx,rfl⟩:=Zc hr;obtain⟨fs,ft⟩:bt=cd/\bu=(cn.natAbs:Int):=by injection f5 with a b;exact⟨a,b⟩
   have TA:=zh ta;have ff:=zh sc;have HK:=zh (zi bp (zi hg (zi nx (zi nn (zi st hr)))));have LK:=zh (show xa.length+1<=maxLen/\T.length+1<=maxLen/\L.length+1<=maxLen/\(xa.length+1)*48<=140737488355328/\(T.length+1)*48<=140737488355328/\(L.length+1)*48<=140737488355328 from by unfold maxLen;omega);have DD:=zh (zi D dx);have wn:IntKind.i64.wrap (-cn)=-cn:=IntWalk.i64_in _ (by obtain⟨d,e,v⟩:=es;have:=v.n_le;dsimp only at this;omega);have HI:=zh (zi fs ft);clear dl hk hg bg hy a6 aq dx hr am nx nn st ta sc c4 Z g4 D bp es f5 fs ft eg;generalize xl.length=xn at *;go_upto_region 7 with(go_at_call 53;go_fit (TA.out _ (Below.refl _ _));rintro e2 w2 ⟨rfl,ap⟩)
   have a3:=below_alloc1 w2 (Yg #[Yd Yf cn,Yd Yf cd] 23);have B3:=zh (zi (ap.trans (a3.mono ap.size)) (Blk.start w2 #[Yd Yf cn,Yd Yf cd] 23));have di:=zh (zi d0 (zi d1 (zi d2 d3)));replace d0:=ZS B3.out.1 d0;replace d1:=ZS B3.out.1 d1;replace d2:=ZS B3.out.1 d2;replace d3:=ZS B3.out.1 d3;clear a3 ap;generalize w2.heap.size=bc at *;generalize w2.alloc (Yg #[Yd Yf cn,Yd Yf cd] 23)=w3 at *;have c0:=B3.out.2.cell 0;have c1:=B3.out.2.cell 1;by_cases h0:cn=0
   ·have e0:(cn==0)=true:=by rw[h0];rfl
    have D3:=zh (DD.out.1.keep B3.out.1);have I:=zh (D3.out.tri.ahead (n:=xn) (op:=xo) (kn:=x1) (kd:=x2) (A:=Ax) (c:=cx) rfl 39);obtain⟨ak,QV⟩:=I.out;have I:=zh QV;have NX:=zh (show ZW i ([],[],[]) (ts.take (k+1))=Ya (xa++[(xo,xl,x1,x2)],T,L)from by rw[HK.out.2.2.1,HK.out.2.2.2.2.1,Yo h0]);clear QV h0;go_wp2_with (at_builtin;refine Zj _ rfl _ _ 43 rfl w.heap.size 39 iR (.agg #[Yd Yf 0,Yc Yb 0 0,Yd Yf 0,Yd Yf 0]) 4 48 Tryz.underlying43 b9 cg ch ci rfl (by decide) _ xa.length (Zr ak) rfl I.out.2.1 (w3.heap.size+1) (Ya ⟨w3.heap.size,0,Yb⟩) 1 1 [Yd Yf xo,Yc Ax xn cx,Yd Yf x1,Yd Yf x2] rfl I.out.2.2.2.2 (Zb2 _ _ _ _ _ _) (by have:=LK.out;omega) (by have:=LK.out;omega) I.out.2.2.2.1.below.size ?_);intro v8 w8 H f O;have ah:=below_alloc1 w3 (Yg #[Yd Yf xo,Yc Ax xn cx,Yd Yf x1,Yd Yf x2] 39);have ce:=HK.out.2.2.2.2.2.below (B3.out.1.trans (ah.mono B3.out.1.size));have D8:=zh ((D3.out.keep ah).pushA f (TriB.push (t:=(xo,xl,x1,x2)) I.out.2.2.2.1 I.out.1 I.out.2.2.1 H f (by first|exact O|simpa using O) ce DD.out.2));clear H f O ah ce;go_wp2_with fail;go_roundg (n-(k+1))
    case measure=>have:=HK.out.1;have:=HK.out.2.1;omega
    case rel=>exact⟨k+1,(xa++[(xo,xl,x1,x2)],T,L),_,_,_,rfl,by push_cast;rfl,by have:=HK.out.1;omega,rfl,NX.out,D8.out⟩
   ·have e0:(cn==0)=false:=by simpa using h0
    have d5:=zh (fun J hb=>ff.out J hb h0);have gu:=zh h0;have cz:=below_alloc1 w3 (Yg #[Yd Yf cd,Yd Yf cn] 23);have BN:=Blk.start w3 #[Yd Yf cd,Yd Yf cn] 23;have gx:=ZS cz c0;have gy:=ZS cz c1;have y0:=BN.cell 0;have y1:=BN.cell 1;have g0:=BN.free 0;have g1:=BN.free 1;have aa:=zh (zi BN (zi (B3.out.1.trans (cz.mono B3.out.1.size)) (zi (B3.out.2.keep cz) (zi (show wr.heap.size<=w3.heap.size from B3.out.1.size) (show bc≠w3.heap.size from Nat.ne_of_lt B3.out.2.lt)))));clear cz BN ff B3 d0 d1 d2 d3;go_upto_if 49 with fail;clear c0 c1 y0 y1;generalize w3.alloc (Yg #[Yd Yf cd,Yd Yf cn] 23)=w4 at *;generalize w3.heap.size=bb at *;go_cut []from 19 to 82 (fun wx=>RatAt wx bb bt bu/\Below wr.heap.size wr wx/\Blk wx bc #[Yd Yf cn,Yd Yf cd])
    case first=>
     have y0:=aa.out.1.cell 0;have y1:=aa.out.1.cell 1;by_cases hn:cn<0
     ·have cm:=zh (show bt=cd/\bu=-cn from⟨HI.out.1,by rw[HI.out.2];omega⟩);have tn:decide (cn<0)=true:=decide_eq_true hn;go_wp2_with fail;go_meet
      case rel=>
       have B5:=(aa.out.1.set 0 (Yd Yf cd)).set 1 (Yd Yf (-cn));rw[cm.out.1,cm.out.2];exact⟨⟨B5.cell 0,B5.cell 1,B5.lt⟩,(aa.out.2.1.setCell (p:=⟨bb,0,Yb⟩) aa.out.2.2.2.1 _).setCell (p:=⟨bb,1,Yb⟩) aa.out.2.2.2.1 _,(aa.out.2.2.1.other (p:=⟨bb,0,Yb⟩) (fun e=>aa.out.2.2.2.2 e.symm) _).other (p:=⟨bb,1,Yb⟩) (fun e=>aa.out.2.2.2.2 e.symm) _⟩
     ·have cm:=zh (show bt=cd/\bu=cn from⟨HI.out.1,by rw[HI.out.2];omega⟩);have tn:decide (cn<0)=false:=decide_eq_false hn;go_wp2_with fail;go_meet
      case rel=>
       rw[cm.out.1,cm.out.2];exact⟨⟨aa.out.1.cell 0,aa.out.1.cell 1,aa.out.1.lt⟩,aa.out.2.1,aa.out.2.2.1⟩
    case rest=>
     obtain⟨RA,ai,fr⟩:=hcut;have D4:=zh (zi (DD.out.1.keep ai) (zi ai fr));have d0:=ZS ai di.out.1;have d1:=ZS ai di.out.2.1;have d2:=ZS ai di.out.2.2.1;have d3:=ZS ai di.out.2.2.2;have j0:=RA.k0;have j1:=RA.k1;have d5:=zh (fun(J:Yh) (hb:Below wc.heap.size wc J)=>d5.out J (D4.out.2.1.trans (hb.mono D4.out.2.1.size)));clear ai fr RA h0 gx gy g0 g1;go_upto_region 12 with fail;generalize g9:wc=W at *;clear g9;go_cut [12,13]from 19 to 82 (fun hd hf wx=>hf=.bool (er==0)/\Zk3 W xo M m1 m2 hd wx)
     case first=>
      have X:=zh (show ZcQ (fun J=>((J.cell? (R.add (k*4))=Ya (Yd Yf xo)/\J.cell? ⟨(R.add (k*4)).block,(R.add (k*4)).off+1,Yb⟩=Ya (Yc Ax xn cx)/\J.cell? ⟨(R.add (k*4)).block,(R.add (k*4)).off+2,Yb⟩=Ya (Yd Yf x1)/\J.cell? ⟨(R.add (k*4)).block,(R.add (k*4)).off+3,Yb⟩=Ya (Yd Yf x2))/\(J.cell? ⟨bb,0,Yb⟩=Ya (Yd Yf bt)/\J.cell? ⟨bb,1,Yb⟩=Ya (Yd Yf bu)))/\Below W.heap.size W J)from Zx (Zx (Zx (Zu _ _) (Zx (Zu _ _) (Zx (Zu _ _) (Zu _ _)))) (Zx (Zu _ _) (Zu _ _))) (ZbO W));have HS:(((W.drew.cell? (R.add (k*4))=Ya (Yd Yf xo)/\W.drew.cell? ⟨(R.add (k*4)).block,(R.add (k*4)).off+1,Yb⟩=Ya (Yc Ax xn cx)/\W.drew.cell? ⟨(R.add (k*4)).block,(R.add (k*4)).off+2,Yb⟩=Ya (Yd Yf x1)/\W.drew.cell? ⟨(R.add (k*4)).block,(R.add (k*4)).off+3,Yb⟩=Ya (Yd Yf x2))/\(W.drew.cell? ⟨bb,0,Yb⟩=Ya (Yd Yf bt)/\W.drew.cell? ⟨bb,1,Yb⟩=Ya (Yd Yf bu)))/\Below W.heap.size W W.drew):=⟨⟨⟨d0,d1,d2,d3⟩,⟨j0,j1⟩⟩,Zn _⟩
      clear d0 d1 d2 d3 j0 j1;refine wp_region_noPanic ?_;refine wp_region_held_drew (S:=(fun J=>((J.cell? (R.add (k*4))=Ya (Yd Yf xo)/\J.cell? ⟨(R.add (k*4)).block,(R.add (k*4)).off+1,Yb⟩=Ya (Yc Ax xn cx)/\J.cell? ⟨(R.add (k*4)).block,(R.add (k*4)).off+2,Yb⟩=Ya (Yd Yf x1)/\J.cell? ⟨(R.add (k*4)).block,(R.add (k*4)).off+3,Yb⟩=Ya (Yd Yf x2))/\(J.cell? ⟨bb,0,Yb⟩=Ya (Yd Yf bt)/\J.cell? ⟨bb,1,Yb⟩=Ya (Yd Yf bu)))/\Below W.heap.size W J)) (by kernel_rfl) HS (fun u=>?_);clear HS;refine tk 0 rfl ?_;refine tk 1 rfl ?_;refine tk 2 rfl ?_;refine tk 3 rfl ?_;refine tk 4 rfl ?_;(try simp only[cl,Act.put]);refine wpAnyH_ready (rs:=[5,9]) (by kernel_rfl) (by simp) (AllReadyH.cons (o:=_) rfl (fun K Y=>?_) (AllReadyH.cons (o:=_) rfl (fun K Y=>?_) AllReadyH.nil))
      rotate_left
      go_simp
      (first|refine Y.out _ _ (Zbh X.out (by with_reducible assumption)) (fun C=>?_)|refine Y.out _ _ (X.out _ _ (below_alloc1 _ _) (by with_reducible assumption)) (fun C=>?_))
      clear Y K;(try dsimp only at C)
      (first|have HC:=zh (Zln C)|have HC:=zh (Zj2 C))
      have E:=zh u;clear u;have u:=C;clear C;(try simp only[cl,Act.put]);refine rd 5 rfl fun K Y=>?_
      rotate_right
      all_goals
       go_simp;(go_at_call 126;go_fit (d5.out _ (ZG (by with_reducible assumption)));rintro e6 w6 ⟨A6,c6,rfl,cf,hb,ae⟩;have ck:=zh (ae.mono (ZG u).size);(try (have HF:=zh (Off.fresh (l:=M) (S:=fun b=>b=_) ae (fun b q=>by rw[q];exact HC.out.F.lt));have HC:=zh (HC.out.keep hb)));have HV:=zh cf;clear cf ae);go_wp2_with fail;refine Y.out _ _ (X.out _ _ hb (by with_reducible assumption)) (fun C=>?_);clear Y K u hb;have u:=C;clear C;(try simp only[cl,Act.put])
      all_goals
       refine tk 6 rfl ?_;refine tk 7 rfl ?_;refine tk 8 rfl ?_;(try simp only[cl,Act.put])
      refine rd 9 rfl fun K Y=>?_;go_simp
      (first|refine Y.out _ _ (Zbh X.out (by with_reducible assumption)) (fun C=>?_)|refine Y.out _ _ (X.out _ _ (below_alloc1 _ _) (by with_reducible assumption)) (fun C=>?_))
      clear Y K;(try dsimp only at C)
      (first|have HC:=zh (Zln C)|have HC:=zh (Zj2 C))
      have E:=zh u;clear u;have u:=C;clear C;(try simp only[cl,Act.put])
      all_goals
       refine rd 10 rfl fun K Y=>?_;obtain⟨⟨h0,h1,h2,h3⟩,h4,h5,h6,h7⟩:=HC.out.parts;go_simp;clear h0 h1 h2 h3 h4 h5 h6 h7
       (first
        |refine Y.out _ _ (X.out _ _ (below_alloc1 _ _) E.out) (fun C=>?_)
        |refine Y.out _ _ (X.out _ _ (HC.out.fill _ _ _ _).1 E.out) (fun C=>?_))
       clear Y K u;(try dsimp only at C);have u:=C;clear C;(try simp only[cl,Act.put]);refine tk 11 rfl ?_;(try simp only[cl,Act.put]);refine wpAnyH_done (by kernel_rfl) ?_ _;refine NoPanic.normal ?_;go_wp2_with fail;go_meet
       case rel=>first|exact⟨rfl,Zow E.out.2 39 HV.out ck.out⟩|exact⟨rfl,ZpM E.out.2 HC.out HV.out HF.out ck.out⟩
     case rest=>
     obtain⟨rfl,br,A6,c6,rfl,F6,r6,b2,ae⟩:=hcut;have D5:=zh (zi (D4.out.1.keep b2) (zi (D4.out.2.1.trans (b2.mono D4.out.2.1.size)) (D4.out.2.2.keep b2)));have fo:Off (four (Zgc bq bs S1) va vb vc) (Yc A6 M.length c6) M:=Off.fresh ae (fun b g=>D4.out.1.tri.lt b g);have HV:=zh (zi r6 fo);have k0:=F6.cell 0;have k1:=F6.cell 1;have k2:=F6.cell 2;have k3:=F6.cell 3;clear d0 d1 d2 d3 j0 j1 F6 r6 b2 ae fo D4;have st:=HK.out.2.2.2.2.1;rw[Yn gu.out]at st;have b0:=D5.out.1.B.cell 0;have b1:=D5.out.1.B.cell 1;have f0:=D5.out.1.B.free 0;have f1:=D5.out.1.B.free 1;have c0:=D5.out.2.2.cell 0;have c1:=D5.out.2.2.cell 1;by_cases he:er=0
     ·subst he;rw[Yo rfl]at st;dsimp only at st;by_cases hp:0<cn
      ·rw[Yo hp]at st;have NX:=zh (show ZW i ([],[],[]) (ts.take (k+1))=Ya (xa,T++[(xo,M,m1,m2)],L)from by rw[HK.out.2.2.1,st]);have I:=zh (D5.out.1.tri.swab.ahead (n:=M.length) (op:=xo) (kn:=m1) (kd:=m2) (A:=A6) (c:=c6) rfl 39);obtain⟨ak,QV⟩:=I.out;have I:=zh QV;clear QV st;go_wp2_with (at_builtin;refine Zj _ rfl _ _ 43 rfl w.heap.size 39 iR (.agg #[Yd Yf 0,Yc Yb 0 0,Yd Yf 0,Yd Yf 0]) 4 48 Tryz.underlying43 b9 cg ch ci rfl (by decide) _ T.length (Zr ak) rfl I.out.2.1 (wc.heap.size+1) (Ya ⟨wc.heap.size,0,Yb⟩) 1 1 [Yd Yf xo,Yc A6 M.length c6,Yd Yf m1,Yd Yf m2] rfl I.out.2.2.2.2 (Zb2 _ _ _ _ _ _) (by have:=LK.out;omega) (by have:=LK.out;omega) I.out.2.2.2.1.below.size ?_);intro v8 w8 H f O;obtain⟨g8,fg,el,_,_⟩:=H.form (Nat.succ_pos _);subst el;have ah:=below_alloc1 wc (Yg #[Yd Yf xo,Yc A6 M.length c6,Yd Yf m1,Yd Yf m2] 39);have DB:=D5.out.1.keep ah;have D8:=zh (DB.pushB f (TriB.push (t:=(xo,M,m1,m2)) I.out.2.2.2.1 I.out.1 I.out.2.2.1 H f (by first|exact O|simpa using O) (HV.out.1.below ah) (HV.out.2.mono fun b q=>by rcases q with q|q|q;(· exact .inr (.inl q));(· exact .inl q);(· exact .inr (.inr q)))).swab);have G:=DB.B.grown f (DB.tri.nb bs (.inr (.inl rfl)));have b0:=G.cell 0;have f0:=G.free 0;clear H f O ah DB G;go_wp2_with fail;go_roundg (n-(k+1))
       case measure=>have:=HK.out.1;have:=HK.out.2.1;omega
       case rel=>exact⟨k+1,(xa,T++[(xo,M,m1,m2)],L),_,_,_,rfl,by push_cast;rfl,by have:=HK.out.1;omega,rfl,NX.out,D8.out⟩
      ·rw[Yn hp]at st;have NX:=zh (show ZW i ([],[],[]) (ts.take (k+1))=Ya (xa,T,L++[(xo,M,m1,m2)])from by rw[HK.out.2.2.1,st]);have I:=zh (D5.out.1.tri.swac.ahead (n:=M.length) (op:=xo) (kn:=m1) (kd:=m2) (A:=A6) (c:=c6) rfl 39);obtain⟨ak,QV⟩:=I.out;have I:=zh QV;clear QV st;go_wp2_with (at_builtin;refine Zj _ rfl _ _ 43 rfl w.heap.size 39 iR (.agg #[Yd Yf 0,Yc Yb 0 0,Yd Yf 0,Yd Yf 0]) 4 48 Tryz.underlying43 b9 cg ch ci rfl (by decide) _ L.length (Zr ak) rfl I.out.2.1 (wc.heap.size+1) (Ya ⟨wc.heap.size,0,Yb⟩) 1 1 [Yd Yf xo,Yc A6 M.length c6,Yd Yf m1,Yd Yf m2] rfl I.out.2.2.2.2 (Zb2 _ _ _ _ _ _) (by have:=LK.out;omega) (by have:=LK.out;omega) I.out.2.2.2.1.below.size ?_);intro v8 w8 H f O;obtain⟨g8,fg,el,_,_⟩:=H.form (Nat.succ_pos _);subst el;have ah:=below_alloc1 wc (Yg #[Yd Yf xo,Yc A6 M.length c6,Yd Yf m1,Yd Yf m2] 39);have DB:=D5.out.1.keep ah;have D8:=zh (DB.pushC f (TriB.push (t:=(xo,M,m1,m2)) I.out.2.2.2.1 I.out.1 I.out.2.2.1 H f (by first|exact O|simpa using O) (HV.out.1.below ah) (HV.out.2.mono fun b q=>by rcases q with q|q|q|q;(· exact .inr (.inr (.inl q)));(· exact .inr (.inl q));(· exact .inl q);(· exact .inr (.inr (.inr q))))).swac);have G:=DB.B.grown f (DB.tri.nc bs (.inr (.inl rfl)));have b1:=G.cell 1;have f1:=G.free 1;clear H f O ah DB G;go_wp2_with fail;go_roundg (n-(k+1))
       case measure=>have:=HK.out.1;have:=HK.out.2.1;omega
       case rel=>exact⟨k+1,(xa,T,L++[(xo,M,m1,m2)]),_,_,_,rfl,by push_cast;rfl,by have:=HK.out.1;omega,rfl,NX.out,D8.out⟩
     ·have ne:(er==0)=false:=by simpa using he
      rw[Yn he]at st;have HE:=zh (HK.out.2.2.2.1 st);obtain⟨⟨Aa,ca,rfl⟩,⟨Ab,cb,rfl⟩,Ac,cc,rfl⟩:=D5.out.1.tri.forms;have q0:=D5.out.1.Q.cell 0;have q1:=D5.out.1.Q.cell 1;have f2:=D5.out.1.Q.free 0;have f3:=D5.out.1.Q.free 1;clear st he;go_wp2_with fail;obtain⟨TD,z0,z1⟩:=D5.out.1.done;exact bodyPost_ret (v:=.tuple #[.agg #[Yc Ab T.length cb,Yc Ac L.length cc],Yc Yb 0 0,.bool false]) (by simp[results,Tryz.results81,go_sem,z0,z1]) rfl (.inr ⟨HE.out,_,_,_,_,_,_,rfl,TD.below⟩)
end
end Go.Proofs.YtbfnnolakggbfaaGreatDoor
