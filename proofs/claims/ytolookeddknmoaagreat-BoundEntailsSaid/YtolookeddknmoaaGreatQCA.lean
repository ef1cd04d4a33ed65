import Derived.Test.YtolookeddknmoaaGreatQBI
import Derived.Test.YtolookeddknmoaaGreatQBZ
set_option maxRecDepth 100000
set_option maxHeartbeats 8000000
namespace Go.Proofs.YtolookeddknmoaaGreat
section
open Go.RowKit
def ZfX (bq bs:Nat) (S1:Nat->Prop) (b:Nat):Prop:=b=bq\/b=bs\/S1 b
structure DrpS (S1:Nat->Prop) (W w:World) (bq bs:Nat) (va:Value) (xa:List Rw) (vb:Value) (xb:List Rw) (vc:Value) (xc:List Rw):Prop where
 tri:TriB (ZfX bq bs S1) W w va xa vb xb vc xc
 B:Blk w bs #[vb,vc]
 Q:Blk w bq #[.slice none 0 0,.slice none 0 0]
 ne:bq≠bs
 ge:W.heap.size<=bq/\W.heap.size<=bs
section
variable {S1:Nat->Prop} {W w w':World} {bq bs:Nat} {va va' vb vb' vc vc':Value} {xa xb xc xa' xb' xc':List Rw}
theorem DrpS.keep (h:DrpS S1 W w bq bs va xa vb xb vc xc) (hb:Below w.heap.size w w'):DrpS S1 W w' bq bs va xa vb xb vc xc:=⟨h.tri.keep hb,h.B.keep hb,h.Q.keep hb,h.ne,h.ge⟩
theorem DrpS.start (w:World) (ty:TypeId) (hs:∀ b,S1 b->b<w.heap.size):DrpS S1 w ((w.alloc (.cells #[.slice none 0 0,.slice none 0 0] ty)).alloc (.cells #[.slice none 0 0,.slice none 0 0] ty)) w.heap.size (w.heap.size+1) (.slice none 0 0) [] (.slice none 0 0) [] (.slice none 0 0) []:=by
 have B1:=Blk.start (w.alloc (.cells #[.slice none 0 0,.slice none 0 0] ty)) #[.slice none 0 0,.slice none 0 0] ty
 rw [World.size_alloc] at B1
 refine ⟨TriB.start (ZI w _ _) (fun b q=>?_),B1,(Blk.start w _ _).keep (Za _ _),by omega,Nat.le_refl _,by omega⟩
 rw [World.size_alloc,World.size_alloc]
 rcases q with q | q | q
 ·omega
 ·omega
 ·have:=hs b q
  omega
theorem DrpS.pushA (h:DrpS S1 W w bq bs va xa vb xb vc xc) (hg:w.grownBy w' va.ownBlock) (t:TriB (ZfX bq bs S1) W w' va' xa' vb xb vc xc):DrpS S1 W w' bq bs va' xa' vb xb vc xc:=
 ⟨t,h.B.grown hg (h.tri.na bs (.inr (.inl rfl))),h.Q.grown hg (h.tri.na bq (.inl rfl)),h.ne,h.ge⟩
theorem DrpS.pushB (h:DrpS S1 W w bq bs va xa vb xb vc xc) (hg:w.grownBy w' vb.ownBlock) (t:TriB (ZfX bq bs S1) W w' va xa vb' xb' vc xc):DrpS S1 W (w'.setCell ⟨bs,0,none⟩ vb') bq bs va xa vb' xb' vc xc:=by
 have b:=(h.B.grown hg (h.tri.nb bs (.inr (.inl rfl)))).set 0 vb'
 refine ⟨t.store (.inr (.inl rfl)) h.ge.2 0 vb',by simpa using b,(h.Q.grown hg (h.tri.nb bq (.inl rfl))).other (fun e=>h.ne e.symm) _,h.ne,h.ge⟩
theorem DrpS.pushC (h:DrpS S1 W w bq bs va xa vb xb vc xc) (hg:w.grownBy w' vc.ownBlock) (t:TriB (ZfX bq bs S1) W w' va xa vb xb vc' xc'):DrpS S1 W (w'.setCell ⟨bs,1,none⟩ vc') bq bs va xa vb xb vc' xc':=by
 have b:=(h.B.grown hg (h.tri.nc bs (.inr (.inl rfl)))).set 1 vc'
 refine ⟨t.store (.inr (.inl rfl)) h.ge.2 1 vc',by simpa using b,(h.Q.grown hg (h.tri.nc bq (.inl rfl))).other (fun e=>h.ne e.symm) _,h.ne,h.ge⟩
theorem DrpS.done (h:DrpS S1 W w bq bs va xa vb xb vc xc):TriB (ZfX bq bs S1) W ((w.setCell ⟨bq,0,none⟩ vb).setCell ⟨bq,1,none⟩ vc) va xa vb xb vc xc/\((w.setCell ⟨bq,0,none⟩ vb).setCell ⟨bq,1,none⟩ vc).cell? ⟨bq,0,none⟩=some vb/\((w.setCell ⟨bq,0,none⟩ vb).setCell ⟨bq,1,none⟩ vc).cell? ⟨bq,1,none⟩=some vc:=by
 have b:=(h.Q.set 0 vb).set 1 vc
 exact ⟨(h.tri.store (.inl rfl) h.ge.1 0 vb).store (.inl rfl) h.ge.1 1 vc,b.cell 0,b.cell 1⟩
theorem TriB.forms (h:TriB (ZfX bq bs S1) W w va xa vb xb vc xc):(∃ A c,va=.slice A xa.length c)/\(∃ A c,vb=.slice A xb.length c)/\∃ A c,vc=.slice A xc.length c:=by
 obtain ⟨A,c,_,e,_⟩:=h.a.rows
 obtain ⟨A',c',_,e',_⟩:=h.b.rows
 obtain ⟨A2,c2,_,e2,_⟩:=h.c.rows
 exact ⟨⟨A,c,e⟩,⟨A',c',e'⟩,A2,c2,e2⟩
end
def Zet (i:Int) (ts:List Rw):Option (Stg×List Rw):=(ZZ i ([],[],[]) ts).bind fun s=>(Za5 s).map fun r=>((s.2.1,s.2.2),r)
def Zmo (S1:Nat->Prop) (w:World) (o:Option (Stg×List Rw)) (e:Ending) (w':World):Prop:=
 (∃ st r va vb vc,o=some (st,r)/\e=.returned (.tuple #[.agg #[vb,vc],va,.bool true])/\ZV w' va r S1/\ZV w' vb st.1 S1/\ZV w' vc st.2 S1/\Below w.heap.size w w') ∨
 (o=none/\∃ A n c A' n' c',e=.returned (.tuple #[.agg #[.slice A n c,.slice A' n' c'],.slice none 0 0,.bool false])/\Below w.heap.size w w')
theorem Zoz (S1:Nat->Prop) (w:World) (v:Value) (ts:List Rw) (i:Int) (h:ZV w v ts S1) (hs1:∀ b,S1 b->b<w.heap.size) (hok:∀ r∈ts,TrmOk r.2) (hl:ts.length<=1000) :
  Calls Tryz.prog 80 #[v,.int .i64 i] w (Zmo S1 w (Zet i ts)):=by
 obtain ⟨iR,hiR,zR0,zR1,zR2⟩:=info_parts Zc6
 obtain ⟨A,c,rs,rfl,h2,h3,h4,h5,h7,h6⟩:=h
 obtain ⟨n,hn⟩:∃ n,n=ts.length:=⟨_,rfl⟩
 have hrn:rs.length=n:=by rw [hn,<- h4,List.length_map]
 rw [<- hn] at h2 h5 hl ⊢
 have HN:=Lib.hid (And.intro hrn (And.intro h4 (And.intro h5 (And.intro h6 (And.intro hn (And.intro hl hok))))))
 obtain ⟨Res,hRes⟩:∃ Res,Res=Zet i ts:=⟨_,rfl⟩
 rw [<- hRes]
 have HR:=Lib.hid hRes
 have D0:=Lib.hid (DrpS.start (S1:=S1) w 115 hs1)
 clear hs1 h7 hn hrn h2 h3 h4 h5 h6 hl hok hRes
 go_enter Tryz.func80,Tryz.ntmps80
 go_upto_region 3 with fail
 generalize (w.alloc (.cells #[.slice none 0 0,.slice none 0 0] 115)).alloc (.cells #[.slice none 0 0,.slice none 0 0] 115)=wz at *
 generalize hbq:w.heap.size=bq at *
 generalize hbs:bq+1=bs at *
 have HBQ:=Lib.hid (And.intro hbq hbs)
 clear hbq hbs
 go_wp2_with fail
 go_loopg [8,9] n (fun g v8 v9 wr=>∃ (k:Nat) (s:Zbc) (va vb vc:Value),va=v8/\v9=.int .i64 k/\k<=n/\g=n-k/\ZZ i ([],[],[]) (ts.take k)=some s/\DrpS S1 w wr bq bs va s.1 vb s.2.1 vc s.2.2)
 case atStart=>exact ⟨0,([],[],[]),_,_,_,rfl,rfl,Nat.zero_le _,rfl,rfl,D0.out⟩
 case round=>
  clear D0
  obtain ⟨k,⟨xa,xb,xc⟩,va,vb,vc,rfl,rfl,hk,hg,hso,D⟩:=hrel
  dsimp only at D
  by_cases hkn:k=n
  ·have he:ts.take k=ts:=by rw [hkn,HN.out.2.2.2.2.1];exact List.take_length
   rw [he] at hso
   have so:=Zds i ts _ (xa,xb,xc) (fun r hr=>HN.out.2.2.2.2.2.2 r hr) hso
   have slen:=Zdr i _ _ _ hso
   have okb:∀ r∈xb,TrmOk r.2:=fun r h=>by
    rcases so.lo r h with a | ⟨_,_,a,_⟩
    ·cases a
    ·exact a.2.1
   have okd:∀ r∈xc,TrmOk r.2:=fun r h=>by
    rcases so.up r h with a | ⟨_,_,a,_⟩
    ·cases a
    ·exact a.2.1
   obtain ⟨⟨Aa,ca,rfl⟩,⟨Ab,cb,rfl⟩,Ac,cc,rfl⟩:=D.tri.forms
   obtain ⟨nb,hnb⟩:∃ n,n=xb.length:=⟨_,rfl⟩
   obtain ⟨mc,hmc⟩:∃ m,m=xc.length:=⟨_,rfl⟩
   obtain ⟨p,hp⟩:∃ p,p=xa.length:=⟨_,rfl⟩
   have hlx:p+nb+mc<=1000:=by
    have:=HN.out.2.2.2.2.2.1
    have:=HN.out.2.2.2.2.1
    simp only [List.length_nil] at slen
    omega
   have hw:Za5 (xa,xb,xc)=if 400<p+nb*mc then none else ZaN xa xb xc:=by rw [hp,hnb,hmc];rfl
   have hRs:Res=(Za5 (xa,xb,xc)).map fun r=>((xb,xc),r):=by rw [HR.out];unfold Zet;rw [hso];rfl
   rw [hw] at hRs
   obtain ⟨z,hz⟩:∃ z,z=nb*mc:=⟨_,rfl⟩
   have hqb:z<=1000000:=by rw [hz];exact Nat.mul_le_mul (show nb<=1000 by omega) (show mc<=1000 by omega)
   rw [<- hz] at hRs
   have m1:IntKind.i64.wrap ((nb:Int)*(mc:Int))=(z:Int):=by
    rw [show (nb:Int)*(mc:Int)=(z:Int) by rw [hz];push_cast;rfl]
    exact IntWalk.i64_in _ (by omega)
   have m2:IntKind.i64.wrap ((p:Int)+(z:Int))=(p:Int)+(z:Int):=IntWalk.i64_in _ (by omega)
   rw [<- hnb,<- hmc,<- hp] at D
   rw [<- hp]
   have b0:=D.B.cell 0
   have b1:=D.B.cell 1
   have q0:=D.Q.cell 0
   have q1:=D.Q.cell 1
   have f0:=D.Q.free 0
   have f1:=D.Q.free 1
   have HL:=Lib.hid (And.intro hnb (And.intro hmc (And.intro hp (And.intro hz (And.intro okb (And.intro okd hlx))))))
   have HRs:=Lib.hid hRs
   have DD:=Lib.hid D
   by_cases hbig:400<p+z
   ·have i4:(400:Int)<(p:Int)+(z:Int):=by omega
    have HE:=Lib.hid (hRs.trans (by rw [if_pos hbig];rfl:_=none))
    clear hk hg hso he so slen okb okd hnb hmc hp hlx hw hRs hz hqb D hbig
    subst hkn
    have i3:¬ (k:Int)<(k:Int):=by omega
    go_wp2_with fail
    obtain ⟨TD,z0,z1⟩:=DD.out.done
    exact bodyPost_ret (v:=.tuple #[.agg #[.slice Ab nb cb,.slice Ac mc cc],.slice none 0 0,.bool false]) (by simp [results,Tryz.results80,go_sem,z0,z1]) rfl (.inr ⟨HE.out,_,_,_,_,_,_,rfl,TD.below⟩)
   ·have i4:¬ (400:Int)<(p:Int)+(z:Int):=by omega
    have HRs:=Lib.hid (show Res=(ZaN xa xb xc).map fun r=>((xb,xc),r) from by rw [HRs.out,if_neg hbig])
    have HB:=Lib.hid hbig
    clear hk hg hso he so slen okb okd hnb hmc hp hlx hw hRs hz hqb D hbig
    subst hkn
    have i3:¬ (k:Int)<(k:Int):=by omega
    go_upto_region 20 with fail
    clear m1 m2 i3 i4 b0 b1 q0 q1 f0 f1
    generalize wr=wo at *
    go_wp2_with fail
    go_loopg [8,14] nb (fun g v8 v14 wr=>∃ (q:Nat) (l:List Rw) (va:Value),va=v8/\v14=.int .i64 q/\q<=nb/\g=nb-q/\ZaN xa (xb.take q) xc=some l/\l.length=p+q*mc/\DrpS S1 w wr bq bs va l (.slice Ab nb cb) xb (.slice Ac mc cc) xc)
    case atStart=>exact ⟨0,xa,_,rfl,rfl,Nat.zero_le _,rfl,rfl,by rw [Nat.zero_mul,HL.out.2.2.1];rfl,DD.out⟩
    case round=>
     clear DD
     obtain ⟨q,l,va,rfl,rfl,hi,hg,hso,hll,D⟩:=hrel
     have b0:=D.B.cell 0
     by_cases hin:q=nb
     ·have he:xb.take q=xb:=by rw [hin,HL.out.1];exact List.take_length
      rw [he] at hso
      have DD:=Lib.hid D
      have HE:=Lib.hid (show Res=some ((xb,xc),l) from by rw [HRs.out,hso];rfl)
      have b1:=D.B.cell 1
      have q0:=D.Q.cell 0
      have q1:=D.Q.cell 1
      have f0:=D.Q.free 0
      have f1:=D.Q.free 1
      subst hin
      clear hi hg D he hso hll
      have i3:¬ (q:Int)<(q:Int):=by omega
      go_wp2_with fail
      obtain ⟨TD,z0,z1⟩:=DD.out.done
      exact bodyPost_ret (v:=.tuple #[.agg #[.slice Ab q cb,.slice Ac mc cc],va,.bool true]) (by simp [results,Tryz.results80,go_sem,z0,z1]) rfl (.inl ⟨(xb,xc),l,va,_,_,HE.out,rfl,TD.a.isin (fun b hb q=>TD.na b (.inr (.inr q)) hb) (fun b q=>.inl (.inr (.inr (.inr (.inr (.inr q)))))),TD.b.isin (fun b hb q=>TD.nb b (.inr (.inr q)) hb) (fun b q=>.inl (.inr (.inr (.inr (.inr (.inr q)))))),TD.c.isin (fun b hb q=>TD.nc b (.inr (.inr q)) hb) (fun b q=>.inl (.inr (.inr (.inr (.inr (.inr q)))))),TD.below⟩)
     ·have hlt:q<nb:=by omega
      obtain ⟨y,hyt⟩:∃ y,xb[q]? = some y:=⟨_,List.getElem?_eq_getElem (by rw [<- HL.out.1];exact hlt)⟩
      have hok:=HL.out.2.2.2.2.1 y (List.mem_of_getElem? hyt)
      have nx:ZaN xa (xb.take (q+1)) xc=Zaq y l xc:=by
       rw [List.take_add_one,hyt]
       show ZaN xa (xb.take q++[y]) xc=_
       rw [Zej,hso,Option.bind_some,ZaN]
       cases Zaq y l xc<;>rfl
      have nn:Zaq y l xc=none->ZaN xa xb xc=none:=fun g=>by
       rw [<- List.take_append_drop (q+1) xb,Zej,nx,g]
       rfl
      have i1:(q:Int)<(nb:Int):=by omega
      have i2:(0:Int)<=(q:Int):=by omega
      have wk:IntKind.i64.wrap ((q:Int)+1)=(q:Int)+1:=IntWalk.i64_in _ (by have:=HL.out.2.2.2.2.2.2;omega)
      have hmul:(q+1)*mc<=nb*mc:=Nat.mul_le_mul_right mc hlt
      have hlb:l.length+mc<=400:=by
       have:=HB.out
       have:=HL.out.2.2.2.1
       rw [Nat.add_mul,Nat.one_mul] at hmul
       omega
      have hmi:(q+1)*mc=q*mc+mc:=by rw [Nat.add_mul,Nat.one_mul]
      have HK:=Lib.hid (And.intro hlt (And.intro hg (And.intro nx (And.intro nn (And.intro hok (And.intro hlb (And.intro hll hmi)))))))
      have SQ:=Lib.hid (And.intro D (show Zaq y l (xc.take 0)=some l from rfl))
      have HY:=Lib.hid hyt
      clear hin hi hg hok nx nn hso hlt hll hlb hmul hmi D hyt
      go_upto_region 23 with fail
      clear b0
      generalize wr=wo2 at *
      go_wp2_with fail
      go_loopg [8,15] mc (fun g v8 v15 wr=>∃ (j:Nat) (l2:List Rw) (va:Value),va=v8/\v15=.int .i64 j/\j<=mc/\g=mc-j/\Zaq y l (xc.take j)=some l2/\l2.length=l.length+j/\DrpS S1 w wr bq bs va l2 (.slice Ab nb cb) xb (.slice Ac mc cc) xc)
      case atStart=>exact ⟨0,l,_,rfl,rfl,Nat.zero_le _,rfl,SQ.out.2,rfl,SQ.out.1⟩
      case round=>
       clear SQ
       obtain ⟨j,l2,va,rfl,rfl,hj,hgj,hst,hl2,D⟩:=hrel
       by_cases hjm:j=mc
       ·have ez:xc.take j=xc:=by rw [hjm,HL.out.2.1];exact List.take_length
        rw [ez] at hst
        have NX:=Lib.hid (And.intro (show ZaN xa (xb.take (q+1)) xc=some l2 from by rw [HK.out.2.2.1,hst]) (show l2.length=p+(q+1)*mc from by rw [hl2,HK.out.2.2.2.2.2.2.1,HK.out.2.2.2.2.2.2.2,hjm];omega))
        have DT:=Lib.hid D
        have b1:=D.B.cell 1
        subst hjm
        clear hst ez hj hgj D hl2
        have i3:¬ (j:Int)<(j:Int):=by omega
        go_wp2_with fail
        go_roundg (nb-(q+1))
        case measure=>have:=HK.out.1;have:=HK.out.2.1;omega
        case rel=>exact ⟨q+1,l2,_,rfl,by push_cast;rfl,by have:=HK.out.1;omega,rfl,NX.out.1,NX.out.2,DT.out⟩
       ·have hltj:j<mc:=by omega
        obtain ⟨rs',z1,z2,z3⟩:=D.tri.b
        obtain ⟨y',hy'⟩:∃ y,rs'[q]? = some y:=⟨_,List.getElem?_eq_getElem (by rw [show rs'.length=nb by rw [HL.out.1,<- z1,List.length_map]];exact HK.out.1)⟩
        have hyy:y'.2=y:=by
         have h1:xb[q]? = some y'.2:=by rw [<- z1,List.getElem?_map,hy'];rfl
         rw [HY.out] at h1
         exact (Option.some.inj h1).symm
        rw [<- HL.out.1] at z2
        obtain ⟨ad,rfl,d0,d1,d2,d3⟩:=ZaF (ZB.of_own z2) (Below.refl _ _) hy' (by have:=HK.out.1;omega)
        have hry:=(z3 y' (List.mem_of_getElem? hy')).1
        obtain ⟨rs2',y1,y2,y3⟩:=D.tri.c
        obtain ⟨x,hx⟩:∃ x,rs2'[j]? = some x:=⟨_,List.getElem?_eq_getElem (by rw [show rs2'.length=mc by rw [HL.out.2.1,<- y1,List.length_map]];omega)⟩
        have hxt:xc[j]? = some x.2:=by rw [<- y1,List.getElem?_map,hx];rfl
        rw [<- HL.out.2.1] at y2
        obtain ⟨ad2,rfl,e0,e1,e2,e3⟩:=ZaF (ZB.of_own y2) (Below.refl _ _) hx (by omega)
        have hrx:=(y3 x (List.mem_of_getElem? hx)).1
        have hokx:=HL.out.2.2.2.2.2.1 x.2 (List.mem_of_getElem? hxt)
        have nxj:Zaq y l (xc.take (j+1))=(Zbw y x.2).map fun t=>l2++[t]:=by
         rw [List.take_add_one,hxt]
         show Zaq _ l (xc.take j++[x.2])=_
         rw [Zei,hst,Option.bind_some,Zaq]
         cases Zbw y x.2<;>rfl
        have nnj:Zbw y x.2=none->Res=none:=fun g=>by
         rw [HRs.out,HK.out.2.2.2.1 (by
          rw [<- List.take_append_drop (j+1) xc,Zei,nxj,g]
          rfl)]
         rfl
        have oka:=HK.out.2.2.2.2.1
        obtain ⟨yv,y''⟩:=y'
        dsimp only at hyy d0 d1 d2 d3 hry
        subst hyy
        have ad1:=fun (w':World) (hb:Below wr.heap.size wr w')=>ZhW w' yv x.1 y''.2.1 x.2.2.1 y''.2.2 x.2.2.2 (hry.below hb) (hrx.below hb) oka.ok.wide hokx.ok.wide oka.k.wide hokx.k.wide
        have so:Zbw y'' x.2=(Zcc y''.2 x.2.2).map fun t=>(Zdg y'' x.2,t):=rfl
        unfold Zcc at so
        (try dsimp only at so ad1)
        generalize ZaQ y''.2.1 x.2.2.1 y''.2.2 x.2.2.2=QQ at *
        have i3:(j:Int)<(mc:Int):=by omega
        have i4:(0:Int)<=(j:Int):=by omega
        have wj:IntKind.i64.wrap ((j:Int)+1)=(j:Int)+1:=IntWalk.i64_in _ (by have:=HL.out.2.2.2.2.2.2;omega)
        have hl2b:l2.length+1<=1000:=by have:=HK.out.2.2.2.2.2.1;omega
        obtain ⟨U,⟨u1,u2⟩,er⟩:=QQ
        obtain ⟨xv,bo,bl,b1',b2'⟩:=x
        obtain ⟨ao,al,a1,a2⟩:=y''
        dsimp only at *
        obtain ⟨Ax,cx,rfl⟩:=Zd hry
        obtain ⟨Ay,cy,rfl⟩:=Zd hrx
        have AD:=Lib.hid ad1
        have HJ:=Lib.hid (And.intro hltj (And.intro hgj (And.intro nxj (And.intro nnj (And.intro hl2 so)))))
        have LK:=Lib.hid (show l2.length+1<=maxLen/\(l2.length+1)*48<=140737488355328 from by unfold maxLen;omega)
        have b0:=D.B.cell 0
        have b1:=D.B.cell 1
        have DJ:=Lib.hid D
        clear hjm hj hgj hst D hxt hx hrx hry hokx nxj nnj oka ad1 so hltj hl2 hl2b z1 z2 z3 y1 y2 y3 hy' HY
        generalize al.length=yn at *
        generalize bl.length=zn at *
        go_upto_region 26 with fail
        generalize wr=wq at *
        go_cut [16,17] from 102 to 149 (fun v16 v17 wx=>v17=.int .i64 er/\ZfR wq U u1 u2 v16 wx)
        case first=>
         have STB:=Lib.hid (show ZcD (fun w'=>((w'.cell? ⟨bs,0,none⟩=some (.slice (some ad) nb cb)/\w'.cell? ⟨bs,1,none⟩=some (.slice (some ad2) mc cc))/\((w'.cell? ⟨(ad.add (q*4)).block,(ad.add (q*4)).off+1,none⟩=some (.slice Ax yn cx)/\w'.cell? ⟨(ad.add (q*4)).block,(ad.add (q*4)).off+2,none⟩=some (.int .i64 a1)/\w'.cell? ⟨(ad.add (q*4)).block,(ad.add (q*4)).off+3,none⟩=some (.int .i64 a2))/\(w'.cell? ⟨(ad2.add (j*4)).block,(ad2.add (j*4)).off+1,none⟩=some (.slice Ay zn cy)/\w'.cell? ⟨(ad2.add (j*4)).block,(ad2.add (j*4)).off+2,none⟩=some (.int .i64 b1')/\w'.cell? ⟨(ad2.add (j*4)).block,(ad2.add (j*4)).off+3,none⟩=some (.int .i64 b2'))))/\Below wq.heap.size wq w') from ZC (ZC (ZC (Zz _ _) (Zz _ _)) (ZC (ZC (Zz _ _) (ZC (Zz _ _) (Zz _ _))) (ZC (Zz _ _) (ZC (Zz _ _) (Zz _ _))))) (ZbD wq))
         have HS:(((wq.drew.cell? ⟨bs,0,none⟩=some (.slice (some ad) nb cb)/\wq.drew.cell? ⟨bs,1,none⟩=some (.slice (some ad2) mc cc))/\((wq.drew.cell? ⟨(ad.add (q*4)).block,(ad.add (q*4)).off+1,none⟩=some (.slice Ax yn cx)/\wq.drew.cell? ⟨(ad.add (q*4)).block,(ad.add (q*4)).off+2,none⟩=some (.int .i64 a1)/\wq.drew.cell? ⟨(ad.add (q*4)).block,(ad.add (q*4)).off+3,none⟩=some (.int .i64 a2))/\(wq.drew.cell? ⟨(ad2.add (j*4)).block,(ad2.add (j*4)).off+1,none⟩=some (.slice Ay zn cy)/\wq.drew.cell? ⟨(ad2.add (j*4)).block,(ad2.add (j*4)).off+2,none⟩=some (.int .i64 b1')/\wq.drew.cell? ⟨(ad2.add (j*4)).block,(ad2.add (j*4)).off+3,none⟩=some (.int .i64 b2'))))/\Below wq.heap.size wq wq.drew):=⟨⟨⟨b0,b1⟩,⟨d1,d2,d3⟩,⟨e1,e2,e3⟩⟩,Zq _⟩
         clear b0 b1 d0 d1 d2 d3 e0 e1 e2 e3
         refine wp_region_noPanic ?_
         refine wp_region_held_drew (S:=(fun w'=>((w'.cell? ⟨bs,0,none⟩=some (.slice (some ad) nb cb)/\w'.cell? ⟨bs,1,none⟩=some (.slice (some ad2) mc cc))/\((w'.cell? ⟨(ad.add (q*4)).block,(ad.add (q*4)).off+1,none⟩=some (.slice Ax yn cx)/\w'.cell? ⟨(ad.add (q*4)).block,(ad.add (q*4)).off+2,none⟩=some (.int .i64 a1)/\w'.cell? ⟨(ad.add (q*4)).block,(ad.add (q*4)).off+3,none⟩=some (.int .i64 a2))/\(w'.cell? ⟨(ad2.add (j*4)).block,(ad2.add (j*4)).off+1,none⟩=some (.slice Ay zn cy)/\w'.cell? ⟨(ad2.add (j*4)).block,(ad2.add (j*4)).off+2,none⟩=some (.int .i64 b1')/\w'.cell? ⟨(ad2.add (j*4)).block,(ad2.add (j*4)).off+3,none⟩=some (.int .i64 b2'))))/\Below wq.heap.size wq w')) (by kernel_rfl) HS (fun hHeld=>?_)
         clear HS
         refine tk 0 rfl ?_
         refine tk 1 rfl ?_
         refine tk 2 rfl ?_
         refine tk 3 rfl ?_
         refine tk 4 rfl ?_
         refine tk 5 rfl ?_
         refine tk 6 rfl ?_
         refine tk 7 rfl ?_
         refine tk 8 rfl ?_
         refine tk 9 rfl ?_
         refine tk 10 rfl ?_
         refine tk 11 rfl ?_
         (try simp only [cl,Act.put])
         refine wpAnyH_ready (rs:=[12,16]) (by kernel_rfl) (by simp) (AllReadyH.cons (o:=_) rfl (fun K hK=>?_) (AllReadyH.cons (o:=_) rfl (fun K hK=>?_) AllReadyH.nil))
         rotate_left
         go_simp
         (first | refine hK.out _ _ (Za9 STB.out (by with_reducible assumption)) (fun hH2=>?_) | refine hK.out _ _ (STB.out _ _ (Za _ _) (by with_reducible assumption)) (fun hH2=>?_))
         clear hK K
         (try dsimp only at hH2)
         (first | have HC:=Lib.hid (ZbB hH2) | have HC:=Lib.hid (Zbm hH2))
         have hHeld0:=Lib.hid hHeld
         clear hHeld
         have hHeld:=hH2
         clear hH2
         (try simp only [cl,Act.put])
         refine rd 12 rfl fun K hK=>?_
         rotate_right
         all_goals
          go_simp
          (go_at_call 17;(with_reducible refine (AD.out _ (ZG (by with_reducible assumption))).mono ?_);rintro e6 w6 ⟨v6,rfl,hv6,hb,fr6⟩;obtain ⟨A6,c6,rfl⟩:=Zd hv6;have HFR:=Lib.hid (fr6.mono (ZG hHeld).size);(try (have HF:=Lib.hid (Off.fresh (l:=U) (S:=fun b=>b=_) fr6 (fun b q=>by rw [q];exact HC.out.F.lt));have HC:=Lib.hid (HC.out.keep hb)));have HV:=Lib.hid hv6;clear hv6 fr6)
          go_wp2_with fail
          refine hK.out _ _ (STB.out _ _ hb (by with_reducible assumption)) (fun hH2=>?_)
          clear hK K hHeld hb;have hHeld:=hH2;clear hH2
          (try simp only [cl,Act.put])
         all_goals
          refine tk 13 rfl ?_
          refine tk 14 rfl ?_
          refine tk 15 rfl ?_
          (try simp only [cl,Act.put])
         refine rd 16 rfl fun K hK=>?_
         go_simp
         (first | refine hK.out _ _ (Za9 STB.out (by with_reducible assumption)) (fun hH2=>?_) | refine hK.out _ _ (STB.out _ _ (Za _ _) (by with_reducible assumption)) (fun hH2=>?_))
         clear hK K
         (try dsimp only at hH2)
         (first | have HC:=Lib.hid (ZbB hH2) | have HC:=Lib.hid (Zbm hH2))
         have hHeld0:=Lib.hid hHeld
         clear hHeld
         have hHeld:=hH2
         clear hH2
         (try simp only [cl,Act.put])
         all_goals
          refine rd 17 rfl fun K hK=>?_
          (obtain ⟨⟨h0,h1,h2,h3,h4,h5,h6⟩,h7,h8⟩:=HC.out;clear h7 h8)
          go_simp
          clear h0 h1 h2 h3 h4 h5 h6
          (first
           | refine hK.out _ _ (STB.out _ _ (Za _ _) hHeld0.out) (fun hH2=>?_)
           | refine hK.out _ _ (STB.out _ _ (HC.out.fill _ _ _).1 hHeld0.out) (fun hH2=>?_))
          clear hK K hHeld
          (try dsimp only at hH2)
          have hHeld:=hH2
          clear hH2
          (try simp only [cl,Act.put])
          refine tk 18 rfl ?_
          (try simp only [cl,Act.put])
          refine wpAnyH_done (by kernel_rfl) ?_ _
          refine NoPanic.normal ?_
          go_wp2_with fail
          go_meet
          case rel=>first | exact ⟨rfl,Zh6 hHeld0.out.2 27 HV.out HFR.out⟩ | exact ⟨rfl,ZiZ hHeld0.out.2 HC.out HV.out HF.out HFR.out⟩
        case rest=>
        obtain ⟨rfl,c,A6,c6,rfl,F6,r6,hbq',fr6⟩:=hcut
        have D4:=Lib.hid (DJ.out.keep hbq')
        have fo:Off (Zaf (ZfX bq bs S1) va (.slice (some ad) nb cb) (.slice (some ad2) mc cc)) (.slice A6 U.length c6) U:=Off.fresh fr6 (fun b g=>DJ.out.tri.lt b g)
        have HV:=Lib.hid (And.intro r6 fo)
        have k0:=F6.k0;have k1:=F6.k1;have k2:=F6.k2
        replace b0:=ZU hbq' b0
        replace b1:=ZU hbq' b1
        replace d0:=ZU hbq' d0
        replace e0:=ZU hbq' e0
        clear d1 d2 d3 e1 e2 e3 F6 r6 hbq' fr6 fo DJ
        have so:=HJ.out.2.2.2.2.2
        by_cases he:er=0
        ·subst he
         rw [if_pos rfl,Option.map_some] at so
         by_cases ha:ao=2
         ·have ea:(ao==2)=true:=by rw [ha];rfl
          have NX:=Lib.hid (show Zaq (ao,al,a1,a2) l (xc.take (j+1))=some (l2++[(2,U,u1,u2)]) from by rw [HJ.out.2.2.1,so];unfold Zdg;simp [ha])
          have QW:=Lib.hid (D4.out.tri.ahead (n:=U.length) (op:=2) (kn:=u1) (kd:=u2) (A:=A6) (c:=c6) rfl 29)
          obtain ⟨rs2,QV⟩:=QW.out
          have QW:=Lib.hid QV
          clear QV so ha
          go_wp2_with (at_builtin;refine Zm _ rfl _ _ 22 rfl w.heap.size 29 iR (.agg #[.int .i64 0,.slice none 0 0,.int .i64 0,.int .i64 0]) 4 48 Tryz.underlying22 hiR zR0 zR1 zR2 rfl (by decide) _ l2.length (Zt rs2) rfl QW.out.2.1 (wc.heap.size+1) (some ⟨wc.heap.size,0,none⟩) 1 1 [.int .i64 2,.slice A6 U.length c6,.int .i64 u1,.int .i64 u2] rfl QW.out.2.2.2.2 (Zcw _ _ _ _ _ _) (by have:=LK.out;omega) (by have:=LK.out;omega) QW.out.2.2.2.1.below.size ?_)
          intro v9 w9 hown hgrow hat
          have al8:=Za wc (.cells #[.int .i64 2,.slice A6 U.length c6,.int .i64 u1,.int .i64 u2] 29)
          have D8:=Lib.hid ((D4.out.keep al8).pushA hgrow (TriB.push (t:=(2,U,u1,u2)) QW.out.2.2.2.1 QW.out.1 QW.out.2.2.1 hown hgrow (by first | exact hat | simpa using hat) (HV.out.1.below al8) HV.out.2))
          clear hown hgrow hat al8
          go_wp2_with fail
          go_roundg (mc-(j+1))
          case measure=>have:=HJ.out.1;have:=HJ.out.2.1;omega
          case rel=>exact ⟨j+1,l2++[(2,U,u1,u2)],_,rfl,by push_cast;rfl,by have:=HJ.out.1;omega,rfl,NX.out,by rw [List.length_append,HJ.out.2.2.2.2.1];rfl,D8.out⟩
         ·have ea:(ao==2)=false:=by simpa using ha
          by_cases hb2:bo=2
          ·have eb:(bo==2)=true:=by rw [hb2];rfl
           have NX:=Lib.hid (show Zaq (ao,al,a1,a2) l (xc.take (j+1))=some (l2++[(2,U,u1,u2)]) from by rw [HJ.out.2.2.1,so];unfold Zdg;simp [hb2])
           have QW:=Lib.hid (D4.out.tri.ahead (n:=U.length) (op:=2) (kn:=u1) (kd:=u2) (A:=A6) (c:=c6) rfl 29)
           obtain ⟨rs2,QV⟩:=QW.out
           have QW:=Lib.hid QV
           clear QV so ha hb2
           go_wp2_with (at_builtin;refine Zm _ rfl _ _ 22 rfl w.heap.size 29 iR (.agg #[.int .i64 0,.slice none 0 0,.int .i64 0,.int .i64 0]) 4 48 Tryz.underlying22 hiR zR0 zR1 zR2 rfl (by decide) _ l2.length (Zt rs2) rfl QW.out.2.1 (wc.heap.size+1) (some ⟨wc.heap.size,0,none⟩) 1 1 [.int .i64 2,.slice A6 U.length c6,.int .i64 u1,.int .i64 u2] rfl QW.out.2.2.2.2 (Zcw _ _ _ _ _ _) (by have:=LK.out;omega) (by have:=LK.out;omega) QW.out.2.2.2.1.below.size ?_)
           intro v9 w9 hown hgrow hat
           have al8:=Za wc (.cells #[.int .i64 2,.slice A6 U.length c6,.int .i64 u1,.int .i64 u2] 29)
           have D8:=Lib.hid ((D4.out.keep al8).pushA hgrow (TriB.push (t:=(2,U,u1,u2)) QW.out.2.2.2.1 QW.out.1 QW.out.2.2.1 hown hgrow (by first | exact hat | simpa using hat) (HV.out.1.below al8) HV.out.2))
           clear hown hgrow hat al8
           go_wp2_with fail
           go_roundg (mc-(j+1))
           case measure=>have:=HJ.out.1;have:=HJ.out.2.1;omega
           case rel=>exact ⟨j+1,l2++[(2,U,u1,u2)],_,rfl,by push_cast;rfl,by have:=HJ.out.1;omega,rfl,NX.out,by rw [List.length_append,HJ.out.2.2.2.2.1];rfl,D8.out⟩
          ·have eb:(bo==2)=false:=by simpa using hb2
           have NX:=Lib.hid (show Zaq (ao,al,a1,a2) l (xc.take (j+1))=some (l2++[(1,U,u1,u2)]) from by rw [HJ.out.2.2.1,so];unfold Zdg;simp [ha,hb2])
           have QW:=Lib.hid (D4.out.tri.ahead (n:=U.length) (op:=1) (kn:=u1) (kd:=u2) (A:=A6) (c:=c6) rfl 29)
           obtain ⟨rs2,QV⟩:=QW.out
           have QW:=Lib.hid QV
           clear QV so ha hb2
           go_wp2_with (at_builtin;refine Zm _ rfl _ _ 22 rfl w.heap.size 29 iR (.agg #[.int .i64 0,.slice none 0 0,.int .i64 0,.int .i64 0]) 4 48 Tryz.underlying22 hiR zR0 zR1 zR2 rfl (by decide) _ l2.length (Zt rs2) rfl QW.out.2.1 (wc.heap.size+1) (some ⟨wc.heap.size,0,none⟩) 1 1 [.int .i64 1,.slice A6 U.length c6,.int .i64 u1,.int .i64 u2] rfl QW.out.2.2.2.2 (Zcw _ _ _ _ _ _) (by have:=LK.out;omega) (by have:=LK.out;omega) QW.out.2.2.2.1.below.size ?_)
           intro v9 w9 hown hgrow hat
           have al8:=Za wc (.cells #[.int .i64 1,.slice A6 U.length c6,.int .i64 u1,.int .i64 u2] 29)
           have D8:=Lib.hid ((D4.out.keep al8).pushA hgrow (TriB.push (t:=(1,U,u1,u2)) QW.out.2.2.2.1 QW.out.1 QW.out.2.2.1 hown hgrow (by first | exact hat | simpa using hat) (HV.out.1.below al8) HV.out.2))
           clear hown hgrow hat al8
           go_wp2_with fail
           go_roundg (mc-(j+1))
           case measure=>have:=HJ.out.1;have:=HJ.out.2.1;omega
           case rel=>exact ⟨j+1,l2++[(1,U,u1,u2)],_,rfl,by push_cast;rfl,by have:=HJ.out.1;omega,rfl,NX.out,by rw [List.length_append,HJ.out.2.2.2.2.1];rfl,D8.out⟩
        ·have ne:(er != 0)=true:=by simpa using he
         rw [if_neg he,Option.map_none] at so
         have HE:=Lib.hid (HJ.out.2.2.2.1 so)
         have q0:=D4.out.Q.cell 0
         have q1:=D4.out.Q.cell 1
         have f0:=D4.out.Q.free 0
         have f1:=D4.out.Q.free 1
         clear so he
         go_wp2_with fail
         obtain ⟨TD,z0,z1⟩:=D4.out.done
         exact bodyPost_ret (v:=.tuple #[.agg #[.slice (some ad) nb cb,.slice (some ad2) mc cc],.slice none 0 0,.bool false]) (by simp [results,Tryz.results80,go_sem,z0,z1]) rfl (.inr ⟨HE.out,_,_,_,_,_,_,rfl,TD.below⟩)
  ·have hlt:k<n:=by omega
   obtain ⟨y,hy⟩:∃ y,rs[k]? = some y:=⟨_,List.getElem?_eq_getElem (by have:=HN.out.1;omega)⟩
   have hyt:ts[k]? = some y.2:=by rw [<- HN.out.2.1,List.getElem?_map,hy];rfl
   have hbl:Below w.heap.size w wr:=D.tri.below
   obtain ⟨ad,rfl,d0,d1,d2,d3⟩:=ZaF (w:=w) (wr:=wr) (by rw [HBQ.out.1];exact HN.out.2.2.1) hbl hy (show 0<n by omega)
   have hry:=HN.out.2.2.2.1 y (List.mem_of_getElem? hy)
   have hok:=HN.out.2.2.2.2.2.2 y.2 (List.mem_of_getElem? hyt)
   have hoff:Off (Zaf (ZfX bq bs S1) va vb vc) y.1 y.2.2.1:=hry.2.more hry.1 fun b g=>by
    rcases D.tri.old b g with (q | q | q) | q
    ·exact .inr (by rw [q];exact D.ge.1)
    ·exact .inr (by rw [q];exact D.ge.2)
    ·exact .inl q
    ·exact .inr q
   have hr:=hry.1.below hbl
   have slen:=Zdr i _ _ _ hso
   have nx:ZZ i ([],[],[]) (ts.take (k+1))=Zau i (xa,xb,xc) y.2:=by
    rw [List.take_add_one,hyt]
    show ZZ i ([],[],[]) (ts.take k++[y.2])=_
    rw [Zgo,hso]
    rfl
   have nn:Zau i (xa,xb,xc) y.2=none->Res=none:=fun q=>by
    have e:ZZ i ([],[],[]) ts=none:=by
     rw [<- List.take_append_drop (k+1) ts,Zhf,nx,q]
     rfl
    rw [HR.out]
    unfold Zet
    rw [e]
    rfl
   have i1:(k:Int)<(n:Int):=by omega
   have i2:(0:Int)<=(k:Int):=by omega
   have wk:IntKind.i64.wrap ((k:Int)+1)=(k:Int)+1:=IntWalk.i64_in _ (by have:=HN.out.2.2.2.2.2.1;omega)
   have okc:=hok.ok.at i
   have ta:=fun (w':World) (hb:Below wr.heap.size wr w')=>ZaX w' y.1 y.2.2.1 y.2.2.2.1 y.2.2.2.2 i (hr.below hb)
   have sc:=fun (w':World) (hb:Below wr.heap.size wr w') (hn:(atL y.2.2.1 i).1≠0)=>Zmd w' y.1 y.2 (ZbC (atL y.2.2.1 i)) (hr.below hb) hok.ok.wide hok.k.wide (Zgc okc hn).wide
   have st:Zau i (xa,xb,xc) y.2=if (atL y.2.2.1 i).1=0 then some (xa++[y.2],xb,xc) else match ZaL y.2.2 (ZbC (atL y.2.2.1 i)) with | none=>none | some t=>if 0<(atL y.2.2.1 i).1 then some (xa,xb++[(y.2.1,t)],xc) else some (xa,xb,xc++[(y.2.1,t)]):=rfl
   unfold ZaL at st
   have hlx:xa.length+xb.length+xc.length<=1000:=by
    have:=HN.out.2.2.2.2.2.1
    rw [List.length_take] at slen
    simp only [List.length_nil] at slen
    omega
   have iva:ZbC (atL y.2.2.1 i)=((atL y.2.2.1 i).2,((atL y.2.2.1 i).1.natAbs:Int)):=rfl
   generalize Zh y.2.2.1 y.2.2.2 (ZbC (atL y.2.2.1 i))=P at *
   generalize ZbC (atL y.2.2.1 i)=iv at *
   generalize hcq:atL y.2.2.1 i=cq at *
   obtain ⟨yv,xo,xl,x1,x2⟩:=y
   obtain ⟨M,⟨m1,m2⟩,er⟩:=P
   obtain ⟨cn,cd⟩:=cq
   obtain ⟨i1',i2'⟩:=iv
   dsimp only at *
   obtain ⟨Ax,cx,rfl⟩:=Zd hr
   obtain ⟨hi1,hi2⟩:i1'=cd/\i2'=(cn.natAbs:Int):=by
    injection iva with a b
    exact ⟨a,b⟩
   have TA:=Lib.hid ta
   have SC0:=Lib.hid sc
   have HK:=Lib.hid (And.intro hlt (And.intro hg (And.intro nx (And.intro nn (And.intro st hr)))))
   have LK:=Lib.hid (show xa.length+1<=maxLen/\xb.length+1<=maxLen/\xc.length+1<=maxLen/\(xa.length+1)*48<=140737488355328/\(xb.length+1)*48<=140737488355328/\(xc.length+1)*48<=140737488355328 from by unfold maxLen;omega)
   have DD:=Lib.hid (And.intro D hoff)
   have wn:IntKind.i64.wrap (-cn)=-cn:=IntWalk.i64_in _ (by obtain ⟨d,e,v⟩:=okc;have:=v.n_le;dsimp only at this;omega)
   have HI:=Lib.hid (And.intro hi1 hi2)
   clear hkn hk hg hyt hy hry hok hoff hr slen nx nn st ta sc hlx hso hcq D hlt okc iva hi1 hi2 hbl
   generalize xl.length=xn at *
   go_upto_region 7 with (go_at_call 41;(with_reducible refine (TA.out _ (Below.refl _ _)).mono ?_);rintro e2 w2 ⟨rfl,hb2⟩)
   have a3:=Za w2 (.cells #[.int .i64 cn,.int .i64 cd] 25)
   have B3:=Lib.hid (And.intro (hb2.trans (a3.mono hb2.size)) (Blk.start w2 #[.int .i64 cn,.int .i64 cd] 25))
   have HD0:=Lib.hid (And.intro d0 (And.intro d1 (And.intro d2 d3)))
   replace d0:=ZU B3.out.1 d0
   replace d1:=ZU B3.out.1 d1
   replace d2:=ZU B3.out.1 d2
   replace d3:=ZU B3.out.1 d3
   clear a3 hb2
   generalize w2.heap.size=bc at *
   generalize w2.alloc (.cells #[.int .i64 cn,.int .i64 cd] 25)=w3 at *
   have c0:=B3.out.2.cell 0
   have c1:=B3.out.2.cell 1
   by_cases h0:cn=0
   ·have e0:(cn==0)=true:=by rw [h0];rfl
    have D3:=Lib.hid (DD.out.1.keep B3.out.1)
    have QW:=Lib.hid (D3.out.tri.ahead (n:=xn) (op:=xo) (kn:=x1) (kd:=x2) (A:=Ax) (c:=cx) rfl 29)
    obtain ⟨rs2,QV⟩:=QW.out
    have QW:=Lib.hid QV
    have NX:=Lib.hid (show ZZ i ([],[],[]) (ts.take (k+1))=some (xa++[(xo,xl,x1,x2)],xb,xc) from by rw [HK.out.2.2.1,HK.out.2.2.2.2.1,if_pos h0])
    clear QV h0
    go_wp2_with (at_builtin;refine Zm _ rfl _ _ 22 rfl w.heap.size 29 iR (.agg #[.int .i64 0,.slice none 0 0,.int .i64 0,.int .i64 0]) 4 48 Tryz.underlying22 hiR zR0 zR1 zR2 rfl (by decide) _ xa.length (Zt rs2) rfl QW.out.2.1 (w3.heap.size+1) (some ⟨w3.heap.size,0,none⟩) 1 1 [.int .i64 xo,.slice Ax xn cx,.int .i64 x1,.int .i64 x2] rfl QW.out.2.2.2.2 (Zcw _ _ _ _ _ _) (by have:=LK.out;omega) (by have:=LK.out;omega) QW.out.2.2.2.1.below.size ?_)
    intro v8 w8 hown hgrow hat
    have hb8:=Za w3 (.cells #[.int .i64 xo,.slice Ax xn cx,.int .i64 x1,.int .i64 x2] 29)
    have hrx:=HK.out.2.2.2.2.2.below (B3.out.1.trans (hb8.mono B3.out.1.size))
    have D8:=Lib.hid ((D3.out.keep hb8).pushA hgrow (TriB.push (t:=(xo,xl,x1,x2)) QW.out.2.2.2.1 QW.out.1 QW.out.2.2.1 hown hgrow (by first | exact hat | simpa using hat) hrx DD.out.2))
    clear hown hgrow hat hb8 hrx
    go_wp2_with fail
    go_roundg (n-(k+1))
    case measure=>have:=HK.out.1;have:=HK.out.2.1;omega
    case rel=>exact ⟨k+1,(xa++[(xo,xl,x1,x2)],xb,xc),_,_,_,rfl,by push_cast;rfl,by have:=HK.out.1;omega,rfl,NX.out,D8.out⟩
   ·have e0:(cn==0)=false:=by simpa using h0
    have SCL:=Lib.hid (fun w' hb=>SC0.out w' hb h0)
    have HS0:=Lib.hid h0
    have hb1:=Za w3 (.cells #[.int .i64 cd,.int .i64 cn] 25)
    have BN:=Blk.start w3 #[.int .i64 cd,.int .i64 cn] 25
    have c0':=ZU hb1 c0
    have c1':=ZU hb1 c1
    have y0:=BN.cell 0
    have y1:=BN.cell 1
    have g0:=BN.free 0
    have g1:=BN.free 1
    have HBN:=Lib.hid (And.intro BN (And.intro (B3.out.1.trans (hb1.mono B3.out.1.size)) (And.intro (B3.out.2.keep hb1) (And.intro (show wr.heap.size<=w3.heap.size from B3.out.1.size) (show bc≠w3.heap.size from Nat.ne_of_lt B3.out.2.lt)))))
    clear hb1 BN SC0 B3 d0 d1 d2 d3
    go_upto_if 49 with fail
    clear c0 c1 y0 y1
    generalize w3.alloc (.cells #[.int .i64 cd,.int .i64 cn] 25)=w4 at *
    generalize w3.heap.size=bb at *
    go_cut [] from 19 to 82 (fun wx=>RatAt wx bb i1' i2'/\Below wr.heap.size wr wx/\Blk wx bc #[.int .i64 cn,.int .i64 cd])
    case first=>
     have y0:=HBN.out.1.cell 0
     have y1:=HBN.out.1.cell 1
     by_cases hn:cn<0
     ·have HI2:=Lib.hid (show i1'=cd/\i2'=-cn from ⟨HI.out.1,by rw [HI.out.2];omega⟩)
      have tn:decide (cn<0)=true:=decide_eq_true hn
      go_wp2_with fail
      go_meet
      case rel=>
       have B5:=(HBN.out.1.set 0 (.int .i64 cd)).set 1 (.int .i64 (-cn))
       rw [HI2.out.1,HI2.out.2]
       exact ⟨⟨B5.cell 0,B5.cell 1,B5.lt⟩,(HBN.out.2.1.setCell (p:=⟨bb,0,none⟩) HBN.out.2.2.2.1 _).setCell (p:=⟨bb,1,none⟩) HBN.out.2.2.2.1 _,(HBN.out.2.2.1.other (p:=⟨bb,0,none⟩) (fun e=>HBN.out.2.2.2.2 e.symm) _).other (p:=⟨bb,1,none⟩) (fun e=>HBN.out.2.2.2.2 e.symm) _⟩
     ·have HI2:=Lib.hid (show i1'=cd/\i2'=cn from ⟨HI.out.1,by rw [HI.out.2];omega⟩)
      have tn:decide (cn<0)=false:=decide_eq_false hn
      go_wp2_with fail
      go_meet
      case rel=>
       rw [HI2.out.1,HI2.out.2]
       exact ⟨⟨HBN.out.1.cell 0,HBN.out.1.cell 1,HBN.out.1.lt⟩,HBN.out.2.1,HBN.out.2.2.1⟩
    case rest=>
     obtain ⟨RA,hbq1,hc1⟩:=hcut
     have D4:=Lib.hid (And.intro (DD.out.1.keep hbq1) (And.intro hbq1 hc1))
     have d0:=ZU hbq1 HD0.out.1
     have d1:=ZU hbq1 HD0.out.2.1
     have d2:=ZU hbq1 HD0.out.2.2.1
     have d3:=ZU hbq1 HD0.out.2.2.2
     have j0:=RA.k0;have j1:=RA.k1
     have SCL:=Lib.hid (fun (w':World) (hb:Below wc.heap.size wc w')=>SCL.out w' (D4.out.2.1.trans (hb.mono D4.out.2.1.size)))
     clear hbq1 hc1 RA h0 c0' c1' g0 g1
     go_upto_region 12 with fail
     generalize hwx:wc=wq at *
     clear hwx
     go_cut [12,13] from 19 to 82 (fun v12 v13 wx=>v13=.bool (er==0)/\Zky wq xo M m1 m2 v12 wx)
     case first=>
      have STB:=Lib.hid (show ZcD (fun w'=>((w'.cell? (ad.add (k*4))=some (.int .i64 xo)/\w'.cell? ⟨(ad.add (k*4)).block,(ad.add (k*4)).off+1,none⟩=some (.slice Ax xn cx)/\w'.cell? ⟨(ad.add (k*4)).block,(ad.add (k*4)).off+2,none⟩=some (.int .i64 x1)/\w'.cell? ⟨(ad.add (k*4)).block,(ad.add (k*4)).off+3,none⟩=some (.int .i64 x2))/\(w'.cell? ⟨bb,0,none⟩=some (.int .i64 i1')/\w'.cell? ⟨bb,1,none⟩=some (.int .i64 i2')))/\Below wq.heap.size wq w') from ZC (ZC (ZC (Zz _ _) (ZC (Zz _ _) (ZC (Zz _ _) (Zz _ _)))) (ZC (Zz _ _) (Zz _ _))) (ZbD wq))
      have HS:(((wq.drew.cell? (ad.add (k*4))=some (.int .i64 xo)/\wq.drew.cell? ⟨(ad.add (k*4)).block,(ad.add (k*4)).off+1,none⟩=some (.slice Ax xn cx)/\wq.drew.cell? ⟨(ad.add (k*4)).block,(ad.add (k*4)).off+2,none⟩=some (.int .i64 x1)/\wq.drew.cell? ⟨(ad.add (k*4)).block,(ad.add (k*4)).off+3,none⟩=some (.int .i64 x2))/\(wq.drew.cell? ⟨bb,0,none⟩=some (.int .i64 i1')/\wq.drew.cell? ⟨bb,1,none⟩=some (.int .i64 i2')))/\Below wq.heap.size wq wq.drew):=⟨⟨⟨d0,d1,d2,d3⟩,⟨j0,j1⟩⟩,Zq _⟩
      clear d0 d1 d2 d3 j0 j1
      refine wp_region_noPanic ?_
      refine wp_region_held_drew (S:=(fun w'=>((w'.cell? (ad.add (k*4))=some (.int .i64 xo)/\w'.cell? ⟨(ad.add (k*4)).block,(ad.add (k*4)).off+1,none⟩=some (.slice Ax xn cx)/\w'.cell? ⟨(ad.add (k*4)).block,(ad.add (k*4)).off+2,none⟩=some (.int .i64 x1)/\w'.cell? ⟨(ad.add (k*4)).block,(ad.add (k*4)).off+3,none⟩=some (.int .i64 x2))/\(w'.cell? ⟨bb,0,none⟩=some (.int .i64 i1')/\w'.cell? ⟨bb,1,none⟩=some (.int .i64 i2')))/\Below wq.heap.size wq w')) (by kernel_rfl) HS (fun hHeld=>?_)
      clear HS
      refine tk 0 rfl ?_
      refine tk 1 rfl ?_
      refine tk 2 rfl ?_
      refine tk 3 rfl ?_
      refine tk 4 rfl ?_
      (try simp only [cl,Act.put])
      refine wpAnyH_ready (rs:=[5,9]) (by kernel_rfl) (by simp) (AllReadyH.cons (o:=_) rfl (fun K hK=>?_) (AllReadyH.cons (o:=_) rfl (fun K hK=>?_) AllReadyH.nil))
      rotate_left
      go_simp
      (first | refine hK.out _ _ (Za9 STB.out (by with_reducible assumption)) (fun hH2=>?_) | refine hK.out _ _ (STB.out _ _ (Za _ _) (by with_reducible assumption)) (fun hH2=>?_))
      clear hK K
      (try dsimp only at hH2)
      (first | have HC:=Lib.hid (ZkU hH2) | have HC:=Lib.hid (ZjF hH2))
      have hHeld0:=Lib.hid hHeld
      clear hHeld
      have hHeld:=hH2
      clear hH2
      (try simp only [cl,Act.put])
      refine rd 5 rfl fun K hK=>?_
      rotate_right
      all_goals
       go_simp
       (go_at_call 105;(with_reducible refine (SCL.out _ (ZG (by with_reducible assumption))).mono ?_);rintro e6 w6 ⟨A6,c6,rfl,hv6,hb,fr6⟩;have HFR:=Lib.hid (fr6.mono (ZG hHeld).size);(try (have HF:=Lib.hid (Off.fresh (l:=M) (S:=fun b=>b=_) fr6 (fun b q=>by rw [q];exact HC.out.F.lt));have HC:=Lib.hid (HC.out.keep hb)));have HV:=Lib.hid hv6;clear hv6 fr6)
       go_wp2_with fail
       refine hK.out _ _ (STB.out _ _ hb (by with_reducible assumption)) (fun hH2=>?_)
       clear hK K hHeld hb;have hHeld:=hH2;clear hH2
       (try simp only [cl,Act.put])
      all_goals
       refine tk 6 rfl ?_
       refine tk 7 rfl ?_
       refine tk 8 rfl ?_
       (try simp only [cl,Act.put])
      refine rd 9 rfl fun K hK=>?_
      go_simp
      (first | refine hK.out _ _ (Za9 STB.out (by with_reducible assumption)) (fun hH2=>?_) | refine hK.out _ _ (STB.out _ _ (Za _ _) (by with_reducible assumption)) (fun hH2=>?_))
      clear hK K
      (try dsimp only at hH2)
      (first | have HC:=Lib.hid (ZkU hH2) | have HC:=Lib.hid (ZjF hH2))
      have hHeld0:=Lib.hid hHeld
      clear hHeld
      have hHeld:=hH2
      clear hH2
      (try simp only [cl,Act.put])
      all_goals
       refine rd 10 rfl fun K hK=>?_
       obtain ⟨⟨h0,h1,h2,h3⟩,h4,h5,h6,h7⟩:=HC.out.parts
       go_simp
       clear h0 h1 h2 h3 h4 h5 h6 h7
       (first
        | refine hK.out _ _ (STB.out _ _ (Za _ _) hHeld0.out) (fun hH2=>?_)
        | refine hK.out _ _ (STB.out _ _ (HC.out.fill _ _ _ _).1 hHeld0.out) (fun hH2=>?_))
       clear hK K hHeld
       (try dsimp only at hH2)
       have hHeld:=hH2
       clear hH2
       (try simp only [cl,Act.put])
       refine tk 11 rfl ?_
       (try simp only [cl,Act.put])
       refine wpAnyH_done (by kernel_rfl) ?_ _
       refine NoPanic.normal ?_
       go_wp2_with fail
       go_meet
       case rel=>first | exact ⟨rfl,ZnR hHeld0.out.2 29 HV.out HFR.out⟩ | exact ⟨rfl,Zo0 hHeld0.out.2 HC.out HV.out HF.out HFR.out⟩
     case rest=>
     obtain ⟨rfl,br,A6,c6,rfl,F6,r6,hbq2,fr6⟩:=hcut
     have D5:=Lib.hid (And.intro (D4.out.1.keep hbq2) (And.intro (D4.out.2.1.trans (hbq2.mono D4.out.2.1.size)) (D4.out.2.2.keep hbq2)))
     have fo:Off (Zaf (ZfX bq bs S1) va vb vc) (.slice A6 M.length c6) M:=Off.fresh fr6 (fun b g=>D4.out.1.tri.lt b g)
     have HV:=Lib.hid (And.intro r6 fo)
     have k0:=F6.cell 0;have k1:=F6.cell 1;have k2:=F6.cell 2;have k3:=F6.cell 3
     clear d0 d1 d2 d3 j0 j1 F6 r6 hbq2 fr6 fo D4
     have st:=HK.out.2.2.2.2.1
     rw [if_neg HS0.out] at st
     have b0:=D5.out.1.B.cell 0
     have b1:=D5.out.1.B.cell 1
     have f0:=D5.out.1.B.free 0
     have f1:=D5.out.1.B.free 1
     have c0:=D5.out.2.2.cell 0
     have c1:=D5.out.2.2.cell 1
     by_cases he:er=0
     ·subst he
      rw [if_pos rfl] at st
      dsimp only at st
      by_cases hp:0<cn
      ·rw [if_pos hp] at st
       have NX:=Lib.hid (show ZZ i ([],[],[]) (ts.take (k+1))=some (xa,xb++[(xo,M,m1,m2)],xc) from by rw [HK.out.2.2.1,st])
       have QW:=Lib.hid (D5.out.1.tri.swab.ahead (n:=M.length) (op:=xo) (kn:=m1) (kd:=m2) (A:=A6) (c:=c6) rfl 29)
       obtain ⟨rs2,QV⟩:=QW.out
       have QW:=Lib.hid QV
       clear QV st
       go_wp2_with (at_builtin;refine Zm _ rfl _ _ 22 rfl w.heap.size 29 iR (.agg #[.int .i64 0,.slice none 0 0,.int .i64 0,.int .i64 0]) 4 48 Tryz.underlying22 hiR zR0 zR1 zR2 rfl (by decide) _ xb.length (Zt rs2) rfl QW.out.2.1 (wc.heap.size+1) (some ⟨wc.heap.size,0,none⟩) 1 1 [.int .i64 xo,.slice A6 M.length c6,.int .i64 m1,.int .i64 m2] rfl QW.out.2.2.2.2 (Zcw _ _ _ _ _ _) (by have:=LK.out;omega) (by have:=LK.out;omega) QW.out.2.2.2.1.below.size ?_)
       intro v8 w8 hown hgrow hat
       obtain ⟨g8,cap8,hv8,_,_⟩:=hown.form (Nat.succ_pos _)
       subst hv8
       have hb8:=Za wc (.cells #[.int .i64 xo,.slice A6 M.length c6,.int .i64 m1,.int .i64 m2] 29)
       have DB:=D5.out.1.keep hb8
       have D8:=Lib.hid (DB.pushB hgrow (TriB.push (t:=(xo,M,m1,m2)) QW.out.2.2.2.1 QW.out.1 QW.out.2.2.1 hown hgrow (by first | exact hat | simpa using hat) (HV.out.1.below hb8) (HV.out.2.mono fun b q=>by rcases q with q | q | q;(· exact .inr (.inl q));(· exact .inl q);(· exact .inr (.inr q)))).swab)
       have G:=DB.B.grown hgrow (DB.tri.nb bs (.inr (.inl rfl)))
       have b0:=G.cell 0
       have f0:=G.free 0
       clear hown hgrow hat hb8 DB G
       go_wp2_with fail
       go_roundg (n-(k+1))
       case measure=>have:=HK.out.1;have:=HK.out.2.1;omega
       case rel=>exact ⟨k+1,(xa,xb++[(xo,M,m1,m2)],xc),_,_,_,rfl,by push_cast;rfl,by have:=HK.out.1;omega,rfl,NX.out,D8.out⟩
      ·rw [if_neg hp] at st
       have NX:=Lib.hid (show ZZ i ([],[],[]) (ts.take (k+1))=some (xa,xb,xc++[(xo,M,m1,m2)]) from by rw [HK.out.2.2.1,st])
       have QW:=Lib.hid (D5.out.1.tri.swac.ahead (n:=M.length) (op:=xo) (kn:=m1) (kd:=m2) (A:=A6) (c:=c6) rfl 29)
       obtain ⟨rs2,QV⟩:=QW.out
       have QW:=Lib.hid QV
       clear QV st
       go_wp2_with (at_builtin;refine Zm _ rfl _ _ 22 rfl w.heap.size 29 iR (.agg #[.int .i64 0,.slice none 0 0,.int .i64 0,.int .i64 0]) 4 48 Tryz.underlying22 hiR zR0 zR1 zR2 rfl (by decide) _ xc.length (Zt rs2) rfl QW.out.2.1 (wc.heap.size+1) (some ⟨wc.heap.size,0,none⟩) 1 1 [.int .i64 xo,.slice A6 M.length c6,.int .i64 m1,.int .i64 m2] rfl QW.out.2.2.2.2 (Zcw _ _ _ _ _ _) (by have:=LK.out;omega) (by have:=LK.out;omega) QW.out.2.2.2.1.below.size ?_)
       intro v8 w8 hown hgrow hat
       obtain ⟨g8,cap8,hv8,_,_⟩:=hown.form (Nat.succ_pos _)
       subst hv8
       have hb8:=Za wc (.cells #[.int .i64 xo,.slice A6 M.length c6,.int .i64 m1,.int .i64 m2] 29)
       have DB:=D5.out.1.keep hb8
       have D8:=Lib.hid (DB.pushC hgrow (TriB.push (t:=(xo,M,m1,m2)) QW.out.2.2.2.1 QW.out.1 QW.out.2.2.1 hown hgrow (by first | exact hat | simpa using hat) (HV.out.1.below hb8) (HV.out.2.mono fun b q=>by rcases q with q | q | q | q;(· exact .inr (.inr (.inl q)));(· exact .inr (.inl q));(· exact .inl q);(· exact .inr (.inr (.inr q))))).swac)
       have G:=DB.B.grown hgrow (DB.tri.nc bs (.inr (.inl rfl)))
       have b1:=G.cell 1
       have f1:=G.free 1
       clear hown hgrow hat hb8 DB G
       go_wp2_with fail
       go_roundg (n-(k+1))
       case measure=>have:=HK.out.1;have:=HK.out.2.1;omega
       case rel=>exact ⟨k+1,(xa,xb,xc++[(xo,M,m1,m2)]),_,_,_,rfl,by push_cast;rfl,by have:=HK.out.1;omega,rfl,NX.out,D8.out⟩
     ·have ne:(er==0)=false:=by simpa using he
      rw [if_neg he] at st
      have HE:=Lib.hid (HK.out.2.2.2.1 st)
      obtain ⟨⟨Aa,ca,rfl⟩,⟨Ab,cb,rfl⟩,Ac,cc,rfl⟩:=D5.out.1.tri.forms
      have q0:=D5.out.1.Q.cell 0
      have q1:=D5.out.1.Q.cell 1
      have f2:=D5.out.1.Q.free 0
      have f3:=D5.out.1.Q.free 1
      clear st he
      go_wp2_with fail
      obtain ⟨TD,z0,z1⟩:=D5.out.1.done
      exact bodyPost_ret (v:=.tuple #[.agg #[.slice Ab xb.length cb,.slice Ac xc.length cc],.slice none 0 0,.bool false]) (by simp [results,Tryz.results80,go_sem,z0,z1]) rfl (.inr ⟨HE.out,_,_,_,_,_,_,rfl,TD.below⟩)
end
end Go.Proofs.YtolookeddknmoaaGreat
