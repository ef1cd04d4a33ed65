import Derived.Test.YtolookeddknmoaaGreatQBH
set_option maxRecDepth 100000
set_option maxHeartbeats 8000000
namespace Go.Proofs.YtolookeddknmoaaGreat
section
open Go.RowKit
theorem Zei (a:Rw) (v:List Rw):∀ (u acc:List Rw),Zaq a acc (u++v)=(Zaq a acc u).bind fun acc'=>Zaq a acc' v
 | [],acc=>rfl
 | b::r,acc=>by
  rw [List.cons_append,Zaq,Zaq]
  cases Zbw a b with
  | none=>rfl
  | some t=>exact Zei a v r (acc++[t])
theorem Zej (up hi:List Rw):∀ (lo acc:List Rw),ZaN acc (lo++hi) up=(ZaN acc lo up).bind fun acc'=>ZaN acc' hi up
 | [],acc=>rfl
 | a::r,acc=>by
  rw [List.cons_append,ZaN,ZaN]
  cases Zaq a acc up with
  | none=>rfl
  | some t=>exact Zej up hi r t
structure SumS (S0:Nat->Prop) (W w:World) (va:Value) (xa:List Rw) (vb:Value) (xb:List Rw) (vc:Value) (xc:List Rw) (ba:Nat) (v:Value) (a:Rw):Prop where
 tri:Tri S0 W w va xa vb xb vc xc
 B:Blk w ba #[.int .i64 a.1,v,.int .i64 a.2.2.1,.int .i64 a.2.2.2]
 nb:¬ Zaf S0 va vb vc ba
 r:Zb w v a.2.1
 off:Off (Zaf S0 va vb vc) v a.2.1
section
variable {S0:Nat->Prop} {W w w':World} {va va' vb vc v vt:Value} {xa xb xc:List Rw} {ba:Nat} {a:Rw}
theorem SumS.keep (h:SumS S0 W w va xa vb xb vc xc ba v a) (hb:Below w.heap.size w w'):SumS S0 W w' va xa vb xb vc xc ba v a:=
 ⟨h.tri.keep hb,h.B.keep hb,h.nb,h.r.below hb,h.off⟩
theorem SumS.push {t:Rw} {rs:List (Value×Rw)} (h:SumS S0 W w va xa vb xb vc xc ba v a) (h1:rs.map (·.2)=xa) (h3:∀ x∈rs,Zb w x.1 x.2.2.1/\Off (Zaf S0 va vb vc) x.1 x.2.2.1)
  (hown:w'.ownsRow W.heap.size 29 4 va' (xa.length+1) (Zt rs++[.int .i64 t.1,vt,.int .i64 t.2.2.1,.int .i64 t.2.2.2])) (hg:w.grownBy w' va.ownBlock) (hv:va'.ownBlock=va.ownBlock\/va'.ownBlock=some w.heap.size) (hr:Zb w vt t.2.1) (ho:Off (Zaf S0 va vb vc) vt t.2.1) :
  SumS S0 W w' va' (xa++[t]) vb xb vc xc ba v a:=by
 have hs3:∀ b,Zaf S0 va' vb vc b->Zaf S0 va vb vc b\/w.heap.size<=b:=by
  intro b q
  rcases q with q | q
  ·rcases hv with e | e
   ·rw [e] at q;exact .inl (.inl q)
   ·rw [e] at q;injection q with q;exact .inr (by omega)
  ·exact .inl (.inr q)
 have hlt:=h.B.lt
 exact ⟨h.tri.push h1 h3 hown hg hv hr ho,h.B.grown hg (fun e=>h.nb (.inl e)),fun q=>(hs3 ba q).elim h.nb (fun q=>by omega),h.r.off h.off hg (fun b hb=>.inl hb),h.off.more h.r hs3⟩
end
def Zi5 (S0:Nat->Prop) (W:World) (o:Option (List Rw)) (vb:Value) (xb:List Rw) (vc:Value) (xc:List Rw) (e:Ending) (w':World):Prop:=
 (∃ l va,o=some l/\e=.returned (.tuple #[va,.int .i64 0])/\Tri S0 W w' va l vb xb vc xc) ∨
 (o=none/\∃ z:Int,(z != 0)=true/\e=.returned (.tuple #[.slice none 0 0,.int .i64 z])/\Below W.heap.size W w')
theorem ZlF (S0:Nat->Prop) (W w:World) (va:Value) (xa:List Rw) (vb:Value) (xb:List Rw) (vc:Value) (xc:List Rw) (h:Tri S0 W w va xa vb xb vc xc) (hb:∀ r∈xb,TrmOk r.2) (hc:∀ r∈xc,TrmOk r.2) (hl:xa.length<=1000/\xb.length<=1000/\xc.length<=1000) :
  Calls Tryz.prog 59 #[va,vb,vc] w (Zi5 S0 W (Za5 (xa,xb,xc)) vb xb vc xc):=by
 obtain ⟨iR,hiR,zR0,zR1,zR2⟩:=info_parts Zc6
 have D0:=Lib.hid h
 obtain ⟨Aa,ca,rfl⟩:∃ A c,va=.slice A xa.length c:=by obtain ⟨A,c,_,e,_⟩:=h.a.rows;exact ⟨A,c,e⟩
 obtain ⟨Ab,cb,rfl⟩:∃ A c,vb=.slice A xb.length c:=by obtain ⟨A,c,_,e,_⟩:=h.b.rows;exact ⟨A,c,e⟩
 obtain ⟨Ac,cc,rfl⟩:∃ A c,vc=.slice A xc.length c:=by obtain ⟨A,c,_,e,_⟩:=h.c.rows;exact ⟨A,c,e⟩
 obtain ⟨n,hn⟩:∃ n,n=xb.length:=⟨_,rfl⟩
 obtain ⟨m,hm⟩:∃ m,m=xc.length:=⟨_,rfl⟩
 obtain ⟨p,hp⟩:∃ p,p=xa.length:=⟨_,rfl⟩
 have hw:Za5 (xa,xb,xc)=if 400<p+n*m then none else ZaN xa xb xc:=by rw [hp,hn,hm];rfl
 rw [hw]
 obtain ⟨q,hq⟩:∃ q,q=n*m:=⟨_,rfl⟩
 have hqb:q<=1000000:=by rw [hq,hn,hm];exact Nat.mul_le_mul hl.2.1 hl.2.2
 rw [<- hq] at hw ⊢
 have m1:IntKind.i64.wrap ((n:Int)*(m:Int))=(q:Int):=by
  rw [show (n:Int)*(m:Int)=(q:Int) by rw [hq];push_cast;rfl]
  exact IntWalk.i64_in _ (by omega)
 have m2:IntKind.i64.wrap ((p:Int)+(q:Int))=(p:Int)+(q:Int):=IntWalk.i64_in _ (by have:=hl.1;omega)
 have HN:=Lib.hid (And.intro hn (And.intro hm (And.intro hp (And.intro hq (And.intro hb (And.intro hc hl))))))
 clear hw hqb h hb hc
 rw [<- hn,<- hm,<- hp] at D0 ⊢
 by_cases hbig:400<p+q
 ·have i1:(400:Int)<(p:Int)+(q:Int):=by omega
  rw [if_pos hbig]
  clear hn hm hp hq hl hbig HN
  go_enter Tryz.func59,Tryz.ntmps59
  go_wp2_with fail
  go_ret2
  exact .inr ⟨rfl,3,rfl,rfl,D0.out.below⟩
 ·have i1:¬ (400:Int)<(p:Int)+(q:Int):=by omega
  rw [if_neg hbig]
  have HB:=Lib.hid hbig
  clear hn hm hp hq hl hbig
  go_enter Tryz.func59,Tryz.ntmps59
  go_wp2_with fail
  go_loopg [0,26] n (fun g v0 v26 wr=>∃ (i:Nat) (l:List Rw) (va:Value),va=v0/\v26=.int .i64 i/\i<=n/\g=n-i/\ZaN xa (xb.take i) xc=some l/\l.length=p+i*m/\Tri S0 W wr va l (.slice Ab n cb) xb (.slice Ac m cc) xc)
  case atStart=>exact ⟨0,xa,_,rfl,rfl,Nat.zero_le _,rfl,rfl,by rw [Nat.zero_mul,HN.out.2.2.1];rfl,D0.out⟩
  case round=>
   clear D0 m1 m2 i1
   obtain ⟨i,l,va,rfl,rfl,hi,hg,hso,hll,D⟩:=hrel
   by_cases hin:i=n
   ·have he:xb.take i=xb:=by rw [hin,HN.out.1];exact List.take_length
    rw [he] at hso
    have FIN:=Lib.hid (show Zi5 S0 W (ZaN xa xb xc) (.slice Ab n cb) xb (.slice Ac m cc) xc (.returned (.tuple #[va,.int .i64 0])) wr from .inl ⟨_,va,hso,rfl,D⟩)
    subst hin
    clear hi hg D he hso hll
    have i3:¬ (i:Int)<(i:Int):=by omega
    go_wp2_with fail
    go_ret2
    exact FIN.out
   ·have hlt:i<n:=by omega
    obtain ⟨rs',z1,z2,z3⟩:=D.b
    obtain ⟨y,hy⟩:∃ y,rs'[i]? = some y:=⟨_,List.getElem?_eq_getElem (by rw [show rs'.length=n by rw [HN.out.1,<- z1,List.length_map]];omega)⟩
    have hyt:xb[i]? = some y.2:=by rw [<- z1,List.getElem?_map,hy];rfl
    rw [<- HN.out.1] at z2
    obtain ⟨ad,rfl,d0,d1,d2,d3⟩:=ZaF (ZB.of_own z2) (Below.refl _ _) hy (by omega)
    have hry:=z3 y (List.mem_of_getElem? hy)
    have hok:=HN.out.2.2.2.2.1 y.2 (List.mem_of_getElem? hyt)
    have nx:ZaN xa (xb.take (i+1)) xc=Zaq y.2 l xc:=by
     rw [List.take_add_one,hyt]
     show ZaN xa (xb.take i++[y.2]) xc=_
     rw [Zej,hso,Option.bind_some,ZaN]
     cases Zaq y.2 l xc<;>rfl
    have nn:Zaq y.2 l xc=none->ZaN xa xb xc=none:=fun q=>by
     rw [<- List.take_append_drop (i+1) xb,Zej,nx,q]
     rfl
    have i1:(i:Int)<(n:Int):=by omega
    have i2:(0:Int)<=(i:Int):=by omega
    have wk:IntKind.i64.wrap ((i:Int)+1)=(i:Int)+1:=IntWalk.i64_in _ (by have:=HN.out.2.2.2.2.2.2.2.1;have:=HN.out.1;omega)
    have hmul:(i+1)*m<=n*m:=Nat.mul_le_mul_right m hlt
    have hlb:l.length+m<=400:=by
     have:=HB.out
     have:=HN.out.2.2.2.1
     rw [Nat.add_mul,Nat.one_mul] at hmul
     omega
    have hmi:(i+1)*m=i*m+m:=by rw [Nat.add_mul,Nat.one_mul]
    obtain ⟨yv,ao,al,a1,a2⟩:=y
    dsimp only at *
    obtain ⟨Ax,cx,rfl⟩:=Zd hry.1
    have HK:=Lib.hid (And.intro hlt (And.intro hg (And.intro nx (And.intro nn (And.intro hok (And.intro hlb (And.intro hll hmi)))))))
    have ax:=Za wr (.cells #[.int .i64 ao,.slice Ax al.length cx,.int .i64 a1,.int .i64 a2] 29)
    have S1:=Lib.hid (show SumS S0 W (wr.alloc (.cells #[.int .i64 ao,.slice Ax al.length cx,.int .i64 a1,.int .i64 a2] 29)) va l (.slice (some ad) n cb) xb (.slice Ac m cc) xc wr.heap.size (.slice Ax al.length cx) (ao,al,a1,a2) from ⟨D.keep ax,Blk.start wr #[.int .i64 ao,.slice Ax al.length cx,.int .i64 a1,.int .i64 a2] 29,fun q=>by have:=D.lt _ q;omega,hry.1.below ax,hry.2⟩)
    clear hin hi hg hyt hy hry hok nx nn hso hlt hll hlb hmul hmi D ax z1 z2 z3
    go_upto_region 6 with fail
    clear d0 d1 d2 d3
    generalize wr.alloc (.cells #[.int .i64 ao,.slice Ax al.length cx,.int .i64 a1,.int .i64 a2] 29)=w1 at *
    generalize wr.heap.size=ba at *
    have S1:=Lib.hid (And.intro S1.out (show Zaq (ao,al,a1,a2) l (xc.take 0)=some l from rfl))
    go_wp2_with fail
    go_loopg [0,32] m (fun g v0 v32 wr=>∃ (j:Nat) (l2:List Rw) (va:Value),va=v0/\v32=.int .i64 j/\j<=m/\g=m-j/\Zaq (ao,al,a1,a2) l (xc.take j)=some l2/\l2.length=l.length+j/\SumS S0 W wr va l2 (.slice (some ad) n cb) xb (.slice Ac m cc) xc ba (.slice Ax al.length cx) (ao,al,a1,a2))
    case atStart=>exact ⟨0,l,_,rfl,rfl,Nat.zero_le _,rfl,S1.out.2,rfl,S1.out.1⟩
    case round=>
     clear S1
     obtain ⟨j,l2,va,rfl,rfl,hj,hgj,hst,hl2,D⟩:=hrel
     by_cases hjm:j=m
     ·have ez:xc.take j=xc:=by rw [hjm,HN.out.2.1];exact List.take_length
      rw [ez] at hst
      have NX:=Lib.hid (And.intro (show ZaN xa (xb.take (i+1)) xc=some l2 from by rw [HK.out.2.2.1,hst]) (show l2.length=p+(i+1)*m from by rw [hl2,HK.out.2.2.2.2.2.2.1,HK.out.2.2.2.2.2.2.2,hjm];omega))
      have DT:=Lib.hid D.tri
      subst hjm
      clear hst ez hj hgj D hl2
      have i3:¬ (j:Int)<(j:Int):=by omega
      go_wp2_with fail
      go_roundg (n-(i+1))
      case measure=>have:=HK.out.1;have:=HK.out.2.1;omega
      case rel=>exact ⟨i+1,l2,_,rfl,by push_cast;rfl,by have:=HK.out.1;omega,rfl,NX.out.1,NX.out.2,DT.out⟩
     ·have hltj:j<m:=by omega
      obtain ⟨rs',z1,z2,z3⟩:=D.tri.c
      obtain ⟨x,hx⟩:∃ x,rs'[j]? = some x:=⟨_,List.getElem?_eq_getElem (by rw [show rs'.length=m by rw [HN.out.2.1,<- z1,List.length_map]];omega)⟩
      have hxt:xc[j]? = some x.2:=by rw [<- z1,List.getElem?_map,hx];rfl
      rw [<- HN.out.2.1] at z2
      obtain ⟨ad2,rfl,d0,d1,d2,d3⟩:=ZaF (ZB.of_own z2) (Below.refl _ _) hx (by omega)
      have hrx:=(z3 x (List.mem_of_getElem? hx)).1
      have hokx:=HN.out.2.2.2.2.2.1 x.2 (List.mem_of_getElem? hxt)
      have nxj:Zaq (ao,al,a1,a2) l (xc.take (j+1))=(Zbw (ao,al,a1,a2) x.2).map fun t=>l2++[t]:=by
       rw [List.take_add_one,hxt]
       show Zaq _ l (xc.take j++[x.2])=_
       rw [Zei,hst,Option.bind_some,Zaq]
       cases Zbw (ao,al,a1,a2) x.2<;>rfl
      have nnj:Zbw (ao,al,a1,a2) x.2=none->ZaN xa xb xc=none:=fun q=>HK.out.2.2.2.1 (by
       rw [<- List.take_append_drop (j+1) xc,Zei,nxj,q]
       rfl)
      have oka:=HK.out.2.2.2.2.1
      have ad1:=fun (w':World) (hb:Below wr.heap.size wr w')=>Ziw w' (.slice Ax al.length cx) x.1 al x.2.2.1 (a1,a2) x.2.2.2 (D.r.below hb) (hrx.below hb) oka.ok.wide hokx.ok.wide oka.k.wide hokx.k.wide
      have so:Zbw (ao,al,a1,a2) x.2=(Zcc (al,a1,a2) x.2.2).map fun t=>(Zdg (ao,al,a1,a2) x.2,t):=rfl
      unfold Zcc at so
      dsimp only at so ad1
      generalize ZaQ al x.2.2.1 (a1,a2) x.2.2.2=Q at *
      have i3:(j:Int)<(m:Int):=by omega
      have i4:(0:Int)<=(j:Int):=by omega
      have wj:IntKind.i64.wrap ((j:Int)+1)=(j:Int)+1:=IntWalk.i64_in _ (by have:=HN.out.2.2.2.2.2.2.2.2;have:=HN.out.2.1;omega)
      have hl2b:l2.length+1<=1000:=by have:=HK.out.2.2.2.2.2.1;omega
      obtain ⟨U,⟨u1,u2⟩,e2⟩:=Q
      obtain ⟨xv,bo,bl,b1,b2⟩:=x
      dsimp only at *
      obtain ⟨Ay,cy,rfl⟩:=Zd hrx
      have AD:=Lib.hid ad1
      have HJ:=Lib.hid (And.intro hltj (And.intro hgj (And.intro nxj (And.intro nnj (And.intro hl2 so)))))
      have LK:=Lib.hid (show l2.length+1<=maxLen/\(l2.length+1)*48<=140737488355328 from by unfold maxLen;omega)
      have DJ:=Lib.hid D
      clear hjm hj hgj hst D hxt hx hrx hokx nxj nnj oka ad1 so hltj hl2 hl2b z1 z2 z3
      go_upto_region 9 with fail
      have ay:=Za wr (.cells #[.int .i64 bo,.slice Ay bl.length cy,.int .i64 b1,.int .i64 b2] 29)
      have YB:=Blk.start wr #[.int .i64 bo,.slice Ay bl.length cy,.int .i64 b1,.int .i64 b2] 29
      have S2:=Lib.hid (And.intro (DJ.out.keep ay) (And.intro YB ay))
      clear d0 d1 d2 d3 ay YB
      generalize hbb:wr.heap.size=bb at *
      generalize wr.alloc (.cells #[.int .i64 bo,.slice Ay bl.length cy,.int .i64 b1,.int .i64 b2] 29)=w2 at *
      have r1:=S2.out.1.B.cell 1
      have r2:=S2.out.1.B.cell 2
      have r3:=S2.out.1.B.cell 3
      have y1:=S2.out.2.1.cell 1
      have y2:=S2.out.2.1.cell 2
      have y3:=S2.out.2.1.cell 3
      go_upto_region 10 with (go_at_call 57;(with_reducible refine (AD.out _ S2.out.2.2).mono ?_);rintro e7 w7 ⟨v7,rfl,hv7,hb7,fr7⟩;obtain ⟨A7,c7,rfl⟩:=Zd hv7)
      have az:=Za w7 (.cells #[.slice A7 U.length c7,.int .i64 u1,.int .i64 u2] 27)
      have fo:Off (Zaf S0 va (.slice (some ad) n cb) (.slice (some ad2) m cc)) (.slice A7 U.length c7) U:=Off.fresh fr7 (fun b q=>by have:=DJ.out.tri.lt b q;have:=S2.out.2.2.size;omega)
      have S3:=Lib.hid (And.intro ((S2.out.1.keep hb7).keep az) (And.intro (hv7.below az) fo))
      have P3:=Lib.hid (And.intro ((S2.out.2.1.keep hb7).keep az) (Blk.start w7 #[.slice A7 U.length c7,.int .i64 u1,.int .i64 u2] 27))
      clear r1 r2 r3 y1 y2 y3 S2 az fo hv7 hb7 fr7
      generalize w7.heap.size=bz at *
      generalize w7.alloc (.cells #[.slice A7 U.length c7,.int .i64 u1,.int .i64 u2] 27)=w3 at *
      have so:=HJ.out.2.2.2.2.2
      by_cases he:e2=0
      ·subst he
       rw [if_pos rfl,Option.map_some] at so
       have r0:=S3.out.1.B.cell 0
       have y0:=P3.out.1.cell 0
       have p0:=P3.out.2.cell 0
       have p1:=P3.out.2.cell 1
       have p2:=P3.out.2.cell 2
       by_cases ha:ao=2
       ·have ea:(ao==2)=true:=by rw [ha];rfl
        have NX:=Lib.hid (show Zaq (ao,al,a1,a2) l (xc.take (j+1))=some (l2++[(2,U,u1,u2)]) from by rw [HJ.out.2.2.1,so];unfold Zdg;simp [ha])
        have QW:=Lib.hid (S3.out.1.tri.ahead (n:=U.length) (op:=2) (kn:=u1) (kd:=u2) (A:=A7) (c:=c7) rfl 29)
        obtain ⟨rs2,QV⟩:=QW.out
        have QW:=Lib.hid QV
        clear QV so ha
        go_wp2_with (at_builtin;refine Zm _ rfl _ _ 22 rfl W.heap.size 29 iR (.agg #[.int .i64 0,.slice none 0 0,.int .i64 0,.int .i64 0]) 4 48 Tryz.underlying22 hiR zR0 zR1 zR2 rfl (by decide) _ l2.length (Zt rs2) rfl QW.out.2.1 (w3.heap.size+1) (some ⟨w3.heap.size,0,none⟩) 1 1 [.int .i64 2,.slice A7 U.length c7,.int .i64 u1,.int .i64 u2] rfl QW.out.2.2.2.2 (Zcw _ _ _ _ _ _) (by have:=LK.out;omega) (by have:=LK.out;omega) QW.out.2.2.2.1.below.size ?_)
        intro v9 w9 hown hgrow hat
        have al:=Za w3 (.cells #[.int .i64 2,.slice A7 U.length c7,.int .i64 u1,.int .i64 u2] 29)
        have D8:=Lib.hid (SumS.push (t:=(2,U,u1,u2)) (S3.out.1.keep al) QW.out.1 QW.out.2.2.1 hown hgrow (by first | exact hat | simpa using hat) (S3.out.2.1.below al) S3.out.2.2)
        clear hown hgrow hat al
        go_wp2_with fail
        go_roundg (m-(j+1))
        case measure=>have:=HJ.out.1;have:=HJ.out.2.1;omega
        case rel=>exact ⟨j+1,l2++[(2,U,u1,u2)],_,rfl,by push_cast;rfl,by have:=HJ.out.1;omega,rfl,NX.out,by rw [List.length_append,HJ.out.2.2.2.2.1];rfl,D8.out⟩
       ·have ea:(ao==2)=false:=by simpa using ha
        by_cases hb2:bo=2
        ·have eb:(bo==2)=true:=by rw [hb2];rfl
         have NX:=Lib.hid (show Zaq (ao,al,a1,a2) l (xc.take (j+1))=some (l2++[(2,U,u1,u2)]) from by rw [HJ.out.2.2.1,so];unfold Zdg;simp [hb2])
         have QW:=Lib.hid (S3.out.1.tri.ahead (n:=U.length) (op:=2) (kn:=u1) (kd:=u2) (A:=A7) (c:=c7) rfl 29)
         obtain ⟨rs2,QV⟩:=QW.out
         have QW:=Lib.hid QV
         clear QV so ha hb2
         go_wp2_with (at_builtin;refine Zm _ rfl _ _ 22 rfl W.heap.size 29 iR (.agg #[.int .i64 0,.slice none 0 0,.int .i64 0,.int .i64 0]) 4 48 Tryz.underlying22 hiR zR0 zR1 zR2 rfl (by decide) _ l2.length (Zt rs2) rfl QW.out.2.1 (w3.heap.size+1) (some ⟨w3.heap.size,0,none⟩) 1 1 [.int .i64 2,.slice A7 U.length c7,.int .i64 u1,.int .i64 u2] rfl QW.out.2.2.2.2 (Zcw _ _ _ _ _ _) (by have:=LK.out;omega) (by have:=LK.out;omega) QW.out.2.2.2.1.below.size ?_)
         intro v9 w9 hown hgrow hat
         have al:=Za w3 (.cells #[.int .i64 2,.slice A7 U.length c7,.int .i64 u1,.int .i64 u2] 29)
         have D8:=Lib.hid (SumS.push (t:=(2,U,u1,u2)) (S3.out.1.keep al) QW.out.1 QW.out.2.2.1 hown hgrow (by first | exact hat | simpa using hat) (S3.out.2.1.below al) S3.out.2.2)
         clear hown hgrow hat al
         go_wp2_with fail
         go_roundg (m-(j+1))
         case measure=>have:=HJ.out.1;have:=HJ.out.2.1;omega
         case rel=>exact ⟨j+1,l2++[(2,U,u1,u2)],_,rfl,by push_cast;rfl,by have:=HJ.out.1;omega,rfl,NX.out,by rw [List.length_append,HJ.out.2.2.2.2.1];rfl,D8.out⟩
        ·have eb:(bo==2)=false:=by simpa using hb2
         have NX:=Lib.hid (show Zaq (ao,al,a1,a2) l (xc.take (j+1))=some (l2++[(1,U,u1,u2)]) from by rw [HJ.out.2.2.1,so];unfold Zdg;simp [ha,hb2])
         have QW:=Lib.hid (S3.out.1.tri.ahead (n:=U.length) (op:=1) (kn:=u1) (kd:=u2) (A:=A7) (c:=c7) rfl 29)
         obtain ⟨rs2,QV⟩:=QW.out
         have QW:=Lib.hid QV
         clear QV so ha hb2
         go_wp2_with (at_builtin;refine Zm _ rfl _ _ 22 rfl W.heap.size 29 iR (.agg #[.int .i64 0,.slice none 0 0,.int .i64 0,.int .i64 0]) 4 48 Tryz.underlying22 hiR zR0 zR1 zR2 rfl (by decide) _ l2.length (Zt rs2) rfl QW.out.2.1 (w3.heap.size+1) (some ⟨w3.heap.size,0,none⟩) 1 1 [.int .i64 1,.slice A7 U.length c7,.int .i64 u1,.int .i64 u2] rfl QW.out.2.2.2.2 (Zcw _ _ _ _ _ _) (by have:=LK.out;omega) (by have:=LK.out;omega) QW.out.2.2.2.1.below.size ?_)
         intro v9 w9 hown hgrow hat
         have al:=Za w3 (.cells #[.int .i64 1,.slice A7 U.length c7,.int .i64 u1,.int .i64 u2] 29)
         have D8:=Lib.hid (SumS.push (t:=(1,U,u1,u2)) (S3.out.1.keep al) QW.out.1 QW.out.2.2.1 hown hgrow (by first | exact hat | simpa using hat) (S3.out.2.1.below al) S3.out.2.2)
         clear hown hgrow hat al
         go_wp2_with fail
         go_roundg (m-(j+1))
         case measure=>have:=HJ.out.1;have:=HJ.out.2.1;omega
         case rel=>exact ⟨j+1,l2++[(1,U,u1,u2)],_,rfl,by push_cast;rfl,by have:=HJ.out.1;omega,rfl,NX.out,by rw [List.length_append,HJ.out.2.2.2.2.1];rfl,D8.out⟩
      ·have ne:(e2 != 0)=true:=by simpa using he
       rw [if_neg he,Option.map_none] at so
       have FIN:=Lib.hid (show Zi5 S0 W (ZaN xa xb xc) (.slice (some ad) n cb) xb (.slice (some ad2) m cc) xc (.returned (.tuple #[.slice none 0 0,.int .i64 e2])) w3 from .inr ⟨HJ.out.2.2.2.1 so,e2,ne,rfl,S3.out.1.tri.below⟩)
       clear so he
       go_wp2_with fail
       go_ret2
       exact FIN.out
end
end Go.Proofs.YtolookeddknmoaaGreat
