import Derived.Test.YtkongcicmajolaaGreatDoorQBD
import Derived.Test.YtkongcicmajolaaGreatDoorQBF
import Derived.Test.YtkongcicmajolaaGreatDoorQBI
set_option maxRecDepth 100000
set_option maxHeartbeats 8000000
namespace Go.Proofs.YtkongcicmajolaaGreatDoor
section
open Go.RowKit
theorem ZnX (w0 w:World) (bp:Nat) (vL:Value) (L:List Tok) (s:PS) (h:ParS w0 w bp vL L s) :
  Calls Tryz.prog 49 #[.pointer (some ⟨bp,0,none⟩)] w (Zcz w0 bp vL L w (ZbL L s).1 (ZbL L s).2):=by
 obtain ⟨R,hR⟩:∃ R,R=ZaP L (Zbo L) [125] (L.length+1) [] (Zf L [123] (Zb L (Zf L [112,114,111,116,111] s)).2):=⟨_,rfl⟩
 have hM:ZbL L s=(.mk 1 [(Zb L (Zf L [112,114,111,116,111] s)).1] [] (Ze L s) R.1,R.2):=by rw [hR];rfl
 rw [hM]
 have HR:=zh hR
 clear hM hR
 obtain ⟨iS,hS,zS0,zS1,zS2⟩:=info_parts Zbd
 obtain ⟨iU,hU,zU0,zU1,zU2⟩:=info_parts Zbl
 obtain ⟨iN,hN,zN0,zN1,zN2⟩:=info_parts Za8
 have a0:=below_alloc1 w (.cells #[.int .i64 0,.slice none 0 0,.slice none 0 0,.slice none 0 0,.int .i64 0,.slice none 0 0] 58)
 have ha:=h.keep a0
 generalize hwa:w.alloc (.cells #[.int .i64 0,.slice none 0 0,.slice none 0 0,.slice none 0 0,.int .i64 0,.slice none 0 0] 58)=wa at *
 have RB:=zh (Zar w0 wa bp vL L s 1 ha)
 have H:=zh h
 have HZ:=zh h.size0
 clear a0 ha h
 go_enter Tryz.func49,Tryz.ntmps49
 go_upto_region 2 with (go_at_call 46;(with_reducible refine RB.out.mono ?_);rintro e w1 ⟨rfl,hb⟩;have B1:=zh hb;clear hb)
 have G2:=zh (Gn.start (k:=1) (p:=Ze L s) H.out hwa B1.out)
 clear hwa RB
 generalize w1.alloc (.cells #[.int .i64 1,.slice none 0 0,.slice none 0 0,.slice none 0 0,.int .i64 (Ze L s),.slice none 0 0] 58)=w2 at *
 clear B1
 generalize w1.heap.size=b at *
 have CT:=zh (Zad w0 w2 bp vL L s [112,114,111,116,111] G2.out.P)
 go_upto_region 3 with (go_at_call 71;(with_reducible refine CT.out.mono ?_);rintro e w3 ⟨rfl,hp,hf⟩;have G3:=zh (G2.out.call hp hf);clear hp hf)
 clear G2
 clear CT
 (try go_upto_region 3 with fail)
 refine Zbg 8 0 3 G3.out (by simp) (fun v5 A4 n4 c4 w4 hG=>?_)
 (try dsimp only at hG)
 have G4:=zh hG
 clear hG G3
 (try simp only [cl,Act.put])
 have CT:=zh (Zad w0 w4 bp vL L (Zb L (Zf L [112,114,111,116,111] s)).2 [123] G4.out.P)
 go_upto_region 5 with (go_at_call 71;(with_reducible refine CT.out.mono ?_);rintro e w5 ⟨rfl,hp,hf⟩;have G5:=zh (G4.out.call hp hf);clear hp hf)
 clear G4
 clear CT
 go_upto_region 5 with fail
 have FEW:=zh G5.out.P.few.1
 go_loopg [] (L.length+1) (fun g wr=>∃ (l:List Tr) (t:PS) (x:NV) (vs:List (NV×Tr)),R=ZaP L (Zbo L) [125] g l t/\True/\(t.err=0->L.length-t.at_<g)/\vs.length+g<=L.length+1/\vs.map (·.2)=l/\Gn w0 w wr bp b w.heap.size vL L t x 1 (Ze L s) [(Zb L (Zf L [112,114,111,116,111] s)).1] [] vs)
 case atStart=>exact ⟨[],_,_,[],HR.out,trivial,fun _=>by omega,by simp,rfl,G5.out⟩
 case round=>
  obtain ⟨l,t,x,vs,hr,hD,hf,hlen,hvl,hG⟩:=hrel
  have SH:=hG.shape
  obtain ⟨xA,xn,xc,xB,xm,xd,xC,xq,xe,rfl⟩:=SH
  clear G5
  have G40:=zh hG
  have LB:=zh (show vs.length<=100004 by have:=FEW.out;omega)
  clear hG
  by_cases he:t.err=0
  ·skip
   obtain ⟨g2,rfl⟩:∃ g2,gk=g2+1:=⟨gk-1,by have:=hf he;omega⟩
   have hk0:(t.err==0)=true:=by simp [he]
   by_cases hc:isM L [125] t=true
   ·skip
    have hr2:R=(l,Zd t):=by rw [hr,ZaP,if_pos he,if_pos hc]
    have CT:=zh (ZY (y:=[125]) G40.out.P hc)
    have HQ:=zh (zi hr2 (zi hD hvl))
    clear hr hr2 hD hf hlen hvl he hc
    obtain ⟨c0,c1,c2,c3,c4⟩:=G40.out.P.cells
    have cf:=G40.out.P.frees
    go_upto_region 7 with (go_at_call 73;(with_reducible refine CT.out.mono ?_);rintro e w41 ⟨rfl,hp,hf⟩;have G41:=zh (G40.out.call hp hf);clear hp hf)
    clear c0 c1 c2 c3 c4 cf
    clear hk0 CT G40
    obtain ⟨hr2,_,hvl⟩:=HQ.out
    subst hr2
    subst hvl
    obtain ⟨q0,q1,q2,q3,q4,q5⟩:=G41.out.cells
    dsimp only at q1 q2 q5
    have qf:=G41.out.free
    obtain ⟨z0,z1,z2,z3,z4,z5⟩:=G41.out.zeros HZ.out
    have zf:=G41.out.rfree HZ.out
    have so:=Zy
    go_wp2_with fail
    obtain ⟨r0,r1,r2,r3,r4,r5⟩:=ZaH (G41.out.R HZ.out) (.int .i64 1) (.slice xA xn xc) (.slice xB xm xd) (.slice none 0 0) (.int .i64 (Ze L s)) (.slice xC xq xe)
    obtain ⟨o1,o2,o3⟩:=G41.out.out HZ.out (.int .i64 1) (.slice xA xn xc) (.slice xB xm xd) (.slice none 0 0) (.int .i64 (Ze L s)) (.slice xC xq xe)
    exact bodyPost_ret (v:=.agg #[.int .i64 1,(.slice xA xn xc),(.slice xB xm xd),.slice none 0 0,.int .i64 (Ze L s),(.slice xC xq xe)]) (by simp [results,Tryz.results49,go_sem,so,r0,r1,r2,r3,r4,r5]) rfl ⟨((.slice xA xn xc),(.slice xB xm xd),(.slice xC xq xe)),rfl,o1,o2,o3⟩
   ·skip
    have hc0:isM L [125] t=false:=by simpa using hc
    have hr2:R=ZaP L (Zbo L) [125] g2 (l++[((Zbo L) t).1]) ((Zbo L) t).2:=by rw [hr,ZaP,if_pos he,if_neg hc]
    have CT:=zh (ZQ (y:=[125]) G40.out.P hc0)
    have HK:=zh (zi hr2 (zi (hf he) (zi hlen (zi hvl (zi he hD)))))
    clear hr hr2 hD hf hlen hvl hc hc0 he
    obtain ⟨c0,c1,c2,c3,c4⟩:=G40.out.P.cells
    have cf:=G40.out.P.frees
    go_upto_region 6 with (go_at_call 73;(with_reducible refine CT.out.mono ?_);rintro e w41 ⟨rfl,hp,hf⟩;have G41:=zh (G40.out.call hp hf);clear hp hf)
    clear c0 c1 c2 c3 c4 cf
    clear hk0 CT G40
    have GT:=zh G41.out
    (try go_upto_region 6 with fail)
    refine ZdV 30 0 3 G41.out (by have:=LB.out;(try simp only [List.length_append,List.length_cons,List.length_nil]);omega) (by intro _ _;go_simp) (fun wr hP=>Zpp w0 wr bp vL L t hP) (fun v5 A51 n51 c51 y51 w51 hG=>?_)
    (try dsimp only at hG)
    have G51:=zh hG
    clear hG G41
    (try simp only [cl,Act.put])
    go_wp2_with fail
    go_roundg g2
    case measure=>omega
    case rel=>
     have AD:Gon L t ((Zbo L) t).2:=part_go GT.out.P.few.2.1 GT.out.P.lt
     refine ⟨_,_,_,_,HK.out.1,trivial,fun q=>?_,?_,?_,by simpa using G51.out⟩
     ·have:=AD.on q
      have:=HK.out.2.1
      have:=G51.out.P.lt
      omega
     ·have:=HK.out.2.2.1
      simp only [List.length_append,List.length_cons,List.length_nil]
      omega
     ·rw [List.map_append,HK.out.2.2.2.1];rfl
  ·skip
   have hr2:R=(l,t):=by
    rw [hr]
    cases gk with
    | zero=>rfl
    | succ g2=>rw [ZaP,if_neg he]
   have hk0:(t.err==0)=false:=by simp [he]
   have HQ:=zh (zi hr2 (zi hD hvl))
   clear hr hr2 hD hf hlen hvl he
   obtain ⟨c0,c1,c2,c3,c4⟩:=G40.out.P.cells
   have cf:=G40.out.P.frees
   go_upto_region 7 with fail
   clear c0 c1 c2 c3 c4 cf
   clear hk0
   obtain ⟨hr2,_,hvl⟩:=HQ.out
   subst hr2
   subst hvl
   obtain ⟨q0,q1,q2,q3,q4,q5⟩:=G40.out.cells
   dsimp only at q1 q2 q5
   have qf:=G40.out.free
   obtain ⟨z0,z1,z2,z3,z4,z5⟩:=G40.out.zeros HZ.out
   have zf:=G40.out.rfree HZ.out
   have so:=Zy
   go_wp2_with fail
   obtain ⟨r0,r1,r2,r3,r4,r5⟩:=ZaH (G40.out.R HZ.out) (.int .i64 1) (.slice xA xn xc) (.slice xB xm xd) (.slice none 0 0) (.int .i64 (Ze L s)) (.slice xC xq xe)
   obtain ⟨o1,o2,o3⟩:=G40.out.out HZ.out (.int .i64 1) (.slice xA xn xc) (.slice xB xm xd) (.slice none 0 0) (.int .i64 (Ze L s)) (.slice xC xq xe)
   exact bodyPost_ret (v:=.agg #[.int .i64 1,(.slice xA xn xc),(.slice xB xm xd),.slice none 0 0,.int .i64 (Ze L s),(.slice xC xq xe)]) (by simp [results,Tryz.results49,go_sem,so,r0,r1,r2,r3,r4,r5]) rfl ⟨((.slice xA xn xc),(.slice xB xm xd),(.slice xC xq xe)),rfl,o1,o2,o3⟩
def Zjq (w0:World) (bp:Nat) (vL:Value) (L:List Tok) (f:Nat) (st:PS->Tr×PS):Prop:=∀ (w:World) (t:PS),ParS w0 w bp vL L t->Dp L f t->t.err=0->Calls Tryz.prog 101 #[.pointer (some ⟨bp,0,none⟩)] w (Zcz w0 bp vL L w (st t).1 (st t).2)
theorem ZnP (w0 w:World) (bp:Nat) (vL:Value) (L:List Tok) (s:PS) (f:Nat) (st:PS->Tr×PS) (hgo:Stm L f st) (hst:Zjq w0 bp vL L f st) (h:ParS w0 w bp vL L s) (hd:Dp L (f+1) s) (h200:s.deep<=200) :
  Calls Tryz.prog 76 #[.pointer (some ⟨bp,0,none⟩)] w (Zcz w0 bp vL L w (Zag L st s).1 (Zag L st s).2):=by
 obtain ⟨R,hR⟩:∃ R,R=ZaP L st [125] (L.length+1) [] (inM L (Zf L [123] s)):=⟨_,rfl⟩
 have hM:Zag L st s=(.mk 7 [] [] (Ze L s) R.1,ZdW R.2):=by rw [hR];rfl
 rw [hM]
 have WG:=Zq h.few.2.1 [123] h.lt
 have DW:=(ZX (f+1)).next _ _ hd WG.toAdv
 have HI:=zh (zi DW (Zep DW (.inr (by rw [WG.deep];exact h200))))
 have HR:=zh hR
 have HST:=zh (zi hgo hst)
 clear hM hR WG DW hd h200 hgo hst
 obtain ⟨iS,hS,zS0,zS1,zS2⟩:=info_parts Zbd
 obtain ⟨iU,hU,zU0,zU1,zU2⟩:=info_parts Zbl
 obtain ⟨iN,hN,zN0,zN1,zN2⟩:=info_parts Za8
 have a0:=below_alloc1 w (.cells #[.int .i64 0,.slice none 0 0,.slice none 0 0,.slice none 0 0,.int .i64 0,.slice none 0 0] 58)
 have ha:=h.keep a0
 generalize hwa:w.alloc (.cells #[.int .i64 0,.slice none 0 0,.slice none 0 0,.slice none 0 0,.int .i64 0,.slice none 0 0] 58)=wa at *
 have RB:=zh (Zar w0 wa bp vL L s 7 ha)
 have H:=zh h
 have HZ:=zh h.size0
 clear a0 ha h
 go_enter Tryz.func76,Tryz.ntmps76
 go_upto_region 2 with (go_at_call 46;(with_reducible refine RB.out.mono ?_);rintro e w1 ⟨rfl,hb⟩;have B1:=zh hb;clear hb)
 have G2:=zh (Gn.start (k:=7) (p:=Ze L s) H.out hwa B1.out)
 clear hwa RB
 generalize w1.alloc (.cells #[.int .i64 7,.slice none 0 0,.slice none 0 0,.slice none 0 0,.int .i64 (Ze L s),.slice none 0 0] 58)=w2 at *
 clear B1
 generalize w1.heap.size=b at *
 have CT:=zh (Zad w0 w2 bp vL L s [123] G2.out.P)
 go_upto_region 3 with (go_at_call 71;(with_reducible refine CT.out.mono ?_);rintro e w3 ⟨rfl,hp,hf⟩;have G3:=zh (G2.out.call hp hf);clear hp hf)
 clear G2
 clear CT
 have CT:=zh (Zix w0 w3 bp vL L (Zf L [123] s) G3.out.P HI.out.1.lo (by have:=HI.out.1.hi;omega))
 go_upto_region 4 with (go_at_call 100;(with_reducible refine CT.out.mono ?_);rintro e w4 ⟨rfl,hp,hf⟩;have G4:=zh (G3.out.call hp hf);clear hp hf)
 clear G3
 clear CT
 go_upto_region 4 with fail
 have FEW:=zh G4.out.P.few.1
 go_loopg [] (L.length+1) (fun g wr=>∃ (l:List Tr) (t:PS) (x:NV) (vs:List (NV×Tr)),R=ZaP L st [125] g l t/\Dp L f t/\(t.err=0->L.length-t.at_<g)/\vs.length+g<=L.length+1/\vs.map (·.2)=l/\Gn w0 w wr bp b w.heap.size vL L t x 7 (Ze L s) [] [] vs)
 case atStart=>exact ⟨[],_,_,[],HR.out,HI.out.2,fun _=>by omega,by simp,rfl,G4.out⟩
 case round=>
  obtain ⟨l,t,x,vs,hr,hD,hf,hlen,hvl,hG⟩:=hrel
  have SH:=hG.shape
  obtain ⟨xA,xn,xc,xB,xm,xd,xC,xq,xe,rfl⟩:=SH
  clear G4
  have G40:=zh hG
  have LB:=zh (show vs.length<=100004 by have:=FEW.out;omega)
  clear hG
  by_cases he:t.err=0
  ·skip
   obtain ⟨g2,rfl⟩:∃ g2,gk=g2+1:=⟨gk-1,by have:=hf he;omega⟩
   have hk0:(t.err==0)=true:=by simp [he]
   by_cases hc:isM L [125] t=true
   ·skip
    have hr2:R=(l,Zd t):=by rw [hr,ZaP,if_pos he,if_pos hc]
    have CT:=zh (ZY (y:=[125]) G40.out.P hc)
    have HQ:=zh (zi hr2 (zi hD hvl))
    clear hr hr2 hD hf hlen hvl he hc
    obtain ⟨c0,c1,c2,c3,c4⟩:=G40.out.P.cells
    have cf:=G40.out.P.frees
    go_upto_region 6 with (go_at_call 73;(with_reducible refine CT.out.mono ?_);rintro e w41 ⟨rfl,hp,hf⟩;have G41:=zh (G40.out.call hp hf);clear hp hf)
    clear c0 c1 c2 c3 c4 cf
    clear hk0 CT G40
    obtain ⟨hr2,hD,hvl⟩:=HQ.out
    subst hr2
    subst hvl
    have HD:=zh (show 0<=PS.deep t/\PS.deep t<=100000 from ⟨hD.lo,by have:=hD.hi;omega⟩)
    clear hD
    have LO:=zh (show 0<=PS.deep (Zd t)/\PS.deep (Zd t)<=100000 from HD.out)
    have wd:IntKind.i64.wrap (PS.deep (Zd t)-1)=PS.deep (Zd t)-1:=IntWalk.i64_in _ (by have:=LO.out;omega)
    have DEC:=G41.out.P.deeper (PS.deep (Zd t)-1)
    have G51:=zh (G41.out.call DEC.1 DEC.2)
    clear DEC
    obtain ⟨c0,c1,c2,c3,c4⟩:=G41.out.P.cells
    have cf:=G41.out.P.frees
    go_upto_region 7 with fail
    clear c0 c1 c2 c3 c4 cf
    clear wd LO G41
    generalize w41.setCell ⟨bp,2,none⟩ (.int .i64 (PS.deep (Zd t)-1))=w51 at *
    obtain ⟨q0,q1,q2,q3,q4,q5⟩:=G51.out.cells
    dsimp only at q1 q2 q5
    have qf:=G51.out.free
    obtain ⟨z0,z1,z2,z3,z4,z5⟩:=G51.out.zeros HZ.out
    have zf:=G51.out.rfree HZ.out
    have so:=Zy
    go_wp2_with fail
    obtain ⟨r0,r1,r2,r3,r4,r5⟩:=ZaH (G51.out.R HZ.out) (.int .i64 7) (.slice xA xn xc) (.slice xB xm xd) (.slice none 0 0) (.int .i64 (Ze L s)) (.slice xC xq xe)
    obtain ⟨o1,o2,o3⟩:=G51.out.out HZ.out (.int .i64 7) (.slice xA xn xc) (.slice xB xm xd) (.slice none 0 0) (.int .i64 (Ze L s)) (.slice xC xq xe)
    exact bodyPost_ret (v:=.agg #[.int .i64 7,(.slice xA xn xc),(.slice xB xm xd),.slice none 0 0,.int .i64 (Ze L s),(.slice xC xq xe)]) (by simp [results,Tryz.results76,go_sem,so,r0,r1,r2,r3,r4,r5]) rfl ⟨((.slice xA xn xc),(.slice xB xm xd),(.slice xC xq xe)),rfl,o1,o2,o3⟩
   ·skip
    have hc0:isM L [125] t=false:=by simpa using hc
    have hr2:R=ZaP L st [125] g2 (l++[(st t).1]) (st t).2:=by rw [hr,ZaP,if_pos he,if_neg hc]
    have CT:=zh (ZQ (y:=[125]) G40.out.P hc0)
    have HK:=zh (zi hr2 (zi (hf he) (zi hlen (zi hvl (zi he hD)))))
    clear hr hr2 hD hf hlen hvl hc hc0 he
    obtain ⟨c0,c1,c2,c3,c4⟩:=G40.out.P.cells
    have cf:=G40.out.P.frees
    go_upto_region 5 with (go_at_call 73;(with_reducible refine CT.out.mono ?_);rintro e w41 ⟨rfl,hp,hf⟩;have G41:=zh (G40.out.call hp hf);clear hp hf)
    clear c0 c1 c2 c3 c4 cf
    clear hk0 CT G40
    (try go_upto_region 5 with fail)
    refine ZdV 21 0 3 G41.out (by have:=LB.out;(try simp only [List.length_append,List.length_cons,List.length_nil]);omega) (by intro _ _;go_simp) (fun wr hP=>HST.out.2 wr t hP HK.out.2.2.2.2.2 HK.out.2.2.2.2.1) (fun v5 A51 n51 c51 y51 w51 hG=>?_)
    (try dsimp only at hG)
    have G51:=zh hG
    clear hG G41
    (try simp only [cl,Act.put])
    go_wp2_with fail
    go_roundg g2
    case measure=>omega
    case rel=>
     have AD:Gon L t (st t).2:=HST.out.1 t HK.out.2.2.2.2.2 HK.out.2.2.2.2.1
     refine ⟨_,_,_,_,HK.out.1,(ZX f).next _ _ HK.out.2.2.2.2.2 AD.toAdv,fun q=>?_,?_,?_,by simpa using G51.out⟩
     ·have:=AD.on q
      have:=HK.out.2.1
      have:=G51.out.P.lt
      omega
     ·have:=HK.out.2.2.1
      simp only [List.length_append,List.length_cons,List.length_nil]
      omega
     ·rw [List.map_append,HK.out.2.2.2.1];rfl
  ·skip
   have hr2:R=(l,t):=by
    rw [hr]
    cases gk with
    | zero=>rfl
    | succ g2=>rw [ZaP,if_neg he]
   have hk0:(t.err==0)=false:=by simp [he]
   have HQ:=zh (zi hr2 (zi hD hvl))
   clear hr hr2 hD hf hlen hvl he
   obtain ⟨c0,c1,c2,c3,c4⟩:=G40.out.P.cells
   have cf:=G40.out.P.frees
   go_upto_region 6 with fail
   clear c0 c1 c2 c3 c4 cf
   clear hk0
   obtain ⟨hr2,hD,hvl⟩:=HQ.out
   subst hr2
   subst hvl
   have HD:=zh (show 0<=PS.deep t/\PS.deep t<=100000 from ⟨hD.lo,by have:=hD.hi;omega⟩)
   clear hD
   have LO:=zh (show 0<=PS.deep t/\PS.deep t<=100000 from HD.out)
   have wd:IntKind.i64.wrap (PS.deep t-1)=PS.deep t-1:=IntWalk.i64_in _ (by have:=LO.out;omega)
   have DEC:=G40.out.P.deeper (PS.deep t-1)
   have G51:=zh (G40.out.call DEC.1 DEC.2)
   clear DEC
   obtain ⟨c0,c1,c2,c3,c4⟩:=G40.out.P.cells
   have cf:=G40.out.P.frees
   go_upto_region 7 with fail
   clear c0 c1 c2 c3 c4 cf
   clear wd LO G40
   generalize wr.setCell ⟨bp,2,none⟩ (.int .i64 (PS.deep t-1))=w51 at *
   obtain ⟨q0,q1,q2,q3,q4,q5⟩:=G51.out.cells
   dsimp only at q1 q2 q5
   have qf:=G51.out.free
   obtain ⟨z0,z1,z2,z3,z4,z5⟩:=G51.out.zeros HZ.out
   have zf:=G51.out.rfree HZ.out
   have so:=Zy
   go_wp2_with fail
   obtain ⟨r0,r1,r2,r3,r4,r5⟩:=ZaH (G51.out.R HZ.out) (.int .i64 7) (.slice xA xn xc) (.slice xB xm xd) (.slice none 0 0) (.int .i64 (Ze L s)) (.slice xC xq xe)
   obtain ⟨o1,o2,o3⟩:=G51.out.out HZ.out (.int .i64 7) (.slice xA xn xc) (.slice xB xm xd) (.slice none 0 0) (.int .i64 (Ze L s)) (.slice xC xq xe)
   exact bodyPost_ret (v:=.agg #[.int .i64 7,(.slice xA xn xc),(.slice xB xm xd),.slice none 0 0,.int .i64 (Ze L s),(.slice xC xq xe)]) (by simp [results,Tryz.results76,go_sem,so,r0,r1,r2,r3,r4,r5]) rfl ⟨((.slice xA xn xc),(.slice xB xm xd),(.slice xC xq xe)),rfl,o1,o2,o3⟩
end
section
open Go.RowKit
theorem ZiJ {L:List Tok} {g:Nat} {s:PS} (h:Dp L g s):Dp L 201 s:=⟨h.lt,fun e=>⟨(h.fuel e).1,by have:=h.lo;omega⟩,h.lo,h.hi⟩
abbrev ex7 (L:List Tok):PS->Tr×PS:=ZaO L (ZE L 201)
theorem ZgB {L:List Tok} (hE:ZW L) (g:Nat):Onw L (Dp L g) (ex7 L):=fun s hs=>ZgC hE (ZX 201) (Zb9 hE 201) s (ZiJ hs)
theorem Zot (w0:World) (bp:Nat) (vL:Value) (L:List Tok) (hE:ZW L) (g:Nat):ZbH 122 w0 bp vL L (Dp L g) (ex7 L):=fun w s h hs=>Zpe w0 bp vL L hE 201 w s h (ZiJ hs)
def Zcr (w0:World) (bp:Nat) (vL:Value) (L:List Tok) (f:Nat) (st:PS->Tr×PS):Prop:=ZbH 76 w0 bp vL L (fun s=>Dp L (f+1) s/\s.deep<=200) (Zag L st)
theorem ZkE {w0:World} {bp:Nat} {vL:Value} {L:List Tok} {f:Nat} {st:PS->Tr×PS} (hgo:Stm L f st) (hst:Zjq w0 bp vL L f st):Zcr w0 bp vL L f st:=fun w s h hd=>ZnP w0 w bp vL L s f st hgo hst h hd.1 hd.2
theorem ZrN (w0 w:World) (bp:Nat) (vL:Value) (L:List Tok) (s:PS) (f:Nat) (ex st:PS->Tr×PS) (hb:Zcr w0 bp vL L f st) (h:ParS w0 w bp vL L s) (hd:Dp L (f+1) s) (h200:s.deep<=200) :
  Calls Tryz.prog 50 #[.pointer (some ⟨bp,0,none⟩)] w (Zcz w0 bp vL L w (fnM L ex st s).1 (fnM L ex st s).2):=by
 obtain ⟨R,hR⟩:∃ R,R=ZT L (ZaC L) (L.length+1) true [] (Zf L [40] (Zb L (Zf L [102,110] s)).2):=⟨_,rfl⟩
 have hM:fnM L ex st s=(.mk 4 [(Zb L (Zf L [102,110] s)).1] [] (Ze L s) (R.1++[(Zag L st R.2).1]),(Zag L st R.2).2):=by rw [hR];rfl
 rw [hM]
 have D:=ZR (L:=L) (f+1)
 have g1:=Zq h.few.2.1 [102,110] h.lt
 have g2:=Zo h.few.2.1 (g1.lt h.lt)
 have g3:=Zq h.few.2.1 [40] (g2.lt (g1.lt h.lt))
 have HD:=zh (D.next _ _ ⟨hd,h200⟩ ((g1.toAdv.trans g2.toAdv).trans g3.toAdv))
 have HR:=zh hR
 have HB:=zh hb
 clear hM hR D g1 g2 g3 hd h200 hb
 obtain ⟨iS,hS,zS0,zS1,zS2⟩:=info_parts Zbd
 obtain ⟨iU,hU,zU0,zU1,zU2⟩:=info_parts Zbl
 obtain ⟨iN,hN,zN0,zN1,zN2⟩:=info_parts Za8
 have a0:=below_alloc1 w (.cells #[.int .i64 0,.slice none 0 0,.slice none 0 0,.slice none 0 0,.int .i64 0,.slice none 0 0] 58)
 have ha:=h.keep a0
 generalize hwa:w.alloc (.cells #[.int .i64 0,.slice none 0 0,.slice none 0 0,.slice none 0 0,.int .i64 0,.slice none 0 0] 58)=wa at *
 have RB:=zh (Zar w0 wa bp vL L s 4 ha)
 have H:=zh h
 have HZ:=zh h.size0
 clear a0 ha h
 go_enter Tryz.func50,Tryz.ntmps50
 go_upto_region 2 with (go_at_call 46;(with_reducible refine RB.out.mono ?_);rintro e w1 ⟨rfl,hb⟩;have B1:=zh hb;clear hb)
 have G2:=zh (Gn.start (k:=4) (p:=Ze L s) H.out hwa B1.out)
 clear hwa RB
 generalize w1.alloc (.cells #[.int .i64 4,.slice none 0 0,.slice none 0 0,.slice none 0 0,.int .i64 (Ze L s),.slice none 0 0] 58)=w2 at *
 clear B1
 generalize w1.heap.size=b at *
 have CT:=zh (Zad w0 w2 bp vL L s [102,110] G2.out.P)
 go_upto_region 3 with (go_at_call 71;(with_reducible refine CT.out.mono ?_);rintro e w3 ⟨rfl,hp,hf⟩;have G3:=zh (G2.out.call hp hf);clear hp hf)
 clear G2
 clear CT
 (try go_upto_region 3 with fail)
 refine Zbg 9 0 3 G3.out (by simp) (fun v5 A4 n4 c4 w4 hG=>?_)
 (try dsimp only at hG)
 have G4:=zh hG
 clear hG G3
 (try simp only [cl,Act.put])
 have CT:=zh (Zad w0 w4 bp vL L (Zb L (Zf L [102,110] s)).2 [40] G4.out.P)
 go_upto_region 5 with (go_at_call 71;(with_reducible refine CT.out.mono ?_);rintro e w5 ⟨rfl,hp,hf⟩;have G5:=zh (G4.out.call hp hf);clear hp hf)
 clear G4
 clear CT
 go_upto_region 6 with fail
 have FEW:=zh G5.out.P.few.1
 go_loopg [4] (L.length+1) (fun g vf wr=>∃ (l:List Tr) (t:PS) (x:NV) (vs:List (NV×Tr)) (first:Bool),vf=.bool first/\R=ZT L (ZaC L) g first l t/\(Dp L (f+1) t/\PS.deep t<=200)/\(t.err=0->L.length-t.at_<g)/\vs.length+g<=L.length+1/\vs.map (·.2)=l/\Gn w0 w wr bp b w.heap.size vL L t x 4 (Ze L s) [(Zb L (Zf L [102,110] s)).1] [] vs)
 case atStart=>exact ⟨[],_,_,[],true,rfl,HR.out,HD.out,fun _=>by omega,by simp,rfl,G5.out⟩
 case round=>
  obtain ⟨l,t,x,vs,first,rfl,hr,hD,hf,hlen,hvl,hG⟩:=hrel
  have SH:=hG.shape
  obtain ⟨xA,xn,xc,xB,xm,xd,xC,xq,xe,rfl⟩:=SH
  clear G5
  have G40:=zh hG
  have LB:=zh (show vs.length<=100004 by have:=FEW.out;omega)
  clear hG
  by_cases he:t.err=0
  ·skip
   obtain ⟨g2,rfl⟩:∃ g2,gk=g2+1:=⟨gk-1,by have:=hf he;omega⟩
   have hk0:(t.err==0)=true:=by simp [he]
   by_cases hc:isM L [41] t=true
   ·skip
    have hr2:R=(l,Zd t):=by rw [hr,ZT,if_pos he,if_pos hc]
    have CT:=zh (ZY (y:=[41]) G40.out.P hc)
    have AQ:=ZC G40.out.P.few.2.1 G40.out.P.lt hc
    have HQ:=zh (zi hr2 (zi ((ZR (f+1)).next _ _ hD (AQ.toAdv)) hvl))
    clear hr hr2 hD hf hlen hvl he hc AQ
    obtain ⟨c0,c1,c2,c3,c4⟩:=G40.out.P.cells
    have cf:=G40.out.P.frees
    go_upto_region 11 with (go_at_call 73;(with_reducible refine CT.out.mono ?_);rintro e w41 ⟨rfl,hp,hf⟩;have G41:=zh (G40.out.call hp hf);clear hp hf)
    clear c0 c1 c2 c3 c4 cf
    clear hk0 CT G40
    obtain ⟨hr2,hD,hvl⟩:=HQ.out
    subst hr2
    subst hvl
    have HDD:=zh hD
    clear hD
    (try go_upto_region 11 with fail)
    refine ZdV 42 0 3 G41.out (by have:=LB.out;(try simp only [List.length_append,List.length_cons,List.length_nil]);omega) (by intro _ _;go_simp) (fun wr hP=>HB.out wr _ hP HDD.out) (fun v5 A51 n51 c51 y51 w51 hG=>?_)
    (try dsimp only at hG)
    have G51:=zh hG
    clear hG G41
    (try simp only [cl,Act.put])
    (try go_upto_region 12 with fail)
    obtain ⟨q0,q1,q2,q3,q4,q5⟩:=G51.out.cells
    dsimp only at q1 q2 q5
    have qf:=G51.out.free
    obtain ⟨z0,z1,z2,z3,z4,z5⟩:=G51.out.zeros HZ.out
    have zf:=G51.out.rfree HZ.out
    have so:=Zy
    go_wp2_with fail
    obtain ⟨r0,r1,r2,r3,r4,r5⟩:=ZaH (G51.out.R HZ.out) (.int .i64 4) (.slice xA xn xc) (.slice xB xm xd) (.slice none 0 0) (.int .i64 (Ze L s)) (.slice A51 n51 c51)
    obtain ⟨o1,o2,o3⟩:=G51.out.out HZ.out (.int .i64 4) (.slice xA xn xc) (.slice xB xm xd) (.slice none 0 0) (.int .i64 (Ze L s)) (.slice A51 n51 c51)
    rw [List.map_append] at o2
    exact bodyPost_ret (v:=.agg #[.int .i64 4,(.slice xA xn xc),(.slice xB xm xd),.slice none 0 0,.int .i64 (Ze L s),(.slice A51 n51 c51)]) (by simp [results,Tryz.results50,go_sem,so,r0,r1,r2,r3,r4,r5]) rfl ⟨((.slice xA xn xc),(.slice xB xm xd),(.slice A51 n51 c51)),rfl,o1,o2,o3⟩
   ·skip
    have hc0:isM L [41] t=false:=by simpa using hc
    have CT:=zh (ZQ (y:=[41]) G40.out.P hc0)
    have HK0:=zh (zi hr (zi (hf he) (zi hlen (zi hvl (zi he (zi hD hc))))))
    clear hr hD hf hlen hvl hc hc0 he
    obtain ⟨c0,c1,c2,c3,c4⟩:=G40.out.P.cells
    have cf:=G40.out.P.frees
    go_upto_region 7 with (go_at_call 73;(with_reducible refine CT.out.mono ?_);rintro e w41 ⟨rfl,hp,hf⟩;have G41:=zh (G40.out.call hp hf);clear hp hf)
    clear c0 c1 c2 c3 c4 cf
    clear hk0 CT G40
    cases first with
    | true=>
     have hr2:R=ZT L (ZaC L) g2 false (l++[((ZaC L) t).1]) ((ZaC L) t).2:=by rw [HK0.out.1,ZT,if_pos HK0.out.2.2.2.2.1,if_neg HK0.out.2.2.2.2.2.2];rfl
     have AW:=Adv.refl (L:=L) t
     have HK:=zh (zi hr2 (zi HK0.out.2.1 (zi HK0.out.2.2.1 (zi HK0.out.2.2.2.1 (zi AW ((ZR (f+1)).next _ _ HK0.out.2.2.2.2.2.1 (AW)))))))
     clear hr2 AW HK0
     go_upto_region 10 with fail
     have GT:=zh G41.out
     (try go_upto_region 10 with fail)
     refine ZdV 35 0 3 G41.out (by have:=LB.out;(try simp only [List.length_append,List.length_cons,List.length_nil]);omega) (by intro _ _;go_simp) (fun wr hP=>Zjb w0 wr bp vL L t hP) (fun v5 A61 n61 c61 y61 w61 hG=>?_)
     (try dsimp only at hG)
     have G61:=zh hG
     clear hG G41
     (try simp only [cl,Act.put])
     go_wp2_with fail
     go_roundg g2
     case measure=>omega
     case rel=>
      have AD:Gon L t ((ZaC L) t).2:=HK.out.2.2.2.2.1.then_ (ZdK GT.out.P.few.2.1 GT.out.P.lt)
      refine ⟨_,_,_,_,false,rfl,HK.out.1,(ZR (f+1)).next _ _ HK.out.2.2.2.2.2 (ZdK GT.out.P.few.2.1 GT.out.P.lt).toAdv,fun q=>?_,?_,?_,G61.out⟩
      ·have:=AD.on q
       have:=HK.out.2.1
       have:PS.at_ ((ZaC L) t).2<L.length:=G61.out.P.lt
       omega
      ·have:=HK.out.2.2.1
       simp only [List.length_append,List.length_cons,List.length_nil]
       omega
      ·rw [List.map_append,HK.out.2.2.2.1];rfl
    | false=>
     have hr2:R=ZT L (ZaC L) g2 false (l++[((ZaC L) (Zf L [44] t)).1]) ((ZaC L) (Zf L [44] t)).2:=by rw [HK0.out.1,ZT,if_pos HK0.out.2.2.2.2.1,if_neg HK0.out.2.2.2.2.2.2];rfl
     have AW:=(Zq G41.out.P.few.2.1 [44] G41.out.P.lt).toAdv
     have HK:=zh (zi hr2 (zi HK0.out.2.1 (zi HK0.out.2.2.1 (zi HK0.out.2.2.2.1 (zi AW ((ZR (f+1)).next _ _ HK0.out.2.2.2.2.2.1 (AW)))))))
     clear hr2 AW HK0
     (try go_upto_region 8 with fail)
     have CT:=zh (Zad w0 w41 bp vL L t [44] G41.out.P)
     go_upto_region 10 with (go_at_call 71;(with_reducible refine CT.out.mono ?_);rintro e w61 ⟨rfl,hp,hf⟩;have G61:=zh (G41.out.call hp hf);clear hp hf)
     clear G41
     clear CT
     have GT:=zh G61.out
     (try go_upto_region 10 with fail)
     refine ZdV 35 0 3 G61.out (by have:=LB.out;(try simp only [List.length_append,List.length_cons,List.length_nil]);omega) (by intro _ _;go_simp) (fun wr hP=>Zjb w0 wr bp vL L (Zf L [44] t) hP) (fun v5 A62 n62 c62 y62 w62 hG=>?_)
     (try dsimp only at hG)
     have G62:=zh hG
     clear hG G61
     (try simp only [cl,Act.put])
     go_wp2_with fail
     go_roundg g2
     case measure=>omega
     case rel=>
      have AD:Gon L t ((ZaC L) (Zf L [44] t)).2:=HK.out.2.2.2.2.1.then_ (ZdK GT.out.P.few.2.1 GT.out.P.lt)
      refine ⟨_,_,_,_,false,rfl,HK.out.1,(ZR (f+1)).next _ _ HK.out.2.2.2.2.2 (ZdK GT.out.P.few.2.1 GT.out.P.lt).toAdv,fun q=>?_,?_,?_,G62.out⟩
      ·have:=AD.on q
       have:=HK.out.2.1
       have:PS.at_ ((ZaC L) (Zf L [44] t)).2<L.length:=G62.out.P.lt
       omega
      ·have:=HK.out.2.2.1
       simp only [List.length_append,List.length_cons,List.length_nil]
       omega
      ·rw [List.map_append,HK.out.2.2.2.1];rfl
  ·skip
   have hr2:R=(l,t):=by
    rw [hr]
    cases gk with
    | zero=>rfl
    | succ g2=>rw [ZT,if_neg he]
   have hk0:(t.err==0)=false:=by simp [he]
   have HQ:=zh (zi hr2 (zi hD hvl))
   clear hr hr2 hD hf hlen hvl he
   obtain ⟨c0,c1,c2,c3,c4⟩:=G40.out.P.cells
   have cf:=G40.out.P.frees
   go_upto_region 11 with fail
   clear c0 c1 c2 c3 c4 cf
   clear hk0
   obtain ⟨hr2,hD,hvl⟩:=HQ.out
   subst hr2
   subst hvl
   have HDD:=zh hD
   clear hD
   (try go_upto_region 11 with fail)
   refine ZdV 42 0 3 G40.out (by have:=LB.out;(try simp only [List.length_append,List.length_cons,List.length_nil]);omega) (by intro _ _;go_simp) (fun wr hP=>HB.out wr _ hP HDD.out) (fun v5 A51 n51 c51 y51 w51 hG=>?_)
   (try dsimp only at hG)
   have G51:=zh hG
   clear hG G40
   (try simp only [cl,Act.put])
   (try go_upto_region 12 with fail)
   obtain ⟨q0,q1,q2,q3,q4,q5⟩:=G51.out.cells
   dsimp only at q1 q2 q5
   have qf:=G51.out.free
   obtain ⟨z0,z1,z2,z3,z4,z5⟩:=G51.out.zeros HZ.out
   have zf:=G51.out.rfree HZ.out
   have so:=Zy
   go_wp2_with fail
   obtain ⟨r0,r1,r2,r3,r4,r5⟩:=ZaH (G51.out.R HZ.out) (.int .i64 4) (.slice xA xn xc) (.slice xB xm xd) (.slice none 0 0) (.int .i64 (Ze L s)) (.slice A51 n51 c51)
   obtain ⟨o1,o2,o3⟩:=G51.out.out HZ.out (.int .i64 4) (.slice xA xn xc) (.slice xB xm xd) (.slice none 0 0) (.int .i64 (Ze L s)) (.slice A51 n51 c51)
   rw [List.map_append] at o2
   exact bodyPost_ret (v:=.agg #[.int .i64 4,(.slice xA xn xc),(.slice xB xm xd),.slice none 0 0,.int .i64 (Ze L s),(.slice A51 n51 c51)]) (by simp [results,Tryz.results50,go_sem,so,r0,r1,r2,r3,r4,r5]) rfl ⟨((.slice xA xn xc),(.slice xB xm xd),(.slice A51 n51 c51)),rfl,o1,o2,o3⟩
end
end Go.Proofs.YtkongcicmajolaaGreatDoor
