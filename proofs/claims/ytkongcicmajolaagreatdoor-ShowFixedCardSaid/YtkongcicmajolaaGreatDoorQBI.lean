import Derived.Test.YtkongcicmajolaaGreatDoorQBH
set_option maxRecDepth 100000
set_option maxHeartbeats 8000000
namespace Go.Proofs.YtkongcicmajolaaGreatDoor
section
open Go.RowKit
def Zm7 (w0 w:World) (bp b r:Nat) (vL:Value) (L:List Tok) (s2:PS) (k p:Int) (ws:List Txt) (us:List Int) (ts:List Tr) (e:Ending) (w2:World):Prop:=e=.returned (.tuple #[])/\∃ (x2:NV) (vs2:List (NV×Tr)),Gn w0 w w2 bp b r vL L s2 x2 k p ws us vs2/\vs2.map (·.2)=ts
theorem Zpo (w0 w wi:World) (bp b r:Nat) (vL:Value) (L:List Tok) (s:PS) (x:NV) (k p:Int) (ws:List Txt) (us:List Int) (vs:List (NV×Tr)) (word:Txt) (which:Int) (hG:Gn w0 w wi bp b r vL L s x k p ws us vs) (hv:vs.length<=100004) (h1:isM L word s=false) :
  Calls Tryz.prog 99 #[.pointer (some ⟨bp,0,none⟩),txt word,.int .i64 which,.pointer (some ⟨b,0,none⟩)] wi (Zm7 w0 w bp b r vL L (ZB L word which s).2 k p ws us (vs.map (·.2)++(ZB L word which s).1)):=by
 have hM:ZB L word which s=([],s):=by unfold ZB;rw [h1];rfl
 rw [hM]
 clear hM
 have SH:=hG.shape
 obtain ⟨xA,xn,xc,xB,xm,xd,xC,xq,xe,rfl⟩:=SH
 have RB:=zh (Zar w0 wi bp vL L s 6 hG.P)
 have GO:=zh hG
 have HV:=zh hv
 clear hG hv
 go_enter Tryz.func99,Tryz.ntmps99
 go_upto_region 1 with (go_at_call 46;(with_reducible refine RB.out.mono ?_);rintro e w1 ⟨rfl,hb⟩;have B1:=zh hb;clear hb)
 have G2:=zh (Gn.side (k:=6) (p:=Ze L s) GO.out.P B1.out)
 have NE:=zh (show wi.heap.size<=w1.heap.size from B1.out.size)
 clear RB
 generalize w1.alloc (.cells #[.int .i64 6,.slice none 0 0,.slice none 0 0,.slice none 0 0,.int .i64 (Ze L s),.slice none 0 0] 58)=w2 at *
 clear B1
 generalize w1.heap.size=b2 at *
 have CT:=zh (ZQ (y:=word) G2.out.P h1)
 clear h1
 go_wp2_with (go_at_call 73;(with_reducible refine CT.out.mono ?_);rintro e w3 ⟨rfl,hp,hf⟩;have G3:=zh (G2.out.call hp hf);clear hp hf)
 go_end0
 exact ⟨rfl,_,_,GO.out.call G3.out.P G3.out.F,by simp⟩
theorem ZnV (w0 w wi:World) (bp b r:Nat) (vL:Value) (L:List Tok) (s:PS) (x:NV) (k p:Int) (ws:List Txt) (us:List Int) (vs:List (NV×Tr)) (word:Txt) (which:Int) (hG:Gn w0 w wi bp b r vL L s x k p ws us vs) (hv:vs.length<=100004) (h1:isM L word s=true) :
  Calls Tryz.prog 99 #[.pointer (some ⟨bp,0,none⟩),txt word,.int .i64 which,.pointer (some ⟨b,0,none⟩)] wi (Zm7 w0 w bp b r vL L (ZB L word which s).2 k p ws us (vs.map (·.2)++(ZB L word which s).1)):=by
 obtain ⟨R,hR⟩:∃ R,R=Zdg L L.length [(Zb L (Zd s)).1] (Zb L (Zd s)).2:=⟨_,rfl⟩
 have hM:ZB L word which s=([.mk 6 R.1 [which] (Ze L s) []],R.2):=by rw [hR];unfold ZB;rw [h1];rfl
 rw [hM]
 have HR:=zh hR
 clear hM hR
 obtain ⟨iS,hS,zS0,zS1,zS2⟩:=info_parts Zbd
 obtain ⟨iN,hN,zN0,zN1,zN2⟩:=info_parts Za8
 have SH:=hG.shape
 obtain ⟨xA,xn,xc,xB,xm,xd,xC,xq,xe,rfl⟩:=SH
 have RB:=zh (Zar w0 wi bp vL L s 6 hG.P)
 have GO:=zh hG
 have HV:=zh hv
 clear hG hv
 go_enter Tryz.func99,Tryz.ntmps99
 go_upto_region 1 with (go_at_call 46;(with_reducible refine RB.out.mono ?_);rintro e w1 ⟨rfl,hb⟩;have B1:=zh hb;clear hb)
 have G2:=zh (Gn.side (k:=6) (p:=Ze L s) GO.out.P B1.out)
 have NE:=zh (show wi.heap.size<=w1.heap.size from B1.out.size)
 clear RB
 generalize w1.alloc (.cells #[.int .i64 6,.slice none 0 0,.slice none 0 0,.slice none 0 0,.int .i64 (Ze L s),.slice none 0 0] 58)=w2 at *
 clear B1
 generalize w1.heap.size=b2 at *
 have CT:=zh (ZY (y:=word) G2.out.P h1)
 clear h1
 go_upto_region 2 with (go_at_call 73;(with_reducible refine CT.out.mono ?_);rintro e w3 ⟨rfl,hp,hf⟩;have G3:=zh (G2.out.call hp hf);clear hp hf)
 clear G2
 clear CT
 have GL:=zh (G3.out.listed (ys:=[which]) (by simp [maxLen]))
 have GB:=G3.out.below (below_alloc1 w3 (.cells #[.int .i64 which] 2))
 generalize hwl:w3.alloc (.cells #[.int .i64 which] 2)=w4 at *
 obtain ⟨q0,q1,q2,q3,q4,q5⟩:=GB.cells
 dsimp only at q1 q2 q5
 have qf:=GB.free
 clear GB
 go_upto_region 3 with fail
 clear q0 q1 q2 q3 q4 q5 qf
 have G5:=GL
 clear GL G3
 simp only [List.map_cons,List.map_nil,List.length_cons,List.length_nil,hwl] at G5
 generalize w4.setCell ⟨b2,2,none⟩ (.slice (some ⟨w3.heap.size,0,none⟩) 1 1)=w5 at *
 clear hwl
 (try go_upto_region 3 with fail)
 refine Zbg 19 0 8 G5.out (by simp) (fun v5 A6 n6 c6 w6 hG=>?_)
 (try dsimp only at hG)
 have G6:=zh hG
 clear hG G5
 (try simp only [cl,Act.put])
 go_upto_region 4 with fail
 have FEW:=zh G6.out.P.few.1
 go_loopg [] L.length (fun g wr=>∃ (l:List Txt) (t:PS) (y:NV),R=Zdg L g l t/\L.length-t.at_<=g/\l.length+g<=L.length+1/\Gn w0 wi wr bp b2 0 vL L t y 6 (Ze L s) l [which] [])
 case atStart=>exact ⟨_,_,_,HR.out,by omega,by simp only [List.length_cons,List.length_nil];omega,G6.out⟩
 case round=>
  obtain ⟨l,t,y,hr,hf,hlen,hG⟩:=hrel
  have SH:=hG.shape
  obtain ⟨yA,yn,yc,yB,ym,yd,yC,yq,ye,rfl⟩:=SH
  clear G6
  have G40:=zh hG
  have LB:=zh (show l.length<=200004 by have:=FEW.out;omega)
  clear hG
  by_cases hc:isM L [124] t=true
  ·skip
   have hlt:=ZqX G40.out.P hc
   obtain ⟨g2,rfl⟩:∃ g2,gk=g2+1:=⟨gk-1,by omega⟩
   have hr2:R=Zdg L g2 (l++[(Zb L (Zd t)).1]) (Zb L (Zd t)).2:=by rw [hr,Zdg,if_pos hc]
   have CT:=zh (ZY (y:=[124]) G40.out.P hc)
   have GA:=ZC G40.out.P.few.2.1 G40.out.P.lt hc
   have AD:=zh (GA.then_ (Zo G40.out.P.few.2.1 (GA.lt G40.out.P.lt)).toAdv)
   have HK:=zh (zi hr2 (zi hf hlen))
   clear hr hr2 hf hlen hlt hc GA
   go_upto_region 5 with (go_at_call 73;(with_reducible refine CT.out.mono ?_);rintro e w41 ⟨rfl,hp,hf⟩;have G41:=zh (G40.out.call hp hf);clear hp hf)
   clear CT
   have G41L:=zh G41.out.P.lt
   (try go_upto_region 5 with fail)
   refine Zbg 30 0 8 G41.out (by have:=LB.out;(try simp only [List.length_append,List.length_cons,List.length_nil]);omega) (fun v5 A51 n51 c51 w51 hG=>?_)
   (try dsimp only at hG)
   have G51:=zh hG
   clear hG G41
   (try simp only [cl,Act.put])
   go_wp2_with fail
   go_roundg g2
   case measure=>omega
   case rel=>
    refine ⟨_,_,_,HK.out.1,?_,?_,G51.out⟩
    ·by_cases q:(Zb L (Zd t)).2.err=0
     ·have:=AD.out.on q
      have:=HK.out.2.1
      omega
     ·have:=AD.out.le
      have:=HK.out.2.1
      have hlt2:t.at_<(Zb L (Zd t)).2.at_:=Nat.lt_of_lt_of_le (Nat.lt_succ_self _) (Zo G51.out.P.few.2.1 G41L.out).le
      omega
    ·have:=HK.out.2.2
     simp only [List.length_append,List.length_cons,List.length_nil]
     omega
  ·skip
   have hr2:R=(l,t):=by
    rw [hr]
    cases gk with
    | zero=>rfl
    | succ g2=>rw [Zdg,if_neg hc]
   have CT:=zh (ZQ (y:=[124]) G40.out.P (by simpa using hc))
   subst hr2
   clear hr hf hlen hc
   go_upto_region 6 with (go_at_call 73;(with_reducible refine CT.out.mono ?_);rintro e w41 ⟨rfl,hp,hf⟩;have G41:=zh (G40.out.call hp hf);clear hp hf)
   clear CT G40
   have GO2:=zh (GO.out.call G41.out.P G41.out.F)
   (try go_upto_region 6 with fail)
   have GZ:=GO2.out.drew
   have KZ:=G41.out.drew
   have KC:=zh (zi KZ.cells (zi KZ.K.lt (show Value.ownBlock (.slice xC xq xe)≠some b2 from fun e=>by have:=GO.out.V.lt _ e;have:=NE.out;omega)))
   have G61:=zh (zi GZ KZ.tree)
   clear GZ KZ
   have LQ63:=zh (show xq=List.length (vs:List (NV×Tr)) from GO2.out.klen)
   have i063:(0:Int)<=((xq:Nat):Int):=by omega
   have i163:((xq:Nat):Int)<((xq:Nat):Int)+1:=by omega
   (try go_upto_region 6 with fail)
   refine wp_region_noPanic ?_
   refine Zai [9,12] (fun V=>V.cell? ⟨b,5,none⟩=some (.slice xC xq xe)/\V.cell? ⟨b2,0,none⟩=some (.int .i64 6)/\V.cell? ⟨b2,1,none⟩=some (.slice yA yn yc)/\V.cell? ⟨b2,2,none⟩=some (.slice yB ym yd)/\V.cell? ⟨b2,3,none⟩=some (.slice none 0 0)/\V.cell? ⟨b2,4,none⟩=some (.int .i64 (Ze L s))/\V.cell? ⟨b2,5,none⟩=some (.slice yC yq ye)) (by kernel_rfl) (zi G61.out.1.cells.2.2.2.2.2 KC.out.1) (fun hH=>?_)
   refine lp 0 rfl ?_
   refine lp 1 rfl ?_
   refine lp 2 rfl ?_
   refine lk 3 rfl ?_
   (try simp only [cl,Act.put])
   refine lk 4 rfl ?_
   (try simp only [cl,Act.put])
   refine lp 5 rfl ?_
   (try simp only [cl,Act.put])
   refine ln 6 rfl fun K hK=>?_
   go_simp
   have G62:=zh (zi (G61.out.1.below (below_alloc1 w41.drew (.cells #[.int .i64 0,.slice none 0 0,.slice none 0 0,.slice none 0 0,.int .i64 0,.slice none 0 0] 58))) (G61.out.2.keep (below_alloc1 w41.drew (.cells #[.int .i64 0,.slice none 0 0,.slice none 0 0,.slice none 0 0,.int .i64 0,.slice none 0 0] 58))))
   have KB62:=zh ((G41.out.drew.below (below_alloc1 w41.drew (.cells #[.int .i64 0,.slice none 0 0,.slice none 0 0,.slice none 0 0,.int .i64 0,.slice none 0 0] 58))).cells)
   have KL62:=zh ((G41.out.drew.below (below_alloc1 w41.drew (.cells #[.int .i64 0,.slice none 0 0,.slice none 0 0,.slice none 0 0,.int .i64 0,.slice none 0 0] 58))).K.lt)
   refine hK.out _ _ (zi G62.out.1.cells.2.2.2.2.2 KB62.out) (fun hH2=>?_)
   clear hK K hH;have hH:=hH2;clear hH2
   (try simp only [cl,Act.put])
   refine ln 7 rfl fun K hK=>?_
   refine ZaF _ rfl _ _ 56 rfl w.heap.size 58 iN (.agg Zbj) 6 112 Tryz.underlying56 hN zN0 zN1 zN2 rfl (by decide) (.slice xC xq xe) xq _ rfl (G62.out.1.V2 LQ63.out) (w41.heap.size+1) (some ⟨w41.heap.size,0,none⟩) 1 1 (Zbj.toList) rfl (Zd5 _ _ _ _ _ _ _ _) (Zea _ _ _ _ _ _ _ _ _ _ _ _ _ _) (by have:=LQ63.out;have:=HV.out;unfold maxLen;omega) (by have:=LQ63.out;have:=HV.out;omega) G62.out.1.F.size ?_
   intro vq w63 hown hgrow hor
   have OS:=Zd6 hown
   obtain ⟨g63,c63,rfl,_⟩:=OS
   have G63:=zh (G62.out.1.zeroed (y:=(((.slice yA yn yc),(.slice yB ym yd),(.slice yC yq ye)),(.mk 6 l [which] (Ze L s) []))) LQ63.out G62.out.2 (fun c hc=>GO.out.apart hc.1) hown hgrow hor)
   have GB63:=zh (G62.out.1.gne hor rfl)
   have KF63:=zh ((G62.out.1.K.grown hgrow G62.out.1.N.1).blk.free 5)
   clear hown hgrow hor
   have KK63:=zh (fun j=>G63.out.2.2.2.1 b2 KL62.out KC.out.2.2 j)
   refine hK.out _ _ (zi G63.out.1 (by have q:=KB62.out;have e:=fun j=>(KK63.out j).2;exact ⟨(e 0).trans q.1,(e 1).trans q.2.1,(e 2).trans q.2.2.1,(e 3).trans q.2.2.2.1,(e 4).trans q.2.2.2.2.1,(e 5).trans q.2.2.2.2.2⟩)) (fun hH2=>?_)
   clear hK K hH;have hH:=hH2;clear hH2
   (try simp only [cl,Act.put])
   refine lp 8 rfl ?_
   refine lp 10 rfl ?_
   refine lp 11 rfl ?_
   (try simp only [cl,Act.put])
   have so:=Zy
   obtain ⟨e0,e1,e2,e3,e4,e5⟩:=G63.out.2.1
   have ef:=G63.out.2.2.1
   have k1:=G63.out.2.2.2.2.1
   have k2:=G63.out.2.2.2.2.2.1
   have k3:=G63.out.1
   have k4:=KF63.out
   (try dsimp only [Tr.kd,Tr.ps] at k1 k2 k3)
   have cf:=fun j=>(World.cell?_setCell_other w63 ⟨b,5,none⟩ ⟨g63,j,none⟩ (.slice (some ⟨g63,0,none⟩) (xq+1) c63) (fun e=>GB63.out (congrArg Addr.block e).symm))
   have d0:=(cf _).trans e0
   have d1:=(cf _).trans e1
   have d2:=(cf _).trans e2
   have d3:=(cf _).trans e3
   have d4:=(cf _).trans e4
   have d5:=(cf _).trans e5
   have E6:=zh (Zd8 w63 g63 xq b (.slice (some ⟨g63,0,none⟩) (xq+1) c63) (.int .i64 6) (.slice yA yn yc) (.slice yB ym yd) (.slice none 0 0) (.int .i64 (Ze L s)) (.slice yC yq ye) GB63.out)
   clear cf
   refine Zgn (a1:=?a1_63) (a2:=?a2_63) (b1:=?b1_63) (w1:=?w1_63) (w2:=?w2_63) (v1:=?v1_63) 9 12 rfl rfl (by kernel_rfl) (by kernel_rfl) (by kernel_rfl) (by kernel_rfl) rfl ?s1_63 ?s2_63 ?t1_63 ?t2_63 ?h_63
   case s1_63=>intro K hK;go_simp;exact hK
   case s2_63=>intro K hK;go_simp;exact hK
   case t1_63=>intro K hK;go_simp;exact hK
   case t2_63=>intro K hK;go_simp;rw [<- E6.out] at hK;exact hK
   clear so e0 e1 e2 e3 e4 e5 ef k1 k2 k3 k4 d0 d1 d2 d3 d4 d5 E6 hH
   refine ZaG (by kernel_rfl) ?_ _
   refine NoPanic.normal ?_
   have G64:=zh G63.out.2.2.2.2.2.2
   (try dsimp only [Tr.kd,Tr.ps] at G64)
   clear GO2 G61 G62 G63 LQ63 i063 i163 GB63 KF63 KC KB62 KL62 KK63 G41
   generalize ((((((w63.setCell ⟨g63,xq*6,none⟩ (.int .i64 6)).setCell ⟨g63,xq*6+1,none⟩ (.slice yA yn yc)).setCell ⟨g63,xq*6+2,none⟩ (.slice yB ym yd)).setCell ⟨g63,xq*6+3,none⟩ (.slice none 0 0)).setCell ⟨g63,xq*6+4,none⟩ (.int .i64 (Ze L s))).setCell ⟨g63,xq*6+5,none⟩ (.slice yC yq ye)).setCell ⟨b,5,none⟩ (.slice (some ⟨g63,0,none⟩) (xq+1) c63)=w64 at *
   go_wp2_with fail
   go_end0
   exact ⟨rfl,_,_,G64.out,by rw [List.map_append];rfl⟩
theorem ZdL (w0 w wi:World) (bp b r:Nat) (vL:Value) (L:List Tok) (s:PS) (x:NV) (k p:Int) (ws:List Txt) (us:List Int) (vs:List (NV×Tr)) (word:Txt) (which:Int) (hG:Gn w0 w wi bp b r vL L s x k p ws us vs) (hv:vs.length<=100004) :
  Calls Tryz.prog 99 #[.pointer (some ⟨bp,0,none⟩),txt word,.int .i64 which,.pointer (some ⟨b,0,none⟩)] wi (Zm7 w0 w bp b r vL L (ZB L word which s).2 k p ws us (vs.map (·.2)++(ZB L word which s).1)):=by
 cases h1:isM L word s with
 | true=>exact ZnV w0 w wi bp b r vL L s x k p ws us vs word which hG hv h1
 | false=>exact Zpo w0 w wi bp b r vL L s x k p ws us vs word which hG hv h1
end
section
open Go.RowKit
theorem Zi6 (w:World) (u0 u1:Value) (ty:TypeId):ZM (w.alloc (.cells #[u0,u1] ty)) (w.heap.size+1) 1 (some ⟨w.heap.size,0,none⟩) 2 [u0,u1]:=
 ⟨rfl,fun _=>⟨_,rfl,Nat.lt_succ_self _,fun j v hj=>Zgk w #[u0,u1] ty j v (by simpa using hj)⟩⟩
theorem Zl1 (w0 w:World) (bp:Nat) (vL:Value) (L:List Tok) (s:PS) (h:ParS w0 w bp vL L s) (h1:isM L [58] (Zb L s).2=false) :
  Calls Tryz.prog 75 #[.pointer (some ⟨bp,0,none⟩)] w (Zcz w0 bp vL L w (ZaC L s).1 (ZaC L s).2):=by
 have hM:ZaC L s=(.mk 5 [(Zb L s).1] [] (Ze L s) [],(Zb L s).2):=by unfold ZaC;simp only [h1,Bool.false_eq_true,if_false]
 rw [hM]
 clear hM
 obtain ⟨iS,hS,zS0,zS1,zS2⟩:=info_parts Zbd
 obtain ⟨iU,hU,zU0,zU1,zU2⟩:=info_parts Zbl
 obtain ⟨iN,hN,zN0,zN1,zN2⟩:=info_parts Za8
 have a0:=below_alloc1 w (.cells #[.int .i64 0,.slice none 0 0,.slice none 0 0,.slice none 0 0,.int .i64 0,.slice none 0 0] 58)
 have ha:=h.keep a0
 generalize hwa:w.alloc (.cells #[.int .i64 0,.slice none 0 0,.slice none 0 0,.slice none 0 0,.int .i64 0,.slice none 0 0] 58)=wa at *
 have RB:=zh (Zar w0 wa bp vL L s 5 ha)
 have H:=zh h
 have HZ:=zh h.size0
 clear a0 ha h
 go_enter Tryz.func75,Tryz.ntmps75
 go_upto_region 2 with (go_at_call 46;(with_reducible refine RB.out.mono ?_);rintro e w1 ⟨rfl,hb⟩;have B1:=zh hb;clear hb)
 have G2:=zh (Gn.start (k:=5) (p:=Ze L s) H.out hwa B1.out)
 clear hwa RB
 generalize w1.alloc (.cells #[.int .i64 5,.slice none 0 0,.slice none 0 0,.slice none 0 0,.int .i64 (Ze L s),.slice none 0 0] 58)=w2 at *
 clear B1
 generalize w1.heap.size=b at *
 (try go_upto_region 2 with fail)
 refine Zbg 6 0 3 G2.out (by simp) (fun v5 A3 n3 c3 w3 hG=>?_)
 (try dsimp only at hG)
 have G3:=zh hG
 clear hG G2
 (try simp only [cl,Act.put])
 have CT:=zh (ZQ (y:=[58]) G3.out.P h1)
 go_upto_region 4 with (go_at_call 73;(with_reducible refine CT.out.mono ?_);rintro e w4 ⟨rfl,hp,hf⟩;have G4:=zh (G3.out.call hp hf);clear hp hf)
 clear G3
 clear CT
 obtain ⟨q0,q1,q2,q3,q4,q5⟩:=G4.out.cells
 dsimp only at q1 q2 q5
 have qf:=G4.out.free
 obtain ⟨z0,z1,z2,z3,z4,z5⟩:=G4.out.zeros HZ.out
 have zf:=G4.out.rfree HZ.out
 have so:=Zy
 go_wp2_with fail
 obtain ⟨r0,r1,r2,r3,r4,r5⟩:=ZaH (G4.out.R HZ.out) (.int .i64 5) (.slice A3 n3 c3) (.slice none 0 0) (.slice none 0 0) (.int .i64 (Ze L s)) (.slice none 0 0)
 obtain ⟨o1,o2,o3⟩:=G4.out.out HZ.out (.int .i64 5) (.slice A3 n3 c3) (.slice none 0 0) (.slice none 0 0) (.int .i64 (Ze L s)) (.slice none 0 0)
 exact bodyPost_ret (v:=.agg #[.int .i64 5,(.slice A3 n3 c3),(.slice none 0 0),.slice none 0 0,.int .i64 (Ze L s),(.slice none 0 0)]) (by simp [results,Tryz.results75,go_sem,so,r0,r1,r2,r3,r4,r5]) rfl ⟨((.slice A3 n3 c3),(.slice none 0 0),(.slice none 0 0)),rfl,o1,o2,o3⟩
theorem Zd2 (L:List Tok) (w:Txt) (i:Int) (s:PS):(ZB L w i s).1.length<=1:=by
 unfold ZB
 by_cases h:isM L w s=true
 ·rw [if_pos h];exact Nat.le_refl _
 ·rw [if_neg h];exact Nat.zero_le _
theorem Zlj (w0 w:World) (bp:Nat) (vL:Value) (L:List Tok) (s:PS) (h:ParS w0 w bp vL L s) (h1:isM L [58] (Zb L s).2=true) (h2:isM L [108,101,97,115,116] (ZD L (Zr 0) (Zb L (Zd (Zb L s).2)).2).2=true) :
  Calls Tryz.prog 75 #[.pointer (some ⟨bp,0,none⟩)] w (Zcz w0 bp vL L w (ZaC L s).1 (ZaC L s).2):=by
 have hM:ZaC L s=(.mk 5 [(Zb L s).1,(Zb L (Zd (Zb L s).2)).1] ((ZD L (Zr 0) (Zb L (Zd (Zb L s).2)).2).1::[(Zao L 1 (Zd (ZD L (Zr 0) (Zb L (Zd (Zb L s).2)).2).2)).1,(Zao L 1 (Zf L [47] (Zao L 1 (Zd (ZD L (Zr 0) (Zb L (Zd (Zb L s).2)).2).2)).2)).1]) (Ze L s) ([]++(ZB L [97,116] 0 (Zao L 1 (Zf L [47] (Zao L 1 (Zd (ZD L (Zr 0) (Zb L (Zd (Zb L s).2)).2).2)).2)).2).1++(ZB L [116,111] 1 (ZB L [97,116] 0 (Zao L 1 (Zf L [47] (Zao L 1 (Zd (ZD L (Zr 0) (Zb L (Zd (Zb L s).2)).2).2)).2)).2).2).1++(ZB L [105,110] 2 (ZB L [116,111] 1 (ZB L [97,116] 0 (Zao L 1 (Zf L [47] (Zao L 1 (Zd (ZD L (Zr 0) (Zb L (Zd (Zb L s).2)).2).2)).2)).2).2).2).1),(ZB L [105,110] 2 (ZB L [116,111] 1 (ZB L [97,116] 0 (Zao L 1 (Zf L [47] (Zao L 1 (Zd (ZD L (Zr 0) (Zb L (Zd (Zb L s).2)).2).2)).2)).2).2).2).2):=by unfold ZaC;first | (simp only [h1,h2,if_true,List.nil_append];done) | simp only [h1,h2,if_true,Bool.false_eq_true,if_false,List.nil_append]
 rw [hM]
 clear hM
 obtain ⟨iS,hS,zS0,zS1,zS2⟩:=info_parts Zbd
 obtain ⟨iU,hU,zU0,zU1,zU2⟩:=info_parts Zbl
 obtain ⟨iN,hN,zN0,zN1,zN2⟩:=info_parts Za8
 have a0:=below_alloc1 w (.cells #[.int .i64 0,.slice none 0 0,.slice none 0 0,.slice none 0 0,.int .i64 0,.slice none 0 0] 58)
 have ha:=h.keep a0
 generalize hwa:w.alloc (.cells #[.int .i64 0,.slice none 0 0,.slice none 0 0,.slice none 0 0,.int .i64 0,.slice none 0 0] 58)=wa at *
 have RB:=zh (Zar w0 wa bp vL L s 5 ha)
 have H:=zh h
 have HZ:=zh h.size0
 clear a0 ha h
 go_enter Tryz.func75,Tryz.ntmps75
 go_upto_region 2 with (go_at_call 46;(with_reducible refine RB.out.mono ?_);rintro e w1 ⟨rfl,hb⟩;have B1:=zh hb;clear hb)
 have G2:=zh (Gn.start (k:=5) (p:=Ze L s) H.out hwa B1.out)
 clear hwa RB
 generalize w1.alloc (.cells #[.int .i64 5,.slice none 0 0,.slice none 0 0,.slice none 0 0,.int .i64 (Ze L s),.slice none 0 0] 58)=w2 at *
 clear B1
 generalize w1.heap.size=b at *
 (try go_upto_region 2 with fail)
 refine Zbg 6 0 3 G2.out (by simp) (fun v5 A3 n3 c3 w3 hG=>?_)
 (try dsimp only at hG)
 have G3:=zh hG
 clear hG G2
 (try simp only [cl,Act.put])
 have CT:=zh (ZY (y:=[58]) G3.out.P h1)
 go_upto_region 5 with (go_at_call 73;(with_reducible refine CT.out.mono ?_);rintro e w4 ⟨rfl,hp,hf⟩;have G4:=zh (G3.out.call hp hf);clear hp hf)
 clear G3
 clear CT
 (try go_upto_region 5 with fail)
 refine Zbg 19 0 3 G4.out (by simp) (fun v5 A5 n5 c5 w5 hG=>?_)
 (try dsimp only at hG)
 have G5:=zh hG
 clear hG G4
 (try simp only [cl,Act.put])
 (try go_upto_region 6 with fail)
 refine ZeP 28 0 3 G5.out (by simp) (by intro _ _;go_simp) (fun wr hP=>Zha w0 wr bp vL L (Zb L (Zd (Zb L s).2)).2 0 (by omega) hP) (fun v5 A6 n6 c6 w6 hG=>?_)
 (try dsimp only at hG)
 have G6:=zh hG
 clear hG G5
 (try simp only [cl,Act.put])
 (try go_upto_region 7 with fail)
 have CT:=zh (ZY (y:=[108,101,97,115,116]) G6.out.P h2)
 go_upto_region 8 with (go_at_call 73;(with_reducible refine CT.out.mono ?_);rintro e w7 ⟨rfl,hp,hf⟩;have G7:=zh (G6.out.call hp hf);clear hp hf)
 clear G6
 clear CT
 (try go_upto_region 8 with fail)
 refine ZeP 39 0 3 G7.out (by simp) (by intro _ _;go_simp) (fun wr hP=>Zfs w0 wr bp vL L (Zd (ZD L (Zr 0) (Zb L (Zd (Zb L s).2)).2).2) 1 hP) (fun v5 A8 n8 c8 w8 hG=>?_)
 (try dsimp only at hG)
 have G8:=zh hG
 clear hG G7
 (try simp only [cl,Act.put])
 (try go_upto_region 9 with fail)
 have CT:=zh (Zad w0 w8 bp vL L (Zao L 1 (Zd (ZD L (Zr 0) (Zb L (Zd (Zb L s).2)).2).2)).2 [47] G8.out.P)
 go_upto_region 10 with (go_at_call 71;(with_reducible refine CT.out.mono ?_);rintro e w9 ⟨rfl,hp,hf⟩;have G9:=zh (G8.out.call hp hf);clear hp hf)
 clear G8
 clear CT
 (try go_upto_region 10 with fail)
 refine ZeP 50 0 3 G9.out (by simp) (by intro _ _;go_simp) (fun wr hP=>Zfs w0 wr bp vL L (Zf L [47] (Zao L 1 (Zd (ZD L (Zr 0) (Zb L (Zd (Zb L s).2)).2).2)).2) 1 hP) (fun v5 A10 n10 c10 w10 hG=>?_)
 (try dsimp only at hG)
 have G10:=zh hG
 clear hG G9
 (try simp only [cl,Act.put])
 (try go_upto_region 12 with fail)
 have NM:=zh (ZdL w0 w w10 bp b w.heap.size vL L (Zao L 1 (Zf L [47] (Zao L 1 (Zd (ZD L (Zr 0) (Zb L (Zd (Zb L s).2)).2).2)).2)).2 ((.slice A5 n5 c5),(.slice A10 n10 c10),(.slice none 0 0)) 5 (Ze L s) [(Zb L s).1,(Zb L (Zd (Zb L s).2)).1] [(ZD L (Zr 0) (Zb L (Zd (Zb L s).2)).2).1,(Zao L 1 (Zd (ZD L (Zr 0) (Zb L (Zd (Zb L s).2)).2).2)).1,(Zao L 1 (Zf L [47] (Zao L 1 (Zd (ZD L (Zr 0) (Zb L (Zd (Zb L s).2)).2).2)).2)).1] [] [97,116] 0 G10.out (by simp))
 go_upto_region 13 with (go_at_call 99;(refine NM.out.mono ?_);rintro e w11 ⟨rfl,xn,v11,hG,hv⟩;have SH:=hG.shape;obtain ⟨X11,x11,y11,Y11,i11,j11,Z11,k11,l11,rfl⟩:=SH;have G11:=zh hG;have V11:=zh hv;clear hG hv)
 clear NM G10
 have NM:=zh (ZdL w0 w w11 bp b w.heap.size vL L (ZB L [97,116] 0 (Zao L 1 (Zf L [47] (Zao L 1 (Zd (ZD L (Zr 0) (Zb L (Zd (Zb L s).2)).2).2)).2)).2).2 ((.slice X11 x11 y11),(.slice Y11 i11 j11),(.slice Z11 k11 l11)) 5 (Ze L s) [(Zb L s).1,(Zb L (Zd (Zb L s).2)).1] [(ZD L (Zr 0) (Zb L (Zd (Zb L s).2)).2).1,(Zao L 1 (Zd (ZD L (Zr 0) (Zb L (Zd (Zb L s).2)).2).2)).1,(Zao L 1 (Zf L [47] (Zao L 1 (Zd (ZD L (Zr 0) (Zb L (Zd (Zb L s).2)).2).2)).2)).1] v11 [116,111] 1 G11.out (by have:=congrArg List.length V11.out;have:=Zd2 L [97,116] 0 (Zao L 1 (Zf L [47] (Zao L 1 (Zd (ZD L (Zr 0) (Zb L (Zd (Zb L s).2)).2).2)).2)).2;simp only [List.length_map,List.length_append,List.map_nil,List.length_nil] at *;omega))
 go_upto_region 14 with (go_at_call 99;(refine NM.out.mono ?_);rintro e w12 ⟨rfl,xn,v12,hG,hv⟩;have SH:=hG.shape;obtain ⟨X12,x12,y12,Y12,i12,j12,Z12,k12,l12,rfl⟩:=SH;have G12:=zh hG;have V12:=zh hv;clear hG hv)
 clear NM G11
 have NM:=zh (ZdL w0 w w12 bp b w.heap.size vL L (ZB L [116,111] 1 (ZB L [97,116] 0 (Zao L 1 (Zf L [47] (Zao L 1 (Zd (ZD L (Zr 0) (Zb L (Zd (Zb L s).2)).2).2)).2)).2).2).2 ((.slice X12 x12 y12),(.slice Y12 i12 j12),(.slice Z12 k12 l12)) 5 (Ze L s) [(Zb L s).1,(Zb L (Zd (Zb L s).2)).1] [(ZD L (Zr 0) (Zb L (Zd (Zb L s).2)).2).1,(Zao L 1 (Zd (ZD L (Zr 0) (Zb L (Zd (Zb L s).2)).2).2)).1,(Zao L 1 (Zf L [47] (Zao L 1 (Zd (ZD L (Zr 0) (Zb L (Zd (Zb L s).2)).2).2)).2)).1] v12 [105,110] 2 G12.out (by have:=congrArg List.length V11.out;have:=congrArg List.length V12.out;have:=Zd2 L [97,116] 0 (Zao L 1 (Zf L [47] (Zao L 1 (Zd (ZD L (Zr 0) (Zb L (Zd (Zb L s).2)).2).2)).2)).2;have:=Zd2 L [116,111] 1 (ZB L [97,116] 0 (Zao L 1 (Zf L [47] (Zao L 1 (Zd (ZD L (Zr 0) (Zb L (Zd (Zb L s).2)).2).2)).2)).2).2;simp only [List.length_map,List.length_append,List.map_nil,List.length_nil] at *;omega))
 go_upto_region 15 with (go_at_call 99;(refine NM.out.mono ?_);rintro e w13 ⟨rfl,xn,v13,hG,hv⟩;have SH:=hG.shape;obtain ⟨X13,x13,y13,Y13,i13,j13,Z13,k13,l13,rfl⟩:=SH;have G13:=zh hG;have V13:=zh hv;clear hG hv)
 clear NM G12
 obtain ⟨q0,q1,q2,q3,q4,q5⟩:=G13.out.cells
 dsimp only at q1 q2 q5
 have qf:=G13.out.free
 obtain ⟨z0,z1,z2,z3,z4,z5⟩:=G13.out.zeros HZ.out
 have zf:=G13.out.rfree HZ.out
 have so:=Zy
 go_wp2_with fail
 obtain ⟨r0,r1,r2,r3,r4,r5⟩:=ZaH (G13.out.R HZ.out) (.int .i64 5) (.slice X13 x13 y13) (.slice Y13 i13 j13) (.slice none 0 0) (.int .i64 (Ze L s)) (.slice Z13 k13 l13)
 obtain ⟨o1,o2,o3⟩:=G13.out.out HZ.out (.int .i64 5) (.slice X13 x13 y13) (.slice Y13 i13 j13) (.slice none 0 0) (.int .i64 (Ze L s)) (.slice Z13 k13 l13)
 rw [V13.out,V12.out,V11.out] at o2
 exact bodyPost_ret (v:=.agg #[.int .i64 5,(.slice X13 x13 y13),(.slice Y13 i13 j13),.slice none 0 0,.int .i64 (Ze L s),(.slice Z13 k13 l13)]) (by simp [results,Tryz.results75,go_sem,so,r0,r1,r2,r3,r4,r5]) rfl ⟨((.slice X13 x13 y13),(.slice Y13 i13 j13),(.slice Z13 k13 l13)),rfl,o1,o2,o3⟩
theorem Zlk (w0 w:World) (bp:Nat) (vL:Value) (L:List Tok) (s:PS) (h:ParS w0 w bp vL L s) (h1:isM L [58] (Zb L s).2=true) (h2:isM L [108,101,97,115,116] (ZD L (Zr 0) (Zb L (Zd (Zb L s).2)).2).2=false) :
  Calls Tryz.prog 75 #[.pointer (some ⟨bp,0,none⟩)] w (Zcz w0 bp vL L w (ZaC L s).1 (ZaC L s).2):=by
 have hM:ZaC L s=(.mk 5 [(Zb L s).1,(Zb L (Zd (Zb L s).2)).1] ((ZD L (Zr 0) (Zb L (Zd (Zb L s).2)).2).1::[0,0]) (Ze L s) ([]++(ZB L [97,116] 0 (ZD L (Zr 0) (Zb L (Zd (Zb L s).2)).2).2).1++(ZB L [116,111] 1 (ZB L [97,116] 0 (ZD L (Zr 0) (Zb L (Zd (Zb L s).2)).2).2).2).1++(ZB L [105,110] 2 (ZB L [116,111] 1 (ZB L [97,116] 0 (ZD L (Zr 0) (Zb L (Zd (Zb L s).2)).2).2).2).2).1),(ZB L [105,110] 2 (ZB L [116,111] 1 (ZB L [97,116] 0 (ZD L (Zr 0) (Zb L (Zd (Zb L s).2)).2).2).2).2).2):=by unfold ZaC;first | (simp only [h1,h2,if_true,List.nil_append];done) | simp only [h1,h2,if_true,Bool.false_eq_true,if_false,List.nil_append]
 rw [hM]
 clear hM
 obtain ⟨iS,hS,zS0,zS1,zS2⟩:=info_parts Zbd
 obtain ⟨iU,hU,zU0,zU1,zU2⟩:=info_parts Zbl
 obtain ⟨iN,hN,zN0,zN1,zN2⟩:=info_parts Za8
 have a0:=below_alloc1 w (.cells #[.int .i64 0,.slice none 0 0,.slice none 0 0,.slice none 0 0,.int .i64 0,.slice none 0 0] 58)
 have ha:=h.keep a0
 generalize hwa:w.alloc (.cells #[.int .i64 0,.slice none 0 0,.slice none 0 0,.slice none 0 0,.int .i64 0,.slice none 0 0] 58)=wa at *
 have RB:=zh (Zar w0 wa bp vL L s 5 ha)
 have H:=zh h
 have HZ:=zh h.size0
 clear a0 ha h
 go_enter Tryz.func75,Tryz.ntmps75
 go_upto_region 2 with (go_at_call 46;(with_reducible refine RB.out.mono ?_);rintro e w1 ⟨rfl,hb⟩;have B1:=zh hb;clear hb)
 have G2:=zh (Gn.start (k:=5) (p:=Ze L s) H.out hwa B1.out)
 clear hwa RB
 generalize w1.alloc (.cells #[.int .i64 5,.slice none 0 0,.slice none 0 0,.slice none 0 0,.int .i64 (Ze L s),.slice none 0 0] 58)=w2 at *
 clear B1
 generalize w1.heap.size=b at *
 (try go_upto_region 2 with fail)
 refine Zbg 6 0 3 G2.out (by simp) (fun v5 A3 n3 c3 w3 hG=>?_)
 (try dsimp only at hG)
 have G3:=zh hG
 clear hG G2
 (try simp only [cl,Act.put])
 have CT:=zh (ZY (y:=[58]) G3.out.P h1)
 go_upto_region 5 with (go_at_call 73;(with_reducible refine CT.out.mono ?_);rintro e w4 ⟨rfl,hp,hf⟩;have G4:=zh (G3.out.call hp hf);clear hp hf)
 clear G3
 clear CT
 (try go_upto_region 5 with fail)
 refine Zbg 19 0 3 G4.out (by simp) (fun v5 A5 n5 c5 w5 hG=>?_)
 (try dsimp only at hG)
 have G5:=zh hG
 clear hG G4
 (try simp only [cl,Act.put])
 (try go_upto_region 6 with fail)
 refine ZeP 28 0 3 G5.out (by simp) (by intro _ _;go_simp) (fun wr hP=>Zha w0 wr bp vL L (Zb L (Zd (Zb L s).2)).2 0 (by omega) hP) (fun v5 A6 n6 c6 w6 hG=>?_)
 (try dsimp only at hG)
 have G6:=zh hG
 clear hG G5
 (try simp only [cl,Act.put])
 (try go_upto_region 7 with fail)
 have CT:=zh (ZQ (y:=[108,101,97,115,116]) G6.out.P h2)
 go_upto_region 11 with (go_at_call 73;(with_reducible refine CT.out.mono ?_);rintro e w7 ⟨rfl,hp,hf⟩;have G7:=zh (G6.out.call hp hf);clear hp hf)
 clear G6
 clear CT
 have q2:=G7.out.cells.2.2.1
 dsimp only at q2
 have G8:=zh (G7.out.below (below_alloc1 w7 (.cells #[.int .i64 0,.int .i64 0] 2)))
 have RD:=zh (Zi6 w7 (.int .i64 0) (.int .i64 0) 2)
 generalize hwl:w7.alloc (.cells #[.int .i64 0,.int .i64 0] 2)=w8 at *
 go_wp2_with (at_builtin;(refine ZaN _ rfl _ _ 34 rfl w.heap.size 2 iU (.int .i64 0) 1 8 Tryz.underlying34 hU zU0 zU1 zU2 rfl (by decide) (.slice A6 n6 c6) _ _ rfl G8.out.U _ _ 2 2 [.int .i64 0,.int .i64 0] rfl RD.out (by intro u hu;simp at hu;rcases hu with rfl | rfl<;>rfl) (by simp [maxLen]) (by simp) G8.out.F.size ?_))
 intro vq w9 hown hgrow _
 have OS:=Zbc hown
 obtain ⟨A9,n9,c9,rfl⟩:=OS
 have G9:=zh (G8.out.nums (ys:=[0,0]) hown hgrow)
 clear hown hgrow q2
 have k1:=G9.out.1
 have k2:=G9.out.2.1
 dsimp only at k1
 go_upto_region 12 with fail
 clear k1 k2
 have G10:=zh G9.out.2.2
 clear G7 G8 G9 RD hwl
 generalize w9.setCell ⟨b,2,none⟩ (.slice A9 n9 c9)=w10 at *
 have NM:=zh (ZdL w0 w w10 bp b w.heap.size vL L (ZD L (Zr 0) (Zb L (Zd (Zb L s).2)).2).2 ((.slice A5 n5 c5),(.slice A9 n9 c9),(.slice none 0 0)) 5 (Ze L s) [(Zb L s).1,(Zb L (Zd (Zb L s).2)).1] [(ZD L (Zr 0) (Zb L (Zd (Zb L s).2)).2).1,0,0] [] [97,116] 0 G10.out (by simp))
 go_upto_region 13 with (go_at_call 99;(refine NM.out.mono ?_);rintro e w11 ⟨rfl,xn,v11,hG,hv⟩;have SH:=hG.shape;obtain ⟨X11,x11,y11,Y11,i11,j11,Z11,k11,l11,rfl⟩:=SH;have G11:=zh hG;have V11:=zh hv;clear hG hv)
 clear NM G10
 have NM:=zh (ZdL w0 w w11 bp b w.heap.size vL L (ZB L [97,116] 0 (ZD L (Zr 0) (Zb L (Zd (Zb L s).2)).2).2).2 ((.slice X11 x11 y11),(.slice Y11 i11 j11),(.slice Z11 k11 l11)) 5 (Ze L s) [(Zb L s).1,(Zb L (Zd (Zb L s).2)).1] [(ZD L (Zr 0) (Zb L (Zd (Zb L s).2)).2).1,0,0] v11 [116,111] 1 G11.out (by have:=congrArg List.length V11.out;have:=Zd2 L [97,116] 0 (ZD L (Zr 0) (Zb L (Zd (Zb L s).2)).2).2;simp only [List.length_map,List.length_append,List.map_nil,List.length_nil] at *;omega))
 go_upto_region 14 with (go_at_call 99;(refine NM.out.mono ?_);rintro e w12 ⟨rfl,xn,v12,hG,hv⟩;have SH:=hG.shape;obtain ⟨X12,x12,y12,Y12,i12,j12,Z12,k12,l12,rfl⟩:=SH;have G12:=zh hG;have V12:=zh hv;clear hG hv)
 clear NM G11
 have NM:=zh (ZdL w0 w w12 bp b w.heap.size vL L (ZB L [116,111] 1 (ZB L [97,116] 0 (ZD L (Zr 0) (Zb L (Zd (Zb L s).2)).2).2).2).2 ((.slice X12 x12 y12),(.slice Y12 i12 j12),(.slice Z12 k12 l12)) 5 (Ze L s) [(Zb L s).1,(Zb L (Zd (Zb L s).2)).1] [(ZD L (Zr 0) (Zb L (Zd (Zb L s).2)).2).1,0,0] v12 [105,110] 2 G12.out (by have:=congrArg List.length V11.out;have:=congrArg List.length V12.out;have:=Zd2 L [97,116] 0 (ZD L (Zr 0) (Zb L (Zd (Zb L s).2)).2).2;have:=Zd2 L [116,111] 1 (ZB L [97,116] 0 (ZD L (Zr 0) (Zb L (Zd (Zb L s).2)).2).2).2;simp only [List.length_map,List.length_append,List.map_nil,List.length_nil] at *;omega))
 go_upto_region 15 with (go_at_call 99;(refine NM.out.mono ?_);rintro e w13 ⟨rfl,xn,v13,hG,hv⟩;have SH:=hG.shape;obtain ⟨X13,x13,y13,Y13,i13,j13,Z13,k13,l13,rfl⟩:=SH;have G13:=zh hG;have V13:=zh hv;clear hG hv)
 clear NM G12
 obtain ⟨q0,q1,q2,q3,q4,q5⟩:=G13.out.cells
 dsimp only at q1 q2 q5
 have qf:=G13.out.free
 obtain ⟨z0,z1,z2,z3,z4,z5⟩:=G13.out.zeros HZ.out
 have zf:=G13.out.rfree HZ.out
 have so:=Zy
 go_wp2_with fail
 obtain ⟨r0,r1,r2,r3,r4,r5⟩:=ZaH (G13.out.R HZ.out) (.int .i64 5) (.slice X13 x13 y13) (.slice Y13 i13 j13) (.slice none 0 0) (.int .i64 (Ze L s)) (.slice Z13 k13 l13)
 obtain ⟨o1,o2,o3⟩:=G13.out.out HZ.out (.int .i64 5) (.slice X13 x13 y13) (.slice Y13 i13 j13) (.slice none 0 0) (.int .i64 (Ze L s)) (.slice Z13 k13 l13)
 rw [V13.out,V12.out,V11.out] at o2
 exact bodyPost_ret (v:=.agg #[.int .i64 5,(.slice X13 x13 y13),(.slice Y13 i13 j13),.slice none 0 0,.int .i64 (Ze L s),(.slice Z13 k13 l13)]) (by simp [results,Tryz.results75,go_sem,so,r0,r1,r2,r3,r4,r5]) rfl ⟨((.slice X13 x13 y13),(.slice Y13 i13 j13),(.slice Z13 k13 l13)),rfl,o1,o2,o3⟩
theorem Zjb (w0 w:World) (bp:Nat) (vL:Value) (L:List Tok) (s:PS) (h:ParS w0 w bp vL L s):Calls Tryz.prog 75 #[.pointer (some ⟨bp,0,none⟩)] w (Zcz w0 bp vL L w (ZaC L s).1 (ZaC L s).2):=by
 cases h1:isM L [58] (Zb L s).2 with
 | false=>exact Zl1 w0 w bp vL L s h h1
 | true=>
  cases h2:isM L [108,101,97,115,116] (ZD L (Zr 0) (Zb L (Zd (Zb L s).2)).2).2 with
  | true=>exact Zlj w0 w bp vL L s h h1 h2
  | false=>exact Zlk w0 w bp vL L s h h1 h2
end
end Go.Proofs.YtkongcicmajolaaGreatDoor
