import Derived.Test.YtkongcicmajolaaGreatDoorQBE
import Derived.Test.YtkongcicmajolaaGreatDoorQBF
import Derived.Test.YtkongcicmajolaaGreatDoorQBG
set_option maxRecDepth 100000
set_option maxHeartbeats 8000000
namespace Go.Proofs.YtkongcicmajolaaGreatDoor
section
open Go.RowKit
def ZbH (F:Nat) (w0:World) (bp:Nat) (vL:Value) (L:List Tok) (D:PS->Prop) (M:PS->Tr×PS):Prop:=∀ (w:World) (t:PS),ParS w0 w bp vL L t->D t->Calls Tryz.prog F #[.pointer (some ⟨bp,0,none⟩)] w (Zcz w0 bp vL L w (M t).1 (M t).2)
theorem ZhL (w0:World) (bp:Nat) (vL:Value) (L:List Tok) (D:PS->Prop) (hD:Dom L D) (pc:PS->Tr×PS) (hp0:Onw L D pc) (hpc:ZbH 146 w0 bp vL L D pc):ZbH 140 w0 bp vL L D (Zaj L pc):=by
 intro w s h hd
 obtain ⟨R,hR⟩:∃ R,R=ZaA L pc [42] [47] 4 5 (L.length+1) (pc s).1 (pc s).2:=⟨_,rfl⟩
 have hM:Zaj L pc s=R:=by rw [hR];rfl
 rw [hM]
 have hgo:Onw L D pc:=hp0
 have HR:=zh (zi hR (zi (hD.next _ _ hd (hgo s hd).toAdv) h.few.1))
 have HC:=zh (zi hpc (zi hD hgo))
 have a0:=below_alloc1 w (.cells #[.int .i64 0,.slice none 0 0,.slice none 0 0,.slice none 0 0,.int .i64 0,.slice none 0 0] 58)
 have ha:=h.keep a0
 generalize hwa:w.alloc (.cells #[.int .i64 0,.slice none 0 0,.slice none 0 0,.slice none 0 0,.int .i64 0,.slice none 0 0] 58)=wa at *
 have C1:=zh (hpc wa s ha hd)
 have H:=zh h
 clear a0 ha h hM hR hd hpc hD hgo
 go_enter Tryz.func140,Tryz.ntmps140
 go_upto_region 2 with (go_at_call 146;refine C1.out.mono ?_;rintro e w1 ⟨xq,rfl,hp,ht,hf⟩;have TS:=ht.shape2;obtain ⟨X1,x1,y1,Y1,i1,j1,Z1,k1,l1,rfl⟩:=TS;have Q1:=zh (zi hp (zi ht hf));clear hp ht hf;dsimp only [ZbQ])
 have G2:=zh (An.start H.out hwa Q1.out.1 Q1.out.2.1 Q1.out.2.2)
 clear hwa C1 Q1
 generalize w1.alloc (.cells #[.int .i64 (Tr.kd (pc s).1),(.slice X1 x1 y1),(.slice Y1 i1 j1),.slice none 0 0,.int .i64 (Tr.ps (pc s).1),(.slice Z1 k1 l1)] 58)=w2 at *
 generalize w1.heap.size=b at *
 go_loopg [] (L.length+1) (fun g wr=>∃ (a:Tr) (t:PS) (x:NV),R=ZaA L pc [42] [47] 4 5 g a t/\D t/\(t.err=0->L.length-t.at_<g)/\An w0 w wr bp b w.heap.size vL L t x a)
 case atStart=>exact ⟨_,_,_,HR.out.1,HR.out.2.1,fun _=>by omega,G2.out⟩
 case round=>
  obtain ⟨a,t,x,hr,hDt,hf,hG⟩:=hrel
  have SH:=hG.shape
  obtain ⟨xA,xn,xc,xB,xm,xd,xC,xq,xe,rfl⟩:=SH
  clear G2
  have G40:=zh hG
  clear hG
  by_cases he:t.err=0
  ·skip
   obtain ⟨g2,rfl⟩:∃ g2,gk=g2+1:=⟨gk-1,by have:=hf he;omega⟩
   have hk0:(t.err==0)=true:=by simp [he]
   by_cases hx:isM L [42] t=true
   ·skip
    have hr2:R=ZaA L pc [42] [47] 4 5 g2 (Za0 4 a (pc (Zd t)).1) (pc (Zd t)).2:=by rw [hr,ZaA,if_pos he,if_pos hx]
    have CT:=zh (ZY (y:=[42]) G40.out.P hx)
    have AD:=zh (ZC G40.out.P.few.2.1 G40.out.P.lt hx)
    have hD1:=HC.out.2.1.next _ _ hDt AD.out.toAdv
    have hD2:=HC.out.2.1.next _ _ hD1 (HC.out.2.2 _ hD1).toAdv
    have HK:=zh (zi hr2 (zi (hf he) (zi hD1 hD2)))
    clear hr hr2 hDt hf he hx hD1 hD2
    obtain ⟨c0,c1,c2,c3,c4⟩:=G40.out.P.cells
    go_upto_region 4 with (go_at_call 73;(with_reducible refine CT.out.mono ?_);rintro e w41 ⟨rfl,hp,hf⟩;have G41:=zh (G40.out.call hp hf);clear hp hf)
    clear hk0 CT G40 c0 c1 c2 c3 c4
    (try go_upto_region 4 with fail)
    have NM:=zh (HC.out.1 w41.drew (Zd t) G41.out.drew.P HK.out.2.2.1)
    (try go_upto_region 4 with fail)
    refine wp_region_noPanic ?_
    refine Zai [4] (fun V=>V.cell? ⟨b,0,none⟩=some (.int .i64 (Tr.kd a))/\V.cell? ⟨b,1,none⟩=some (.slice xA xn xc)/\V.cell? ⟨b,2,none⟩=some (.slice xB xm xd)/\V.cell? ⟨b,3,none⟩=some (.slice none 0 0)/\V.cell? ⟨b,4,none⟩=some (.int .i64 (Tr.ps a))/\V.cell? ⟨b,5,none⟩=some (.slice xC xq xe)) (by kernel_rfl) (G41.out.drew.cells) (fun hH=>?_)
    refine lk 0 rfl ?_
    (try simp only [cl,Act.put])
    refine lp 1 rfl ?_
    (try simp only [cl,Act.put])
    refine ln 2 rfl fun K hK=>?_
    go_simp
    go_at_call 146
    refine NM.out.mono ?_
    rintro e w51 ⟨xq,rfl,hp,ht,hf⟩
    have TS:=ht.shape2
    obtain ⟨X51,x51,y51,Y51,i51,j51,Z51,k51,l51,rfl⟩:=TS
    have G51:=zh (zi (G41.out.drew.call hp hf) ht)
    clear hp ht hf
    dsimp only [ZbQ]
    go_wp2_with fail
    refine hK.out _ _ (G51.out.1.cells) (fun hH2=>?_)
    clear hK K hH;have hH:=hH2;clear hH2
    (try simp only [cl,Act.put])
    refine ln 3 rfl fun K hK=>?_
    go_simp
    have BN:=zh (ZeK w51 4 ((.slice xA xn xc),(.slice xB xm xd),(.slice xC xq xe)) ((.slice X51 x51 y51),(.slice Y51 i51 j51),(.slice Z51 k51 l51)) a (pc (Zd t)).1 (fun c=>w.heap.size<=c/\c≠b/\c≠w.heap.size) G51.out.1.T (G51.out.2.mono fun c hc=>G41.out.fresh hc) (fun c hc=>G51.out.1.fresh hc))
    go_at_call 133
    refine BN.out.mono ?_
    rintro e w52 ⟨zq,rfl,ht,hb⟩
    have TS:=ht.shape2
    obtain ⟨X52,x52,y52,Y52,i52,j52,Z52,k52,l52,rfl⟩:=TS
    have G52:=zh (zi (G51.out.1.below hb) ht)
    clear ht hb BN
    dsimp only [ZbQ]
    go_wp2_with fail
    refine hK.out _ _ (G52.out.1.cells) (fun hH2=>?_)
    clear hK K hH;have hH:=hH2;clear hH2
    (try simp only [cl,Act.put])
    refine le_ 4 rfl fun K hK=>?_
    obtain ⟨q0,q1,q2,q3,q4,q5⟩:=G52.out.1.cells
    dsimp only at q1 q2 q5
    have qf:=G52.out.1.free
    have so:=Zy
    go_simp
    refine hK.out _ _ ?_
    clear hK K hH q0 q1 q2 q3 q4 q5 qf
    clear so
    refine ZaG (by kernel_rfl) ?_ _
    refine NoPanic.normal ?_
    have G53:=zh (G52.out.1.put (y:=((.slice X52 x52 y52),(.slice Y52 i52 j52),(.slice Z52 k52 l52))) (u:=(Za0 4 a (pc (Zd t)).1)) G52.out.2)
    clear G41 G51 G52 NM
    generalize ((((((w52.setCell ⟨b,0,none⟩ (.int .i64 (Tr.kd (Za0 4 a (pc (Zd t)).1)))).setCell ⟨b,1,none⟩ (.slice X52 x52 y52)).setCell ⟨b,2,none⟩ (.slice Y52 i52 j52)).setCell ⟨b,3,none⟩ (.slice none 0 0)).setCell ⟨b,4,none⟩ (.int .i64 (Tr.ps (Za0 4 a (pc (Zd t)).1)))).setCell ⟨b,5,none⟩ (.slice Z52 k52 l52))=w53 at *
    go_wp2_with fail
    go_roundg g2
    case measure=>omega
    case rel=>
     refine ⟨_,_,_,HK.out.1,HK.out.2.2.2,fun q=>?_,G53.out⟩
     have:=(AD.out.then_ (HC.out.2.2 _ HK.out.2.2.1).toAdv).on q
     have:=HK.out.2.1
     have:=G53.out.P.lt
     omega
   ·by_cases hy:isM L [47] t=true
    ·skip
     have hr2:R=ZaA L pc [42] [47] 4 5 g2 (Za0 5 a (pc (Zd t)).1) (pc (Zd t)).2:=by rw [hr,ZaA,if_pos he,if_neg hx,if_pos hy]
     have CT:=zh (ZQ (y:=[42]) G40.out.P (by simpa using hx))
     have AD:=zh (ZC G40.out.P.few.2.1 G40.out.P.lt hy)
     have HY:=zh hy
     have hD1:=HC.out.2.1.next _ _ hDt AD.out.toAdv
     have hD2:=HC.out.2.1.next _ _ hD1 (HC.out.2.2 _ hD1).toAdv
     have HK:=zh (zi hr2 (zi (hf he) (zi hD1 hD2)))
     clear hr hr2 hDt hf he hx hD1 hD2 hy
     obtain ⟨c0,c1,c2,c3,c4⟩:=G40.out.P.cells
     go_upto_region 5 with (go_at_call 73;(with_reducible refine CT.out.mono ?_);rintro e w41 ⟨rfl,hp,hf⟩;have G41:=zh (G40.out.call hp hf);clear hp hf)
     clear hk0 CT G40 c0 c1 c2 c3 c4
     have CT:=zh (ZY (y:=[47]) G41.out.P HY.out)
     go_upto_region 6 with (go_at_call 73;(with_reducible refine CT.out.mono ?_);rintro e w42 ⟨rfl,hp,hf⟩;have G42:=zh (G41.out.call hp hf);clear hp hf)
     clear CT G41
     (try go_upto_region 6 with fail)
     have NM:=zh (HC.out.1 w42.drew (Zd t) G42.out.drew.P HK.out.2.2.1)
     (try go_upto_region 6 with fail)
     refine wp_region_noPanic ?_
     refine Zai [4] (fun V=>V.cell? ⟨b,0,none⟩=some (.int .i64 (Tr.kd a))/\V.cell? ⟨b,1,none⟩=some (.slice xA xn xc)/\V.cell? ⟨b,2,none⟩=some (.slice xB xm xd)/\V.cell? ⟨b,3,none⟩=some (.slice none 0 0)/\V.cell? ⟨b,4,none⟩=some (.int .i64 (Tr.ps a))/\V.cell? ⟨b,5,none⟩=some (.slice xC xq xe)) (by kernel_rfl) (G42.out.drew.cells) (fun hH=>?_)
     refine lk 0 rfl ?_
     (try simp only [cl,Act.put])
     refine lp 1 rfl ?_
     (try simp only [cl,Act.put])
     refine ln 2 rfl fun K hK=>?_
     go_simp
     go_at_call 146
     refine NM.out.mono ?_
     rintro e w51 ⟨xq,rfl,hp,ht,hf⟩
     have TS:=ht.shape2
     obtain ⟨X51,x51,y51,Y51,i51,j51,Z51,k51,l51,rfl⟩:=TS
     have G51:=zh (zi (G42.out.drew.call hp hf) ht)
     clear hp ht hf
     dsimp only [ZbQ]
     go_wp2_with fail
     refine hK.out _ _ (G51.out.1.cells) (fun hH2=>?_)
     clear hK K hH;have hH:=hH2;clear hH2
     (try simp only [cl,Act.put])
     refine ln 3 rfl fun K hK=>?_
     go_simp
     have BN:=zh (ZeK w51 5 ((.slice xA xn xc),(.slice xB xm xd),(.slice xC xq xe)) ((.slice X51 x51 y51),(.slice Y51 i51 j51),(.slice Z51 k51 l51)) a (pc (Zd t)).1 (fun c=>w.heap.size<=c/\c≠b/\c≠w.heap.size) G51.out.1.T (G51.out.2.mono fun c hc=>G42.out.fresh hc) (fun c hc=>G51.out.1.fresh hc))
     go_at_call 133
     refine BN.out.mono ?_
     rintro e w52 ⟨zq,rfl,ht,hb⟩
     have TS:=ht.shape2
     obtain ⟨X52,x52,y52,Y52,i52,j52,Z52,k52,l52,rfl⟩:=TS
     have G52:=zh (zi (G51.out.1.below hb) ht)
     clear ht hb BN
     dsimp only [ZbQ]
     go_wp2_with fail
     refine hK.out _ _ (G52.out.1.cells) (fun hH2=>?_)
     clear hK K hH;have hH:=hH2;clear hH2
     (try simp only [cl,Act.put])
     refine le_ 4 rfl fun K hK=>?_
     obtain ⟨q0,q1,q2,q3,q4,q5⟩:=G52.out.1.cells
     dsimp only at q1 q2 q5
     have qf:=G52.out.1.free
     have so:=Zy
     go_simp
     refine hK.out _ _ ?_
     clear hK K hH q0 q1 q2 q3 q4 q5 qf
     clear so
     refine ZaG (by kernel_rfl) ?_ _
     refine NoPanic.normal ?_
     have G53:=zh (G52.out.1.put (y:=((.slice X52 x52 y52),(.slice Y52 i52 j52),(.slice Z52 k52 l52))) (u:=(Za0 5 a (pc (Zd t)).1)) G52.out.2)
     clear G42 G51 G52 NM
     generalize ((((((w52.setCell ⟨b,0,none⟩ (.int .i64 (Tr.kd (Za0 5 a (pc (Zd t)).1)))).setCell ⟨b,1,none⟩ (.slice X52 x52 y52)).setCell ⟨b,2,none⟩ (.slice Y52 i52 j52)).setCell ⟨b,3,none⟩ (.slice none 0 0)).setCell ⟨b,4,none⟩ (.int .i64 (Tr.ps (Za0 5 a (pc (Zd t)).1)))).setCell ⟨b,5,none⟩ (.slice Z52 k52 l52))=w53 at *
     go_wp2_with fail
     go_roundg g2
     case measure=>omega
     case rel=>
      refine ⟨_,_,_,HK.out.1,HK.out.2.2.2,fun q=>?_,G53.out⟩
      have:=(AD.out.then_ (HC.out.2.2 _ HK.out.2.2.1).toAdv).on q
      have:=HK.out.2.1
      have:=G53.out.P.lt
      omega
    ·skip
     have hr2:R=(a,t):=by rw [hr,ZaA,if_pos he,if_neg hx,if_neg hy]
     have CT:=zh (ZQ (y:=[42]) G40.out.P (by simpa using hx))
     have HY:=zh (show isM L [47] t=false by simpa using hy)
     clear hr hDt hf he hx hy
     subst hr2
     obtain ⟨c0,c1,c2,c3,c4⟩:=G40.out.P.cells
     go_upto_region 5 with (go_at_call 73;(with_reducible refine CT.out.mono ?_);rintro e w41 ⟨rfl,hp,hf⟩;have G41:=zh (G40.out.call hp hf);clear hp hf)
     clear hk0 CT G40 c0 c1 c2 c3 c4
     have CT:=zh (ZQ (y:=[47]) G41.out.P HY.out)
     go_upto_region 7 with (go_at_call 73;(with_reducible refine CT.out.mono ?_);rintro e w42 ⟨rfl,hp,hf⟩;have G42:=zh (G41.out.call hp hf);clear hp hf)
     clear CT G41
     obtain ⟨q0,q1,q2,q3,q4,q5⟩:=G42.out.cells
     dsimp only at q1 q2 q5
     obtain ⟨z0,z1,z2,z3,z4,z5⟩:=G42.out.zeros
     have zf:=G42.out.rfree
     have so:=Zy
     go_wp2_with fail
     obtain ⟨r0,r1,r2,r3,r4,r5⟩:=ZaH G42.out.R (.int .i64 (Tr.kd a)) (.slice xA xn xc) (.slice xB xm xd) (.slice none 0 0) (.int .i64 (Tr.ps a)) (.slice xC xq xe)
     obtain ⟨o1,o2,o3⟩:=G42.out.out (G42.out.T.mono fun c hc=>⟨hc.1,hc.2.2⟩) (.int .i64 (Tr.kd a)) (.slice xA xn xc) (.slice xB xm xd) (.slice none 0 0) (.int .i64 (Tr.ps a)) (.slice xC xq xe)
     exact bodyPost_ret (v:=.agg #[.int .i64 (Tr.kd a),(.slice xA xn xc),(.slice xB xm xd),.slice none 0 0,.int .i64 (Tr.ps a),(.slice xC xq xe)]) (by simp [results,Tryz.results140,go_sem,so,r0,r1,r2,r3,r4,r5]) rfl ⟨((.slice xA xn xc),(.slice xB xm xd),(.slice xC xq xe)),rfl,o1,o2,o3⟩
  ·skip
   have hr2:R=(a,t):=by
    rw [hr]
    cases gk with
    | zero=>rfl
    | succ g2=>rw [ZaA,if_neg he]
   have hk0:(t.err==0)=false:=by simp [he]
   clear hr hDt hf he
   subst hr2
   obtain ⟨c0,c1,c2,c3,c4⟩:=G40.out.P.cells
   go_upto_region 8 with fail
   clear hk0 c0 c1 c2 c3 c4
   obtain ⟨q0,q1,q2,q3,q4,q5⟩:=G40.out.cells
   dsimp only at q1 q2 q5
   obtain ⟨z0,z1,z2,z3,z4,z5⟩:=G40.out.zeros
   have zf:=G40.out.rfree
   have so:=Zy
   go_wp2_with fail
   obtain ⟨r0,r1,r2,r3,r4,r5⟩:=ZaH G40.out.R (.int .i64 (Tr.kd a)) (.slice xA xn xc) (.slice xB xm xd) (.slice none 0 0) (.int .i64 (Tr.ps a)) (.slice xC xq xe)
   obtain ⟨o1,o2,o3⟩:=G40.out.out (G40.out.T.mono fun c hc=>⟨hc.1,hc.2.2⟩) (.int .i64 (Tr.kd a)) (.slice xA xn xc) (.slice xB xm xd) (.slice none 0 0) (.int .i64 (Tr.ps a)) (.slice xC xq xe)
   exact bodyPost_ret (v:=.agg #[.int .i64 (Tr.kd a),(.slice xA xn xc),(.slice xB xm xd),.slice none 0 0,.int .i64 (Tr.ps a),(.slice xC xq xe)]) (by simp [results,Tryz.results140,go_sem,so,r0,r1,r2,r3,r4,r5]) rfl ⟨((.slice xA xn xc),(.slice xB xm xd),(.slice xC xq xe)),rfl,o1,o2,o3⟩
theorem Zlo (w0:World) (bp:Nat) (vL:Value) (L:List Tok) (hE:ZW L) (D:PS->Prop) (hD:Dom L D) (pc:PS->Tr×PS) (hp0:Onw L D pc) (hpc:ZbH 140 w0 bp vL L D (Zaj L pc)):ZbH 132 w0 bp vL L D (ZK L pc):=by
 intro w s h hd
 obtain ⟨R,hR⟩:∃ R,R=ZaA L (Zaj L pc) [43] [45] 2 3 (L.length+1) ((Zaj L pc) s).1 ((Zaj L pc) s).2:=⟨_,rfl⟩
 have hM:ZK L pc s=R:=by rw [hR];rfl
 rw [hM]
 have hgo:Onw L D (Zaj L pc):=Zeb hE hD hp0
 have HR:=zh (zi hR (zi (hD.next _ _ hd (hgo s hd).toAdv) h.few.1))
 have HC:=zh (zi hpc (zi hD hgo))
 have a0:=below_alloc1 w (.cells #[.int .i64 0,.slice none 0 0,.slice none 0 0,.slice none 0 0,.int .i64 0,.slice none 0 0] 58)
 have ha:=h.keep a0
 generalize hwa:w.alloc (.cells #[.int .i64 0,.slice none 0 0,.slice none 0 0,.slice none 0 0,.int .i64 0,.slice none 0 0] 58)=wa at *
 have C1:=zh (hpc wa s ha hd)
 have H:=zh h
 clear a0 ha h hM hR hd hpc hD hgo
 go_enter Tryz.func132,Tryz.ntmps132
 go_upto_region 2 with (go_at_call 140;refine C1.out.mono ?_;rintro e w1 ⟨xq,rfl,hp,ht,hf⟩;have TS:=ht.shape2;obtain ⟨X1,x1,y1,Y1,i1,j1,Z1,k1,l1,rfl⟩:=TS;have Q1:=zh (zi hp (zi ht hf));clear hp ht hf;dsimp only [ZbQ])
 have G2:=zh (An.start H.out hwa Q1.out.1 Q1.out.2.1 Q1.out.2.2)
 clear hwa C1 Q1
 generalize w1.alloc (.cells #[.int .i64 (Tr.kd ((Zaj L pc) s).1),(.slice X1 x1 y1),(.slice Y1 i1 j1),.slice none 0 0,.int .i64 (Tr.ps ((Zaj L pc) s).1),(.slice Z1 k1 l1)] 58)=w2 at *
 generalize w1.heap.size=b at *
 go_loopg [] (L.length+1) (fun g wr=>∃ (a:Tr) (t:PS) (x:NV),R=ZaA L (Zaj L pc) [43] [45] 2 3 g a t/\D t/\(t.err=0->L.length-t.at_<g)/\An w0 w wr bp b w.heap.size vL L t x a)
 case atStart=>exact ⟨_,_,_,HR.out.1,HR.out.2.1,fun _=>by omega,G2.out⟩
 case round=>
  obtain ⟨a,t,x,hr,hDt,hf,hG⟩:=hrel
  have SH:=hG.shape
  obtain ⟨xA,xn,xc,xB,xm,xd,xC,xq,xe,rfl⟩:=SH
  clear G2
  have G40:=zh hG
  clear hG
  by_cases he:t.err=0
  ·skip
   obtain ⟨g2,rfl⟩:∃ g2,gk=g2+1:=⟨gk-1,by have:=hf he;omega⟩
   have hk0:(t.err==0)=true:=by simp [he]
   by_cases hx:isM L [43] t=true
   ·skip
    have hr2:R=ZaA L (Zaj L pc) [43] [45] 2 3 g2 (Za0 2 a ((Zaj L pc) (Zd t)).1) ((Zaj L pc) (Zd t)).2:=by rw [hr,ZaA,if_pos he,if_pos hx]
    have CT:=zh (ZY (y:=[43]) G40.out.P hx)
    have AD:=zh (ZC G40.out.P.few.2.1 G40.out.P.lt hx)
    have hD1:=HC.out.2.1.next _ _ hDt AD.out.toAdv
    have hD2:=HC.out.2.1.next _ _ hD1 (HC.out.2.2 _ hD1).toAdv
    have HK:=zh (zi hr2 (zi (hf he) (zi hD1 hD2)))
    clear hr hr2 hDt hf he hx hD1 hD2
    obtain ⟨c0,c1,c2,c3,c4⟩:=G40.out.P.cells
    go_upto_region 4 with (go_at_call 73;(with_reducible refine CT.out.mono ?_);rintro e w41 ⟨rfl,hp,hf⟩;have G41:=zh (G40.out.call hp hf);clear hp hf)
    clear hk0 CT G40 c0 c1 c2 c3 c4
    (try go_upto_region 4 with fail)
    have NM:=zh (HC.out.1 w41.drew (Zd t) G41.out.drew.P HK.out.2.2.1)
    (try go_upto_region 4 with fail)
    refine wp_region_noPanic ?_
    refine Zai [4] (fun V=>V.cell? ⟨b,0,none⟩=some (.int .i64 (Tr.kd a))/\V.cell? ⟨b,1,none⟩=some (.slice xA xn xc)/\V.cell? ⟨b,2,none⟩=some (.slice xB xm xd)/\V.cell? ⟨b,3,none⟩=some (.slice none 0 0)/\V.cell? ⟨b,4,none⟩=some (.int .i64 (Tr.ps a))/\V.cell? ⟨b,5,none⟩=some (.slice xC xq xe)) (by kernel_rfl) (G41.out.drew.cells) (fun hH=>?_)
    refine lk 0 rfl ?_
    (try simp only [cl,Act.put])
    refine lp 1 rfl ?_
    (try simp only [cl,Act.put])
    refine ln 2 rfl fun K hK=>?_
    go_simp
    go_at_call 140
    refine NM.out.mono ?_
    rintro e w51 ⟨xq,rfl,hp,ht,hf⟩
    have TS:=ht.shape2
    obtain ⟨X51,x51,y51,Y51,i51,j51,Z51,k51,l51,rfl⟩:=TS
    have G51:=zh (zi (G41.out.drew.call hp hf) ht)
    clear hp ht hf
    dsimp only [ZbQ]
    go_wp2_with fail
    refine hK.out _ _ (G51.out.1.cells) (fun hH2=>?_)
    clear hK K hH;have hH:=hH2;clear hH2
    (try simp only [cl,Act.put])
    refine ln 3 rfl fun K hK=>?_
    go_simp
    have BN:=zh (ZeK w51 2 ((.slice xA xn xc),(.slice xB xm xd),(.slice xC xq xe)) ((.slice X51 x51 y51),(.slice Y51 i51 j51),(.slice Z51 k51 l51)) a ((Zaj L pc) (Zd t)).1 (fun c=>w.heap.size<=c/\c≠b/\c≠w.heap.size) G51.out.1.T (G51.out.2.mono fun c hc=>G41.out.fresh hc) (fun c hc=>G51.out.1.fresh hc))
    go_at_call 133
    refine BN.out.mono ?_
    rintro e w52 ⟨zq,rfl,ht,hb⟩
    have TS:=ht.shape2
    obtain ⟨X52,x52,y52,Y52,i52,j52,Z52,k52,l52,rfl⟩:=TS
    have G52:=zh (zi (G51.out.1.below hb) ht)
    clear ht hb BN
    dsimp only [ZbQ]
    go_wp2_with fail
    refine hK.out _ _ (G52.out.1.cells) (fun hH2=>?_)
    clear hK K hH;have hH:=hH2;clear hH2
    (try simp only [cl,Act.put])
    refine le_ 4 rfl fun K hK=>?_
    obtain ⟨q0,q1,q2,q3,q4,q5⟩:=G52.out.1.cells
    dsimp only at q1 q2 q5
    have qf:=G52.out.1.free
    have so:=Zy
    go_simp
    refine hK.out _ _ ?_
    clear hK K hH q0 q1 q2 q3 q4 q5 qf
    clear so
    refine ZaG (by kernel_rfl) ?_ _
    refine NoPanic.normal ?_
    have G53:=zh (G52.out.1.put (y:=((.slice X52 x52 y52),(.slice Y52 i52 j52),(.slice Z52 k52 l52))) (u:=(Za0 2 a ((Zaj L pc) (Zd t)).1)) G52.out.2)
    clear G41 G51 G52 NM
    generalize ((((((w52.setCell ⟨b,0,none⟩ (.int .i64 (Tr.kd (Za0 2 a ((Zaj L pc) (Zd t)).1)))).setCell ⟨b,1,none⟩ (.slice X52 x52 y52)).setCell ⟨b,2,none⟩ (.slice Y52 i52 j52)).setCell ⟨b,3,none⟩ (.slice none 0 0)).setCell ⟨b,4,none⟩ (.int .i64 (Tr.ps (Za0 2 a ((Zaj L pc) (Zd t)).1)))).setCell ⟨b,5,none⟩ (.slice Z52 k52 l52))=w53 at *
    go_wp2_with fail
    go_roundg g2
    case measure=>omega
    case rel=>
     refine ⟨_,_,_,HK.out.1,HK.out.2.2.2,fun q=>?_,G53.out⟩
     have:=(AD.out.then_ (HC.out.2.2 _ HK.out.2.2.1).toAdv).on q
     have:=HK.out.2.1
     have:=G53.out.P.lt
     omega
   ·by_cases hy:isM L [45] t=true
    ·skip
     have hr2:R=ZaA L (Zaj L pc) [43] [45] 2 3 g2 (Za0 3 a ((Zaj L pc) (Zd t)).1) ((Zaj L pc) (Zd t)).2:=by rw [hr,ZaA,if_pos he,if_neg hx,if_pos hy]
     have CT:=zh (ZQ (y:=[43]) G40.out.P (by simpa using hx))
     have AD:=zh (ZC G40.out.P.few.2.1 G40.out.P.lt hy)
     have HY:=zh hy
     have hD1:=HC.out.2.1.next _ _ hDt AD.out.toAdv
     have hD2:=HC.out.2.1.next _ _ hD1 (HC.out.2.2 _ hD1).toAdv
     have HK:=zh (zi hr2 (zi (hf he) (zi hD1 hD2)))
     clear hr hr2 hDt hf he hx hD1 hD2 hy
     obtain ⟨c0,c1,c2,c3,c4⟩:=G40.out.P.cells
     go_upto_region 5 with (go_at_call 73;(with_reducible refine CT.out.mono ?_);rintro e w41 ⟨rfl,hp,hf⟩;have G41:=zh (G40.out.call hp hf);clear hp hf)
     clear hk0 CT G40 c0 c1 c2 c3 c4
     have CT:=zh (ZY (y:=[45]) G41.out.P HY.out)
     go_upto_region 6 with (go_at_call 73;(with_reducible refine CT.out.mono ?_);rintro e w42 ⟨rfl,hp,hf⟩;have G42:=zh (G41.out.call hp hf);clear hp hf)
     clear CT G41
     (try go_upto_region 6 with fail)
     have NM:=zh (HC.out.1 w42.drew (Zd t) G42.out.drew.P HK.out.2.2.1)
     (try go_upto_region 6 with fail)
     refine wp_region_noPanic ?_
     refine Zai [4] (fun V=>V.cell? ⟨b,0,none⟩=some (.int .i64 (Tr.kd a))/\V.cell? ⟨b,1,none⟩=some (.slice xA xn xc)/\V.cell? ⟨b,2,none⟩=some (.slice xB xm xd)/\V.cell? ⟨b,3,none⟩=some (.slice none 0 0)/\V.cell? ⟨b,4,none⟩=some (.int .i64 (Tr.ps a))/\V.cell? ⟨b,5,none⟩=some (.slice xC xq xe)) (by kernel_rfl) (G42.out.drew.cells) (fun hH=>?_)
     refine lk 0 rfl ?_
     (try simp only [cl,Act.put])
     refine lp 1 rfl ?_
     (try simp only [cl,Act.put])
     refine ln 2 rfl fun K hK=>?_
     go_simp
     go_at_call 140
     refine NM.out.mono ?_
     rintro e w51 ⟨xq,rfl,hp,ht,hf⟩
     have TS:=ht.shape2
     obtain ⟨X51,x51,y51,Y51,i51,j51,Z51,k51,l51,rfl⟩:=TS
     have G51:=zh (zi (G42.out.drew.call hp hf) ht)
     clear hp ht hf
     dsimp only [ZbQ]
     go_wp2_with fail
     refine hK.out _ _ (G51.out.1.cells) (fun hH2=>?_)
     clear hK K hH;have hH:=hH2;clear hH2
     (try simp only [cl,Act.put])
     refine ln 3 rfl fun K hK=>?_
     go_simp
     have BN:=zh (ZeK w51 3 ((.slice xA xn xc),(.slice xB xm xd),(.slice xC xq xe)) ((.slice X51 x51 y51),(.slice Y51 i51 j51),(.slice Z51 k51 l51)) a ((Zaj L pc) (Zd t)).1 (fun c=>w.heap.size<=c/\c≠b/\c≠w.heap.size) G51.out.1.T (G51.out.2.mono fun c hc=>G42.out.fresh hc) (fun c hc=>G51.out.1.fresh hc))
     go_at_call 133
     refine BN.out.mono ?_
     rintro e w52 ⟨zq,rfl,ht,hb⟩
     have TS:=ht.shape2
     obtain ⟨X52,x52,y52,Y52,i52,j52,Z52,k52,l52,rfl⟩:=TS
     have G52:=zh (zi (G51.out.1.below hb) ht)
     clear ht hb BN
     dsimp only [ZbQ]
     go_wp2_with fail
     refine hK.out _ _ (G52.out.1.cells) (fun hH2=>?_)
     clear hK K hH;have hH:=hH2;clear hH2
     (try simp only [cl,Act.put])
     refine le_ 4 rfl fun K hK=>?_
     obtain ⟨q0,q1,q2,q3,q4,q5⟩:=G52.out.1.cells
     dsimp only at q1 q2 q5
     have qf:=G52.out.1.free
     have so:=Zy
     go_simp
     refine hK.out _ _ ?_
     clear hK K hH q0 q1 q2 q3 q4 q5 qf
     clear so
     refine ZaG (by kernel_rfl) ?_ _
     refine NoPanic.normal ?_
     have G53:=zh (G52.out.1.put (y:=((.slice X52 x52 y52),(.slice Y52 i52 j52),(.slice Z52 k52 l52))) (u:=(Za0 3 a ((Zaj L pc) (Zd t)).1)) G52.out.2)
     clear G42 G51 G52 NM
     generalize ((((((w52.setCell ⟨b,0,none⟩ (.int .i64 (Tr.kd (Za0 3 a ((Zaj L pc) (Zd t)).1)))).setCell ⟨b,1,none⟩ (.slice X52 x52 y52)).setCell ⟨b,2,none⟩ (.slice Y52 i52 j52)).setCell ⟨b,3,none⟩ (.slice none 0 0)).setCell ⟨b,4,none⟩ (.int .i64 (Tr.ps (Za0 3 a ((Zaj L pc) (Zd t)).1)))).setCell ⟨b,5,none⟩ (.slice Z52 k52 l52))=w53 at *
     go_wp2_with fail
     go_roundg g2
     case measure=>omega
     case rel=>
      refine ⟨_,_,_,HK.out.1,HK.out.2.2.2,fun q=>?_,G53.out⟩
      have:=(AD.out.then_ (HC.out.2.2 _ HK.out.2.2.1).toAdv).on q
      have:=HK.out.2.1
      have:=G53.out.P.lt
      omega
    ·skip
     have hr2:R=(a,t):=by rw [hr,ZaA,if_pos he,if_neg hx,if_neg hy]
     have CT:=zh (ZQ (y:=[43]) G40.out.P (by simpa using hx))
     have HY:=zh (show isM L [45] t=false by simpa using hy)
     clear hr hDt hf he hx hy
     subst hr2
     obtain ⟨c0,c1,c2,c3,c4⟩:=G40.out.P.cells
     go_upto_region 5 with (go_at_call 73;(with_reducible refine CT.out.mono ?_);rintro e w41 ⟨rfl,hp,hf⟩;have G41:=zh (G40.out.call hp hf);clear hp hf)
     clear hk0 CT G40 c0 c1 c2 c3 c4
     have CT:=zh (ZQ (y:=[45]) G41.out.P HY.out)
     go_upto_region 7 with (go_at_call 73;(with_reducible refine CT.out.mono ?_);rintro e w42 ⟨rfl,hp,hf⟩;have G42:=zh (G41.out.call hp hf);clear hp hf)
     clear CT G41
     obtain ⟨q0,q1,q2,q3,q4,q5⟩:=G42.out.cells
     dsimp only at q1 q2 q5
     obtain ⟨z0,z1,z2,z3,z4,z5⟩:=G42.out.zeros
     have zf:=G42.out.rfree
     have so:=Zy
     go_wp2_with fail
     obtain ⟨r0,r1,r2,r3,r4,r5⟩:=ZaH G42.out.R (.int .i64 (Tr.kd a)) (.slice xA xn xc) (.slice xB xm xd) (.slice none 0 0) (.int .i64 (Tr.ps a)) (.slice xC xq xe)
     obtain ⟨o1,o2,o3⟩:=G42.out.out (G42.out.T.mono fun c hc=>⟨hc.1,hc.2.2⟩) (.int .i64 (Tr.kd a)) (.slice xA xn xc) (.slice xB xm xd) (.slice none 0 0) (.int .i64 (Tr.ps a)) (.slice xC xq xe)
     exact bodyPost_ret (v:=.agg #[.int .i64 (Tr.kd a),(.slice xA xn xc),(.slice xB xm xd),.slice none 0 0,.int .i64 (Tr.ps a),(.slice xC xq xe)]) (by simp [results,Tryz.results132,go_sem,so,r0,r1,r2,r3,r4,r5]) rfl ⟨((.slice xA xn xc),(.slice xB xm xd),(.slice xC xq xe)),rfl,o1,o2,o3⟩
  ·skip
   have hr2:R=(a,t):=by
    rw [hr]
    cases gk with
    | zero=>rfl
    | succ g2=>rw [ZaA,if_neg he]
   have hk0:(t.err==0)=false:=by simp [he]
   clear hr hDt hf he
   subst hr2
   obtain ⟨c0,c1,c2,c3,c4⟩:=G40.out.P.cells
   go_upto_region 8 with fail
   clear hk0 c0 c1 c2 c3 c4
   obtain ⟨q0,q1,q2,q3,q4,q5⟩:=G40.out.cells
   dsimp only at q1 q2 q5
   obtain ⟨z0,z1,z2,z3,z4,z5⟩:=G40.out.zeros
   have zf:=G40.out.rfree
   have so:=Zy
   go_wp2_with fail
   obtain ⟨r0,r1,r2,r3,r4,r5⟩:=ZaH G40.out.R (.int .i64 (Tr.kd a)) (.slice xA xn xc) (.slice xB xm xd) (.slice none 0 0) (.int .i64 (Tr.ps a)) (.slice xC xq xe)
   obtain ⟨o1,o2,o3⟩:=G40.out.out (G40.out.T.mono fun c hc=>⟨hc.1,hc.2.2⟩) (.int .i64 (Tr.kd a)) (.slice xA xn xc) (.slice xB xm xd) (.slice none 0 0) (.int .i64 (Tr.ps a)) (.slice xC xq xe)
   exact bodyPost_ret (v:=.agg #[.int .i64 (Tr.kd a),(.slice xA xn xc),(.slice xB xm xd),.slice none 0 0,.int .i64 (Tr.ps a),(.slice xC xq xe)]) (by simp [results,Tryz.results132,go_sem,so,r0,r1,r2,r3,r4,r5]) rfl ⟨((.slice xA xn xc),(.slice xB xm xd),(.slice xC xq xe)),rfl,o1,o2,o3⟩
theorem Zj6 (w0:World) (bp:Nat) (vL:Value) (L:List Tok) (hE:ZW L) (D:PS->Prop) (hD:Dom L D) (pc:PS->Tr×PS) (hp0:Onw L D pc) (hpc:ZbH 132 w0 bp vL L D (ZK L pc)):ZbH 122 w0 bp vL L D (ZaO L pc):=by
 intro w s h hd
 have hgo:Onw L D (ZK L pc):=ZgJ hE hD hp0
 have HC:=zh (zi hpc (zi hD hgo))
 have HD:=zh (hD.next _ _ hd (hgo s hd).toAdv)
 have hM:ZaO L pc s=if isM L [60] (ZK L pc s).2 then (Za0 0 (ZK L pc s).1 (ZK L pc (Zd (ZK L pc s).2)).1,(ZK L pc (Zd (ZK L pc s).2)).2) else if isM L [61,61] (ZK L pc s).2 then (Za0 1 (ZK L pc s).1 (ZK L pc (Zd (ZK L pc s).2)).1,(ZK L pc (Zd (ZK L pc s).2)).2) else (ZK L pc s):=rfl
 obtain ⟨R,hR⟩:∃ R,R=ZaO L pc s:=⟨_,rfl⟩
 rw [<- hR]
 rw [hM] at hR
 have HR:=zh hR
 clear hM hR
 have a0:=below_alloc1 w (.cells #[.int .i64 0,.slice none 0 0,.slice none 0 0,.slice none 0 0,.int .i64 0,.slice none 0 0] 58)
 have ha:=h.keep a0
 generalize hwa:w.alloc (.cells #[.int .i64 0,.slice none 0 0,.slice none 0 0,.slice none 0 0,.int .i64 0,.slice none 0 0] 58)=wa at *
 have C1:=zh (hpc wa s ha hd)
 have H:=zh h
 clear a0 ha h hd hpc hD hgo
 go_enter Tryz.func122,Tryz.ntmps122
 go_upto_region 2 with (go_at_call 132;refine C1.out.mono ?_;rintro e w1 ⟨xq,rfl,hp,ht,hf⟩;have TS:=ht.shape2;obtain ⟨X1,x1,y1,Y1,i1,j1,Z1,k1,l1,rfl⟩:=TS;have Q1:=zh (zi hp (zi ht hf));clear hp ht hf;dsimp only [ZbQ])
 have G2:=zh (An.start H.out hwa Q1.out.1 Q1.out.2.1 Q1.out.2.2)
 clear hwa C1 Q1
 generalize w1.alloc (.cells #[.int .i64 (Tr.kd ((ZK L pc) s).1),(.slice X1 x1 y1),(.slice Y1 i1 j1),.slice none 0 0,.int .i64 (Tr.ps ((ZK L pc) s).1),(.slice Z1 k1 l1)] 58)=w2 at *
 generalize w1.heap.size=b at *
 by_cases hx:isM L [60] (ZK L pc s).2=true
 ·skip
  have hr:R=(Za0 0 (ZK L pc s).1 (ZK L pc (Zd (ZK L pc s).2)).1,(ZK L pc (Zd (ZK L pc s).2)).2):=by rw [HR.out,if_pos hx]
  have CT:=zh (ZY (y:=[60]) G2.out.P hx)
  have hD1:=zh (HC.out.2.1.next _ _ HD.out (ZC G2.out.P.few.2.1 G2.out.P.lt hx).toAdv)
  clear hx
  subst hr
  clear HR
  go_upto_region 3 with (go_at_call 73;(with_reducible refine CT.out.mono ?_);rintro e w41 ⟨rfl,hp,hf⟩;have G41:=zh (G2.out.call hp hf);clear hp hf)
  clear CT G2
  (try go_upto_region 3 with fail)
  have NM:=zh (HC.out.1 w41.drew _ G41.out.drew.P hD1.out)
  (try go_upto_region 3 with fail)
  refine wp_region_noPanic ?_
  refine Zai [4] (fun V=>V.cell? ⟨b,0,none⟩=some (.int .i64 (Tr.kd ((ZK L pc) s).1))/\V.cell? ⟨b,1,none⟩=some (.slice X1 x1 y1)/\V.cell? ⟨b,2,none⟩=some (.slice Y1 i1 j1)/\V.cell? ⟨b,3,none⟩=some (.slice none 0 0)/\V.cell? ⟨b,4,none⟩=some (.int .i64 (Tr.ps ((ZK L pc) s).1))/\V.cell? ⟨b,5,none⟩=some (.slice Z1 k1 l1)) (by kernel_rfl) (G41.out.drew.cells) (fun hH=>?_)
  refine lk 0 rfl ?_
  (try simp only [cl,Act.put])
  refine lp 1 rfl ?_
  (try simp only [cl,Act.put])
  refine ln 2 rfl fun K hK=>?_
  go_simp
  go_at_call 132
  refine NM.out.mono ?_
  rintro e w51 ⟨xq,rfl,hp,ht,hf⟩
  have TS:=ht.shape2
  obtain ⟨X51,x51,y51,Y51,i51,j51,Z51,k51,l51,rfl⟩:=TS
  have G51:=zh (zi (G41.out.drew.call hp hf) ht)
  clear hp ht hf
  dsimp only [ZbQ]
  go_wp2_with fail
  refine hK.out _ _ (G51.out.1.cells) (fun hH2=>?_)
  clear hK K hH;have hH:=hH2;clear hH2
  (try simp only [cl,Act.put])
  refine ln 3 rfl fun K hK=>?_
  go_simp
  have BN:=zh (ZeK w51 0 ((.slice X1 x1 y1),(.slice Y1 i1 j1),(.slice Z1 k1 l1)) ((.slice X51 x51 y51),(.slice Y51 i51 j51),(.slice Z51 k51 l51)) ((ZK L pc) s).1 ((ZK L pc) (Zd (ZK L pc s).2)).1 (fun c=>w.heap.size<=c/\c≠b/\c≠w.heap.size) G51.out.1.T (G51.out.2.mono fun c hc=>G41.out.fresh hc) (fun c hc=>G51.out.1.fresh hc))
  go_at_call 133
  refine BN.out.mono ?_
  rintro e w52 ⟨zq,rfl,ht,hb⟩
  have TS:=ht.shape2
  obtain ⟨X52,x52,y52,Y52,i52,j52,Z52,k52,l52,rfl⟩:=TS
  have G52:=zh (zi (G51.out.1.below hb) ht)
  clear ht hb BN
  dsimp only [ZbQ]
  go_wp2_with fail
  refine hK.out _ _ (G52.out.1.cells) (fun hH2=>?_)
  clear hK K hH;have hH:=hH2;clear hH2
  (try simp only [cl,Act.put])
  refine le_ 4 rfl fun K hK=>?_
  obtain ⟨q0,q1,q2,q3,q4,q5⟩:=G52.out.1.zeros
  skip
  have qf:=G52.out.1.rfree
  have so:=Zy
  go_simp
  refine hK.out _ _ ?_
  clear hK K hH q0 q1 q2 q3 q4 q5 qf
  refine ZaG (by kernel_rfl) ?_ _
  refine NoPanic.normal ?_
  go_wp2_with fail
  obtain ⟨r0,r1,r2,r3,r4,r5⟩:=ZaH G52.out.1.R (.int .i64 (Tr.kd (Za0 0 ((ZK L pc) s).1 ((ZK L pc) (Zd (ZK L pc s).2)).1))) (.slice X52 x52 y52) (.slice Y52 i52 j52) (.slice none 0 0) (.int .i64 (Tr.ps (Za0 0 ((ZK L pc) s).1 ((ZK L pc) (Zd (ZK L pc s).2)).1))) (.slice Z52 k52 l52)
  obtain ⟨o1,o2,o3⟩:=G52.out.1.out (G52.out.2.mono fun c hc=>⟨hc.1,hc.2.2⟩) (.int .i64 (Tr.kd (Za0 0 ((ZK L pc) s).1 ((ZK L pc) (Zd (ZK L pc s).2)).1))) (.slice X52 x52 y52) (.slice Y52 i52 j52) (.slice none 0 0) (.int .i64 (Tr.ps (Za0 0 ((ZK L pc) s).1 ((ZK L pc) (Zd (ZK L pc s).2)).1))) (.slice Z52 k52 l52)
  exact bodyPost_ret (v:=.agg #[.int .i64 (Tr.kd (Za0 0 ((ZK L pc) s).1 ((ZK L pc) (Zd (ZK L pc s).2)).1)),(.slice X52 x52 y52),(.slice Y52 i52 j52),.slice none 0 0,.int .i64 (Tr.ps (Za0 0 ((ZK L pc) s).1 ((ZK L pc) (Zd (ZK L pc s).2)).1)),(.slice Z52 k52 l52)]) (by simp [results,Tryz.results122,go_sem,so,r0,r1,r2,r3,r4,r5]) rfl ⟨((.slice X52 x52 y52),(.slice Y52 i52 j52),(.slice Z52 k52 l52)),rfl,o1,o2,o3⟩
 ·by_cases hy:isM L [61,61] (ZK L pc s).2=true
  ·skip
   have CT:=zh (ZQ (y:=[60]) G2.out.P (by simpa using hx))
   go_upto_region 4 with (go_at_call 73;(with_reducible refine CT.out.mono ?_);rintro e w41 ⟨rfl,hp,hf⟩;have G41:=zh (G2.out.call hp hf);clear hp hf)
   clear CT G2
   have hr:R=(Za0 1 (ZK L pc s).1 (ZK L pc (Zd (ZK L pc s).2)).1,(ZK L pc (Zd (ZK L pc s).2)).2):=by rw [HR.out,if_neg hx,if_pos hy]
   have CT:=zh (ZY (y:=[61,61]) G41.out.P hy)
   have hD1:=zh (HC.out.2.1.next _ _ HD.out (ZC G41.out.P.few.2.1 G41.out.P.lt hy).toAdv)
   clear hx hy
   subst hr
   clear HR
   go_upto_region 5 with (go_at_call 73;(with_reducible refine CT.out.mono ?_);rintro e w42 ⟨rfl,hp,hf⟩;have G42:=zh (G41.out.call hp hf);clear hp hf)
   clear CT G41
   (try go_upto_region 5 with fail)
   have NM:=zh (HC.out.1 w42.drew _ G42.out.drew.P hD1.out)
   (try go_upto_region 5 with fail)
   refine wp_region_noPanic ?_
   refine Zai [4] (fun V=>V.cell? ⟨b,0,none⟩=some (.int .i64 (Tr.kd ((ZK L pc) s).1))/\V.cell? ⟨b,1,none⟩=some (.slice X1 x1 y1)/\V.cell? ⟨b,2,none⟩=some (.slice Y1 i1 j1)/\V.cell? ⟨b,3,none⟩=some (.slice none 0 0)/\V.cell? ⟨b,4,none⟩=some (.int .i64 (Tr.ps ((ZK L pc) s).1))/\V.cell? ⟨b,5,none⟩=some (.slice Z1 k1 l1)) (by kernel_rfl) (G42.out.drew.cells) (fun hH=>?_)
   refine lk 0 rfl ?_
   (try simp only [cl,Act.put])
   refine lp 1 rfl ?_
   (try simp only [cl,Act.put])
   refine ln 2 rfl fun K hK=>?_
   go_simp
   go_at_call 132
   refine NM.out.mono ?_
   rintro e w51 ⟨xq,rfl,hp,ht,hf⟩
   have TS:=ht.shape2
   obtain ⟨X51,x51,y51,Y51,i51,j51,Z51,k51,l51,rfl⟩:=TS
   have G51:=zh (zi (G42.out.drew.call hp hf) ht)
   clear hp ht hf
   dsimp only [ZbQ]
   go_wp2_with fail
   refine hK.out _ _ (G51.out.1.cells) (fun hH2=>?_)
   clear hK K hH;have hH:=hH2;clear hH2
   (try simp only [cl,Act.put])
   refine ln 3 rfl fun K hK=>?_
   go_simp
   have BN:=zh (ZeK w51 1 ((.slice X1 x1 y1),(.slice Y1 i1 j1),(.slice Z1 k1 l1)) ((.slice X51 x51 y51),(.slice Y51 i51 j51),(.slice Z51 k51 l51)) ((ZK L pc) s).1 ((ZK L pc) (Zd (ZK L pc s).2)).1 (fun c=>w.heap.size<=c/\c≠b/\c≠w.heap.size) G51.out.1.T (G51.out.2.mono fun c hc=>G42.out.fresh hc) (fun c hc=>G51.out.1.fresh hc))
   go_at_call 133
   refine BN.out.mono ?_
   rintro e w52 ⟨zq,rfl,ht,hb⟩
   have TS:=ht.shape2
   obtain ⟨X52,x52,y52,Y52,i52,j52,Z52,k52,l52,rfl⟩:=TS
   have G52:=zh (zi (G51.out.1.below hb) ht)
   clear ht hb BN
   dsimp only [ZbQ]
   go_wp2_with fail
   refine hK.out _ _ (G52.out.1.cells) (fun hH2=>?_)
   clear hK K hH;have hH:=hH2;clear hH2
   (try simp only [cl,Act.put])
   refine le_ 4 rfl fun K hK=>?_
   obtain ⟨q0,q1,q2,q3,q4,q5⟩:=G52.out.1.zeros
   skip
   have qf:=G52.out.1.rfree
   have so:=Zy
   go_simp
   refine hK.out _ _ ?_
   clear hK K hH q0 q1 q2 q3 q4 q5 qf
   refine ZaG (by kernel_rfl) ?_ _
   refine NoPanic.normal ?_
   go_wp2_with fail
   obtain ⟨r0,r1,r2,r3,r4,r5⟩:=ZaH G52.out.1.R (.int .i64 (Tr.kd (Za0 1 ((ZK L pc) s).1 ((ZK L pc) (Zd (ZK L pc s).2)).1))) (.slice X52 x52 y52) (.slice Y52 i52 j52) (.slice none 0 0) (.int .i64 (Tr.ps (Za0 1 ((ZK L pc) s).1 ((ZK L pc) (Zd (ZK L pc s).2)).1))) (.slice Z52 k52 l52)
   obtain ⟨o1,o2,o3⟩:=G52.out.1.out (G52.out.2.mono fun c hc=>⟨hc.1,hc.2.2⟩) (.int .i64 (Tr.kd (Za0 1 ((ZK L pc) s).1 ((ZK L pc) (Zd (ZK L pc s).2)).1))) (.slice X52 x52 y52) (.slice Y52 i52 j52) (.slice none 0 0) (.int .i64 (Tr.ps (Za0 1 ((ZK L pc) s).1 ((ZK L pc) (Zd (ZK L pc s).2)).1))) (.slice Z52 k52 l52)
   exact bodyPost_ret (v:=.agg #[.int .i64 (Tr.kd (Za0 1 ((ZK L pc) s).1 ((ZK L pc) (Zd (ZK L pc s).2)).1)),(.slice X52 x52 y52),(.slice Y52 i52 j52),.slice none 0 0,.int .i64 (Tr.ps (Za0 1 ((ZK L pc) s).1 ((ZK L pc) (Zd (ZK L pc s).2)).1)),(.slice Z52 k52 l52)]) (by simp [results,Tryz.results122,go_sem,so,r0,r1,r2,r3,r4,r5]) rfl ⟨((.slice X52 x52 y52),(.slice Y52 i52 j52),(.slice Z52 k52 l52)),rfl,o1,o2,o3⟩
  ·skip
   have CT:=zh (ZQ (y:=[60]) G2.out.P (by simpa using hx))
   go_upto_region 4 with (go_at_call 73;(with_reducible refine CT.out.mono ?_);rintro e w41 ⟨rfl,hp,hf⟩;have G41:=zh (G2.out.call hp hf);clear hp hf)
   clear CT G2
   have hr:R=ZK L pc s:=by rw [HR.out,if_neg hx,if_neg hy]
   have CT:=zh (ZQ (y:=[61,61]) G41.out.P (by simpa using hy))
   clear hx hy
   subst hr
   clear HR
   go_upto_region 6 with (go_at_call 73;(with_reducible refine CT.out.mono ?_);rintro e w42 ⟨rfl,hp,hf⟩;have G42:=zh (G41.out.call hp hf);clear hp hf)
   clear CT G41
   obtain ⟨q0,q1,q2,q3,q4,q5⟩:=G42.out.cells
   dsimp only at q1 q2 q5
   obtain ⟨z0,z1,z2,z3,z4,z5⟩:=G42.out.zeros
   have zf:=G42.out.rfree
   have so:=Zy
   go_wp2_with fail
   obtain ⟨r0,r1,r2,r3,r4,r5⟩:=ZaH G42.out.R (.int .i64 (Tr.kd ((ZK L pc) s).1)) (.slice X1 x1 y1) (.slice Y1 i1 j1) (.slice none 0 0) (.int .i64 (Tr.ps ((ZK L pc) s).1)) (.slice Z1 k1 l1)
   obtain ⟨o1,o2,o3⟩:=G42.out.out (G42.out.T.mono fun c hc=>⟨hc.1,hc.2.2⟩) (.int .i64 (Tr.kd ((ZK L pc) s).1)) (.slice X1 x1 y1) (.slice Y1 i1 j1) (.slice none 0 0) (.int .i64 (Tr.ps ((ZK L pc) s).1)) (.slice Z1 k1 l1)
   exact bodyPost_ret (v:=.agg #[.int .i64 (Tr.kd ((ZK L pc) s).1),(.slice X1 x1 y1),(.slice Y1 i1 j1),.slice none 0 0,.int .i64 (Tr.ps ((ZK L pc) s).1),(.slice Z1 k1 l1)]) (by simp [results,Tryz.results122,go_sem,so,r0,r1,r2,r3,r4,r5]) rfl ⟨((.slice X1 x1 y1),(.slice Y1 i1 j1),(.slice Z1 k1 l1)),rfl,o1,o2,o3⟩
end
section
open Go.RowKit
theorem Gn.an {w0 w wi:World} {bp b r:Nat} {vL:Value} {L:List Tok} {s:PS} {x:NV} {k p:Int} {ws:List Txt} {us:List Int} {vs:List (NV×Tr)} (h:Gn w0 w wi bp b r vL L s x k p ws us vs) (hr:r≠0):An w0 w wi bp b r vL L s x (.mk k ws us p (vs.map (·.2))):=
 ⟨h.P,h.F,h.K,h.tree,h.R hr,⟨h.B.1,h.B.2.1 hr,h.B.2.2⟩⟩
theorem Zje (w0 w:World) (bp:Nat) (vL:Value) (L:List Tok) (s:PS) (h:ParS w0 w bp vL L s) (he:s.err≠0) :
  Calls Tryz.prog 146 #[.pointer (some ⟨bp,0,none⟩)] w (Zcz w0 bp vL L w (.mk 20 [] [] (Ze L s) []) s):=by
 have hk0:(s.err != 0)=true:=by simp [he]
 have a0:=below_alloc1 w (.cells #[.int .i64 0,.slice none 0 0,.slice none 0 0,.slice none 0 0,.int .i64 0,.slice none 0 0] 58)
 have ha:=h.keep a0
 generalize hwa:w.alloc (.cells #[.int .i64 0,.slice none 0 0,.slice none 0 0,.slice none 0 0,.int .i64 0,.slice none 0 0] 58)=wa at *
 have RB:=zh (Zar w0 wa bp vL L s 20 ha)
 have H:=zh h
 have HZ:=zh h.size0
 clear a0 ha h he
 go_enter Tryz.func146,Tryz.ntmps146
 go_upto_region 2 with (go_at_call 46;(with_reducible refine RB.out.mono ?_);rintro e w1 ⟨rfl,hb⟩;have B1:=zh hb;clear hb)
 have G2:=zh (Gn.start (k:=20) (p:=Ze L s) H.out hwa B1.out)
 clear hwa RB
 generalize w1.alloc (.cells #[.int .i64 20,.slice none 0 0,.slice none 0 0,.slice none 0 0,.int .i64 (Ze L s),.slice none 0 0] 58)=w2 at *
 clear B1
 generalize w1.heap.size=b at *
 obtain ⟨c0,c1,c2,c3,c4⟩:=G2.out.P.cells
 have cf:=G2.out.P.frees
 go_upto_region 3 with fail
 clear c0 c1 c2 c3 c4 cf
 clear hk0
 obtain ⟨q0,q1,q2,q3,q4,q5⟩:=G2.out.cells
 dsimp only at q1 q2 q5
 have qf:=G2.out.free
 obtain ⟨z0,z1,z2,z3,z4,z5⟩:=G2.out.zeros HZ.out
 have zf:=G2.out.rfree HZ.out
 have so:=Zy
 go_wp2_with fail
 obtain ⟨r0,r1,r2,r3,r4,r5⟩:=ZaH (G2.out.R HZ.out) (.int .i64 20) (.slice none 0 0) (.slice none 0 0) (.slice none 0 0) (.int .i64 (Ze L s)) (.slice none 0 0)
 obtain ⟨o1,o2,o3⟩:=G2.out.out HZ.out (.int .i64 20) (.slice none 0 0) (.slice none 0 0) (.slice none 0 0) (.int .i64 (Ze L s)) (.slice none 0 0)
 exact bodyPost_ret (v:=.agg #[.int .i64 20,(.slice none 0 0),(.slice none 0 0),.slice none 0 0,.int .i64 (Ze L s),(.slice none 0 0)]) (by simp [results,Tryz.results146,go_sem,so,r0,r1,r2,r3,r4,r5]) rfl ⟨((.slice none 0 0),(.slice none 0 0),(.slice none 0 0)),rfl,o1,o2,o3⟩
theorem ZnW (w0 w:World) (bp:Nat) (vL:Value) (L:List Tok) (s:PS) (h:ParS w0 w bp vL L s) (he:s.err=0) (h1:(ZaK L s).1=1) :
  Calls Tryz.prog 146 #[.pointer (some ⟨bp,0,none⟩)] w (Zcz w0 bp vL L w (.mk 20 [] [(Zao L 0 s).1] (Ze L s) []) (Zao L 0 s).2):=by
 have hk0:(s.err != 0)=false:=by simp [he]
 obtain ⟨iS,hS,zS0,zS1,zS2⟩:=info_parts Zbd
 obtain ⟨iU,hU,zU0,zU1,zU2⟩:=info_parts Zbl
 obtain ⟨iN,hN,zN0,zN1,zN2⟩:=info_parts Za8
 have a0:=below_alloc1 w (.cells #[.int .i64 0,.slice none 0 0,.slice none 0 0,.slice none 0 0,.int .i64 0,.slice none 0 0] 58)
 have ha:=h.keep a0
 generalize hwa:w.alloc (.cells #[.int .i64 0,.slice none 0 0,.slice none 0 0,.slice none 0 0,.int .i64 0,.slice none 0 0] 58)=wa at *
 have RB:=zh (Zar w0 wa bp vL L s 20 ha)
 have H:=zh h
 have HZ:=zh h.size0
 clear a0 ha h he
 go_enter Tryz.func146,Tryz.ntmps146
 go_upto_region 2 with (go_at_call 46;(with_reducible refine RB.out.mono ?_);rintro e w1 ⟨rfl,hb⟩;have B1:=zh hb;clear hb)
 have G2:=zh (Gn.start (k:=20) (p:=Ze L s) H.out hwa B1.out)
 clear hwa RB
 generalize w1.alloc (.cells #[.int .i64 20,.slice none 0 0,.slice none 0 0,.slice none 0 0,.int .i64 (Ze L s),.slice none 0 0] 58)=w2 at *
 clear B1
 generalize w1.heap.size=b at *
 obtain ⟨c0,c1,c2,c3,c4⟩:=G2.out.P.cells
 have cf:=G2.out.P.frees
 go_upto_region 4 with fail
 clear c0 c1 c2 c3 c4 cf
 clear hk0
 obtain ⟨tk,tt,ta,ht⟩:∃ tk tt ta,ZaK L s=(tk,tt,ta):=⟨_,_,_,rfl⟩
 have CT:=zh (ZdM w0 w2 bp vL L s G2.out.P)
 rw [ht] at CT
 have hfd:=fun w=>ZeW tk tt ta w
 have hk1:((tk:Int)==1)=true:=by rw [ht] at h1;simp only at h1;rw [h1];rfl
 clear ht h1
 go_upto_region 5 with (go_at_call 47;(with_reducible refine CT.out.mono ?_);rintro e w3 ⟨rfl,hb⟩;have G3:=zh (G2.out.below hb);clear hb)
 clear CT hfd hk1 G2
 (try go_upto_region 5 with fail)
 refine ZeP 17 0 3 G3.out (by simp) (by intro _ _;go_simp) (fun wr hP=>Zfs w0 wr bp vL L s 0 hP) (fun v5 A4 n4 c4 w4 hG=>?_)
 (try dsimp only at hG)
 have G4:=zh hG
 clear hG G3
 (try simp only [cl,Act.put])
 obtain ⟨q0,q1,q2,q3,q4,q5⟩:=G4.out.cells
 dsimp only at q1 q2 q5
 have qf:=G4.out.free
 obtain ⟨z0,z1,z2,z3,z4,z5⟩:=G4.out.zeros HZ.out
 have zf:=G4.out.rfree HZ.out
 have so:=Zy
 go_wp2_with fail
 obtain ⟨r0,r1,r2,r3,r4,r5⟩:=ZaH (G4.out.R HZ.out) (.int .i64 20) (.slice none 0 0) (.slice A4 n4 c4) (.slice none 0 0) (.int .i64 (Ze L s)) (.slice none 0 0)
 obtain ⟨o1,o2,o3⟩:=G4.out.out HZ.out (.int .i64 20) (.slice none 0 0) (.slice A4 n4 c4) (.slice none 0 0) (.int .i64 (Ze L s)) (.slice none 0 0)
 exact bodyPost_ret (v:=.agg #[.int .i64 20,(.slice none 0 0),(.slice A4 n4 c4),.slice none 0 0,.int .i64 (Ze L s),(.slice none 0 0)]) (by simp [results,Tryz.results146,go_sem,so,r0,r1,r2,r3,r4,r5]) rfl ⟨((.slice none 0 0),(.slice A4 n4 c4),(.slice none 0 0)),rfl,o1,o2,o3⟩
theorem Zl4 (w0 w:World) (bp:Nat) (vL:Value) (L:List Tok) (s:PS) (h:ParS w0 w bp vL L s) (he:s.err=0) (h1:¬ (ZaK L s).1=1) (h2:ZaZ L s=true) :
  Calls Tryz.prog 146 #[.pointer (some ⟨bp,0,none⟩)] w (Zcz w0 bp vL L w (.mk 21 [(Zb L s).1] [] (Ze L s) []) (Zb L s).2):=by
 have hk0:(s.err != 0)=false:=by simp [he]
 obtain ⟨iS,hS,zS0,zS1,zS2⟩:=info_parts Zbd
 obtain ⟨iU,hU,zU0,zU1,zU2⟩:=info_parts Zbl
 obtain ⟨iN,hN,zN0,zN1,zN2⟩:=info_parts Za8
 have a0:=below_alloc1 w (.cells #[.int .i64 0,.slice none 0 0,.slice none 0 0,.slice none 0 0,.int .i64 0,.slice none 0 0] 58)
 have ha:=h.keep a0
 generalize hwa:w.alloc (.cells #[.int .i64 0,.slice none 0 0,.slice none 0 0,.slice none 0 0,.int .i64 0,.slice none 0 0] 58)=wa at *
 have RB:=zh (Zar w0 wa bp vL L s 20 ha)
 have H:=zh h
 have HZ:=zh h.size0
 clear a0 ha h he
 go_enter Tryz.func146,Tryz.ntmps146
 go_upto_region 2 with (go_at_call 46;(with_reducible refine RB.out.mono ?_);rintro e w1 ⟨rfl,hb⟩;have B1:=zh hb;clear hb)
 have G2:=zh (Gn.start (k:=20) (p:=Ze L s) H.out hwa B1.out)
 clear hwa RB
 generalize w1.alloc (.cells #[.int .i64 20,.slice none 0 0,.slice none 0 0,.slice none 0 0,.int .i64 (Ze L s),.slice none 0 0] 58)=w2 at *
 clear B1
 generalize w1.heap.size=b at *
 obtain ⟨c0,c1,c2,c3,c4⟩:=G2.out.P.cells
 have cf:=G2.out.P.frees
 go_upto_region 4 with fail
 clear c0 c1 c2 c3 c4 cf
 clear hk0
 obtain ⟨tk,tt,ta,ht⟩:∃ tk tt ta,ZaK L s=(tk,tt,ta):=⟨_,_,_,rfl⟩
 have CT:=zh (ZdM w0 w2 bp vL L s G2.out.P)
 rw [ht] at CT
 have hfd:=fun w=>ZeW tk tt ta w
 have hk1:((tk:Int)==1)=false:=by rw [ht] at h1;simp only at h1;simpa using (fun e=>h1 (by omega))
 clear ht h1
 go_upto_region 7 with (go_at_call 47;(with_reducible refine CT.out.mono ?_);rintro e w3 ⟨rfl,hb⟩;have G3:=zh (G2.out.below hb);clear hb)
 clear CT hfd hk1 G2
 have CN:=zh (ZcT w0 w3 bp vL L s G3.out.P)
 rw [h2] at CN
 clear h2
 go_upto_region 8 with (go_at_call 96;(with_reducible refine CN.out.mono ?_);rintro e w4 ⟨rfl,hb⟩;have G4:=zh (G3.out.below hb);clear hb)
 clear CN G3
 obtain ⟨q0,q1,q2,q3,q4,q5⟩:=G4.out.cells
 dsimp only at q1 q2 q5
 have qf:=G4.out.free
 go_upto_region 9 with fail
 clear q0 q1 q2 q3 q4 q5 qf
 have G5:=zh (G4.out.setk 21)
 clear G4
 generalize w4.setCell ⟨b,0,none⟩ (.int .i64 21)=w5 at *
 (try go_upto_region 9 with fail)
 refine Zbg 31 0 3 G5.out (by simp) (fun v5 A6 n6 c6 w6 hG=>?_)
 (try dsimp only at hG)
 have G6:=zh hG
 clear hG G5
 (try simp only [cl,Act.put])
 obtain ⟨q0,q1,q2,q3,q4,q5⟩:=G6.out.cells
 dsimp only at q1 q2 q5
 have qf:=G6.out.free
 obtain ⟨z0,z1,z2,z3,z4,z5⟩:=G6.out.zeros HZ.out
 have zf:=G6.out.rfree HZ.out
 have so:=Zy
 go_wp2_with fail
 obtain ⟨r0,r1,r2,r3,r4,r5⟩:=ZaH (G6.out.R HZ.out) (.int .i64 21) (.slice A6 n6 c6) (.slice none 0 0) (.slice none 0 0) (.int .i64 (Ze L s)) (.slice none 0 0)
 obtain ⟨o1,o2,o3⟩:=G6.out.out HZ.out (.int .i64 21) (.slice A6 n6 c6) (.slice none 0 0) (.slice none 0 0) (.int .i64 (Ze L s)) (.slice none 0 0)
 exact bodyPost_ret (v:=.agg #[.int .i64 21,(.slice A6 n6 c6),(.slice none 0 0),.slice none 0 0,.int .i64 (Ze L s),(.slice none 0 0)]) (by simp [results,Tryz.results146,go_sem,so,r0,r1,r2,r3,r4,r5]) rfl ⟨((.slice A6 n6 c6),(.slice none 0 0),(.slice none 0 0)),rfl,o1,o2,o3⟩
theorem Zll (w0 w:World) (bp:Nat) (vL:Value) (L:List Tok) (s:PS) (f:Nat) (h:ParS w0 w bp vL L s) (he:s.err=0) (h1:¬ (ZaK L s).1=1) (h2:ZaZ L s=false) (h3:isM L [45] s=true) (hd:Dp L (f+1) s) (hgo:Onw L (Dp L f) (ZE L f)) (ih:ZbH 146 w0 bp vL L (Dp L f) (ZE L f)) :
  Calls Tryz.prog 146 #[.pointer (some ⟨bp,0,none⟩)] w (Zcz w0 bp vL L w (.mk 23 [] [] (Ze L s) [(ZE L f (inM L (Zd s))).1]) (ZdW (ZE L f (inM L (Zd s))).2)):=by
 have AG:=ZC h.few.2.1 h.lt h3
 have D1:=(ZX (f+1)).next _ _ hd AG.toAdv
 have HI:=zh (zi D1 (Zep D1 (.inl (show (Zd s).err=0 from he))))
 have HH:=zh (zi ih (zi hgo h3))
 clear AG D1 hd ih hgo h3
 have hk0:(s.err != 0)=false:=by simp [he]
 obtain ⟨iS,hS,zS0,zS1,zS2⟩:=info_parts Zbd
 obtain ⟨iU,hU,zU0,zU1,zU2⟩:=info_parts Zbl
 obtain ⟨iN,hN,zN0,zN1,zN2⟩:=info_parts Za8
 have a0:=below_alloc1 w (.cells #[.int .i64 0,.slice none 0 0,.slice none 0 0,.slice none 0 0,.int .i64 0,.slice none 0 0] 58)
 have ha:=h.keep a0
 generalize hwa:w.alloc (.cells #[.int .i64 0,.slice none 0 0,.slice none 0 0,.slice none 0 0,.int .i64 0,.slice none 0 0] 58)=wa at *
 have RB:=zh (Zar w0 wa bp vL L s 20 ha)
 have H:=zh h
 have HZ:=zh h.size0
 clear a0 ha h he
 go_enter Tryz.func146,Tryz.ntmps146
 go_upto_region 2 with (go_at_call 46;(with_reducible refine RB.out.mono ?_);rintro e w1 ⟨rfl,hb⟩;have B1:=zh hb;clear hb)
 have G2:=zh (Gn.start (k:=20) (p:=Ze L s) H.out hwa B1.out)
 clear hwa RB
 generalize w1.alloc (.cells #[.int .i64 20,.slice none 0 0,.slice none 0 0,.slice none 0 0,.int .i64 (Ze L s),.slice none 0 0] 58)=w2 at *
 clear B1
 generalize w1.heap.size=b at *
 obtain ⟨c0,c1,c2,c3,c4⟩:=G2.out.P.cells
 have cf:=G2.out.P.frees
 go_upto_region 4 with fail
 clear c0 c1 c2 c3 c4 cf
 clear hk0
 obtain ⟨tk,tt,ta,ht⟩:∃ tk tt ta,ZaK L s=(tk,tt,ta):=⟨_,_,_,rfl⟩
 have CT:=zh (ZdM w0 w2 bp vL L s G2.out.P)
 rw [ht] at CT
 have hfd:=fun w=>ZeW tk tt ta w
 have hk1:((tk:Int)==1)=false:=by rw [ht] at h1;simp only at h1;simpa using (fun e=>h1 (by omega))
 clear ht h1
 go_upto_region 7 with (go_at_call 47;(with_reducible refine CT.out.mono ?_);rintro e w3 ⟨rfl,hb⟩;have G3:=zh (G2.out.below hb);clear hb)
 clear CT hfd hk1 G2
 have CN:=zh (ZcT w0 w3 bp vL L s G3.out.P)
 rw [h2] at CN
 clear h2
 go_upto_region 11 with (go_at_call 96;(with_reducible refine CN.out.mono ?_);rintro e w4 ⟨rfl,hb⟩;have G4:=zh (G3.out.below hb);clear hb)
 clear CN G3
 have CT:=zh (ZY (y:=[45]) G4.out.P HH.out.2.2)
 go_upto_region 12 with (go_at_call 73;(with_reducible refine CT.out.mono ?_);rintro e w5 ⟨rfl,hp,hf⟩;have G5:=zh (G4.out.call hp hf);clear hp hf)
 clear G4
 clear CT
 obtain ⟨q0,q1,q2,q3,q4,q5⟩:=G5.out.cells
 dsimp only at q1 q2 q5
 have qf:=G5.out.free
 go_upto_region 13 with fail
 clear q0 q1 q2 q3 q4 q5 qf
 have G6:=zh (G5.out.setk 23)
 clear G5
 generalize w5.setCell ⟨b,0,none⟩ (.int .i64 23)=w6 at *
 have CT:=zh (Zix w0 w6 bp vL L (Zd s) G6.out.P HI.out.1.lo (by have:=HI.out.1.hi;omega))
 go_upto_region 14 with (go_at_call 100;(with_reducible refine CT.out.mono ?_);rintro e w7 ⟨rfl,hp,hf⟩;have G7:=zh (G6.out.call hp hf);clear hp hf)
 clear G6
 clear CT
 (try go_upto_region 14 with fail)
 refine ZdV 47 0 3 G7.out (by simp) (by intro _ _;go_simp) (fun wr hP=>HH.out.1 wr _ hP HI.out.2) (fun v5 A8 n8 c8 y8 w8 hG=>?_)
 (try dsimp only at hG)
 have G8:=zh hG
 clear hG G7
 (try simp only [cl,Act.put])
 have HD:=zh ((ZX f).next _ _ HI.out.2 (HH.out.2.1 _ HI.out.2).toAdv)
 (try go_upto_region 15 with fail)
 have LO:=zh (show 0<=PS.deep (ZE L f (inM L (Zd s))).2/\PS.deep (ZE L f (inM L (Zd s))).2<=100000 from ⟨HD.out.lo,by have:=HD.out.hi;omega⟩)
 have wd:IntKind.i64.wrap (PS.deep (ZE L f (inM L (Zd s))).2-1)=PS.deep (ZE L f (inM L (Zd s))).2-1:=IntWalk.i64_in _ (by have:=LO.out;omega)
 have DEC:=G8.out.P.deeper (PS.deep (ZE L f (inM L (Zd s))).2-1)
 have G9:=zh (G8.out.call DEC.1 DEC.2)
 clear DEC
 obtain ⟨c0,c1,c2,c3,c4⟩:=G8.out.P.cells
 have cf:=G8.out.P.frees
 go_upto_region 16 with fail
 clear c0 c1 c2 c3 c4 cf
 clear wd LO G8
 generalize w8.setCell ⟨bp,2,none⟩ (.int .i64 (PS.deep (ZE L f (inM L (Zd s))).2-1))=w9 at *
 obtain ⟨q0,q1,q2,q3,q4,q5⟩:=G9.out.cells
 dsimp only at q1 q2 q5
 have qf:=G9.out.free
 obtain ⟨z0,z1,z2,z3,z4,z5⟩:=G9.out.zeros HZ.out
 have zf:=G9.out.rfree HZ.out
 have so:=Zy
 go_wp2_with fail
 obtain ⟨r0,r1,r2,r3,r4,r5⟩:=ZaH (G9.out.R HZ.out) (.int .i64 23) (.slice none 0 0) (.slice none 0 0) (.slice none 0 0) (.int .i64 (Ze L s)) (.slice A8 n8 c8)
 obtain ⟨o1,o2,o3⟩:=G9.out.out HZ.out (.int .i64 23) (.slice none 0 0) (.slice none 0 0) (.slice none 0 0) (.int .i64 (Ze L s)) (.slice A8 n8 c8)
 exact bodyPost_ret (v:=.agg #[.int .i64 23,(.slice none 0 0),(.slice none 0 0),.slice none 0 0,.int .i64 (Ze L s),(.slice A8 n8 c8)]) (by simp [results,Tryz.results146,go_sem,so,r0,r1,r2,r3,r4,r5]) rfl ⟨((.slice none 0 0),(.slice none 0 0),(.slice A8 n8 c8)),rfl,o1,o2,o3⟩
theorem Zlm (w0 w:World) (bp:Nat) (vL:Value) (L:List Tok) (s:PS) (f:Nat) (h:ParS w0 w bp vL L s) (he:s.err=0) (h1:¬ (ZaK L s).1=1) (h2:ZaZ L s=false) (h3:isM L [45] s=false) (hd:Dp L (f+1) s) (hgo:Onw L (Dp L f) (ZaO L (ZE L f))) (hex:ZbH 122 w0 bp vL L (Dp L f) (ZaO L (ZE L f))) :
  Calls Tryz.prog 146 #[.pointer (some ⟨bp,0,none⟩)] w (Zcz w0 bp vL L w (ZaO L (ZE L f) (inM L (Zf L [40] s))).1 (Zf L [41] (ZdW (ZaO L (ZE L f) (inM L (Zf L [40] s))).2))):=by
 have AG:=Zq h.few.2.1 [40] h.lt
 have D1:=(ZX (f+1)).next _ _ hd AG.toAdv
 have HI:=zh (zi D1 (Zep D1 (.inr (by rw [AG.deep];exact (hd.fuel he).1))))
 have HH:=zh (zi hex (zi hgo (show isM L [45] s=false from h3)))
 clear AG D1 hd hex hgo h3
 have hk0:(s.err != 0)=false:=by simp [he]
 obtain ⟨iS,hS,zS0,zS1,zS2⟩:=info_parts Zbd
 obtain ⟨iU,hU,zU0,zU1,zU2⟩:=info_parts Zbl
 obtain ⟨iN,hN,zN0,zN1,zN2⟩:=info_parts Za8
 have a0:=below_alloc1 w (.cells #[.int .i64 0,.slice none 0 0,.slice none 0 0,.slice none 0 0,.int .i64 0,.slice none 0 0] 58)
 have ha:=h.keep a0
 generalize hwa:w.alloc (.cells #[.int .i64 0,.slice none 0 0,.slice none 0 0,.slice none 0 0,.int .i64 0,.slice none 0 0] 58)=wa at *
 have RB:=zh (Zar w0 wa bp vL L s 20 ha)
 have H:=zh h
 have HZ:=zh h.size0
 clear a0 ha h he
 go_enter Tryz.func146,Tryz.ntmps146
 go_upto_region 2 with (go_at_call 46;(with_reducible refine RB.out.mono ?_);rintro e w1 ⟨rfl,hb⟩;have B1:=zh hb;clear hb)
 have G2:=zh (Gn.start (k:=20) (p:=Ze L s) H.out hwa B1.out)
 clear hwa RB
 generalize w1.alloc (.cells #[.int .i64 20,.slice none 0 0,.slice none 0 0,.slice none 0 0,.int .i64 (Ze L s),.slice none 0 0] 58)=w2 at *
 clear B1
 generalize w1.heap.size=b at *
 obtain ⟨c0,c1,c2,c3,c4⟩:=G2.out.P.cells
 have cf:=G2.out.P.frees
 go_upto_region 4 with fail
 clear c0 c1 c2 c3 c4 cf
 clear hk0
 obtain ⟨tk,tt,ta,ht⟩:∃ tk tt ta,ZaK L s=(tk,tt,ta):=⟨_,_,_,rfl⟩
 have CT:=zh (ZdM w0 w2 bp vL L s G2.out.P)
 rw [ht] at CT
 have hfd:=fun w=>ZeW tk tt ta w
 have hk1:((tk:Int)==1)=false:=by rw [ht] at h1;simp only at h1;simpa using (fun e=>h1 (by omega))
 clear ht h1
 go_upto_region 7 with (go_at_call 47;(with_reducible refine CT.out.mono ?_);rintro e w3 ⟨rfl,hb⟩;have G3:=zh (G2.out.below hb);clear hb)
 clear CT hfd hk1 G2
 have CN:=zh (ZcT w0 w3 bp vL L s G3.out.P)
 rw [h2] at CN
 clear h2
 go_upto_region 11 with (go_at_call 96;(with_reducible refine CN.out.mono ?_);rintro e w4 ⟨rfl,hb⟩;have G4:=zh (G3.out.below hb);clear hb)
 clear CN G3
 have CT:=zh (ZQ (y:=[45]) G4.out.P HH.out.2.2)
 go_upto_region 17 with (go_at_call 73;(with_reducible refine CT.out.mono ?_);rintro e w5 ⟨rfl,hp,hf⟩;have G5:=zh (G4.out.call hp hf);clear hp hf)
 clear G4
 clear CT
 have CT:=zh (Zad w0 w5 bp vL L s [40] G5.out.P)
 go_upto_region 18 with (go_at_call 71;(with_reducible refine CT.out.mono ?_);rintro e w6 ⟨rfl,hp,hf⟩;have G6:=zh (G5.out.call hp hf);clear hp hf)
 clear G5
 clear CT
 have CT:=zh (Zix w0 w6 bp vL L (Zf L [40] s) G6.out.P HI.out.1.lo (by have:=HI.out.1.hi;omega))
 go_upto_region 19 with (go_at_call 100;(with_reducible refine CT.out.mono ?_);rintro e w7 ⟨rfl,hp,hf⟩;have G7:=zh (G6.out.call hp hf);clear hp hf)
 clear G6
 clear CT
 have NM:=zh (HH.out.1 w7 _ G7.out.P HI.out.2)
 have G8:=zh (G7.out.an HZ.out)
 clear G7
 go_upto_region 20 with (go_at_call 122;refine NM.out.mono ?_;rintro e w8 ⟨xq,rfl,hp,ht,hf⟩;have TS:=ht.shape2;obtain ⟨X8,x8,y8,Y8,i8,j8,Z8,k8,l8,rfl⟩:=TS;have G9:=zh (zi (G8.out.call hp hf) (ht.mono fun c hc=>G8.out.fresh hc));clear hp ht hf;dsimp only [ZbQ];obtain ⟨q0,q1,q2,q3,q4,q5⟩:=G9.out.1.cells;dsimp only [Tr.kd,Tr.ps] at q0 q1 q2 q4 q5;have qf:=G9.out.1.free;have so:=Zy)
 clear q0 q1 q2 q3 q4 q5 qf so
 have G10:=zh (G9.out.1.put G9.out.2)
 clear NM G8 G9
 generalize ((((((w8.setCell ⟨b,0,none⟩ (.int .i64 (Tr.kd (ZaO L (ZE L f) (inM L (Zf L [40] s))).1))).setCell ⟨b,1,none⟩ (.slice X8 x8 y8)).setCell ⟨b,2,none⟩ (.slice Y8 i8 j8)).setCell ⟨b,3,none⟩ (.slice none 0 0)).setCell ⟨b,4,none⟩ (.int .i64 (Tr.ps (ZaO L (ZE L f) (inM L (Zf L [40] s))).1))).setCell ⟨b,5,none⟩ (.slice Z8 k8 l8))=w10 at *
 have HD:=zh ((ZX f).next _ _ HI.out.2 (HH.out.2.1 _ HI.out.2).toAdv)
 have LO:=zh (show 0<=PS.deep (ZaO L (ZE L f) (inM L (Zf L [40] s))).2/\PS.deep (ZaO L (ZE L f) (inM L (Zf L [40] s))).2<=100000 from ⟨HD.out.lo,by have:=HD.out.hi;omega⟩)
 have wd:IntKind.i64.wrap (PS.deep (ZaO L (ZE L f) (inM L (Zf L [40] s))).2-1)=PS.deep (ZaO L (ZE L f) (inM L (Zf L [40] s))).2-1:=IntWalk.i64_in _ (by have:=LO.out;omega)
 have DEC:=G10.out.P.deeper (PS.deep (ZaO L (ZE L f) (inM L (Zf L [40] s))).2-1)
 have G11:=zh (G10.out.call DEC.1 DEC.2)
 clear DEC
 obtain ⟨c0,c1,c2,c3,c4⟩:=G10.out.P.cells
 have cf:=G10.out.P.frees
 go_upto_region 21 with fail
 clear c0 c1 c2 c3 c4 cf
 clear wd LO G10
 generalize w10.setCell ⟨bp,2,none⟩ (.int .i64 (PS.deep (ZaO L (ZE L f) (inM L (Zf L [40] s))).2-1))=w11 at *
 have CT:=zh (Zad w0 w11 bp vL L (ZdW (ZaO L (ZE L f) (inM L (Zf L [40] s))).2) [41] G11.out.P)
 go_upto_region 22 with (go_at_call 71;(with_reducible refine CT.out.mono ?_);rintro e w12 ⟨rfl,hp,hf⟩;have G12:=zh (G11.out.call hp hf);clear hp hf)
 clear G11
 clear CT
 obtain ⟨q0,q1,q2,q3,q4,q5⟩:=G12.out.cells
 dsimp only at q1 q2 q5
 obtain ⟨z0,z1,z2,z3,z4,z5⟩:=G12.out.zeros
 have zf:=G12.out.rfree
 have so:=Zy
 go_wp2_with fail
 obtain ⟨r0,r1,r2,r3,r4,r5⟩:=ZaH G12.out.R (.int .i64 (Tr.kd (ZaO L (ZE L f) (inM L (Zf L [40] s))).1)) (.slice X8 x8 y8) (.slice Y8 i8 j8) (.slice none 0 0) (.int .i64 (Tr.ps (ZaO L (ZE L f) (inM L (Zf L [40] s))).1)) (.slice Z8 k8 l8)
 obtain ⟨o1,o2,o3⟩:=G12.out.out (G12.out.T.mono fun c hc=>⟨hc.1,hc.2.2⟩) (.int .i64 (Tr.kd (ZaO L (ZE L f) (inM L (Zf L [40] s))).1)) (.slice X8 x8 y8) (.slice Y8 i8 j8) (.slice none 0 0) (.int .i64 (Tr.ps (ZaO L (ZE L f) (inM L (Zf L [40] s))).1)) (.slice Z8 k8 l8)
 exact bodyPost_ret (v:=.agg #[.int .i64 (Tr.kd (ZaO L (ZE L f) (inM L (Zf L [40] s))).1),(.slice X8 x8 y8),(.slice Y8 i8 j8),.slice none 0 0,.int .i64 (Tr.ps (ZaO L (ZE L f) (inM L (Zf L [40] s))).1),(.slice Z8 k8 l8)]) (by simp [results,Tryz.results146,go_sem,so,r0,r1,r2,r3,r4,r5]) rfl ⟨((.slice X8 x8 y8),(.slice Y8 i8 j8),(.slice Z8 k8 l8)),rfl,o1,o2,o3⟩
theorem Zjd (w0:World) (bp:Nat) (vL:Value) (L:List Tok) (hE:ZW L):∀ f,ZbH 146 w0 bp vL L (Dp L f) (ZE L f)
 | 0=>fun w s h hd=>by
  by_cases he:s.err=0
  ·have:=hd.fuel he;omega
  ·exact Zje w0 w bp vL L s h he
 | f+1=>fun w s h hd=>by
  have ih:=Zjd w0 bp vL L hE f
  unfold ZE
  by_cases he:s.err≠0
  ·rw [if_pos he];exact Zje w0 w bp vL L s h he
  rw [if_neg he]
  have e0:s.err=0:=Classical.not_not.1 he
  by_cases h1:(ZaK L s).1=1
  ·rw [if_pos h1];exact ZnW w0 w bp vL L s h e0 h1
  rw [if_neg h1]
  by_cases h2:ZaZ L s=true
  ·rw [if_pos h2];exact Zl4 w0 w bp vL L s h e0 h1 h2
  rw [if_neg h2]
  have h20:ZaZ L s=false:=by simpa using h2
  by_cases h3:isM L [45] s=true
  ·rw [if_pos h3];exact Zll w0 w bp vL L s f h e0 h1 h20 h3 hd (Zb9 hE f) ih
  rw [if_neg h3]
  have h30:isM L [45] s=false:=by simpa using h3
  have hex:=Zj6 w0 bp vL L hE (Dp L f) (ZX f) (ZE L f) (Zb9 hE f) (Zlo w0 bp vL L hE (Dp L f) (ZX f) (ZE L f) (Zb9 hE f) (ZhL w0 bp vL L (Dp L f) (ZX f) (ZE L f) (Zb9 hE f) ih))
  exact Zlm w0 w bp vL L s f h e0 h1 h20 h30 hd (ZgC hE (ZX f) (Zb9 hE f)) hex
theorem Zpe (w0:World) (bp:Nat) (vL:Value) (L:List Tok) (hE:ZW L) (f:Nat):ZbH 122 w0 bp vL L (Dp L f) (ZaO L (ZE L f)):=
 Zj6 w0 bp vL L hE (Dp L f) (ZX f) (ZE L f) (Zb9 hE f) (Zlo w0 bp vL L hE (Dp L f) (ZX f) (ZE L f) (Zb9 hE f) (ZhL w0 bp vL L (Dp L f) (ZX f) (ZE L f) (Zb9 hE f) (Zjd w0 bp vL L hE f)))
end
end Go.Proofs.YtkongcicmajolaaGreatDoor
