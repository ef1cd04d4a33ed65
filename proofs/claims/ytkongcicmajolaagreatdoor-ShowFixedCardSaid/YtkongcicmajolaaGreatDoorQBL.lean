import Derived.Test.YtkongcicmajolaaGreatDoorQBD
import Derived.Test.YtkongcicmajolaaGreatDoorQBK
set_option maxRecDepth 100000
set_option maxHeartbeats 8000000
namespace Go.Proofs.YtkongcicmajolaaGreatDoor
section
open Go.RowKit
section
variable {w0 w wi w1 w3:World} {bp b r:Nat} {vL:Value} {L:List Tok} {s s2:PS} {x:NV} {k p:Int} {ws:List Txt} {us:List Int} {vs:List (NV×Tr)}
theorem Gn.words {v:Value} {ys:List Txt} (h:Gn w0 w wi bp b r vL L s x k p ws us []) (hy:∀ y∈ys,y.length<=maxLen) (hown:w3.ownsRow w.heap.size 9 1 v (ws.length+ys.length) (ws.map txt++ys.map txt)) (hg:wi.grownBy w3 x.1.ownBlock) :
  w3.cell? ⟨b,1,none⟩=some x.1/\w3.frozen? ⟨b,1,none⟩=false/\Gn w0 w (w3.setCell ⟨b,1,none⟩ v) bp b r vL L s (v,x.2.1,x.2.2) k p (ws++ys) us []:=by
 have kb:=h.K.grown hg (h.K.off h.W (by decide))
 have rb:=fun hr=>(h.R hr).grown hg ((h.R hr).off h.W (by decide))
 obtain ⟨hp,hf⟩:=h.grow hg (h.P.box.off h.W (by decide)) (fun q hq=>(h.W.lt q hq).1)
 have hu:=ZcM h.U h.W (by decide) hg
 have hv:=ZcM h.V h.W (by decide) hg
 have k2:=kb.set 1 v
 simp only [List.setIfInBounds_toArray,List.set_cons_zero,List.set_cons_succ] at k2
 have nb:some b≠some bp:=fun e=>h.bne.1 (by injection e)
 have gs:w3.grownBy (w3.setCell ⟨b,1,none⟩ v) (some b):=Zas
 refine ⟨kb.blk.cell 1,kb.blk.free 1,⟨⟨hp.box.grown gs nb,hp.toks,hp.below.setCell (p:=⟨b,1,none⟩) (Nat.le_trans h.B.2.2.2 h.B.1) v,hp.ge,hp.lt,hp.few⟩,?_,k2,?_,?_,Zb3 hu kb (by decide),ZdJ hv h.N.1,h.N,fun _ hq=>(nomatch hq),fun hr=>(rb hr).other (p:=⟨b,1,none⟩) h.B.2.2.1 v,h.B⟩⟩
 ·exact ⟨gs.os.trans hf.os,gs.tape.trans hf.tape,gs.output.trans hf.output,Nat.le_trans hf.size gs.size,fun c hc hn=>(gs.block c (Nat.lt_of_lt_of_le hc hf.size) (fun e=>by injection e with e;have:=h.B.1;omega)).trans (hf.block c hc hn)⟩
 ·rw [List.length_append,List.map_append];exact Zb3 hown kb (by decide)
 ·intro z hz
  rcases List.mem_append.1 hz with hz | hz
  ·exact h.M z hz
  ·exact hy z hz
end
theorem Zqz (w0 w wi:World) (bp b:Nat) (vL:Value) (L:List Tok) (s:PS) (p:Int) (fu:Nat) (ex:PS->Tr×PS) (hd:Dp L fu s) (hex:ZbH 122 w0 bp vL L (Dp L fu) ex) (hxo:Onw L (Dp L fu) ex) (h1:isM L [61] (Zb L s).2=true) (hG:Gn w0 w wi bp b w.heap.size vL L s ZeZ 8 p [] [] []) :
  Calls Tryz.prog 124 #[.pointer (some ⟨bp,0,none⟩),.pointer (some ⟨b,0,none⟩)] wi (Zem w0 w bp b w.heap.size vL L (ZcC L ex p s).1 (ZcC L ex p s).2):=by
 obtain ⟨R,hR⟩:∃ R,R=ZT L (ZaS L ex) (L.length+1) true [] (Zf L [40] (Zb L (Zd (Zb L s).2)).2):=⟨_,rfl⟩
 have hM:ZcC L ex p s=(.mk 14 [(Zb L (Zd (Zb L s).2)).1,(Zb L s).1] [] p R.1,Zf L [59] R.2):=by rw [hR];unfold ZcC;simp only [h1,if_true]
 rw [hM]
 have D:=ZX (L:=L) fu
 have g1:=Zo hG.P.few.2.1 hG.P.lt
 have g2:=ZC hG.P.few.2.1 (g1.lt hG.P.lt) h1
 have g3:=Zo hG.P.few.2.1 (g2.lt (g1.lt hG.P.lt))
 have g4:=Zq hG.P.few.2.1 [40] (g3.lt (g2.lt (g1.lt hG.P.lt)))
 have HD:=zh (D.next _ _ hd (((g1.toAdv.trans g2.toAdv).trans g3.toAdv).trans g4.toAdv))
 have HR:=zh hR
 have HX:=zh (zi hex hxo)
 have H1:=zh h1
 have NA:=zh hG.P.name_len
 clear hM hR D g1 g4 hd hex hxo h1 g2 g3
 have G2:=zh hG
 clear hG
 obtain ⟨iS,hS,zS0,zS1,zS2⟩:=info_parts Zbd
 obtain ⟨iU,hU,zU0,zU1,zU2⟩:=info_parts Zbl
 obtain ⟨iN,hN,zN0,zN1,zN2⟩:=info_parts Za8
 go_enter Tryz.func124,Tryz.ntmps124
 obtain ⟨q0,q1,q2,q3,q4,q5⟩:=G2.out.cells
 dsimp only at q1 q2 q5
 have qf:=G2.out.free
 go_upto_region 1 with fail
 clear q0 q1 q2 q3 q4 q5 qf
 have G3:=zh (G2.out.setk 14)
 clear G2
 generalize wi.setCell ⟨b,0,none⟩ (.int .i64 14)=w3 at *
 have CT:=zh (Zdq w0 w3 bp vL L s G3.out.P)
 go_upto_region 2 with (go_at_call 72;(with_reducible refine CT.out.mono ?_);rintro e w4 ⟨rfl,hp,hf⟩;have G4:=zh (G3.out.call hp hf);clear hp hf)
 clear G3
 clear CT
 have CT:=zh (ZY (y:=[61]) G4.out.P H1.out)
 go_upto_region 3 with (go_at_call 73;(with_reducible refine CT.out.mono ?_);rintro e w5 ⟨rfl,hp,hf⟩;have G5:=zh (G4.out.call hp hf);clear hp hf)
 clear G4
 clear CT
 (try go_upto_region 3 with fail)
 have NM:=zh (Zdq w0 w5.drew bp vL L (Zd (Zb L s).2) G5.out.drew.P)
 have NL:=zh G5.out.P.name_len
 (try go_upto_region 3 with fail)
 refine wp_region_noPanic ?_
 refine Zai [14] (fun V=>V.cell? ⟨b,1,none⟩=some (.slice none 0 0)) (by kernel_rfl) (G5.out.drew.cells.2.1) (fun hH=>?_)
 refine lp 0 rfl ?_
 refine lp 1 rfl ?_
 refine lp 2 rfl ?_
 refine lp 3 rfl ?_
 refine lp 4 rfl ?_
 refine lk 5 rfl ?_
 (try simp only [cl,Act.put])
 refine lp 6 rfl ?_
 refine lp 8 rfl ?_
 (try simp only [cl,Act.put])
 refine ln 7 rfl fun K hK=>?_
 go_simp
 go_at_call 72
 refine NM.out.mono ?_
 rintro e w6 ⟨rfl,hp,hf⟩
 have G6:=zh (G5.out.drew.call hp hf)
 clear hp hf
 go_wp2_with fail
 refine hK.out _ _ (G6.out.cells.2.1) (fun hH2=>?_)
 clear hK K hH;have hH:=hH2;clear hH2
 (try simp only [cl,Act.put])
 refine ln 9 rfl fun K hK=>?_
 go_simp
 have G7:=zh (G6.out.below (below_alloc1 w6 (.cells #[txt (Zb L (Zd (Zb L s).2)).1,txt (Zb L s).1] 9)))
 refine hK.out _ _ (G7.out.cells.2.1) (fun hH2=>?_)
 clear hK K hH;have hH:=hH2;clear hH2
 (try simp only [cl,Act.put])
 refine ln 10 rfl fun K hK=>?_
 refine ZaF _ rfl _ _ 33 rfl w.heap.size 9 iS (.string ⟨#[]⟩) 1 16 Tryz.underlying33 hS zS0 zS1 zS2 rfl (by decide) (.slice none 0 0) _ _ rfl G7.out.W (w6.heap.size+1) (some ⟨w6.heap.size,0,none⟩) 2 2 [txt (Zb L (Zd (Zb L s).2)).1,txt (Zb L s).1] rfl (Zi6 _ _ _ _) (by intro u hu;simp at hu;rcases hu with rfl | rfl<;>rfl) (by simp [maxLen]) (by simp) G7.out.F.size ?_
 intro vq w8 hown hgrow _
 have OS:=Zbc hown
 obtain ⟨A8,n8,c8,rfl⟩:=OS
 have G8:=zh (G7.out.words (ys:=[(Zb L (Zd (Zb L s).2)).1,(Zb L s).1]) (by intro z hz;simp at hz;rcases hz with rfl | rfl;exact NL.out;exact NA.out) hown hgrow)
 clear hown hgrow
 refine hK.out _ _ (G8.out.1) (fun hH2=>?_)
 clear hK K hH;have hH:=hH2;clear hH2
 (try simp only [cl,Act.put])
 refine lp 11 rfl ?_
 refine lp 12 rfl ?_
 refine lp 13 rfl ?_
 (try simp only [cl,Act.put])
 refine le_ 14 rfl fun K hK=>?_
 have k1:=G8.out.1
 have k2:=G8.out.2.1
 go_simp
 refine hK.out _ _ ?_
 clear hK K hH k1 k2
 refine ZaG (by kernel_rfl) ?_ _
 refine NoPanic.normal ?_
 have G9:=zh G8.out.2.2
 clear G5 G6 G7 G8 NM NL
 generalize w8.setCell ⟨b,1,none⟩ (.slice A8 n8 c8)=w9 at *
 (try go_upto_region 5 with fail)
 have CT:=zh (Zad w0 w9 bp vL L (Zb L (Zd (Zb L s).2)).2 [40] G9.out.P)
 go_upto_region 7 with (go_at_call 71;(with_reducible refine CT.out.mono ?_);rintro e w10 ⟨rfl,hp,hf⟩;have G10:=zh (G9.out.call hp hf);clear hp hf)
 clear G9
 clear CT
 go_upto_region 7 with fail
 have FEW:=zh G10.out.P.few.1
 go_loopg [5] (L.length+1) (fun g vf wr=>∃ (l:List Tr) (t:PS) (x:NV) (vs:List (NV×Tr)) (first:Bool),vf=.bool first/\R=ZT L (ZaS L ex) g first l t/\Dp L fu t/\(t.err=0->L.length-t.at_<g)/\vs.length+g<=L.length+1/\vs.map (·.2)=l/\Gn w0 w wr bp b w.heap.size vL L t x 14 p [(Zb L (Zd (Zb L s).2)).1,(Zb L s).1] [] vs)
 case atStart=>exact ⟨[],_,_,[],true,rfl,HR.out,HD.out,fun _=>by omega,by simp,rfl,G10.out⟩
 case round=>
  obtain ⟨l,t,x,vs,first,rfl,hr,hD,hf,hlen,hvl,hG⟩:=hrel
  have SH:=hG.shape
  obtain ⟨xA,xn,xc,xB,xm,xd,xC,xq,xe,rfl⟩:=SH
  clear G10
  have G40:=zh hG
  have LB:=zh (show vs.length<=100004 by have:=FEW.out;omega)
  clear hG
  by_cases he:t.err=0
  ·skip
   obtain ⟨g2,rfl⟩:∃ g2,gk=g2+1:=⟨gk-1,by have:=hf he;omega⟩
   have hk0:(t.err==0)=true:=by simp [he]
   by_cases hc:isM L [41] t=true
   ·skip
    have hr2:R=(l,Zd t):=by rw [hr,ZT,if_pos he,if_pos hc]
    have CT:=zh (ZY (y:=[41]) G40.out.P hc)
    have AQ:=ZC G40.out.P.few.2.1 G40.out.P.lt hc
    have HQ:=zh (zi hr2 (zi ((ZX fu).next _ _ hD (AQ.toAdv)) hvl))
    clear hr hr2 hD hf hlen hvl he hc AQ
    obtain ⟨c0,c1,c2,c3,c4⟩:=G40.out.P.cells
    have cf:=G40.out.P.frees
    go_upto_region 16 with (go_at_call 73;(with_reducible refine CT.out.mono ?_);rintro e w41 ⟨rfl,hp,hf⟩;have G41:=zh (G40.out.call hp hf);clear hp hf)
    clear c0 c1 c2 c3 c4 cf
    clear hk0 CT G40
    obtain ⟨hr2,_,hvl⟩:=HQ.out
    subst hr2
    subst hvl
    have CT:=zh (Zad w0 w41 bp vL L (Zd t) [59] G41.out.P)
    go_wp2_with (go_at_call 71;(with_reducible refine CT.out.mono ?_);rintro e w51 ⟨rfl,hp,hf⟩;have G51:=zh (G41.out.call hp hf);clear hp hf)
    go_end0
    exact ⟨rfl,_,_,_,_,_,_,rfl,G51.out⟩
   ·skip
    have hc0:isM L [41] t=false:=by simpa using hc
    have CT:=zh (ZQ (y:=[41]) G40.out.P hc0)
    have HK0:=zh (zi hr (zi (hf he) (zi hlen (zi hvl (zi he (zi hD hc))))))
    clear hr hD hf hlen hvl hc hc0 he
    obtain ⟨c0,c1,c2,c3,c4⟩:=G40.out.P.cells
    have cf:=G40.out.P.frees
    go_upto_region 8 with (go_at_call 73;(with_reducible refine CT.out.mono ?_);rintro e w41 ⟨rfl,hp,hf⟩;have G41:=zh (G40.out.call hp hf);clear hp hf)
    clear c0 c1 c2 c3 c4 cf
    clear hk0 CT G40
    cases first with
    | true=>
     have hr2:R=ZT L (ZaS L ex) g2 false (l++[((ZaS L ex) t).1]) ((ZaS L ex) t).2:=by rw [HK0.out.1,ZT,if_pos HK0.out.2.2.2.2.1,if_neg HK0.out.2.2.2.2.2.2];rfl
     have AW:=Adv.refl (L:=L) t
     have HK:=zh (zi hr2 (zi HK0.out.2.1 (zi HK0.out.2.2.1 (zi HK0.out.2.2.2.1 (zi AW ((ZX fu).next _ _ HK0.out.2.2.2.2.2.1 (AW)))))))
     clear hr2 AW HK0
     go_upto_region 11 with fail
     have GT:=zh G41.out
     have RB:=zh (Zar w0 w41 bp vL L t 15 G41.out.P)
     go_upto_region 12 with (go_at_call 46;(with_reducible refine RB.out.mono ?_);rintro e w61 ⟨rfl,hb⟩;have B1:=zh hb;clear hb)
     have G62:=zh (Gn.side (k:=15) (p:=Ze L t) G41.out.P B1.out)
     have NE:=zh (show w41.heap.size<=w61.heap.size from B1.out.size)
     clear RB
     generalize w61.alloc (.cells #[.int .i64 15,.slice none 0 0,.slice none 0 0,.slice none 0 0,.int .i64 (Ze L t),.slice none 0 0] 58)=w62 at *
     clear B1
     generalize w61.heap.size=b2 at *
     by_cases h38:isM L [38] t=true
     ·skip
      have hA:ZaS L ex t=((.mk 15 [(Zb L (Zd t)).1] [] (Ze L t) []),(Zb L (Zd t)).2):=by unfold ZaS;rw [if_pos h38]
      rw [hA] at HK
      dsimp only at HK
      clear hA
      have AG:=zh (ZC GT.out.P.few.2.1 GT.out.P.lt h38)
      have CT:=zh (ZY (y:=[38]) G62.out.P h38)
      go_upto_region 13 with (go_at_call 73;(with_reducible refine CT.out.mono ?_);rintro e w64 ⟨rfl,hp,hf⟩;have G64:=zh (G62.out.call hp hf);clear hp hf)
      clear G62
      clear CT
      clear h38
      (try go_upto_region 13 with fail)
      refine Zbg 62 0 6 G64.out (by simp) (fun v5 A65 n65 c65 w65 hG=>?_)
      (try dsimp only at hG)
      have G65:=zh hG
      clear hG G64
      (try simp only [cl,Act.put])
      have G67:=zh (G41.out.call G65.out.P G65.out.F)
      (try go_upto_region 14 with fail)
      have GZ:=G67.out.drew
      have KZ:=G65.out.drew
      have KC:=zh (zi KZ.cells (zi KZ.K.lt (show Value.ownBlock (.slice xC xq xe)≠some b2 from fun e=>by have:=G41.out.V.lt _ e;have:=NE.out;omega)))
      have G68:=zh (zi GZ KZ.tree)
      clear GZ KZ
      have LQ70:=zh (show xq=List.length (vs:List (NV×Tr)) from G67.out.klen)
      have i070:(0:Int)<=((xq:Nat):Int):=by omega
      have i170:((xq:Nat):Int)<((xq:Nat):Int)+1:=by omega
      (try go_upto_region 14 with fail)
      refine wp_region_noPanic ?_
      refine Zai [9,12] (fun V=>V.cell? ⟨b,5,none⟩=some (.slice xC xq xe)/\V.cell? ⟨b2,0,none⟩=some (.int .i64 15)/\V.cell? ⟨b2,1,none⟩=some ((.slice A65 n65 c65))/\V.cell? ⟨b2,2,none⟩=some ((.slice none 0 0))/\V.cell? ⟨b2,3,none⟩=some (.slice none 0 0)/\V.cell? ⟨b2,4,none⟩=some (.int .i64 (Ze L t))/\V.cell? ⟨b2,5,none⟩=some ((.slice none 0 0))) (by kernel_rfl) (zi G68.out.1.cells.2.2.2.2.2 KC.out.1) (fun hH=>?_)
      refine lp 0 rfl ?_
      refine lp 1 rfl ?_
      refine lp 2 rfl ?_
      refine lk 3 rfl ?_
      (try simp only [cl,Act.put])
      refine lk 4 rfl ?_
      (try simp only [cl,Act.put])
      refine lp 5 rfl ?_
      (try simp only [cl,Act.put])
      refine ln 6 rfl fun K hK=>?_
      go_simp
      have G69:=zh (zi (G68.out.1.below (below_alloc1 w65.drew (.cells #[.int .i64 0,.slice none 0 0,.slice none 0 0,.slice none 0 0,.int .i64 0,.slice none 0 0] 58))) (G68.out.2.keep (below_alloc1 w65.drew (.cells #[.int .i64 0,.slice none 0 0,.slice none 0 0,.slice none 0 0,.int .i64 0,.slice none 0 0] 58))))
      have KB69:=zh ((G65.out.drew.below (below_alloc1 w65.drew (.cells #[.int .i64 0,.slice none 0 0,.slice none 0 0,.slice none 0 0,.int .i64 0,.slice none 0 0] 58))).cells)
      have KL69:=zh ((G65.out.drew.below (below_alloc1 w65.drew (.cells #[.int .i64 0,.slice none 0 0,.slice none 0 0,.slice none 0 0,.int .i64 0,.slice none 0 0] 58))).K.lt)
      refine hK.out _ _ (zi G69.out.1.cells.2.2.2.2.2 KB69.out) (fun hH2=>?_)
      clear hK K hH;have hH:=hH2;clear hH2
      (try simp only [cl,Act.put])
      refine ln 7 rfl fun K hK=>?_
      refine ZaF _ rfl _ _ 56 rfl w.heap.size 58 iN (.agg Zbj) 6 112 Tryz.underlying56 hN zN0 zN1 zN2 rfl (by decide) (.slice xC xq xe) xq _ rfl (G69.out.1.V2 LQ70.out) (w65.heap.size+1) (some ⟨w65.heap.size,0,none⟩) 1 1 (Zbj.toList) rfl (Zd5 _ _ _ _ _ _ _ _) (Zea _ _ _ _ _ _ _ _ _ _ _ _ _ _) (by have:=LQ70.out;have:=LB.out;unfold maxLen;omega) (by have:=LQ70.out;have:=LB.out;omega) G69.out.1.F.size ?_
      intro vq w70 hown hgrow hor
      have OS:=Zd6 hown
      obtain ⟨g70,c70,rfl,_⟩:=OS
      have G70:=zh (G69.out.1.zeroed (y:=(((.slice A65 n65 c65),(.slice none 0 0),(.slice none 0 0)),(.mk 15 [(Zb L (Zd t)).1] [] (Ze L t) []))) LQ70.out G69.out.2 (fun c hc=>G41.out.apart hc.1) hown hgrow hor)
      have GB70:=zh (G69.out.1.gne hor rfl)
      have KF70:=zh ((G69.out.1.K.grown hgrow G69.out.1.N.1).blk.free 5)
      clear hown hgrow hor
      have KK70:=zh (fun j=>G70.out.2.2.2.1 b2 KL69.out KC.out.2.2 j)
      refine hK.out _ _ (zi G70.out.1 (by have q:=KB69.out;have e:=fun j=>(KK70.out j).2;exact ⟨(e 0).trans q.1,(e 1).trans q.2.1,(e 2).trans q.2.2.1,(e 3).trans q.2.2.2.1,(e 4).trans q.2.2.2.2.1,(e 5).trans q.2.2.2.2.2⟩)) (fun hH2=>?_)
      clear hK K hH;have hH:=hH2;clear hH2
      (try simp only [cl,Act.put])
      refine lp 8 rfl ?_
      refine lp 10 rfl ?_
      refine lp 11 rfl ?_
      (try simp only [cl,Act.put])
      have so:=Zy
      obtain ⟨e0,e1,e2,e3,e4,e5⟩:=G70.out.2.1
      have ef:=G70.out.2.2.1
      have k1:=G70.out.2.2.2.2.1
      have k2:=G70.out.2.2.2.2.2.1
      have k3:=G70.out.1
      have k4:=KF70.out
      (try dsimp only [Tr.kd,Tr.ps] at k1 k2 k3)
      have cf:=fun j=>(World.cell?_setCell_other w70 ⟨b,5,none⟩ ⟨g70,j,none⟩ (.slice (some ⟨g70,0,none⟩) (xq+1) c70) (fun e=>GB70.out (congrArg Addr.block e).symm))
      have d0:=(cf _).trans e0
      have d1:=(cf _).trans e1
      have d2:=(cf _).trans e2
      have d3:=(cf _).trans e3
      have d4:=(cf _).trans e4
      have d5:=(cf _).trans e5
      have E6:=zh (Zd8 w70 g70 xq b (.slice (some ⟨g70,0,none⟩) (xq+1) c70) (.int .i64 15) ((.slice A65 n65 c65)) ((.slice none 0 0)) (.slice none 0 0) (.int .i64 (Ze L t)) ((.slice none 0 0)) GB70.out)
      clear cf
      refine Zgn (a1:=?a1_70) (a2:=?a2_70) (b1:=?b1_70) (w1:=?w1_70) (w2:=?w2_70) (v1:=?v1_70) 9 12 rfl rfl (by kernel_rfl) (by kernel_rfl) (by kernel_rfl) (by kernel_rfl) rfl ?s1_70 ?s2_70 ?t1_70 ?t2_70 ?h_70
      case s1_70=>intro K hK;go_simp;exact hK
      case s2_70=>intro K hK;go_simp;exact hK
      case t1_70=>intro K hK;go_simp;exact hK
      case t2_70=>intro K hK;go_simp;rw [<- E6.out] at hK;exact hK
      clear so e0 e1 e2 e3 e4 e5 ef k1 k2 k3 k4 d0 d1 d2 d3 d4 d5 E6 hH
      refine ZaG (by kernel_rfl) ?_ _
      refine NoPanic.normal ?_
      have G71:=zh G70.out.2.2.2.2.2.2
      (try dsimp only [Tr.kd,Tr.ps] at G71)
      clear G67 G68 G69 G70 LQ70 i070 i170 GB70 KF70 KC KB69 KL69 KK70 G65
      generalize ((((((w70.setCell ⟨g70,xq*6,none⟩ (.int .i64 15)).setCell ⟨g70,xq*6+1,none⟩ ((.slice A65 n65 c65))).setCell ⟨g70,xq*6+2,none⟩ ((.slice none 0 0))).setCell ⟨g70,xq*6+3,none⟩ (.slice none 0 0)).setCell ⟨g70,xq*6+4,none⟩ (.int .i64 (Ze L t))).setCell ⟨g70,xq*6+5,none⟩ ((.slice none 0 0))).setCell ⟨b,5,none⟩ (.slice (some ⟨g70,0,none⟩) (xq+1) c70)=w71 at *
      go_wp2_with fail
      go_roundg g2
      case measure=>omega
      case rel=>
       have AD:Gon L t (Zb L (Zd t)).2:=HK.out.2.2.2.2.1.then_ (AG.out.then_ (Zo GT.out.P.few.2.1 (AG.out.lt GT.out.P.lt)).toAdv)
       refine ⟨_,_,_,_,false,rfl,HK.out.1,(ZX fu).next _ _ HK.out.2.2.2.2.2 (AG.out.then_ (Zo GT.out.P.few.2.1 (AG.out.lt GT.out.P.lt)).toAdv).toAdv,fun q=>?_,?_,?_,G71.out⟩
       ·have:=AD.on q
        have:=HK.out.2.1
        have:PS.at_ (Zb L (Zd t)).2<L.length:=G71.out.P.lt
        omega
       ·have:=HK.out.2.2.1
        simp only [List.length_append,List.length_cons,List.length_nil]
        omega
       ·rw [List.map_append,HK.out.2.2.2.1];rfl
     ·skip
      have hA:ZaS L ex t=ex t:=by unfold ZaS;rw [if_neg h38]
      rw [hA] at HK
      clear hA
      have AG:=zh (HX.out.2 _ HK.out.2.2.2.2.2)
      have h38f:isM L [38] t=false:=by simpa using h38
      clear h38
      have CT:=zh (ZQ (y:=[38]) G62.out.P h38f)
      go_upto_region 15 with (go_at_call 73;(with_reducible refine CT.out.mono ?_);rintro e w64 ⟨rfl,hp,hf⟩;have G64:=zh (G62.out.call hp hf);clear hp hf)
      clear G62
      clear CT
      clear h38f
      have G66:=zh (G41.out.call G64.out.P G64.out.F)
      clear G64
      (try go_upto_region 15 with fail)
      have LO:=G66.out.loose
      obtain ⟨A67,n67,c67,B67,m67,d67,C67,q67,e67,hL⟩:=LO
      have G67:=zh hL
      clear hL G66
      (try go_upto_region 15 with fail)
      refine Zco 82 0 1 G67.out (by have:=LB.out;(try simp only [List.length_append,List.length_cons,List.length_nil]);omega) (by intro _ _;go_simp) (fun wr hP=>HX.out.1 wr _ hP HK.out.2.2.2.2.2) (fun v7 g68 c68 y68 w68 hG=>?_)
      (try dsimp only at hG)
      have G68:=zh hG
      clear hG G67
      (try simp only [cl,Act.put])
      go_wp2_with fail
      go_roundg g2
      case measure=>omega
      case rel=>
       have AD:Gon L t (ex t).2:=HK.out.2.2.2.2.1.then_ (AG.out)
       refine ⟨_,_,_,_,false,rfl,HK.out.1,(ZX fu).next _ _ HK.out.2.2.2.2.2 AG.out.toAdv,fun q=>?_,?_,?_,G68.out⟩
       ·have:=AD.on q
        have:=HK.out.2.1
        have:PS.at_ (ex t).2<L.length:=G68.out.P.lt
        omega
       ·have:=HK.out.2.2.1
        simp only [List.length_append,List.length_cons,List.length_nil]
        omega
       ·rw [List.map_append,HK.out.2.2.2.1];rfl
    | false=>
     have hr2:R=ZT L (ZaS L ex) g2 false (l++[((ZaS L ex) (Zf L [44] t)).1]) ((ZaS L ex) (Zf L [44] t)).2:=by rw [HK0.out.1,ZT,if_pos HK0.out.2.2.2.2.1,if_neg HK0.out.2.2.2.2.2.2];rfl
     have AW:=(Zq G41.out.P.few.2.1 [44] G41.out.P.lt).toAdv
     have HK:=zh (zi hr2 (zi HK0.out.2.1 (zi HK0.out.2.2.1 (zi HK0.out.2.2.2.1 (zi AW ((ZX fu).next _ _ HK0.out.2.2.2.2.2.1 (AW)))))))
     clear hr2 AW HK0
     (try go_upto_region 9 with fail)
     have CT:=zh (Zad w0 w41 bp vL L t [44] G41.out.P)
     go_upto_region 11 with (go_at_call 71;(with_reducible refine CT.out.mono ?_);rintro e w61 ⟨rfl,hp,hf⟩;have G61:=zh (G41.out.call hp hf);clear hp hf)
     clear G41
     clear CT
     have GT:=zh G61.out
     have RB:=zh (Zar w0 w61 bp vL L (Zf L [44] t) 15 G61.out.P)
     go_upto_region 12 with (go_at_call 46;(with_reducible refine RB.out.mono ?_);rintro e w62 ⟨rfl,hb⟩;have B1:=zh hb;clear hb)
     have G63:=zh (Gn.side (k:=15) (p:=Ze L (Zf L [44] t)) G61.out.P B1.out)
     have NE:=zh (show w61.heap.size<=w62.heap.size from B1.out.size)
     clear RB
     generalize w62.alloc (.cells #[.int .i64 15,.slice none 0 0,.slice none 0 0,.slice none 0 0,.int .i64 (Ze L (Zf L [44] t)),.slice none 0 0] 58)=w63 at *
     clear B1
     generalize w62.heap.size=b2 at *
     by_cases h38:isM L [38] (Zf L [44] t)=true
     ·skip
      have hA:ZaS L ex (Zf L [44] t)=((.mk 15 [(Zb L (Zd (Zf L [44] t))).1] [] (Ze L (Zf L [44] t)) []),(Zb L (Zd (Zf L [44] t))).2):=by unfold ZaS;rw [if_pos h38]
      rw [hA] at HK
      dsimp only at HK
      clear hA
      have AG:=zh (ZC GT.out.P.few.2.1 GT.out.P.lt h38)
      have CT:=zh (ZY (y:=[38]) G63.out.P h38)
      go_upto_region 13 with (go_at_call 73;(with_reducible refine CT.out.mono ?_);rintro e w65 ⟨rfl,hp,hf⟩;have G65:=zh (G63.out.call hp hf);clear hp hf)
      clear G63
      clear CT
      clear h38
      (try go_upto_region 13 with fail)
      refine Zbg 62 0 6 G65.out (by simp) (fun v5 A66 n66 c66 w66 hG=>?_)
      (try dsimp only at hG)
      have G66:=zh hG
      clear hG G65
      (try simp only [cl,Act.put])
      have G68:=zh (G61.out.call G66.out.P G66.out.F)
      (try go_upto_region 14 with fail)
      have GZ:=G68.out.drew
      have KZ:=G66.out.drew
      have KC:=zh (zi KZ.cells (zi KZ.K.lt (show Value.ownBlock (.slice xC xq xe)≠some b2 from fun e=>by have:=G61.out.V.lt _ e;have:=NE.out;omega)))
      have G69:=zh (zi GZ KZ.tree)
      clear GZ KZ
      have LQ71:=zh (show xq=List.length (vs:List (NV×Tr)) from G68.out.klen)
      have i071:(0:Int)<=((xq:Nat):Int):=by omega
      have i171:((xq:Nat):Int)<((xq:Nat):Int)+1:=by omega
      (try go_upto_region 14 with fail)
      refine wp_region_noPanic ?_
      refine Zai [9,12] (fun V=>V.cell? ⟨b,5,none⟩=some (.slice xC xq xe)/\V.cell? ⟨b2,0,none⟩=some (.int .i64 15)/\V.cell? ⟨b2,1,none⟩=some ((.slice A66 n66 c66))/\V.cell? ⟨b2,2,none⟩=some ((.slice none 0 0))/\V.cell? ⟨b2,3,none⟩=some (.slice none 0 0)/\V.cell? ⟨b2,4,none⟩=some (.int .i64 (Ze L (Zf L [44] t)))/\V.cell? ⟨b2,5,none⟩=some ((.slice none 0 0))) (by kernel_rfl) (zi G69.out.1.cells.2.2.2.2.2 KC.out.1) (fun hH=>?_)
      refine lp 0 rfl ?_
      refine lp 1 rfl ?_
      refine lp 2 rfl ?_
      refine lk 3 rfl ?_
      (try simp only [cl,Act.put])
      refine lk 4 rfl ?_
      (try simp only [cl,Act.put])
      refine lp 5 rfl ?_
      (try simp only [cl,Act.put])
      refine ln 6 rfl fun K hK=>?_
      go_simp
      have G70:=zh (zi (G69.out.1.below (below_alloc1 w66.drew (.cells #[.int .i64 0,.slice none 0 0,.slice none 0 0,.slice none 0 0,.int .i64 0,.slice none 0 0] 58))) (G69.out.2.keep (below_alloc1 w66.drew (.cells #[.int .i64 0,.slice none 0 0,.slice none 0 0,.slice none 0 0,.int .i64 0,.slice none 0 0] 58))))
      have KB70:=zh ((G66.out.drew.below (below_alloc1 w66.drew (.cells #[.int .i64 0,.slice none 0 0,.slice none 0 0,.slice none 0 0,.int .i64 0,.slice none 0 0] 58))).cells)
      have KL70:=zh ((G66.out.drew.below (below_alloc1 w66.drew (.cells #[.int .i64 0,.slice none 0 0,.slice none 0 0,.slice none 0 0,.int .i64 0,.slice none 0 0] 58))).K.lt)
      refine hK.out _ _ (zi G70.out.1.cells.2.2.2.2.2 KB70.out) (fun hH2=>?_)
      clear hK K hH;have hH:=hH2;clear hH2
      (try simp only [cl,Act.put])
      refine ln 7 rfl fun K hK=>?_
      refine ZaF _ rfl _ _ 56 rfl w.heap.size 58 iN (.agg Zbj) 6 112 Tryz.underlying56 hN zN0 zN1 zN2 rfl (by decide) (.slice xC xq xe) xq _ rfl (G70.out.1.V2 LQ71.out) (w66.heap.size+1) (some ⟨w66.heap.size,0,none⟩) 1 1 (Zbj.toList) rfl (Zd5 _ _ _ _ _ _ _ _) (Zea _ _ _ _ _ _ _ _ _ _ _ _ _ _) (by have:=LQ71.out;have:=LB.out;unfold maxLen;omega) (by have:=LQ71.out;have:=LB.out;omega) G70.out.1.F.size ?_
      intro vq w71 hown hgrow hor
      have OS:=Zd6 hown
      obtain ⟨g71,c71,rfl,_⟩:=OS
      have G71:=zh (G70.out.1.zeroed (y:=(((.slice A66 n66 c66),(.slice none 0 0),(.slice none 0 0)),(.mk 15 [(Zb L (Zd (Zf L [44] t))).1] [] (Ze L (Zf L [44] t)) []))) LQ71.out G70.out.2 (fun c hc=>G61.out.apart hc.1) hown hgrow hor)
      have GB71:=zh (G70.out.1.gne hor rfl)
      have KF71:=zh ((G70.out.1.K.grown hgrow G70.out.1.N.1).blk.free 5)
      clear hown hgrow hor
      have KK71:=zh (fun j=>G71.out.2.2.2.1 b2 KL70.out KC.out.2.2 j)
      refine hK.out _ _ (zi G71.out.1 (by have q:=KB70.out;have e:=fun j=>(KK71.out j).2;exact ⟨(e 0).trans q.1,(e 1).trans q.2.1,(e 2).trans q.2.2.1,(e 3).trans q.2.2.2.1,(e 4).trans q.2.2.2.2.1,(e 5).trans q.2.2.2.2.2⟩)) (fun hH2=>?_)
      clear hK K hH;have hH:=hH2;clear hH2
      (try simp only [cl,Act.put])
      refine lp 8 rfl ?_
      refine lp 10 rfl ?_
      refine lp 11 rfl ?_
      (try simp only [cl,Act.put])
      have so:=Zy
      obtain ⟨e0,e1,e2,e3,e4,e5⟩:=G71.out.2.1
      have ef:=G71.out.2.2.1
      have k1:=G71.out.2.2.2.2.1
      have k2:=G71.out.2.2.2.2.2.1
      have k3:=G71.out.1
      have k4:=KF71.out
      (try dsimp only [Tr.kd,Tr.ps] at k1 k2 k3)
      have cf:=fun j=>(World.cell?_setCell_other w71 ⟨b,5,none⟩ ⟨g71,j,none⟩ (.slice (some ⟨g71,0,none⟩) (xq+1) c71) (fun e=>GB71.out (congrArg Addr.block e).symm))
      have d0:=(cf _).trans e0
      have d1:=(cf _).trans e1
      have d2:=(cf _).trans e2
      have d3:=(cf _).trans e3
      have d4:=(cf _).trans e4
      have d5:=(cf _).trans e5
      have E6:=zh (Zd8 w71 g71 xq b (.slice (some ⟨g71,0,none⟩) (xq+1) c71) (.int .i64 15) ((.slice A66 n66 c66)) ((.slice none 0 0)) (.slice none 0 0) (.int .i64 (Ze L (Zf L [44] t))) ((.slice none 0 0)) GB71.out)
      clear cf
      refine Zgn (a1:=?a1_71) (a2:=?a2_71) (b1:=?b1_71) (w1:=?w1_71) (w2:=?w2_71) (v1:=?v1_71) 9 12 rfl rfl (by kernel_rfl) (by kernel_rfl) (by kernel_rfl) (by kernel_rfl) rfl ?s1_71 ?s2_71 ?t1_71 ?t2_71 ?h_71
      case s1_71=>intro K hK;go_simp;exact hK
      case s2_71=>intro K hK;go_simp;exact hK
      case t1_71=>intro K hK;go_simp;exact hK
      case t2_71=>intro K hK;go_simp;rw [<- E6.out] at hK;exact hK
      clear so e0 e1 e2 e3 e4 e5 ef k1 k2 k3 k4 d0 d1 d2 d3 d4 d5 E6 hH
      refine ZaG (by kernel_rfl) ?_ _
      refine NoPanic.normal ?_
      have G72:=zh G71.out.2.2.2.2.2.2
      (try dsimp only [Tr.kd,Tr.ps] at G72)
      clear G68 G69 G70 G71 LQ71 i071 i171 GB71 KF71 KC KB70 KL70 KK71 G66
      generalize ((((((w71.setCell ⟨g71,xq*6,none⟩ (.int .i64 15)).setCell ⟨g71,xq*6+1,none⟩ ((.slice A66 n66 c66))).setCell ⟨g71,xq*6+2,none⟩ ((.slice none 0 0))).setCell ⟨g71,xq*6+3,none⟩ (.slice none 0 0)).setCell ⟨g71,xq*6+4,none⟩ (.int .i64 (Ze L (Zf L [44] t)))).setCell ⟨g71,xq*6+5,none⟩ ((.slice none 0 0))).setCell ⟨b,5,none⟩ (.slice (some ⟨g71,0,none⟩) (xq+1) c71)=w72 at *
      go_wp2_with fail
      go_roundg g2
      case measure=>omega
      case rel=>
       have AD:Gon L t (Zb L (Zd (Zf L [44] t))).2:=HK.out.2.2.2.2.1.then_ (AG.out.then_ (Zo GT.out.P.few.2.1 (AG.out.lt GT.out.P.lt)).toAdv)
       refine ⟨_,_,_,_,false,rfl,HK.out.1,(ZX fu).next _ _ HK.out.2.2.2.2.2 (AG.out.then_ (Zo GT.out.P.few.2.1 (AG.out.lt GT.out.P.lt)).toAdv).toAdv,fun q=>?_,?_,?_,G72.out⟩
       ·have:=AD.on q
        have:=HK.out.2.1
        have:PS.at_ (Zb L (Zd (Zf L [44] t))).2<L.length:=G72.out.P.lt
        omega
       ·have:=HK.out.2.2.1
        simp only [List.length_append,List.length_cons,List.length_nil]
        omega
       ·rw [List.map_append,HK.out.2.2.2.1];rfl
     ·skip
      have hA:ZaS L ex (Zf L [44] t)=ex (Zf L [44] t):=by unfold ZaS;rw [if_neg h38]
      rw [hA] at HK
      clear hA
      have AG:=zh (HX.out.2 _ HK.out.2.2.2.2.2)
      have h38f:isM L [38] (Zf L [44] t)=false:=by simpa using h38
      clear h38
      have CT:=zh (ZQ (y:=[38]) G63.out.P h38f)
      go_upto_region 15 with (go_at_call 73;(with_reducible refine CT.out.mono ?_);rintro e w65 ⟨rfl,hp,hf⟩;have G65:=zh (G63.out.call hp hf);clear hp hf)
      clear G63
      clear CT
      clear h38f
      have G67:=zh (G61.out.call G65.out.P G65.out.F)
      clear G65
      (try go_upto_region 15 with fail)
      have LO:=G67.out.loose
      obtain ⟨A68,n68,c68,B68,m68,d68,C68,q68,e68,hL⟩:=LO
      have G68:=zh hL
      clear hL G67
      (try go_upto_region 15 with fail)
      refine Zco 82 0 1 G68.out (by have:=LB.out;(try simp only [List.length_append,List.length_cons,List.length_nil]);omega) (by intro _ _;go_simp) (fun wr hP=>HX.out.1 wr _ hP HK.out.2.2.2.2.2) (fun v7 g69 c69 y69 w69 hG=>?_)
      (try dsimp only at hG)
      have G69:=zh hG
      clear hG G68
      (try simp only [cl,Act.put])
      go_wp2_with fail
      go_roundg g2
      case measure=>omega
      case rel=>
       have AD:Gon L t (ex (Zf L [44] t)).2:=HK.out.2.2.2.2.1.then_ (AG.out)
       refine ⟨_,_,_,_,false,rfl,HK.out.1,(ZX fu).next _ _ HK.out.2.2.2.2.2 AG.out.toAdv,fun q=>?_,?_,?_,G69.out⟩
       ·have:=AD.on q
        have:=HK.out.2.1
        have:PS.at_ (ex (Zf L [44] t)).2<L.length:=G69.out.P.lt
        omega
       ·have:=HK.out.2.2.1
        simp only [List.length_append,List.length_cons,List.length_nil]
        omega
       ·rw [List.map_append,HK.out.2.2.2.1];rfl
  ·skip
   have hr2:R=(l,t):=by
    rw [hr]
    cases gk with
    | zero=>rfl
    | succ g2=>rw [ZT,if_neg he]
   have hk0:(t.err==0)=false:=by simp [he]
   have HQ:=zh (zi hr2 (zi hD hvl))
   clear hr hr2 hD hf hlen hvl he
   obtain ⟨c0,c1,c2,c3,c4⟩:=G40.out.P.cells
   have cf:=G40.out.P.frees
   go_upto_region 16 with fail
   clear c0 c1 c2 c3 c4 cf
   clear hk0
   obtain ⟨hr2,_,hvl⟩:=HQ.out
   subst hr2
   subst hvl
   have CT:=zh (Zad w0 wr bp vL L t [59] G40.out.P)
   go_wp2_with (go_at_call 71;(with_reducible refine CT.out.mono ?_);rintro e w51 ⟨rfl,hp,hf⟩;have G51:=zh (G40.out.call hp hf);clear hp hf)
   go_end0
   exact ⟨rfl,_,_,_,_,_,_,rfl,G51.out⟩
end
section
open Go.RowKit
theorem ZnQ (w0 w wi:World) (bp b:Nat) (vL:Value) (L:List Tok) (s:PS) (p:Int) (fu:Nat) (ex:PS->Tr×PS) (hd:Dp L fu s) (hex:ZbH 122 w0 bp vL L (Dp L fu) ex) (hxo:Onw L (Dp L fu) ex) (h1:isM L [61] (Zb L s).2=false) (hG:Gn w0 w wi bp b w.heap.size vL L s ZeZ 8 p [] [] []) :
  Calls Tryz.prog 124 #[.pointer (some ⟨bp,0,none⟩),.pointer (some ⟨b,0,none⟩)] wi (Zem w0 w bp b w.heap.size vL L (ZcC L ex p s).1 (ZcC L ex p s).2):=by
 obtain ⟨R,hR⟩:∃ R,R=ZT L (ZaS L ex) (L.length+1) true [] (Zf L [40] (Zb L s).2):=⟨_,rfl⟩
 have hM:ZcC L ex p s=(.mk 14 [(Zb L s).1] [] p R.1,Zf L [59] R.2):=by rw [hR];unfold ZcC;simp only [h1,Bool.false_eq_true,if_false]
 rw [hM]
 have D:=ZX (L:=L) fu
 have g1:=Zo hG.P.few.2.1 hG.P.lt
 have g4:=Zq hG.P.few.2.1 [40] (g1.lt hG.P.lt)
 have HD:=zh (D.next _ _ hd (g1.toAdv.trans g4.toAdv))
 have HR:=zh hR
 have HX:=zh (zi hex hxo)
 have H1:=zh h1
 have NA:=zh hG.P.name_len
 clear hM hR D g1 g4 hd hex hxo h1
 have G2:=zh hG
 clear hG
 obtain ⟨iS,hS,zS0,zS1,zS2⟩:=info_parts Zbd
 obtain ⟨iU,hU,zU0,zU1,zU2⟩:=info_parts Zbl
 obtain ⟨iN,hN,zN0,zN1,zN2⟩:=info_parts Za8
 go_enter Tryz.func124,Tryz.ntmps124
 obtain ⟨q0,q1,q2,q3,q4,q5⟩:=G2.out.cells
 dsimp only at q1 q2 q5
 have qf:=G2.out.free
 go_upto_region 1 with fail
 clear q0 q1 q2 q3 q4 q5 qf
 have G3:=zh (G2.out.setk 14)
 clear G2
 generalize wi.setCell ⟨b,0,none⟩ (.int .i64 14)=w3 at *
 have CT:=zh (Zdq w0 w3 bp vL L s G3.out.P)
 go_upto_region 2 with (go_at_call 72;(with_reducible refine CT.out.mono ?_);rintro e w4 ⟨rfl,hp,hf⟩;have G4:=zh (G3.out.call hp hf);clear hp hf)
 clear G3
 clear CT
 have CT:=zh (ZQ (y:=[61]) G4.out.P H1.out)
 go_upto_region 4 with (go_at_call 73;(with_reducible refine CT.out.mono ?_);rintro e w5 ⟨rfl,hp,hf⟩;have G5:=zh (G4.out.call hp hf);clear hp hf)
 clear G4
 clear CT
 have q1:=G5.out.cells.2.1
 dsimp only at q1
 have G6:=zh (G5.out.below (below_alloc1 w5 (.cells #[txt (Zb L s).1] 9)))
 have RD:=zh (Zdp w5 (txt (Zb L s).1) 9)
 generalize hwl:w5.alloc (.cells #[txt (Zb L s).1] 9)=w6 at *
 go_wp2_with (at_builtin;(refine ZaN _ rfl _ _ 33 rfl w.heap.size 9 iS (.string ⟨#[]⟩) 1 16 Tryz.underlying33 hS zS0 zS1 zS2 rfl (by decide) (.slice none 0 0) _ _ rfl G6.out.W _ _ 1 1 [txt (Zb L s).1] rfl RD.out (ZhY _) (by simp [maxLen]) (by simp) G6.out.F.size ?_))
 intro vq w7 hown hgrow _
 have OS:=Zbc hown
 obtain ⟨A7,n7,c7,rfl⟩:=OS
 have G7:=zh (G6.out.word NA.out hown hgrow)
 clear hown hgrow q1
 have k1:=G7.out.1
 have k2:=G7.out.2.1
 dsimp only at k1
 go_upto_region 5 with fail
 clear k1 k2
 have G8:=zh G7.out.2.2
 clear G5 G6 G7 RD hwl
 generalize w7.setCell ⟨b,1,none⟩ (.slice A7 n7 c7)=w8 at *
 have CT:=zh (Zad w0 w8 bp vL L (Zb L s).2 [40] G8.out.P)
 go_upto_region 7 with (go_at_call 71;(with_reducible refine CT.out.mono ?_);rintro e w9 ⟨rfl,hp,hf⟩;have G9:=zh (G8.out.call hp hf);clear hp hf)
 clear G8
 clear CT
 go_upto_region 7 with fail
 have FEW:=zh G9.out.P.few.1
 go_loopg [5] (L.length+1) (fun g vf wr=>∃ (l:List Tr) (t:PS) (x:NV) (vs:List (NV×Tr)) (first:Bool),vf=.bool first/\R=ZT L (ZaS L ex) g first l t/\Dp L fu t/\(t.err=0->L.length-t.at_<g)/\vs.length+g<=L.length+1/\vs.map (·.2)=l/\Gn w0 w wr bp b w.heap.size vL L t x 14 p [(Zb L s).1] [] vs)
 case atStart=>exact ⟨[],_,_,[],true,rfl,HR.out,HD.out,fun _=>by omega,by simp,rfl,G9.out⟩
 case round=>
  obtain ⟨l,t,x,vs,first,rfl,hr,hD,hf,hlen,hvl,hG⟩:=hrel
  have SH:=hG.shape
  obtain ⟨xA,xn,xc,xB,xm,xd,xC,xq,xe,rfl⟩:=SH
  clear G9
  have G40:=zh hG
  have LB:=zh (show vs.length<=100004 by have:=FEW.out;omega)
  clear hG
  by_cases he:t.err=0
  ·skip
   obtain ⟨g2,rfl⟩:∃ g2,gk=g2+1:=⟨gk-1,by have:=hf he;omega⟩
   have hk0:(t.err==0)=true:=by simp [he]
   by_cases hc:isM L [41] t=true
   ·skip
    have hr2:R=(l,Zd t):=by rw [hr,ZT,if_pos he,if_pos hc]
    have CT:=zh (ZY (y:=[41]) G40.out.P hc)
    have AQ:=ZC G40.out.P.few.2.1 G40.out.P.lt hc
    have HQ:=zh (zi hr2 (zi ((ZX fu).next _ _ hD (AQ.toAdv)) hvl))
    clear hr hr2 hD hf hlen hvl he hc AQ
    obtain ⟨c0,c1,c2,c3,c4⟩:=G40.out.P.cells
    have cf:=G40.out.P.frees
    go_upto_region 16 with (go_at_call 73;(with_reducible refine CT.out.mono ?_);rintro e w41 ⟨rfl,hp,hf⟩;have G41:=zh (G40.out.call hp hf);clear hp hf)
    clear c0 c1 c2 c3 c4 cf
    clear hk0 CT G40
    obtain ⟨hr2,_,hvl⟩:=HQ.out
    subst hr2
    subst hvl
    have CT:=zh (Zad w0 w41 bp vL L (Zd t) [59] G41.out.P)
    go_wp2_with (go_at_call 71;(with_reducible refine CT.out.mono ?_);rintro e w51 ⟨rfl,hp,hf⟩;have G51:=zh (G41.out.call hp hf);clear hp hf)
    go_end0
    exact ⟨rfl,_,_,_,_,_,_,rfl,G51.out⟩
   ·skip
    have hc0:isM L [41] t=false:=by simpa using hc
    have CT:=zh (ZQ (y:=[41]) G40.out.P hc0)
    have HK0:=zh (zi hr (zi (hf he) (zi hlen (zi hvl (zi he (zi hD hc))))))
    clear hr hD hf hlen hvl hc hc0 he
    obtain ⟨c0,c1,c2,c3,c4⟩:=G40.out.P.cells
    have cf:=G40.out.P.frees
    go_upto_region 8 with (go_at_call 73;(with_reducible refine CT.out.mono ?_);rintro e w41 ⟨rfl,hp,hf⟩;have G41:=zh (G40.out.call hp hf);clear hp hf)
    clear c0 c1 c2 c3 c4 cf
    clear hk0 CT G40
    cases first with
    | true=>
     have hr2:R=ZT L (ZaS L ex) g2 false (l++[((ZaS L ex) t).1]) ((ZaS L ex) t).2:=by rw [HK0.out.1,ZT,if_pos HK0.out.2.2.2.2.1,if_neg HK0.out.2.2.2.2.2.2];rfl
     have AW:=Adv.refl (L:=L) t
     have HK:=zh (zi hr2 (zi HK0.out.2.1 (zi HK0.out.2.2.1 (zi HK0.out.2.2.2.1 (zi AW ((ZX fu).next _ _ HK0.out.2.2.2.2.2.1 (AW)))))))
     clear hr2 AW HK0
     go_upto_region 11 with fail
     have GT:=zh G41.out
     have RB:=zh (Zar w0 w41 bp vL L t 15 G41.out.P)
     go_upto_region 12 with (go_at_call 46;(with_reducible refine RB.out.mono ?_);rintro e w61 ⟨rfl,hb⟩;have B1:=zh hb;clear hb)
     have G62:=zh (Gn.side (k:=15) (p:=Ze L t) G41.out.P B1.out)
     have NE:=zh (show w41.heap.size<=w61.heap.size from B1.out.size)
     clear RB
     generalize w61.alloc (.cells #[.int .i64 15,.slice none 0 0,.slice none 0 0,.slice none 0 0,.int .i64 (Ze L t),.slice none 0 0] 58)=w62 at *
     clear B1
     generalize w61.heap.size=b2 at *
     by_cases h38:isM L [38] t=true
     ·skip
      have hA:ZaS L ex t=((.mk 15 [(Zb L (Zd t)).1] [] (Ze L t) []),(Zb L (Zd t)).2):=by unfold ZaS;rw [if_pos h38]
      rw [hA] at HK
      dsimp only at HK
      clear hA
      have AG:=zh (ZC GT.out.P.few.2.1 GT.out.P.lt h38)
      have CT:=zh (ZY (y:=[38]) G62.out.P h38)
      go_upto_region 13 with (go_at_call 73;(with_reducible refine CT.out.mono ?_);rintro e w64 ⟨rfl,hp,hf⟩;have G64:=zh (G62.out.call hp hf);clear hp hf)
      clear G62
      clear CT
      clear h38
      (try go_upto_region 13 with fail)
      refine Zbg 62 0 6 G64.out (by simp) (fun v5 A65 n65 c65 w65 hG=>?_)
      (try dsimp only at hG)
      have G65:=zh hG
      clear hG G64
      (try simp only [cl,Act.put])
      have G67:=zh (G41.out.call G65.out.P G65.out.F)
      (try go_upto_region 14 with fail)
      have GZ:=G67.out.drew
      have KZ:=G65.out.drew
      have KC:=zh (zi KZ.cells (zi KZ.K.lt (show Value.ownBlock (.slice xC xq xe)≠some b2 from fun e=>by have:=G41.out.V.lt _ e;have:=NE.out;omega)))
      have G68:=zh (zi GZ KZ.tree)
      clear GZ KZ
      have LQ70:=zh (show xq=List.length (vs:List (NV×Tr)) from G67.out.klen)
      have i070:(0:Int)<=((xq:Nat):Int):=by omega
      have i170:((xq:Nat):Int)<((xq:Nat):Int)+1:=by omega
      (try go_upto_region 14 with fail)
      refine wp_region_noPanic ?_
      refine Zai [9,12] (fun V=>V.cell? ⟨b,5,none⟩=some (.slice xC xq xe)/\V.cell? ⟨b2,0,none⟩=some (.int .i64 15)/\V.cell? ⟨b2,1,none⟩=some ((.slice A65 n65 c65))/\V.cell? ⟨b2,2,none⟩=some ((.slice none 0 0))/\V.cell? ⟨b2,3,none⟩=some (.slice none 0 0)/\V.cell? ⟨b2,4,none⟩=some (.int .i64 (Ze L t))/\V.cell? ⟨b2,5,none⟩=some ((.slice none 0 0))) (by kernel_rfl) (zi G68.out.1.cells.2.2.2.2.2 KC.out.1) (fun hH=>?_)
      refine lp 0 rfl ?_
      refine lp 1 rfl ?_
      refine lp 2 rfl ?_
      refine lk 3 rfl ?_
      (try simp only [cl,Act.put])
      refine lk 4 rfl ?_
      (try simp only [cl,Act.put])
      refine lp 5 rfl ?_
      (try simp only [cl,Act.put])
      refine ln 6 rfl fun K hK=>?_
      go_simp
      have G69:=zh (zi (G68.out.1.below (below_alloc1 w65.drew (.cells #[.int .i64 0,.slice none 0 0,.slice none 0 0,.slice none 0 0,.int .i64 0,.slice none 0 0] 58))) (G68.out.2.keep (below_alloc1 w65.drew (.cells #[.int .i64 0,.slice none 0 0,.slice none 0 0,.slice none 0 0,.int .i64 0,.slice none 0 0] 58))))
      have KB69:=zh ((G65.out.drew.below (below_alloc1 w65.drew (.cells #[.int .i64 0,.slice none 0 0,.slice none 0 0,.slice none 0 0,.int .i64 0,.slice none 0 0] 58))).cells)
      have KL69:=zh ((G65.out.drew.below (below_alloc1 w65.drew (.cells #[.int .i64 0,.slice none 0 0,.slice none 0 0,.slice none 0 0,.int .i64 0,.slice none 0 0] 58))).K.lt)
      refine hK.out _ _ (zi G69.out.1.cells.2.2.2.2.2 KB69.out) (fun hH2=>?_)
      clear hK K hH;have hH:=hH2;clear hH2
      (try simp only [cl,Act.put])
      refine ln 7 rfl fun K hK=>?_
      refine ZaF _ rfl _ _ 56 rfl w.heap.size 58 iN (.agg Zbj) 6 112 Tryz.underlying56 hN zN0 zN1 zN2 rfl (by decide) (.slice xC xq xe) xq _ rfl (G69.out.1.V2 LQ70.out) (w65.heap.size+1) (some ⟨w65.heap.size,0,none⟩) 1 1 (Zbj.toList) rfl (Zd5 _ _ _ _ _ _ _ _) (Zea _ _ _ _ _ _ _ _ _ _ _ _ _ _) (by have:=LQ70.out;have:=LB.out;unfold maxLen;omega) (by have:=LQ70.out;have:=LB.out;omega) G69.out.1.F.size ?_
      intro vq w70 hown hgrow hor
      have OS:=Zd6 hown
      obtain ⟨g70,c70,rfl,_⟩:=OS
      have G70:=zh (G69.out.1.zeroed (y:=(((.slice A65 n65 c65),(.slice none 0 0),(.slice none 0 0)),(.mk 15 [(Zb L (Zd t)).1] [] (Ze L t) []))) LQ70.out G69.out.2 (fun c hc=>G41.out.apart hc.1) hown hgrow hor)
      have GB70:=zh (G69.out.1.gne hor rfl)
      have KF70:=zh ((G69.out.1.K.grown hgrow G69.out.1.N.1).blk.free 5)
      clear hown hgrow hor
      have KK70:=zh (fun j=>G70.out.2.2.2.1 b2 KL69.out KC.out.2.2 j)
      refine hK.out _ _ (zi G70.out.1 (by have q:=KB69.out;have e:=fun j=>(KK70.out j).2;exact ⟨(e 0).trans q.1,(e 1).trans q.2.1,(e 2).trans q.2.2.1,(e 3).trans q.2.2.2.1,(e 4).trans q.2.2.2.2.1,(e 5).trans q.2.2.2.2.2⟩)) (fun hH2=>?_)
      clear hK K hH;have hH:=hH2;clear hH2
      (try simp only [cl,Act.put])
      refine lp 8 rfl ?_
      refine lp 10 rfl ?_
      refine lp 11 rfl ?_
      (try simp only [cl,Act.put])
      have so:=Zy
      obtain ⟨e0,e1,e2,e3,e4,e5⟩:=G70.out.2.1
      have ef:=G70.out.2.2.1
      have k1:=G70.out.2.2.2.2.1
      have k2:=G70.out.2.2.2.2.2.1
      have k3:=G70.out.1
      have k4:=KF70.out
      (try dsimp only [Tr.kd,Tr.ps] at k1 k2 k3)
      have cf:=fun j=>(World.cell?_setCell_other w70 ⟨b,5,none⟩ ⟨g70,j,none⟩ (.slice (some ⟨g70,0,none⟩) (xq+1) c70) (fun e=>GB70.out (congrArg Addr.block e).symm))
      have d0:=(cf _).trans e0
      have d1:=(cf _).trans e1
      have d2:=(cf _).trans e2
      have d3:=(cf _).trans e3
      have d4:=(cf _).trans e4
      have d5:=(cf _).trans e5
      have E6:=zh (Zd8 w70 g70 xq b (.slice (some ⟨g70,0,none⟩) (xq+1) c70) (.int .i64 15) ((.slice A65 n65 c65)) ((.slice none 0 0)) (.slice none 0 0) (.int .i64 (Ze L t)) ((.slice none 0 0)) GB70.out)
      clear cf
      refine Zgn (a1:=?a1_70) (a2:=?a2_70) (b1:=?b1_70) (w1:=?w1_70) (w2:=?w2_70) (v1:=?v1_70) 9 12 rfl rfl (by kernel_rfl) (by kernel_rfl) (by kernel_rfl) (by kernel_rfl) rfl ?s1_70 ?s2_70 ?t1_70 ?t2_70 ?h_70
      case s1_70=>intro K hK;go_simp;exact hK
      case s2_70=>intro K hK;go_simp;exact hK
      case t1_70=>intro K hK;go_simp;exact hK
      case t2_70=>intro K hK;go_simp;rw [<- E6.out] at hK;exact hK
      clear so e0 e1 e2 e3 e4 e5 ef k1 k2 k3 k4 d0 d1 d2 d3 d4 d5 E6 hH
      refine ZaG (by kernel_rfl) ?_ _
      refine NoPanic.normal ?_
      have G71:=zh G70.out.2.2.2.2.2.2
      (try dsimp only [Tr.kd,Tr.ps] at G71)
      clear G67 G68 G69 G70 LQ70 i070 i170 GB70 KF70 KC KB69 KL69 KK70 G65
      generalize ((((((w70.setCell ⟨g70,xq*6,none⟩ (.int .i64 15)).setCell ⟨g70,xq*6+1,none⟩ ((.slice A65 n65 c65))).setCell ⟨g70,xq*6+2,none⟩ ((.slice none 0 0))).setCell ⟨g70,xq*6+3,none⟩ (.slice none 0 0)).setCell ⟨g70,xq*6+4,none⟩ (.int .i64 (Ze L t))).setCell ⟨g70,xq*6+5,none⟩ ((.slice none 0 0))).setCell ⟨b,5,none⟩ (.slice (some ⟨g70,0,none⟩) (xq+1) c70)=w71 at *
      go_wp2_with fail
      go_roundg g2
      case measure=>omega
      case rel=>
       have AD:Gon L t (Zb L (Zd t)).2:=HK.out.2.2.2.2.1.then_ (AG.out.then_ (Zo GT.out.P.few.2.1 (AG.out.lt GT.out.P.lt)).toAdv)
       refine ⟨_,_,_,_,false,rfl,HK.out.1,(ZX fu).next _ _ HK.out.2.2.2.2.2 (AG.out.then_ (Zo GT.out.P.few.2.1 (AG.out.lt GT.out.P.lt)).toAdv).toAdv,fun q=>?_,?_,?_,G71.out⟩
       ·have:=AD.on q
        have:=HK.out.2.1
        have:PS.at_ (Zb L (Zd t)).2<L.length:=G71.out.P.lt
        omega
       ·have:=HK.out.2.2.1
        simp only [List.length_append,List.length_cons,List.length_nil]
        omega
       ·rw [List.map_append,HK.out.2.2.2.1];rfl
     ·skip
      have hA:ZaS L ex t=ex t:=by unfold ZaS;rw [if_neg h38]
      rw [hA] at HK
      clear hA
      have AG:=zh (HX.out.2 _ HK.out.2.2.2.2.2)
      have h38f:isM L [38] t=false:=by simpa using h38
      clear h38
      have CT:=zh (ZQ (y:=[38]) G62.out.P h38f)
      go_upto_region 15 with (go_at_call 73;(with_reducible refine CT.out.mono ?_);rintro e w64 ⟨rfl,hp,hf⟩;have G64:=zh (G62.out.call hp hf);clear hp hf)
      clear G62
      clear CT
      clear h38f
      have G66:=zh (G41.out.call G64.out.P G64.out.F)
      clear G64
      (try go_upto_region 15 with fail)
      have LO:=G66.out.loose
      obtain ⟨A67,n67,c67,B67,m67,d67,C67,q67,e67,hL⟩:=LO
      have G67:=zh hL
      clear hL G66
      (try go_upto_region 15 with fail)
      refine Zco 82 0 1 G67.out (by have:=LB.out;(try simp only [List.length_append,List.length_cons,List.length_nil]);omega) (by intro _ _;go_simp) (fun wr hP=>HX.out.1 wr _ hP HK.out.2.2.2.2.2) (fun v7 g68 c68 y68 w68 hG=>?_)
      (try dsimp only at hG)
      have G68:=zh hG
      clear hG G67
      (try simp only [cl,Act.put])
      go_wp2_with fail
      go_roundg g2
      case measure=>omega
      case rel=>
       have AD:Gon L t (ex t).2:=HK.out.2.2.2.2.1.then_ (AG.out)
       refine ⟨_,_,_,_,false,rfl,HK.out.1,(ZX fu).next _ _ HK.out.2.2.2.2.2 AG.out.toAdv,fun q=>?_,?_,?_,G68.out⟩
       ·have:=AD.on q
        have:=HK.out.2.1
        have:PS.at_ (ex t).2<L.length:=G68.out.P.lt
        omega
       ·have:=HK.out.2.2.1
        simp only [List.length_append,List.length_cons,List.length_nil]
        omega
       ·rw [List.map_append,HK.out.2.2.2.1];rfl
    | false=>
     have hr2:R=ZT L (ZaS L ex) g2 false (l++[((ZaS L ex) (Zf L [44] t)).1]) ((ZaS L ex) (Zf L [44] t)).2:=by rw [HK0.out.1,ZT,if_pos HK0.out.2.2.2.2.1,if_neg HK0.out.2.2.2.2.2.2];rfl
     have AW:=(Zq G41.out.P.few.2.1 [44] G41.out.P.lt).toAdv
     have HK:=zh (zi hr2 (zi HK0.out.2.1 (zi HK0.out.2.2.1 (zi HK0.out.2.2.2.1 (zi AW ((ZX fu).next _ _ HK0.out.2.2.2.2.2.1 (AW)))))))
     clear hr2 AW HK0
     (try go_upto_region 9 with fail)
     have CT:=zh (Zad w0 w41 bp vL L t [44] G41.out.P)
     go_upto_region 11 with (go_at_call 71;(with_reducible refine CT.out.mono ?_);rintro e w61 ⟨rfl,hp,hf⟩;have G61:=zh (G41.out.call hp hf);clear hp hf)
     clear G41
     clear CT
     have GT:=zh G61.out
     have RB:=zh (Zar w0 w61 bp vL L (Zf L [44] t) 15 G61.out.P)
     go_upto_region 12 with (go_at_call 46;(with_reducible refine RB.out.mono ?_);rintro e w62 ⟨rfl,hb⟩;have B1:=zh hb;clear hb)
     have G63:=zh (Gn.side (k:=15) (p:=Ze L (Zf L [44] t)) G61.out.P B1.out)
     have NE:=zh (show w61.heap.size<=w62.heap.size from B1.out.size)
     clear RB
     generalize w62.alloc (.cells #[.int .i64 15,.slice none 0 0,.slice none 0 0,.slice none 0 0,.int .i64 (Ze L (Zf L [44] t)),.slice none 0 0] 58)=w63 at *
     clear B1
     generalize w62.heap.size=b2 at *
     by_cases h38:isM L [38] (Zf L [44] t)=true
     ·skip
      have hA:ZaS L ex (Zf L [44] t)=((.mk 15 [(Zb L (Zd (Zf L [44] t))).1] [] (Ze L (Zf L [44] t)) []),(Zb L (Zd (Zf L [44] t))).2):=by unfold ZaS;rw [if_pos h38]
      rw [hA] at HK
      dsimp only at HK
      clear hA
      have AG:=zh (ZC GT.out.P.few.2.1 GT.out.P.lt h38)
      have CT:=zh (ZY (y:=[38]) G63.out.P h38)
      go_upto_region 13 with (go_at_call 73;(with_reducible refine CT.out.mono ?_);rintro e w65 ⟨rfl,hp,hf⟩;have G65:=zh (G63.out.call hp hf);clear hp hf)
      clear G63
      clear CT
      clear h38
      (try go_upto_region 13 with fail)
      refine Zbg 62 0 6 G65.out (by simp) (fun v5 A66 n66 c66 w66 hG=>?_)
      (try dsimp only at hG)
      have G66:=zh hG
      clear hG G65
      (try simp only [cl,Act.put])
      have G68:=zh (G61.out.call G66.out.P G66.out.F)
      (try go_upto_region 14 with fail)
      have GZ:=G68.out.drew
      have KZ:=G66.out.drew
      have KC:=zh (zi KZ.cells (zi KZ.K.lt (show Value.ownBlock (.slice xC xq xe)≠some b2 from fun e=>by have:=G61.out.V.lt _ e;have:=NE.out;omega)))
      have G69:=zh (zi GZ KZ.tree)
      clear GZ KZ
      have LQ71:=zh (show xq=List.length (vs:List (NV×Tr)) from G68.out.klen)
      have i071:(0:Int)<=((xq:Nat):Int):=by omega
      have i171:((xq:Nat):Int)<((xq:Nat):Int)+1:=by omega
      (try go_upto_region 14 with fail)
      refine wp_region_noPanic ?_
      refine Zai [9,12] (fun V=>V.cell? ⟨b,5,none⟩=some (.slice xC xq xe)/\V.cell? ⟨b2,0,none⟩=some (.int .i64 15)/\V.cell? ⟨b2,1,none⟩=some ((.slice A66 n66 c66))/\V.cell? ⟨b2,2,none⟩=some ((.slice none 0 0))/\V.cell? ⟨b2,3,none⟩=some (.slice none 0 0)/\V.cell? ⟨b2,4,none⟩=some (.int .i64 (Ze L (Zf L [44] t)))/\V.cell? ⟨b2,5,none⟩=some ((.slice none 0 0))) (by kernel_rfl) (zi G69.out.1.cells.2.2.2.2.2 KC.out.1) (fun hH=>?_)
      refine lp 0 rfl ?_
      refine lp 1 rfl ?_
      refine lp 2 rfl ?_
      refine lk 3 rfl ?_
      (try simp only [cl,Act.put])
      refine lk 4 rfl ?_
      (try simp only [cl,Act.put])
      refine lp 5 rfl ?_
      (try simp only [cl,Act.put])
      refine ln 6 rfl fun K hK=>?_
      go_simp
      have G70:=zh (zi (G69.out.1.below (below_alloc1 w66.drew (.cells #[.int .i64 0,.slice none 0 0,.slice none 0 0,.slice none 0 0,.int .i64 0,.slice none 0 0] 58))) (G69.out.2.keep (below_alloc1 w66.drew (.cells #[.int .i64 0,.slice none 0 0,.slice none 0 0,.slice none 0 0,.int .i64 0,.slice none 0 0] 58))))
      have KB70:=zh ((G66.out.drew.below (below_alloc1 w66.drew (.cells #[.int .i64 0,.slice none 0 0,.slice none 0 0,.slice none 0 0,.int .i64 0,.slice none 0 0] 58))).cells)
      have KL70:=zh ((G66.out.drew.below (below_alloc1 w66.drew (.cells #[.int .i64 0,.slice none 0 0,.slice none 0 0,.slice none 0 0,.int .i64 0,.slice none 0 0] 58))).K.lt)
      refine hK.out _ _ (zi G70.out.1.cells.2.2.2.2.2 KB70.out) (fun hH2=>?_)
      clear hK K hH;have hH:=hH2;clear hH2
      (try simp only [cl,Act.put])
      refine ln 7 rfl fun K hK=>?_
      refine ZaF _ rfl _ _ 56 rfl w.heap.size 58 iN (.agg Zbj) 6 112 Tryz.underlying56 hN zN0 zN1 zN2 rfl (by decide) (.slice xC xq xe) xq _ rfl (G70.out.1.V2 LQ71.out) (w66.heap.size+1) (some ⟨w66.heap.size,0,none⟩) 1 1 (Zbj.toList) rfl (Zd5 _ _ _ _ _ _ _ _) (Zea _ _ _ _ _ _ _ _ _ _ _ _ _ _) (by have:=LQ71.out;have:=LB.out;unfold maxLen;omega) (by have:=LQ71.out;have:=LB.out;omega) G70.out.1.F.size ?_
      intro vq w71 hown hgrow hor
      have OS:=Zd6 hown
      obtain ⟨g71,c71,rfl,_⟩:=OS
      have G71:=zh (G70.out.1.zeroed (y:=(((.slice A66 n66 c66),(.slice none 0 0),(.slice none 0 0)),(.mk 15 [(Zb L (Zd (Zf L [44] t))).1] [] (Ze L (Zf L [44] t)) []))) LQ71.out G70.out.2 (fun c hc=>G61.out.apart hc.1) hown hgrow hor)
      have GB71:=zh (G70.out.1.gne hor rfl)
      have KF71:=zh ((G70.out.1.K.grown hgrow G70.out.1.N.1).blk.free 5)
      clear hown hgrow hor
      have KK71:=zh (fun j=>G71.out.2.2.2.1 b2 KL70.out KC.out.2.2 j)
      refine hK.out _ _ (zi G71.out.1 (by have q:=KB70.out;have e:=fun j=>(KK71.out j).2;exact ⟨(e 0).trans q.1,(e 1).trans q.2.1,(e 2).trans q.2.2.1,(e 3).trans q.2.2.2.1,(e 4).trans q.2.2.2.2.1,(e 5).trans q.2.2.2.2.2⟩)) (fun hH2=>?_)
      clear hK K hH;have hH:=hH2;clear hH2
      (try simp only [cl,Act.put])
      refine lp 8 rfl ?_
      refine lp 10 rfl ?_
      refine lp 11 rfl ?_
      (try simp only [cl,Act.put])
      have so:=Zy
      obtain ⟨e0,e1,e2,e3,e4,e5⟩:=G71.out.2.1
      have ef:=G71.out.2.2.1
      have k1:=G71.out.2.2.2.2.1
      have k2:=G71.out.2.2.2.2.2.1
      have k3:=G71.out.1
      have k4:=KF71.out
      (try dsimp only [Tr.kd,Tr.ps] at k1 k2 k3)
      have cf:=fun j=>(World.cell?_setCell_other w71 ⟨b,5,none⟩ ⟨g71,j,none⟩ (.slice (some ⟨g71,0,none⟩) (xq+1) c71) (fun e=>GB71.out (congrArg Addr.block e).symm))
      have d0:=(cf _).trans e0
      have d1:=(cf _).trans e1
      have d2:=(cf _).trans e2
      have d3:=(cf _).trans e3
      have d4:=(cf _).trans e4
      have d5:=(cf _).trans e5
      have E6:=zh (Zd8 w71 g71 xq b (.slice (some ⟨g71,0,none⟩) (xq+1) c71) (.int .i64 15) ((.slice A66 n66 c66)) ((.slice none 0 0)) (.slice none 0 0) (.int .i64 (Ze L (Zf L [44] t))) ((.slice none 0 0)) GB71.out)
      clear cf
      refine Zgn (a1:=?a1_71) (a2:=?a2_71) (b1:=?b1_71) (w1:=?w1_71) (w2:=?w2_71) (v1:=?v1_71) 9 12 rfl rfl (by kernel_rfl) (by kernel_rfl) (by kernel_rfl) (by kernel_rfl) rfl ?s1_71 ?s2_71 ?t1_71 ?t2_71 ?h_71
      case s1_71=>intro K hK;go_simp;exact hK
      case s2_71=>intro K hK;go_simp;exact hK
      case t1_71=>intro K hK;go_simp;exact hK
      case t2_71=>intro K hK;go_simp;rw [<- E6.out] at hK;exact hK
      clear so e0 e1 e2 e3 e4 e5 ef k1 k2 k3 k4 d0 d1 d2 d3 d4 d5 E6 hH
      refine ZaG (by kernel_rfl) ?_ _
      refine NoPanic.normal ?_
      have G72:=zh G71.out.2.2.2.2.2.2
      (try dsimp only [Tr.kd,Tr.ps] at G72)
      clear G68 G69 G70 G71 LQ71 i071 i171 GB71 KF71 KC KB70 KL70 KK71 G66
      generalize ((((((w71.setCell ⟨g71,xq*6,none⟩ (.int .i64 15)).setCell ⟨g71,xq*6+1,none⟩ ((.slice A66 n66 c66))).setCell ⟨g71,xq*6+2,none⟩ ((.slice none 0 0))).setCell ⟨g71,xq*6+3,none⟩ (.slice none 0 0)).setCell ⟨g71,xq*6+4,none⟩ (.int .i64 (Ze L (Zf L [44] t)))).setCell ⟨g71,xq*6+5,none⟩ ((.slice none 0 0))).setCell ⟨b,5,none⟩ (.slice (some ⟨g71,0,none⟩) (xq+1) c71)=w72 at *
      go_wp2_with fail
      go_roundg g2
      case measure=>omega
      case rel=>
       have AD:Gon L t (Zb L (Zd (Zf L [44] t))).2:=HK.out.2.2.2.2.1.then_ (AG.out.then_ (Zo GT.out.P.few.2.1 (AG.out.lt GT.out.P.lt)).toAdv)
       refine ⟨_,_,_,_,false,rfl,HK.out.1,(ZX fu).next _ _ HK.out.2.2.2.2.2 (AG.out.then_ (Zo GT.out.P.few.2.1 (AG.out.lt GT.out.P.lt)).toAdv).toAdv,fun q=>?_,?_,?_,G72.out⟩
       ·have:=AD.on q
        have:=HK.out.2.1
        have:PS.at_ (Zb L (Zd (Zf L [44] t))).2<L.length:=G72.out.P.lt
        omega
       ·have:=HK.out.2.2.1
        simp only [List.length_append,List.length_cons,List.length_nil]
        omega
       ·rw [List.map_append,HK.out.2.2.2.1];rfl
     ·skip
      have hA:ZaS L ex (Zf L [44] t)=ex (Zf L [44] t):=by unfold ZaS;rw [if_neg h38]
      rw [hA] at HK
      clear hA
      have AG:=zh (HX.out.2 _ HK.out.2.2.2.2.2)
      have h38f:isM L [38] (Zf L [44] t)=false:=by simpa using h38
      clear h38
      have CT:=zh (ZQ (y:=[38]) G63.out.P h38f)
      go_upto_region 15 with (go_at_call 73;(with_reducible refine CT.out.mono ?_);rintro e w65 ⟨rfl,hp,hf⟩;have G65:=zh (G63.out.call hp hf);clear hp hf)
      clear G63
      clear CT
      clear h38f
      have G67:=zh (G61.out.call G65.out.P G65.out.F)
      clear G65
      (try go_upto_region 15 with fail)
      have LO:=G67.out.loose
      obtain ⟨A68,n68,c68,B68,m68,d68,C68,q68,e68,hL⟩:=LO
      have G68:=zh hL
      clear hL G67
      (try go_upto_region 15 with fail)
      refine Zco 82 0 1 G68.out (by have:=LB.out;(try simp only [List.length_append,List.length_cons,List.length_nil]);omega) (by intro _ _;go_simp) (fun wr hP=>HX.out.1 wr _ hP HK.out.2.2.2.2.2) (fun v7 g69 c69 y69 w69 hG=>?_)
      (try dsimp only at hG)
      have G69:=zh hG
      clear hG G68
      (try simp only [cl,Act.put])
      go_wp2_with fail
      go_roundg g2
      case measure=>omega
      case rel=>
       have AD:Gon L t (ex (Zf L [44] t)).2:=HK.out.2.2.2.2.1.then_ (AG.out)
       refine ⟨_,_,_,_,false,rfl,HK.out.1,(ZX fu).next _ _ HK.out.2.2.2.2.2 AG.out.toAdv,fun q=>?_,?_,?_,G69.out⟩
       ·have:=AD.on q
        have:=HK.out.2.1
        have:PS.at_ (ex (Zf L [44] t)).2<L.length:=G69.out.P.lt
        omega
       ·have:=HK.out.2.2.1
        simp only [List.length_append,List.length_cons,List.length_nil]
        omega
       ·rw [List.map_append,HK.out.2.2.2.1];rfl
  ·skip
   have hr2:R=(l,t):=by
    rw [hr]
    cases gk with
    | zero=>rfl
    | succ g2=>rw [ZT,if_neg he]
   have hk0:(t.err==0)=false:=by simp [he]
   have HQ:=zh (zi hr2 (zi hD hvl))
   clear hr hr2 hD hf hlen hvl he
   obtain ⟨c0,c1,c2,c3,c4⟩:=G40.out.P.cells
   have cf:=G40.out.P.frees
   go_upto_region 16 with fail
   clear c0 c1 c2 c3 c4 cf
   clear hk0
   obtain ⟨hr2,_,hvl⟩:=HQ.out
   subst hr2
   subst hvl
   have CT:=zh (Zad w0 wr bp vL L t [59] G40.out.P)
   go_wp2_with (go_at_call 71;(with_reducible refine CT.out.mono ?_);rintro e w51 ⟨rfl,hp,hf⟩;have G51:=zh (G40.out.call hp hf);clear hp hf)
   go_end0
   exact ⟨rfl,_,_,_,_,_,_,rfl,G51.out⟩
theorem Zpc (w0 w wi:World) (bp b:Nat) (vL:Value) (L:List Tok) (s:PS) (p:Int) (fu:Nat) (ex:PS->Tr×PS) (hd:Dp L fu s) (hex:ZbH 122 w0 bp vL L (Dp L fu) ex) (hxo:Onw L (Dp L fu) ex) (hG:Gn w0 w wi bp b w.heap.size vL L s ZeZ 8 p [] [] []) :
  Calls Tryz.prog 124 #[.pointer (some ⟨bp,0,none⟩),.pointer (some ⟨b,0,none⟩)] wi (Zem w0 w bp b w.heap.size vL L (ZcC L ex p s).1 (ZcC L ex p s).2):=by
 cases h1:isM L [61] (Zb L s).2 with
 | true=>exact Zqz w0 w wi bp b vL L s p fu ex hd hex hxo h1 hG
 | false=>exact ZnQ w0 w wi bp b vL L s p fu ex hd hex hxo h1 hG
end
end Go.Proofs.YtkongcicmajolaaGreatDoor
