import Derived.Test.YtkongcicmajolaaGreatDoorQBD
import Derived.Test.YtkongcicmajolaaGreatDoorQBJ
set_option maxRecDepth 100000
set_option maxHeartbeats 8000000
namespace Go.Proofs.YtkongcicmajolaaGreatDoor
section
open Go.RowKit
def Zem (w0 w:World) (bp b r:Nat) (vL:Value) (L:List Tok) (T:Tr) (s2:PS) (e:Ending) (w2:World):Prop:=e=.returned (.tuple #[])/\∃ (x2:NV) (k p:Int) (ws:List Txt) (us:List Int) (vs:List (NV×Tr)),T=.mk k ws us p (vs.map (·.2))/\Gn w0 w w2 bp b r vL L s2 x2 k p ws us vs
theorem ZqA (w0 w wi:World) (bp b:Nat) (vL:Value) (L:List Tok) (s:PS) (p:Int) (st:PS->Tr×PS) (h1:isM L [59] (Zb L (Zf L [46] (Zb L s).2)).2=true) (hG:Gn w0 w wi bp b w.heap.size vL L s ZeZ 8 p [] [] []) :
  Calls Tryz.prog 123 #[.pointer (some ⟨bp,0,none⟩),.pointer (some ⟨b,0,none⟩)] wi (Zem w0 w bp b w.heap.size vL L (doM L st p s).1 (doM L st p s).2):=by
 have hM:doM L st p s=(.mk 11 [(Zb L s).1,(Zb L (Zf L [46] (Zb L s).2)).1] [] p [],Zd (Zb L (Zf L [46] (Zb L s).2)).2):=by unfold doM;simp only [h1,if_true]
 rw [hM]
 clear hM
 have G2:=zh hG
 clear hG
 obtain ⟨iS,hS,zS0,zS1,zS2⟩:=info_parts Zbd
 obtain ⟨iU,hU,zU0,zU1,zU2⟩:=info_parts Zbl
 obtain ⟨iN,hN,zN0,zN1,zN2⟩:=info_parts Za8
 go_enter Tryz.func123,Tryz.ntmps123
 obtain ⟨q0,q1,q2,q3,q4,q5⟩:=G2.out.cells
 dsimp only at q1 q2 q5
 have qf:=G2.out.free
 go_upto_region 1 with fail
 clear q0 q1 q2 q3 q4 q5 qf
 have G3:=zh (G2.out.setk 11)
 clear G2
 generalize wi.setCell ⟨b,0,none⟩ (.int .i64 11)=w3 at *
 have NM:=zh (Zdq w0 w3.drew bp vL L s G3.out.drew.P)
 have NL:=zh G3.out.P.name_len
 (try go_upto_region 1 with fail)
 refine wp_region_noPanic ?_
 refine Zai [13] (fun V=>V.cell? ⟨b,1,none⟩=some (.slice none 0 0)) (by kernel_rfl) (G3.out.drew.cells.2.1) (fun hH=>?_)
 refine lp 0 rfl ?_
 refine lp 1 rfl ?_
 refine lp 2 rfl ?_
 refine lp 3 rfl ?_
 refine lp 4 rfl ?_
 refine lk 5 rfl ?_
 (try simp only [cl,Act.put])
 refine lp 6 rfl ?_
 (try simp only [cl,Act.put])
 refine ln 7 rfl fun K hK=>?_
 go_simp
 go_at_call 72
 refine NM.out.mono ?_
 rintro e w4 ⟨rfl,hp,hf⟩
 have G4:=zh (G3.out.drew.call hp hf)
 clear hp hf
 go_wp2_with fail
 refine hK.out _ _ (G4.out.cells.2.1) (fun hH2=>?_)
 clear hK K hH;have hH:=hH2;clear hH2
 (try simp only [cl,Act.put])
 refine ln 8 rfl fun K hK=>?_
 go_simp
 have G5:=zh (G4.out.below (below_alloc1 w4 (.cells #[txt (Zb L s).1] 9)))
 refine hK.out _ _ (G5.out.cells.2.1) (fun hH2=>?_)
 clear hK K hH;have hH:=hH2;clear hH2
 (try simp only [cl,Act.put])
 refine ln 9 rfl fun K hK=>?_
 refine ZaF _ rfl _ _ 33 rfl w.heap.size 9 iS (.string ⟨#[]⟩) 1 16 Tryz.underlying33 hS zS0 zS1 zS2 rfl (by decide) (.slice none 0 0) _ _ rfl G5.out.W (w4.heap.size+1) (some ⟨w4.heap.size,0,none⟩) 1 1 [txt (Zb L s).1] rfl (Zdp _ _ _) (ZhY _) (by simp [maxLen]) (by simp) G5.out.F.size ?_
 intro vq w6 hown hgrow _
 have OS:=Zbc hown
 obtain ⟨A6,n6,c6,rfl⟩:=OS
 have G6:=zh (G5.out.word NL.out hown hgrow)
 clear hown hgrow
 refine hK.out _ _ (G6.out.1) (fun hH2=>?_)
 clear hK K hH;have hH:=hH2;clear hH2
 (try simp only [cl,Act.put])
 refine lp 10 rfl ?_
 refine lp 11 rfl ?_
 refine lp 12 rfl ?_
 (try simp only [cl,Act.put])
 refine le_ 13 rfl fun K hK=>?_
 have k1:=G6.out.1
 have k2:=G6.out.2.1
 go_simp
 refine hK.out _ _ ?_
 clear hK K hH k1 k2
 refine ZaG (by kernel_rfl) ?_ _
 refine NoPanic.normal ?_
 have G7:=zh G6.out.2.2
 clear G3 G4 G5 G6 NM NL
 generalize w6.setCell ⟨b,1,none⟩ (.slice A6 n6 c6)=w7 at *
 (try go_upto_region 2 with fail)
 have CT:=zh (Zad w0 w7 bp vL L (Zb L s).2 [46] G7.out.P)
 go_upto_region 3 with (go_at_call 71;(with_reducible refine CT.out.mono ?_);rintro e w8 ⟨rfl,hp,hf⟩;have G8:=zh (G7.out.call hp hf);clear hp hf)
 clear G7
 clear CT
 have NM:=zh (Zdq w0 w8.drew bp vL L (Zf L [46] (Zb L s).2) G8.out.drew.P)
 have NL:=zh G8.out.P.name_len
 (try go_upto_region 3 with fail)
 refine wp_region_noPanic ?_
 refine Zai [13] (fun V=>V.cell? ⟨b,1,none⟩=some (.slice A6 n6 c6)) (by kernel_rfl) (G8.out.drew.cells.2.1) (fun hH=>?_)
 refine lp 0 rfl ?_
 refine lp 1 rfl ?_
 refine lp 2 rfl ?_
 refine lp 3 rfl ?_
 refine lp 4 rfl ?_
 refine lk 5 rfl ?_
 (try simp only [cl,Act.put])
 refine lp 6 rfl ?_
 (try simp only [cl,Act.put])
 refine ln 7 rfl fun K hK=>?_
 go_simp
 go_at_call 72
 refine NM.out.mono ?_
 rintro e w9 ⟨rfl,hp,hf⟩
 have G9:=zh (G8.out.drew.call hp hf)
 clear hp hf
 go_wp2_with fail
 refine hK.out _ _ (G9.out.cells.2.1) (fun hH2=>?_)
 clear hK K hH;have hH:=hH2;clear hH2
 (try simp only [cl,Act.put])
 refine ln 8 rfl fun K hK=>?_
 go_simp
 have G10:=zh (G9.out.below (below_alloc1 w9 (.cells #[txt (Zb L (Zf L [46] (Zb L s).2)).1] 9)))
 refine hK.out _ _ (G10.out.cells.2.1) (fun hH2=>?_)
 clear hK K hH;have hH:=hH2;clear hH2
 (try simp only [cl,Act.put])
 refine ln 9 rfl fun K hK=>?_
 refine ZaF _ rfl _ _ 33 rfl w.heap.size 9 iS (.string ⟨#[]⟩) 1 16 Tryz.underlying33 hS zS0 zS1 zS2 rfl (by decide) (.slice A6 n6 c6) _ _ rfl G10.out.W (w9.heap.size+1) (some ⟨w9.heap.size,0,none⟩) 1 1 [txt (Zb L (Zf L [46] (Zb L s).2)).1] rfl (Zdp _ _ _) (ZhY _) (by simp [maxLen]) (by simp) G10.out.F.size ?_
 intro vq w11 hown hgrow _
 have OS:=Zbc hown
 obtain ⟨A11,n11,c11,rfl⟩:=OS
 have G11:=zh (G10.out.word NL.out hown hgrow)
 clear hown hgrow
 refine hK.out _ _ (G11.out.1) (fun hH2=>?_)
 clear hK K hH;have hH:=hH2;clear hH2
 (try simp only [cl,Act.put])
 refine lp 10 rfl ?_
 refine lp 11 rfl ?_
 refine lp 12 rfl ?_
 (try simp only [cl,Act.put])
 refine le_ 13 rfl fun K hK=>?_
 have k1:=G11.out.1
 have k2:=G11.out.2.1
 go_simp
 refine hK.out _ _ ?_
 clear hK K hH k1 k2
 refine ZaG (by kernel_rfl) ?_ _
 refine NoPanic.normal ?_
 have G12:=zh G11.out.2.2
 clear G8 G9 G10 G11 NM NL
 generalize w11.setCell ⟨b,1,none⟩ (.slice A11 n11 c11)=w12 at *
 (try go_upto_region 4 with fail)
 have CT:=zh (ZY (y:=[59]) G12.out.P h1)
 go_wp2_with (go_at_call 73;(with_reducible refine CT.out.mono ?_);rintro e w13 ⟨rfl,hp,hf⟩;have G13:=zh (G12.out.call hp hf);clear hp hf)
 go_end0
 exact ⟨rfl,_,_,_,_,_,_,rfl,G13.out⟩
theorem Zpd (w0 w wi:World) (bp b:Nat) (vL:Value) (L:List Tok) (s:PS) (p:Int) (f:Nat) (st:PS->Tr×PS) (h1:isM L [59] (Zb L (Zf L [46] (Zb L s).2)).2=false) (hd:Dp L (f+1) s) (h200:s.deep<=200) (hb:Zcr w0 bp vL L f st) (hgo:Stm L f st) (hG:Gn w0 w wi bp b w.heap.size vL L s ZeZ 8 p [] [] []) :
  Calls Tryz.prog 123 #[.pointer (some ⟨bp,0,none⟩),.pointer (some ⟨b,0,none⟩)] wi (Zem w0 w bp b w.heap.size vL L (doM L st p s).1 (doM L st p s).2):=by
 obtain ⟨R,hR⟩:∃ R,R=ZaP L (ZcR L st) [125] (L.length+1) [] (Zf L [123] (Zb L (Zf L [46] (Zb L s).2)).2):=⟨_,rfl⟩
 have hM:doM L st p s=(.mk 11 [(Zb L s).1,(Zb L (Zf L [46] (Zb L s).2)).1] [] p R.1,R.2):=by rw [hR];unfold doM;simp only [h1,Bool.false_eq_true,if_false]
 rw [hM]
 have D:=ZR (L:=L) (f+1)
 have g1:=Zo hG.P.few.2.1 hG.P.lt
 have g2:=Zq hG.P.few.2.1 [46] (g1.lt hG.P.lt)
 have g3:=Zo hG.P.few.2.1 (g2.lt (g1.lt hG.P.lt))
 have g4:=Zq hG.P.few.2.1 [123] (g3.lt (g2.lt (g1.lt hG.P.lt)))
 have HD:=zh (D.next _ _ ⟨hd,h200⟩ (((g1.toAdv.trans g2.toAdv).trans g3.toAdv).trans g4.toAdv))
 have HR:=zh hR
 have HB:=zh (zi hb hgo)
 have H1:=zh h1
 clear hM hR D g1 g2 g3 g4 hd h200 hb hgo h1
 have G2:=zh hG
 clear hG
 obtain ⟨iS,hS,zS0,zS1,zS2⟩:=info_parts Zbd
 obtain ⟨iU,hU,zU0,zU1,zU2⟩:=info_parts Zbl
 obtain ⟨iN,hN,zN0,zN1,zN2⟩:=info_parts Za8
 go_enter Tryz.func123,Tryz.ntmps123
 obtain ⟨q0,q1,q2,q3,q4,q5⟩:=G2.out.cells
 dsimp only at q1 q2 q5
 have qf:=G2.out.free
 go_upto_region 1 with fail
 clear q0 q1 q2 q3 q4 q5 qf
 have G3:=zh (G2.out.setk 11)
 clear G2
 generalize wi.setCell ⟨b,0,none⟩ (.int .i64 11)=w3 at *
 have NM:=zh (Zdq w0 w3.drew bp vL L s G3.out.drew.P)
 have NL:=zh G3.out.P.name_len
 (try go_upto_region 1 with fail)
 refine wp_region_noPanic ?_
 refine Zai [13] (fun V=>V.cell? ⟨b,1,none⟩=some (.slice none 0 0)) (by kernel_rfl) (G3.out.drew.cells.2.1) (fun hH=>?_)
 refine lp 0 rfl ?_
 refine lp 1 rfl ?_
 refine lp 2 rfl ?_
 refine lp 3 rfl ?_
 refine lp 4 rfl ?_
 refine lk 5 rfl ?_
 (try simp only [cl,Act.put])
 refine lp 6 rfl ?_
 (try simp only [cl,Act.put])
 refine ln 7 rfl fun K hK=>?_
 go_simp
 go_at_call 72
 refine NM.out.mono ?_
 rintro e w4 ⟨rfl,hp,hf⟩
 have G4:=zh (G3.out.drew.call hp hf)
 clear hp hf
 go_wp2_with fail
 refine hK.out _ _ (G4.out.cells.2.1) (fun hH2=>?_)
 clear hK K hH;have hH:=hH2;clear hH2
 (try simp only [cl,Act.put])
 refine ln 8 rfl fun K hK=>?_
 go_simp
 have G5:=zh (G4.out.below (below_alloc1 w4 (.cells #[txt (Zb L s).1] 9)))
 refine hK.out _ _ (G5.out.cells.2.1) (fun hH2=>?_)
 clear hK K hH;have hH:=hH2;clear hH2
 (try simp only [cl,Act.put])
 refine ln 9 rfl fun K hK=>?_
 refine ZaF _ rfl _ _ 33 rfl w.heap.size 9 iS (.string ⟨#[]⟩) 1 16 Tryz.underlying33 hS zS0 zS1 zS2 rfl (by decide) (.slice none 0 0) _ _ rfl G5.out.W (w4.heap.size+1) (some ⟨w4.heap.size,0,none⟩) 1 1 [txt (Zb L s).1] rfl (Zdp _ _ _) (ZhY _) (by simp [maxLen]) (by simp) G5.out.F.size ?_
 intro vq w6 hown hgrow _
 have OS:=Zbc hown
 obtain ⟨A6,n6,c6,rfl⟩:=OS
 have G6:=zh (G5.out.word NL.out hown hgrow)
 clear hown hgrow
 refine hK.out _ _ (G6.out.1) (fun hH2=>?_)
 clear hK K hH;have hH:=hH2;clear hH2
 (try simp only [cl,Act.put])
 refine lp 10 rfl ?_
 refine lp 11 rfl ?_
 refine lp 12 rfl ?_
 (try simp only [cl,Act.put])
 refine le_ 13 rfl fun K hK=>?_
 have k1:=G6.out.1
 have k2:=G6.out.2.1
 go_simp
 refine hK.out _ _ ?_
 clear hK K hH k1 k2
 refine ZaG (by kernel_rfl) ?_ _
 refine NoPanic.normal ?_
 have G7:=zh G6.out.2.2
 clear G3 G4 G5 G6 NM NL
 generalize w6.setCell ⟨b,1,none⟩ (.slice A6 n6 c6)=w7 at *
 (try go_upto_region 2 with fail)
 have CT:=zh (Zad w0 w7 bp vL L (Zb L s).2 [46] G7.out.P)
 go_upto_region 3 with (go_at_call 71;(with_reducible refine CT.out.mono ?_);rintro e w8 ⟨rfl,hp,hf⟩;have G8:=zh (G7.out.call hp hf);clear hp hf)
 clear G7
 clear CT
 have NM:=zh (Zdq w0 w8.drew bp vL L (Zf L [46] (Zb L s).2) G8.out.drew.P)
 have NL:=zh G8.out.P.name_len
 (try go_upto_region 3 with fail)
 refine wp_region_noPanic ?_
 refine Zai [13] (fun V=>V.cell? ⟨b,1,none⟩=some (.slice A6 n6 c6)) (by kernel_rfl) (G8.out.drew.cells.2.1) (fun hH=>?_)
 refine lp 0 rfl ?_
 refine lp 1 rfl ?_
 refine lp 2 rfl ?_
 refine lp 3 rfl ?_
 refine lp 4 rfl ?_
 refine lk 5 rfl ?_
 (try simp only [cl,Act.put])
 refine lp 6 rfl ?_
 (try simp only [cl,Act.put])
 refine ln 7 rfl fun K hK=>?_
 go_simp
 go_at_call 72
 refine NM.out.mono ?_
 rintro e w9 ⟨rfl,hp,hf⟩
 have G9:=zh (G8.out.drew.call hp hf)
 clear hp hf
 go_wp2_with fail
 refine hK.out _ _ (G9.out.cells.2.1) (fun hH2=>?_)
 clear hK K hH;have hH:=hH2;clear hH2
 (try simp only [cl,Act.put])
 refine ln 8 rfl fun K hK=>?_
 go_simp
 have G10:=zh (G9.out.below (below_alloc1 w9 (.cells #[txt (Zb L (Zf L [46] (Zb L s).2)).1] 9)))
 refine hK.out _ _ (G10.out.cells.2.1) (fun hH2=>?_)
 clear hK K hH;have hH:=hH2;clear hH2
 (try simp only [cl,Act.put])
 refine ln 9 rfl fun K hK=>?_
 refine ZaF _ rfl _ _ 33 rfl w.heap.size 9 iS (.string ⟨#[]⟩) 1 16 Tryz.underlying33 hS zS0 zS1 zS2 rfl (by decide) (.slice A6 n6 c6) _ _ rfl G10.out.W (w9.heap.size+1) (some ⟨w9.heap.size,0,none⟩) 1 1 [txt (Zb L (Zf L [46] (Zb L s).2)).1] rfl (Zdp _ _ _) (ZhY _) (by simp [maxLen]) (by simp) G10.out.F.size ?_
 intro vq w11 hown hgrow _
 have OS:=Zbc hown
 obtain ⟨A11,n11,c11,rfl⟩:=OS
 have G11:=zh (G10.out.word NL.out hown hgrow)
 clear hown hgrow
 refine hK.out _ _ (G11.out.1) (fun hH2=>?_)
 clear hK K hH;have hH:=hH2;clear hH2
 (try simp only [cl,Act.put])
 refine lp 10 rfl ?_
 refine lp 11 rfl ?_
 refine lp 12 rfl ?_
 (try simp only [cl,Act.put])
 refine le_ 13 rfl fun K hK=>?_
 have k1:=G11.out.1
 have k2:=G11.out.2.1
 go_simp
 refine hK.out _ _ ?_
 clear hK K hH k1 k2
 refine ZaG (by kernel_rfl) ?_ _
 refine NoPanic.normal ?_
 have G12:=zh G11.out.2.2
 clear G8 G9 G10 G11 NM NL
 generalize w11.setCell ⟨b,1,none⟩ (.slice A11 n11 c11)=w12 at *
 (try go_upto_region 4 with fail)
 have CT:=zh (ZQ (y:=[59]) G12.out.P H1.out)
 go_upto_region 5 with (go_at_call 73;(with_reducible refine CT.out.mono ?_);rintro e w13 ⟨rfl,hp,hf⟩;have G13:=zh (G12.out.call hp hf);clear hp hf)
 clear G12
 clear CT
 have CT:=zh (Zad w0 w13 bp vL L (Zb L (Zf L [46] (Zb L s).2)).2 [123] G13.out.P)
 go_upto_region 6 with (go_at_call 71;(with_reducible refine CT.out.mono ?_);rintro e w14 ⟨rfl,hp,hf⟩;have G14:=zh (G13.out.call hp hf);clear hp hf)
 clear G13
 clear CT
 go_upto_region 6 with fail
 have FEW:=zh G14.out.P.few.1
 go_loopg [] (L.length+1) (fun g wr=>∃ (l:List Tr) (t:PS) (x:NV) (vs:List (NV×Tr)),R=ZaP L (ZcR L st) [125] g l t/\(Dp L (f+1) t/\PS.deep t<=200)/\(t.err=0->L.length-t.at_<g)/\vs.length+g<=L.length+1/\vs.map (·.2)=l/\Gn w0 w wr bp b w.heap.size vL L t x 11 p [(Zb L s).1,(Zb L (Zf L [46] (Zb L s).2)).1] [] vs)
 case atStart=>exact ⟨[],_,_,[],HR.out,HD.out,fun _=>by omega,by simp,rfl,G14.out⟩
 case round=>
  obtain ⟨l,t,x,vs,hr,hD,hf,hlen,hvl,hG⟩:=hrel
  have SH:=hG.shape
  obtain ⟨xA,xn,xc,xB,xm,xd,xC,xq,xe,rfl⟩:=SH
  clear G14
  have G40:=zh hG
  have LB:=zh (show vs.length<=100004 by have:=FEW.out;omega)
  clear hG
  by_cases he:t.err=0
  ·skip
   obtain ⟨g2,rfl⟩:∃ g2,gk=g2+1:=⟨gk-1,by have:=hf he;omega⟩
   have hk0:(t.err==0)=true:=by simp [he]
   by_cases hc:isM L [125] t=true
   ·skip
    have hr2:R=(l,Zd t):=by rw [hr,ZaP,if_pos he,if_pos hc]
    have CT:=zh (ZY (y:=[125]) G40.out.P hc)
    have HQ:=zh (zi hr2 (zi hD hvl))
    clear hr hr2 hD hf hlen hvl he hc
    obtain ⟨c0,c1,c2,c3,c4⟩:=G40.out.P.cells
    have cf:=G40.out.P.frees
    go_wp2_with (go_at_call 73;(with_reducible refine CT.out.mono ?_);rintro e w41 ⟨rfl,hp,hf⟩;have G41:=zh (G40.out.call hp hf);clear hp hf)
    obtain ⟨hr2,_,hvl⟩:=HQ.out
    subst hr2
    subst hvl
    go_end0
    exact ⟨rfl,_,_,_,_,_,_,rfl,G41.out⟩
   ·skip
    have hc0:isM L [125] t=false:=by simpa using hc
    have hr2:R=ZaP L (ZcR L st) [125] g2 (l++[((ZcR L st) t).1]) ((ZcR L st) t).2:=by rw [hr,ZaP,if_pos he,if_neg hc]
    have CT:=zh (ZQ (y:=[125]) G40.out.P hc0)
    have HK:=zh (zi hr2 (zi (hf he) (zi hlen (zi hvl (zi he hD)))))
    clear hr hr2 hD hf hlen hvl hc hc0 he
    obtain ⟨c0,c1,c2,c3,c4⟩:=G40.out.P.cells
    have cf:=G40.out.P.frees
    go_upto_region 7 with (go_at_call 73;(with_reducible refine CT.out.mono ?_);rintro e w41 ⟨rfl,hp,hf⟩;have G41:=zh (G40.out.call hp hf);clear hp hf)
    clear c0 c1 c2 c3 c4 cf
    clear hk0 CT G40
    have GT:=zh G41.out
    have RB:=zh (Zar w0 w41 bp vL L t 12 G41.out.P)
    go_upto_region 8 with (go_at_call 46;(with_reducible refine RB.out.mono ?_);rintro e w51 ⟨rfl,hb⟩;have B1:=zh hb;clear hb)
    have G52:=zh (Gn.side (k:=12) (p:=Ze L t) G41.out.P B1.out)
    have NE:=zh (show w41.heap.size<=w51.heap.size from B1.out.size)
    clear RB
    generalize w51.alloc (.cells #[.int .i64 12,.slice none 0 0,.slice none 0 0,.slice none 0 0,.int .i64 (Ze L t),.slice none 0 0] 58)=w52 at *
    clear B1
    generalize w51.heap.size=b2 at *
    (try go_upto_region 8 with fail)
    refine Zbg 54 0 4 G52.out (by simp) (fun v5 A54 n54 c54 w54 hG=>?_)
    (try dsimp only at hG)
    have G54:=zh hG
    clear hG G52
    (try simp only [cl,Act.put])
    have AN:=zh ((ZR (L:=L) (f+1)).next _ _ HK.out.2.2.2.2.2 (Zo GT.out.P.few.2.1 GT.out.P.lt).toAdv)
    (try go_upto_region 9 with fail)
    refine ZdV 63 0 4 G54.out (by simp) (by intro _ _;go_simp) (fun wr hP=>HB.out.1 wr _ hP AN.out) (fun v5 A55 n55 c55 y55 w55 hG=>?_)
    (try dsimp only at hG)
    have G55:=zh hG
    clear hG G54
    (try simp only [cl,Act.put])
    have G57:=zh (G41.out.call G55.out.P G55.out.F)
    (try go_upto_region 10 with fail)
    have GZ:=G57.out.drew
    have KZ:=G55.out.drew
    have KC:=zh (zi KZ.cells (zi KZ.K.lt (show Value.ownBlock (.slice xC xq xe)≠some b2 from fun e=>by have:=G41.out.V.lt _ e;have:=NE.out;omega)))
    have G58:=zh (zi GZ KZ.tree)
    clear GZ KZ
    have LQ60:=zh (show xq=List.length (vs:List (NV×Tr)) from G57.out.klen)
    have i060:(0:Int)<=((xq:Nat):Int):=by omega
    have i160:((xq:Nat):Int)<((xq:Nat):Int)+1:=by omega
    (try go_upto_region 10 with fail)
    refine wp_region_noPanic ?_
    refine Zai [9,12] (fun V=>V.cell? ⟨b,5,none⟩=some (.slice xC xq xe)/\V.cell? ⟨b2,0,none⟩=some (.int .i64 12)/\V.cell? ⟨b2,1,none⟩=some ((.slice A54 n54 c54))/\V.cell? ⟨b2,2,none⟩=some ((.slice none 0 0))/\V.cell? ⟨b2,3,none⟩=some (.slice none 0 0)/\V.cell? ⟨b2,4,none⟩=some (.int .i64 (Ze L t))/\V.cell? ⟨b2,5,none⟩=some ((.slice A55 n55 c55))) (by kernel_rfl) (zi G58.out.1.cells.2.2.2.2.2 KC.out.1) (fun hH=>?_)
    refine lp 0 rfl ?_
    refine lp 1 rfl ?_
    refine lp 2 rfl ?_
    refine lk 3 rfl ?_
    (try simp only [cl,Act.put])
    refine lk 4 rfl ?_
    (try simp only [cl,Act.put])
    refine lp 5 rfl ?_
    (try simp only [cl,Act.put])
    refine ln 6 rfl fun K hK=>?_
    go_simp
    have G59:=zh (zi (G58.out.1.below (below_alloc1 w55.drew (.cells #[.int .i64 0,.slice none 0 0,.slice none 0 0,.slice none 0 0,.int .i64 0,.slice none 0 0] 58))) (G58.out.2.keep (below_alloc1 w55.drew (.cells #[.int .i64 0,.slice none 0 0,.slice none 0 0,.slice none 0 0,.int .i64 0,.slice none 0 0] 58))))
    have KB59:=zh ((G55.out.drew.below (below_alloc1 w55.drew (.cells #[.int .i64 0,.slice none 0 0,.slice none 0 0,.slice none 0 0,.int .i64 0,.slice none 0 0] 58))).cells)
    have KL59:=zh ((G55.out.drew.below (below_alloc1 w55.drew (.cells #[.int .i64 0,.slice none 0 0,.slice none 0 0,.slice none 0 0,.int .i64 0,.slice none 0 0] 58))).K.lt)
    refine hK.out _ _ (zi G59.out.1.cells.2.2.2.2.2 KB59.out) (fun hH2=>?_)
    clear hK K hH;have hH:=hH2;clear hH2
    (try simp only [cl,Act.put])
    refine ln 7 rfl fun K hK=>?_
    refine ZaF _ rfl _ _ 56 rfl w.heap.size 58 iN (.agg Zbj) 6 112 Tryz.underlying56 hN zN0 zN1 zN2 rfl (by decide) (.slice xC xq xe) xq _ rfl (G59.out.1.V2 LQ60.out) (w55.heap.size+1) (some ⟨w55.heap.size,0,none⟩) 1 1 (Zbj.toList) rfl (Zd5 _ _ _ _ _ _ _ _) (Zea _ _ _ _ _ _ _ _ _ _ _ _ _ _) (by have:=LQ60.out;have:=LB.out;unfold maxLen;omega) (by have:=LQ60.out;have:=LB.out;omega) G59.out.1.F.size ?_
    intro vq w60 hown hgrow hor
    have OS:=Zd6 hown
    obtain ⟨g60,c60,rfl,_⟩:=OS
    have G60:=zh (G59.out.1.zeroed (y:=(((.slice A54 n54 c54),(.slice none 0 0),(.slice A55 n55 c55)),(.mk 12 [(Zb L t).1] [] (Ze L t) [(Zag L st (Zb L t).2).1]))) LQ60.out G59.out.2 (fun c hc=>G41.out.apart hc.1) hown hgrow hor)
    have GB60:=zh (G59.out.1.gne hor rfl)
    have KF60:=zh ((G59.out.1.K.grown hgrow G59.out.1.N.1).blk.free 5)
    clear hown hgrow hor
    have KK60:=zh (fun j=>G60.out.2.2.2.1 b2 KL59.out KC.out.2.2 j)
    refine hK.out _ _ (zi G60.out.1 (by have q:=KB59.out;have e:=fun j=>(KK60.out j).2;exact ⟨(e 0).trans q.1,(e 1).trans q.2.1,(e 2).trans q.2.2.1,(e 3).trans q.2.2.2.1,(e 4).trans q.2.2.2.2.1,(e 5).trans q.2.2.2.2.2⟩)) (fun hH2=>?_)
    clear hK K hH;have hH:=hH2;clear hH2
    (try simp only [cl,Act.put])
    refine lp 8 rfl ?_
    refine lp 10 rfl ?_
    refine lp 11 rfl ?_
    (try simp only [cl,Act.put])
    have so:=Zy
    obtain ⟨e0,e1,e2,e3,e4,e5⟩:=G60.out.2.1
    have ef:=G60.out.2.2.1
    have k1:=G60.out.2.2.2.2.1
    have k2:=G60.out.2.2.2.2.2.1
    have k3:=G60.out.1
    have k4:=KF60.out
    (try dsimp only [Tr.kd,Tr.ps] at k1 k2 k3)
    have cf:=fun j=>(World.cell?_setCell_other w60 ⟨b,5,none⟩ ⟨g60,j,none⟩ (.slice (some ⟨g60,0,none⟩) (xq+1) c60) (fun e=>GB60.out (congrArg Addr.block e).symm))
    have d0:=(cf _).trans e0
    have d1:=(cf _).trans e1
    have d2:=(cf _).trans e2
    have d3:=(cf _).trans e3
    have d4:=(cf _).trans e4
    have d5:=(cf _).trans e5
    have E6:=zh (Zd8 w60 g60 xq b (.slice (some ⟨g60,0,none⟩) (xq+1) c60) (.int .i64 12) ((.slice A54 n54 c54)) ((.slice none 0 0)) (.slice none 0 0) (.int .i64 (Ze L t)) ((.slice A55 n55 c55)) GB60.out)
    clear cf
    refine Zgn (a1:=?a1_60) (a2:=?a2_60) (b1:=?b1_60) (w1:=?w1_60) (w2:=?w2_60) (v1:=?v1_60) 9 12 rfl rfl (by kernel_rfl) (by kernel_rfl) (by kernel_rfl) (by kernel_rfl) rfl ?s1_60 ?s2_60 ?t1_60 ?t2_60 ?h_60
    case s1_60=>intro K hK;go_simp;exact hK
    case s2_60=>intro K hK;go_simp;exact hK
    case t1_60=>intro K hK;go_simp;exact hK
    case t2_60=>intro K hK;go_simp;rw [<- E6.out] at hK;exact hK
    clear so e0 e1 e2 e3 e4 e5 ef k1 k2 k3 k4 d0 d1 d2 d3 d4 d5 E6 hH
    refine ZaG (by kernel_rfl) ?_ _
    refine NoPanic.normal ?_
    have G61:=zh G60.out.2.2.2.2.2.2
    (try dsimp only [Tr.kd,Tr.ps] at G61)
    clear G57 G58 G59 G60 LQ60 i060 i160 GB60 KF60 KC KB59 KL59 KK60 G55
    generalize ((((((w60.setCell ⟨g60,xq*6,none⟩ (.int .i64 12)).setCell ⟨g60,xq*6+1,none⟩ ((.slice A54 n54 c54))).setCell ⟨g60,xq*6+2,none⟩ ((.slice none 0 0))).setCell ⟨g60,xq*6+3,none⟩ (.slice none 0 0)).setCell ⟨g60,xq*6+4,none⟩ (.int .i64 (Ze L t))).setCell ⟨g60,xq*6+5,none⟩ ((.slice A55 n55 c55))).setCell ⟨b,5,none⟩ (.slice (some ⟨g60,0,none⟩) (xq+1) c60)=w61 at *
    go_wp2_with fail
    go_roundg g2
    case measure=>omega
    case rel=>
     have AD:Gon L t ((ZcR L st) t).2:=ZfR GT.out.P.few.2.1 HB.out.2 HK.out.2.2.2.2.2.1 HK.out.2.2.2.2.2.2
     refine ⟨_,_,_,_,HK.out.1,(ZR (f+1)).next _ _ HK.out.2.2.2.2.2 AD.toAdv,fun q=>?_,?_,?_,G61.out⟩
     ·have:=AD.on q
      have:=HK.out.2.1
      have:PS.at_ ((ZcR L st) t).2<L.length:=G61.out.P.lt
      omega
     ·have:=HK.out.2.2.1
      simp only [List.length_append,List.length_cons,List.length_nil]
      omega
     ·rw [List.map_append,HK.out.2.2.2.1];rfl
  ·skip
   have hr2:R=(l,t):=by
    rw [hr]
    cases gk with
    | zero=>rfl
    | succ g2=>rw [ZaP,if_neg he]
   have hk0:(t.err==0)=false:=by simp [he]
   have HQ:=zh (zi hr2 (zi hD hvl))
   clear hr hr2 hD hf hlen hvl he
   obtain ⟨c0,c1,c2,c3,c4⟩:=G40.out.P.cells
   have cf:=G40.out.P.frees
   go_wp2_with fail
   obtain ⟨hr2,_,hvl⟩:=HQ.out
   subst hr2
   subst hvl
   go_end0
   exact ⟨rfl,_,_,_,_,_,_,rfl,G40.out⟩
end
section
open Go.RowKit
theorem Zkr (w0 w wi:World) (bp b:Nat) (vL:Value) (L:List Tok) (s:PS) (p:Int) (f:Nat) (ex st:PS->Tr×PS) (hd:Dp L (f+1) s) (h200:s.deep<=200) (hex:ZbH 122 w0 bp vL L (Dp L (f+1)) ex) (hxo:Onw L (Dp L (f+1)) ex) (hb:Zcr w0 bp vL L f st) (hgo:Stm L f st) (h1:isM L [105,102] s=true) (h2:isM L [101,108,115,101] (Zag L st (ex (Zd s)).2).2=true) (hG:Gn w0 w wi bp b w.heap.size vL L s ZeZ 8 p [] [] []) :
  Calls Tryz.prog 125 #[.pointer (some ⟨bp,0,none⟩),.pointer (some ⟨b,0,none⟩)] wi (Zem w0 w bp b w.heap.size vL L (Zbb L ex st p s).1 (Zbb L ex st p s).2):=by
 have hM:Zbb L ex st p s=(.mk 16 [] [] p [(ex (Zd s)).1,(Zag L st (ex (Zd s)).2).1,(Zag L st (Zd (Zag L st (ex (Zd s)).2).2)).1],(Zag L st (Zd (Zag L st (ex (Zd s)).2).2)).2):=by unfold Zbb;simp only [h1,h2,if_true]
 rw [hM]
 clear hM
 have D:=ZR (L:=L) (f+1)
 have g1:=ZC hG.P.few.2.1 hd.lt h1
 have d1:=D.next _ _ ⟨hd,h200⟩ g1.toAdv
 have d2:=D.next _ _ d1 (hxo _ d1.1).toAdv
 have HD:=zh (zi d1.1 d2)
 have d3:=D.next _ _ d2 (Zbz hG.P.few.2.1 hgo.adv d2.1 d2.2).toAdv
 have HE:=zh (D.next _ _ d3 (ZC hG.P.few.2.1 d3.1.lt h2).toAdv)
 have HB:=zh (zi hex hb)
 have HW:=zh (zi h1 h2)
 clear D g1 d1 d2 d3 hd h200 hex hxo hb hgo h1 h2
 have G2:=zh hG
 clear hG
 obtain ⟨iS,hS,zS0,zS1,zS2⟩:=info_parts Zbd
 obtain ⟨iU,hU,zU0,zU1,zU2⟩:=info_parts Zbl
 obtain ⟨iN,hN,zN0,zN1,zN2⟩:=info_parts Za8
 go_enter Tryz.func125,Tryz.ntmps125
 go_upto_region 3 with fail
 have CT:=zh (ZY (y:=[105,102]) G2.out.P HW.out.1)
 go_upto_region 4 with (go_at_call 73;(with_reducible refine CT.out.mono ?_);rintro e w3 ⟨rfl,hp,hf⟩;have G3:=zh (G2.out.call hp hf);clear hp hf)
 clear G2
 clear CT
 obtain ⟨q0,q1,q2,q3,q4,q5⟩:=G3.out.cells
 dsimp only at q1 q2 q5
 have qf:=G3.out.free
 go_upto_region 5 with fail
 clear q0 q1 q2 q3 q4 q5 qf
 have G4:=zh (G3.out.setk 16)
 clear G3
 generalize w3.setCell ⟨b,0,none⟩ (.int .i64 16)=w4 at *
 (try go_upto_region 5 with fail)
 have LO:=G4.out.loose
 obtain ⟨A5,n5,c5,B5,m5,d5,C5,q5,e5,hL⟩:=LO
 have G5:=zh hL
 clear hL G4
 (try go_upto_region 5 with fail)
 refine Zco 19 0 1 G5.out (by simp) (by intro _ _;go_simp) (fun wr hP=>HB.out.1 wr _ hP HD.out.1) (fun v7 g6 c6 y6 w6 hG=>?_)
 (try dsimp only at hG)
 have G6:=zh hG
 clear hG G5
 (try simp only [cl,Act.put])
 (try go_upto_region 6 with fail)
 have LO:=G6.out.loose
 obtain ⟨A7,n7,c7,B7,m7,d7,C7,q7,e7,hL⟩:=LO
 have G7:=zh hL
 clear hL G6
 (try go_upto_region 6 with fail)
 refine Zco 31 0 1 G7.out (by simp) (by intro _ _;go_simp) (fun wr hP=>HB.out.2 wr _ hP HD.out.2) (fun v7 g8 c8 y8 w8 hG=>?_)
 (try dsimp only at hG)
 have G8:=zh hG
 clear hG G7
 (try simp only [cl,Act.put])
 (try go_upto_region 7 with fail)
 have CT:=zh (ZY (y:=[101,108,115,101]) G8.out.P HW.out.2)
 go_upto_region 8 with (go_at_call 73;(with_reducible refine CT.out.mono ?_);rintro e w9 ⟨rfl,hp,hf⟩;have G9:=zh (G8.out.call hp hf);clear hp hf)
 clear G8
 clear CT
 (try go_upto_region 8 with fail)
 have LO:=G9.out.loose
 obtain ⟨A10,n10,c10,B10,m10,d10,C10,q10,e10,hL⟩:=LO
 have G10:=zh hL
 clear hL G9
 (try go_upto_region 8 with fail)
 refine Zco 45 0 1 G10.out (by simp) (by intro _ _;go_simp) (fun wr hP=>HB.out.2 wr _ hP HE.out) (fun v7 g11 c11 y11 w11 hG=>?_)
 (try dsimp only at hG)
 have G11:=zh hG
 clear hG G10
 (try simp only [cl,Act.put])
 go_wp2_with fail
 go_end0
 exact ⟨rfl,_,_,_,_,_,_,rfl,G11.out⟩
theorem Zpg (w0 w wi:World) (bp b:Nat) (vL:Value) (L:List Tok) (s:PS) (p:Int) (f:Nat) (ex st:PS->Tr×PS) (hd:Dp L (f+1) s) (h200:s.deep<=200) (hex:ZbH 122 w0 bp vL L (Dp L (f+1)) ex) (hxo:Onw L (Dp L (f+1)) ex) (hb:Zcr w0 bp vL L f st) (hgo:Stm L f st) (h1:isM L [105,102] s=true) (h2:isM L [101,108,115,101] (Zag L st (ex (Zd s)).2).2=false) (hG:Gn w0 w wi bp b w.heap.size vL L s ZeZ 8 p [] [] []) :
  Calls Tryz.prog 125 #[.pointer (some ⟨bp,0,none⟩),.pointer (some ⟨b,0,none⟩)] wi (Zem w0 w bp b w.heap.size vL L (Zbb L ex st p s).1 (Zbb L ex st p s).2):=by
 have hM:Zbb L ex st p s=(.mk 16 [] [] p [(ex (Zd s)).1,(Zag L st (ex (Zd s)).2).1],(Zag L st (ex (Zd s)).2).2):=by unfold Zbb;simp only [h1,h2,if_true,Bool.false_eq_true,if_false]
 rw [hM]
 clear hM
 have D:=ZR (L:=L) (f+1)
 have g1:=ZC hG.P.few.2.1 hd.lt h1
 have d1:=D.next _ _ ⟨hd,h200⟩ g1.toAdv
 have d2:=D.next _ _ d1 (hxo _ d1.1).toAdv
 have HD:=zh (zi d1.1 d2)
 have d3:=D.next _ _ d2 (Zbz hG.P.few.2.1 hgo.adv d2.1 d2.2).toAdv
 have HB:=zh (zi hex hb)
 have HW:=zh (zi h1 h2)
 clear D g1 d1 d2 d3 hd h200 hex hxo hb hgo h1 h2
 have G2:=zh hG
 clear hG
 obtain ⟨iS,hS,zS0,zS1,zS2⟩:=info_parts Zbd
 obtain ⟨iU,hU,zU0,zU1,zU2⟩:=info_parts Zbl
 obtain ⟨iN,hN,zN0,zN1,zN2⟩:=info_parts Za8
 go_enter Tryz.func125,Tryz.ntmps125
 go_upto_region 3 with fail
 have CT:=zh (ZY (y:=[105,102]) G2.out.P HW.out.1)
 go_upto_region 4 with (go_at_call 73;(with_reducible refine CT.out.mono ?_);rintro e w3 ⟨rfl,hp,hf⟩;have G3:=zh (G2.out.call hp hf);clear hp hf)
 clear G2
 clear CT
 obtain ⟨q0,q1,q2,q3,q4,q5⟩:=G3.out.cells
 dsimp only at q1 q2 q5
 have qf:=G3.out.free
 go_upto_region 5 with fail
 clear q0 q1 q2 q3 q4 q5 qf
 have G4:=zh (G3.out.setk 16)
 clear G3
 generalize w3.setCell ⟨b,0,none⟩ (.int .i64 16)=w4 at *
 (try go_upto_region 5 with fail)
 have LO:=G4.out.loose
 obtain ⟨A5,n5,c5,B5,m5,d5,C5,q5,e5,hL⟩:=LO
 have G5:=zh hL
 clear hL G4
 (try go_upto_region 5 with fail)
 refine Zco 19 0 1 G5.out (by simp) (by intro _ _;go_simp) (fun wr hP=>HB.out.1 wr _ hP HD.out.1) (fun v7 g6 c6 y6 w6 hG=>?_)
 (try dsimp only at hG)
 have G6:=zh hG
 clear hG G5
 (try simp only [cl,Act.put])
 (try go_upto_region 6 with fail)
 have LO:=G6.out.loose
 obtain ⟨A7,n7,c7,B7,m7,d7,C7,q7,e7,hL⟩:=LO
 have G7:=zh hL
 clear hL G6
 (try go_upto_region 6 with fail)
 refine Zco 31 0 1 G7.out (by simp) (by intro _ _;go_simp) (fun wr hP=>HB.out.2 wr _ hP HD.out.2) (fun v7 g8 c8 y8 w8 hG=>?_)
 (try dsimp only at hG)
 have G8:=zh hG
 clear hG G7
 (try simp only [cl,Act.put])
 (try go_upto_region 7 with fail)
 have CT:=zh (ZQ (y:=[101,108,115,101]) G8.out.P HW.out.2)
 go_wp2_with (go_at_call 73;(with_reducible refine CT.out.mono ?_);rintro e w9 ⟨rfl,hp,hf⟩;have G9:=zh (G8.out.call hp hf);clear hp hf)
 go_end0
 exact ⟨rfl,_,_,_,_,_,_,rfl,G9.out⟩
theorem Zl0 (w0 w wi:World) (bp b:Nat) (vL:Value) (L:List Tok) (s:PS) (p:Int) (f:Nat) (ex st:PS->Tr×PS) (hd:Dp L (f+1) s) (h200:s.deep<=200) (hex:ZbH 122 w0 bp vL L (Dp L (f+1)) ex) (hxo:Onw L (Dp L (f+1)) ex) (hb:Zcr w0 bp vL L f st) (_:Stm L f st) (h1:isM L [105,102] s=false) (h2:isM L [119,104,105,108,101] s=true) (hG:Gn w0 w wi bp b w.heap.size vL L s ZeZ 8 p [] [] []) :
  Calls Tryz.prog 125 #[.pointer (some ⟨bp,0,none⟩),.pointer (some ⟨b,0,none⟩)] wi (Zem w0 w bp b w.heap.size vL L (Zbb L ex st p s).1 (Zbb L ex st p s).2):=by
 have hM:Zbb L ex st p s=(.mk 17 [] [] p [(ex (Zd s)).1,(Zag L st (ex (Zd s)).2).1],(Zag L st (ex (Zd s)).2).2):=by unfold Zbb;simp only [h1,h2,if_true,Bool.false_eq_true,if_false]
 rw [hM]
 clear hM
 have D:=ZR (L:=L) (f+1)
 have g1:=ZC hG.P.few.2.1 hd.lt h2
 have d1:=D.next _ _ ⟨hd,h200⟩ g1.toAdv
 have d2:=D.next _ _ d1 (hxo _ d1.1).toAdv
 have HD:=zh (zi d1.1 d2)
 have HB:=zh (zi hex hb)
 have HW:=zh (zi h1 h2)
 clear D g1 d1 d2 hd h200 hex hxo hb  h1 h2
 have G2:=zh hG
 clear hG
 obtain ⟨iS,hS,zS0,zS1,zS2⟩:=info_parts Zbd
 obtain ⟨iU,hU,zU0,zU1,zU2⟩:=info_parts Zbl
 obtain ⟨iN,hN,zN0,zN1,zN2⟩:=info_parts Za8
 go_enter Tryz.func125,Tryz.ntmps125
 go_upto_region 3 with fail
 have CT:=zh (ZQ (y:=[105,102]) G2.out.P HW.out.1)
 go_upto_region 9 with (go_at_call 73;(with_reducible refine CT.out.mono ?_);rintro e w3 ⟨rfl,hp,hf⟩;have G3:=zh (G2.out.call hp hf);clear hp hf)
 clear G2
 clear CT
 have CT:=zh (ZY (y:=[119,104,105,108,101]) G3.out.P HW.out.2)
 go_upto_region 10 with (go_at_call 73;(with_reducible refine CT.out.mono ?_);rintro e w4 ⟨rfl,hp,hf⟩;have G4:=zh (G3.out.call hp hf);clear hp hf)
 clear G3
 clear CT
 obtain ⟨q0,q1,q2,q3,q4,q5⟩:=G4.out.cells
 dsimp only at q1 q2 q5
 have qf:=G4.out.free
 go_upto_region 11 with fail
 clear q0 q1 q2 q3 q4 q5 qf
 have G5:=zh (G4.out.setk 17)
 clear G4
 generalize w4.setCell ⟨b,0,none⟩ (.int .i64 17)=w5 at *
 (try go_upto_region 11 with fail)
 have LO:=G5.out.loose
 obtain ⟨A6,n6,c6,B6,m6,d6,C6,q6,e6,hL⟩:=LO
 have G6:=zh hL
 clear hL G5
 (try go_upto_region 11 with fail)
 refine Zco 64 0 1 G6.out (by simp) (by intro _ _;go_simp) (fun wr hP=>HB.out.1 wr _ hP HD.out.1) (fun v7 g7 c7 y7 w7 hG=>?_)
 (try dsimp only at hG)
 have G7:=zh hG
 clear hG G6
 (try simp only [cl,Act.put])
 (try go_upto_region 12 with fail)
 have LO:=G7.out.loose
 obtain ⟨A8,n8,c8,B8,m8,d8,C8,q8,e8,hL⟩:=LO
 have G8:=zh hL
 clear hL G7
 (try go_upto_region 12 with fail)
 refine Zco 76 0 1 G8.out (by simp) (by intro _ _;go_simp) (fun wr hP=>HB.out.2 wr _ hP HD.out.2) (fun v7 g9 c9 y9 w9 hG=>?_)
 (try dsimp only at hG)
 have G9:=zh hG
 clear hG G8
 (try simp only [cl,Act.put])
 go_wp2_with fail
 go_end0
 exact ⟨rfl,_,_,_,_,_,_,rfl,G9.out⟩
theorem Zlf (w0 w wi:World) (bp b:Nat) (vL:Value) (L:List Tok) (s:PS) (p:Int) (f:Nat) (ex st:PS->Tr×PS) (hd:Dp L (f+1) s) (h200:s.deep<=200) (hex:ZbH 122 w0 bp vL L (Dp L (f+1)) ex) (hxo:Onw L (Dp L (f+1)) ex) (hb:Zcr w0 bp vL L f st) (_:Stm L f st) (h1:isM L [105,102] s=false) (h2:isM L [119,104,105,108,101] s=false) (h3:isM L [114,101,116,117,114,110] s=true) (hG:Gn w0 w wi bp b w.heap.size vL L s ZeZ 8 p [] [] []) :
  Calls Tryz.prog 125 #[.pointer (some ⟨bp,0,none⟩),.pointer (some ⟨b,0,none⟩)] wi (Zem w0 w bp b w.heap.size vL L (Zbb L ex st p s).1 (Zbb L ex st p s).2):=by
 have hM:Zbb L ex st p s=(.mk 18 [] [] p [(ex (Zd s)).1],Zf L [59] (ex (Zd s)).2):=by unfold Zbb;simp only [h1,h2,h3,if_true,Bool.false_eq_true,if_false]
 rw [hM]
 clear hM
 have D:=ZR (L:=L) (f+1)
 have g1:=ZC hG.P.few.2.1 hd.lt h3
 have d1:=D.next _ _ ⟨hd,h200⟩ g1.toAdv
 have d2:=D.next _ _ d1 (hxo _ d1.1).toAdv
 have HD:=zh (zi d1.1 d2)
 have HB:=zh (zi hex hb)
 have HW:=zh (zi h1 (zi h2 h3))
 clear D g1 d1 d2 hd h200 hex hxo hb  h1 h2 h3
 have G2:=zh hG
 clear hG
 obtain ⟨iS,hS,zS0,zS1,zS2⟩:=info_parts Zbd
 obtain ⟨iU,hU,zU0,zU1,zU2⟩:=info_parts Zbl
 obtain ⟨iN,hN,zN0,zN1,zN2⟩:=info_parts Za8
 go_enter Tryz.func125,Tryz.ntmps125
 go_upto_region 3 with fail
 have CT:=zh (ZQ (y:=[105,102]) G2.out.P HW.out.1)
 go_upto_region 9 with (go_at_call 73;(with_reducible refine CT.out.mono ?_);rintro e w3 ⟨rfl,hp,hf⟩;have G3:=zh (G2.out.call hp hf);clear hp hf)
 clear G2
 clear CT
 have CT:=zh (ZQ (y:=[119,104,105,108,101]) G3.out.P HW.out.2.1)
 go_upto_region 13 with (go_at_call 73;(with_reducible refine CT.out.mono ?_);rintro e w4 ⟨rfl,hp,hf⟩;have G4:=zh (G3.out.call hp hf);clear hp hf)
 clear G3
 clear CT
 have CT:=zh (ZY (y:=[114,101,116,117,114,110]) G4.out.P HW.out.2.2)
 go_upto_region 14 with (go_at_call 73;(with_reducible refine CT.out.mono ?_);rintro e w5 ⟨rfl,hp,hf⟩;have G5:=zh (G4.out.call hp hf);clear hp hf)
 clear G4
 clear CT
 obtain ⟨q0,q1,q2,q3,q4,q5⟩:=G5.out.cells
 dsimp only at q1 q2 q5
 have qf:=G5.out.free
 go_upto_region 15 with fail
 clear q0 q1 q2 q3 q4 q5 qf
 have G6:=zh (G5.out.setk 18)
 clear G5
 generalize w5.setCell ⟨b,0,none⟩ (.int .i64 18)=w6 at *
 (try go_upto_region 15 with fail)
 have LO:=G6.out.loose
 obtain ⟨A7,n7,c7,B7,m7,d7,C7,q7,e7,hL⟩:=LO
 have G7:=zh hL
 clear hL G6
 (try go_upto_region 15 with fail)
 refine Zco 95 0 1 G7.out (by simp) (by intro _ _;go_simp) (fun wr hP=>HB.out.1 wr _ hP HD.out.1) (fun v7 g8 c8 y8 w8 hG=>?_)
 (try dsimp only at hG)
 have G8:=zh hG
 clear hG G7
 (try simp only [cl,Act.put])
 (try go_upto_region 16 with fail)
 have CT:=zh (Zad w0 w8 bp vL L (ex (Zd s)).2 [59] G8.out.P)
 go_wp2_with (go_at_call 71;(with_reducible refine CT.out.mono ?_);rintro e w9 ⟨rfl,hp,hf⟩;have G9:=zh (G8.out.call hp hf);clear hp hf)
 go_end0
 exact ⟨rfl,_,_,_,_,_,_,rfl,G9.out⟩
theorem ZnT (w0 w wi:World) (bp b:Nat) (vL:Value) (L:List Tok) (s:PS) (p:Int) (ex st:PS->Tr×PS) (h1:isM L [105,102] s=false) (h2:isM L [119,104,105,108,101] s=false) (h3:isM L [114,101,116,117,114,110] s=false) (hG:Gn w0 w wi bp b w.heap.size vL L s ZeZ 8 p [] [] []) :
  Calls Tryz.prog 125 #[.pointer (some ⟨bp,0,none⟩),.pointer (some ⟨b,0,none⟩)] wi (Zem w0 w bp b w.heap.size vL L (Zbb L ex st p s).1 (Zbb L ex st p s).2):=by
 have hM:Zbb L ex st p s=(.mk 19 [] [] p [],Zf L [59] (Zf L [101,120,105,116] s)):=by unfold Zbb;simp only [h1,h2,h3,Bool.false_eq_true,if_false]
 rw [hM]
 clear hM
 have HW:=zh (zi h1 (zi h2 h3))
 clear h1 h2 h3
 have G2:=zh hG
 clear hG
 obtain ⟨iS,hS,zS0,zS1,zS2⟩:=info_parts Zbd
 obtain ⟨iU,hU,zU0,zU1,zU2⟩:=info_parts Zbl
 obtain ⟨iN,hN,zN0,zN1,zN2⟩:=info_parts Za8
 go_enter Tryz.func125,Tryz.ntmps125
 go_upto_region 3 with fail
 have CT:=zh (ZQ (y:=[105,102]) G2.out.P HW.out.1)
 go_upto_region 9 with (go_at_call 73;(with_reducible refine CT.out.mono ?_);rintro e w3 ⟨rfl,hp,hf⟩;have G3:=zh (G2.out.call hp hf);clear hp hf)
 clear G2
 clear CT
 have CT:=zh (ZQ (y:=[119,104,105,108,101]) G3.out.P HW.out.2.1)
 go_upto_region 13 with (go_at_call 73;(with_reducible refine CT.out.mono ?_);rintro e w4 ⟨rfl,hp,hf⟩;have G4:=zh (G3.out.call hp hf);clear hp hf)
 clear G3
 clear CT
 have CT:=zh (ZQ (y:=[114,101,116,117,114,110]) G4.out.P HW.out.2.2)
 go_upto_region 0 with (go_at_call 73;(with_reducible refine CT.out.mono ?_);rintro e w5 ⟨rfl,hp,hf⟩;have G5:=zh (G4.out.call hp hf);clear hp hf)
 clear G4
 clear CT
 obtain ⟨q0,q1,q2,q3,q4,q5⟩:=G5.out.cells
 dsimp only at q1 q2 q5
 have qf:=G5.out.free
 go_upto_region 1 with fail
 clear q0 q1 q2 q3 q4 q5 qf
 have G6:=zh (G5.out.setk 19)
 clear G5
 generalize w5.setCell ⟨b,0,none⟩ (.int .i64 19)=w6 at *
 have CT:=zh (Zad w0 w6 bp vL L s [101,120,105,116] G6.out.P)
 go_upto_region 2 with (go_at_call 71;(with_reducible refine CT.out.mono ?_);rintro e w7 ⟨rfl,hp,hf⟩;have G7:=zh (G6.out.call hp hf);clear hp hf)
 clear G6
 clear CT
 have CT:=zh (Zad w0 w7 bp vL L (Zf L [101,120,105,116] s) [59] G7.out.P)
 go_wp2_with (go_at_call 71;(with_reducible refine CT.out.mono ?_);rintro e w8 ⟨rfl,hp,hf⟩;have G8:=zh (G7.out.call hp hf);clear hp hf)
 go_end0
 exact ⟨rfl,_,_,_,_,_,_,rfl,G8.out⟩
theorem Zpf (w0 w wi:World) (bp b:Nat) (vL:Value) (L:List Tok) (s:PS) (p:Int) (f:Nat) (ex st:PS->Tr×PS) (hd:Dp L (f+1) s) (h200:s.deep<=200) (hex:ZbH 122 w0 bp vL L (Dp L (f+1)) ex) (hxo:Onw L (Dp L (f+1)) ex) (hb:Zcr w0 bp vL L f st) (hgo:Stm L f st) (hG:Gn w0 w wi bp b w.heap.size vL L s ZeZ 8 p [] [] []) :
  Calls Tryz.prog 125 #[.pointer (some ⟨bp,0,none⟩),.pointer (some ⟨b,0,none⟩)] wi (Zem w0 w bp b w.heap.size vL L (Zbb L ex st p s).1 (Zbb L ex st p s).2):=by
 cases h1:isM L [105,102] s with
 | true=>
  cases h2:isM L [101,108,115,101] (Zag L st (ex (Zd s)).2).2 with
  | true=>exact Zkr w0 w wi bp b vL L s p f ex st hd h200 hex hxo hb hgo h1 h2 hG
  | false=>exact Zpg w0 w wi bp b vL L s p f ex st hd h200 hex hxo hb hgo h1 h2 hG
 | false=>
  cases h2:isM L [119,104,105,108,101] s with
  | true=>exact Zl0 w0 w wi bp b vL L s p f ex st hd h200 hex hxo hb hgo h1 h2 hG
  | false=>
   cases h3:isM L [114,101,116,117,114,110] s with
   | true=>exact Zlf w0 w wi bp b vL L s p f ex st hd h200 hex hxo hb hgo h1 h2 h3 hG
   | false=>exact ZnT w0 w wi bp b vL L s p ex st h1 h2 h3 hG
end
end Go.Proofs.YtkongcicmajolaaGreatDoor
