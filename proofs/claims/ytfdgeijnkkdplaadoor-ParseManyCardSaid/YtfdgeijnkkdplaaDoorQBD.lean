import Derived.Test.YtfdgeijnkkdplaaDoorQBC
set_option maxRecDepth 100000
set_option maxHeartbeats 8000000
namespace Go.Proofs.YtfdgeijnkkdplaaDoor
section
open Go Go.RowKit
section
variable {w0:World} {bp c:Nat} {ad:Addr} {L:List Tok}
theorem ZfR:ZN 86:=fun _ _=>by kernel_rfl
theorem ZfQ:ZN 85:=fun _ _=>by kernel_rfl
theorem ZkF (w wn:World) (s:PS) (f:Nat) (d pl:Int) (b px bx:Nat) (h0:0<=d) (h200:d<=200) (hd:s.deep=d) (IH:d+1<=200->Zw w0 bp c ad L 80 #[pV bp] (Dd (d+1)) (ZG L f)) (G:Way w0 w wn bp c ad L s 23 [] [] pl [] b [(bx,39,#[brV b]),(px,63,#[pV bp])]) :
  Calls Tryd.prog 49 #[pV bp,.func (.func 86) #[] #[pV bx,pV px]] wn fun e w'=>FrP w w' bp/\((Zaq (ZG L f (inM L s)).2).err=0->e=.returned (.tuple #[])/\Way w0 w w' bp c ad L (Zaq (ZG L f (inM L s)).2) 23 [] [] pl [(ZG L f (inM L s)).1] b [(bx,39,#[brV b]),(px,63,#[pV bp])])/\((Zaq (ZG L f (inM L s)).2).err≠0->e=ZaY (Zaq (ZG L f (inM L s)).2).err (Zaq (ZG L f (inM L s)).2).fat):=by
 have GR:=G.rest
 have hlt:=G.P.lt
 have few:=G.P.few.1
 refine (Zdc 86 #[pV bx,pV px] ZfR w0 wn bp c ad L s (ZbU w bp) (ZG L f) (fun t w'=>WayR w w' bp 23 [] [] pl [t] b [(bx,39,#[brV b]),(px,63,#[pV bp])]) (Or.inl rfl) (Zcg f) (fun _ _ _ hF hR=>hR.call hF) G.P (by omega) (by omega) (fun hd' w' hF hP=>?_)).mono ?_
 ·refine (Zha w0 w bp c ad L 23 [] [] pl b _ px bx (Dd (d+1)) (ZG L f) (.head _) (.tail _ (.head _)) (IH (by omega)) few w' _ [] hP (by show s.deep+1=d+1;omega) (Nat.zero_le _) (GR.call hF)).mono ?_
  rintro e w2 ⟨a1,a2,a3⟩
  refine ⟨a1,fun z=>?_,a3⟩
  obtain ⟨r1,r2,r3,_,r5⟩:=a2 z
  exact ⟨r1,r2,(show _=d+1 from r3).trans (by omega),r5⟩
 ·rintro e w' ⟨a1,a2,a3⟩
  refine ⟨G.F.frz a1,fun z=>?_,a3⟩
  obtain ⟨r1,r2,r3⟩:=a2 z
  exact ⟨r1,r3.way r2⟩
theorem ZkI (w:World) (s:PS) (f:Nat) (d:Int) (h0:0<=d) (h200:d<=200) (hf:200<d+(f+1:Nat)) (h:ParQ w0 w bp ad c L s) (hd:s.deep=d) (IH:d+1<=200->Zw w0 bp c ad L 80 #[pV bp] (Dd (d+1)) (ZG L f)) (h1:isM L [40] s=false) (h2:isM L [45] s=true) :
  Calls Tryd.prog 80 #[pV bp] w (Zl w0 w bp c ad L (Dd d) s (ZG L (f+1) s)):=by
 have hpl:=zh (ZQ (L:=L) h.err)
 have hmf:∀ (fn:Fn) (first cap:Array Value) (w:World),(Instr.makeFunc fn first cap).run Tryd.prog w=.ok (.func fn first cap) w:=fun _ _ _ _=>rfl
 have hR:=zh (ZkB (f:=f) h2)
 have HG:=zh (Zbw h.end_ (f+1) s (h.dp hd h0 h200 hf))
 have HX:=zh (zi h0 (zi h200 (zi (show (Zb s).deep=d from hd) IH)))
 have BG:=zh (ZK w0 _ bp c ad L s (h.keep (below_alloc1 w (.cells #[pV bp] 63))) 20)
 have T1:=zh (fun w' h'=>Zg w0 w' bp c ad L s h' [40] (ZF _ _ (by decide) (by decide)))
 rw [Zu h1] at T1
 have T2:=zh (fun w' h'=>Zg w0 w' bp c ad L s h' [45] (ZF _ _ (by decide) (by decide)))
 rw [Zah h2] at T2
 have H:=zh (zi h hd)
 clear h hd h1 h2 h0 h200 hf IH
 go_enter Tryd.func80,Tryd.ntmps80
 go_upto_region 4 with (go_at_call 19;(refine BG.out.mono ?_);rintro e1 wa ⟨b,rfl,T,hb,hB⟩)
 have G1:=zh (Way.begun H.out.1 T hb hB)
 rw [hpl.out] at G1
 generalize wa.alloc (.cells #[brV b] 39)=wb at *
 clear T hb hB
 have q1:=G1.out.cell (.head _)
 have q2:=G1.out.cell (.tail _ (.head _))
 go_upto_region 7 with (go_at_call 21;(refine (T1.out _ G1.out.P).mono ?_);rintro e2 w1 ⟨rfl,hP,hF⟩;have G2:=zh (G1.out.call hP hF);clear hP hF)
 have q1:=G2.out.cell (.head _)
 have q2:=G2.out.cell (.tail _ (.head _))
 go_upto_region 8 with (go_at_call 21;(refine (T2.out _ G2.out.P).mono ?_);rintro e2 w2 ⟨rfl,hP,hF⟩;have G3:=zh (G2.out.call hP hF);clear hP hF)
 have q1:=G3.out.cell (.head _)
 have q2:=G3.out.cell (.tail _ (.head _))
 have q3:=G3.out.free 0
 obtain ⟨vw,vn,vk,bs,KK,X⟩:=G3.out.X
 have q4:=X.box.blk.cell 0
 simp only [List.getElem?_toArray,List.getElem?_cons_zero] at q4
 clear X
 go_upto_region 9 with fail
 clear q3 q4
 have G4:=zh (G3.out.kind 23)
 generalize w2.setCell ⟨b,0,none⟩ (.int .i64 23)=wk at *
 have q1:=G4.out.cell (.head _)
 have q2:=G4.out.cell (.tail _ (.head _))
 have NS:=zh (ZkF w _ (Zb s) f d (Zj L s) b _ _ HX.out.1 HX.out.2.1 HX.out.2.2.1 HX.out.2.2.2 G4.out)
 go_upto_region 12 with (go_at_call 49;(refine NS.out.mono ?_);rintro e3 w3 ⟨hF,hok,hbd⟩;by_cases z:(Zaq (ZG L f (inM L (Zb s))).2).err=0;(case neg=>(obtain rfl:=hbd z;exact zi rfl (Zl.bad hF (Zbe hR.out) z)));obtain ⟨rfl,hW⟩:=hok z;have G5:=zh hW;clear hW hF hok hbd)
 clear z
 have q1:=G5.out.cell (.head _)
 have q2:=G5.out.cell (.tail _ (.head _))
 go_wp2_with fail
 go_ret
 exact Zl.fin HG.out H.out.2 hR.out G5.out.F G5.out.P G5.out.done
def ZeQ (w:World) (bp px bx:Nat) (t:Tr) (w':World):Prop:=FrP w w' bp/\Zy w' px 63 #[pV bp]/\∃ g,Zy w' bx 39 #[brV g]/\BrP w' (ZbC w w') t g
theorem ZeQ.call {w w1 w2:World} {bp px bx:Nat} {t:Tr} (h:ZeQ w bp px bx t w1) (hlt:bp<w.heap.size) (hx:w.heap.size<=px/\w.heap.size<=bx) (hF:FrP w1 w2 bp):ZeQ w bp px bx t w2:=by
 obtain ⟨h1,h2,g,h3,h4⟩:=h
 have ne:∀ j,w.heap.size<=j->some bp≠some j:=fun j hj e=>by injection e with e;omega
 exact ⟨h1.trans hF,h2.grown hF (ne _ hx.1),g,h3.grown hF (ne _ hx.2),BrP.frame (fun k hk=>⟨hk.1,Nat.lt_of_lt_of_le hk.2 hF.size⟩) (fun k hk=>hF.block k hk.2 (fun e=>ne k hk.1 e.symm)) _ g h4⟩
theorem Zky (w w1:World) (s:PS) (d:Int) (M:PS->Tr×PS) (px bx b0:Nat) (hE:Zw w0 bp c ad L 62 #[pV bp] (Dd d) M) (hlt:bp<w.heap.size) (hx:w.heap.size<=px/\w.heap.size<=bx) (hpb:px≠bx) (TP:Zy w1 px 63 #[pV bp]) (TB:Zy w1 bx 39 #[brV b0]) (hF:FrP w w1 bp) (h:ParQ w0 w1 bp ad c L s) (hd:s.deep=d) :
  Calls Tryd.prog 85 #[pV px,pV bx] w1 fun e w2=>FrZ (ZbU w bp) w1 w2/\((M s).2.err=0->e=.returned (.tuple #[])/\ParQ w0 w2 bp ad c L (M s).2/\(M s).2.deep=d/\ZeQ w bp px bx (M s).1 w2)/\((M s).2.err≠0->e=ZaY (M s).2.err (M s).2.fat):=by
 have EC:=zh (hE w1 s h hd)
 have H:=zh (zi hlt (zi hx (zi hpb (zi TP (zi TB hF)))))
 have q1:=TP.blk.cell 0
 simp only [List.getElem?_toArray,List.getElem?_cons_zero] at q1
 clear hE hlt hx hpb TP TB hF h hd
 by_cases z:(M s).2.err=0
 ·go_enter Tryd.func85,Tryd.ntmps85
  go_wp2_with (go_at_call 62;(refine EC.out.mono ?_);rintro e2 w2 ⟨hF2,hok,_⟩;obtain ⟨g,rfl,hP2,hD2,_,hT2⟩:=hok z;have TB2:=H.out.2.2.2.2.1.grown hF2 (fun e=>by injection e with e;have:=H.out.1;have:=H.out.2.1.2;omega);have q3:=TB2.blk.cell 0;have q4:=TB2.blk.free 0;simp only [List.getElem?_toArray,List.getElem?_cons_zero] at q3;have K:=zh (zi hF2 (zi hP2 (zi hD2 (zi hT2 TB2))));clear hok hF2 hP2 hD2 hT2 TB2)
  go_end0
  obtain ⟨hF2,hP2,hD2,hT2,TB2⟩:=K.out
  obtain ⟨hlt,hx,hpb,TP,TB,hF⟩:=H.out
  have hbx:=TB.lt
  have ne:∀ j,w.heap.size<=j->some bp≠some j:=fun j hj e=>by injection e with e;omega
  have hF3:FrP w (w2.setCell ⟨bx,0,none⟩ (brV g)) bp:=(hF.trans hF2).past hx.2 _ _
  refine ⟨ZaG hlt hF hF3,fun _=>⟨rfl,hP2.past (by omega) _ _,hD2,hF3,(TP.grown hF2 (ne _ hx.1)).other (fun e=>hpb e.symm) _,g,TB2.set 0 _,?_⟩,fun e=>absurd z e⟩
  have hS:FrP w2 (w2.setCell ⟨bx,0,none⟩ (brV g)) bx:=FrP.set w2 bx 0 _
  exact BrP.frame (fun k hk=>⟨Nat.le_trans hF.size hk.1,Nat.lt_of_lt_of_le hk.2 hS.size⟩) (fun k hk=>hS.block k hk.2 (fun e=>by injection e with e;have:=hk.1;omega)) _ g hT2
 ·go_enter Tryd.func85,Tryd.ntmps85
  go_wp2_with (go_at_call 62;(refine EC.out.mono ?_);rintro e2 w2 ⟨hF2,_,hbd⟩;obtain rfl:=hbd z;have K:=zh hF2;clear hbd hF2)
  exact ⟨rfl,ZaG H.out.1 H.out.2.2.2.2.2 (H.out.2.2.2.2.2.trans K.out),fun e=>absurd e z,fun _=>rfl⟩
theorem Zho (w wn:World) (s:PS) (d pl:Int) (M:PS->Tr×PS) (hM:ZJ M) (b px bx:Nat) (h0:0<=d) (h200:d<=200) (hd:s.deep=d) (hpb:px≠bx) (hE:d+1<=200->Zw w0 bp c ad L 62 #[pV bp] (Dd (d+1)) M) (G:Way w0 w wn bp c ad L s 20 [] [] pl [] b [(bx,39,#[brV b]),(px,63,#[pV bp])]) :
  Calls Tryd.prog 49 #[pV bp,.func (.func 85) #[] #[pV px,pV bx]] wn fun e w'=>FrP w w' bp/\((Zaq (M (inM L s)).2).err=0->e=.returned (.tuple #[])/\ParQ w0 w' bp ad c L (Zaq (M (inM L s)).2)/\ZeQ w bp px bx (M (inM L s)).1 w')/\((Zaq (M (inM L s)).2).err≠0->e=ZaY (Zaq (M (inM L s)).2).err (Zaq (M (inM L s)).2).fat):=by
 obtain ⟨vw,vn,vk,bs,K,X⟩:=G.X
 have xb:=X.ex _ (.head _)
 have xp:=X.ex _ (.tail _ (.head _))
 have hlt:=G.lt
 dsimp only at xb xp
 have hx:w.heap.size<=px/\w.heap.size<=bx:=⟨xp.1,xb.1⟩
 have ne:∀ j,w.heap.size<=j->some bp≠some j:=fun j hj e=>by injection e with e;omega
 refine (Zdc 85 #[pV px,pV bx] ZfQ w0 wn bp c ad L s (ZbU w bp) M (ZeQ w bp px bx) (Or.inl rfl) hM (fun _ _ _ hF hR=>hR.call hlt hx hF) G.P (by omega) (by omega) (fun hd' w' hF hP=>?_)).mono ?_
 ·refine (Zky w w' _ (d+1) M px bx b (hE (by omega)) hlt hx hpb (xp.2.2.1.grown hF (ne _ hx.1)) (xb.2.2.1.grown hF (ne _ hx.2)) (G.F.trans hF) hP (by show s.deep+1=d+1;omega)).mono ?_
  rintro e w2 ⟨a1,a2,a3⟩
  refine ⟨a1,fun z=>?_,a3⟩
  obtain ⟨r1,r2,r3,r4⟩:=a2 z
  exact ⟨r1,r2,(show _=d+1 from r3).trans (by omega),r4⟩
 ·rintro e w' ⟨a1,a2,a3⟩
  exact ⟨G.F.frz a1,a2,a3⟩
theorem Zhq (w:World) (s:PS) (f:Nat) (d:Int) (h0:0<=d) (h200:d<=200) (hf:200<d+(f+1:Nat)) (h:ParQ w0 w bp ad c L s) (hd:s.deep=d) (hE:d+1<=200->Zw w0 bp c ad L 62 #[pV bp] (Dd (d+1)) (Zbb L (ZG L f))) (h1:isM L [40] s=true) :
  Calls Tryd.prog 80 #[pV bp] w (Zl w0 w bp c ad L (Dd d) s (ZG L (f+1) s)):=by
 have hpl:=zh (ZQ (L:=L) h.err)
 have hmf:∀ (fn:Fn) (first cap:Array Value) (w:World),(Instr.makeFunc fn first cap).run Tryd.prog w=.ok (.func fn first cap) w:=fun _ _ _ _=>rfl
 have hR:=zh (Zhn (f:=f) h1)
 have HG:=zh (Zbw h.end_ (f+1) s (h.dp hd h0 h200 hf))
 have HX:=zh (zi h0 (zi h200 (zi (show (Zb s).deep=d from hd) (zi hE h.box.lt))))
 have BG:=zh (ZK w0 _ bp c ad L s (h.keep (below_alloc1 w (.cells #[pV bp] 63))) 20)
 have T1:=zh (fun w' h'=>Zg w0 w' bp c ad L s h' [40] (ZF _ _ (by decide) (by decide)))
 rw [Zah h1] at T1
 have H:=zh (zi h hd)
 clear h hd h1 h0 h200 hf hE
 go_enter Tryd.func80,Tryd.ntmps80
 go_upto_region 4 with (go_at_call 19;(refine BG.out.mono ?_);rintro e1 wa ⟨b,rfl,T,hb,hB⟩)
 have G1:=zh (Way.begun H.out.1 T hb hB)
 rw [hpl.out] at G1
 have hle:w.heap.size<=wa.heap.size:=by have:=hB.size;rw [World.size_alloc] at this;omega
 have hpb:w.heap.size≠wa.heap.size:=fun e=>by have:=hB.size;rw [World.size_alloc] at this;omega
 generalize wa.alloc (.cells #[brV b] 39)=wb at *
 clear T hb hB
 have q1:=G1.out.cell (.head _)
 have q2:=G1.out.cell (.tail _ (.head _))
 go_upto_region 5 with (go_at_call 21;(refine (T1.out _ G1.out.P).mono ?_);rintro e2 w1 ⟨rfl,hP,hF⟩;have G2:=zh (G1.out.call hP hF);clear hP hF)
 have q1:=G2.out.cell (.head _)
 have q2:=G2.out.cell (.tail _ (.head _))
 have bz:=(G2.out.box (.tail _ (.head _))).lt
 have NS:=zh (Zho w _ (Zb s) d (Zj L s) (Zbb L (ZG L f)) (Zdz (Zcg f)) b w.heap.size wa.heap.size HX.out.1 HX.out.2.1 HX.out.2.2.1 hpb HX.out.2.2.2.1 G2.out)
 go_upto_region 6 with (go_at_call 49;(refine NS.out.mono ?_);rintro e3 w3 ⟨hF,hok,hbd⟩;by_cases z:(Zaq (Zbb L (ZG L f) (inM L (Zb s))).2).err=0;(case neg=>(obtain rfl:=hbd z;exact zi rfl (Zl.bad hF (by rw [hR.out];exact Zq _ _) z)));obtain ⟨rfl,hP,hpp⟩:=hok z;clear hok hbd hF)
 have z3:=zh z
 clear z q1 q2
 obtain ⟨hF,TP,g,TB,hT⟩:=hpp
 have q2:=TP.blk.cell 0
 have NE:=zh (ZZ w0 w3 bp c ad L _ hP [41] (ZF _ _ (by decide) (by decide)))
 have K:=zh (zi hF (zi TB hT))
 clear hF TP TB hT hP
 simp only [List.getElem?_toArray,List.getElem?_cons_zero] at q2
 go_upto_region 12 with (go_at_call 33;(refine NE.out.mono ?_);rintro e4 w4 ⟨hF,hok,hbd⟩;by_cases z:(Zd L [41] (Zaq (Zbb L (ZG L f) (inM L (Zb s))).2)).err=0;(case neg=>(obtain rfl:=hbd z;exact zi rfl (Zl.bad (K.out.1.trans hF) (Zbe hR.out) z)));obtain ⟨_,rfl,hP,rfl⟩:=hok z;clear hok hbd)
 have TB4:=K.out.2.1.grown hF (fun e=>by injection e with e;have:=HX.out.2.2.2.2;have:=bz;have:=G2.out.box (.head _);have:=G1.out.lt;have e5:=K.out.2.1;have:=(show w.heap.size<=wa.heap.size from hle);omega)
 have q1:=TB4.blk.cell 0
 simp only [List.getElem?_toArray,List.getElem?_cons_zero] at q1
 have K2:=zh (zi hF hP)
 clear hF hP q2 z
 go_wp2_with fail
 go_ret
 have hlt:=HX.out.2.2.2.2
 exact Zl.fin HG.out H.out.2 hR.out (K.out.1.trans K2.out.1) K2.out.2 (BrP.frame (fun k hk=>⟨hk.1,Nat.lt_of_lt_of_le hk.2 K2.out.1.size⟩) (fun k hk=>K2.out.1.block k hk.2 (fun e=>by injection e with e;have:=hk.1;omega)) _ g K.out.2.2)
end
end
end Go.Proofs.YtfdgeijnkkdplaaDoor
