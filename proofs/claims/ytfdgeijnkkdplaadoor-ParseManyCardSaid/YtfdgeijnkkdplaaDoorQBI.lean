import Derived.Test.YtfdgeijnkkdplaaDoorQBE
set_option maxRecDepth 100000
set_option maxHeartbeats 8000000
namespace Go.Proofs.YtfdgeijnkkdplaaDoor
section
open Go Go.RowKit
theorem Zhd {L:List Tok} {M:PS->Tr×PS} {s:PS} (he:s.err=0) (h:isM L [41] s=false) (F:Nat):Zr L M (F+1) true [] s=Zr L M F false ([]++[(M s).1]) (M s).2:=by
 conv=>lhs;unfold Zr
 rw [if_pos he,if_neg (by simp [h])]
 rfl
theorem Zcz (F:Nat) (caps:Array Value) (hF:ZN F) (w0 w:World) (bp c:Nat) (ad:Addr) (L:List Tok) (s:PS) (S:Nat->Prop) (d:Int) (Rel:World->List Tr->Prop) (M:PS->Tr×PS) (hS:S bp) (hRel:∀ w w' l,FrP w w' bp->Rel w l->Rel w' l) (hE:ZhF w0 bp c ad L F caps S (Dd d) Rel M) (hst:ZJ M) (hM:∀ s,s.deep=d->s.at_<L.length->s.err=0->Gon L s (M s).2) (h:ParQ w0 w bp ad c L s) (hd:s.deep=d) (hr:Rel w []) :
  Calls Tryd.prog 37 #[pV bp,.func (.func F) #[] caps] w fun e w'=>FrZ S w w'/\((Zr L M (L.length+1) true [] (Zd L [40] s)).2.err=0->e=.returned (.tuple #[])/\ParQ w0 w' bp ad c L (Zr L M (L.length+1) true [] (Zd L [40] s)).2/\Rel w' (Zr L M (L.length+1) true [] (Zd L [40] s)).1)/\((Zr L M (L.length+1) true [] (Zd L [40] s)).2.err≠0->e=ZaY (Zr L M (L.length+1) true [] (Zd L [40] s)).2.err (Zr L M (L.length+1) true [] (Zd L [40] s)).2.fat):=by
 obtain ⟨R,hR⟩:∃ R,Zr L M (L.length+1) true [] (Zd L [40] s)=R:=⟨_,rfl⟩
 rw [hR]
 have C1:=zh (ZZ w0 w bp c ad L s h [40] (ZF _ _ (by decide) (by decide)))
 have HE:=h.end_
 have hlt:=(ZA HE [40] h.lt).lt h.lt
 have hdd:(Zd L [40] s).deep=d:=(Za1 _ _).trans hd
 generalize hs1:Zd L [40] s=s1 at *
 have H:=zh (zi hS (zi hRel (zi hE (zi hr (zi hF hdd)))))
 by_cases z:s1.err=0
 ·cases q:isM L [41] s1 with
  | true=>
   have hR2:R=([],Zb s1):=by
    rw [<- hR]
    unfold Zr
    rw [if_pos z,if_pos q]
   have HR:=zh (zi hR2 q)
   have Z:=zh z
   clear hS hRel hE hst hM h hd hr hR hR2 hdd hlt HE z q hF
   go_enter Tryd.func37,Tryd.ntmps37
   go_wp2_with (first
    | (go_at_call 33;(refine C1.out.mono ?_);rintro e1 w1 ⟨hF1,hok,_⟩;obtain ⟨_,rfl,hP1,rfl⟩:=hok Z.out;have T:=zh (Zg w0 w1 bp c ad L s1 hP1 [41] (ZF _ _ (by decide) (by decide)));rw [Zah HR.out.2] at T;have K:=zh hF1;clear hok hF1 hP1)
    | (go_at_call 21;(refine T.out.mono ?_);rintro e2 w2 ⟨rfl,hP2,hF2⟩))
   first
    | go_end0
    | refine bodyPost_ret (results_none rfl _ _ _) rfl ?_
   rw [HR.out.1]
   have hF:=K.out.trans hF2
   exact ⟨FrZ.of hF H.out.1,fun _=>⟨rfl,hP2,H.out.2.1 _ _ _ hF H.out.2.2.2.1⟩,fun e=>absurd hP2.err e⟩
  | false=>
   have hR2:Zr L M L.length false ([]++[(M s1).1]) (M s1).2=R:=by rw [<- hR,Zhd z q]
   have EQ:=ZeM HE hst hM L.length [] s1 hlt hdd z (by omega)
   rw [hR2] at EQ
   obtain ⟨Q,hQ⟩:∃ Q,Za3 L M [44] (L.length+1) [] s1=Q:=⟨_,rfl⟩
   rw [hQ] at EQ
   have HR:=zh (zi EQ (zi q hQ))
   have Z:=zh z
   have door:=hF
   unfold ZN at door
   have SP:=zh (fun (w':World) (h':ParQ w0 w' bp ad c L s1) (hr':Rel w' [])=>Zeq F caps hF w0 w' bp c ad L s1 S (Dd d) Rel M [44] (ZF _ _ (by decide) (by decide)) [] hS hRel (fun s hs _=>hs) hE h' hdd (Nat.zero_le _) hr')
   rw [hQ] at SP
   clear hS hRel hE hst hM h hd hr hR hR2 hdd hlt HE z q EQ hQ hF
   by_cases z2:Q.2.err=0
   ·go_enter Tryd.func37,Tryd.ntmps37
    go_wp2_with (first
     | (go_at_call 33;(refine C1.out.mono ?_);rintro e1 w1 ⟨hF1,hok,_⟩;obtain ⟨_,rfl,hP1,rfl⟩:=hok Z.out;have T:=zh (Zg w0 w1 bp c ad L s1 hP1 [41] (ZF _ _ (by decide) (by decide)));rw [Zu HR.out.2.1] at T;have K:=zh hF1;clear hok hF1 hP1)
     | (go_at_call 21;(refine T.out.mono ?_);rintro e2 w2 ⟨rfl,hP2,hF2⟩;have S2:=zh (SP.out w2 hP2 (H.out.2.1 _ _ _ (K.out.trans hF2) H.out.2.2.2.1));have K2:=zh (K.out.trans hF2);clear hP2 hF2)
     | (go_at_call 44;(refine S2.out.mono ?_);rintro e3 w3 ⟨hZ,hok,_⟩;obtain ⟨rfl,hP3,hD3,hat,hR3⟩:=hok z2;have N:=zh (ZZ w0 w3 bp c ad L Q.2 hP3 [41] (ZF _ _ (by decide) (by decide)));have K3:=zh (zi hZ hR3);clear hZ hok hP3 hD3 hat hR3)
     | (go_at_call 33;(refine N.out.mono ?_);rintro e4 w4 hG;have G:=zh hG;obtain ⟨hF4,hok,hbd⟩:=hG;by_cases z4:(Zd L [41] Q.2).err=0;(case neg=>(obtain rfl:=hbd z4;exact zi rfl (zi (((FrZ.of K2.out H.out.1).trans K3.out.1).trans (FrZ.of hF4 H.out.1)) (zi (fun e=>absurd (HR.out.1.1.trans e) z4) (fun _=>by have e1:=HR.out.1.1;have e2:=HR.out.1.2.1;dsimp only at e1 e2;rw [<- e1,<- e2])))));obtain ⟨_,rfl,hP4,rfl⟩:=hok z4;clear hok hbd))
    go_end0
    have hZ:=((FrZ.of K2.out H.out.1).trans K3.out.1).trans (FrZ.of hF4 H.out.1)
    have e:=HR.out.1.2.2 z4
    rw [<- e]
    exact ⟨hZ,fun _=>⟨rfl,hP4,H.out.2.1 _ _ _ hF4 K3.out.2⟩,fun q=>absurd z4 q⟩
   ·have Z2:=zh z2
    have hw:=Zew (L:=L) (x:=[41]) z2
    have e1:=HR.out.1.1
    have e2:=HR.out.1.2.1
    dsimp only at e1 e2
    rw [hw] at e1 e2
    have EE:=zh (zi e1 e2)
    clear hw e1 e2 z2
    go_enter Tryd.func37,Tryd.ntmps37
    go_wp2_with (first
     | (go_at_call 33;(refine C1.out.mono ?_);rintro e1 w1 ⟨hF1,hok,_⟩;obtain ⟨_,rfl,hP1,rfl⟩:=hok Z.out;have T:=zh (Zg w0 w1 bp c ad L s1 hP1 [41] (ZF _ _ (by decide) (by decide)));rw [Zu HR.out.2.1] at T;have K:=zh hF1;clear hok hF1 hP1)
     | (go_at_call 21;(refine T.out.mono ?_);rintro e2 w2 ⟨rfl,hP2,hF2⟩;have S2:=zh (SP.out w2 hP2 (H.out.2.1 _ _ _ (K.out.trans hF2) H.out.2.2.2.1));have K2:=zh (K.out.trans hF2);clear hP2 hF2)
     | (go_at_call 44;(refine S2.out.mono ?_);rintro e3 w3 ⟨hZ,_,hbd⟩;obtain rfl:=hbd Z2.out;clear hbd))
    exact ⟨rfl,(FrZ.of K2.out H.out.1).trans hZ,fun e=>absurd (EE.out.1.trans e) Z2.out,fun _=>by rw [<- EE.out.1,<- EE.out.2]⟩
 ·have hR2:R=([],s1):=by
   rw [<- hR]
   unfold Zr
   rw [if_neg z]
  have HR:=zh hR2
  have Z:=zh z
  clear hS hRel hE hst hM h hd hr hR hR2 hdd hlt HE z hF
  go_enter Tryd.func37,Tryd.ntmps37
  go_wp2_with (go_at_call 33;(refine C1.out.mono ?_);rintro e1 w1 ⟨hF1,_,hbd⟩;obtain rfl:=hbd Z.out;clear hbd)
  rw [HR.out]
  exact ⟨rfl,FrZ.of hF1 H.out.1,fun e=>absurd e Z.out,fun _=>rfl⟩
end
section
open Go Go.RowKit
section
variable {w0:World} {bp c:Nat} {ad:Addr} {L:List Tok}
theorem ZfD:ZN 50:=fun _ _=>by kernel_rfl
theorem ZeS:ZN 51:=fun _ _=>by kernel_rfl
theorem Zhj (w w1:World) (s:PS) (d pl:Int) (st:PS->Tr×PS) (b px bx:Nat) (hE:Zw w0 bp c ad L 52 #[pV bp] (Dd d) st) (hdp:∀ s,s.deep=d->s.at_<L.length->s.err=0->(ZC L st [125] (L.length+1) [] s).2.deep=d) (h:ParQ w0 w1 bp ad c L s) (hd:s.deep=d) (hR:WayR w w1 bp 7 [] [] pl [] b [(bx,39,#[brV b]),(px,63,#[pV bp])]) :
  Calls Tryd.prog 50 #[pV px,pV bx] w1 fun e w2=>FrZ (ZbU w bp) w1 w2/\((ZC L st [125] (L.length+1) [] s).2.err=0->e=.returned (.tuple #[])/\ParQ w0 w2 bp ad c L (ZC L st [125] (L.length+1) [] s).2/\(ZC L st [125] (L.length+1) [] s).2.deep=d/\WayR w w2 bp 7 [] [] pl (ZC L st [125] (L.length+1) [] s).1 b [(bx,39,#[brV b]),(px,63,#[pV bp])])/\((ZC L st [125] (L.length+1) [] s).2.err≠0->e=ZaY (ZC L st [125] (L.length+1) [] s).2.err (ZC L st [125] (L.length+1) [] s).2.fat):=by
 have q1:=(hR.way h).cell (.tail _ (.head _))
 have UN:=zh (Zdw 51 #[pV bx,pV px] ZeS w0 w1 bp c ad L s (ZbU w bp) (Dd d) (fun w' l=>WayR w w' bp 7 [] [] pl l b [(bx,39,#[brV b]),(px,63,#[pV bp])]) st [125] (ZF _ _ (by decide) (by decide)) [] (Or.inl rfl) (fun _ _ _ hF hR=>hR.call hF) (ZeR w0 w bp c ad L 7 [] [] pl b _ px bx (Dd d) st (.head _) (.tail _ (.head _)) hE h.few.1) h hd (Nat.zero_le _) hR)
 have HD:=zh (hdp s hd h.lt h.err)
 have hmf:∀ (fn:Fn) (first cap:Array Value) (w:World),(Instr.makeFunc fn first cap).run Tryd.prog w=.ok (.func fn first cap) w:=fun _ _ _ _=>rfl
 generalize ZC L st [125] (L.length+1) [] s=R at *
 clear hE hdp h hd hR
 by_cases z:R.2.err=0
 ·go_enter Tryd.func50,Tryd.ntmps50
  go_wp2_with (go_at_call 34;(refine UN.out.mono ?_);rintro e2 w2 ⟨hZ,hok,_⟩;obtain ⟨rfl,hP,hW⟩:=hok z;have K:=zh (zi hZ (zi hP hW));clear hZ hP hW hok)
  go_end0
  exact ⟨K.out.1,fun _=>⟨rfl,K.out.2.1,HD.out,K.out.2.2⟩,fun e=>absurd z e⟩
 ·go_enter Tryd.func50,Tryd.ntmps50
  go_wp2_with (go_at_call 34;(refine UN.out.mono ?_);rintro e2 w2 ⟨hZ,_,hbd⟩;obtain rfl:=hbd z;have K:=zh hZ;clear hZ hbd)
  exact ⟨rfl,K.out,fun e=>absurd e z,fun _=>rfl⟩
theorem Zhk (w wn:World) (s:PS) (d pl:Int) (st:PS->Tr×PS) (hst:ZJ st) (b px bx:Nat) (h0:0<=d) (h200:d<=200) (hd:s.deep=d) (hE:d+1<=200->Zw w0 bp c ad L 52 #[pV bp] (Dd (d+1)) st) (hdp:d+1<=200->∀ s,s.deep=d+1->s.at_<L.length->s.err=0->(ZC L st [125] (L.length+1) [] s).2.deep=d+1) (G:Way w0 w wn bp c ad L s 7 [] [] pl [] b [(bx,39,#[brV b]),(px,63,#[pV bp])]) :
  Calls Tryd.prog 49 #[pV bp,.func (.func 50) #[] #[pV px,pV bx]] wn fun e w'=>FrP w w' bp/\((Zaq (ZC L st [125] (L.length+1) [] (inM L s)).2).err=0->e=.returned (.tuple #[])/\Way w0 w w' bp c ad L (Zaq (ZC L st [125] (L.length+1) [] (inM L s)).2) 7 [] [] pl (ZC L st [125] (L.length+1) [] (inM L s)).1 b [(bx,39,#[brV b]),(px,63,#[pV bp])])/\((Zaq (ZC L st [125] (L.length+1) [] (inM L s)).2).err≠0->e=ZaY (Zaq (ZC L st [125] (L.length+1) [] (inM L s)).2).err (Zaq (ZC L st [125] (L.length+1) [] (inM L s)).2).fat):=by
 have GR:=G.rest
 refine (Zdc 50 #[pV px,pV bx] ZfD w0 wn bp c ad L s (ZbU w bp) (ZC L st [125] (L.length+1) []) (fun l w'=>WayR w w' bp 7 [] [] pl l b [(bx,39,#[brV b]),(px,63,#[pV bp])]) (Or.inl rfl) (Zb1 hst _ _ _) (fun _ _ _ hF hR=>hR.call hF) G.P (by omega) (by omega) (fun hd' w' hF hP=>?_)).mono ?_
 ·refine (Zhj w w' _ (d+1) pl st b px bx (hE (by omega)) (hdp (by omega)) hP (by show s.deep+1=d+1;omega) (GR.call hF)).mono ?_
  rintro e w2 ⟨a1,a2,a3⟩
  refine ⟨a1,fun z=>?_,a3⟩
  obtain ⟨r1,r2,r3,r4⟩:=a2 z
  exact ⟨r1,r2,r3.trans (by omega),r4⟩
 ·rintro e w' ⟨a1,a2,a3⟩
  refine ⟨G.F.frz a1,fun z=>?_,a3⟩
  obtain ⟨r1,r2,r3⟩:=a2 z
  exact ⟨r1,r3.way r2⟩
theorem ZiB (w:World) (s:PS) (d:Int) (h0:0<=d) (h200:d<=200) (h:ParQ w0 w bp ad c L s) (hd:s.deep=d) (st:PS->Tr×PS) (hst:ZJ st) (hE:d+1<=200->Zw w0 bp c ad L 52 #[pV bp] (Dd (d+1)) st) (hdp:d+1<=200->∀ s,s.deep=d+1->s.at_<L.length->s.err=0->(ZC L st [125] (L.length+1) [] s).2.deep=d+1) (hgo:Gon L s (Zm L st s).2) :
  Calls Tryd.prog 40 #[pV bp] w (Zl w0 w bp c ad L (Dd d) s (Zm L st s)):=by
 have hpl:=zh (ZQ (L:=L) h.err)
 have hmf:∀ (fn:Fn) (first cap:Array Value) (w:World),(Instr.makeFunc fn first cap).run Tryd.prog w=.ok (.func fn first cap) w:=fun _ _ _ _=>rfl
 have hR:=zh (show Zm L st s=(.mk 7 [] [] (Zj L s) (ZC L st [125] (L.length+1) [] (inM L (Zd L [123] s))).1,Zaq (ZC L st [125] (L.length+1) [] (inM L (Zd L [123] s))).2) from rfl)
 have HG:=zh hgo
 have S1:=zh (show Stk (Zd L [123] s) (Zm L st s).2 from ((ZdU _).trans (Zb1 hst _ _ _ _)).trans (Zdh _))
 have HX:=zh (zi hst (zi h0 (zi h200 (zi hE hdp))))
 have BG:=zh (ZK w0 _ bp c ad L s (h.keep (below_alloc1 w (.cells #[pV bp] 63))) 7)
 have T1:=zh (fun w' h'=>ZZ w0 w' bp c ad L s h' [123] (ZF _ _ (by decide) (by decide)))
 have H:=zh (zi h hd)
 clear h hd hE hgo hst hdp h0 h200
 go_enter Tryd.func40,Tryd.ntmps40
 go_upto_region 2 with (go_at_call 19;(refine BG.out.mono ?_);rintro e1 wa ⟨b,rfl,T,hb,hB⟩)
 have G1:=zh (Way.begun H.out.1 T hb hB)
 rw [hpl.out] at G1
 generalize wa.alloc (.cells #[brV b] 39)=wb at *
 clear T hb hB
 have q1:=G1.out.cell (.head _)
 have q2:=G1.out.cell (.tail _ (.head _))
 go_upto_region 3 with (go_at_call 33;(refine (T1.out _ G1.out.P).mono ?_);rintro e2 w1 ⟨hF,hok,hbd⟩;by_cases z:(Zd L [123] s).err=0;(case neg=>(obtain rfl:=hbd z;exact zi rfl (Zl.bad (G1.out.F.trans hF) S1.out z)));obtain ⟨_,rfl,hP,rfl⟩:=hok z;have G2:=zh (G1.out.call hP hF);clear hP hF hok hbd)
 have z1:=zh z
 clear z
 have q1:=G2.out.cell (.head _)
 have q2:=G2.out.cell (.tail _ (.head _))
 have NS:=zh (Zhk w _ (Zd L [123] s) d (Zj L s) st HX.out.1 b _ _ HX.out.2.1 HX.out.2.2.1 ((Za1 _ _).trans H.out.2) HX.out.2.2.2.1 HX.out.2.2.2.2 G2.out)
 go_upto_region 4 with (go_at_call 49;(refine NS.out.mono ?_);rintro e3 w3 ⟨hF,hok,hbd⟩;by_cases z:(Zaq (ZC L st [125] (L.length+1) [] (inM L (Zd L [123] s))).2).err=0;(case neg=>(obtain rfl:=hbd z;exact zi rfl (Zl.bad hF (Zbe hR.out) z)));obtain ⟨rfl,hW⟩:=hok z;have G3:=zh hW;clear hW hF hok hbd)
 clear z
 have q1:=G3.out.cell (.head _)
 have q2:=G3.out.cell (.tail _ (.head _))
 go_wp2_with fail
 go_ret
 exact Zl.fin HG.out H.out.2 hR.out G3.out.F G3.out.P G3.out.done
end
end
end Go.Proofs.YtfdgeijnkkdplaaDoor
