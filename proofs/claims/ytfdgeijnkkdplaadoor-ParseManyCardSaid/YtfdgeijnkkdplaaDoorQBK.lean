import Derived.Test.YtfdgeijnkkdplaaDoorQAY
import Derived.Test.YtfdgeijnkkdplaaDoorQBH
import Derived.Test.YtfdgeijnkkdplaaDoorQBI
import Derived.Test.YtfdgeijnkkdplaaDoorQBJ
set_option maxRecDepth 100000
set_option maxHeartbeats 8000000
namespace Go.Proofs.YtfdgeijnkkdplaaDoor
section
open Go Go.RowKit
section
variable {w0:World} {bp c:Nat} {ad:Addr} {L:List Tok}
theorem Zdv {α:Type} {R:α×PS} {s1:PS} {A FR:Prop} (hF:FR) (hk:Stk s1 R.2) (hz:s1.err≠0):FR/\(R.2.err=0->A)/\(R.2.err≠0->ZaY s1.err s1.fat=ZaY R.2.err R.2.fat):=by
 obtain ⟨a,b⟩:=hk hz
 exact ⟨hF,fun e=>absurd (a.symm.trans e) hz,fun _=>by rw [a,b]⟩
theorem Zfa:∀ l:List (Txt×Txt),(Zby l).length=2*l.length
 | []=>rfl
 | x::r=>by
  unfold Zby
  rw [List.length_cons,List.length_cons,List.length_cons,Zfa r]
  omega
theorem ZfE:ZN 55:=fun _ _=>by kernel_rfl
theorem ZfG:ZN 45:=fun _ _=>by kernel_rfl
theorem Zg9 {wS:World} {k at_:Int} {ns:List Int} {b:Nat} {xs:List (Nat×TypeId×Array Value)} {px bx:Nat} (hL:LaidP w0) (d:Int) (hbx:(bx,39,#[brV b])∈xs) (hpx:(px,63,#[pV bp])∈xs) :
  ZhE w0 bp c ad L 55 #[pV bx,pV px] (ZbU wS bp) (Dd d) (fun w l=>WayR wS w bp k l ns at_ [] b xs) (Za L):=by
 intro w s l hP hD hl hR
 have HB:=zh (zi hbx hpx)
 have HR:=zh (hR.way hP)
 have HK:=zh hL.keys
 have HE:=zh (zi hP.end_ (zi hP.lt hD))
 have HLn:=zh (show (l:List Txt).length<=1000000 by have:=hP.few.1;have:=hP.lt;omega)
 clear hbx hpx hR hP hD hl hL
 go_enter Tryd.func55,Tryd.ntmps55
 refine Zg7 Zab 2 1 0 HR.out HLn.out HB.out.1 HB.out.2 (fun w1 h1=>ZR w0 w1 bp c ad L s h1 HK.out) ?bad (fun x w' hW=>?_)
 case bad=>
  intro z a' w' hd hF
  exact ⟨hd,Zdv (R:=Za L s) (ZaG HR.out.lt HR.out.F hF) (Stk.refl _) z⟩
 go_wp2_with fail
 go_end0
 have hat:=(ZD HE.out.1 HE.out.2.1).on hW.P.err
 exact ⟨ZaG HR.out.lt HR.out.F hW.F,fun _=>⟨rfl,hW.P,(Zaj _).trans HE.out.2.2,hat,hW.rest⟩,fun e=>absurd hW.P.err e⟩
theorem Zhb {wS:World} {k at_:Int} {ns:List Int} {b:Nat} {xs:List (Nat×TypeId×Array Value)} {px bx:Nat} (hL:LaidP w0) (vs:List Txt) (hvs:vs.length<=1000) (d:Int) (hbx:(bx,39,#[brV b])∈xs) (hpx:(px,63,#[pV bp])∈xs) :
  ZhE w0 bp c ad L 45 #[pV bx,pV px] (ZbU wS bp) (Dd d) (fun w l=>WayR wS w bp k (vs++Zby l) ns at_ [] b xs) (Zb5 L):=by
 intro w s l hP hD hl hR
 have HB:=zh (zi hbx hpx)
 have HR:=zh (hR.way hP)
 have HK:=zh hL.keys
 have HE:=zh (zi hP.end_ (zi hP.lt hD))
 have HLn:=zh (show ((vs++Zby l):List Txt).length<=1000000 by have:=hP.few.1;have:=hP.lt;rw [List.length_append,Zfa];omega)
 clear hbx hpx hR hP hD hl hL hvs
 go_enter Tryd.func45,Tryd.ntmps45
 refine ZmP Zab 2 0 1 HR.out HLn.out HB.out.1 HB.out.2 (fun w1 h1=>ZR w0 w1 bp c ad L s h1 HK.out) (fun w1 h1=>ZR w0 w1 bp c ad L (Za L s).2 h1 HK.out) ?bad1 ?bad (fun x w' hW=>?_)
 case bad1=>
  intro z a' w' hd hF
  exact ⟨hd,Zdv (R:=Zb5 L s) (ZaG HR.out.lt HR.out.F hF) (show Stk (Za L s).2 (Zb5 L s).2 from ZB _) z⟩
 case bad=>
  intro z a' w' hd hF
  exact ⟨hd,Zdv (R:=Zb5 L s) (ZaG HR.out.lt HR.out.F hF) (Stk.refl _) z⟩
 go_wp2_with fail
 go_end0
 have g1:=ZD HE.out.1 HE.out.2.1
 have g2:=ZD HE.out.1 (g1.lt HE.out.2.1)
 have hat:=(g1.then_ g2.toAdv).on hW.P.err
 refine ⟨ZaG HR.out.lt HR.out.F hW.F,fun _=>⟨rfl,hW.P,(Zaj _).trans ((Zaj _).trans HE.out.2.2),hat,?_⟩,fun e=>absurd hW.P.err e⟩
 have:=hW.rest
 rw [List.append_assoc] at this
 rw [Zdm]
 exact this
theorem ZkE {wS:World} {at_ k:Int} {ws:List Txt} {ns:List Int} {kids:List Tr} {b:Nat} {xs:List (Nat×TypeId×Array Value)} (hL:LaidP w0) (w:World) (s:PS) (nm:Txt) (i:Nat) (hi:Zbl[i]? = some nm) (hx:PW nm) (hn:kids.length<=200000) (hG:Way w0 wS w bp c ad L s k ws ns at_ kids b xs) (h1:isM L nm s=false) :
  Calls Tryd.prog 48 #[pV bp,brV b,.int .i64 i] w fun e w'=>FrP wS w' bp/\((Zn L nm (i:Nat) s).2.err=0->e=.returned (.tuple #[])/\Way w0 wS w' bp c ad L (Zn L nm (i:Nat) s).2 k ws ns at_ (kids++(Zn L nm (i:Nat) s).1) b xs)/\((Zn L nm (i:Nat) s).2.err≠0->e=ZaY (Zn L nm (i:Nat) s).2.err (Zn L nm (i:Nat) s).2.fat):=by
 have hpl:=zh (ZQ (L:=L) hG.P.err)
 have hR:=zh (show Zn L nm (i:Nat) s=([],s) by unfold Zn;rw [if_neg (by simp [h1])])
 have h1:=zh h1
 have hmf:∀ (fn:Fn) (first cap:Array Value) (w:World),(Instr.makeFunc fn first cap).run Tryd.prog w=.ok (.func fn first cap) w:=fun _ _ _ _=>rfl
 have BG:=zh (ZK w0 _ bp c ad L s (hG.P.keep (below_alloc1 w (.cells #[pV bp] 63))) 6)
 have HL:=zh hL
 have HI:=zh (zi hi hx)
 have HN:=zh hn
 have HG:=zh hG
 have i3:i<3:=(List.getElem?_eq_some_iff.1 hi).1
 have i0:(0:Int)<=(i:Int):=by omega
 have i1:(i:Int)<3:=by omega
 clear hG hL hi hx hn
 go_enter Tryd.func48,Tryd.ntmps48
 go_upto_region 2 with (go_at_call 19;(refine BG.out.mono ?_);rintro e1 wa ⟨bi,rfl,T,hb,hB⟩)
 have G1:=zh (Way.begun HG.out.P T hb hB)
 rw [hpl.out] at G1
 generalize wa.alloc (.cells #[brV bi] 39)=wb at *
 clear T hb hB
 refine Zk2 11 2 3 G1.out (.tail _ (.head _)) HL.out.names HI.out.1 HI.out.2 (fun x wr hW=>?_)
 obtain ⟨hW,h7⟩:=hW
 rw [Zu h1.out] at hW h7
 generalize wr=w1 at *
 have G2:=zh (hW)
 clear hW
 simp only [ZE,cl,Act.put,Zbz]
 rw [h7]
 clear h7
 have q1:=G2.out.cell (.head _)
 have q2:=G2.out.cell (.tail _ (.head _))
 have GO:=zh (HG.out.call G2.out.P G2.out.F)
 clear q1 q2
 go_wp2_with fail
 first
  | go_end0
  | refine bodyPost_ret (results_none rfl _ _ _) rfl ?_
 rw [hR.out]
 exact ⟨GO.out.F,fun _=>⟨rfl,by rw [List.append_nil];exact GO.out⟩,fun e=>absurd GO.out.P.err e⟩
theorem ZiE {wS:World} {at_ k:Int} {ws:List Txt} {ns:List Int} {kids:List Tr} {b:Nat} {xs:List (Nat×TypeId×Array Value)} (hL:LaidP w0) (w:World) (s:PS) (nm:Txt) (i:Nat) (hi:Zbl[i]? = some nm) (hx:PW nm) (hn:kids.length<=200000) (hG:Way w0 wS w bp c ad L s k ws ns at_ kids b xs) (h1:isM L nm s=true) :
  Calls Tryd.prog 48 #[pV bp,brV b,.int .i64 i] w fun e w'=>FrP wS w' bp/\((Zn L nm (i:Nat) s).2.err=0->e=.returned (.tuple #[])/\Way w0 wS w' bp c ad L (Zn L nm (i:Nat) s).2 k ws ns at_ (kids++(Zn L nm (i:Nat) s).1) b xs)/\((Zn L nm (i:Nat) s).2.err≠0->e=ZaY (Zn L nm (i:Nat) s).2.err (Zn L nm (i:Nat) s).2.fat):=by
 have hpl:=zh (ZQ (L:=L) hG.P.err)
 have hR:=zh (show Zn L nm (i:Nat) s=([.mk 6 (Zbm L L.length [(Za L (Zb s)).1] (Za L (Zb s)).2).1 [((i:Nat):Int)] (Zj L s) []],(Zbm L L.length [(Za L (Zb s)).1] (Za L (Zb s)).2).2) by unfold Zn;rw [if_pos h1])
 have h1:=zh h1
 have hmf:∀ (fn:Fn) (first cap:Array Value) (w:World),(Instr.makeFunc fn first cap).run Tryd.prog w=.ok (.func fn first cap) w:=fun _ _ _ _=>rfl
 have BG:=zh (ZK w0 _ bp c ad L s (hG.P.keep (below_alloc1 w (.cells #[pV bp] 63))) 6)
 have HL:=zh hL
 have HI:=zh (zi hi hx)
 have HN:=zh hn
 have hB2:=zh (Zgm hG.P.end_ L.length [] (Zb s) ((ZU hG.P.end_ hG.P.lt h1.out).lt hG.P.lt) (by omega))
 have HG:=zh hG
 have i3:i<3:=(List.getElem?_eq_some_iff.1 hi).1
 have i0:(0:Int)<=(i:Int):=by omega
 have i1:(i:Int)<3:=by omega
 clear hG hL hi hx hn
 go_enter Tryd.func48,Tryd.ntmps48
 go_upto_region 2 with (go_at_call 19;(refine BG.out.mono ?_);rintro e1 wa ⟨bi,rfl,T,hb,hB⟩)
 have G1:=zh (Way.begun HG.out.P T hb hB)
 rw [hpl.out] at G1
 generalize wa.alloc (.cells #[brV bi] 39)=wb at *
 clear T hb hB
 refine Zk2 11 2 3 G1.out (.tail _ (.head _)) HL.out.names HI.out.1 HI.out.2 (fun x wr hW=>?_)
 obtain ⟨hW,h7⟩:=hW
 rw [Zah h1.out] at hW h7
 generalize wr=w1 at *
 have G2:=zh (hW)
 clear hW
 simp only [ZE,cl,Act.put,Zbz]
 rw [h7]
 clear h7
 have q1:=G2.out.cell (.head _)
 have q2:=G2.out.cell (.tail _ (.head _))
 obtain ⟨⟨u3,_,q3⟩,_,q4⟩:=G2.out.putA 2 (by decide)
 go_upto_region 4 with fail
 clear q3 q4
 have G3:=zh (G2.out.nums1 (i:Nat))
 generalize World.setCell (World.alloc w1 _) _ _=w1 at *
 have q1:=G3.out.cell (.head _)
 have q2:=G3.out.cell (.tail _ (.head _))
 have SP:=zh (Zeq 55 #[pV wa.heap.size,pV w.heap.size] ZfE w0 w1 bp c ad L (Zb s) (ZbU w bp) (Dd s.deep) (fun w' l=>WayR w w' bp 6 l [((i:Nat):Int)] (Zj L s) [] bi [(wa.heap.size,39,#[brV bi]),(w.heap.size,63,#[pV bp])]) (Za L) [124] (ZF _ _ (by decide) (by decide)) [] (Or.inl rfl) (fun _ _ _ hF hR=>hR.call hF) (fun _ hs _=>hs) (Zg9 HL.out s.deep (.head _) (.tail _ (.head _))) G3.out.P rfl (Nat.zero_le _) G3.out.rest)
 rw [hB2.out] at SP
 have FB:=zh G3.out.F
 go_upto_region 5 with (go_at_call 44;(refine SP.out.mono ?_);rintro e3 w9 ⟨hZ,hok,hbd⟩;by_cases z:(Zbm L L.length [(Za L (Zb s)).1] (Za L (Zb s)).2).2.err=0;(case neg=>(obtain rfl:=hbd z;exact zi rfl (Zdv (R:=Zn L nm (i:Nat) s) (HG.out.F.trans (FB.out.frz hZ)) (by rw [hR.out];exact Stk.refl _) z)));obtain ⟨rfl,hP,_,_,hRel⟩:=hok z;have G9:=zh (hRel.way hP);clear hZ hok hbd hP hRel z)
 have q1:=G9.out.cell (.head _)
 clear q2
 have K:=zh ((WayK.of HG.out).got G9.out.P G9.out.F G9.out.done)
 have FIN:=zh (K.out.add HN.out (m:=1) rfl (by decide))
 go_wp2_with (go_at_call 23;(refine FIN.out.mono ?_);rintro e4 w10 ⟨rfl,hW⟩)
 go_end0
 rw [hR.out]
 exact ⟨hW.F,fun _=>⟨rfl,hW⟩,fun e=>absurd hW.P.err e⟩
end
end
section
open Go Go.RowKit
section
variable {w0:World} {bp c:Nat} {ad:Addr} {L:List Tok}
theorem Zd9:ZN 47:=fun _ _=>by kernel_rfl
theorem Zdu {wS:World} {at_ k:Int} {ws:List Txt} {ns:List Int} {kids:List Tr} {b:Nat} {xs:List (Nat×TypeId×Array Value)} (hL:LaidP w0) (w:World) (s:PS) (nm:Txt) (i:Nat) (hi:Zbl[i]? = some nm) (hx:PW nm) (hn:kids.length<=200000) (hG:Way w0 wS w bp c ad L s k ws ns at_ kids b xs) :
  Calls Tryd.prog 48 #[pV bp,brV b,.int .i64 i] w fun e w'=>FrP wS w' bp/\((Zn L nm (i:Nat) s).2.err=0->e=.returned (.tuple #[])/\Way w0 wS w' bp c ad L (Zn L nm (i:Nat) s).2 k ws ns at_ (kids++(Zn L nm (i:Nat) s).1) b xs)/\((Zn L nm (i:Nat) s).2.err≠0->e=ZaY (Zn L nm (i:Nat) s).2.err (Zn L nm (i:Nat) s).2.fat):=by
 cases h1:isM L nm s with
 | true=>exact ZiE hL w s nm i hi hx hn hG h1
 | false=>exact ZkE hL w s nm i hi hx hn hG h1
theorem Zfj (x:Txt) (i:Int) (s:PS):(Zn L x i s).1.length<=1:=by
 unfold Zn
 split
 ·exact Nat.le_refl _
 ·exact Nat.zero_le _
theorem ZiK {wS:World} {at_ k0:Int} {b:Nat} {xs:List (Nat×TypeId×Array Value)} (hL:LaidP w0) (w:World) (s:PS) (d:Int) (hd:s.deep=d) (hG:Way w0 wS w bp c ad L s k0 [] [] at_ [] b xs) (st:PS->Tr×PS) (hst:ZJ st) (hE:Zw w0 bp c ad L 40 #[pV bp] (Dd (d)) (Zm L st)) (hDn:(Zn L [105,110] 2 (Zas L (Zz L (Zo 1) (Za L (Zd L [61] (Za L s).2)).2).2).2).2.err=0->(Zn L [105,110] 2 (Zas L (Zz L (Zo 1) (Za L (Zd L [61] (Za L s).2)).2).2).2).2.deep=d) :
  Calls Tryd.prog 59 #[pV bp,brV b] w (ZS w0 wS bp c ad L b xs (Za8 L st at_ s)):=by
 have HK:=zh hL.keys
 have HL:=zh hL
 have HE:=zh hE
 have HD:=zh hd
 have HDn:=zh hDn
 have S6:=zh (show Stk (Zn L [105,110] 2 (Zas L (Zz L (Zo 1) (Za L (Zd L [61] (Za L s).2)).2).2).2).2 (Za8 L st at_ s).2 from Zal hst _)
 have S5:=zh (show Stk (Zas L (Zz L (Zo 1) (Za L (Zd L [61] (Za L s).2)).2).2).2 (Za8 L st at_ s).2 from (Zbt _ _ _).trans S6.out)
 have S4:=zh (show Stk (Zz L (Zo 1) (Za L (Zd L [61] (Za L s).2)).2).2 (Za8 L st at_ s).2 from (Zgq _).trans S5.out)
 have S3:=zh (show Stk (Za L (Zd L [61] (Za L s).2)).2 (Za8 L st at_ s).2 from (Zcd _ _).trans S4.out)
 have S2:=zh (show Stk (Zd L [61] (Za L s).2) (Za8 L st at_ s).2 from (ZB _).trans S3.out)
 have S1:=zh (show Stk (Za L s).2 (Za8 L st at_ s).2 from (Zq _ _).trans S2.out)
 have T2:=zh (fun w' h'=>ZR w0 w' bp c ad L s h' HK.out)
 have T4:=zh (fun w' h'=>ZZ w0 w' bp c ad L (Za L s).2 h' [61] (ZF _ _ (by decide) (by decide)))
 have T6:=zh (fun w' h'=>ZdP w0 w' bp c ad L (Za L (Zd L [61] (Za L s).2)).2 h' hL.kinds 1 (by decide))
 have G0:=zh hG
 clear hG hE hst hd hL hDn
 go_enter Tryd.func59,Tryd.ntmps59
 obtain ⟨⟨u3,q3,_⟩,q4,_⟩:=G0.out.putA 0 (by decide)
 go_upto_region 1 with fail
 clear q3 q4
 have G1:=zh (G0.out.kind 13)
 generalize World.setCell _ ⟨b,0,none⟩ (.int .i64 13)=w1 at *
 go_upto_region 2 with (go_at_call 32;(refine (T2.out _ G1.out.P).mono ?_);rintro e2 w2 ⟨hF,hok,hbd⟩;by_cases z:(Za L s).2.err=0;(case neg=>(obtain rfl:=hbd z;exact zi rfl (ZS.bad (G1.out.F.trans hF) S1.out z)));obtain ⟨_,rfl,hP,rfl⟩:=hok z;have G2:=zh (G1.out.call hP hF);obtain ⟨⟨u3,_,q3⟩,_,q4⟩:=G2.out.putA 1 (by decide);clear hP hF hok hbd)
 clear z q3 q4
 have G3:=zh (G2.out.words1 (Za L s).1)
 generalize World.setCell (World.alloc w2 _) _ _=w3 at *
 go_upto_region 3 with (go_at_call 33;(refine (T4.out _ G3.out.P).mono ?_);rintro e2 w4 ⟨hF,hok,hbd⟩;by_cases z:(Zd L [61] (Za L s).2).err=0;(case neg=>(obtain rfl:=hbd z;exact zi rfl (ZS.bad (G3.out.F.trans hF) S2.out z)));obtain ⟨_,rfl,hP,rfl⟩:=hok z;have G4:=zh (G3.out.call hP hF);clear hP hF hok hbd)
 have z4:=zh z
 clear z
 refine Zg8 Zab 21 0 1 G4.out (by simp) (fun w1 h1=>ZR w0 w1 bp c ad L (Zd L [61] (Za L s).2) h1 HK.out) ?bad (fun x wr hW=>?_)
 case bad=>
  intro z a' w' hd hF
  exact ⟨hd,ZS.bad hF S3.out z⟩
 generalize wr=w5 at *
 have G5:=zh (hW)
 clear hW
 simp only [ZE,cl,Act.put,ZaL]
 go_upto_region 5 with (go_at_call 46;(refine (T6.out _ G5.out.P).mono ?_);rintro e2 w6 ⟨hF,hok,hbd⟩;by_cases z:(Zz L (Zo 1) (Za L (Zd L [61] (Za L s).2)).2).2.err=0;(case neg=>(obtain rfl:=hbd z;exact zi rfl (ZS.bad (G5.out.F.trans hF) S4.out z)));obtain ⟨_,rfl,hP,rfl⟩:=hok z;have G6:=zh (G5.out.call hP hF);obtain ⟨⟨u3,_,q3⟩,_,q4⟩:=G6.out.putA 2 (by decide);clear hP hF hok hbd)
 clear z q3 q4
 have G7:=zh (G6.out.nums3 (Zz L (Zo 1) (Za L (Zd L [61] (Za L s).2)).2).1 0 0)
 generalize World.setCell (World.alloc w6 _) _ _=w7 at *
 obtain ⟨tp,pv,hv⟩:=HL.out.err
 refine Zk1 Zd9 43 0 1 G7.out (fun w1 h1=>Zfp w0 w1 bp c ad L (Zz L (Zo 1) (Za L (Zd L [61] (Za L s).2)).2).2 h1 tp pv hv) ?bad (fun x wr hW=>?_)
 case bad=>
  intro z a' w' hd hF
  exact ⟨hd,ZS.bad hF S5.out z⟩
 generalize wr=w8 at *
 have G8:=zh (hW)
 clear hW
 simp only [ZE,cl,Act.put,Zaz]
 have NM9:=zh (Zdu HL.out _ (Zas L (Zz L (Zo 1) (Za L (Zd L [61] (Za L s).2)).2).2).2 [105,110] 2 rfl (Zv _ (by decide)) (Nat.zero_le _) G8.out)
 go_upto_region 7 with (go_at_call 48;(refine NM9.out.mono ?_);rintro e2 w9 ⟨hF,hok,hbd⟩;by_cases z:(Zn L [105,110] 2 (Zas L (Zz L (Zo 1) (Za L (Zd L [61] (Za L s).2)).2).2).2).2.err=0;(case neg=>(obtain rfl:=hbd z;exact zi rfl (ZS.bad hF S6.out z)));obtain ⟨rfl,hW⟩:=hok z;have G9:=zh hW;clear hW hF hok hbd)
 clear z
 have DN:=zh (HDn.out G9.out.P.err)
 go_wp2_with (first | (go_at_call 40;(refine (HE.out _ (Zn L [105,110] 2 (Zas L (Zz L (Zo 1) (Za L (Zd L [61] (Za L s).2)).2).2).2).2 G9.out.P DN.out).mono ?_);rintro e2 w10 ⟨hF,hok,hbd⟩;by_cases z:(Zm L st (Zn L [105,110] 2 (Zas L (Zz L (Zo 1) (Za L (Zd L [61] (Za L s).2)).2).2).2).2).2.err=0;(case neg=>(obtain rfl:=hbd z;exact zi rfl (ZS.bad (G9.out.F.trans hF) (Stk.refl _) z)));obtain ⟨gk,rfl,hP,hD10,hat,hT⟩:=hok z;have K10:=zh ((WayK.of G9.out).got hP hF hT);have D10:=zh hD10;clear hP hF hok hbd hT hat hD10) | (go_at_call 23;(refine (K10.out.add (by rw [List.nil_append];exact Nat.le_trans (Zfj _ _ _) (by decide)) (m:=1) rfl (by decide)).mono ?_);rintro e2 w11 ⟨rfl,hW⟩;have G10:=zh hW;clear hW))
 (try clear z)
 rw [List.nil_append] at G10
 go_wp2_with fail
 first | go_end0 | skip
 exact ZS.fin rfl G10.out
end
end
end Go.Proofs.YtfdgeijnkkdplaaDoor
