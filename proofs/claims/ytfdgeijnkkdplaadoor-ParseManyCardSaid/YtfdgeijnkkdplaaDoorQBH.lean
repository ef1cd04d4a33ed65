import Derived.Test.YtfdgeijnkkdplaaDoorQBF
import Derived.Test.YtfdgeijnkkdplaaDoorQBG
set_option maxRecDepth 100000
set_option maxHeartbeats 8000000
namespace Go.Proofs.YtfdgeijnkkdplaaDoor
section
open Go Go.RowKit
section
variable {w0:World} {bp c:Nat} {ad:Addr} {L:List Tok}
theorem Zl.after {w w1 w':World} {s s0:PS} {D:PS->Prop} {R:Tr×PS} {e:Ending} (hF:FrP w w1 bp) (hat:s0.at_<=s.at_) (h:Zl w0 w1 bp c ad L D s R e w'):Zl w0 w bp c ad L D s0 R e w':=by
 obtain ⟨h1,h2,h3⟩:=h
 refine ⟨hF.trans h1,fun z=>?_,h3⟩
 obtain ⟨b,k1,k2,k3,k4,k5⟩:=h2 z
 exact ⟨b,k1,k2,k3,Nat.lt_of_le_of_lt hat k4,BrP.frame (fun k hk=>⟨Nat.le_trans hF.size hk.1,hk.2⟩) (fun _ _=>rfl) _ b k5⟩
def ZcS (L:List Tok) (ex:PS->Tr×PS) (k p:Int) (s:PS):Tr×PS:=(.mk k [(Za L s).1] [] p [(ex (Zd L [61] (Za L s).2)).1],Zd L [59] (ex (Zd L [61] (Za L s).2)).2)
def Zc4 (L:List Tok) (st:PS->Tr×PS) (p:Int) (s:PS):Tr×PS:=
 let a:=Za L s;let b:=Za L a.2;let c:=Zm L st b.2;let d:=Zm L st (Zd L [101,108,115,101] c.2)
 (.mk 10 [a.1,b.1] [] p [c.1,d.1],d.2)
def ifM (L:List Tok) (ex st:PS->Tr×PS) (p:Int) (s:PS):Tr×PS:=
 let a:=ex s;let b:=Zm L st a.2
 if isM L [101,108,115,101] b.2 then (let c:=Zm L st (Zb b.2);(.mk 16 [] [] p [a.1,b.1,c.1],c.2)) else (.mk 16 [] [] p [a.1,b.1],b.2)
theorem Zab:ZN 32:=fun _ _=>by kernel_rfl
theorem Zli (hL:LaidP w0) (w:World) (s:PS) (d:Int) (h:ParQ w0 w bp ad c L s) (hd:s.deep=d) (ex:PS->Tr×PS) (h1:isM L [38] s=true) (hgo:Gon L s (ZV L ex s).2) :
  Calls Tryd.prog 67 #[pV bp] w (Zl w0 w bp c ad L (Dd d) s (ZV L ex s)):=by
 have hpl:=zh (ZQ (L:=L) h.err)
 have HK:=zh hL.keys
 have hR:=zh (show ZV L ex s=(.mk 15 [(Za L (Zb s)).1] [] (Zj L s) [],(Za L (Zb s)).2) by unfold ZV;rw [if_pos h1])
 have HG:=zh hgo
 have BG:=zh (ZK w0 w bp c ad L s h 15)
 have T1:=zh (fun w' h'=>Zg w0 w' bp c ad L s h' [38] (ZF _ _ (by decide) (by decide)))
 rw [Zah h1] at T1
 have T2:=zh (fun w' h'=>ZR w0 w' bp c ad L (Zb s) h' HK.out)
 have H:=zh (zi h hd)
 clear h hd hgo h1 hL
 go_enter Tryd.func67,Tryd.ntmps67
 go_upto_region 2 with (go_at_call 19;(refine BG.out.mono ?_);rintro e1 wb ⟨b,rfl,T,hb,hB⟩)
 have G1:=zh (Way.start H.out.1 T hb hB)
 rw [hpl.out] at G1
 clear T hb hB
 go_upto_region 4 with (go_at_call 21;(refine (T1.out _ G1.out.P).mono ?_);rintro e2 w1 ⟨rfl,hP,hF⟩;have G2:=zh (G1.out.call hP hF);clear hP hF)
 go_upto_region 5 with (go_at_call 32;(refine (T2.out _ G2.out.P).mono ?_);rintro e2 w2 ⟨hF,hok,hbd⟩;by_cases z:(Za L (Zb s)).2.err=0;(case neg=>(obtain rfl:=hbd z;exact zi rfl (Zl.bad (G2.out.F.trans hF) (Zbe hR.out) z)));obtain ⟨_,rfl,hP,rfl⟩:=hok z;have G3:=zh (G2.out.call hP hF);obtain ⟨⟨u3,_,q3⟩,_,q4⟩:=G3.out.putA 1 (by decide);clear hP hF hok hbd)
 clear z q3 q4
 have G4:=zh (G3.out.words1 (Za L (Zb s)).1)
 generalize World.setCell (World.alloc w2 _) _ _=w3 at *
 go_wp2_with fail
 go_ret
 exact Zl.fin HG.out H.out.2 hR.out G4.out.F G4.out.P G4.out.done
theorem Zl3 (_hL:LaidP w0) (w:World) (s:PS) (d:Int) (h:ParQ w0 w bp ad c L s) (hd:s.deep=d) (ex:PS->Tr×PS) (h1:isM L [38] s=false) (hE:Zw w0 bp c ad L 62 #[pV bp] (Dd (d)) (ex)) :
  Calls Tryd.prog 67 #[pV bp] w (Zl w0 w bp c ad L (Dd d) s (ZV L ex s)):=by
 have hpl:=zh (ZQ (L:=L) h.err)
 have hR:=zh (show ZV L ex s=ex s by unfold ZV;rw [if_neg (by simp [h1])])
 have HE:=zh hE
 have BG:=zh (ZK w0 w bp c ad L s h 15)
 have T1:=zh (fun w' h'=>Zg w0 w' bp c ad L s h' [38] (ZF _ _ (by decide) (by decide)))
 rw [Zu h1] at T1
 have H:=zh (zi h hd)
 clear h hd h1 _hL hE
 go_enter Tryd.func67,Tryd.ntmps67
 go_upto_region 2 with (go_at_call 19;(refine BG.out.mono ?_);rintro e1 wb ⟨b,rfl,T,hb,hB⟩)
 have G1:=zh (Way.start H.out.1 T hb hB)
 rw [hpl.out] at G1
 clear T hb hB
 go_upto_region 3 with (go_at_call 21;(refine (T1.out _ G1.out.P).mono ?_);rintro e2 w1 ⟨rfl,hP,hF⟩;have G2:=zh (G1.out.call hP hF);clear hP hF)
 have FF:=zh G2.out.F
 by_cases z:(ex s).2.err=0
 ·go_wp2_with (go_at_call 62;(refine (HE.out _ s G2.out.P H.out.2).mono ?_);rintro e3 w3 hG;have G9:=zh hG;obtain ⟨_,hok,hbd⟩:=hG;obtain ⟨g,rfl,_⟩:=hok z;clear hok hbd)
  rw [hR.out]
  go_ret
  exact Zl.after FF.out (Nat.le_refl _) G9.out
 ·go_wp2_with (go_at_call 62;(refine (HE.out _ s G2.out.P H.out.2).mono ?_);rintro e3 w3 hG;have G9:=zh hG;obtain ⟨_,hok,hbd⟩:=hG;obtain rfl:=hbd z;clear hok hbd)
  rw [hR.out]
  exact ⟨rfl,Zl.after FF.out (Nat.le_refl _) G9.out⟩
end
end
section
open Go Go.RowKit
section
variable {w0:World} {bp c:Nat} {ad:Addr} {L:List Tok}
theorem Zgh {wS:World} {at_ k0:Int} {b:Nat} {xs:List (Nat×TypeId×Array Value)} (hL:LaidP w0) (w:World) (s:PS) (d:Int) (hd:s.deep=d) (hG:Way w0 wS w bp c ad L s k0 [] [] at_ [] b xs) (ex:PS->Tr×PS) (hex:ZJ ex) (hE:Zw w0 bp c ad L 62 #[pV bp] (Dd (d)) (ex)) :
  Calls Tryd.prog 56 #[pV bp,brV b] w (ZS w0 wS bp c ad L b xs (ZcS L ex k0 at_ s)):=by
 have HK:=zh hL.keys
 have HE:=zh hE
 have HD:=zh hd
 have S1:=zh (show Stk (Za L s).2 (ZcS L ex k0 at_ s).2 from ((Zq [61] _).trans (hex _)).trans (Zq _ _))
 have S2:=zh (show Stk (Zd L [61] (Za L s).2) (ZcS L ex k0 at_ s).2 from (hex _).trans (Zq _ _))
 have T1:=zh (fun w' h'=>ZR w0 w' bp c ad L s h' HK.out)
 have T3:=zh (fun w' h'=>ZZ w0 w' bp c ad L (Za L s).2 h' [61] (ZF _ _ (by decide) (by decide)))
 have T6:=zh (fun w' h'=>ZZ w0 w' bp c ad L (ex (Zd L [61] (Za L s).2)).2 h' [59] (ZF _ _ (by decide) (by decide)))
 have G0:=zh hG
 clear hG hE hex hd hL
 go_enter Tryd.func56,Tryd.ntmps56
 go_upto_region 1 with (go_at_call 32;(refine (T1.out _ G0.out.P).mono ?_);rintro e2 w1 ⟨hF,hok,hbd⟩;by_cases z:(Za L s).2.err=0;(case neg=>(obtain rfl:=hbd z;exact zi rfl (ZS.bad (G0.out.F.trans hF) S1.out z)));obtain ⟨_,rfl,hP,rfl⟩:=hok z;have G1:=zh (G0.out.call hP hF);obtain ⟨⟨u3,_,q3⟩,_,q4⟩:=G1.out.putA 1 (by decide);clear hP hF hok hbd)
 clear z q3 q4
 have G2:=zh (G1.out.words1 (Za L s).1)
 generalize World.setCell (World.alloc w1 _) _ _=w2 at *
 go_upto_region 2 with (go_at_call 33;(refine (T3.out _ G2.out.P).mono ?_);rintro e2 w3 ⟨hF,hok,hbd⟩;by_cases z:(Zd L [61] (Za L s).2).err=0;(case neg=>(obtain rfl:=hbd z;exact zi rfl (ZS.bad (G2.out.F.trans hF) S2.out z)));obtain ⟨_,rfl,hP,rfl⟩:=hok z;have G3:=zh (G2.out.call hP hF);clear hP hF hok hbd)
 have z3:=zh z
 clear z
 go_upto_region 3 with (first | (go_at_call 62;(refine (HE.out _ (Zd L [61] (Za L s).2) G3.out.P ((Za1 _ _).trans ((Zaj _).trans HD.out))).mono ?_);rintro e2 w4 ⟨hF,hok,hbd⟩;by_cases z:(ex (Zd L [61] (Za L s).2)).2.err=0;(case neg=>(obtain rfl:=hbd z;exact zi rfl (ZS.bad (G3.out.F.trans hF) (Zq _ _) z)));obtain ⟨gk,rfl,hP,hD4,hat,hT⟩:=hok z;have K4:=zh ((WayK.of G3.out).got hP hF hT);have D4:=zh hD4;clear hP hF hok hbd hT hat hD4) | (go_at_call 23;(refine (K4.out.add (by simp) (m:=1) rfl (by decide)).mono ?_);rintro e2 w5 ⟨rfl,hW⟩;have G4:=zh hW;clear hW))
 (try clear z)
 go_wp2_with (go_at_call 33;(refine (T6.out _ G4.out.P).mono ?_);rintro e2 w6 ⟨hF,hok,hbd⟩;by_cases z:(Zd L [59] (ex (Zd L [61] (Za L s).2)).2).err=0;(case neg=>(obtain rfl:=hbd z;exact zi rfl (ZS.bad (G4.out.F.trans hF) (Stk.refl _) z)));obtain ⟨_,rfl,hP,rfl⟩:=hok z;have G5:=zh (G4.out.call hP hF);clear hP hF hok hbd)
 have z6:=zh z
 clear z
 go_wp2_with fail
 first | go_end0 | skip
 exact ZS.fin rfl G5.out
theorem ZkG {wS:World} {at_ k0:Int} {b:Nat} {xs:List (Nat×TypeId×Array Value)} (hL:LaidP w0) (w:World) (s:PS) (d:Int) (hd:s.deep=d) (hG:Way w0 wS w bp c ad L s k0 [] [] at_ [] b xs) (st:PS->Tr×PS) (hst:ZJ st) (hE:Zw w0 bp c ad L 40 #[pV bp] (Dd (d)) (Zm L st)) :
  Calls Tryd.prog 57 #[pV bp,brV b] w (ZS w0 wS bp c ad L b xs (Zc4 L st at_ s)):=by
 have HK:=zh hL.keys
 have HE:=zh hE
 have HD:=zh hd
 have S4:=zh (show Stk (Zd L [101,108,115,101] (Zm L st (Za L (Za L s).2).2).2) (Zc4 L st at_ s).2 from Zal hst _)
 have S3:=zh (show Stk (Zm L st (Za L (Za L s).2).2).2 (Zc4 L st at_ s).2 from (Zq _ _).trans S4.out)
 have S2:=zh (show Stk (Za L (Za L s).2).2 (Zc4 L st at_ s).2 from (Zal hst _).trans S3.out)
 have S1:=zh (show Stk (Za L s).2 (Zc4 L st at_ s).2 from (ZB _).trans S2.out)
 have T5:=zh (fun w' h'=>ZZ w0 w' bp c ad L (Zm L st (Za L (Za L s).2).2).2 h' [101,108,115,101] (Zv [101,108,115,101] (by decide)))
 have G0:=zh hG
 clear hG hE hst hd hL
 go_enter Tryd.func57,Tryd.ntmps57
 obtain ⟨⟨u3,q3,_⟩,q4,_⟩:=G0.out.putA 0 (by decide)
 go_upto_region 1 with fail
 clear q3 q4
 have G1:=zh (G0.out.kind 10)
 generalize World.setCell _ ⟨b,0,none⟩ (.int .i64 10)=w1 at *
 refine ZmO Zab 8 0 1 G1.out (fun w1 h1=>ZR w0 w1 bp c ad L s h1 HK.out) (fun w1 h1=>ZR w0 w1 bp c ad L (Za L s).2 h1 HK.out) ?bad0 ?bad1 (fun x wr hW=>?_)
 case bad0=>
  intro z a' w' hd hF
  exact ⟨hd,ZS.bad hF S1.out z⟩
 case bad1=>
  intro z a' w' hd hF
  exact ⟨hd,ZS.bad hF S2.out z⟩
 generalize wr=w2 at *
 have G2:=zh (hW)
 clear hW
 simp only [ZE,cl,Act.put,Za7]
 go_upto_region 3 with (first | (go_at_call 40;(refine (HE.out _ (Za L (Za L s).2).2 G2.out.P ((Zaj _).trans ((Zaj _).trans HD.out))).mono ?_);rintro e2 w3 ⟨hF,hok,hbd⟩;by_cases z:(Zm L st (Za L (Za L s).2).2).2.err=0;(case neg=>(obtain rfl:=hbd z;exact zi rfl (ZS.bad (G2.out.F.trans hF) S3.out z)));obtain ⟨gk,rfl,hP,hD3,hat,hT⟩:=hok z;have K3:=zh ((WayK.of G2.out).got hP hF hT);have D3:=zh hD3;clear hP hF hok hbd hT hat hD3) | (go_at_call 23;(refine (K3.out.add (by simp) (m:=1) rfl (by decide)).mono ?_);rintro e2 w4 ⟨rfl,hW⟩;have G3:=zh hW;clear hW))
 (try clear z)
 go_upto_region 4 with (go_at_call 33;(refine (T5.out _ G3.out.P).mono ?_);rintro e2 w5 ⟨hF,hok,hbd⟩;by_cases z:(Zd L [101,108,115,101] (Zm L st (Za L (Za L s).2).2).2).err=0;(case neg=>(obtain rfl:=hbd z;exact zi rfl (ZS.bad (G3.out.F.trans hF) S4.out z)));obtain ⟨_,rfl,hP,rfl⟩:=hok z;have G4:=zh (G3.out.call hP hF);clear hP hF hok hbd)
 have z5:=zh z
 clear z
 go_wp2_with (first | (go_at_call 40;(refine (HE.out _ (Zd L [101,108,115,101] (Zm L st (Za L (Za L s).2).2).2) G4.out.P ((Za1 _ _).trans D3.out)).mono ?_);rintro e2 w6 ⟨hF,hok,hbd⟩;by_cases z:(Zm L st (Zd L [101,108,115,101] (Zm L st (Za L (Za L s).2).2).2)).2.err=0;(case neg=>(obtain rfl:=hbd z;exact zi rfl (ZS.bad (G4.out.F.trans hF) (Stk.refl _) z)));obtain ⟨gk,rfl,hP,hD6,hat,hT⟩:=hok z;have K6:=zh ((WayK.of G4.out).got hP hF hT);have D6:=zh hD6;clear hP hF hok hbd hT hat hD6) | (go_at_call 23;(refine (K6.out.add (by simp) (m:=1) rfl (by decide)).mono ?_);rintro e2 w7 ⟨rfl,hW⟩;have G5:=zh hW;clear hW))
 (try clear z)
 go_wp2_with fail
 first | go_end0 | skip
 exact ZS.fin rfl G5.out
end
end
end Go.Proofs.YtfdgeijnkkdplaaDoor
