import Derived.Test.YtfdgeijnkkdplaaDoorQAW
import Derived.Test.YtfdgeijnkkdplaaDoorQBH
import Derived.Test.YtfdgeijnkkdplaaDoorQBI
import Derived.Test.YtfdgeijnkkdplaaDoorQBK
import Derived.Test.YtfdgeijnkkdplaaDoorQBL
import Derived.Test.YtfdgeijnkkdplaaDoorQBN
set_option maxRecDepth 100000
set_option maxHeartbeats 8000000
namespace Go.Proofs.YtfdgeijnkkdplaaDoor
section
open Go Go.RowKit
section
variable {w0:World} {bp c:Nat} {ad:Addr} {L:List Tok}
theorem ZhU:ZN 64:=fun _ _=>by kernel_rfl
theorem Zll {wS:World} {at_ k0:Int} {b:Nat} {xs:List (Nat×TypeId×Array Value)} (hL:LaidP w0) (w:World) (s:PS) (d:Int) (hd:s.deep=d) (hG:Way w0 wS w bp c ad L s k0 [] [] at_ [] b xs) (st:PS->Tr×PS) (h1:isM L [59] (Za L (Zd L [46] (Za L s).2)).2=true) :
  Calls Tryd.prog 58 #[pV bp,brV b] w (ZS w0 wS bp c ad L b xs (doM L st at_ s)):=by
 have hmf:∀ (fn:Fn) (first cap:Array Value) (w:World),(Instr.makeFunc fn first cap).run Tryd.prog w=.ok (.func fn first cap) w:=fun _ _ _ _=>rfl
 have HK:=zh hL.keys
 have hR:=zh (show doM L st at_ s=(.mk 11 [(Za L s).1,(Za L (Zd L [46] (Za L s).2)).1] [] at_ [],Zb (Za L (Zd L [46] (Za L s).2)).2) by unfold doM;dsimp only;rw [if_pos h1])
 have HD:=zh hd
 have S3:=zh (show Stk (Za L (Zd L [46] (Za L s).2)).2 (doM L st at_ s).2 by rw [hR.out];exact ZH _)
 have S2:=zh (show Stk (Zd L [46] (Za L s).2) (doM L st at_ s).2 from (ZB _).trans S3.out)
 have S1:=zh (show Stk (Za L s).2 (doM L st at_ s).2 from (Zq _ _).trans S2.out)
 have T4:=zh (fun w' h'=>ZZ w0 w' bp c ad L (Za L s).2 h' [46] (ZF _ _ (by decide) (by decide)))
 have T6:=zh (fun w' h'=>Zg w0 w' bp c ad L (Za L (Zd L [46] (Za L s).2)).2 h' [59] (ZF _ _ (by decide) (by decide)))
 rw [Zah h1] at T6
 have G0:=zh hG
 clear hG hd hL h1
 go_enter Tryd.func58,Tryd.ntmps58
 go_upto_region 1 with fail
 have G1:=zh ((G0.out.boxed #[pV bp] 63).boxed #[brV b] 39)
 have hz:(w.alloc (.cells #[pV bp] 63)).heap.size=w.heap.size+1:=World.size_alloc _ _
 rw [hz] at G1
 clear hz
 generalize World.alloc (World.alloc w _) _=w1 at *
 have q1:=G1.out.cell (.head _)
 have q2:=G1.out.cell (.tail _ (.head _))
 obtain ⟨⟨u3,q3,_⟩,q4,_⟩:=G1.out.putA 0 (by decide)
 go_upto_region 2 with fail
 clear q3 q4
 have G2:=zh (G1.out.kind 11)
 generalize World.setCell _ ⟨b,0,none⟩ (.int .i64 11)=w2 at *
 have q1:=G2.out.cell (.head _)
 have q2:=G2.out.cell (.tail _ (.head _))
 clear q1 q2
 refine Zck Zab 8 2 3 G2.out (.head _) (.tail _ (.head _)) (fun w1 h1=>ZR w0 w1 bp c ad L s h1 HK.out) ?bad (fun x wr hW=>?_)
 case bad=>
  intro z a' w' hd hF
  exact ⟨hd,ZS.bad hF S1.out z⟩
 generalize wr=w3 at *
 have G3:=zh (hW)
 clear hW
 simp only [ZE,cl,Act.put,ZaQ]
 have q1:=G3.out.cell (.head _)
 have q2:=G3.out.cell (.tail _ (.head _))
 go_upto_region 4 with (go_at_call 33;(refine (T4.out _ G3.out.P).mono ?_);rintro e2 w4 ⟨hF,hok,hbd⟩;by_cases z:(Zd L [46] (Za L s).2).err=0;(case neg=>(obtain rfl:=hbd z;exact zi rfl (ZS.bad (G3.out.F.trans hF) S2.out z)));obtain ⟨_,rfl,hP,rfl⟩:=hok z;have G4:=zh (G3.out.call hP hF);clear hP hF hok hbd)
 have z4:=zh z
 clear z
 have q1:=G4.out.cell (.head _)
 have q2:=G4.out.cell (.tail _ (.head _))
 clear q1 q2
 refine Zg7 Zab 21 2 3 G4.out (by simp) (.head _) (.tail _ (.head _)) (fun w1 h1=>ZR w0 w1 bp c ad L (Zd L [46] (Za L s).2) h1 HK.out) ?bad (fun x wr hW=>?_)
 case bad=>
  intro z a' w' hd hF
  exact ⟨hd,ZS.bad hF S3.out z⟩
 generalize wr=w5 at *
 have G5:=zh (hW)
 clear hW
 simp only [ZE,cl,Act.put,ZaR]
 have q1:=G5.out.cell (.head _)
 have q2:=G5.out.cell (.tail _ (.head _))
 go_wp2_with (go_at_call 21;(refine (T6.out _ G5.out.P).mono ?_);rintro e2 w6 ⟨rfl,hP,hF⟩;have G6:=zh (G5.out.call hP hF);clear hP hF)
 (first
  | go_end0
  | refine bodyPost_ret (results_none rfl _ _ _) rfl ?_)
 exact ZS.fin hR.out G6.out.drop.drop
theorem ZkA {wS:World} {at_ k0:Int} {b:Nat} {xs:List (Nat×TypeId×Array Value)} (hL:LaidP w0) (w:World) (s:PS) (d:Int) (hd:s.deep=d) (hG:Way w0 wS w bp c ad L s k0 [] [] at_ [] b xs) (st:PS->Tr×PS) (hst:ZJ st) (hE:Zw w0 bp c ad L 65 #[pV bp] (Dd (d)) (Zax L st)) (h1:isM L [59] (Za L (Zd L [46] (Za L s).2)).2=false) :
  Calls Tryd.prog 58 #[pV bp,brV b] w (ZS w0 wS bp c ad L b xs (doM L st at_ s)):=by
 have hmf:∀ (fn:Fn) (first cap:Array Value) (w:World),(Instr.makeFunc fn first cap).run Tryd.prog w=.ok (.func fn first cap) w:=fun _ _ _ _=>rfl
 have HK:=zh hL.keys
 have hR:=zh (show doM L st at_ s=(.mk 11 [(Za L s).1,(Za L (Zd L [46] (Za L s).2)).1] [] at_ (ZC L (Zax L st) [125] (L.length+1) [] (Zd L [123] (Za L (Zd L [46] (Za L s).2)).2)).1,(ZC L (Zax L st) [125] (L.length+1) [] (Zd L [123] (Za L (Zd L [46] (Za L s).2)).2)).2) by unfold doM;dsimp only;rw [if_neg (by simp [h1])])
 have HD:=zh hd
 have S4:=zh (show Stk (Zd L [123] (Za L (Zd L [46] (Za L s).2)).2) (doM L st at_ s).2 by rw [hR.out];exact Zb1 (Zgp hst) _ _ _ _)
 have S3:=zh (show Stk (Za L (Zd L [46] (Za L s).2)).2 (doM L st at_ s).2 from (Zq _ _).trans S4.out)
 have HE:=zh hE
 have S2:=zh (show Stk (Zd L [46] (Za L s).2) (doM L st at_ s).2 from (ZB _).trans S3.out)
 have S1:=zh (show Stk (Za L s).2 (doM L st at_ s).2 from (Zq _ _).trans S2.out)
 have T4:=zh (fun w' h'=>ZZ w0 w' bp c ad L (Za L s).2 h' [46] (ZF _ _ (by decide) (by decide)))
 have T6:=zh (fun w' h'=>Zg w0 w' bp c ad L (Za L (Zd L [46] (Za L s).2)).2 h' [59] (ZF _ _ (by decide) (by decide)))
 rw [Zu h1] at T6
 have T7:=zh (fun w' h'=>ZZ w0 w' bp c ad L (Za L (Zd L [46] (Za L s).2)).2 h' [123] (ZF _ _ (by decide) (by decide)))
 have G0:=zh hG
 clear hG hd hL h1 hst hE
 go_enter Tryd.func58,Tryd.ntmps58
 go_upto_region 1 with fail
 have G1:=zh ((G0.out.boxed #[pV bp] 63).boxed #[brV b] 39)
 have hz:(w.alloc (.cells #[pV bp] 63)).heap.size=w.heap.size+1:=World.size_alloc _ _
 rw [hz] at G1
 clear hz
 generalize World.alloc (World.alloc w _) _=w1 at *
 have q1:=G1.out.cell (.head _)
 have q2:=G1.out.cell (.tail _ (.head _))
 obtain ⟨⟨u3,q3,_⟩,q4,_⟩:=G1.out.putA 0 (by decide)
 go_upto_region 2 with fail
 clear q3 q4
 have G2:=zh (G1.out.kind 11)
 generalize World.setCell _ ⟨b,0,none⟩ (.int .i64 11)=w2 at *
 have q1:=G2.out.cell (.head _)
 have q2:=G2.out.cell (.tail _ (.head _))
 clear q1 q2
 refine Zck Zab 8 2 3 G2.out (.head _) (.tail _ (.head _)) (fun w1 h1=>ZR w0 w1 bp c ad L s h1 HK.out) ?bad (fun x wr hW=>?_)
 case bad=>
  intro z a' w' hd hF
  exact ⟨hd,ZS.bad hF S1.out z⟩
 generalize wr=w3 at *
 have G3:=zh (hW)
 clear hW
 simp only [ZE,cl,Act.put,ZaQ]
 have q1:=G3.out.cell (.head _)
 have q2:=G3.out.cell (.tail _ (.head _))
 go_upto_region 4 with (go_at_call 33;(refine (T4.out _ G3.out.P).mono ?_);rintro e2 w4 ⟨hF,hok,hbd⟩;by_cases z:(Zd L [46] (Za L s).2).err=0;(case neg=>(obtain rfl:=hbd z;exact zi rfl (ZS.bad (G3.out.F.trans hF) S2.out z)));obtain ⟨_,rfl,hP,rfl⟩:=hok z;have G4:=zh (G3.out.call hP hF);clear hP hF hok hbd)
 have z4:=zh z
 clear z
 have q1:=G4.out.cell (.head _)
 have q2:=G4.out.cell (.tail _ (.head _))
 clear q1 q2
 refine Zg7 Zab 21 2 3 G4.out (by simp) (.head _) (.tail _ (.head _)) (fun w1 h1=>ZR w0 w1 bp c ad L (Zd L [46] (Za L s).2) h1 HK.out) ?bad (fun x wr hW=>?_)
 case bad=>
  intro z a' w' hd hF
  exact ⟨hd,ZS.bad hF S3.out z⟩
 generalize wr=w5 at *
 have G5:=zh (hW)
 clear hW
 simp only [ZE,cl,Act.put,ZaR]
 have q1:=G5.out.cell (.head _)
 have q2:=G5.out.cell (.tail _ (.head _))
 go_upto_region 6 with (go_at_call 21;(refine (T6.out _ G5.out.P).mono ?_);rintro e2 w6 ⟨rfl,hP,hF⟩;have G6:=zh (G5.out.call hP hF);clear hP hF)
 have q1:=G6.out.cell (.head _)
 have q2:=G6.out.cell (.tail _ (.head _))
 go_upto_region 7 with (go_at_call 33;(refine (T7.out _ G6.out.P).mono ?_);rintro e2 w7 ⟨hF,hok,hbd⟩;by_cases z:(Zd L [123] (Za L (Zd L [46] (Za L s).2)).2).err=0;(case neg=>(obtain rfl:=hbd z;exact zi rfl (ZS.bad (G6.out.F.trans hF) S4.out z)));obtain ⟨_,rfl,hP,rfl⟩:=hok z;have G7:=zh (G6.out.call hP hF);clear hP hF hok hbd)
 have z7:=zh z
 clear z
 have q1:=G7.out.cell (.head _)
 have q2:=G7.out.cell (.tail _ (.head _))
 have UN:=zh (Zdw 64 #[pV (w.heap.size+1),pV w.heap.size] ZhU w0 _ bp c ad L (Zd L [123] (Za L (Zd L [46] (Za L s).2)).2) (ZbU wS bp) (Dd d) (fun w' l=>WayR wS w' bp 11 [(Za L s).1,(Za L (Zd L [46] (Za L s).2)).1] [] at_ l b ((w.heap.size+1,39,#[brV b])::(w.heap.size,63,#[pV bp])::xs)) (Zax L st) [125] (ZF _ _ (by decide) (by decide)) [] (Or.inl rfl) (fun _ _ _ hF hR=>hR.call hF) (Zkf w0 wS bp c ad L 11 _ [] at_ b _ w.heap.size (w.heap.size+1) (Dd d) (Zax L st) (.head _) (.tail _ (.head _)) HE.out G7.out.P.few.1) G7.out.P ((Za1 _ _).trans ((Zaj _).trans ((Za1 _ _).trans ((Zaj _).trans HD.out)))) (Nat.zero_le _) G7.out.rest)
 have FB:=zh G7.out.F
 go_wp2_with (go_at_call 34;(refine UN.out.mono ?_);rintro e3 w9 ⟨hZ,hok,hbd⟩;by_cases z:(ZC L (Zax L st) [125] (L.length+1) [] (Zd L [123] (Za L (Zd L [46] (Za L s).2)).2)).2.err=0;(case neg=>(obtain rfl:=hbd z;exact zi rfl (ZS.bad (FB.out.frz hZ) (by rw [hR.out];exact Stk.refl _) z)));obtain ⟨rfl,hP,hRel⟩:=hok z;have G9:=zh (hRel.way hP);clear hZ hok hbd hP hRel)
 go_end0
 exact ZS.fin hR.out G9.out.drop.drop
end
end
section
open Go Go.RowKit
section
variable {w0:World} {bp c:Nat} {ad:Addr} {L:List Tok}
theorem Zhm {wS:World} {at_ k0:Int} {b:Nat} {xs:List (Nat×TypeId×Array Value)} (_hL:LaidP w0) (w:World) (s:PS) (d:Int) (hd:s.deep=d) (hG:Way w0 wS w bp c ad L s k0 [] [] at_ [] b xs) (ex st:PS->Tr×PS) (_hex:ZJ ex) (hst:ZJ st) (hX:Zw w0 bp c ad L 62 #[pV bp] (Dd (d)) (ex)) (hE:Zw w0 bp c ad L 40 #[pV bp] (Dd (d)) (Zm L st)) (h1:isM L [101,108,115,101] (Zm L st (ex s).2).2=true) :
  Calls Tryd.prog 61 #[pV bp,brV b] w (ZS w0 wS bp c ad L b xs (ifM L ex st at_ s)):=by
 have HE:=zh hE
 have HX:=zh hX
 have HD:=zh hd
 have hR:=zh (show ifM L ex st at_ s=(.mk 16 [] [] at_ [(ex s).1,(Zm L st (ex s).2).1,(Zm L st (Zb (Zm L st (ex s).2).2)).1],(Zm L st (Zb (Zm L st (ex s).2).2)).2) by unfold ifM;dsimp only;rw [if_pos h1])
 have S2:=zh (show Stk (Zm L st (ex s).2).2 (ifM L ex st at_ s).2 by rw [hR.out];exact (ZH _).trans (Zal hst _))
 have S1:=zh (show Stk (ex s).2 (ifM L ex st at_ s).2 from (Zal hst _).trans S2.out)
 have T5:=zh (fun w' h'=>Zg w0 w' bp c ad L (Zm L st (ex s).2).2 h' [101,108,115,101] (Zv [101,108,115,101] (by decide)))
 rw [Zah h1] at T5
 have G0:=zh hG
 clear hG hE hX _hex hst hd _hL h1
 go_enter Tryd.func61,Tryd.ntmps61
 obtain ⟨⟨u3,q3,_⟩,q4,_⟩:=G0.out.putA 0 (by decide)
 go_upto_region 1 with fail
 clear q3 q4
 have G1:=zh (G0.out.kind 16)
 generalize World.setCell _ ⟨b,0,none⟩ (.int .i64 16)=w1 at *
 go_upto_region 2 with (first | (go_at_call 62;(refine (HX.out _ s G1.out.P HD.out).mono ?_);rintro e2 w2 ⟨hF,hok,hbd⟩;by_cases z:(ex s).2.err=0;(case neg=>(obtain rfl:=hbd z;exact zi rfl (ZS.bad (G1.out.F.trans hF) S1.out z)));obtain ⟨gk,rfl,hP,hD2,hat,hT⟩:=hok z;have K2:=zh ((WayK.of G1.out).got hP hF hT);have D2:=zh hD2;clear hP hF hok hbd hT hat hD2) | (go_at_call 40;(refine (HE.out _ (ex s).2 K2.out.P D2.out).mono ?_);rintro e2 w3 ⟨hF,hok,hbd⟩;by_cases z:(Zm L st (ex s).2).2.err=0;(case neg=>(obtain rfl:=hbd z;exact zi rfl (ZS.bad (K2.out.F.trans hF) S2.out z)));obtain ⟨gk,rfl,hP,hD3,hat,hT⟩:=hok z;have K3:=zh (K2.out.got hP hF hT);have D3:=zh hD3;clear hP hF hok hbd hT hat hD3) | (go_at_call 23;(refine (K3.out.add (by simp) (m:=2) rfl (by decide)).mono ?_);rintro e2 w4 ⟨rfl,hW⟩;have G2:=zh hW;clear hW))
 (try clear z)
 go_upto_region 3 with (go_at_call 21;(refine (T5.out _ G2.out.P).mono ?_);rintro e2 w5 ⟨rfl,hP,hF⟩;have G3:=zh (G2.out.call hP hF);clear hP hF)
 go_wp2_with (first | (go_at_call 40;(refine (HE.out _ (Zb (Zm L st (ex s).2).2) G3.out.P D3.out).mono ?_);rintro e2 w6 ⟨hF,hok,hbd⟩;by_cases z:(Zm L st (Zb (Zm L st (ex s).2).2)).2.err=0;(case neg=>(obtain rfl:=hbd z;exact zi rfl (ZS.bad (G3.out.F.trans hF) (Zbe hR.out) z)));obtain ⟨gk,rfl,hP,hD6,hat,hT⟩:=hok z;have K6:=zh ((WayK.of G3.out).got hP hF hT);have D6:=zh hD6;clear hP hF hok hbd hT hat hD6) | (go_at_call 23;(refine (K6.out.add (by simp) (m:=1) rfl (by decide)).mono ?_);rintro e2 w7 ⟨rfl,hW⟩;have G4:=zh hW;clear hW))
 (try clear z)
 go_wp2_with fail
 first | go_end0 | skip
 exact ZS.fin hR.out G4.out
theorem ZiC {wS:World} {at_ k0:Int} {b:Nat} {xs:List (Nat×TypeId×Array Value)} (_hL:LaidP w0) (w:World) (s:PS) (d:Int) (hd:s.deep=d) (hG:Way w0 wS w bp c ad L s k0 [] [] at_ [] b xs) (ex st:PS->Tr×PS) (_hex:ZJ ex) (hst:ZJ st) (hX:Zw w0 bp c ad L 62 #[pV bp] (Dd (d)) (ex)) (hE:Zw w0 bp c ad L 40 #[pV bp] (Dd (d)) (Zm L st)) (h1:isM L [101,108,115,101] (Zm L st (ex s).2).2=false) :
  Calls Tryd.prog 61 #[pV bp,brV b] w (ZS w0 wS bp c ad L b xs (ifM L ex st at_ s)):=by
 have HE:=zh hE
 have HX:=zh hX
 have HD:=zh hd
 have hR:=zh (show ifM L ex st at_ s=(.mk 16 [] [] at_ [(ex s).1,(Zm L st (ex s).2).1],(Zm L st (ex s).2).2) by unfold ifM;dsimp only;rw [if_neg (by simp [h1])])
 have S2:=zh (show Stk (Zm L st (ex s).2).2 (ifM L ex st at_ s).2 by rw [hR.out];exact Stk.refl _)
 have S1:=zh (show Stk (ex s).2 (ifM L ex st at_ s).2 from (Zal hst _).trans S2.out)
 have T6:=zh (fun w' h'=>Zg w0 w' bp c ad L (Zm L st (ex s).2).2 h' [101,108,115,101] (Zv [101,108,115,101] (by decide)))
 rw [Zu h1] at T6
 have G0:=zh hG
 clear hG hE hX _hex hst hd _hL h1
 go_enter Tryd.func61,Tryd.ntmps61
 obtain ⟨⟨u3,q3,_⟩,q4,_⟩:=G0.out.putA 0 (by decide)
 go_upto_region 1 with fail
 clear q3 q4
 have G1:=zh (G0.out.kind 16)
 generalize World.setCell _ ⟨b,0,none⟩ (.int .i64 16)=w1 at *
 go_upto_region 2 with (first | (go_at_call 62;(refine (HX.out _ s G1.out.P HD.out).mono ?_);rintro e2 w2 ⟨hF,hok,hbd⟩;by_cases z:(ex s).2.err=0;(case neg=>(obtain rfl:=hbd z;exact zi rfl (ZS.bad (G1.out.F.trans hF) S1.out z)));obtain ⟨gk,rfl,hP,hD2,hat,hT⟩:=hok z;have K2:=zh ((WayK.of G1.out).got hP hF hT);have D2:=zh hD2;clear hP hF hok hbd hT hat hD2) | (go_at_call 40;(refine (HE.out _ (ex s).2 K2.out.P D2.out).mono ?_);rintro e2 w3 ⟨hF,hok,hbd⟩;by_cases z:(Zm L st (ex s).2).2.err=0;(case neg=>(obtain rfl:=hbd z;exact zi rfl (ZS.bad (K2.out.F.trans hF) S2.out z)));obtain ⟨gk,rfl,hP,hD3,hat,hT⟩:=hok z;have K3:=zh (K2.out.got hP hF hT);have D3:=zh hD3;clear hP hF hok hbd hT hat hD3) | (go_at_call 23;(refine (K3.out.add (by simp) (m:=2) rfl (by decide)).mono ?_);rintro e2 w4 ⟨rfl,hW⟩;have G2:=zh hW;clear hW))
 (try clear z)
 go_wp2_with (go_at_call 21;(refine (T6.out _ G2.out.P).mono ?_);rintro e2 w6 ⟨rfl,hP,hF⟩;have G3:=zh (G2.out.call hP hF);clear hP hF)
 go_wp2_with fail
 first | go_end0 | skip
 exact ZS.fin hR.out G3.out
end
end
section
open Go Go.RowKit
section
variable {w0:World} {bp c:Nat} {ad:Addr} {L:List Tok}
theorem Ze6:∀ (f:Nat) (l:List Txt) (s:PS),(Zbm L f l s).2.deep=s.deep
 | 0,_,_=>rfl
 | f+1,l,s=>by
  unfold Zbm
  split
  ·exact (Ze6 f _ _).trans (Zaj _)
  ·rfl
theorem ZhQ (x:Txt) (i:Int) (s:PS):(Zn L x i s).2.deep=s.deep:=by
 unfold Zn
 split
 ·exact (Ze6 _ _ _).trans (Zaj _)
 ·rfl
section
variable {wS:World} {at_ k0:Int} {b:Nat} {xs:List (Nat×TypeId×Array Value)}
theorem Zl5 (hL:LaidP w0) (w:World) (s:PS) (d:Int) (hd:s.deep=d) (hG:Way w0 wS w bp c ad L s k0 [] [] at_ [] b xs) (st:PS->Tr×PS) (hst:ZJ st) (hE:Zw w0 bp c ad L 65 #[pV bp] (Dd (d)) (Zax L st)):Calls Tryd.prog 58 #[pV bp,brV b] w (ZS w0 wS bp c ad L b xs (doM L st at_ s)):=by
 cases h1:isM L [59] (Za L (Zd L [46] (Za L s).2)).2 with
 | true=>exact Zll hL w s d hd hG st h1
 | false=>exact ZkA hL w s d hd hG st hst hE h1
theorem Zkz (hL:LaidP w0) (w:World) (s:PS) (d:Int) (hd:s.deep=d) (hG:Way w0 wS w bp c ad L s k0 [] [] at_ [] b xs) (ex:PS->Tr×PS) (hex:ZJ ex) (hE:Zw w0 bp c ad L 67 #[pV bp] (Dd (d)) (ZV L ex)) (hgo:∀ s,s.deep=d->s.at_<L.length->s.err=0->Gon L s (ZV L ex s).2):Calls Tryd.prog 60 #[pV bp,brV b] w (ZS w0 wS bp c ad L b xs (Za4 L ex at_ s)):=by
 cases h1:isM L [61] (Za L s).2 with
 | true=>exact Zlj hL w s d hd hG ex hex hE hgo h1
 | false=>exact Zlk hL w s d hd hG ex hex hE hgo h1
theorem Zhl (hL:LaidP w0) (w:World) (s:PS) (d:Int) (hd:s.deep=d) (hG:Way w0 wS w bp c ad L s k0 [] [] at_ [] b xs) (ex st:PS->Tr×PS) (hex:ZJ ex) (hst:ZJ st) (hX:Zw w0 bp c ad L 62 #[pV bp] (Dd (d)) (ex)) (hE:Zw w0 bp c ad L 40 #[pV bp] (Dd (d)) (Zm L st)):Calls Tryd.prog 61 #[pV bp,brV b] w (ZS w0 wS bp c ad L b xs (ifM L ex st at_ s)):=by
 cases h1:isM L [101,108,115,101] (Zm L st (ex s).2).2 with
 | true=>exact Zhm hL w s d hd hG ex st hex hst hX hE h1
 | false=>exact ZiC hL w s d hd hG ex st hex hst hX hE h1
end
theorem ZhL.parts {wS w:World} {s:PS} {b:Nat} {xs:List (Nat×TypeId×Array Value)}:∀ {t:Tr},ZhL w0 wS w bp c ad L s t b xs->ParQ w0 w bp ad c L s/\FrP wS w bp/\BrP w (ZbC wS w) t b
 | .mk _ _ _ _ _,h=>⟨Way.P h,Way.F h,Way.done h⟩
theorem Zbh.refl {α:Type} (a:α×PS):Zbh a a:=⟨rfl,rfl,fun _=>rfl⟩
theorem Zbh.of {α:Type} {a b:α×PS} (h:b=a):Zbh a b:=by rw [h];exact Zbh.refl _
theorem Zl.badq {w w':World} {s:PS} {D:PS->Prop} {R R':Tr×PS} (hF:FrP w w' bp) (hQ:Zbh R' R) (hz:R'.2.err≠0):Zl w0 w bp c ad L D s R (ZaY R'.2.err R'.2.fat) w':=by
 obtain ⟨a,b,_⟩:=hQ
 exact ⟨hF,fun e=>absurd (a.trans e) hz,fun _=>by rw [a,b]⟩
theorem Zl.finq {w w':World} {s:PS} {d:Int} {R R':Tr×PS} {b:Nat} {xs:List (Nat×TypeId×Array Value)} (hgo:Gon L s R.2) (hd:s.deep=d) (hQ:Zbh R' R) (hW:ZhL w0 w w' bp c ad L R'.2 R'.1 b xs):Zl w0 w bp c ad L (Dd d) s R (.returned (brV b)) w':=by
 obtain ⟨hP,hF,hT⟩:=hW.parts
 exact Zl.fin hgo hd (hQ.2.2 hP.err).symm hF hP hT
end
end
end Go.Proofs.YtfdgeijnkkdplaaDoor
