import Derived.Test.YtfdgeijnkkdplaaDoorQAW
import Derived.Test.YtfdgeijnkkdplaaDoorQBK
set_option maxRecDepth 100000
set_option maxHeartbeats 8000000
namespace Go.Proofs.YtfdgeijnkkdplaaDoor
section
open Go Go.RowKit
section
variable {w0:World} {bp c:Nat} {ad:Addr} {L:List Tok}
theorem ZdC:ZN 66:=fun _ _=>by kernel_rfl
theorem Zhe:ZN 38:=fun _ _=>by kernel_rfl
theorem ZeU:ZN 35:=fun _ _=>by kernel_rfl
theorem Zlj {wS:World} {at_ k0:Int} {b:Nat} {xs:List (Nat×TypeId×Array Value)} (hL:LaidP w0) (w:World) (s:PS) (d:Int) (hd:s.deep=d) (hG:Way w0 wS w bp c ad L s k0 [] [] at_ [] b xs) (ex:PS->Tr×PS) (hex:ZJ ex) (hE:Zw w0 bp c ad L 67 #[pV bp] (Dd (d)) (ZV L ex)) (hgo:∀ s,s.deep=d->s.at_<L.length->s.err=0->Gon L s (ZV L ex s).2) (h1:isM L [61] (Za L s).2=true) :
  Calls Tryd.prog 60 #[pV bp,brV b] w (ZS w0 wS bp c ad L b xs (Za4 L ex at_ s)):=by
 have hmf:∀ (fn:Fn) (first cap:Array Value) (w:World),(Instr.makeFunc fn first cap).run Tryd.prog w=.ok (.func fn first cap) w:=fun _ _ _ _=>rfl
 have HK:=zh hL.keys
 have HD:=zh hd
 have hR:=zh (show Za4 L ex at_ s=(.mk 14 [(Za L (Zb (Za L s).2)).1,(Za L s).1] [] at_ (Zr L (ZV L ex) (L.length+1) true [] (Zd L [40] (Za L (Zb (Za L s).2)).2)).1,Zd L [59] (Zr L (ZV L ex) (L.length+1) true [] (Zd L [40] (Za L (Zb (Za L s).2)).2)).2) by unfold Za4;dsimp only;rw [if_pos h1])
 have S3:=zh (show Stk (Zr L (ZV L ex) (L.length+1) true [] (Zd L [40] (Za L (Zb (Za L s).2)).2)).2 (Za4 L ex at_ s).2 by rw [hR.out];exact Zq _ _)
 have S2:=zh (show Stk (Za L (Zb (Za L s).2)).2 (Za4 L ex at_ s).2 from ((Zq _ _).trans (ZaZ (ZcK hex) _ _ _ _)).trans S3.out)
 have S1:=zh (show Stk (Za L s).2 (Za4 L ex at_ s).2 from ((ZH _).trans (ZB _)).trans S2.out)
 have HE:=zh hE
 have HSt:=zh (ZcK (L:=L) hex)
 have HGo:=zh hgo
 have T4:=zh (fun w' h'=>Zg w0 w' bp c ad L (Za L s).2 h' [61] (ZF _ _ (by decide) (by decide)))
 rw [Zah h1] at T4
 have T7:=zh (fun w' h'=>ZZ w0 w' bp c ad L (Zr L (ZV L ex) (L.length+1) true [] (Zd L [40] (Za L (Zb (Za L s).2)).2)).2 h' [59] (ZF _ _ (by decide) (by decide)))
 have G0:=zh hG
 clear hG hd hL h1 hex hE hgo
 go_enter Tryd.func60,Tryd.ntmps60
 go_upto_region 1 with fail
 have G1:=zh ((G0.out.boxed #[pV bp] 63).boxed #[brV b] 39)
 have hz:(w.alloc (.cells #[pV bp] 63)).heap.size=w.heap.size+1:=World.size_alloc _ _
 rw [hz] at G1
 clear hz
 generalize World.alloc (World.alloc w _) _=w1 at *
 have q1:=G1.out.cell (.head _)
 have q2:=G1.out.cell (.tail _ (.head _))
 obtain ⟨⟨u3,q3,_⟩,q4,_⟩:=G1.out.putA 0 (by decide)
 go_upto_region 2 with fail
 clear q3 q4
 have G2:=zh (G1.out.kind 14)
 generalize World.setCell _ ⟨b,0,none⟩ (.int .i64 14)=w2 at *
 have q1:=G2.out.cell (.head _)
 have q2:=G2.out.cell (.tail _ (.head _))
 clear q1 q2
 refine Zck Zab 8 2 3 G2.out (.head _) (.tail _ (.head _)) (fun w1 h1=>ZR w0 w1 bp c ad L s h1 HK.out) ?bad (fun x wr hW=>?_)
 case bad=>
  intro z a' w' hd hF
  exact ⟨hd,ZS.bad hF S1.out z⟩
 generalize wr=w3 at *
 have G3:=zh (hW)
 clear hW
 simp only [ZE,cl,Act.put,ZaQ]
 have q1:=G3.out.cell (.head _)
 have q2:=G3.out.cell (.tail _ (.head _))
 go_upto_region 4 with (go_at_call 21;(refine (T4.out _ G3.out.P).mono ?_);rintro e2 w4 ⟨rfl,hP,hF⟩;have G4:=zh (G3.out.call hP hF);clear hP hF)
 have q1:=G4.out.cell (.head _)
 have q2:=G4.out.cell (.tail _ (.head _))
 clear q1 q2
 refine ZmQ Zab 21 2 3 G4.out (.head _) (.tail _ (.head _)) (fun w1 h1=>ZR w0 w1 bp c ad L (Zb (Za L s).2) h1 HK.out) ?bad (fun x wr hW=>?_)
 case bad=>
  intro z a' w' hd hF
  exact ⟨hd,ZS.bad hF S2.out z⟩
 generalize wr=w5 at *
 have G5:=zh (hW)
 clear hW
 simp only [ZE,cl,Act.put,ZaS]
 have q1:=G5.out.cell (.head _)
 have q2:=G5.out.cell (.tail _ (.head _))
 have EN:=zh (Zcz 66 #[pV (w.heap.size+1),pV w.heap.size] ZdC w0 _ bp c ad L (Za L (Zb (Za L s).2)).2 (ZbU wS bp) d (fun w' l=>WayR wS w' bp 14 [(Za L (Zb (Za L s).2)).1,(Za L s).1] [] at_ l b ((w.heap.size+1,39,#[brV b])::(w.heap.size,63,#[pV bp])::xs)) (ZV L ex) (Or.inl rfl) (fun _ _ _ hF hR=>hR.call hF) (Zd6 w0 wS bp c ad L 14 _ [] at_ b _ w.heap.size (w.heap.size+1) (Dd d) (ZV L ex) (.head _) (.tail _ (.head _)) HE.out G5.out.P.few.1) HSt.out HGo.out G5.out.P ((Zaj _).trans (show (Zb (Za L s).2).deep=d from (Zaj _).trans HD.out)) G5.out.rest)
 have FB:=zh G5.out.F
 go_upto_region 6 with (go_at_call 37;(refine EN.out.mono ?_);rintro e3 w6 ⟨hZ,hok,hbd⟩;by_cases z:(Zr L (ZV L ex) (L.length+1) true [] (Zd L [40] (Za L (Zb (Za L s).2)).2)).2.err=0;(case neg=>(obtain rfl:=hbd z;exact zi rfl (ZS.bad (FB.out.frz hZ) S3.out z)));obtain ⟨rfl,hP,hRel⟩:=hok z;have G6:=zh (hRel.way hP);clear hZ hok hbd hP hRel)
 (try clear z)
 have q1:=G6.out.cell (.head _)
 have q2:=G6.out.cell (.tail _ (.head _))
 go_wp2_with (go_at_call 33;(refine (T7.out _ G6.out.P).mono ?_);rintro e2 w7 ⟨hF,hok,hbd⟩;by_cases z:(Zd L [59] (Zr L (ZV L ex) (L.length+1) true [] (Zd L [40] (Za L (Zb (Za L s).2)).2)).2).err=0;(case neg=>(obtain rfl:=hbd z;exact zi rfl (ZS.bad (G6.out.F.trans hF) (Zbe hR.out) z)));obtain ⟨_,rfl,hP,rfl⟩:=hok z;have G7:=zh (G6.out.call hP hF);clear hP hF hok hbd)
 have z7:=zh z
 clear z
 go_end0
 exact ZS.fin hR.out G7.out.drop.drop
theorem Zlk {wS:World} {at_ k0:Int} {b:Nat} {xs:List (Nat×TypeId×Array Value)} (hL:LaidP w0) (w:World) (s:PS) (d:Int) (hd:s.deep=d) (hG:Way w0 wS w bp c ad L s k0 [] [] at_ [] b xs) (ex:PS->Tr×PS) (hex:ZJ ex) (hE:Zw w0 bp c ad L 67 #[pV bp] (Dd (d)) (ZV L ex)) (hgo:∀ s,s.deep=d->s.at_<L.length->s.err=0->Gon L s (ZV L ex s).2) (h1:isM L [61] (Za L s).2=false) :
  Calls Tryd.prog 60 #[pV bp,brV b] w (ZS w0 wS bp c ad L b xs (Za4 L ex at_ s)):=by
 have hmf:∀ (fn:Fn) (first cap:Array Value) (w:World),(Instr.makeFunc fn first cap).run Tryd.prog w=.ok (.func fn first cap) w:=fun _ _ _ _=>rfl
 have HK:=zh hL.keys
 have HD:=zh hd
 have hR:=zh (show Za4 L ex at_ s=(.mk 14 [(Za L s).1] [] at_ (Zr L (ZV L ex) (L.length+1) true [] (Zd L [40] (Za L s).2)).1,Zd L [59] (Zr L (ZV L ex) (L.length+1) true [] (Zd L [40] (Za L s).2)).2) by unfold Za4;dsimp only;rw [if_neg (by simp [h1])])
 have S3:=zh (show Stk (Zr L (ZV L ex) (L.length+1) true [] (Zd L [40] (Za L s).2)).2 (Za4 L ex at_ s).2 by rw [hR.out];exact Zq _ _)
 have S2:=zh (show Stk (Za L s).2 (Za4 L ex at_ s).2 from ((Zq _ _).trans (ZaZ (ZcK hex) _ _ _ _)).trans S3.out)
 have S1:=S2
 have HE:=zh hE
 have HSt:=zh (ZcK (L:=L) hex)
 have HGo:=zh hgo
 have T4:=zh (fun w' h'=>Zg w0 w' bp c ad L (Za L s).2 h' [61] (ZF _ _ (by decide) (by decide)))
 rw [Zu h1] at T4
 have T6:=zh (fun w' h'=>ZZ w0 w' bp c ad L (Zr L (ZV L ex) (L.length+1) true [] (Zd L [40] (Za L s).2)).2 h' [59] (ZF _ _ (by decide) (by decide)))
 have G0:=zh hG
 clear hG hd hL h1 hex hE hgo
 go_enter Tryd.func60,Tryd.ntmps60
 go_upto_region 1 with fail
 have G1:=zh ((G0.out.boxed #[pV bp] 63).boxed #[brV b] 39)
 have hz:(w.alloc (.cells #[pV bp] 63)).heap.size=w.heap.size+1:=World.size_alloc _ _
 rw [hz] at G1
 clear hz
 generalize World.alloc (World.alloc w _) _=w1 at *
 have q1:=G1.out.cell (.head _)
 have q2:=G1.out.cell (.tail _ (.head _))
 obtain ⟨⟨u3,q3,_⟩,q4,_⟩:=G1.out.putA 0 (by decide)
 go_upto_region 2 with fail
 clear q3 q4
 have G2:=zh (G1.out.kind 14)
 generalize World.setCell _ ⟨b,0,none⟩ (.int .i64 14)=w2 at *
 have q1:=G2.out.cell (.head _)
 have q2:=G2.out.cell (.tail _ (.head _))
 clear q1 q2
 refine Zck Zab 8 2 3 G2.out (.head _) (.tail _ (.head _)) (fun w1 h1=>ZR w0 w1 bp c ad L s h1 HK.out) ?bad (fun x wr hW=>?_)
 case bad=>
  intro z a' w' hd hF
  exact ⟨hd,ZS.bad hF S1.out z⟩
 generalize wr=w3 at *
 have G3:=zh (hW)
 clear hW
 simp only [ZE,cl,Act.put,ZaQ]
 have q1:=G3.out.cell (.head _)
 have q2:=G3.out.cell (.tail _ (.head _))
 go_upto_region 5 with (go_at_call 21;(refine (T4.out _ G3.out.P).mono ?_);rintro e2 w4 ⟨rfl,hP,hF⟩;have G4:=zh (G3.out.call hP hF);clear hP hF)
 have q1:=G4.out.cell (.head _)
 have q2:=G4.out.cell (.tail _ (.head _))
 have EN:=zh (Zcz 66 #[pV (w.heap.size+1),pV w.heap.size] ZdC w0 _ bp c ad L (Za L s).2 (ZbU wS bp) d (fun w' l=>WayR wS w' bp 14 [(Za L s).1] [] at_ l b ((w.heap.size+1,39,#[brV b])::(w.heap.size,63,#[pV bp])::xs)) (ZV L ex) (Or.inl rfl) (fun _ _ _ hF hR=>hR.call hF) (Zd6 w0 wS bp c ad L 14 _ [] at_ b _ w.heap.size (w.heap.size+1) (Dd d) (ZV L ex) (.head _) (.tail _ (.head _)) HE.out G4.out.P.few.1) HSt.out HGo.out G4.out.P ((Zaj _).trans HD.out) G4.out.rest)
 have FB:=zh G4.out.F
 go_upto_region 6 with (go_at_call 37;(refine EN.out.mono ?_);rintro e3 w5 ⟨hZ,hok,hbd⟩;by_cases z:(Zr L (ZV L ex) (L.length+1) true [] (Zd L [40] (Za L s).2)).2.err=0;(case neg=>(obtain rfl:=hbd z;exact zi rfl (ZS.bad (FB.out.frz hZ) S3.out z)));obtain ⟨rfl,hP,hRel⟩:=hok z;have G5:=zh (hRel.way hP);clear hZ hok hbd hP hRel)
 (try clear z)
 have q1:=G5.out.cell (.head _)
 have q2:=G5.out.cell (.tail _ (.head _))
 go_wp2_with (go_at_call 33;(refine (T6.out _ G5.out.P).mono ?_);rintro e2 w6 ⟨hF,hok,hbd⟩;by_cases z:(Zd L [59] (Zr L (ZV L ex) (L.length+1) true [] (Zd L [40] (Za L s).2)).2).err=0;(case neg=>(obtain rfl:=hbd z;exact zi rfl (ZS.bad (G5.out.F.trans hF) (Zbe hR.out) z)));obtain ⟨_,rfl,hP,rfl⟩:=hok z;have G6:=zh (G5.out.call hP hF);clear hP hF hok hbd)
 have z6:=zh z
 clear z
 go_end0
 exact ZS.fin hR.out G6.out.drop.drop
end
end
section
open Go Go.RowKit
section
variable {w0:World} {bp c:Nat} {ad:Addr} {L:List Tok}
theorem Zl7 (hL:LaidP w0) (w:World) (s:PS) (d:Int) (h:ParQ w0 w bp ad c L s) (hd:s.deep=d) (ex st:PS->Tr×PS) (hst:ZJ st) (hE:Zw w0 bp c ad L 39 #[pV bp] (Dd (d)) (ZP L)) (hpgo:∀ s,s.deep=d->s.at_<L.length->s.err=0->Gon L s (ZP L s).2) (hB:Zw w0 bp c ad L 40 #[pV bp] (Dd (d)) (Zm L st)) (hDc:(Zr L (ZP L) (L.length+1) true [] (Zd L [40] (Za L (Zd L [102,110] s)).2)).2.err=0->(Zr L (ZP L) (L.length+1) true [] (Zd L [40] (Za L (Zd L [102,110] s)).2)).2.deep=d) (hLen:(Zr L (ZP L) (L.length+1) true [] (Zd L [40] (Za L (Zd L [102,110] s)).2)).2.err=0->(Zr L (ZP L) (L.length+1) true [] (Zd L [40] (Za L (Zd L [102,110] s)).2)).1.length<=200000) (hgo:Gon L s (fnM L ex st s).2) :
  Calls Tryd.prog 24 #[pV bp] w (Zl w0 w bp c ad L (Dd d) s (fnM L ex st s)):=by
 have hpl:=zh (ZQ (L:=L) h.err)
 have hmf:∀ (fn:Fn) (first cap:Array Value) (w:World),(Instr.makeFunc fn first cap).run Tryd.prog w=.ok (.func fn first cap) w:=fun _ _ _ _=>rfl
 have HK:=zh hL.keys
 have hR:=zh (show fnM L ex st s=(.mk 4 [(Za L (Zd L [102,110] s)).1] [] (Zj L s) ((Zr L (ZP L) (L.length+1) true [] (Zd L [40] (Za L (Zd L [102,110] s)).2)).1++[(Zm L st (Zr L (ZP L) (L.length+1) true [] (Zd L [40] (Za L (Zd L [102,110] s)).2)).2).1]),(Zm L st (Zr L (ZP L) (L.length+1) true [] (Zd L [40] (Za L (Zd L [102,110] s)).2)).2).2) from rfl)
 have HG:=zh hgo
 have HE:=zh hE
 have HB:=zh hB
 have HDc:=zh hDc
 have HLen:=zh hLen
 have HSt:=zh (Zcx (L:=L))
 have HGo:=zh hpgo
 have S3:=zh (show Stk (Zr L (ZP L) (L.length+1) true [] (Zd L [40] (Za L (Zd L [102,110] s)).2)).2 (fnM L ex st s).2 by rw [hR.out];exact Zal hst _)
 have S2:=zh (show Stk (Za L (Zd L [102,110] s)).2 (fnM L ex st s).2 from ((Zq _ _).trans (ZaZ Zcx _ _ _ _)).trans S3.out)
 have S1:=zh (show Stk (Zd L [102,110] s) (fnM L ex st s).2 from (ZB _).trans S2.out)
 have BG:=zh (ZK w0 _ bp c ad L s (h.keep (below_alloc1 w (.cells #[pV bp] 63))) 4)
 have T1:=zh (fun w' h'=>ZZ w0 w' bp c ad L s h' [102,110] (Zv [102,110] (by decide)))
 have H:=zh (zi h hd)
 clear h hd hE hgo hst hL hB hDc hLen hpgo
 go_enter Tryd.func24,Tryd.ntmps24
 go_upto_region 2 with (go_at_call 19;(refine BG.out.mono ?_);rintro e1 wa ⟨b,rfl,T,hb,hB⟩)
 have G1:=zh (Way.begun H.out.1 T hb hB)
 rw [hpl.out] at G1
 generalize wa.alloc (.cells #[brV b] 39)=wb at *
 clear T hb hB
 have q1:=G1.out.cell (.head _)
 have q2:=G1.out.cell (.tail _ (.head _))
 go_upto_region 3 with (go_at_call 33;(refine (T1.out _ G1.out.P).mono ?_);rintro e2 w1 ⟨hF,hok,hbd⟩;by_cases z:(Zd L [102,110] s).err=0;(case neg=>(obtain rfl:=hbd z;exact zi rfl (Zl.bad (G1.out.F.trans hF) S1.out z)));obtain ⟨_,rfl,hP,rfl⟩:=hok z;have G2:=zh (G1.out.call hP hF);clear hP hF hok hbd)
 have z1:=zh z
 clear z
 have q1:=G2.out.cell (.head _)
 have q2:=G2.out.cell (.tail _ (.head _))
 clear q1 q2
 refine Zck Zab 12 1 3 G2.out (.head _) (.tail _ (.head _)) (fun w1 h1=>ZR w0 w1 bp c ad L (Zd L [102,110] s) h1 HK.out) ?bad (fun x wr hW=>?_)
 case bad=>
  intro z a' w' hd hF
  exact ⟨hd,Zl.bad hF S2.out z⟩
 generalize wr=w2 at *
 have G3:=zh (hW)
 clear hW
 simp only [ZE,cl,Act.put,ZaQ]
 have q1:=G3.out.cell (.head _)
 have q2:=G3.out.cell (.tail _ (.head _))
 have EN:=zh (Zcz 38 #[pV wa.heap.size,pV w.heap.size] Zhe w0 _ bp c ad L (Za L (Zd L [102,110] s)).2 (ZbU w bp) d (fun w' l=>WayR w w' bp 4 [(Za L (Zd L [102,110] s)).1] [] (Zj L s) l b [(wa.heap.size,39,#[brV b]),(w.heap.size,63,#[pV bp])]) (ZP L) (Or.inl rfl) (fun _ _ _ hF hR=>hR.call hF) (Zkg w0 w bp c ad L 4 _ [] (Zj L s) b _ w.heap.size wa.heap.size (Dd d) (ZP L) (.head _) (.tail _ (.head _)) HE.out G3.out.P.few.1) HSt.out HGo.out G3.out.P ((Zaj _).trans ((Za1 _ _).trans H.out.2)) G3.out.rest)
 have FB:=zh G3.out.F
 go_upto_region 5 with (go_at_call 37;(refine EN.out.mono ?_);rintro e3 w3 ⟨hZ,hok,hbd⟩;by_cases z:(Zr L (ZP L) (L.length+1) true [] (Zd L [40] (Za L (Zd L [102,110] s)).2)).2.err=0;(case neg=>(obtain rfl:=hbd z;exact zi rfl (Zl.bad (FB.out.frz hZ) S3.out z)));obtain ⟨rfl,hP,hRel⟩:=hok z;have G4:=zh (hRel.way hP);clear hZ hok hbd hP hRel)
 (try clear z)
 have q1:=G4.out.cell (.head _)
 have q2:=G4.out.cell (.tail _ (.head _))
 have DX:=zh (HDc.out G4.out.P.err)
 have LN:=zh (show (Zr L (ZP L) (L.length+1) true [] (Zd L [40] (Za L (Zd L [102,110] s)).2)).1.length<=200000 from HLen.out G4.out.P.err)
 clear q1 q2
 refine ZcW (fun _ _=>by kernel_rfl) 24 1 3 G4.out (.head _) (.tail _ (.head _)) LN.out (fun w1 h1=>HB.out w1 (Zr L (ZP L) (L.length+1) true [] (Zd L [40] (Za L (Zd L [102,110] s)).2)).2 h1 DX.out) ?bad (fun x wr hW=>?_)
 case bad=>
  intro z a' w' hd hF
  exact ⟨hd,Zl.bad hF (Zbe hR.out) z⟩
 generalize wr=w4 at *
 have G5:=zh (hW.1)
 clear hW
 simp only [ZE,cl,Act.put,Zca]
 have q1:=G5.out.cell (.head _)
 have q2:=G5.out.cell (.tail _ (.head _))
 go_wp2_with fail
 go_ret
 exact Zl.fin HG.out H.out.2 hR.out G5.out.F G5.out.P G5.out.done
def ZeK (L:List Tok) (k p:Int) (s:PS):Tr×PS:=(.mk k [(Za L s).1] [] p (ZC L (Zan L) [125] (L.length+1) [] (Zd L [123] (Za L s).2)).1,(ZC L (Zan L) [125] (L.length+1) [] (Zd L [123] (Za L s).2)).2)
theorem ZiI {wS:World} {at_ k0:Int} {b:Nat} {xs:List (Nat×TypeId×Array Value)} (hL:LaidP w0) (w:World) (s:PS) (d:Int) (hd:s.deep=d) (hG:Way w0 wS w bp c ad L s k0 [] [] at_ [] b xs) (hE:Zw w0 bp c ad L 36 #[pV bp] (Dd (d)) (Zan L)) :
  Calls Tryd.prog 22 #[pV bp,brV b] w (ZS w0 wS bp c ad L b xs (ZeK L k0 at_ s)):=by
 have hmf:∀ (fn:Fn) (first cap:Array Value) (w:World),(Instr.makeFunc fn first cap).run Tryd.prog w=.ok (.func fn first cap) w:=fun _ _ _ _=>rfl
 have HK:=zh hL.keys
 have HD:=zh hd
 have HE:=zh hE
 have S2:=zh (show Stk (Zd L [123] (Za L s).2) (ZeK L k0 at_ s).2 from Zb1 ZlD _ _ _ _)
 have S1:=zh (show Stk (Za L s).2 (ZeK L k0 at_ s).2 from (Zq _ _).trans S2.out)
 have T3:=zh (fun w' h'=>ZZ w0 w' bp c ad L (Za L s).2 h' [123] (ZF _ _ (by decide) (by decide)))
 have G0:=zh hG
 clear hG hd hL hE
 go_enter Tryd.func22,Tryd.ntmps22
 go_upto_region 1 with fail
 have G1:=zh ((G0.out.boxed #[pV bp] 63).boxed #[brV b] 39)
 have hz:(w.alloc (.cells #[pV bp] 63)).heap.size=w.heap.size+1:=World.size_alloc _ _
 rw [hz] at G1
 clear hz
 generalize World.alloc (World.alloc w _) _=w1 at *
 have q1:=G1.out.cell (.head _)
 have q2:=G1.out.cell (.tail _ (.head _))
 clear q1 q2
 refine Zck Zab 4 2 3 G1.out (.head _) (.tail _ (.head _)) (fun w1 h1=>ZR w0 w1 bp c ad L s h1 HK.out) ?bad (fun x wr hW=>?_)
 case bad=>
  intro z a' w' hd hF
  exact ⟨hd,ZS.bad hF S1.out z⟩
 generalize wr=w2 at *
 have G2:=zh (hW)
 clear hW
 simp only [ZE,cl,Act.put,ZaQ]
 have q1:=G2.out.cell (.head _)
 have q2:=G2.out.cell (.tail _ (.head _))
 go_upto_region 3 with (go_at_call 33;(refine (T3.out _ G2.out.P).mono ?_);rintro e2 w3 ⟨hF,hok,hbd⟩;by_cases z:(Zd L [123] (Za L s).2).err=0;(case neg=>(obtain rfl:=hbd z;exact zi rfl (ZS.bad (G2.out.F.trans hF) S2.out z)));obtain ⟨_,rfl,hP,rfl⟩:=hok z;have G3:=zh (G2.out.call hP hF);clear hP hF hok hbd)
 have z3:=zh z
 clear z
 have q1:=G3.out.cell (.head _)
 have q2:=G3.out.cell (.tail _ (.head _))
 have UN:=zh (Zdw 35 #[pV (w.heap.size+1),pV w.heap.size] ZeU w0 _ bp c ad L (Zd L [123] (Za L s).2) (ZbU wS bp) (Dd d) (fun w' l=>WayR wS w' bp k0 [(Za L s).1] [] at_ l b ((w.heap.size+1,39,#[brV b])::(w.heap.size,63,#[pV bp])::xs)) (Zan L) [125] (ZF _ _ (by decide) (by decide)) [] (Or.inl rfl) (fun _ _ _ hF hR=>hR.call hF) (ZfM w0 wS bp c ad L k0 _ [] at_ b _ w.heap.size (w.heap.size+1) (Dd d) (Zan L) (.head _) (.tail _ (.head _)) HE.out G3.out.P.few.1) G3.out.P ((Za1 _ _).trans ((Zaj _).trans HD.out)) (Nat.zero_le _) G3.out.rest)
 have FB:=zh G3.out.F
 go_wp2_with (go_at_call 34;(refine UN.out.mono ?_);rintro e3 w9 ⟨hZ,hok,hbd⟩;by_cases z:(ZC L (Zan L) [125] (L.length+1) [] (Zd L [123] (Za L s).2)).2.err=0;(case neg=>(obtain rfl:=hbd z;exact zi rfl (ZS.bad (FB.out.frz hZ) (Stk.refl _) z)));obtain ⟨rfl,hP,hRel⟩:=hok z;have G9:=zh (hRel.way hP);clear hZ hok hbd hP hRel)
 go_end0
 exact ZS.fin rfl G9.out.drop.drop
end
end
end Go.Proofs.YtfdgeijnkkdplaaDoor
