import Derived.Test.YtfdgeijnkkdplaaDoorQAW
import Derived.Test.YtfdgeijnkkdplaaDoorQBG
import Derived.Test.YtfdgeijnkkdplaaDoorQBK
set_option maxRecDepth 100000
set_option maxHeartbeats 8000000
namespace Go.Proofs.YtfdgeijnkkdplaaDoor
section
open Go Go.RowKit
section
variable {w0:World} {bp c:Nat} {ad:Addr} {L:List Tok}
theorem Zhr (hL:LaidP w0) (w:World) (s:PS) (d:Int) (h:ParQ w0 w bp ad c L s) (hd:s.deep=d) (h1:isM L [115,116,97,116,101] s=true) :
  Calls Tryd.prog 36 #[pV bp] w (Zl w0 w bp c ad L (Dd d) s (Zan L s)):=by
 have hpl:=zh (ZQ (L:=L) h.err)
 have HK:=zh hL.keys
 have hR:=zh (show Zan L s=(.mk 2 [(Za L (Zb s)).1] [0] (Zj L s) [],Zd L [59] (Za L (Zb s)).2) by unfold Zan;dsimp only;rw [if_pos h1])
 have HG:=zh (part_go h.end_ h.lt)
 have S1:=zh (show Stk (Za L (Zb s)).2 (Zan L s).2 by rw [hR.out];exact Zq _ _)
 have BG:=zh (ZK w0 _ bp c ad L s (h.keep (below_alloc1 w (.cells #[pV bp] 63))) 2)
 have T1:=zh (fun w' h'=>Zg w0 w' bp c ad L s h' [115,116,97,116,101] (Zv [115,116,97,116,101] (by decide)))
 rw [Zah h1] at T1
 have T4:=zh (fun w' h'=>ZZ w0 w' bp c ad L (Za L (Zb s)).2 h' [59] (ZF _ _ (by decide) (by decide)))
 have H:=zh (zi h hd)
 clear h hd hL h1
 go_enter Tryd.func36,Tryd.ntmps36
 go_upto_region 7 with (go_at_call 19;(refine BG.out.mono ?_);rintro e1 wa ⟨b,rfl,T,hb,hB⟩)
 have G1:=zh (Way.begun H.out.1 T hb hB)
 rw [hpl.out] at G1
 generalize wa.alloc (.cells #[brV b] 39)=wb at *
 clear T hb hB
 have q1:=G1.out.cell (.head _)
 have q2:=G1.out.cell (.tail _ (.head _))
 go_upto_region 8 with (go_at_call 21;(refine (T1.out _ G1.out.P).mono ?_);rintro e2 w1 ⟨rfl,hP,hF⟩;have G2:=zh (G1.out.call hP hF);clear hP hF)
 have q1:=G2.out.cell (.head _)
 have q2:=G2.out.cell (.tail _ (.head _))
 obtain ⟨⟨u3,_,q3⟩,_,q4⟩:=G2.out.putA 2 (by decide)
 go_upto_region 9 with fail
 clear q3 q4
 have G3:=zh (G2.out.nums1 0)
 generalize World.setCell (World.alloc _ _) ⟨b,2,none⟩ _=w2 at *
 have q1:=G3.out.cell (.head _)
 have q2:=G3.out.cell (.tail _ (.head _))
 clear q1 q2
 refine Zck Zab 46 1 3 G3.out (.head _) (.tail _ (.head _)) (fun w1 h1=>ZR w0 w1 bp c ad L (Zb s) h1 HK.out) ?bad (fun x wr hW=>?_)
 case bad=>
  intro z a' w' hd hF
  exact ⟨hd,Zl.bad hF S1.out z⟩
 generalize wr=w3 at *
 have G4:=zh (hW)
 clear hW
 simp only [ZE,cl,Act.put,ZaQ]
 have q1:=G4.out.cell (.head _)
 have q2:=G4.out.cell (.tail _ (.head _))
 go_upto_region 14 with (go_at_call 33;(refine (T4.out _ G4.out.P).mono ?_);rintro e2 w4 ⟨hF,hok,hbd⟩;by_cases z:(Zd L [59] (Za L (Zb s)).2).err=0;(case neg=>(obtain rfl:=hbd z;exact zi rfl (Zl.bad (G4.out.F.trans hF) (Zbe hR.out) z)));obtain ⟨_,rfl,hP,rfl⟩:=hok z;have G5:=zh (G4.out.call hP hF);clear hP hF hok hbd)
 have z4:=zh z
 clear z
 have q1:=G5.out.cell (.head _)
 have q2:=G5.out.cell (.tail _ (.head _))
 go_wp2_with fail
 go_ret
 exact Zl.fin HG.out H.out.2 hR.out G5.out.F G5.out.P G5.out.done
theorem Zhp (hL:LaidP w0) (w:World) (s:PS) (d:Int) (h:ParQ w0 w bp ad c L s) (hd:s.deep=d) (h1:isM L [115,116,97,116,101] s=false) (h2:isM L [102,105,110,97,108] s=true) :
  Calls Tryd.prog 36 #[pV bp] w (Zl w0 w bp c ad L (Dd d) s (Zan L s)):=by
 have hpl:=zh (ZQ (L:=L) h.err)
 have HK:=zh hL.keys
 have hR:=zh (show Zan L s=(.mk 2 [(Za L (Zb s)).1] [1] (Zj L s) [],Zd L [59] (Za L (Zb s)).2) by unfold Zan;dsimp only;rw [if_neg (by simp [h1]),if_pos h2])
 have HG:=zh (part_go h.end_ h.lt)
 have S1:=zh (show Stk (Za L (Zb s)).2 (Zan L s).2 by rw [hR.out];exact Zq _ _)
 have BG:=zh (ZK w0 _ bp c ad L s (h.keep (below_alloc1 w (.cells #[pV bp] 63))) 2)
 have T1:=zh (fun w' h'=>Zg w0 w' bp c ad L s h' [115,116,97,116,101] (Zv [115,116,97,116,101] (by decide)))
 rw [Zu h1] at T1
 have T2:=zh (fun w' h'=>Zg w0 w' bp c ad L s h' [102,105,110,97,108] (Zv [102,105,110,97,108] (by decide)))
 rw [Zah h2] at T2
 have T5:=zh (fun w' h'=>ZZ w0 w' bp c ad L (Za L (Zb s)).2 h' [59] (ZF _ _ (by decide) (by decide)))
 have H:=zh (zi h hd)
 clear h hd hL h1 h2
 go_enter Tryd.func36,Tryd.ntmps36
 go_upto_region 7 with (go_at_call 19;(refine BG.out.mono ?_);rintro e1 wa ⟨b,rfl,T,hb,hB⟩)
 have G1:=zh (Way.begun H.out.1 T hb hB)
 rw [hpl.out] at G1
 generalize wa.alloc (.cells #[brV b] 39)=wb at *
 clear T hb hB
 have q1:=G1.out.cell (.head _)
 have q2:=G1.out.cell (.tail _ (.head _))
 go_upto_region 10 with (go_at_call 21;(refine (T1.out _ G1.out.P).mono ?_);rintro e2 w1 ⟨rfl,hP,hF⟩;have G2:=zh (G1.out.call hP hF);clear hP hF)
 have q1:=G2.out.cell (.head _)
 have q2:=G2.out.cell (.tail _ (.head _))
 go_upto_region 11 with (go_at_call 21;(refine (T2.out _ G2.out.P).mono ?_);rintro e2 w2 ⟨rfl,hP,hF⟩;have G3:=zh (G2.out.call hP hF);clear hP hF)
 have q1:=G3.out.cell (.head _)
 have q2:=G3.out.cell (.tail _ (.head _))
 obtain ⟨⟨u3,_,q3⟩,_,q4⟩:=G3.out.putA 2 (by decide)
 go_upto_region 12 with fail
 clear q3 q4
 have G4:=zh (G3.out.nums1 1)
 generalize World.setCell (World.alloc _ _) ⟨b,2,none⟩ _=w3 at *
 have q1:=G4.out.cell (.head _)
 have q2:=G4.out.cell (.tail _ (.head _))
 clear q1 q2
 refine Zck Zab 65 1 3 G4.out (.head _) (.tail _ (.head _)) (fun w1 h1=>ZR w0 w1 bp c ad L (Zb s) h1 HK.out) ?bad (fun x wr hW=>?_)
 case bad=>
  intro z a' w' hd hF
  exact ⟨hd,Zl.bad hF S1.out z⟩
 generalize wr=w4 at *
 have G5:=zh (hW)
 clear hW
 simp only [ZE,cl,Act.put,ZaQ]
 have q1:=G5.out.cell (.head _)
 have q2:=G5.out.cell (.tail _ (.head _))
 go_upto_region 14 with (go_at_call 33;(refine (T5.out _ G5.out.P).mono ?_);rintro e2 w5 ⟨hF,hok,hbd⟩;by_cases z:(Zd L [59] (Za L (Zb s)).2).err=0;(case neg=>(obtain rfl:=hbd z;exact zi rfl (Zl.bad (G5.out.F.trans hF) (Zbe hR.out) z)));obtain ⟨_,rfl,hP,rfl⟩:=hok z;have G6:=zh (G5.out.call hP hF);clear hP hF hok hbd)
 have z5:=zh z
 clear z
 have q1:=G6.out.cell (.head _)
 have q2:=G6.out.cell (.tail _ (.head _))
 go_wp2_with fail
 go_ret
 exact Zl.fin HG.out H.out.2 hR.out G6.out.F G6.out.P G6.out.done
theorem Zlm (hL:LaidP w0) (w:World) (s:PS) (d:Int) (h:ParQ w0 w bp ad c L s) (hd:s.deep=d) (h1:isM L [115,116,97,116,101] s=false) (h2:isM L [102,105,110,97,108] s=false) :
  Calls Tryd.prog 36 #[pV bp] w (Zl w0 w bp c ad L (Dd d) s (Zan L s)):=by
 have hpl:=zh (ZQ (L:=L) h.err)
 have HK:=zh hL.keys
 have hmf:∀ (fn:Fn) (first cap:Array Value) (w:World),(Instr.makeFunc fn first cap).run Tryd.prog w=.ok (.func fn first cap) w:=fun _ _ _ _=>rfl
 have hR:=zh (show Zan L s=(.mk 3 (Zb9 L (L.length+1) [(Za L (Zd L [111,112] s)).1,(Za L (Za L (Zd L [111,112] s)).2).1] (Zd L [45,62] (Za L (Za L (Zd L [111,112] s)).2).2)).1 [] (Zj L s) [],Zd L [59] (Zb9 L (L.length+1) [(Za L (Zd L [111,112] s)).1,(Za L (Za L (Zd L [111,112] s)).2).1] (Zd L [45,62] (Za L (Za L (Zd L [111,112] s)).2).2)).2) by unfold Zan;dsimp only;rw [if_neg (by simp [h1]),if_neg (by simp [h2])])
 have HG:=zh (part_go h.end_ h.lt)
 have S4:=zh (show Stk (Zd L [45,62] (Za L (Za L (Zd L [111,112] s)).2).2) (Zan L s).2 by rw [hR.out];exact (ZdV _ _ _).trans (Zq _ _))
 have S3:=zh (show Stk (Za L (Za L (Zd L [111,112] s)).2).2 (Zan L s).2 from (Zq _ _).trans S4.out)
 have S2:=zh (show Stk (Za L (Zd L [111,112] s)).2 (Zan L s).2 from (ZB _).trans S3.out)
 have S1:=zh (show Stk (Zd L [111,112] s) (Zan L s).2 from (ZB _).trans S2.out)
 have HL:=zh hL
 have BG:=zh (ZK w0 _ bp c ad L s (h.keep (below_alloc1 w (.cells #[pV bp] 63))) 2)
 have T1:=zh (fun w' h'=>Zg w0 w' bp c ad L s h' [115,116,97,116,101] (Zv [115,116,97,116,101] (by decide)))
 rw [Zu h1] at T1
 have T2:=zh (fun w' h'=>Zg w0 w' bp c ad L s h' [102,105,110,97,108] (Zv [102,105,110,97,108] (by decide)))
 rw [Zu h2] at T2
 have T3:=zh (fun w' h'=>ZZ w0 w' bp c ad L s h' [111,112] (Zv [111,112] (by decide)))
 have T6:=zh (fun w' h'=>ZZ w0 w' bp c ad L (Za L (Za L (Zd L [111,112] s)).2).2 h' [45,62] (ZF _ _ (by decide) (by decide)))
 have T8:=zh (fun w' h'=>ZZ w0 w' bp c ad L (Za3 L (Zb5 L) [44] (L.length+1) [] (Zd L [45,62] (Za L (Za L (Zd L [111,112] s)).2).2)).2 h' [59] (ZF _ _ (by decide) (by decide)))
 have H:=zh (zi h hd)
 clear h hd hL h1 h2
 go_enter Tryd.func36,Tryd.ntmps36
 go_upto_region 7 with (go_at_call 19;(refine BG.out.mono ?_);rintro e1 wa ⟨b,rfl,T,hb,hB⟩)
 have G1:=zh (Way.begun H.out.1 T hb hB)
 rw [hpl.out] at G1
 generalize wa.alloc (.cells #[brV b] 39)=wb at *
 clear T hb hB
 have q1:=G1.out.cell (.head _)
 have q2:=G1.out.cell (.tail _ (.head _))
 go_upto_region 10 with (go_at_call 21;(refine (T1.out _ G1.out.P).mono ?_);rintro e2 w1 ⟨rfl,hP,hF⟩;have G2:=zh (G1.out.call hP hF);clear hP hF)
 have q1:=G2.out.cell (.head _)
 have q2:=G2.out.cell (.tail _ (.head _))
 go_upto_region 2 with (go_at_call 21;(refine (T2.out _ G2.out.P).mono ?_);rintro e2 w2 ⟨rfl,hP,hF⟩;have G3:=zh (G2.out.call hP hF);clear hP hF)
 have q1:=G3.out.cell (.head _)
 have q2:=G3.out.cell (.tail _ (.head _))
 go_upto_region 3 with (go_at_call 33;(refine (T3.out _ G3.out.P).mono ?_);rintro e2 w3 ⟨hF,hok,hbd⟩;by_cases z:(Zd L [111,112] s).err=0;(case neg=>(obtain rfl:=hbd z;exact zi rfl (Zl.bad (G3.out.F.trans hF) S1.out z)));obtain ⟨_,rfl,hP,rfl⟩:=hok z;have G4:=zh (G3.out.call hP hF);clear hP hF hok hbd)
 have z3:=zh z
 clear z
 have q1:=G4.out.cell (.head _)
 have q2:=G4.out.cell (.tail _ (.head _))
 obtain ⟨⟨u3,q3,_⟩,q4,_⟩:=G4.out.putA 0 (by decide)
 go_upto_region 4 with fail
 clear q3 q4
 have G5:=zh (G4.out.kind 3)
 generalize World.setCell _ ⟨b,0,none⟩ (.int .i64 3)=w4 at *
 have q1:=G5.out.cell (.head _)
 have q2:=G5.out.cell (.tail _ (.head _))
 clear q1 q2
 refine ZmN Zab 16 1 3 G5.out (.head _) (.tail _ (.head _)) (fun w1 h1=>ZR w0 w1 bp c ad L (Zd L [111,112] s) h1 HK.out) (fun w1 h1=>ZR w0 w1 bp c ad L (Za L (Zd L [111,112] s)).2 h1 HK.out) ?bad0 ?bad1 (fun x wr hW=>?_)
 case bad0=>
  intro z a' w' hd hF
  exact ⟨hd,Zl.bad hF S2.out z⟩
 case bad1=>
  intro z a' w' hd hF
  exact ⟨hd,Zl.bad hF S3.out z⟩
 generalize wr=w5 at *
 have G6:=zh (hW)
 clear hW
 simp only [ZE,cl,Act.put,Za6]
 have q1:=G6.out.cell (.head _)
 have q2:=G6.out.cell (.tail _ (.head _))
 go_upto_region 6 with (go_at_call 33;(refine (T6.out _ G6.out.P).mono ?_);rintro e2 w6 ⟨hF,hok,hbd⟩;by_cases z:(Zd L [45,62] (Za L (Za L (Zd L [111,112] s)).2).2).err=0;(case neg=>(obtain rfl:=hbd z;exact zi rfl (Zl.bad (G6.out.F.trans hF) S4.out z)));obtain ⟨_,rfl,hP,rfl⟩:=hok z;have G7:=zh (G6.out.call hP hF);clear hP hF hok hbd)
 have z6:=zh z
 clear z
 have q1:=G7.out.cell (.head _)
 have q2:=G7.out.cell (.tail _ (.head _))
 have SW:=zh (Zfv (L:=L) [(Za L (Zd L [111,112] s)).1,(Za L (Za L (Zd L [111,112] s)).2).1] (L.length+1) [] (Zd L [45,62] (Za L (Za L (Zd L [111,112] s)).2).2) z6.out)
 have SP:=zh (Zeq 45 #[pV wa.heap.size,pV w.heap.size] ZfG w0 _ bp c ad L (Zd L [45,62] (Za L (Za L (Zd L [111,112] s)).2).2) (ZbU w bp) (Dd d) (fun w' l=>WayR w w' bp 3 ([(Za L (Zd L [111,112] s)).1,(Za L (Za L (Zd L [111,112] s)).2).1]++Zby l) [] (Zj L s) [] b [(wa.heap.size,39,#[brV b]),(w.heap.size,63,#[pV bp])]) (Zb5 L) [44] (ZF _ _ (by decide) (by decide)) [] (Or.inl rfl) (fun _ _ _ hF hR=>hR.call hF) (fun _ hs _=>hs) (Zhb HL.out [(Za L (Zd L [111,112] s)).1,(Za L (Za L (Zd L [111,112] s)).2).1] (by simp) d (.head _) (.tail _ (.head _))) G7.out.P ((Za1 _ _).trans ((Zaj _).trans ((Zaj _).trans ((Za1 _ _).trans H.out.2)))) (Nat.zero_le _) G7.out.rest)
 have FB:=zh G7.out.F
 have hR2:=zh (show Zan L s=(.mk 3 ([(Za L (Zd L [111,112] s)).1,(Za L (Za L (Zd L [111,112] s)).2).1]++Zby (Za3 L (Zb5 L) [44] (L.length+1) [] (Zd L [45,62] (Za L (Za L (Zd L [111,112] s)).2).2)).1) [] (Zj L s) [],Zd L [59] (Za3 L (Zb5 L) [44] (L.length+1) [] (Zd L [45,62] (Za L (Za L (Zd L [111,112] s)).2).2)).2) by rw [hR.out];have:=SW.out;dsimp only [Zby] at this;rw [List.append_nil] at this;rw [this])
 go_upto_region 13 with (go_at_call 44;(refine SP.out.mono ?_);rintro e3 w7 ⟨hZ,hok,hbd⟩;by_cases z:(Za3 L (Zb5 L) [44] (L.length+1) [] (Zd L [45,62] (Za L (Za L (Zd L [111,112] s)).2).2)).2.err=0;(case neg=>(obtain rfl:=hbd z;exact zi rfl (Zl.bad (FB.out.frz hZ) (by rw [hR2.out];exact Zq _ _) z)));obtain ⟨rfl,hP,_,_,hRel⟩:=hok z;have G8:=zh (hRel.way hP);clear hZ hok hbd hP hRel)
 clear z
 have q1:=G8.out.cell (.head _)
 have q2:=G8.out.cell (.tail _ (.head _))
 go_upto_region 14 with (go_at_call 33;(refine (T8.out _ G8.out.P).mono ?_);rintro e2 w8 ⟨hF,hok,hbd⟩;by_cases z:(Zd L [59] (Za3 L (Zb5 L) [44] (L.length+1) [] (Zd L [45,62] (Za L (Za L (Zd L [111,112] s)).2).2)).2).err=0;(case neg=>(obtain rfl:=hbd z;exact zi rfl (Zl.bad (G8.out.F.trans hF) (Zbe hR2.out) z)));obtain ⟨_,rfl,hP,rfl⟩:=hok z;have G9:=zh (G8.out.call hP hF);clear hP hF hok hbd)
 have z8:=zh z
 clear z
 have q1:=G9.out.cell (.head _)
 have q2:=G9.out.cell (.tail _ (.head _))
 go_wp2_with fail
 go_ret
 exact Zl.fin HG.out H.out.2 hR2.out G9.out.F G9.out.P G9.out.done
theorem Ze0 (hL:LaidP w0) (d:Int):Zw w0 bp c ad L 36 #[pV bp] (Dd (d)) (Zan L):=fun w s h hd=>by
 cases h1:isM L [115,116,97,116,101] s with
 | true=>exact Zhr hL w s d h hd h1
 | false=>
  cases h2:isM L [102,105,110,97,108] s with
  | true=>exact Zhp hL w s d h hd h1 h2
  | false=>exact Zlm hL w s d h hd h1 h2
end
end
end Go.Proofs.YtfdgeijnkkdplaaDoor
