import Derived.Test.YtfdgeijnkkdplaaDoorQBK
set_option maxRecDepth 100000
set_option maxHeartbeats 8000000
namespace Go.Proofs.YtfdgeijnkkdplaaDoor
section
open Go Go.RowKit
section
variable {w0:World} {bp c:Nat} {ad:Addr} {L:List Tok}
def Zaa (L:List Tok):Nat->PS->List Tr×PS
 | 0,s=>([],s)
 | j+1,s=>((Zaa L j s).1++(Zn L ((Zbl[j]?).getD []) (j:Nat) (Zaa L j s).2).1,(Zn L ((Zbl[j]?).getD []) (j:Nat) (Zaa L j s).2).2)
theorem Zc8 (s:PS) (j:Nat):∀ k,j<=k->Stk (Zaa L j s).2 (Zaa L k s).2:=by
 intro k
 induction k with
 | zero=>intro h;obtain rfl:j=0:=by omega
         exact Stk.refl _
 | succ k ih=>
  intro h
  rcases Nat.lt_or_ge k j with q | q
  ·obtain rfl:j=k+1:=by omega
   exact Stk.refl _
  ·exact (ih q).trans (Zbt _ _ _)
theorem ZdX (s:PS):∀ j,(Zaa L j s).1.length<=j
 | 0=>Nat.le_refl _
 | j+1=>by
  unfold Zaa
  rw [List.length_append]
  have:=ZdX s j
  have:=Zfj (L:=L) ((Zbl[j]?).getD []) (j:Nat) (Zaa L j s).2
  omega
theorem Zgs (s:PS):Zaa L 3 s=((Zn L [97,116] 0 s).1++(Zn L [116,111] 1 (Zn L [97,116] 0 s).2).1++(Zn L [105,110] 2 (Zn L [116,111] 1 (Zn L [97,116] 0 s).2).2).1,(Zn L [105,110] 2 (Zn L [116,111] 1 (Zn L [97,116] 0 s).2).2).2):=by
 have e1:Zaa L 1 s=((Zn L [97,116] 0 s).1,(Zn L [97,116] 0 s).2):=by
  show ([]++(Zn L [97,116] 0 s).1,(Zn L [97,116] 0 s).2)=_
  rw [List.nil_append]
 have e2:Zaa L 2 s=((Zaa L 1 s).1++(Zn L [116,111] 1 (Zaa L 1 s).2).1,(Zn L [116,111] 1 (Zaa L 1 s).2).2):=rfl
 have e3:Zaa L 3 s=((Zaa L 2 s).1++(Zn L [105,110] 2 (Zaa L 2 s).2).1,(Zn L [105,110] 2 (Zaa L 2 s).2).2):=rfl
 rw [e3,e2,e1]
theorem Zf9:∀ j,j<3->∃ nm,Zbl[j]? = some nm/\PW nm/\(Zbl[j]?).getD []=nm:=by
 intro j hj
 have:j=0\/j=1\/j=2:=by omega
 rcases this with rfl | rfl | rfl
 ·exact ⟨_,rfl,Zv _ (by decide),rfl⟩
 ·exact ⟨_,rfl,Zv _ (by decide),rfl⟩
 ·exact ⟨_,rfl,Zv _ (by decide),rfl⟩
theorem ZkH (hL:LaidP w0) (w:World) (s:PS) (d:Int) (h:ParQ w0 w bp ad c L s) (hd:s.deep=d) (h1:isM L [58] (Za L s).2=false) :
  Calls Tryd.prog 39 #[pV bp] w (Zl w0 w bp c ad L (Dd d) s (ZP L s)):=by
 have hpl:=zh (ZQ (L:=L) h.err)
 have HK:=zh hL.keys
 have hR:=zh (show ZP L s=(.mk 5 [(Za L s).1] [] (Zj L s) [],(Za L s).2) by unfold ZP;dsimp only;rw [if_neg (by simp [h1])])
 have HG:=zh (ZbN h.end_ h.lt)
 have BG:=zh (ZK w0 w bp c ad L s h 5)
 have T1:=zh (fun w' h'=>ZR w0 w' bp c ad L s h' HK.out)
 have T3:=zh (fun w' h'=>Zg w0 w' bp c ad L (Za L s).2 h' [58] (ZF _ _ (by decide) (by decide)))
 rw [Zu h1] at T3
 have H:=zh (zi h hd)
 clear h hd hL h1
 go_enter Tryd.func39,Tryd.ntmps39
 go_upto_region 2 with (go_at_call 19;(refine BG.out.mono ?_);rintro e1 wb ⟨b,rfl,T,hb,hB⟩)
 have G1:=zh (Way.start H.out.1 T hb hB)
 rw [hpl.out] at G1
 clear T hb hB
 go_upto_region 3 with (go_at_call 32;(refine (T1.out _ G1.out.P).mono ?_);rintro e2 w1 ⟨hF,hok,hbd⟩;by_cases z:(Za L s).2.err=0;(case neg=>(obtain rfl:=hbd z;exact zi rfl (Zl.bad (G1.out.F.trans hF) (Zbe hR.out) z)));obtain ⟨_,rfl,hP,rfl⟩:=hok z;have G2:=zh (G1.out.call hP hF);obtain ⟨⟨u3,_,q3⟩,_,q4⟩:=G2.out.putA 1 (by decide);clear hP hF hok hbd)
 clear z q3 q4
 have G3:=zh (G2.out.words1 (Za L s).1)
 generalize World.setCell (World.alloc w1 _) _ _=w2 at *
 go_upto_region 4 with (go_at_call 21;(refine (T3.out _ G3.out.P).mono ?_);rintro e2 w3 ⟨rfl,hP,hF⟩;have G4:=zh (G3.out.call hP hF);clear hP hF)
 go_wp2_with fail
 go_ret
 exact Zl.fin HG.out H.out.2 hR.out G4.out.F G4.out.P G4.out.done
theorem Zgc (hL:LaidP w0) (w:World) (s:PS) (d:Int) (h:ParQ w0 w bp ad c L s) (hd:s.deep=d) (h1:isM L [58] (Za L s).2=true) (h2:isM L [108,101,97,115,116] (Zz L (Zo 0) (Za L (Zb (Za L s).2)).2).2=true) :
  Calls Tryd.prog 39 #[pV bp] w (Zl w0 w bp c ad L (Dd d) s (ZP L s)):=by
 have hpl:=zh (ZQ (L:=L) h.err)
 have HK:=zh hL.keys
 have HL:=zh hL
 have hR:=zh (show ZP L s=(.mk 5 [(Za L s).1,(Za L (Zb (Za L s).2)).1] [(Zz L (Zo 0) (Za L (Zb (Za L s).2)).2).1,(Zas L (Zb (Zz L (Zo 0) (Za L (Zb (Za L s).2)).2).2)).1.1,(Zas L (Zb (Zz L (Zo 0) (Za L (Zb (Za L s).2)).2).2)).1.2] (Zj L s) (Zaa L 3 (Zas L (Zb (Zz L (Zo 0) (Za L (Zb (Za L s).2)).2).2)).2).1,(Zaa L 3 (Zas L (Zb (Zz L (Zo 0) (Za L (Zb (Za L s).2)).2).2)).2).2) by rw [Zgs];unfold ZP;dsimp only;rw [if_pos h1];rw [if_pos h2];try rfl)
 have HG:=zh (ZbN h.end_ h.lt)
 have SQ:=zh (show Stk (Zas L (Zb (Zz L (Zo 0) (Za L (Zb (Za L s).2)).2).2)).2 (ZP L s).2 by rw [hR.out];exact Zc8 _ 0 3 (by omega))
 have S4:=SQ
 have S3:=zh (show Stk (Zz L (Zo 0) (Za L (Zb (Za L s).2)).2).2 (ZP L s).2 from ((ZH _).trans (Zgq _)).trans S4.out)
 have S2:=zh (show Stk (Za L (Zb (Za L s).2)).2 (ZP L s).2 from (Zcd _ _).trans S3.out)
 have S1:=zh (show Stk (Za L s).2 (ZP L s).2 from ((ZH _).trans (ZB _)).trans S2.out)
 have BG:=zh (ZK w0 w bp c ad L s h 5)
 have T1:=zh (fun w' h'=>ZR w0 w' bp c ad L s h' HK.out)
 have T3:=zh (fun w' h'=>Zg w0 w' bp c ad L (Za L s).2 h' [58] (ZF _ _ (by decide) (by decide)))
 rw [Zah h1] at T3
 have T5:=zh (fun w' h'=>ZdP w0 w' bp c ad L (Za L (Zb (Za L s).2)).2 h' hL.kinds 0 (by decide))
 have T7:=zh (fun w' h'=>Zg w0 w' bp c ad L (Zz L (Zo 0) (Za L (Zb (Za L s).2)).2).2 h' [108,101,97,115,116] (Zv [108,101,97,115,116] (by decide)))
 rw [Zah h2] at T7
 have H:=zh (zi h hd)
 clear h hd hL h1 h2
 go_enter Tryd.func39,Tryd.ntmps39
 go_upto_region 2 with (go_at_call 19;(refine BG.out.mono ?_);rintro e1 wb ⟨b,rfl,T,hb,hB⟩)
 have G1:=zh (Way.start H.out.1 T hb hB)
 rw [hpl.out] at G1
 clear T hb hB
 go_upto_region 3 with (go_at_call 32;(refine (T1.out _ G1.out.P).mono ?_);rintro e2 w1 ⟨hF,hok,hbd⟩;by_cases z:(Za L s).2.err=0;(case neg=>(obtain rfl:=hbd z;exact zi rfl (Zl.bad (G1.out.F.trans hF) S1.out z)));obtain ⟨_,rfl,hP,rfl⟩:=hok z;have G2:=zh (G1.out.call hP hF);obtain ⟨⟨u3,_,q3⟩,_,q4⟩:=G2.out.putA 1 (by decide);clear hP hF hok hbd)
 clear z q3 q4
 have G3:=zh (G2.out.words1 (Za L s).1)
 generalize World.setCell (World.alloc w1 _) _ _=w2 at *
 go_upto_region 5 with (go_at_call 21;(refine (T3.out _ G3.out.P).mono ?_);rintro e2 w3 ⟨rfl,hP,hF⟩;have G4:=zh (G3.out.call hP hF);clear hP hF)
 refine Zg8 Zab 24 0 3 G4.out (by simp) (fun w1 h1=>ZR w0 w1 bp c ad L (Zb (Za L s).2) h1 HK.out) ?bad (fun x wr hW=>?_)
 case bad=>
  intro z a' w' hd hF
  exact ⟨hd,Zl.bad hF S2.out z⟩
 generalize wr=w4 at *
 have G5:=zh (hW)
 clear hW
 simp only [ZE,cl,Act.put,ZaL]
 go_upto_region 7 with (go_at_call 46;(refine (T5.out _ G5.out.P).mono ?_);rintro e2 w5 ⟨hF,hok,hbd⟩;by_cases z:(Zz L (Zo 0) (Za L (Zb (Za L s).2)).2).2.err=0;(case neg=>(obtain rfl:=hbd z;exact zi rfl (Zl.bad (G5.out.F.trans hF) S3.out z)));obtain ⟨_,rfl,hP,rfl⟩:=hok z;have G6:=zh (G5.out.call hP hF);obtain ⟨⟨u3,_,q3⟩,_,q4⟩:=G6.out.putA 2 (by decide);clear hP hF hok hbd)
 clear z q3 q4
 have G7:=zh (G6.out.nums3 (Zz L (Zo 0) (Za L (Zb (Za L s).2)).2).1 0 0)
 generalize World.setCell (World.alloc w5 _) _ _=w6 at *
 go_upto_region 8 with (go_at_call 21;(refine (T7.out _ G7.out.P).mono ?_);rintro e2 w7 ⟨rfl,hP,hF⟩;have G8:=zh (G7.out.call hP hF);clear hP hF)
 obtain ⟨tp,pv,hv⟩:=HL.out.err
 refine Zk1 Zd9 50 0 3 G8.out (fun w1 h1=>Zfp w0 w1 bp c ad L (Zb (Zz L (Zo 0) (Za L (Zb (Za L s).2)).2).2) h1 tp pv hv) ?bad (fun x wr hW=>?_)
 case bad=>
  intro z a' w' hd hF
  exact ⟨hd,Zl.bad hF S4.out z⟩
 generalize wr=w8 at *
 have G9:=zh (hW)
 clear hW
 simp only [ZE,cl,Act.put,Zaz]
 go_upto_region 10 with fail
 go_loopg [4,67] 3 (fun g v4 v67 wr=>∃ j:Nat,v67=.int .i64 j/\j<=3/\g=3-j/\Way w0 w wr bp c ad L (Zaa L j (Zas L (Zb (Zz L (Zo 0) (Za L (Zb (Za L s).2)).2).2)).2).2 5 [(Za L s).1,(Za L (Zb (Za L s).2)).1] [(Zz L (Zo 0) (Za L (Zb (Za L s).2)).2).1,(Zas L (Zb (Zz L (Zo 0) (Za L (Zb (Za L s).2)).2).2)).1.1,(Zas L (Zb (Zz L (Zo 0) (Za L (Zb (Za L s).2)).2).2)).1.2] (Zj L s) (Zaa L j (Zas L (Zb (Zz L (Zo 0) (Za L (Zb (Za L s).2)).2).2)).2).1 b [])
 case atStart=>exact ⟨0,rfl,by omega,rfl,G9.out⟩
 case round=>
  obtain ⟨j,rfl,hj,hg,hW⟩:=hrel
  have HW:=zh hW
  clear hW
  rcases Nat.lt_or_ge j 3 with h3 | h3
  ·obtain ⟨nm,e1,e2,e3⟩:=Zf9 j h3
   have i0:((j:Int)<3):=by omega
   have wj:IntKind.i64.wrap ((j:Int)+1)=(j:Int)+1:=IntWalk.i64_in _ (by omega)
   have NM:=zh (Zdu HL.out wr (Zaa L j (Zas L (Zb (Zz L (Zo 0) (Za L (Zb (Za L s).2)).2).2)).2).2 nm j e1 e2 (by have:=ZdX (L:=L) (Zas L (Zb (Zz L (Zo 0) (Za L (Zb (Za L s).2)).2).2)).2 j;omega) HW.out)
   have ST:Zaa L (j+1) (Zas L (Zb (Zz L (Zo 0) (Za L (Zb (Za L s).2)).2).2)).2=((Zaa L j (Zas L (Zb (Zz L (Zo 0) (Za L (Zb (Za L s).2)).2).2)).2).1++(Zn L nm (j:Nat) (Zaa L j (Zas L (Zb (Zz L (Zo 0) (Za L (Zb (Za L s).2)).2).2)).2).2).1,(Zn L nm (j:Nat) (Zaa L j (Zas L (Zb (Zz L (Zo 0) (Za L (Zb (Za L s).2)).2).2)).2).2).2):=by show (_,_)=(_,_);rw [e3]
   have HS:=zh ST
   have HJ:=zh (zi h3 hg)
   clear ST e1 e2 e3 h3 hg hj
   go_wp2_with (go_at_call 48;(refine NM.out.mono ?_);rintro e2 w9 ⟨hF,hok,hbd⟩;by_cases z:(Zn L nm (j:Nat) (Zaa L j (Zas L (Zb (Zz L (Zo 0) (Za L (Zb (Za L s).2)).2).2)).2).2).2.err=0;(case neg=>(obtain rfl:=hbd z;exact zi rfl (Zl.bad hF (by rw [hR.out];have h4:=Zc8 (L:=L) (Zas L (Zb (Zz L (Zo 0) (Za L (Zb (Za L s).2)).2).2)).2 (j+1) 3 (by have:=HJ.out;omega);rw [HS.out] at h4;exact h4) z)));obtain ⟨rfl,hW9⟩:=hok z;have G9:=zh hW9;clear hF hok hbd hW9 z)
   go_roundg (3-(j+1))
   case measure=>have:=HJ.out;omega
   case rel=>exact ⟨j+1,by push_cast;rfl,by have:=HJ.out;omega,rfl,by rw [HS.out];exact G9.out⟩
  ·obtain rfl:j=3:=by omega
   clear hj hg h3
   go_wp2_with fail
   go_ret
   exact Zl.fin HG.out H.out.2 hR.out HW.out.F HW.out.P HW.out.done
theorem Zgd (hL:LaidP w0) (w:World) (s:PS) (d:Int) (h:ParQ w0 w bp ad c L s) (hd:s.deep=d) (h1:isM L [58] (Za L s).2=true) (h2:isM L [108,101,97,115,116] (Zz L (Zo 0) (Za L (Zb (Za L s).2)).2).2=false) :
  Calls Tryd.prog 39 #[pV bp] w (Zl w0 w bp c ad L (Dd d) s (ZP L s)):=by
 have hpl:=zh (ZQ (L:=L) h.err)
 have HK:=zh hL.keys
 have HL:=zh hL
 have hR:=zh (show ZP L s=(.mk 5 [(Za L s).1,(Za L (Zb (Za L s).2)).1] [(Zz L (Zo 0) (Za L (Zb (Za L s).2)).2).1,0,0] (Zj L s) (Zaa L 3 (Zz L (Zo 0) (Za L (Zb (Za L s).2)).2).2).1,(Zaa L 3 (Zz L (Zo 0) (Za L (Zb (Za L s).2)).2).2).2) by rw [Zgs];unfold ZP;dsimp only;rw [if_pos h1];rw [if_neg (by simp [h2])];try rfl)
 have HG:=zh (ZbN h.end_ h.lt)
 have SQ:=zh (show Stk (Zz L (Zo 0) (Za L (Zb (Za L s).2)).2).2 (ZP L s).2 by rw [hR.out];exact Zc8 _ 0 3 (by omega))
 have S3:=SQ
 have S2:=zh (show Stk (Za L (Zb (Za L s).2)).2 (ZP L s).2 from (Zcd _ _).trans S3.out)
 have S1:=zh (show Stk (Za L s).2 (ZP L s).2 from ((ZH _).trans (ZB _)).trans S2.out)
 have BG:=zh (ZK w0 w bp c ad L s h 5)
 have T1:=zh (fun w' h'=>ZR w0 w' bp c ad L s h' HK.out)
 have T3:=zh (fun w' h'=>Zg w0 w' bp c ad L (Za L s).2 h' [58] (ZF _ _ (by decide) (by decide)))
 rw [Zah h1] at T3
 have T5:=zh (fun w' h'=>ZdP w0 w' bp c ad L (Za L (Zb (Za L s).2)).2 h' hL.kinds 0 (by decide))
 have T7:=zh (fun w' h'=>Zg w0 w' bp c ad L (Zz L (Zo 0) (Za L (Zb (Za L s).2)).2).2 h' [108,101,97,115,116] (Zv [108,101,97,115,116] (by decide)))
 rw [Zu h2] at T7
 have H:=zh (zi h hd)
 clear h hd hL h1 h2
 go_enter Tryd.func39,Tryd.ntmps39
 go_upto_region 2 with (go_at_call 19;(refine BG.out.mono ?_);rintro e1 wb ⟨b,rfl,T,hb,hB⟩)
 have G1:=zh (Way.start H.out.1 T hb hB)
 rw [hpl.out] at G1
 clear T hb hB
 go_upto_region 3 with (go_at_call 32;(refine (T1.out _ G1.out.P).mono ?_);rintro e2 w1 ⟨hF,hok,hbd⟩;by_cases z:(Za L s).2.err=0;(case neg=>(obtain rfl:=hbd z;exact zi rfl (Zl.bad (G1.out.F.trans hF) S1.out z)));obtain ⟨_,rfl,hP,rfl⟩:=hok z;have G2:=zh (G1.out.call hP hF);obtain ⟨⟨u3,_,q3⟩,_,q4⟩:=G2.out.putA 1 (by decide);clear hP hF hok hbd)
 clear z q3 q4
 have G3:=zh (G2.out.words1 (Za L s).1)
 generalize World.setCell (World.alloc w1 _) _ _=w2 at *
 go_upto_region 5 with (go_at_call 21;(refine (T3.out _ G3.out.P).mono ?_);rintro e2 w3 ⟨rfl,hP,hF⟩;have G4:=zh (G3.out.call hP hF);clear hP hF)
 refine Zg8 Zab 24 0 3 G4.out (by simp) (fun w1 h1=>ZR w0 w1 bp c ad L (Zb (Za L s).2) h1 HK.out) ?bad (fun x wr hW=>?_)
 case bad=>
  intro z a' w' hd hF
  exact ⟨hd,Zl.bad hF S2.out z⟩
 generalize wr=w4 at *
 have G5:=zh (hW)
 clear hW
 simp only [ZE,cl,Act.put,ZaL]
 go_upto_region 7 with (go_at_call 46;(refine (T5.out _ G5.out.P).mono ?_);rintro e2 w5 ⟨hF,hok,hbd⟩;by_cases z:(Zz L (Zo 0) (Za L (Zb (Za L s).2)).2).2.err=0;(case neg=>(obtain rfl:=hbd z;exact zi rfl (Zl.bad (G5.out.F.trans hF) S3.out z)));obtain ⟨_,rfl,hP,rfl⟩:=hok z;have G6:=zh (G5.out.call hP hF);obtain ⟨⟨u3,_,q3⟩,_,q4⟩:=G6.out.putA 2 (by decide);clear hP hF hok hbd)
 clear z q3 q4
 have G7:=zh (G6.out.nums3 (Zz L (Zo 0) (Za L (Zb (Za L s).2)).2).1 0 0)
 generalize World.setCell (World.alloc w5 _) _ _=w6 at *
 go_upto_region 9 with (go_at_call 21;(refine (T7.out _ G7.out.P).mono ?_);rintro e2 w7 ⟨rfl,hP,hF⟩;have G8:=zh (G7.out.call hP hF);clear hP hF)
 go_upto_region 10 with fail
 go_loopg [4,67] 3 (fun g v4 v67 wr=>∃ j:Nat,v67=.int .i64 j/\j<=3/\g=3-j/\Way w0 w wr bp c ad L (Zaa L j (Zz L (Zo 0) (Za L (Zb (Za L s).2)).2).2).2 5 [(Za L s).1,(Za L (Zb (Za L s).2)).1] [(Zz L (Zo 0) (Za L (Zb (Za L s).2)).2).1,0,0] (Zj L s) (Zaa L j (Zz L (Zo 0) (Za L (Zb (Za L s).2)).2).2).1 b [])
 case atStart=>exact ⟨0,rfl,by omega,rfl,G8.out⟩
 case round=>
  obtain ⟨j,rfl,hj,hg,hW⟩:=hrel
  have HW:=zh hW
  clear hW
  rcases Nat.lt_or_ge j 3 with h3 | h3
  ·obtain ⟨nm,e1,e2,e3⟩:=Zf9 j h3
   have i0:((j:Int)<3):=by omega
   have wj:IntKind.i64.wrap ((j:Int)+1)=(j:Int)+1:=IntWalk.i64_in _ (by omega)
   have NM:=zh (Zdu HL.out wr (Zaa L j (Zz L (Zo 0) (Za L (Zb (Za L s).2)).2).2).2 nm j e1 e2 (by have:=ZdX (L:=L) (Zz L (Zo 0) (Za L (Zb (Za L s).2)).2).2 j;omega) HW.out)
   have ST:Zaa L (j+1) (Zz L (Zo 0) (Za L (Zb (Za L s).2)).2).2=((Zaa L j (Zz L (Zo 0) (Za L (Zb (Za L s).2)).2).2).1++(Zn L nm (j:Nat) (Zaa L j (Zz L (Zo 0) (Za L (Zb (Za L s).2)).2).2).2).1,(Zn L nm (j:Nat) (Zaa L j (Zz L (Zo 0) (Za L (Zb (Za L s).2)).2).2).2).2):=by show (_,_)=(_,_);rw [e3]
   have HS:=zh ST
   have HJ:=zh (zi h3 hg)
   clear ST e1 e2 e3 h3 hg hj
   go_wp2_with (go_at_call 48;(refine NM.out.mono ?_);rintro e2 w9 ⟨hF,hok,hbd⟩;by_cases z:(Zn L nm (j:Nat) (Zaa L j (Zz L (Zo 0) (Za L (Zb (Za L s).2)).2).2).2).2.err=0;(case neg=>(obtain rfl:=hbd z;exact zi rfl (Zl.bad hF (by rw [hR.out];have h4:=Zc8 (L:=L) (Zz L (Zo 0) (Za L (Zb (Za L s).2)).2).2 (j+1) 3 (by have:=HJ.out;omega);rw [HS.out] at h4;exact h4) z)));obtain ⟨rfl,hW9⟩:=hok z;have G9:=zh hW9;clear hF hok hbd hW9 z)
   go_roundg (3-(j+1))
   case measure=>have:=HJ.out;omega
   case rel=>exact ⟨j+1,by push_cast;rfl,by have:=HJ.out;omega,rfl,by rw [HS.out];exact G9.out⟩
  ·obtain rfl:j=3:=by omega
   clear hj hg h3
   go_wp2_with fail
   go_ret
   exact Zl.fin HG.out H.out.2 hR.out HW.out.F HW.out.P HW.out.done
theorem ZiF (hL:LaidP w0) (d:Int):Zw w0 bp c ad L 39 #[pV bp] (Dd (d)) (ZP L):=fun w s h hd=>by
 cases h1:isM L [58] (Za L s).2 with
 | false=>exact ZkH hL w s d h hd h1
 | true=>
  cases h2:isM L [108,101,97,115,116] (Zz L (Zo 0) (Za L (Zb (Za L s).2)).2).2 with
  | true=>exact Zgc hL w s d h hd h1 h2
  | false=>exact Zgd hL w s d h hd h1 h2
end
end
end Go.Proofs.YtfdgeijnkkdplaaDoor
