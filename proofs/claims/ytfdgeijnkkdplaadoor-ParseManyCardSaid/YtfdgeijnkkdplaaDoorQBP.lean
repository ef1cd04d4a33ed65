import Derived.Test.YtfdgeijnkkdplaaDoorQBH
import Derived.Test.YtfdgeijnkkdplaaDoorQBO
set_option maxRecDepth 100000
set_option maxHeartbeats 8000000
namespace Go.Proofs.YtfdgeijnkkdplaaDoor
section
open Go Go.RowKit
section
variable {w0:World} {bp c:Nat} {ad:Addr} {L:List Tok}
theorem ZkL (hL:LaidP w0) (w:World) (s:PS) (d:Int) (h:ParQ w0 w bp ad c L s) (hd:s.deep=d) (ex:PS->Tr×PS) (f:Nat) (hex:ZJ ex) (hX:Zw w0 bp c ad L 62 #[pV bp] (Dd (d)) (ex)) (hA:Zw w0 bp c ad L 67 #[pV bp] (Dd (d)) (ZV L ex)) (hAgo:∀ s,s.deep=d->s.at_<L.length->s.err=0->Gon L s (ZV L ex s).2) (hB:Zw w0 bp c ad L 40 #[pV bp] (Dd (d)) (Zm L (Zh L ex f))) (hO:Zw w0 bp c ad L 65 #[pV bp] (Dd (d)) (Zax L (Zh L ex f))) (hgo:Gon L s (Zh L ex (f+1) s).2) (hk:isM L [108,101,116] s=true) :
  Calls Tryd.prog 52 #[pV bp] w (Zl w0 w bp c ad L (Dd d) s (Zh L ex (f+1) s)):=by
 have hpl:=zh (ZQ (L:=L) h.err)
 have f_open:isM L [111,112,101,110] s=false:=Zk hk (by decide)
 have f_do:isM L [100,111] s=false:=Zk hk (by decide)
 have f_split:isM L [115,112,108,105,116] s=false:=Zk hk (by decide)
 have f_call:isM L [99,97,108,108] s=false:=Zk hk (by decide)
 have f_if:isM L [105,102] s=false:=Zk hk (by decide)
 have f_while:isM L [119,104,105,108,101] s=false:=Zk hk (by decide)
 have f_return:isM L [114,101,116,117,114,110] s=false:=Zk hk (by decide)
 have f_exit:isM L [101,120,105,116] s=false:=Zk hk (by decide)
 have hR:=zh (show Zbh (ZcS L ex 8 (Zj L s) (Zb s)) (Zh L ex (f+1) s) from Zbh.of (show Zh L ex (f+1) s=ZcS L ex 8 (Zj L s) (Zb s) by rw [Zh];dsimp only;rw [if_pos hk];rfl))
 have HG:=zh hgo
 have HX:=zh (zi hL (zi (show (Zb s).deep=d from hd) (zi hex (zi hX (zi hB (zi hO (zi hA hAgo)))))))
 have BG:=zh (ZK w0 w bp c ad L s h 9)
 have T1:=zh (fun w' h'=>Zg w0 w' bp c ad L s h' [108,101,116] (Zv [108,101,116] (by decide)))
 rw [Zah hk] at T1
 have H:=zh (zi h hd)
 clear h hd hL hex hX hA hAgo hB hO hgo hk f_open f_do f_split f_call f_if f_while f_return f_exit
 go_enter Tryd.func52,Tryd.ntmps52
 go_upto_region 3 with (go_at_call 19;(refine BG.out.mono ?_);rintro e1 wb ⟨b,rfl,T,hb,hB⟩)
 have G1:=zh (Way.start H.out.1 T hb hB)
 rw [hpl.out] at G1
 clear T hb hB
 go_upto_region 4 with (go_at_call 21;(refine (T1.out _ G1.out.P).mono ?_);rintro e2 w1 ⟨rfl,hP,hF⟩;have G2:=zh (G1.out.call hP hF);clear hP hF)
 obtain ⟨⟨u3,q3,_⟩,q4,_⟩:=G2.out.putA 0 (by decide)
 go_upto_region 5 with fail
 clear q3 q4
 have G3:=zh (G2.out.kind 8)
 generalize World.setCell _ ⟨b,0,none⟩ (.int .i64 8)=w2 at *
 have SB:=zh (Zgh HX.out.1 _ (Zb s) d HX.out.2.1 G3.out ex HX.out.2.2.1 HX.out.2.2.2.1)
 go_upto_region 26 with (go_at_call 56;(refine SB.out.mono ?_);rintro e3 w99 ⟨hF,hok,hbd⟩;by_cases z:(ZcS L ex 8 (Zj L s) (Zb s)).2.err=0;(case neg=>(obtain rfl:=hbd z;exact zi rfl (Zl.badq hF hR.out z)));obtain ⟨rfl,hW⟩:=hok z;have G99:=zh hW;clear hF hok hbd hW z)
 go_wp2_with fail
 go_ret
 exact Zl.finq HG.out H.out.2 hR.out G99.out
theorem ZiN (hL:LaidP w0) (w:World) (s:PS) (d:Int) (h:ParQ w0 w bp ad c L s) (hd:s.deep=d) (ex:PS->Tr×PS) (f:Nat) (hex:ZJ ex) (hX:Zw w0 bp c ad L 62 #[pV bp] (Dd (d)) (ex)) (hA:Zw w0 bp c ad L 67 #[pV bp] (Dd (d)) (ZV L ex)) (hAgo:∀ s,s.deep=d->s.at_<L.length->s.err=0->Gon L s (ZV L ex s).2) (hB:Zw w0 bp c ad L 40 #[pV bp] (Dd (d)) (Zm L (Zh L ex f))) (hO:Zw w0 bp c ad L 65 #[pV bp] (Dd (d)) (Zax L (Zh L ex f))) (hgo:Gon L s (Zh L ex (f+1) s).2) (hk:isM L [111,112,101,110] s=true) :
  Calls Tryd.prog 52 #[pV bp] w (Zl w0 w bp c ad L (Dd d) s (Zh L ex (f+1) s)):=by
 have hpl:=zh (ZQ (L:=L) h.err)
 have f_let:isM L [108,101,116] s=false:=Zk hk (by decide)
 have f_do:isM L [100,111] s=false:=Zk hk (by decide)
 have f_split:isM L [115,112,108,105,116] s=false:=Zk hk (by decide)
 have f_call:isM L [99,97,108,108] s=false:=Zk hk (by decide)
 have f_if:isM L [105,102] s=false:=Zk hk (by decide)
 have f_while:isM L [119,104,105,108,101] s=false:=Zk hk (by decide)
 have f_return:isM L [114,101,116,117,114,110] s=false:=Zk hk (by decide)
 have f_exit:isM L [101,120,105,116] s=false:=Zk hk (by decide)
 have hR:=zh (show Zbh (Zc4 L (Zh L ex f) (Zj L s) (Zb s)) (Zh L ex (f+1) s) from Zbh.of (show Zh L ex (f+1) s=Zc4 L (Zh L ex f) (Zj L s) (Zb s) by rw [Zh];dsimp only;rw [if_neg (by simp [f_let]),if_neg (by simp [ZbY hk (by decide)]),if_pos hk];first | done | rfl))
 have HG:=zh hgo
 have HX:=zh (zi hL (zi (show (Zb s).deep=d from hd) (zi hex (zi hX (zi hB (zi hO (zi hA hAgo)))))))
 have BG:=zh (ZK w0 w bp c ad L s h 9)
 have T1:=zh (fun w' h'=>Zg w0 w' bp c ad L s h' [108,101,116] (Zv [108,101,116] (by decide)))
 rw [Zu f_let] at T1
 have T2:=zh (fun w' h'=>Zg w0 w' bp c ad L s h' [111,112,101,110] (Zv [111,112,101,110] (by decide)))
 rw [Zah hk] at T2
 have H:=zh (zi h hd)
 clear h hd hL hex hX hA hAgo hB hO hgo hk f_let f_do f_split f_call f_if f_while f_return f_exit
 go_enter Tryd.func52,Tryd.ntmps52
 go_upto_region 3 with (go_at_call 19;(refine BG.out.mono ?_);rintro e1 wb ⟨b,rfl,T,hb,hB⟩)
 have G1:=zh (Way.start H.out.1 T hb hB)
 rw [hpl.out] at G1
 clear T hb hB
 go_upto_region 6 with (go_at_call 21;(refine (T1.out _ G1.out.P).mono ?_);rintro e2 w1 ⟨rfl,hP,hF⟩;have G2:=zh (G1.out.call hP hF);clear hP hF)
 go_upto_region 7 with (go_at_call 21;(refine (T2.out _ G2.out.P).mono ?_);rintro e2 w2 ⟨rfl,hP,hF⟩;have G3:=zh (G2.out.call hP hF);clear hP hF)
 have SB:=zh (ZkG HX.out.1 _ (Zb s) d HX.out.2.1 G3.out (Zh L ex f) (ZaT HX.out.2.2.1 f) HX.out.2.2.2.2.1)
 go_upto_region 26 with (go_at_call 57;(refine SB.out.mono ?_);rintro e3 w99 ⟨hF,hok,hbd⟩;by_cases z:(Zc4 L (Zh L ex f) (Zj L s) (Zb s)).2.err=0;(case neg=>(obtain rfl:=hbd z;exact zi rfl (Zl.badq hF hR.out z)));obtain ⟨rfl,hW⟩:=hok z;have G99:=zh hW;clear hF hok hbd hW z)
 go_wp2_with fail
 go_ret
 exact Zl.finq HG.out H.out.2 hR.out G99.out
theorem Zlo (hL:LaidP w0) (w:World) (s:PS) (d:Int) (h:ParQ w0 w bp ad c L s) (hd:s.deep=d) (ex:PS->Tr×PS) (f:Nat) (hex:ZJ ex) (hX:Zw w0 bp c ad L 62 #[pV bp] (Dd (d)) (ex)) (hA:Zw w0 bp c ad L 67 #[pV bp] (Dd (d)) (ZV L ex)) (hAgo:∀ s,s.deep=d->s.at_<L.length->s.err=0->Gon L s (ZV L ex s).2) (hB:Zw w0 bp c ad L 40 #[pV bp] (Dd (d)) (Zm L (Zh L ex f))) (hO:Zw w0 bp c ad L 65 #[pV bp] (Dd (d)) (Zax L (Zh L ex f))) (hgo:Gon L s (Zh L ex (f+1) s).2) (hk:isM L [100,111] s=true) :
  Calls Tryd.prog 52 #[pV bp] w (Zl w0 w bp c ad L (Dd d) s (Zh L ex (f+1) s)):=by
 have hpl:=zh (ZQ (L:=L) h.err)
 have f_let:isM L [108,101,116] s=false:=Zk hk (by decide)
 have f_open:isM L [111,112,101,110] s=false:=Zk hk (by decide)
 have f_split:isM L [115,112,108,105,116] s=false:=Zk hk (by decide)
 have f_call:isM L [99,97,108,108] s=false:=Zk hk (by decide)
 have f_if:isM L [105,102] s=false:=Zk hk (by decide)
 have f_while:isM L [119,104,105,108,101] s=false:=Zk hk (by decide)
 have f_return:isM L [114,101,116,117,114,110] s=false:=Zk hk (by decide)
 have f_exit:isM L [101,120,105,116] s=false:=Zk hk (by decide)
 have hR:=zh (show Zbh (doM L (Zh L ex f) (Zj L s) (Zb s)) (Zh L ex (f+1) s) from Zbh.of (show Zh L ex (f+1) s=doM L (Zh L ex f) (Zj L s) (Zb s) by rw [Zh];dsimp only;rw [if_neg (by simp [f_let]),if_neg (by simp [ZbY hk (by decide)]),if_neg (by simp [f_open]),if_pos hk];first | done | rfl))
 have HG:=zh hgo
 have HX:=zh (zi hL (zi (show (Zb s).deep=d from hd) (zi hex (zi hX (zi hB (zi hO (zi hA hAgo)))))))
 have BG:=zh (ZK w0 w bp c ad L s h 9)
 have T1:=zh (fun w' h'=>Zg w0 w' bp c ad L s h' [108,101,116] (Zv [108,101,116] (by decide)))
 rw [Zu f_let] at T1
 have T2:=zh (fun w' h'=>Zg w0 w' bp c ad L s h' [111,112,101,110] (Zv [111,112,101,110] (by decide)))
 rw [Zu f_open] at T2
 have T3:=zh (fun w' h'=>Zg w0 w' bp c ad L s h' [100,111] (Zv [100,111] (by decide)))
 rw [Zah hk] at T3
 have H:=zh (zi h hd)
 clear h hd hL hex hX hA hAgo hB hO hgo hk f_let f_open f_split f_call f_if f_while f_return f_exit
 go_enter Tryd.func52,Tryd.ntmps52
 go_upto_region 3 with (go_at_call 19;(refine BG.out.mono ?_);rintro e1 wb ⟨b,rfl,T,hb,hB⟩)
 have G1:=zh (Way.start H.out.1 T hb hB)
 rw [hpl.out] at G1
 clear T hb hB
 go_upto_region 6 with (go_at_call 21;(refine (T1.out _ G1.out.P).mono ?_);rintro e2 w1 ⟨rfl,hP,hF⟩;have G2:=zh (G1.out.call hP hF);clear hP hF)
 go_upto_region 8 with (go_at_call 21;(refine (T2.out _ G2.out.P).mono ?_);rintro e2 w2 ⟨rfl,hP,hF⟩;have G3:=zh (G2.out.call hP hF);clear hP hF)
 go_upto_region 9 with (go_at_call 21;(refine (T3.out _ G3.out.P).mono ?_);rintro e2 w3 ⟨rfl,hP,hF⟩;have G4:=zh (G3.out.call hP hF);clear hP hF)
 have SB:=zh (Zl5 HX.out.1 _ (Zb s) d HX.out.2.1 G4.out (Zh L ex f) (ZaT HX.out.2.2.1 f) HX.out.2.2.2.2.2.1)
 go_upto_region 26 with (go_at_call 58;(refine SB.out.mono ?_);rintro e3 w99 ⟨hF,hok,hbd⟩;by_cases z:(doM L (Zh L ex f) (Zj L s) (Zb s)).2.err=0;(case neg=>(obtain rfl:=hbd z;exact zi rfl (Zl.badq hF hR.out z)));obtain ⟨rfl,hW⟩:=hok z;have G99:=zh hW;clear hF hok hbd hW z)
 go_wp2_with fail
 go_ret
 exact Zl.finq HG.out H.out.2 hR.out G99.out
theorem Zhs (hL:LaidP w0) (w:World) (s:PS) (d:Int) (h:ParQ w0 w bp ad c L s) (hd:s.deep=d) (ex:PS->Tr×PS) (f:Nat) (hex:ZJ ex) (hX:Zw w0 bp c ad L 62 #[pV bp] (Dd (d)) (ex)) (hA:Zw w0 bp c ad L 67 #[pV bp] (Dd (d)) (ZV L ex)) (hAgo:∀ s,s.deep=d->s.at_<L.length->s.err=0->Gon L s (ZV L ex s).2) (hB:Zw w0 bp c ad L 40 #[pV bp] (Dd (d)) (Zm L (Zh L ex f))) (hO:Zw w0 bp c ad L 65 #[pV bp] (Dd (d)) (Zax L (Zh L ex f))) (hgo:Gon L s (Zh L ex (f+1) s).2) (hk:isM L [115,112,108,105,116] s=true) :
  Calls Tryd.prog 52 #[pV bp] w (Zl w0 w bp c ad L (Dd d) s (Zh L ex (f+1) s)):=by
 have hpl:=zh (ZQ (L:=L) h.err)
 have f_let:isM L [108,101,116] s=false:=Zk hk (by decide)
 have f_open:isM L [111,112,101,110] s=false:=Zk hk (by decide)
 have f_do:isM L [100,111] s=false:=Zk hk (by decide)
 have f_call:isM L [99,97,108,108] s=false:=Zk hk (by decide)
 have f_if:isM L [105,102] s=false:=Zk hk (by decide)
 have f_while:isM L [119,104,105,108,101] s=false:=Zk hk (by decide)
 have f_return:isM L [114,101,116,117,114,110] s=false:=Zk hk (by decide)
 have f_exit:isM L [101,120,105,116] s=false:=Zk hk (by decide)
 have hR:=zh (show Zbh (Za8 L (Zh L ex f) (Zj L s) (Zb s)) (Zh L ex (f+1) s) from Zbh.of (show Zh L ex (f+1) s=Za8 L (Zh L ex f) (Zj L s) (Zb s) by rw [Zh];dsimp only;rw [if_neg (by simp [f_let]),if_neg (by simp [ZbY hk (by decide)]),if_neg (by simp [f_open]),if_neg (by simp [f_do]),if_pos hk];first | done | rfl))
 have HG:=zh hgo
 have HX:=zh (zi hL (zi (show (Zb s).deep=d from hd) (zi hex (zi hX (zi hB (zi hO (zi hA hAgo)))))))
 have BG:=zh (ZK w0 w bp c ad L s h 9)
 have T1:=zh (fun w' h'=>Zg w0 w' bp c ad L s h' [108,101,116] (Zv [108,101,116] (by decide)))
 rw [Zu f_let] at T1
 have T2:=zh (fun w' h'=>Zg w0 w' bp c ad L s h' [111,112,101,110] (Zv [111,112,101,110] (by decide)))
 rw [Zu f_open] at T2
 have T3:=zh (fun w' h'=>Zg w0 w' bp c ad L s h' [100,111] (Zv [100,111] (by decide)))
 rw [Zu f_do] at T3
 have T4:=zh (fun w' h'=>Zg w0 w' bp c ad L s h' [115,112,108,105,116] (Zv [115,112,108,105,116] (by decide)))
 rw [Zah hk] at T4
 have H:=zh (zi h hd)
 clear h hd hL hex hX hA hAgo hB hO hgo hk f_let f_open f_do f_call f_if f_while f_return f_exit
 go_enter Tryd.func52,Tryd.ntmps52
 go_upto_region 3 with (go_at_call 19;(refine BG.out.mono ?_);rintro e1 wb ⟨b,rfl,T,hb,hB⟩)
 have G1:=zh (Way.start H.out.1 T hb hB)
 rw [hpl.out] at G1
 clear T hb hB
 go_upto_region 6 with (go_at_call 21;(refine (T1.out _ G1.out.P).mono ?_);rintro e2 w1 ⟨rfl,hP,hF⟩;have G2:=zh (G1.out.call hP hF);clear hP hF)
 go_upto_region 8 with (go_at_call 21;(refine (T2.out _ G2.out.P).mono ?_);rintro e2 w2 ⟨rfl,hP,hF⟩;have G3:=zh (G2.out.call hP hF);clear hP hF)
 go_upto_region 10 with (go_at_call 21;(refine (T3.out _ G3.out.P).mono ?_);rintro e2 w3 ⟨rfl,hP,hF⟩;have G4:=zh (G3.out.call hP hF);clear hP hF)
 go_upto_region 11 with (go_at_call 21;(refine (T4.out _ G4.out.P).mono ?_);rintro e2 w4 ⟨rfl,hP,hF⟩;have G5:=zh (G4.out.call hP hF);clear hP hF)
 have SB:=zh (ZiK HX.out.1 _ (Zb s) d HX.out.2.1 G5.out (Zh L ex f) (ZaT HX.out.2.2.1 f) HX.out.2.2.2.2.1 (fun _=>(ZhQ _ _ _).trans ((Zki _).trans ((Ze7 _ _).trans ((Zaj _).trans ((Za1 _ _).trans ((Zaj _).trans HX.out.2.1)))))))
 go_upto_region 26 with (go_at_call 59;(refine SB.out.mono ?_);rintro e3 w99 ⟨hF,hok,hbd⟩;by_cases z:(Za8 L (Zh L ex f) (Zj L s) (Zb s)).2.err=0;(case neg=>(obtain rfl:=hbd z;exact zi rfl (Zl.badq hF hR.out z)));obtain ⟨rfl,hW⟩:=hok z;have G99:=zh hW;clear hF hok hbd hW z)
 go_wp2_with fail
 go_ret
 exact Zl.finq HG.out H.out.2 hR.out G99.out
end
end
end Go.Proofs.YtfdgeijnkkdplaaDoor
