import Derived.Test.YtfdgeijnkkdplaaDoorQBH
import Derived.Test.YtfdgeijnkkdplaaDoorQBO
set_option maxRecDepth 100000
set_option maxHeartbeats 8000000
namespace Go.Proofs.YtfdgeijnkkdplaaDoor
section
open Go Go.RowKit
section
variable {w0:World} {bp c:Nat} {ad:Addr} {L:List Tok}
theorem ZiL (hL:LaidP w0) (w:World) (s:PS) (d:Int) (h:ParQ w0 w bp ad c L s) (hd:s.deep=d) (ex:PS->Tr×PS) (f:Nat) (hex:ZJ ex) (hX:Zw w0 bp c ad L 62 #[pV bp] (Dd (d)) (ex)) (hA:Zw w0 bp c ad L 67 #[pV bp] (Dd (d)) (ZV L ex)) (hAgo:∀ s,s.deep=d->s.at_<L.length->s.err=0->Gon L s (ZV L ex s).2) (hB:Zw w0 bp c ad L 40 #[pV bp] (Dd (d)) (Zm L (Zh L ex f))) (hO:Zw w0 bp c ad L 65 #[pV bp] (Dd (d)) (Zax L (Zh L ex f))) (hgo:Gon L s (Zh L ex (f+1) s).2) (hk:isM L [99,97,108,108] s=true) :
  Calls Tryd.prog 52 #[pV bp] w (Zl w0 w bp c ad L (Dd d) s (Zh L ex (f+1) s)):=by
 have hpl:=zh (ZQ (L:=L) h.err)
 have f_let:isM L [108,101,116] s=false:=Zk hk (by decide)
 have f_open:isM L [111,112,101,110] s=false:=Zk hk (by decide)
 have f_do:isM L [100,111] s=false:=Zk hk (by decide)
 have f_split:isM L [115,112,108,105,116] s=false:=Zk hk (by decide)
 have f_if:isM L [105,102] s=false:=Zk hk (by decide)
 have f_while:isM L [119,104,105,108,101] s=false:=Zk hk (by decide)
 have f_return:isM L [114,101,116,117,114,110] s=false:=Zk hk (by decide)
 have f_exit:isM L [101,120,105,116] s=false:=Zk hk (by decide)
 have hR:=zh (show Zbh (Za4 L ex (Zj L s) (Zb s)) (Zh L ex (f+1) s) from Zbh.of (show Zh L ex (f+1) s=Za4 L ex (Zj L s) (Zb s) by rw [Zh];dsimp only;rw [if_neg (by simp [f_let]),if_neg (by simp [ZbY hk (by decide)]),if_neg (by simp [f_open]),if_neg (by simp [f_do]),if_neg (by simp [f_split]),if_pos hk];first | done | rfl))
 have HG:=zh hgo
 have HX:=zh (zi hL (zi (show (Zb s).deep=d from hd) (zi hex (zi hX (zi hB (zi hO (zi hA hAgo)))))))
 have BG:=zh (ZK w0 w bp c ad L s h 9)
 have T1:=zh (fun w' h'=>Zg w0 w' bp c ad L s h' [108,101,116] (Zv [108,101,116] (by decide)))
 rw [Zu f_let] at T1
 have T2:=zh (fun w' h'=>Zg w0 w' bp c ad L s h' [111,112,101,110] (Zv [111,112,101,110] (by decide)))
 rw [Zu f_open] at T2
 have T3:=zh (fun w' h'=>Zg w0 w' bp c ad L s h' [100,111] (Zv [100,111] (by decide)))
 rw [Zu f_do] at T3
 have T4:=zh (fun w' h'=>Zg w0 w' bp c ad L s h' [115,112,108,105,116] (Zv [115,112,108,105,116] (by decide)))
 rw [Zu f_split] at T4
 have T5:=zh (fun w' h'=>Zg w0 w' bp c ad L s h' [99,97,108,108] (Zv [99,97,108,108] (by decide)))
 rw [Zah hk] at T5
 have H:=zh (zi h hd)
 clear h hd hL hex hX hA hAgo hB hO hgo hk f_let f_open f_do f_split f_if f_while f_return f_exit
 go_enter Tryd.func52,Tryd.ntmps52
 go_upto_region 3 with (go_at_call 19;(refine BG.out.mono ?_);rintro e1 wb ⟨b,rfl,T,hb,hB⟩)
 have G1:=zh (Way.start H.out.1 T hb hB)
 rw [hpl.out] at G1
 clear T hb hB
 go_upto_region 6 with (go_at_call 21;(refine (T1.out _ G1.out.P).mono ?_);rintro e2 w1 ⟨rfl,hP,hF⟩;have G2:=zh (G1.out.call hP hF);clear hP hF)
 go_upto_region 8 with (go_at_call 21;(refine (T2.out _ G2.out.P).mono ?_);rintro e2 w2 ⟨rfl,hP,hF⟩;have G3:=zh (G2.out.call hP hF);clear hP hF)
 go_upto_region 10 with (go_at_call 21;(refine (T3.out _ G3.out.P).mono ?_);rintro e2 w3 ⟨rfl,hP,hF⟩;have G4:=zh (G3.out.call hP hF);clear hP hF)
 go_upto_region 12 with (go_at_call 21;(refine (T4.out _ G4.out.P).mono ?_);rintro e2 w4 ⟨rfl,hP,hF⟩;have G5:=zh (G4.out.call hP hF);clear hP hF)
 go_upto_region 13 with (go_at_call 21;(refine (T5.out _ G5.out.P).mono ?_);rintro e2 w5 ⟨rfl,hP,hF⟩;have G6:=zh (G5.out.call hP hF);clear hP hF)
 have SB:=zh (Zkz HX.out.1 _ (Zb s) d HX.out.2.1 G6.out ex HX.out.2.2.1 HX.out.2.2.2.2.2.2.1 HX.out.2.2.2.2.2.2.2)
 go_upto_region 26 with (go_at_call 60;(refine SB.out.mono ?_);rintro e3 w99 ⟨hF,hok,hbd⟩;by_cases z:(Za4 L ex (Zj L s) (Zb s)).2.err=0;(case neg=>(obtain rfl:=hbd z;exact zi rfl (Zl.badq hF hR.out z)));obtain ⟨rfl,hW⟩:=hok z;have G99:=zh hW;clear hF hok hbd hW z)
 go_wp2_with fail
 go_ret
 exact Zl.finq HG.out H.out.2 hR.out G99.out
theorem Zlp (hL:LaidP w0) (w:World) (s:PS) (d:Int) (h:ParQ w0 w bp ad c L s) (hd:s.deep=d) (ex:PS->Tr×PS) (f:Nat) (hex:ZJ ex) (hX:Zw w0 bp c ad L 62 #[pV bp] (Dd (d)) (ex)) (hA:Zw w0 bp c ad L 67 #[pV bp] (Dd (d)) (ZV L ex)) (hAgo:∀ s,s.deep=d->s.at_<L.length->s.err=0->Gon L s (ZV L ex s).2) (hB:Zw w0 bp c ad L 40 #[pV bp] (Dd (d)) (Zm L (Zh L ex f))) (hO:Zw w0 bp c ad L 65 #[pV bp] (Dd (d)) (Zax L (Zh L ex f))) (hgo:Gon L s (Zh L ex (f+1) s).2) (hk:isM L [105,102] s=true) :
  Calls Tryd.prog 52 #[pV bp] w (Zl w0 w bp c ad L (Dd d) s (Zh L ex (f+1) s)):=by
 have hpl:=zh (ZQ (L:=L) h.err)
 have f_let:isM L [108,101,116] s=false:=Zk hk (by decide)
 have f_open:isM L [111,112,101,110] s=false:=Zk hk (by decide)
 have f_do:isM L [100,111] s=false:=Zk hk (by decide)
 have f_split:isM L [115,112,108,105,116] s=false:=Zk hk (by decide)
 have f_call:isM L [99,97,108,108] s=false:=Zk hk (by decide)
 have f_while:isM L [119,104,105,108,101] s=false:=Zk hk (by decide)
 have f_return:isM L [114,101,116,117,114,110] s=false:=Zk hk (by decide)
 have f_exit:isM L [101,120,105,116] s=false:=Zk hk (by decide)
 have hR:=zh (show Zbh (ifM L ex (Zh L ex f) (Zj L s) (Zb s)) (Zh L ex (f+1) s) from Zbh.of (show Zh L ex (f+1) s=ifM L ex (Zh L ex f) (Zj L s) (Zb s) by rw [Zh];dsimp only;rw [if_neg (by simp [f_let]),if_neg (by simp [ZbY hk (by decide)]),if_neg (by simp [f_open]),if_neg (by simp [f_do]),if_neg (by simp [f_split]),if_neg (by simp [f_call])];unfold ZbM;dsimp only;rw [if_pos hk];first | done | rfl))
 have HG:=zh hgo
 have HX:=zh (zi hL (zi (show (Zb s).deep=d from hd) (zi hex (zi hX (zi hB (zi hO (zi hA hAgo)))))))
 have BG:=zh (ZK w0 w bp c ad L s h 9)
 have T1:=zh (fun w' h'=>Zg w0 w' bp c ad L s h' [108,101,116] (Zv [108,101,116] (by decide)))
 rw [Zu f_let] at T1
 have T2:=zh (fun w' h'=>Zg w0 w' bp c ad L s h' [111,112,101,110] (Zv [111,112,101,110] (by decide)))
 rw [Zu f_open] at T2
 have T3:=zh (fun w' h'=>Zg w0 w' bp c ad L s h' [100,111] (Zv [100,111] (by decide)))
 rw [Zu f_do] at T3
 have T4:=zh (fun w' h'=>Zg w0 w' bp c ad L s h' [115,112,108,105,116] (Zv [115,112,108,105,116] (by decide)))
 rw [Zu f_split] at T4
 have T5:=zh (fun w' h'=>Zg w0 w' bp c ad L s h' [99,97,108,108] (Zv [99,97,108,108] (by decide)))
 rw [Zu f_call] at T5
 have T6:=zh (fun w' h'=>Zg w0 w' bp c ad L s h' [105,102] (Zv [105,102] (by decide)))
 rw [Zah hk] at T6
 have H:=zh (zi h hd)
 clear h hd hL hex hX hA hAgo hB hO hgo hk f_let f_open f_do f_split f_call f_while f_return f_exit
 go_enter Tryd.func52,Tryd.ntmps52
 go_upto_region 3 with (go_at_call 19;(refine BG.out.mono ?_);rintro e1 wb ⟨b,rfl,T,hb,hB⟩)
 have G1:=zh (Way.start H.out.1 T hb hB)
 rw [hpl.out] at G1
 clear T hb hB
 go_upto_region 6 with (go_at_call 21;(refine (T1.out _ G1.out.P).mono ?_);rintro e2 w1 ⟨rfl,hP,hF⟩;have G2:=zh (G1.out.call hP hF);clear hP hF)
 go_upto_region 8 with (go_at_call 21;(refine (T2.out _ G2.out.P).mono ?_);rintro e2 w2 ⟨rfl,hP,hF⟩;have G3:=zh (G2.out.call hP hF);clear hP hF)
 go_upto_region 10 with (go_at_call 21;(refine (T3.out _ G3.out.P).mono ?_);rintro e2 w3 ⟨rfl,hP,hF⟩;have G4:=zh (G3.out.call hP hF);clear hP hF)
 go_upto_region 12 with (go_at_call 21;(refine (T4.out _ G4.out.P).mono ?_);rintro e2 w4 ⟨rfl,hP,hF⟩;have G5:=zh (G4.out.call hP hF);clear hP hF)
 go_upto_region 14 with (go_at_call 21;(refine (T5.out _ G5.out.P).mono ?_);rintro e2 w5 ⟨rfl,hP,hF⟩;have G6:=zh (G5.out.call hP hF);clear hP hF)
 go_upto_region 15 with (go_at_call 21;(refine (T6.out _ G6.out.P).mono ?_);rintro e2 w6 ⟨rfl,hP,hF⟩;have G7:=zh (G6.out.call hP hF);clear hP hF)
 have SB:=zh (Zhl HX.out.1 _ (Zb s) d HX.out.2.1 G7.out ex (Zh L ex f) HX.out.2.2.1 (ZaT HX.out.2.2.1 f) HX.out.2.2.2.1 HX.out.2.2.2.2.1)
 go_upto_region 26 with (go_at_call 61;(refine SB.out.mono ?_);rintro e3 w99 ⟨hF,hok,hbd⟩;by_cases z:(ifM L ex (Zh L ex f) (Zj L s) (Zb s)).2.err=0;(case neg=>(obtain rfl:=hbd z;exact zi rfl (Zl.badq hF hR.out z)));obtain ⟨rfl,hW⟩:=hok z;have G99:=zh hW;clear hF hok hbd hW z)
 go_wp2_with fail
 go_ret
 exact Zl.finq HG.out H.out.2 hR.out G99.out
theorem Zht (hL:LaidP w0) (w:World) (s:PS) (d:Int) (h:ParQ w0 w bp ad c L s) (hd:s.deep=d) (ex:PS->Tr×PS) (f:Nat) (hex:ZJ ex) (hX:Zw w0 bp c ad L 62 #[pV bp] (Dd (d)) (ex)) (hA:Zw w0 bp c ad L 67 #[pV bp] (Dd (d)) (ZV L ex)) (hAgo:∀ s,s.deep=d->s.at_<L.length->s.err=0->Gon L s (ZV L ex s).2) (hB:Zw w0 bp c ad L 40 #[pV bp] (Dd (d)) (Zm L (Zh L ex f))) (hO:Zw w0 bp c ad L 65 #[pV bp] (Dd (d)) (Zax L (Zh L ex f))) (hgo:Gon L s (Zh L ex (f+1) s).2) (hk:isM L [119,104,105,108,101] s=true) :
  Calls Tryd.prog 52 #[pV bp] w (Zl w0 w bp c ad L (Dd d) s (Zh L ex (f+1) s)):=by
 have hpl:=zh (ZQ (L:=L) h.err)
 have f_let:isM L [108,101,116] s=false:=Zk hk (by decide)
 have f_open:isM L [111,112,101,110] s=false:=Zk hk (by decide)
 have f_do:isM L [100,111] s=false:=Zk hk (by decide)
 have f_split:isM L [115,112,108,105,116] s=false:=Zk hk (by decide)
 have f_call:isM L [99,97,108,108] s=false:=Zk hk (by decide)
 have f_if:isM L [105,102] s=false:=Zk hk (by decide)
 have f_return:isM L [114,101,116,117,114,110] s=false:=Zk hk (by decide)
 have f_exit:isM L [101,120,105,116] s=false:=Zk hk (by decide)
 have hR:=zh (show Zh L ex (f+1) s=(.mk 17 [] [] (Zj L s) [(ex (Zb s)).1,(Zm L (Zh L ex f) (ex (Zb s)).2).1],(Zm L (Zh L ex f) (ex (Zb s)).2).2) by rw [Zh];dsimp only;rw [if_neg (by simp [f_let]),if_neg (by simp [ZbY hk (by decide)]),if_neg (by simp [f_open]),if_neg (by simp [f_do]),if_neg (by simp [f_split]),if_neg (by simp [f_call])];unfold ZbM;dsimp only;rw [if_neg (by simp [f_if]),if_pos hk];first | done | rfl)
 have HG:=zh hgo
 have S1:=zh (show Stk (ex (Zb s)).2 (Zh L ex (f+1) s).2 by rw [hR.out];exact Zal (ZaT hex f) _)
 have HX:=zh (zi hL (zi (show (Zb s).deep=d from hd) (zi hex (zi hX (zi hB (zi hO (zi hA hAgo)))))))
 have BG:=zh (ZK w0 w bp c ad L s h 9)
 have T1:=zh (fun w' h'=>Zg w0 w' bp c ad L s h' [108,101,116] (Zv [108,101,116] (by decide)))
 rw [Zu f_let] at T1
 have T2:=zh (fun w' h'=>Zg w0 w' bp c ad L s h' [111,112,101,110] (Zv [111,112,101,110] (by decide)))
 rw [Zu f_open] at T2
 have T3:=zh (fun w' h'=>Zg w0 w' bp c ad L s h' [100,111] (Zv [100,111] (by decide)))
 rw [Zu f_do] at T3
 have T4:=zh (fun w' h'=>Zg w0 w' bp c ad L s h' [115,112,108,105,116] (Zv [115,112,108,105,116] (by decide)))
 rw [Zu f_split] at T4
 have T5:=zh (fun w' h'=>Zg w0 w' bp c ad L s h' [99,97,108,108] (Zv [99,97,108,108] (by decide)))
 rw [Zu f_call] at T5
 have T6:=zh (fun w' h'=>Zg w0 w' bp c ad L s h' [105,102] (Zv [105,102] (by decide)))
 rw [Zu f_if] at T6
 have T7:=zh (fun w' h'=>Zg w0 w' bp c ad L s h' [119,104,105,108,101] (Zv [119,104,105,108,101] (by decide)))
 rw [Zah hk] at T7
 have H:=zh (zi h hd)
 clear h hd hL hex hX hA hAgo hB hO hgo hk f_let f_open f_do f_split f_call f_if f_return f_exit
 go_enter Tryd.func52,Tryd.ntmps52
 go_upto_region 3 with (go_at_call 19;(refine BG.out.mono ?_);rintro e1 wb ⟨b,rfl,T,hb,hB⟩)
 have G1:=zh (Way.start H.out.1 T hb hB)
 rw [hpl.out] at G1
 clear T hb hB
 go_upto_region 6 with (go_at_call 21;(refine (T1.out _ G1.out.P).mono ?_);rintro e2 w1 ⟨rfl,hP,hF⟩;have G2:=zh (G1.out.call hP hF);clear hP hF)
 go_upto_region 8 with (go_at_call 21;(refine (T2.out _ G2.out.P).mono ?_);rintro e2 w2 ⟨rfl,hP,hF⟩;have G3:=zh (G2.out.call hP hF);clear hP hF)
 go_upto_region 10 with (go_at_call 21;(refine (T3.out _ G3.out.P).mono ?_);rintro e2 w3 ⟨rfl,hP,hF⟩;have G4:=zh (G3.out.call hP hF);clear hP hF)
 go_upto_region 12 with (go_at_call 21;(refine (T4.out _ G4.out.P).mono ?_);rintro e2 w4 ⟨rfl,hP,hF⟩;have G5:=zh (G4.out.call hP hF);clear hP hF)
 go_upto_region 14 with (go_at_call 21;(refine (T5.out _ G5.out.P).mono ?_);rintro e2 w5 ⟨rfl,hP,hF⟩;have G6:=zh (G5.out.call hP hF);clear hP hF)
 go_upto_region 16 with (go_at_call 21;(refine (T6.out _ G6.out.P).mono ?_);rintro e2 w6 ⟨rfl,hP,hF⟩;have G7:=zh (G6.out.call hP hF);clear hP hF)
 go_upto_region 17 with (go_at_call 21;(refine (T7.out _ G7.out.P).mono ?_);rintro e2 w7 ⟨rfl,hP,hF⟩;have G8:=zh (G7.out.call hP hF);clear hP hF)
 obtain ⟨⟨u3,q3,_⟩,q4,_⟩:=G8.out.putA 0 (by decide)
 go_upto_region 18 with fail
 clear q3 q4
 have G9:=zh (G8.out.kind 17)
 generalize World.setCell _ ⟨b,0,none⟩ (.int .i64 17)=w8 at *
 go_upto_region 26 with (first | (go_at_call 62;(refine (HX.out.2.2.2.1 _ (Zb s) G9.out.P HX.out.2.1).mono ?_);rintro e2 w9 ⟨hF,hok,hbd⟩;by_cases z:(ex (Zb s)).2.err=0;(case neg=>(obtain rfl:=hbd z;exact zi rfl (Zl.bad (G9.out.F.trans hF) S1.out z)));obtain ⟨gk,rfl,hP,hD9,hat,hT⟩:=hok z;have K9:=zh ((WayK.of G9.out).got hP hF hT);have D9:=zh hD9;clear hP hF hok hbd hT hat hD9) | (go_at_call 40;(refine (HX.out.2.2.2.2.1 _ (ex (Zb s)).2 K9.out.P D9.out).mono ?_);rintro e2 w10 ⟨hF,hok,hbd⟩;by_cases z:(Zm L (Zh L ex f) (ex (Zb s)).2).2.err=0;(case neg=>(obtain rfl:=hbd z;exact zi rfl (Zl.bad (K9.out.F.trans hF) (Zbe hR.out) z)));obtain ⟨gk,rfl,hP,hD10,hat,hT⟩:=hok z;have K10:=zh (K9.out.got hP hF hT);have D10:=zh hD10;clear hP hF hok hbd hT hat hD10) | (go_at_call 23;(refine (K10.out.add (by simp) (m:=2) rfl (by decide)).mono ?_);rintro e2 w11 ⟨rfl,hW⟩;have G10:=zh hW;clear hW))
 (try clear z)
 go_wp2_with fail
 go_ret
 exact Zl.fin HG.out H.out.2 hR.out G10.out.F G10.out.P G10.out.done
theorem Zgi (hL:LaidP w0) (w:World) (s:PS) (d:Int) (h:ParQ w0 w bp ad c L s) (hd:s.deep=d) (ex:PS->Tr×PS) (f:Nat) (hex:ZJ ex) (hX:Zw w0 bp c ad L 62 #[pV bp] (Dd (d)) (ex)) (hA:Zw w0 bp c ad L 67 #[pV bp] (Dd (d)) (ZV L ex)) (hAgo:∀ s,s.deep=d->s.at_<L.length->s.err=0->Gon L s (ZV L ex s).2) (hB:Zw w0 bp c ad L 40 #[pV bp] (Dd (d)) (Zm L (Zh L ex f))) (hO:Zw w0 bp c ad L 65 #[pV bp] (Dd (d)) (Zax L (Zh L ex f))) (hgo:Gon L s (Zh L ex (f+1) s).2) (hk:isM L [114,101,116,117,114,110] s=true) :
  Calls Tryd.prog 52 #[pV bp] w (Zl w0 w bp c ad L (Dd d) s (Zh L ex (f+1) s)):=by
 have hpl:=zh (ZQ (L:=L) h.err)
 have f_let:isM L [108,101,116] s=false:=Zk hk (by decide)
 have f_open:isM L [111,112,101,110] s=false:=Zk hk (by decide)
 have f_do:isM L [100,111] s=false:=Zk hk (by decide)
 have f_split:isM L [115,112,108,105,116] s=false:=Zk hk (by decide)
 have f_call:isM L [99,97,108,108] s=false:=Zk hk (by decide)
 have f_if:isM L [105,102] s=false:=Zk hk (by decide)
 have f_while:isM L [119,104,105,108,101] s=false:=Zk hk (by decide)
 have f_exit:isM L [101,120,105,116] s=false:=Zk hk (by decide)
 have hR:=zh (show Zh L ex (f+1) s=(.mk 18 [] [] (Zj L s) [(ex (Zb s)).1],Zd L [59] (ex (Zb s)).2) by rw [Zh];dsimp only;rw [if_neg (by simp [f_let]),if_neg (by simp [ZbY hk (by decide)]),if_neg (by simp [f_open]),if_neg (by simp [f_do]),if_neg (by simp [f_split]),if_neg (by simp [f_call])];unfold ZbM;dsimp only;rw [if_neg (by simp [f_if]),if_neg (by simp [f_while]),if_pos hk];first | done | rfl)
 have HG:=zh hgo
 have S1:=zh (show Stk (ex (Zb s)).2 (Zh L ex (f+1) s).2 by rw [hR.out];exact Zq _ _)
 have HX:=zh (zi hL (zi (show (Zb s).deep=d from hd) (zi hex (zi hX (zi hB (zi hO (zi hA hAgo)))))))
 have BG:=zh (ZK w0 w bp c ad L s h 9)
 have T1:=zh (fun w' h'=>Zg w0 w' bp c ad L s h' [108,101,116] (Zv [108,101,116] (by decide)))
 rw [Zu f_let] at T1
 have T2:=zh (fun w' h'=>Zg w0 w' bp c ad L s h' [111,112,101,110] (Zv [111,112,101,110] (by decide)))
 rw [Zu f_open] at T2
 have T3:=zh (fun w' h'=>Zg w0 w' bp c ad L s h' [100,111] (Zv [100,111] (by decide)))
 rw [Zu f_do] at T3
 have T4:=zh (fun w' h'=>Zg w0 w' bp c ad L s h' [115,112,108,105,116] (Zv [115,112,108,105,116] (by decide)))
 rw [Zu f_split] at T4
 have T5:=zh (fun w' h'=>Zg w0 w' bp c ad L s h' [99,97,108,108] (Zv [99,97,108,108] (by decide)))
 rw [Zu f_call] at T5
 have T6:=zh (fun w' h'=>Zg w0 w' bp c ad L s h' [105,102] (Zv [105,102] (by decide)))
 rw [Zu f_if] at T6
 have T7:=zh (fun w' h'=>Zg w0 w' bp c ad L s h' [119,104,105,108,101] (Zv [119,104,105,108,101] (by decide)))
 rw [Zu f_while] at T7
 have T8:=zh (fun w' h'=>Zg w0 w' bp c ad L s h' [114,101,116,117,114,110] (Zv [114,101,116,117,114,110] (by decide)))
 rw [Zah hk] at T8
 have T12:=zh (fun w' h'=>ZZ w0 w' bp c ad L (ex (Zb s)).2 h' [59] (ZF _ _ (by decide) (by decide)))
 have H:=zh (zi h hd)
 clear h hd hL hex hX hA hAgo hB hO hgo hk f_let f_open f_do f_split f_call f_if f_while f_exit
 go_enter Tryd.func52,Tryd.ntmps52
 go_upto_region 3 with (go_at_call 19;(refine BG.out.mono ?_);rintro e1 wb ⟨b,rfl,T,hb,hB⟩)
 have G1:=zh (Way.start H.out.1 T hb hB)
 rw [hpl.out] at G1
 clear T hb hB
 go_upto_region 6 with (go_at_call 21;(refine (T1.out _ G1.out.P).mono ?_);rintro e2 w1 ⟨rfl,hP,hF⟩;have G2:=zh (G1.out.call hP hF);clear hP hF)
 go_upto_region 8 with (go_at_call 21;(refine (T2.out _ G2.out.P).mono ?_);rintro e2 w2 ⟨rfl,hP,hF⟩;have G3:=zh (G2.out.call hP hF);clear hP hF)
 go_upto_region 10 with (go_at_call 21;(refine (T3.out _ G3.out.P).mono ?_);rintro e2 w3 ⟨rfl,hP,hF⟩;have G4:=zh (G3.out.call hP hF);clear hP hF)
 go_upto_region 12 with (go_at_call 21;(refine (T4.out _ G4.out.P).mono ?_);rintro e2 w4 ⟨rfl,hP,hF⟩;have G5:=zh (G4.out.call hP hF);clear hP hF)
 go_upto_region 14 with (go_at_call 21;(refine (T5.out _ G5.out.P).mono ?_);rintro e2 w5 ⟨rfl,hP,hF⟩;have G6:=zh (G5.out.call hP hF);clear hP hF)
 go_upto_region 16 with (go_at_call 21;(refine (T6.out _ G6.out.P).mono ?_);rintro e2 w6 ⟨rfl,hP,hF⟩;have G7:=zh (G6.out.call hP hF);clear hP hF)
 go_upto_region 19 with (go_at_call 21;(refine (T7.out _ G7.out.P).mono ?_);rintro e2 w7 ⟨rfl,hP,hF⟩;have G8:=zh (G7.out.call hP hF);clear hP hF)
 go_upto_region 20 with (go_at_call 21;(refine (T8.out _ G8.out.P).mono ?_);rintro e2 w8 ⟨rfl,hP,hF⟩;have G9:=zh (G8.out.call hP hF);clear hP hF)
 obtain ⟨⟨u3,q3,_⟩,q4,_⟩:=G9.out.putA 0 (by decide)
 go_upto_region 21 with fail
 clear q3 q4
 have G10:=zh (G9.out.kind 18)
 generalize World.setCell _ ⟨b,0,none⟩ (.int .i64 18)=w9 at *
 go_upto_region 22 with (first | (go_at_call 62;(refine (HX.out.2.2.2.1 _ (Zb s) G10.out.P HX.out.2.1).mono ?_);rintro e2 w10 ⟨hF,hok,hbd⟩;by_cases z:(ex (Zb s)).2.err=0;(case neg=>(obtain rfl:=hbd z;exact zi rfl (Zl.bad (G10.out.F.trans hF) S1.out z)));obtain ⟨gk,rfl,hP,hD10,hat,hT⟩:=hok z;have K10:=zh ((WayK.of G10.out).got hP hF hT);have D10:=zh hD10;clear hP hF hok hbd hT hat hD10) | (go_at_call 23;(refine (K10.out.add (by simp) (m:=1) rfl (by decide)).mono ?_);rintro e2 w11 ⟨rfl,hW⟩;have G11:=zh hW;clear hW))
 (try clear z)
 go_upto_region 26 with (go_at_call 33;(refine (T12.out _ G11.out.P).mono ?_);rintro e2 w12 ⟨hF,hok,hbd⟩;by_cases z:(Zd L [59] (ex (Zb s)).2).err=0;(case neg=>(obtain rfl:=hbd z;exact zi rfl (Zl.bad (G11.out.F.trans hF) (Zbe hR.out) z)));obtain ⟨_,rfl,hP,rfl⟩:=hok z;have G12:=zh (G11.out.call hP hF);clear hP hF hok hbd)
 have z12:=zh z
 clear z
 go_wp2_with fail
 go_ret
 exact Zl.fin HG.out H.out.2 hR.out G12.out.F G12.out.P G12.out.done
end
end
end Go.Proofs.YtfdgeijnkkdplaaDoor
