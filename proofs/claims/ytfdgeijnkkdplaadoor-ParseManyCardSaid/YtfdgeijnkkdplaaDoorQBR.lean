import Derived.Test.YtfdgeijnkkdplaaDoorQBH
import Derived.Test.YtfdgeijnkkdplaaDoorQBO
import Derived.Test.YtfdgeijnkkdplaaDoorQBP
import Derived.Test.YtfdgeijnkkdplaaDoorQBQ
set_option maxRecDepth 100000
set_option maxHeartbeats 8000000
namespace Go.Proofs.YtfdgeijnkkdplaaDoor
section
open Go Go.RowKit
section
variable {w0:World} {bp c:Nat} {ad:Addr} {L:List Tok}
theorem ZiM (hL:LaidP w0) (w:World) (s:PS) (d:Int) (h:ParQ w0 w bp ad c L s) (hd:s.deep=d) (ex:PS->Tr×PS) (f:Nat) (hex:ZJ ex) (hX:Zw w0 bp c ad L 62 #[pV bp] (Dd (d)) (ex)) (hA:Zw w0 bp c ad L 67 #[pV bp] (Dd (d)) (ZV L ex)) (hAgo:∀ s,s.deep=d->s.at_<L.length->s.err=0->Gon L s (ZV L ex s).2) (hB:Zw w0 bp c ad L 40 #[pV bp] (Dd (d)) (Zm L (Zh L ex f))) (hO:Zw w0 bp c ad L 65 #[pV bp] (Dd (d)) (Zax L (Zh L ex f))) (hgo:Gon L s (Zh L ex (f+1) s).2) (hk:isM L [101,120,105,116] s=true) :
  Calls Tryd.prog 52 #[pV bp] w (Zl w0 w bp c ad L (Dd d) s (Zh L ex (f+1) s)):=by
 have hpl:=zh (ZQ (L:=L) h.err)
 have f_let:isM L [108,101,116] s=false:=Zk hk (by decide)
 have f_open:isM L [111,112,101,110] s=false:=Zk hk (by decide)
 have f_do:isM L [100,111] s=false:=Zk hk (by decide)
 have f_split:isM L [115,112,108,105,116] s=false:=Zk hk (by decide)
 have f_call:isM L [99,97,108,108] s=false:=Zk hk (by decide)
 have f_if:isM L [105,102] s=false:=Zk hk (by decide)
 have f_while:isM L [119,104,105,108,101] s=false:=Zk hk (by decide)
 have f_return:isM L [114,101,116,117,114,110] s=false:=Zk hk (by decide)
 have hR:=zh (show Zh L ex (f+1) s=(.mk 19 [] [] (Zj L s) [],Zd L [59] (Zb s)) by rw [Zh];dsimp only;rw [if_neg (by simp [f_let]),if_neg (by simp [ZbY hk (by decide)]),if_neg (by simp [f_open]),if_neg (by simp [f_do]),if_neg (by simp [f_split]),if_neg (by simp [f_call])];unfold ZbM;dsimp only;rw [if_neg (by simp [f_if]),if_neg (by simp [f_while]),if_neg (by simp [f_return])];rw [show Zd L [101,120,105,116] s=Zb s by unfold Zd;rw [if_pos hk]])
 have HG:=zh hgo
 have HX:=zh (zi hL (zi (show (Zb s).deep=d from hd) (zi hex (zi hX (zi hB (zi hO (zi hA hAgo)))))))
 have BG:=zh (ZK w0 w bp c ad L s h 9)
 have T1:=zh (fun w' h'=>Zg w0 w' bp c ad L s h' [108,101,116] (Zv [108,101,116] (by decide)))
 rw [Zu f_let] at T1
 have T2:=zh (fun w' h'=>Zg w0 w' bp c ad L s h' [111,112,101,110] (Zv [111,112,101,110] (by decide)))
 rw [Zu f_open] at T2
 have T3:=zh (fun w' h'=>Zg w0 w' bp c ad L s h' [100,111] (Zv [100,111] (by decide)))
 rw [Zu f_do] at T3
 have T4:=zh (fun w' h'=>Zg w0 w' bp c ad L s h' [115,112,108,105,116] (Zv [115,112,108,105,116] (by decide)))
 rw [Zu f_split] at T4
 have T5:=zh (fun w' h'=>Zg w0 w' bp c ad L s h' [99,97,108,108] (Zv [99,97,108,108] (by decide)))
 rw [Zu f_call] at T5
 have T6:=zh (fun w' h'=>Zg w0 w' bp c ad L s h' [105,102] (Zv [105,102] (by decide)))
 rw [Zu f_if] at T6
 have T7:=zh (fun w' h'=>Zg w0 w' bp c ad L s h' [119,104,105,108,101] (Zv [119,104,105,108,101] (by decide)))
 rw [Zu f_while] at T7
 have T8:=zh (fun w' h'=>Zg w0 w' bp c ad L s h' [114,101,116,117,114,110] (Zv [114,101,116,117,114,110] (by decide)))
 rw [Zu f_return] at T8
 have T9:=zh (fun w' h'=>Zg w0 w' bp c ad L s h' [101,120,105,116] (Zv [101,120,105,116] (by decide)))
 rw [Zah hk] at T9
 have T11:=zh (fun w' h'=>ZZ w0 w' bp c ad L (Zb s) h' [59] (ZF _ _ (by decide) (by decide)))
 have H:=zh (zi h hd)
 clear h hd hL hex hX hA hAgo hB hO hgo hk f_let f_open f_do f_split f_call f_if f_while f_return
 go_enter Tryd.func52,Tryd.ntmps52
 go_upto_region 3 with (go_at_call 19;(refine BG.out.mono ?_);rintro e1 wb ⟨b,rfl,T,hb,hB⟩)
 have G1:=zh (Way.start H.out.1 T hb hB)
 rw [hpl.out] at G1
 clear T hb hB
 go_upto_region 6 with (go_at_call 21;(refine (T1.out _ G1.out.P).mono ?_);rintro e2 w1 ⟨rfl,hP,hF⟩;have G2:=zh (G1.out.call hP hF);clear hP hF)
 go_upto_region 8 with (go_at_call 21;(refine (T2.out _ G2.out.P).mono ?_);rintro e2 w2 ⟨rfl,hP,hF⟩;have G3:=zh (G2.out.call hP hF);clear hP hF)
 go_upto_region 10 with (go_at_call 21;(refine (T3.out _ G3.out.P).mono ?_);rintro e2 w3 ⟨rfl,hP,hF⟩;have G4:=zh (G3.out.call hP hF);clear hP hF)
 go_upto_region 12 with (go_at_call 21;(refine (T4.out _ G4.out.P).mono ?_);rintro e2 w4 ⟨rfl,hP,hF⟩;have G5:=zh (G4.out.call hP hF);clear hP hF)
 go_upto_region 14 with (go_at_call 21;(refine (T5.out _ G5.out.P).mono ?_);rintro e2 w5 ⟨rfl,hP,hF⟩;have G6:=zh (G5.out.call hP hF);clear hP hF)
 go_upto_region 16 with (go_at_call 21;(refine (T6.out _ G6.out.P).mono ?_);rintro e2 w6 ⟨rfl,hP,hF⟩;have G7:=zh (G6.out.call hP hF);clear hP hF)
 go_upto_region 19 with (go_at_call 21;(refine (T7.out _ G7.out.P).mono ?_);rintro e2 w7 ⟨rfl,hP,hF⟩;have G8:=zh (G7.out.call hP hF);clear hP hF)
 go_upto_region 23 with (go_at_call 21;(refine (T8.out _ G8.out.P).mono ?_);rintro e2 w8 ⟨rfl,hP,hF⟩;have G9:=zh (G8.out.call hP hF);clear hP hF)
 go_upto_region 24 with (go_at_call 21;(refine (T9.out _ G9.out.P).mono ?_);rintro e2 w9 ⟨rfl,hP,hF⟩;have G10:=zh (G9.out.call hP hF);clear hP hF)
 obtain ⟨⟨u3,q3,_⟩,q4,_⟩:=G10.out.putA 0 (by decide)
 go_upto_region 25 with fail
 clear q3 q4
 have G11:=zh (G10.out.kind 19)
 generalize World.setCell _ ⟨b,0,none⟩ (.int .i64 19)=w10 at *
 go_upto_region 26 with (go_at_call 33;(refine (T11.out _ G11.out.P).mono ?_);rintro e2 w11 ⟨hF,hok,hbd⟩;by_cases z:(Zd L [59] (Zb s)).err=0;(case neg=>(obtain rfl:=hbd z;exact zi rfl (Zl.bad (G11.out.F.trans hF) (Zbe hR.out) z)));obtain ⟨_,rfl,hP,rfl⟩:=hok z;have G12:=zh (G11.out.call hP hF);clear hP hF hok hbd)
 have z11:=zh z
 clear z
 go_wp2_with fail
 go_ret
 exact Zl.fin HG.out H.out.2 hR.out G12.out.F G12.out.P G12.out.done
theorem ZkM (hL:LaidP w0) (w:World) (s:PS) (d:Int) (h:ParQ w0 w bp ad c L s) (hd:s.deep=d) (ex:PS->Tr×PS) (f:Nat) (hex:ZJ ex) (hX:Zw w0 bp c ad L 62 #[pV bp] (Dd (d)) (ex)) (hA:Zw w0 bp c ad L 67 #[pV bp] (Dd (d)) (ZV L ex)) (hAgo:∀ s,s.deep=d->s.at_<L.length->s.err=0->Gon L s (ZV L ex s).2) (hB:Zw w0 bp c ad L 40 #[pV bp] (Dd (d)) (Zm L (Zh L ex f))) (hO:Zw w0 bp c ad L 65 #[pV bp] (Dd (d)) (Zax L (Zh L ex f))) (hgo:Gon L s (Zh L ex (f+1) s).2) (hf:isM L [108,101,116] s=false/\isM L [111,112,101,110] s=false/\isM L [100,111] s=false/\isM L [115,112,108,105,116] s=false/\isM L [99,97,108,108] s=false/\isM L [105,102] s=false/\isM L [119,104,105,108,101] s=false/\isM L [114,101,116,117,114,110] s=false/\isM L [101,120,105,116] s=false) (hQ:Zbh (ZcS L ex 9 (Zj L s) s) (Zh L ex (f+1) s)) :
  Calls Tryd.prog 52 #[pV bp] w (Zl w0 w bp c ad L (Dd d) s (Zh L ex (f+1) s)):=by
 have hpl:=zh (ZQ (L:=L) h.err)
 obtain ⟨f_let,f_open,f_do,f_split,f_call,f_if,f_while,f_return,f_exit⟩:=hf
 have hR:=zh hQ
 have HG:=zh hgo
 have HX:=zh (zi hL (zi (show s.deep=d from hd) (zi hex (zi hX (zi hB (zi hO (zi hA hAgo)))))))
 have BG:=zh (ZK w0 w bp c ad L s h 9)
 have T1:=zh (fun w' h'=>Zg w0 w' bp c ad L s h' [108,101,116] (Zv [108,101,116] (by decide)))
 rw [Zu f_let] at T1
 have T2:=zh (fun w' h'=>Zg w0 w' bp c ad L s h' [111,112,101,110] (Zv [111,112,101,110] (by decide)))
 rw [Zu f_open] at T2
 have T3:=zh (fun w' h'=>Zg w0 w' bp c ad L s h' [100,111] (Zv [100,111] (by decide)))
 rw [Zu f_do] at T3
 have T4:=zh (fun w' h'=>Zg w0 w' bp c ad L s h' [115,112,108,105,116] (Zv [115,112,108,105,116] (by decide)))
 rw [Zu f_split] at T4
 have T5:=zh (fun w' h'=>Zg w0 w' bp c ad L s h' [99,97,108,108] (Zv [99,97,108,108] (by decide)))
 rw [Zu f_call] at T5
 have T6:=zh (fun w' h'=>Zg w0 w' bp c ad L s h' [105,102] (Zv [105,102] (by decide)))
 rw [Zu f_if] at T6
 have T7:=zh (fun w' h'=>Zg w0 w' bp c ad L s h' [119,104,105,108,101] (Zv [119,104,105,108,101] (by decide)))
 rw [Zu f_while] at T7
 have T8:=zh (fun w' h'=>Zg w0 w' bp c ad L s h' [114,101,116,117,114,110] (Zv [114,101,116,117,114,110] (by decide)))
 rw [Zu f_return] at T8
 have T9:=zh (fun w' h'=>Zg w0 w' bp c ad L s h' [101,120,105,116] (Zv [101,120,105,116] (by decide)))
 rw [Zu f_exit] at T9
 have H:=zh (zi h hd)
 clear h hd hL hex hX hA hAgo hB hO hgo hQ f_let f_open f_do f_split f_call f_if f_while f_return f_exit
 go_enter Tryd.func52,Tryd.ntmps52
 go_upto_region 3 with (go_at_call 19;(refine BG.out.mono ?_);rintro e1 wb ⟨b,rfl,T,hb,hB⟩)
 have G1:=zh (Way.start H.out.1 T hb hB)
 rw [hpl.out] at G1
 clear T hb hB
 go_upto_region 6 with (go_at_call 21;(refine (T1.out _ G1.out.P).mono ?_);rintro e2 w1 ⟨rfl,hP,hF⟩;have G2:=zh (G1.out.call hP hF);clear hP hF)
 go_upto_region 8 with (go_at_call 21;(refine (T2.out _ G2.out.P).mono ?_);rintro e2 w2 ⟨rfl,hP,hF⟩;have G3:=zh (G2.out.call hP hF);clear hP hF)
 go_upto_region 10 with (go_at_call 21;(refine (T3.out _ G3.out.P).mono ?_);rintro e2 w3 ⟨rfl,hP,hF⟩;have G4:=zh (G3.out.call hP hF);clear hP hF)
 go_upto_region 12 with (go_at_call 21;(refine (T4.out _ G4.out.P).mono ?_);rintro e2 w4 ⟨rfl,hP,hF⟩;have G5:=zh (G4.out.call hP hF);clear hP hF)
 go_upto_region 14 with (go_at_call 21;(refine (T5.out _ G5.out.P).mono ?_);rintro e2 w5 ⟨rfl,hP,hF⟩;have G6:=zh (G5.out.call hP hF);clear hP hF)
 go_upto_region 16 with (go_at_call 21;(refine (T6.out _ G6.out.P).mono ?_);rintro e2 w6 ⟨rfl,hP,hF⟩;have G7:=zh (G6.out.call hP hF);clear hP hF)
 go_upto_region 19 with (go_at_call 21;(refine (T7.out _ G7.out.P).mono ?_);rintro e2 w7 ⟨rfl,hP,hF⟩;have G8:=zh (G7.out.call hP hF);clear hP hF)
 go_upto_region 23 with (go_at_call 21;(refine (T8.out _ G8.out.P).mono ?_);rintro e2 w8 ⟨rfl,hP,hF⟩;have G9:=zh (G8.out.call hP hF);clear hP hF)
 go_upto_region 2 with (go_at_call 21;(refine (T9.out _ G9.out.P).mono ?_);rintro e2 w9 ⟨rfl,hP,hF⟩;have G10:=zh (G9.out.call hP hF);clear hP hF)
 have SB:=zh (Zgh HX.out.1 _ s d HX.out.2.1 G10.out ex HX.out.2.2.1 HX.out.2.2.2.1)
 go_upto_region 26 with (go_at_call 56;(refine SB.out.mono ?_);rintro e3 w99 ⟨hF,hok,hbd⟩;by_cases z:(ZcS L ex 9 (Zj L s) s).2.err=0;(case neg=>(obtain rfl:=hbd z;exact zi rfl (Zl.badq hF hR.out z)));obtain ⟨rfl,hW⟩:=hok z;have G99:=zh hW;clear hF hok hbd hW z)
 go_wp2_with fail
 go_ret
 exact Zl.finq HG.out H.out.2 hR.out G99.out
end
end
section
open Go Go.RowKit
section
variable {w0:World} {bp c:Nat} {ad:Addr} {L:List Tok}
theorem ZmT {g:Nat} {s:PS} (h:Dp L g s):Dp L 201 s:=⟨h.lt,fun e=>⟨(h.fuel e).1,by have:=h.lo;omega⟩,h.lo,h.hi⟩
theorem ZcM (hE:ZW L) (g:Nat):Onw L (Dp L g) (exP L):=fun s hs=>ZeW hE (ZaI 201) (Zbw hE 201) s (ZmT hs)
theorem Zdg:ZJ (exP L):=Zdz (Zcg 201)
theorem Zlh (hL:LaidP w0) (d:Int) (h0:0<=d) (h200:d<=200):Zw w0 bp c ad L 67 #[pV bp] (Dd (d)) (ZV L (exP L)):=fun w s h hd=>by
 have hgo:Gon L s (ZV L (exP L) s).2:=ZdF h.end_ (ZaI 201) (ZcM h.end_ 201) s (h.dp hd h0 h200 (by omega))
 cases h1:isM L [38] s with
 | true=>exact Zli hL w s d h hd (exP L) h1 hgo
 | false=>exact Zl3 hL w s d h hd (exP L) h1 (Zfn hL d h0 h200)
theorem Zmb {ex:PS->Tr×PS} (hex:ZJ ex) {f:Nat} {s:PS} (he:s.err=0) (hf:isM L [108,101,116] s=false/\isM L [111,112,101,110] s=false/\isM L [100,111] s=false/\isM L [115,112,108,105,116] s=false/\isM L [99,97,108,108] s=false/\isM L [105,102] s=false/\isM L [119,104,105,108,101] s=false/\isM L [114,101,116,117,114,110] s=false/\isM L [101,120,105,116] s=false):Zbh (ZcS L ex 9 (Zj L s) s) (Zh L ex (f+1) s):=by
 obtain ⟨f0,f1,f2,f3,f4,f5,f6,f7,f8⟩:=hf
 cases q:ZaO L s with
 | true=>
  have e:Zh L ex (f+1) s=ZcS L ex 9 (Zj L s) s:=by
   rw [Zh]
   dsimp only
   rw [if_neg (by simp [f0]),if_pos q]
   rfl
  exact Zbh.of e
 | false=>
  have hn:Za L s=([],ZL L 11 s):=by unfold Za;rw [if_neg (by simp [q])]
  have hff:ZL L 11 s={ s with err:=11,fat:=(Zx L s.at_).2.2 }:=by unfold ZL;rw [if_pos he]
  have hne:(ZL L 11 s).err≠0:=by rw [hff];show ¬ (11:Int)=0;decide
  have hw:Zd L [101,120,105,116] s=ZL L 11 s:=by unfold Zd;rw [if_neg (by simp [f8])]
  have e:(Zh L ex (f+1) s).2=ZL L 11 s:=by
   rw [Zh]
   dsimp only
   rw [if_neg (by simp [f0]),if_neg (by simp [q]),if_neg (by simp [f1]),if_neg (by simp [f2]),if_neg (by simp [f3]),if_neg (by simp [f4])]
   unfold ZbM
   dsimp only
   rw [if_neg (by simp [f5]),if_neg (by simp [f6]),if_neg (by simp [f7])]
   rw [hw]
   exact Zew hne
  have k:Stk (ZL L 11 s) (ZcS L ex 9 (Zj L s) s).2:=by
   show Stk (ZL L 11 s) (Zd L [59] (ex (Zd L [61] (Za L s).2)).2)
   rw [hn]
   exact ((Zq _ _).trans (hex _)).trans (Zq _ _)
  obtain ⟨k1,k2⟩:=k hne
  exact ⟨by rw [e];exact k1,by rw [e];exact k2,fun z=>absurd (k1.symm.trans z) hne⟩
theorem ZeI (f:Nat) (d:Int) (h0:0<=d) (h200:d<=200) (hf:200<d+(f+1:Nat)) (ih:d+1<=200->Zw w0 bp c ad L 52 #[pV bp] (Dd (d+1)) (Zh L (exP L) f)):Zw w0 bp c ad L 40 #[pV bp] (Dd (d)) (Zm L (Zh L (exP L) f)):=fun w s h hd=>by
 have hgo':=Zcp (L:=L) h.end_ (ex:=exP L) (fun f=>ZcM h.end_ (f+1)) f
 refine ZiB w s d h0 h200 h hd _ (ZaT Zdg f) ih (fun q s' hd' hlt he=>?_) (Za9 h.end_ hgo'.adv (h.dp hd h0 h200 hf) (by omega))
 have:=Zbu h.end_ (ZaI (L:=L) f) hgo'.adv [125] (L.length+1) [] s' ⟨hlt,fun _=>by omega,by omega,by omega⟩
 exact this.deep.trans hd'
theorem Zfr (hL:LaidP w0):∀ (f:Nat) (d:Int),0<=d->d<=200->200<d+f->Zw w0 bp c ad L 52 #[pV bp] (Dd (d)) (Zh L (exP L) f)
 | 0,d,h0,h200,hf=>by omega
 | f+1,d,h0,h200,hf=>fun w s h hd=>by
  have hex:ZJ (exP L):=Zdg
  have hX:=Zfn (bp:=bp) (c:=c) (ad:=ad) (L:=L) hL d h0 h200
  have hA:=Zlh (bp:=bp) (c:=c) (ad:=ad) (L:=L) hL d h0 h200
  have hE:=h.end_
  have hAgo:∀ s,s.deep=d->s.at_<L.length->s.err=0->Gon L s (ZV L (exP L) s).2:=fun s' hd' hlt _=>ZdF hE (ZaI 201) (ZcM hE 201) s' ⟨hlt,fun _=>by omega,by omega,by omega⟩
  have hB:Zw w0 bp c ad L 40 #[pV bp] (Dd (d)) (Zm L (Zh L (exP L) f)):=ZeI f d h0 h200 hf (fun q=>Zfr hL f (d+1) (by omega) q (by omega))
  have hgo':=Zcp (L:=L) hE (ex:=exP L) (fun f=>ZcM hE (f+1))
  have hO:Zw w0 bp c ad L 65 #[pV bp] (Dd (d)) (Zax L (Zh L (exP L) f)):=fun w s h hd=>Zgb hL w s d h hd _ (ZaT hex f) hB (Zd1 h.end_ (hgo' f) (h.dp hd h0 h200 hf) (by omega))
  have hgo:Gon L s (Zh L (exP L) (f+1) s).2:=hgo' (f+1) s (h.dp hd h0 h200 hf) h.err
  by_cases q0:isM L [108,101,116] s=true
  ·exact ZkL hL w s d h hd (exP L) f hex hX hA hAgo hB hO hgo q0
  have e0:isM L [108,101,116] s=false:=by simpa using q0
  by_cases q1:isM L [111,112,101,110] s=true
  ·exact ZiN hL w s d h hd (exP L) f hex hX hA hAgo hB hO hgo q1
  have e1:isM L [111,112,101,110] s=false:=by simpa using q1
  by_cases q2:isM L [100,111] s=true
  ·exact Zlo hL w s d h hd (exP L) f hex hX hA hAgo hB hO hgo q2
  have e2:isM L [100,111] s=false:=by simpa using q2
  by_cases q3:isM L [115,112,108,105,116] s=true
  ·exact Zhs hL w s d h hd (exP L) f hex hX hA hAgo hB hO hgo q3
  have e3:isM L [115,112,108,105,116] s=false:=by simpa using q3
  by_cases q4:isM L [99,97,108,108] s=true
  ·exact ZiL hL w s d h hd (exP L) f hex hX hA hAgo hB hO hgo q4
  have e4:isM L [99,97,108,108] s=false:=by simpa using q4
  by_cases q5:isM L [105,102] s=true
  ·exact Zlp hL w s d h hd (exP L) f hex hX hA hAgo hB hO hgo q5
  have e5:isM L [105,102] s=false:=by simpa using q5
  by_cases q6:isM L [119,104,105,108,101] s=true
  ·exact Zht hL w s d h hd (exP L) f hex hX hA hAgo hB hO hgo q6
  have e6:isM L [119,104,105,108,101] s=false:=by simpa using q6
  by_cases q7:isM L [114,101,116,117,114,110] s=true
  ·exact Zgi hL w s d h hd (exP L) f hex hX hA hAgo hB hO hgo q7
  have e7:isM L [114,101,116,117,114,110] s=false:=by simpa using q7
  by_cases q8:isM L [101,120,105,116] s=true
  ·exact ZiM hL w s d h hd (exP L) f hex hX hA hAgo hB hO hgo q8
  have e8:isM L [101,120,105,116] s=false:=by simpa using q8
  exact ZkM hL w s d h hd (exP L) f hex hX hA hAgo hB hO hgo ⟨e0,e1,e2,e3,e4,e5,e6,e7,e8⟩ (Zmb hex h.err ⟨e0,e1,e2,e3,e4,e5,e6,e7,e8⟩)
end
end
end Go.Proofs.YtfdgeijnkkdplaaDoor
