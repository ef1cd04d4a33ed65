import Derived.Test.YtfdgeijnkkdplaaDoorQBA
set_option maxRecDepth 100000
set_option maxHeartbeats 8000000
namespace Go.Proofs.YtfdgeijnkkdplaaDoor
section
open Go Go.RowKit
section
variable {w0:World} {bp c:Nat} {ad:Addr} {L:List Tok}
theorem Zhf:ZN 32:=fun _ _=>by kernel_rfl
theorem ZfF:ZN 54:=fun _ _=>by kernel_rfl
theorem ZhB (c:UInt8) (h:(!ZaA c&&!Zai c)=true):PW [c]:=by
 simp only [Bool.and_eq_true,Bool.not_eq_true'] at h
 exact ZF c [] h.1 h.2
theorem Zah {x:Txt} {s:PS} (h:isM L x s=true):Zad L x s=(true,Zb s):=by unfold Zad;rw [if_pos h]
theorem Zu {x:Txt} {s:PS} (h:isM L x s=false):Zad L x s=(false,s):=by unfold Zad;rw [if_neg (by simp [h])]
theorem ZeY {s:PS} (he:s.err=0):Zak L s=Zx L s.at_:=by unfold Zak;rw [if_neg (by simp [he])]
theorem ZkJ (w:World) (s:PS) (f:Nat) (d:Int) (h0:0<=d) (h200:d<=200) (hf:200<d+(f+1:Nat)) (h:ParQ w0 w bp ad c L s) (hd:s.deep=d) (tp:TypeId) (pv:Value) (hv:w0.var? Tryd.prog "strconv.ErrSyntax"=some #[.iface tp pv]) (h1:isM L [40] s=false) (h2:isM L [45] s=false) (h3:(Zak L s).1=1) :
  Calls Tryd.prog 80 #[pV bp] w (Zl w0 w bp c ad L (Dd d) s (ZG L (f+1) s)):=by
 have BG:=zh (ZK w0 _ bp c ad L s (h.keep (below_alloc1 w (.cells #[pV bp] 63))) 20)
 have T1:=zh (fun w' h'=>Zg w0 w' bp c ad L s h' [40] (ZhB _ (by decide)))
 have T2:=zh (fun w' h'=>Zg w0 w' bp c ad L s h' [45] (ZhB _ (by decide)))
 rw [Zu h1] at T1
 rw [Zu h2] at T2
 have NX:=zh (fun w' h'=>Zbq w0 w' bp c ad L s h')
 have hk:(Zx L s.at_).1=1:=by rw [<- ZeY h.err];exact h3
 have hfd:∀ (w:World) (a:Int) (b c:Value),(Instr.field 47 (.agg #[.int .i64 a,b,c]) 0).run Tryd.prog w=.ok (.int .i64 a) w:=fun _ _ _ _=>by kernel_rfl
 have hR:=zh (ZkC (f:=f) h.err h3)
 have HG:=zh (Zbw h.end_ (f+1) s (h.dp hd h0 h200 hf))
 have H:=zh (zi h (zi hd hv))
 have hpl:=zh (ZQ (L:=L) h.err)
 clear h hd hv h1 h2 h3 h0 h200 hf
 go_enter Tryd.func80,Tryd.ntmps80
 go_upto_region 4 with (go_at_call 19;(refine BG.out.mono ?_);rintro e1 w1 ⟨b,rfl,T,hb,hB⟩)
 have G1:=zh (Way.begun H.out.1 T hb hB)
 rw [hpl.out] at G1
 generalize w1.alloc (.cells #[brV b] 39)=w2 at *
 have q1:=G1.out.cell (.head _)
 have q2:=G1.out.cell (.tail _ (.head _))
 clear T hb hB
 go_upto_region 7 with (go_at_call 21;(refine (T1.out _ G1.out.P).mono ?_);rintro e2 w3 ⟨rfl,hP,hF⟩;have G2:=zh (G1.out.call hP hF);clear hP hF)
 have q1:=G2.out.cell (.head _)
 have q2:=G2.out.cell (.tail _ (.head _))
 go_upto_region 10 with (go_at_call 21;(refine (T2.out _ G2.out.P).mono ?_);rintro e2 w4 ⟨rfl,hP,hF⟩;have G3:=zh (G2.out.call hP hF);clear hP hF)
 have q1:=G3.out.cell (.head _)
 have q2:=G3.out.cell (.tail _ (.head _))
 go_upto_region 11 with (go_at_call 20;(refine (NX.out _ G3.out.P).mono ?_);rintro e2 w5 ⟨rfl,hB⟩;have G4:=zh (G3.out.grown hB);clear hB)
 clear q1 q2
 refine ZmL ZfF 52 1 3 G4.out (.head _) (.tail _ (.head _)) (fun w1 h1=>Zcu w0 w1 bp c ad L s h1 tp pv H.out.2.2 0) ?bad (fun x w6 hW=>?_)
 case bad=>
  intro z a' w' hd hF
  exact ⟨hd,Zl.bad hF (Zmz (by rw [hR.out])) z⟩
 have G5:=zh hW
 have q1:=G5.out.cell (.head _)
 have q2:=G5.out.cell (.tail _ (.head _))
 clear hW
 simp only [ZE,Zbo,cl,Act.put]
 go_wp2_with fail
 go_ret
 exact Zl.fin HG.out H.out.2.1 hR.out G5.out.F G5.out.P G5.out.done
end
end
section
open Go Go.RowKit
section
variable {w0:World} {bp c:Nat} {ad:Addr} {L:List Tok}
theorem Zv (x:Txt) (h:isKey x=true):PW x:=⟨fun e=>by rw [e] at h;exact absurd h (by decide),.inl h⟩
theorem ZiH (w:World) (s:PS) (f:Nat) (d:Int) (h0:0<=d) (h200:d<=200) (hf:200<d+(f+1:Nat)) (h:ParQ w0 w bp ad c L s) (hd:s.deep=d) (ht:Zaf w0 3 Zs) (h1:isM L [40] s=false) (h2:isM L [45] s=false) (h3:(Zak L s).1≠1) :
  Calls Tryd.prog 80 #[pV bp] w (Zl w0 w bp c ad L (Dd d) s (ZG L (f+1) s)):=by
 have hpl:=zh (ZQ (L:=L) h.err)
 have NX:=zh (fun w' h'=>Zbq w0 w' bp c ad L s h')
 have hk:((Zx L s.at_).1==1)=false:=by rw [<- ZeY h.err];simpa using h3
 have hfd:∀ (w:World) (a:Int) (b c:Value),(Instr.field 47 (.agg #[.int .i64 a,b,c]) 0).run Tryd.prog w=.ok (.int .i64 a) w:=fun _ _ _ _=>by kernel_rfl
 have hS:=zh (ZiD (f:=f) h.err h1 h2 h3)
 have HG:=zh (Zbw h.end_ (f+1) s (h.dp hd h0 h200 hf))
 have BG:=zh (ZK w0 _ bp c ad L s (h.keep (below_alloc1 w (.cells #[pV bp] 63))) 20)
 have T1:=zh (fun w' h'=>Zg w0 w' bp c ad L s h' [40] (ZF _ _ (by decide) (by decide)))
 rw [Zu h1] at T1
 have T2:=zh (fun w' h'=>Zg w0 w' bp c ad L s h' [45] (ZF _ _ (by decide) (by decide)))
 rw [Zu h2] at T2
 have H:=zh (zi h (zi hd ht))
 clear h hd ht h1 h2 h3 h0 h200 hf
 go_enter Tryd.func80,Tryd.ntmps80
 go_upto_region 4 with (go_at_call 19;(refine BG.out.mono ?_);rintro e1 wa ⟨b,rfl,T,hb,hB⟩)
 have G1:=zh (Way.begun H.out.1 T hb hB)
 rw [hpl.out] at G1
 generalize wa.alloc (.cells #[brV b] 39)=wb at *
 clear T hb hB
 have q1:=G1.out.cell (.head _)
 have q2:=G1.out.cell (.tail _ (.head _))
 go_upto_region 7 with (go_at_call 21;(refine (T1.out _ G1.out.P).mono ?_);rintro e2 w1 ⟨rfl,hP,hF⟩;have G2:=zh (G1.out.call hP hF);clear hP hF)
 have q1:=G2.out.cell (.head _)
 have q2:=G2.out.cell (.tail _ (.head _))
 go_upto_region 10 with (go_at_call 21;(refine (T2.out _ G2.out.P).mono ?_);rintro e2 w2 ⟨rfl,hP,hF⟩;have G3:=zh (G2.out.call hP hF);clear hP hF)
 have q1:=G3.out.cell (.head _)
 have q2:=G3.out.cell (.tail _ (.head _))
 go_upto_region 2 with (go_at_call 20;(refine (NX.out _ G3.out.P).mono ?_);rintro e2 wn ⟨rfl,hB⟩;have G4:=zh (G3.out.grown hB);clear hB)
 have q1:=G4.out.cell (.head _)
 have q2:=G4.out.cell (.tail _ (.head _))
 have q3:=G4.out.free 0
 obtain ⟨vw,vn,vk,bs,KK,X⟩:=G4.out.X
 have q4:=X.box.blk.cell 0
 simp only [List.getElem?_toArray,List.getElem?_cons_zero] at q4
 clear X
 go_upto_region 3 with fail
 clear q3 q4
 have G5:=zh (G4.out.kind 21)
 generalize wn.setCell ⟨b,0,none⟩ (.int .i64 21)=wk at *
 clear q1 q2
 refine Zck Zhf 12 1 3 G5.out (.head _) (.tail _ (.head _)) (fun w1 h1=>ZR w0 w1 bp c ad L s h1 H.out.2.2) ?bad (fun x wr hW=>?_)
 case bad=>
  intro z a' w' hd hF
  exact ⟨hd,Zl.bad hF hS.out.2 z⟩
 generalize wr=w3 at *
 have G6:=zh (hW)
 clear hW
 simp only [ZE,cl,Act.put,ZaQ]
 have q1:=G6.out.cell (.head _)
 have q2:=G6.out.cell (.tail _ (.head _))
 have zz:=G6.out.P.err
 go_wp2_with fail
 go_ret
 exact Zl.fin HG.out H.out.2.1 (hS.out.1 zz) G6.out.F G6.out.P G6.out.done
end
end
end Go.Proofs.YtfdgeijnkkdplaaDoor
