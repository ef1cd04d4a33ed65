import Derived.Test.YtkgkmdhpnhmcpaaGreatDoorQAZ
set_option maxRecDepth 100000
set_option maxHeartbeats 8000000
namespace Go.Proofs.YtkgkmdhpnhmcpaaGreatDoor
section
open Go.RowKit
theorem ZaO {X:World} {b:Nat} (h:Blk X b #[.string ⟨#[]⟩,.slice none 0 0,.slice none 0 0]) (v0 v1 v2:Value):(((X.setCell ⟨b,0,none⟩ v0).setCell ⟨b,1,none⟩ v1).setCell ⟨b,2,none⟩ v2).cell? ⟨b,0,none⟩=some v0/\(((X.setCell ⟨b,0,none⟩ v0).setCell ⟨b,1,none⟩ v1).setCell ⟨b,2,none⟩ v2).cell? ⟨b,1,none⟩=some v1/\(((X.setCell ⟨b,0,none⟩ v0).setCell ⟨b,1,none⟩ v1).setCell ⟨b,2,none⟩ v2).cell? ⟨b,2,none⟩=some v2:=
 have k:=((h.set 0 v0).set 1 v1).set 2 v2
 ⟨by rw [k.cell 0];rfl,by rw [k.cell 1];rfl,by rw [k.cell 2];rfl⟩
theorem Zet {X:World} {b:Nat} (h:Blk X b #[.string ⟨#[]⟩,.slice none 0 0,.slice none 0 0]):X.cell? ⟨b,0,none⟩=some (.string ⟨#[]⟩)/\X.cell? ⟨b,1,none⟩=some (.slice none 0 0)/\X.cell? ⟨b,2,none⟩=some (.slice none 0 0)/\X.frozen? ⟨b,0,none⟩=false/\X.frozen? ⟨b,1,none⟩=false/\X.frozen? ⟨b,2,none⟩=false:=
 ⟨by rw [h.cell 0];rfl,by rw [h.cell 1];rfl,by rw [h.cell 2];rfl,h.free 0,h.free 1,h.free 2⟩
theorem Za6 {X:World} {b:Nat} (h:Blk X b #[.string ⟨#[]⟩,.slice none 0 0,.slice none 0 0]) (v0:Value):(X.setCell ⟨b,0,none⟩ v0).cell? ⟨b,1,none⟩=some (.slice none 0 0)/\∀ v1,((X.setCell ⟨b,0,none⟩ v0).setCell ⟨b,1,none⟩ v1).cell? ⟨b,2,none⟩=some (.slice none 0 0):=
 ⟨by rw [(h.set 0 v0).cell 1];rfl,fun v1=>by rw [((h.set 0 v0).set 1 v1).cell 2];rfl⟩
theorem Zdw {w W0 X:World} {b:Nat} {L:List RowR} (acc:AccR W0 X L) (hb:b<W0.heap.size) (hw:w.heap.size<=W0.heap.size) (p:Pro) (vs vm:Value) (rs:List (Value×Mov)) (hm:rs.map (·.2)=p.moves)
  (hs:(⟨82,2,vs,p.states.length,Zt stC p.states⟩:RowR)∈L) (hv:(⟨85,3,vm,rs.length,Zt mvC rs⟩:RowR)∈L) (ho:∀ x∈rs,(⟨110,2,x.1,x.2.outs.length,Zt ouC x.2.outs⟩:RowR)∈L) (u0 u1 u2:Value) :
  ZN (((X.setCell ⟨b,0,none⟩ u0).setCell ⟨b,1,none⟩ u1).setCell ⟨b,2,none⟩ u2) w.heap.size vs vm p:=by
 have h:ZN X W0.heap.size vs vm p:=⟨rs,hm,acc.all _ hs,acc.all _ hv,fun x hx=>acc.all _ (ho x hx)⟩
 obtain ⟨rs',h1,h2,h3,h4⟩:=((h.set (i:=0) (u:=u0) hb).set (i:=1) (u:=u1) hb).set (i:=2) (u:=u2) hb
 exact ⟨rs',h1,Zab h2 hw,Zab h3 hw,fun x hx=>Zab (h4 x hx) hw⟩
theorem ZhQ (w:World):Calls Tryz.prog 103 #[] w fun e w'=>∃ vs vm,e=.returned (ZaH vs vm ZL)/\ZN w' w.heap.size vs vm ZL/\Below w.heap.size w w':=by
 have a1:=below_alloc1 w (.cells #[.string ⟨#[]⟩,.slice none 0 0,.slice none 0 0] 51)
 have B1:=Blk.start w #[.string ⟨#[]⟩,.slice none 0 0,.slice none 0 0] 51
 have HS:=zh (World.size_alloc w (.cells #[.string ⟨#[]⟩,.slice none 0 0,.slice none 0 0] 51))
 go_enter Tryz.func103,Tryz.ntmps103
 go_upto_region 1 with fail
 generalize w.alloc (.cells #[.string ⟨#[]⟩,.slice none 0 0,.slice none 0 0] 51)=W0 at *
 have ACC:=zh ((AccR.start W0).push 82 2 3 #[.string ⟨#[79,112,101,110]⟩,.bool false,.string ⟨#[69,110,100]⟩,.bool false,.string ⟨#[83,104,117,116]⟩,.bool true] (by omega) rfl)
 have HB:=zh (zi a1 B1)
 clear a1 B1
 go_wp2_with (first
  | (go_at_call 137;(refine (Zfc _ _ _).mono ?_);rintro e w1 ⟨rfl,hb⟩;replace ACC:=zh (ACC.out.keep hb);clear hb)
  | (go_at_call 136;(first | (with_reducible refine (ZcL _ _ ACC.out _ _ _ _).mono ?_) | (with_reducible refine (ZcM _ _ ACC.out _ _ _ _ _ _).mono ?_) | (with_reducible refine (ZcN _ _ ACC.out _ _ _ _ _ _ _ _).mono ?_));rintro e w1 ⟨rfl,h,_⟩;replace ACC:=zh h;have BX:=fun (x:Obj)=>(HB.out.2.keepB h.below HB.out.2.lt).keep (below_alloc1 w1 x);have I:=fun (x:Obj)=>Zet (BX x);have c0:=fun x=>(I x).1;have c1:=fun x=>(I x).2.1;have c2:=fun x=>(I x).2.2.1;have f0:=fun x=>(I x).2.2.2.1;have f1:=fun x=>(I x).2.2.2.2.1;have f2:=fun x=>(I x).2.2.2.2.2;have d1:=fun x v=>(Za6 (BX x) v).1;have d2:=fun x v=>(Za6 (BX x) v).2;have r0:=fun x u0 u1 u2=>(ZaO (BX x) u0 u1 u2).1;have r1:=fun x u0 u1 u2=>(ZaO (BX x) u0 u1 u2).2.1;have r2:=fun x u0 u1 u2=>(ZaO (BX x) u0 u1 u2).2.2;clear h I BX))
 have lt:w.heap.size<W0.heap.size:=by have:=HS.out;omega
 refine bodyPost_ret (v:=ZaH (.slice (some ⟨W0.heap.size,0,none⟩) 3 3) (.slice (some ⟨w1.heap.size,0,none⟩) 6 6) ZL) (by simp [results,Tryz.results103,go_sem,r0,r1,r2];rfl) rfl ⟨_,_,rfl,Zdw (AccR.push ACC.out 85 3 6 _ (by omega) ?_) lt (Nat.le_of_lt lt) ZL (.slice (some ⟨W0.heap.size,0,none⟩) 3 3) (.slice (some ⟨w1.heap.size,0,none⟩) 6 6) [(_,⟨[114,101,97,100],0,[⟨[115,111,109,101],0⟩,⟨[110,111,110,101],1⟩]⟩),(_,⟨[119,114,105,116,101],0,[⟨[111,107],0⟩,⟨[111,118,101,114],1⟩]⟩),(_,⟨[115,105,122,101],0,[⟨[111,107],0⟩]⟩),(_,⟨[115,105,122,101],1,[⟨[111,107],1⟩]⟩),(_,⟨[99,108,111,115,101],0,[⟨[111,107],2⟩]⟩),(_,⟨[99,108,111,115,101],1,[⟨[111,107],2⟩]⟩)] rfl (.tail _ (.tail _ (.tail _ (.tail _ (.tail _ (.tail _ (.tail _ (.head _)))))))) (.head _) (fun x hx=>?_) _ _ _,?_⟩
 ·rfl
 ·simp only [List.mem_cons,List.not_mem_nil,or_false] at hx
  rcases hx with rfl | rfl | rfl | rfl | rfl | rfl
  ·exact .tail _ (.tail _ (.tail _ (.tail _ (.tail _ (.tail _ (.head _))))))
  ·exact .tail _ (.tail _ (.tail _ (.tail _ (.tail _ (.head _)))))
  ·exact .tail _ (.tail _ (.tail _ (.tail _ (.head _))))
  ·exact .tail _ (.tail _ (.tail _ (.head _)))
  ·exact .tail _ (.tail _ (.head _))
  ·exact .tail _ (.head _)
 ·exact ((((HB.out.1.trans (((ACC.out.keep (below_alloc1 w1 _)).below).mono (Nat.le_of_lt lt))).setCell (p:=⟨w.heap.size,0,none⟩) (Nat.le_refl _) _).setCell (p:=⟨w.heap.size,1,none⟩) (Nat.le_refl _) _).setCell (p:=⟨w.heap.size,2,none⟩) (Nat.le_refl _) _)
theorem ZgB (w:World):Calls Tryz.prog 104 #[] w fun e w'=>∃ vs vm,e=.returned (ZaH vs vm Zw)/\ZN w' w.heap.size vs vm Zw/\Below w.heap.size w w':=by
 have a1:=below_alloc1 w (.cells #[.string ⟨#[]⟩,.slice none 0 0,.slice none 0 0] 51)
 have B1:=Blk.start w #[.string ⟨#[]⟩,.slice none 0 0,.slice none 0 0] 51
 have HS:=zh (World.size_alloc w (.cells #[.string ⟨#[]⟩,.slice none 0 0,.slice none 0 0] 51))
 go_enter Tryz.func104,Tryz.ntmps104
 go_upto_region 1 with fail
 generalize w.alloc (.cells #[.string ⟨#[]⟩,.slice none 0 0,.slice none 0 0] 51)=W0 at *
 have ACC:=zh ((AccR.start W0).push 82 2 4 #[.string ⟨#[70,114,101,115,104]⟩,.bool false,.string ⟨#[76,105,118,101]⟩,.bool false,.string ⟨#[68,101,97,100]⟩,.bool false,.string ⟨#[67,108,111,115,101,100]⟩,.bool true] (by omega) rfl)
 have HB:=zh (zi a1 B1)
 clear a1 B1
 go_wp2_with (first
  | (go_at_call 137;(refine (Zfc _ _ _).mono ?_);rintro e w1 ⟨rfl,hb⟩;replace ACC:=zh (ACC.out.keep hb);clear hb)
  | (go_at_call 136;(first | (with_reducible refine (ZcL _ _ ACC.out _ _ _ _).mono ?_) | (with_reducible refine (ZcM _ _ ACC.out _ _ _ _ _ _).mono ?_) | (with_reducible refine (ZcN _ _ ACC.out _ _ _ _ _ _ _ _).mono ?_));rintro e w1 ⟨rfl,h,_⟩;replace ACC:=zh h;have BX:=fun (x:Obj)=>(HB.out.2.keepB h.below HB.out.2.lt).keep (below_alloc1 w1 x);have I:=fun (x:Obj)=>Zet (BX x);have c0:=fun x=>(I x).1;have c1:=fun x=>(I x).2.1;have c2:=fun x=>(I x).2.2.1;have f0:=fun x=>(I x).2.2.2.1;have f1:=fun x=>(I x).2.2.2.2.1;have f2:=fun x=>(I x).2.2.2.2.2;have d1:=fun x v=>(Za6 (BX x) v).1;have d2:=fun x v=>(Za6 (BX x) v).2;have r0:=fun x u0 u1 u2=>(ZaO (BX x) u0 u1 u2).1;have r1:=fun x u0 u1 u2=>(ZaO (BX x) u0 u1 u2).2.1;have r2:=fun x u0 u1 u2=>(ZaO (BX x) u0 u1 u2).2.2;clear h I BX))
 have lt:w.heap.size<W0.heap.size:=by have:=HS.out;omega
 refine bodyPost_ret (v:=ZaH (.slice (some ⟨W0.heap.size,0,none⟩) 4 4) (.slice (some ⟨w1.heap.size,0,none⟩) 7 7) Zw) (by simp [results,Tryz.results104,go_sem,r0,r1,r2];rfl) rfl ⟨_,_,rfl,Zdw (AccR.push ACC.out 85 3 7 _ (by omega) ?_) lt (Nat.le_of_lt lt) Zw (.slice (some ⟨W0.heap.size,0,none⟩) 4 4) (.slice (some ⟨w1.heap.size,0,none⟩) 7 7) [(_,⟨[99,111,110,110,101,99,116],0,[⟨[111,107],1⟩,⟨[102,97,105,108],2⟩]⟩),(_,⟨[115,101,110,100],1,[⟨[111,107],1⟩,⟨[108,111,115,116],2⟩]⟩),(_,⟨[114,101,99,118],1,[⟨[115,111,109,101],1⟩,⟨[110,111,110,101],1⟩,⟨[108,111,115,116],2⟩]⟩),(_,⟨[112,101,101,107],1,[⟨[115,111,109,101],1⟩,⟨[110,111,110,101],1⟩]⟩),(_,⟨[99,108,111,115,101],0,[⟨[111,107],3⟩]⟩),(_,⟨[99,108,111,115,101],1,[⟨[111,107],3⟩]⟩),(_,⟨[99,108,111,115,101],2,[⟨[111,107],3⟩]⟩)] rfl (.tail _ (.tail _ (.tail _ (.tail _ (.tail _ (.tail _ (.tail _ (.tail _ (.head _))))))))) (.head _) (fun x hx=>?_) _ _ _,?_⟩
 ·rfl
 ·simp only [List.mem_cons,List.not_mem_nil,or_false] at hx
  rcases hx with rfl | rfl | rfl | rfl | rfl | rfl | rfl
  ·exact .tail _ (.tail _ (.tail _ (.tail _ (.tail _ (.tail _ (.tail _ (.head _)))))))
  ·exact .tail _ (.tail _ (.tail _ (.tail _ (.tail _ (.tail _ (.head _))))))
  ·exact .tail _ (.tail _ (.tail _ (.tail _ (.tail _ (.head _)))))
  ·exact .tail _ (.tail _ (.tail _ (.tail _ (.head _))))
  ·exact .tail _ (.tail _ (.tail _ (.head _)))
  ·exact .tail _ (.tail _ (.head _))
  ·exact .tail _ (.head _)
 ·exact ((((HB.out.1.trans (((ACC.out.keep (below_alloc1 w1 _)).below).mono (Nat.le_of_lt lt))).setCell (p:=⟨w.heap.size,0,none⟩) (Nat.le_refl _) _).setCell (p:=⟨w.heap.size,1,none⟩) (Nat.le_refl _) _).setCell (p:=⟨w.heap.size,2,none⟩) (Nat.le_refl _) _)
theorem ZhY (w:World):Calls Tryz.prog 105 #[] w fun e w'=>∃ vs vm,e=.returned (ZaH vs vm ZO)/\ZN w' w.heap.size vs vm ZO/\Below w.heap.size w w':=by
 have a1:=below_alloc1 w (.cells #[.string ⟨#[]⟩,.slice none 0 0,.slice none 0 0] 51)
 have B1:=Blk.start w #[.string ⟨#[]⟩,.slice none 0 0,.slice none 0 0] 51
 have HS:=zh (World.size_alloc w (.cells #[.string ⟨#[]⟩,.slice none 0 0,.slice none 0 0] 51))
 go_enter Tryz.func105,Tryz.ntmps105
 go_upto_region 1 with fail
 generalize w.alloc (.cells #[.string ⟨#[]⟩,.slice none 0 0,.slice none 0 0] 51)=W0 at *
 have ACC:=zh ((AccR.start W0).push 82 2 2 #[.string ⟨#[82,101,97,100,121]⟩,.bool false,.string ⟨#[79,118,101,114]⟩,.bool true] (by omega) rfl)
 have HB:=zh (zi a1 B1)
 clear a1 B1
 go_wp2_with (first
  | (go_at_call 137;(refine (Zfc _ _ _).mono ?_);rintro e w1 ⟨rfl,hb⟩;replace ACC:=zh (ACC.out.keep hb);clear hb)
  | (go_at_call 136;(first | (with_reducible refine (ZcL _ _ ACC.out _ _ _ _).mono ?_) | (with_reducible refine (ZcM _ _ ACC.out _ _ _ _ _ _).mono ?_) | (with_reducible refine (ZcN _ _ ACC.out _ _ _ _ _ _ _ _).mono ?_));rintro e w1 ⟨rfl,h,_⟩;replace ACC:=zh h;have BX:=fun (x:Obj)=>(HB.out.2.keepB h.below HB.out.2.lt).keep (below_alloc1 w1 x);have I:=fun (x:Obj)=>Zet (BX x);have c0:=fun x=>(I x).1;have c1:=fun x=>(I x).2.1;have c2:=fun x=>(I x).2.2.1;have f0:=fun x=>(I x).2.2.2.1;have f1:=fun x=>(I x).2.2.2.2.1;have f2:=fun x=>(I x).2.2.2.2.2;have d1:=fun x v=>(Za6 (BX x) v).1;have d2:=fun x v=>(Za6 (BX x) v).2;have r0:=fun x u0 u1 u2=>(ZaO (BX x) u0 u1 u2).1;have r1:=fun x u0 u1 u2=>(ZaO (BX x) u0 u1 u2).2.1;have r2:=fun x u0 u1 u2=>(ZaO (BX x) u0 u1 u2).2.2;clear h I BX))
 have lt:w.heap.size<W0.heap.size:=by have:=HS.out;omega
 refine bodyPost_ret (v:=ZaH (.slice (some ⟨W0.heap.size,0,none⟩) 2 2) (.slice (some ⟨w1.heap.size,0,none⟩) 3 3) ZO) (by simp [results,Tryz.results105,go_sem,r0,r1,r2];rfl) rfl ⟨_,_,rfl,Zdw (AccR.push ACC.out 85 3 3 _ (by omega) ?_) lt (Nat.le_of_lt lt) ZO (.slice (some ⟨W0.heap.size,0,none⟩) 2 2) (.slice (some ⟨w1.heap.size,0,none⟩) 3 3) [(_,⟨[110,101,120,116],0,[⟨[105,116,101,109],0⟩,⟨[100,111,110,101],1⟩]⟩),(_,⟨[115,116,111,112],0,[⟨[111,107],1⟩]⟩),(_,⟨[108,101,102,116],0,[⟨[111,107],0⟩]⟩)] rfl (.tail _ (.tail _ (.tail _ (.tail _ (.head _))))) (.head _) (fun x hx=>?_) _ _ _,?_⟩
 ·rfl
 ·simp only [List.mem_cons,List.not_mem_nil,or_false] at hx
  rcases hx with rfl | rfl | rfl
  ·exact .tail _ (.tail _ (.tail _ (.head _)))
  ·exact .tail _ (.tail _ (.head _))
  ·exact .tail _ (.head _)
 ·exact ((((HB.out.1.trans (((ACC.out.keep (below_alloc1 w1 _)).below).mono (Nat.le_of_lt lt))).setCell (p:=⟨w.heap.size,0,none⟩) (Nat.le_refl _) _).setCell (p:=⟨w.heap.size,1,none⟩) (Nat.le_refl _) _).setCell (p:=⟨w.heap.size,2,none⟩) (Nat.le_refl _) _)
end
end Go.Proofs.YtkgkmdhpnhmcpaaGreatDoor
