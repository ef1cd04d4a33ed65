import Derived.Test.YtenbomphkihmlaaGreatDoorQAU
import Derived.Test.YtenbomphkihmlaaGreatDoorQAV
import Derived.Test.YtenbomphkihmlaaGreatDoorQAW
import Derived.Test.YtenbomphkihmlaaGreatDoorQAX
import Derived.Test.YtenbomphkihmlaaGreatDoorQAY
import Derived.Test.YtenbomphkihmlaaGreatDoorQAZ
import Derived.Test.YtenbomphkihmlaaGreatDoorQBA
import Derived.Test.YtenbomphkihmlaaGreatDoorQBB
import Derived.Test.YtenbomphkihmlaaGreatDoorQBC
set_option maxRecDepth 100000
set_option maxHeartbeats 8000000
namespace Go.Proofs.YtenbomphkihmlaaGreatDoor
section
open Go.RowKit
theorem Zhc {P:Prop} {b:Bool} (h:b=true->P):OkB P (.returned (.bool b)):=⟨b,rfl,h⟩
theorem ZfQ (w:World) (v:Value) (ns:List Nd) (va vb vc:Value) (ws:List (List UInt8)) (nums ks:List Int) (ps:Int) (hN:Zf w v ns) (hx:Zv w ((va,vb,vc),⟨5,ws,nums,ks,ps⟩)) (hk:Zz ks ns.length) :
  Calls Tryz.prog 15 #[v,ndV ((va,vb,vc),⟨5,ws,nums,ks,ps⟩)] w fun e w'=>OkB (Zw ns ⟨5,ws,nums,ks,ps⟩=true) e/\Below w.heap.size w w':=by
 obtain ⟨h1,h2,h3⟩:=id hx
 dsimp only at h1 h2 h3
 have WR:=Lib.hid (fun (wr:World) (hb:Below w.heap.size w wr) (a b:Int)=>ZN wr _ a b (hx.below hb))
 have NO0:=Lib.hid (fun (wr:World) (hb:Below w.heap.size w wr)=>ZU wr _ (hx.below hb))
 have KD0:=Lib.hid (fun (wr:World) (hb:Below w.heap.size w wr) (i:Nat) (hi:i<ks.length)=>Zaa wr v ns _ i (hN.below hb) (hx.below hb) hk hi)
 have BL0:=Lib.hid (fun (wr:World) (hb:Below w.heap.size w wr) (f:Nat) (a b:Int) (hf:f<=ks.length) (hf1:f<=1)=>ZF wr v ns _ f a b (hN.below hb) (hx.below hb) hk hf hf1)
 have FR0:=Lib.hid (fun (hl:nums.length=3) (wr:World) (hb:Below w.heap.size w wr)=>ZT wr _ (hx.below hb) hl)
 have PR:=Lib.hid (fun (wr:World) (hb:Below w.heap.size w wr)=>ZfT wr v ns va vb vc ws nums ks ps (hN.below hb) (hx.below hb) hk)
 obtain ⟨A1,c1,rfl,_⟩:=h1
 obtain ⟨A2,c2,rfl,_,_,R2'⟩:=h2
 have KL:=Lib.hid h3.len
 obtain ⟨A3,c3,rfl,_⟩:=h3
 have R2:=Lib.hid R2'
 unfold ndV at WR NO0 KD0 BL0 FR0 PR ⊢
 dsimp only at WR NO0 KD0 BL0 FR0 PR ⊢
 have STB:=Lib.hid (show Stb (fun w'=>(w'.cell? ⟨w.heap.size,0,none⟩=some (.int .i64 5)/\w'.cell? ⟨w.heap.size,1,none⟩=some (.slice A1 ws.length c1)/\w'.cell? ⟨w.heap.size,2,none⟩=some (.slice A2 nums.length c2)/\w'.cell? ⟨w.heap.size,3,none⟩=some (.slice A3 ks.length c3)/\w'.cell? ⟨w.heap.size,4,none⟩=some (.int .i64 ps))/\Below w.heap.size w w') from Zd (Zd (Zc _ _) (Zd (Zc _ _) (Zd (Zc _ _) (Zd (Zc _ _) (Zc _ _))))) (Zn w))
 have HS1:((w.alloc (.cells #[.int .i64 5,.slice A1 ws.length c1,.slice A2 nums.length c2,.slice A3 ks.length c3,.int .i64 ps] 29)).cell? ⟨w.heap.size,0,none⟩=some (.int .i64 5)/\(w.alloc (.cells #[.int .i64 5,.slice A1 ws.length c1,.slice A2 nums.length c2,.slice A3 ks.length c3,.int .i64 ps] 29)).cell? ⟨w.heap.size,1,none⟩=some (.slice A1 ws.length c1)/\(w.alloc (.cells #[.int .i64 5,.slice A1 ws.length c1,.slice A2 nums.length c2,.slice A3 ks.length c3,.int .i64 ps] 29)).cell? ⟨w.heap.size,2,none⟩=some (.slice A2 nums.length c2)/\(w.alloc (.cells #[.int .i64 5,.slice A1 ws.length c1,.slice A2 nums.length c2,.slice A3 ks.length c3,.int .i64 ps] 29)).cell? ⟨w.heap.size,3,none⟩=some (.slice A3 ks.length c3)/\(w.alloc (.cells #[.int .i64 5,.slice A1 ws.length c1,.slice A2 nums.length c2,.slice A3 ks.length c3,.int .i64 ps] 29)).cell? ⟨w.heap.size,4,none⟩=some (.int .i64 ps))/\Below w.heap.size w (w.alloc (.cells #[.int .i64 5,.slice A1 ws.length c1,.slice A2 nums.length c2,.slice A3 ks.length c3,.int .i64 ps] 29)):=⟨⟨(Blk.start w _ _).cell 0,(Blk.start w _ _).cell 1,(Blk.start w _ _).cell 2,(Blk.start w _ _).cell 3,(Blk.start w _ _).cell 4⟩,Zb w _⟩
 have K1:=Lib.hid HS1
 obtain ⟨⟨g0,g1,g2,g3,g4⟩,_⟩:=HS1
 clear R2' hx hN hk
 go_enter Tryz.func15,Tryz.ntmps15
 go_upto_region 1 with fail
 generalize (w.alloc (.cells #[.int .i64 5,.slice A1 ws.length c1,.slice A2 nums.length c2,.slice A3 ks.length c3,.int .i64 ps] 29))=w1 at *
 go_wp2_with (go_at_call 33;(with_reducible refine (PR.out w1 (Za K1.out)).mono ?_);rintro ea wa ⟨⟨b,rfl,hq⟩,hba⟩;have BA:=Lib.hid (And.intro hq ((Za K1.out).trans (hba.mono (Za K1.out).size)));clear hq hba)
 go_ret
 exact ⟨Zhc BA.out.1,BA.out.2⟩
theorem Zhs (w:World) (v:Value) (ns:List Nd) (va vb vc:Value) (kd:Int) (ws:List (List UInt8)) (nums ks:List Int) (ps:Int) (hN:Zf w v ns) (hx:Zv w ((va,vb,vc),⟨kd,ws,nums,ks,ps⟩)) (hk:Zz ks ns.length) (h0:0<=kd) (h6:kd<=6) :
  Calls Tryz.prog 15 #[v,ndV ((va,vb,vc),⟨kd,ws,nums,ks,ps⟩)] w fun e w'=>OkB (Zw ns ⟨kd,ws,nums,ks,ps⟩=true) e/\Below w.heap.size w w':=by
 by_cases q0:kd=0
 ·subst q0
  exact ZeB w v ns va vb vc ws nums ks ps hN hx hk
 by_cases q1:kd=1
 ·subst q1
  exact ZfR w v ns va vb vc ws nums ks ps hN hx hk
 by_cases q2:kd=2
 ·subst q2
  exact ZfS w v ns va vb vc ws nums ks ps hN hx hk
 by_cases q3:kd=3
 ·subst q3
  exact Ziy w v ns va vb vc ws nums ks ps hN hx hk
 by_cases q4:kd=4
 ·subst q4
  exact Zix w v ns va vb vc ws nums ks ps hN hx hk
 by_cases q5:kd=5
 ·subst q5
  exact ZfQ w v ns va vb vc ws nums ks ps hN hx hk
 by_cases q6:kd=6
 ·subst q6
  exact ZfP w v ns va vb vc ws nums ks ps hN hx hk
 omega
theorem Zhn (w:World) (v:Value) (ns:List Nd) (va vb vc:Value) (kd:Int) (ws:List (List UInt8)) (nums ks:List Int) (ps:Int) (hN:Zf w v ns) (hx:Zv w ((va,vb,vc),⟨kd,ws,nums,ks,ps⟩)) (hk:Zz ks ns.length) (h0:7<=kd) (h6:kd<=19) (h15:kd≠15) :
  Calls Tryz.prog 20 #[v,ndV ((va,vb,vc),⟨kd,ws,nums,ks,ps⟩)] w fun e w'=>OkB (Zw ns ⟨kd,ws,nums,ks,ps⟩=true) e/\Below w.heap.size w w':=by
 by_cases q7:kd=7
 ·subst q7
  exact ZfL w v ns va vb vc ws nums ks ps hN hx hk
 by_cases q8:kd=8
 ·subst q8
  exact Zho w v ns va vb vc ws nums ks ps hN hx hk
 by_cases q9:kd=9
 ·subst q9
  exact Zhp w v ns va vb vc ws nums ks ps hN hx hk
 by_cases q10:kd=10
 ·subst q10
  exact Zgk w v ns va vb vc ws nums ks ps hN hx hk
 by_cases q11:kd=11
 ·subst q11
  exact Zil w v ns va vb vc ws nums ks ps hN hx hk
 by_cases q12:kd=12
 ·subst q12
  exact Zgi w v ns va vb vc ws nums ks ps hN hx hk
 by_cases q13:kd=13
 ·subst q13
  exact ZfM w v ns va vb vc ws nums ks ps hN hx hk
 by_cases q14:kd=14
 ·subst q14
  exact Zgh w v ns va vb vc ws nums ks ps hN hx hk
 by_cases q16:kd=16
 ·subst q16
  exact Zim w v ns va vb vc ws nums ks ps hN hx hk
 by_cases q17:kd=17
 ·subst q17
  exact ZfN w v ns va vb vc ws nums ks ps hN hx hk
 by_cases q18:kd=18
 ·subst q18
  exact Zfe w v ns va vb vc ws nums ks ps hN hx hk
 by_cases q19:kd=19
 ·subst q19
  exact Zgj w v ns va vb vc ws nums ks ps hN hx hk
 omega
theorem Zit (w:World) (v:Value) (ns:List Nd) (va vb vc:Value) (kd:Int) (ws:List (List UInt8)) (nums ks:List Int) (ps:Int) (hN:Zf w v ns) (hx:Zv w ((va,vb,vc),⟨kd,ws,nums,ks,ps⟩)) (hk:Zz ks ns.length) (q1:kd<0) :
  Calls Tryz.prog 10 #[v,ndV ((va,vb,vc),⟨kd,ws,nums,ks,ps⟩)] w fun e w'=>OkB (Zw ns ⟨kd,ws,nums,ks,ps⟩=true) e/\Below w.heap.size w w':=by
 obtain ⟨h1,h2,h3⟩:=id hx
 dsimp only at h1 h2 h3
 have WR:=Lib.hid (fun (wr:World) (hb:Below w.heap.size w wr) (a b:Int)=>ZN wr _ a b (hx.below hb))
 have NO0:=Lib.hid (fun (wr:World) (hb:Below w.heap.size w wr)=>ZU wr _ (hx.below hb))
 have KD0:=Lib.hid (fun (wr:World) (hb:Below w.heap.size w wr) (i:Nat) (hi:i<ks.length)=>Zaa wr v ns _ i (hN.below hb) (hx.below hb) hk hi)
 have BL0:=Lib.hid (fun (wr:World) (hb:Below w.heap.size w wr) (f:Nat) (a b:Int) (hf:f<=ks.length) (hf1:f<=1)=>ZF wr v ns _ f a b (hN.below hb) (hx.below hb) hk hf hf1)
 have FR0:=Lib.hid (fun (hl:nums.length=3) (wr:World) (hb:Below w.heap.size w wr)=>ZT wr _ (hx.below hb) hl)
 obtain ⟨A1,c1,rfl,_⟩:=h1
 obtain ⟨A2,c2,rfl,_,_,R2'⟩:=h2
 have KL:=Lib.hid h3.len
 obtain ⟨A3,c3,rfl,_⟩:=h3
 have R2:=Lib.hid R2'
 unfold ndV at WR NO0 KD0 BL0 FR0 ⊢
 dsimp only at WR NO0 KD0 BL0 FR0 ⊢
 have STB:=Lib.hid (show Stb (fun w'=>(w'.cell? ⟨w.heap.size,0,none⟩=some (.int .i64 kd)/\w'.cell? ⟨w.heap.size,1,none⟩=some (.slice A1 ws.length c1)/\w'.cell? ⟨w.heap.size,2,none⟩=some (.slice A2 nums.length c2)/\w'.cell? ⟨w.heap.size,3,none⟩=some (.slice A3 ks.length c3)/\w'.cell? ⟨w.heap.size,4,none⟩=some (.int .i64 ps))/\Below w.heap.size w w') from Zd (Zd (Zc _ _) (Zd (Zc _ _) (Zd (Zc _ _) (Zd (Zc _ _) (Zc _ _))))) (Zn w))
 have HS1:((w.alloc (.cells #[.int .i64 kd,.slice A1 ws.length c1,.slice A2 nums.length c2,.slice A3 ks.length c3,.int .i64 ps] 29)).cell? ⟨w.heap.size,0,none⟩=some (.int .i64 kd)/\(w.alloc (.cells #[.int .i64 kd,.slice A1 ws.length c1,.slice A2 nums.length c2,.slice A3 ks.length c3,.int .i64 ps] 29)).cell? ⟨w.heap.size,1,none⟩=some (.slice A1 ws.length c1)/\(w.alloc (.cells #[.int .i64 kd,.slice A1 ws.length c1,.slice A2 nums.length c2,.slice A3 ks.length c3,.int .i64 ps] 29)).cell? ⟨w.heap.size,2,none⟩=some (.slice A2 nums.length c2)/\(w.alloc (.cells #[.int .i64 kd,.slice A1 ws.length c1,.slice A2 nums.length c2,.slice A3 ks.length c3,.int .i64 ps] 29)).cell? ⟨w.heap.size,3,none⟩=some (.slice A3 ks.length c3)/\(w.alloc (.cells #[.int .i64 kd,.slice A1 ws.length c1,.slice A2 nums.length c2,.slice A3 ks.length c3,.int .i64 ps] 29)).cell? ⟨w.heap.size,4,none⟩=some (.int .i64 ps))/\Below w.heap.size w (w.alloc (.cells #[.int .i64 kd,.slice A1 ws.length c1,.slice A2 nums.length c2,.slice A3 ks.length c3,.int .i64 ps] 29)):=⟨⟨(Blk.start w _ _).cell 0,(Blk.start w _ _).cell 1,(Blk.start w _ _).cell 2,(Blk.start w _ _).cell 3,(Blk.start w _ _).cell 4⟩,Zb w _⟩
 have K1:=Lib.hid HS1
 obtain ⟨⟨g0,g1,g2,g3,g4⟩,_⟩:=HS1
 clear R2' hx hN hk
 go_enter Tryz.func10,Tryz.ntmps10
 go_upto_region 1 with fail
 generalize (w.alloc (.cells #[.int .i64 kd,.slice A1 ws.length c1,.slice A2 nums.length c2,.slice A3 ks.length c3,.int .i64 ps] 29))=w1 at *
 go_wp2_with fail
 go_ret
 exact ⟨Zj,Za K1.out⟩
theorem Zhr (w:World) (v:Value) (ns:List Nd) (va vb vc:Value) (kd:Int) (ws:List (List UInt8)) (nums ks:List Int) (ps:Int) (hN:Zf w v ns) (hx:Zv w ((va,vb,vc),⟨kd,ws,nums,ks,ps⟩)) (hk:Zz ks ns.length) (q2:23<kd) :
  Calls Tryz.prog 10 #[v,ndV ((va,vb,vc),⟨kd,ws,nums,ks,ps⟩)] w fun e w'=>OkB (Zw ns ⟨kd,ws,nums,ks,ps⟩=true) e/\Below w.heap.size w w':=by
 obtain ⟨h1,h2,h3⟩:=id hx
 dsimp only at h1 h2 h3
 have WR:=Lib.hid (fun (wr:World) (hb:Below w.heap.size w wr) (a b:Int)=>ZN wr _ a b (hx.below hb))
 have NO0:=Lib.hid (fun (wr:World) (hb:Below w.heap.size w wr)=>ZU wr _ (hx.below hb))
 have KD0:=Lib.hid (fun (wr:World) (hb:Below w.heap.size w wr) (i:Nat) (hi:i<ks.length)=>Zaa wr v ns _ i (hN.below hb) (hx.below hb) hk hi)
 have BL0:=Lib.hid (fun (wr:World) (hb:Below w.heap.size w wr) (f:Nat) (a b:Int) (hf:f<=ks.length) (hf1:f<=1)=>ZF wr v ns _ f a b (hN.below hb) (hx.below hb) hk hf hf1)
 have FR0:=Lib.hid (fun (hl:nums.length=3) (wr:World) (hb:Below w.heap.size w wr)=>ZT wr _ (hx.below hb) hl)
 obtain ⟨A1,c1,rfl,_⟩:=h1
 obtain ⟨A2,c2,rfl,_,_,R2'⟩:=h2
 have KL:=Lib.hid h3.len
 obtain ⟨A3,c3,rfl,_⟩:=h3
 have R2:=Lib.hid R2'
 unfold ndV at WR NO0 KD0 BL0 FR0 ⊢
 dsimp only at WR NO0 KD0 BL0 FR0 ⊢
 have STB:=Lib.hid (show Stb (fun w'=>(w'.cell? ⟨w.heap.size,0,none⟩=some (.int .i64 kd)/\w'.cell? ⟨w.heap.size,1,none⟩=some (.slice A1 ws.length c1)/\w'.cell? ⟨w.heap.size,2,none⟩=some (.slice A2 nums.length c2)/\w'.cell? ⟨w.heap.size,3,none⟩=some (.slice A3 ks.length c3)/\w'.cell? ⟨w.heap.size,4,none⟩=some (.int .i64 ps))/\Below w.heap.size w w') from Zd (Zd (Zc _ _) (Zd (Zc _ _) (Zd (Zc _ _) (Zd (Zc _ _) (Zc _ _))))) (Zn w))
 have HS1:((w.alloc (.cells #[.int .i64 kd,.slice A1 ws.length c1,.slice A2 nums.length c2,.slice A3 ks.length c3,.int .i64 ps] 29)).cell? ⟨w.heap.size,0,none⟩=some (.int .i64 kd)/\(w.alloc (.cells #[.int .i64 kd,.slice A1 ws.length c1,.slice A2 nums.length c2,.slice A3 ks.length c3,.int .i64 ps] 29)).cell? ⟨w.heap.size,1,none⟩=some (.slice A1 ws.length c1)/\(w.alloc (.cells #[.int .i64 kd,.slice A1 ws.length c1,.slice A2 nums.length c2,.slice A3 ks.length c3,.int .i64 ps] 29)).cell? ⟨w.heap.size,2,none⟩=some (.slice A2 nums.length c2)/\(w.alloc (.cells #[.int .i64 kd,.slice A1 ws.length c1,.slice A2 nums.length c2,.slice A3 ks.length c3,.int .i64 ps] 29)).cell? ⟨w.heap.size,3,none⟩=some (.slice A3 ks.length c3)/\(w.alloc (.cells #[.int .i64 kd,.slice A1 ws.length c1,.slice A2 nums.length c2,.slice A3 ks.length c3,.int .i64 ps] 29)).cell? ⟨w.heap.size,4,none⟩=some (.int .i64 ps))/\Below w.heap.size w (w.alloc (.cells #[.int .i64 kd,.slice A1 ws.length c1,.slice A2 nums.length c2,.slice A3 ks.length c3,.int .i64 ps] 29)):=⟨⟨(Blk.start w _ _).cell 0,(Blk.start w _ _).cell 1,(Blk.start w _ _).cell 2,(Blk.start w _ _).cell 3,(Blk.start w _ _).cell 4⟩,Zb w _⟩
 have K1:=Lib.hid HS1
 obtain ⟨⟨g0,g1,g2,g3,g4⟩,_⟩:=HS1
 clear R2' hx hN hk
 have q1:0<=kd:=by omega
 go_enter Tryz.func10,Tryz.ntmps10
 go_upto_region 1 with fail
 generalize (w.alloc (.cells #[.int .i64 kd,.slice A1 ws.length c1,.slice A2 nums.length c2,.slice A3 ks.length c3,.int .i64 ps] 29))=w1 at *
 go_wp2_with fail
 go_ret
 exact ⟨Zj,Za K1.out⟩
theorem Zgn (w:World) (v:Value) (ns:List Nd) (va vb vc:Value) (kd:Int) (ws:List (List UInt8)) (nums ks:List Int) (ps:Int) (hN:Zf w v ns) (hx:Zv w ((va,vb,vc),⟨kd,ws,nums,ks,ps⟩)) (hk:Zz ks ns.length) (h0:0<=kd) (h6:kd<=6) :
  Calls Tryz.prog 10 #[v,ndV ((va,vb,vc),⟨kd,ws,nums,ks,ps⟩)] w fun e w'=>OkB (Zw ns ⟨kd,ws,nums,ks,ps⟩=true) e/\Below w.heap.size w w':=by
 obtain ⟨h1,h2,h3⟩:=id hx
 dsimp only at h1 h2 h3
 have WR:=Lib.hid (fun (wr:World) (hb:Below w.heap.size w wr) (a b:Int)=>ZN wr _ a b (hx.below hb))
 have NO0:=Lib.hid (fun (wr:World) (hb:Below w.heap.size w wr)=>ZU wr _ (hx.below hb))
 have KD0:=Lib.hid (fun (wr:World) (hb:Below w.heap.size w wr) (i:Nat) (hi:i<ks.length)=>Zaa wr v ns _ i (hN.below hb) (hx.below hb) hk hi)
 have BL0:=Lib.hid (fun (wr:World) (hb:Below w.heap.size w wr) (f:Nat) (a b:Int) (hf:f<=ks.length) (hf1:f<=1)=>ZF wr v ns _ f a b (hN.below hb) (hx.below hb) hk hf hf1)
 have FR0:=Lib.hid (fun (hl:nums.length=3) (wr:World) (hb:Below w.heap.size w wr)=>ZT wr _ (hx.below hb) hl)
 have CL:=Lib.hid (fun (wr:World) (hb:Below w.heap.size w wr)=>Zhs wr v ns va vb vc kd ws nums ks ps (hN.below hb) (hx.below hb) hk h0 h6)
 obtain ⟨A1,c1,rfl,_⟩:=h1
 obtain ⟨A2,c2,rfl,_,_,R2'⟩:=h2
 have KL:=Lib.hid h3.len
 obtain ⟨A3,c3,rfl,_⟩:=h3
 have R2:=Lib.hid R2'
 unfold ndV at WR NO0 KD0 BL0 FR0 CL ⊢
 dsimp only at WR NO0 KD0 BL0 FR0 CL ⊢
 have STB:=Lib.hid (show Stb (fun w'=>(w'.cell? ⟨w.heap.size,0,none⟩=some (.int .i64 kd)/\w'.cell? ⟨w.heap.size,1,none⟩=some (.slice A1 ws.length c1)/\w'.cell? ⟨w.heap.size,2,none⟩=some (.slice A2 nums.length c2)/\w'.cell? ⟨w.heap.size,3,none⟩=some (.slice A3 ks.length c3)/\w'.cell? ⟨w.heap.size,4,none⟩=some (.int .i64 ps))/\Below w.heap.size w w') from Zd (Zd (Zc _ _) (Zd (Zc _ _) (Zd (Zc _ _) (Zd (Zc _ _) (Zc _ _))))) (Zn w))
 have HS1:((w.alloc (.cells #[.int .i64 kd,.slice A1 ws.length c1,.slice A2 nums.length c2,.slice A3 ks.length c3,.int .i64 ps] 29)).cell? ⟨w.heap.size,0,none⟩=some (.int .i64 kd)/\(w.alloc (.cells #[.int .i64 kd,.slice A1 ws.length c1,.slice A2 nums.length c2,.slice A3 ks.length c3,.int .i64 ps] 29)).cell? ⟨w.heap.size,1,none⟩=some (.slice A1 ws.length c1)/\(w.alloc (.cells #[.int .i64 kd,.slice A1 ws.length c1,.slice A2 nums.length c2,.slice A3 ks.length c3,.int .i64 ps] 29)).cell? ⟨w.heap.size,2,none⟩=some (.slice A2 nums.length c2)/\(w.alloc (.cells #[.int .i64 kd,.slice A1 ws.length c1,.slice A2 nums.length c2,.slice A3 ks.length c3,.int .i64 ps] 29)).cell? ⟨w.heap.size,3,none⟩=some (.slice A3 ks.length c3)/\(w.alloc (.cells #[.int .i64 kd,.slice A1 ws.length c1,.slice A2 nums.length c2,.slice A3 ks.length c3,.int .i64 ps] 29)).cell? ⟨w.heap.size,4,none⟩=some (.int .i64 ps))/\Below w.heap.size w (w.alloc (.cells #[.int .i64 kd,.slice A1 ws.length c1,.slice A2 nums.length c2,.slice A3 ks.length c3,.int .i64 ps] 29)):=⟨⟨(Blk.start w _ _).cell 0,(Blk.start w _ _).cell 1,(Blk.start w _ _).cell 2,(Blk.start w _ _).cell 3,(Blk.start w _ _).cell 4⟩,Zb w _⟩
 have K1:=Lib.hid HS1
 obtain ⟨⟨g0,g1,g2,g3,g4⟩,_⟩:=HS1
 clear R2' hx hN hk
 have q2:kd<=23:=by omega
 go_enter Tryz.func10,Tryz.ntmps10
 go_upto_region 1 with fail
 generalize (w.alloc (.cells #[.int .i64 kd,.slice A1 ws.length c1,.slice A2 nums.length c2,.slice A3 ks.length c3,.int .i64 ps] 29))=w1 at *
 go_wp2_with (go_at_call 15;(with_reducible refine (CL.out w1 (Za K1.out)).mono ?_);rintro ea wa ⟨⟨b,rfl,hq⟩,hba⟩;have BA:=Lib.hid (And.intro hq ((Za K1.out).trans (hba.mono (Za K1.out).size)));clear hq hba)
 go_ret
 exact ⟨Zhc BA.out.1,BA.out.2⟩
theorem Zgm (w:World) (v:Value) (ns:List Nd) (va vb vc:Value) (kd:Int) (ws:List (List UInt8)) (nums ks:List Int) (ps:Int) (hN:Zf w v ns) (hx:Zv w ((va,vb,vc),⟨kd,ws,nums,ks,ps⟩)) (hk:Zz ks ns.length) (h0:7<=kd) (h6:kd<=19) (h15:kd≠15) :
  Calls Tryz.prog 10 #[v,ndV ((va,vb,vc),⟨kd,ws,nums,ks,ps⟩)] w fun e w'=>OkB (Zw ns ⟨kd,ws,nums,ks,ps⟩=true) e/\Below w.heap.size w w':=by
 obtain ⟨h1,h2,h3⟩:=id hx
 dsimp only at h1 h2 h3
 have WR:=Lib.hid (fun (wr:World) (hb:Below w.heap.size w wr) (a b:Int)=>ZN wr _ a b (hx.below hb))
 have NO0:=Lib.hid (fun (wr:World) (hb:Below w.heap.size w wr)=>ZU wr _ (hx.below hb))
 have KD0:=Lib.hid (fun (wr:World) (hb:Below w.heap.size w wr) (i:Nat) (hi:i<ks.length)=>Zaa wr v ns _ i (hN.below hb) (hx.below hb) hk hi)
 have BL0:=Lib.hid (fun (wr:World) (hb:Below w.heap.size w wr) (f:Nat) (a b:Int) (hf:f<=ks.length) (hf1:f<=1)=>ZF wr v ns _ f a b (hN.below hb) (hx.below hb) hk hf hf1)
 have FR0:=Lib.hid (fun (hl:nums.length=3) (wr:World) (hb:Below w.heap.size w wr)=>ZT wr _ (hx.below hb) hl)
 have CL:=Lib.hid (fun (wr:World) (hb:Below w.heap.size w wr)=>Zhn wr v ns va vb vc kd ws nums ks ps (hN.below hb) (hx.below hb) hk h0 h6 h15)
 obtain ⟨A1,c1,rfl,_⟩:=h1
 obtain ⟨A2,c2,rfl,_,_,R2'⟩:=h2
 have KL:=Lib.hid h3.len
 obtain ⟨A3,c3,rfl,_⟩:=h3
 have R2:=Lib.hid R2'
 unfold ndV at WR NO0 KD0 BL0 FR0 CL ⊢
 dsimp only at WR NO0 KD0 BL0 FR0 CL ⊢
 have STB:=Lib.hid (show Stb (fun w'=>(w'.cell? ⟨w.heap.size,0,none⟩=some (.int .i64 kd)/\w'.cell? ⟨w.heap.size,1,none⟩=some (.slice A1 ws.length c1)/\w'.cell? ⟨w.heap.size,2,none⟩=some (.slice A2 nums.length c2)/\w'.cell? ⟨w.heap.size,3,none⟩=some (.slice A3 ks.length c3)/\w'.cell? ⟨w.heap.size,4,none⟩=some (.int .i64 ps))/\Below w.heap.size w w') from Zd (Zd (Zc _ _) (Zd (Zc _ _) (Zd (Zc _ _) (Zd (Zc _ _) (Zc _ _))))) (Zn w))
 have HS1:((w.alloc (.cells #[.int .i64 kd,.slice A1 ws.length c1,.slice A2 nums.length c2,.slice A3 ks.length c3,.int .i64 ps] 29)).cell? ⟨w.heap.size,0,none⟩=some (.int .i64 kd)/\(w.alloc (.cells #[.int .i64 kd,.slice A1 ws.length c1,.slice A2 nums.length c2,.slice A3 ks.length c3,.int .i64 ps] 29)).cell? ⟨w.heap.size,1,none⟩=some (.slice A1 ws.length c1)/\(w.alloc (.cells #[.int .i64 kd,.slice A1 ws.length c1,.slice A2 nums.length c2,.slice A3 ks.length c3,.int .i64 ps] 29)).cell? ⟨w.heap.size,2,none⟩=some (.slice A2 nums.length c2)/\(w.alloc (.cells #[.int .i64 kd,.slice A1 ws.length c1,.slice A2 nums.length c2,.slice A3 ks.length c3,.int .i64 ps] 29)).cell? ⟨w.heap.size,3,none⟩=some (.slice A3 ks.length c3)/\(w.alloc (.cells #[.int .i64 kd,.slice A1 ws.length c1,.slice A2 nums.length c2,.slice A3 ks.length c3,.int .i64 ps] 29)).cell? ⟨w.heap.size,4,none⟩=some (.int .i64 ps))/\Below w.heap.size w (w.alloc (.cells #[.int .i64 kd,.slice A1 ws.length c1,.slice A2 nums.length c2,.slice A3 ks.length c3,.int .i64 ps] 29)):=⟨⟨(Blk.start w _ _).cell 0,(Blk.start w _ _).cell 1,(Blk.start w _ _).cell 2,(Blk.start w _ _).cell 3,(Blk.start w _ _).cell 4⟩,Zb w _⟩
 have K1:=Lib.hid HS1
 obtain ⟨⟨g0,g1,g2,g3,g4⟩,_⟩:=HS1
 clear R2' hx hN hk
 have q1:0<=kd:=by omega
 have q2:kd<=23:=by omega
 have q3:6<kd:=by omega
 have e15:(kd==15)=false:=by rw [beq_eq_false_iff_ne];omega
 have e21:(kd==21)=false:=by rw [beq_eq_false_iff_ne];omega
 have e20:(kd==20)=false:=by rw [beq_eq_false_iff_ne];omega
 have e22:(kd==22)=false:=by rw [beq_eq_false_iff_ne];omega
 have e23:(kd==23)=false:=by rw [beq_eq_false_iff_ne];omega
 go_enter Tryz.func10,Tryz.ntmps10
 go_upto_region 1 with fail
 generalize (w.alloc (.cells #[.int .i64 kd,.slice A1 ws.length c1,.slice A2 nums.length c2,.slice A3 ks.length c3,.int .i64 ps] 29))=w1 at *
 go_wp2_with (go_at_call 20;(with_reducible refine (CL.out w1 (Za K1.out)).mono ?_);rintro ea wa ⟨⟨b,rfl,hq⟩,hba⟩;have BA:=Lib.hid (And.intro hq ((Za K1.out).trans (hba.mono (Za K1.out).size)));clear hq hba)
 go_ret
 exact ⟨Zhc BA.out.1,BA.out.2⟩
theorem Zir (w:World) (v:Value) (ns:List Nd) (x:NdV×Nd) (hN:Zf w v ns) (hx:Zv w x) (hk:Zz x.2.kids ns.length) :
  Calls Tryz.prog 10 #[v,ndV x] w fun e w'=>OkB (Zw ns x.2=true) e/\Below w.heap.size w w':=by
 obtain ⟨⟨va,vb,vc⟩,kd,ws,nums,ks,ps⟩:=x
 by_cases q1:kd<0
 ·exact Zit w v ns va vb vc kd ws nums ks ps hN hx hk q1
 by_cases q2:23<kd
 ·exact Zhr w v ns va vb vc kd ws nums ks ps hN hx hk q2
 by_cases q3:kd<=6
 ·exact Zgn w v ns va vb vc kd ws nums ks ps hN hx hk (by omega) q3
 by_cases k15:kd=15
 ·subst k15
  exact ZfO w v ns va vb vc ws nums ks ps hN hx hk
 by_cases k21:kd=21
 ·subst k21
  exact Ziw w v ns va vb vc ws nums ks ps hN hx hk
 by_cases k20:kd=20
 ·subst k20
  exact Ziv w v ns va vb vc ws nums ks ps hN hx hk
 by_cases k22:kd=22
 ·subst k22
  exact Zis w v ns va vb vc ws nums ks ps hN hx hk
 by_cases k23:kd=23
 ·subst k23
  exact Ziu w v ns va vb vc ws nums ks ps hN hx hk
 exact Zgm w v ns va vb vc kd ws nums ks ps hN hx hk (by omega) (by omega) k15
end
end Go.Proofs.YtenbomphkihmlaaGreatDoor
