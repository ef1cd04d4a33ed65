import Derived.Test.YtenbomphkihmlaaGreatDoorQAT
set_option maxRecDepth 100000
set_option maxHeartbeats 8000000
namespace Go.Proofs.YtenbomphkihmlaaGreatDoor
section
open Go.RowKit
theorem Zim (w:World) (v:Value) (ns:List Nd) (va vb vc:Value) (ws:List (List UInt8)) (nums ks:List Int) (ps:Int) (hN:Zf w v ns) (hx:Zv w ((va,vb,vc),⟨16,ws,nums,ks,ps⟩)) (hk:Zz ks ns.length) :
  Calls Tryz.prog 20 #[v,ndV ((va,vb,vc),⟨16,ws,nums,ks,ps⟩)] w fun e w'=>OkB (Zw ns ⟨16,ws,nums,ks,ps⟩=true) e/\Below w.heap.size w w':=by
 obtain ⟨h1,h2,h3⟩:=id hx
 dsimp only at h1 h2 h3
 have WR:=Lib.hid (fun (wr:World) (hb:Below w.heap.size w wr) (a b:Int)=>ZN wr _ a b (hx.below hb))
 have NO0:=Lib.hid (fun (wr:World) (hb:Below w.heap.size w wr)=>ZU wr _ (hx.below hb))
 have KD0:=Lib.hid (fun (wr:World) (hb:Below w.heap.size w wr) (i:Nat) (hi:i<ks.length)=>Zaa wr v ns _ i (hN.below hb) (hx.below hb) hk hi)
 have BL0:=Lib.hid (fun (wr:World) (hb:Below w.heap.size w wr) (f:Nat) (a b:Int) (hf:f<=ks.length) (hf1:f<=1)=>ZF wr v ns _ f a b (hN.below hb) (hx.below hb) hk hf hf1)
 have FR0:=Lib.hid (fun (hl:nums.length=3) (wr:World) (hb:Below w.heap.size w wr)=>ZT wr _ (hx.below hb) hl)
 obtain ⟨A1,c1,rfl,_⟩:=h1
 obtain ⟨A2,c2,rfl,_,_,R2'⟩:=h2
 have KL:=Lib.hid h3.len
 obtain ⟨A3,c3,rfl,_⟩:=h3
 have R2:=Lib.hid R2'
 unfold ndV at WR NO0 KD0 BL0 FR0 ⊢
 dsimp only at WR NO0 KD0 BL0 FR0 ⊢
 have STB:=Lib.hid (show Stb (fun w'=>(w'.cell? ⟨w.heap.size,0,none⟩=some (.int .i64 16)/\w'.cell? ⟨w.heap.size,1,none⟩=some (.slice A1 ws.length c1)/\w'.cell? ⟨w.heap.size,2,none⟩=some (.slice A2 nums.length c2)/\w'.cell? ⟨w.heap.size,3,none⟩=some (.slice A3 ks.length c3)/\w'.cell? ⟨w.heap.size,4,none⟩=some (.int .i64 ps))/\Below w.heap.size w w') from Zd (Zd (Zc _ _) (Zd (Zc _ _) (Zd (Zc _ _) (Zd (Zc _ _) (Zc _ _))))) (Zn w))
 have HS1:((w.alloc (.cells #[.int .i64 16,.slice A1 ws.length c1,.slice A2 nums.length c2,.slice A3 ks.length c3,.int .i64 ps] 29)).cell? ⟨w.heap.size,0,none⟩=some (.int .i64 16)/\(w.alloc (.cells #[.int .i64 16,.slice A1 ws.length c1,.slice A2 nums.length c2,.slice A3 ks.length c3,.int .i64 ps] 29)).cell? ⟨w.heap.size,1,none⟩=some (.slice A1 ws.length c1)/\(w.alloc (.cells #[.int .i64 16,.slice A1 ws.length c1,.slice A2 nums.length c2,.slice A3 ks.length c3,.int .i64 ps] 29)).cell? ⟨w.heap.size,2,none⟩=some (.slice A2 nums.length c2)/\(w.alloc (.cells #[.int .i64 16,.slice A1 ws.length c1,.slice A2 nums.length c2,.slice A3 ks.length c3,.int .i64 ps] 29)).cell? ⟨w.heap.size,3,none⟩=some (.slice A3 ks.length c3)/\(w.alloc (.cells #[.int .i64 16,.slice A1 ws.length c1,.slice A2 nums.length c2,.slice A3 ks.length c3,.int .i64 ps] 29)).cell? ⟨w.heap.size,4,none⟩=some (.int .i64 ps))/\Below w.heap.size w (w.alloc (.cells #[.int .i64 16,.slice A1 ws.length c1,.slice A2 nums.length c2,.slice A3 ks.length c3,.int .i64 ps] 29)):=⟨⟨(Blk.start w _ _).cell 0,(Blk.start w _ _).cell 1,(Blk.start w _ _).cell 2,(Blk.start w _ _).cell 3,(Blk.start w _ _).cell 4⟩,Zb w _⟩
 have K1:=Lib.hid HS1
 obtain ⟨⟨g0,g1,g2,g3,g4⟩,_⟩:=HS1
 clear R2' hx hN hk
 have WF:=Lib.hid (show ∀ wr:World,Below w.heap.size w wr->Calls Tryz.prog 16 #[.agg #[.int .i64 16,.slice A1 ws.length c1,.slice A2 nums.length c2,.slice A3 ks.length c3,.int .i64 ps],.int .i64 0,.int .i64 0] wr fun e w'=>e=.returned (.bool (Zt ⟨16,ws,nums,ks,ps⟩ 0 0))/\Below wr.heap.size wr w' from fun wr hb=>WR.out wr hb 0 0)
 generalize hqW:Zt ⟨16,ws,nums,ks,ps⟩ 0 0=W at WF
 have QW:=Lib.hid hqW
 clear hqW
 cases W
 ·go_enter Tryz.func20,Tryz.ntmps20
  go_upto_region 1 with fail
  generalize (w.alloc (.cells #[.int .i64 16,.slice A1 ws.length c1,.slice A2 nums.length c2,.slice A3 ks.length c3,.int .i64 ps] 29))=w1 at *
  go_wp2_with (first
   | (go_at_call 16;(with_reducible refine (WF.out w1 (Za K1.out)).mono ?_);rintro e2 w2 ⟨rfl,hb2⟩;have K2:=Lib.hid (STB.out _ _ hb2 K1.out);obtain ⟨⟨k20,k21,k22,k23,k24⟩,_⟩:=id K2.out;clear hb2))
  go_ret
  exact ⟨Zj,Za K2.out⟩
 ·have NF:=Lib.hid (show ∀ wr:World,Below w.heap.size w wr->Calls Tryz.prog 17 #[.agg #[.int .i64 16,.slice A1 ws.length c1,.slice A2 nums.length c2,.slice A3 ks.length c3,.int .i64 ps]] wr fun e w'=>e=.returned (.bool (ZJ ⟨16,ws,nums,ks,ps⟩))/\Below wr.heap.size wr w' from fun wr hb=>NO0.out wr hb)
  generalize hqN:ZJ ⟨16,ws,nums,ks,ps⟩=N at NF
  have QN:=Lib.hid hqN
  clear hqN
  cases N
  ·go_enter Tryz.func20,Tryz.ntmps20
   go_upto_region 1 with fail
   generalize (w.alloc (.cells #[.int .i64 16,.slice A1 ws.length c1,.slice A2 nums.length c2,.slice A3 ks.length c3,.int .i64 ps] 29))=w1 at *
   go_wp2_with (first
    | (go_at_call 16;(with_reducible refine (WF.out w1 (Za K1.out)).mono ?_);rintro e2 w2 ⟨rfl,hb2⟩;have K2:=Lib.hid (STB.out _ _ hb2 K1.out);obtain ⟨⟨k20,k21,k22,k23,k24⟩,_⟩:=id K2.out;clear hb2)
    | (go_at_call 17;(with_reducible refine (NF.out w2 (Za K2.out)).mono ?_);rintro e3 w3 ⟨rfl,hb3⟩;have K3:=Lib.hid (STB.out _ _ hb3 K2.out);obtain ⟨⟨k30,k31,k32,k33,k34⟩,_⟩:=id K3.out;clear hb3))
   go_ret
   exact ⟨Zj,Za K3.out⟩
  ·by_cases qk:0<ks.length
   ·have tk:(0:Int)<(ks.length:Int):=by omega
    have QK:=Lib.hid qk
    have EG:=Lib.hid (show ∀ wr:World,Below w.heap.size w wr->Calls Tryz.prog 19 #[v,.agg #[.int .i64 16,.slice A1 ws.length c1,.slice A2 nums.length c2,.slice A3 ks.length c3,.int .i64 ps],.int .i64 0] wr fun e w'=>e=.returned (.int .i64 (kdR ns ⟨16,ws,nums,ks,ps⟩ 0))/\Below wr.heap.size wr w' from fun wr hb=>KD0.out wr hb 0 (by have:=QK.out;omega))
    have EF:=Lib.hid (fun wr=>Zbj wr (kdR ns ⟨16,ws,nums,ks,ps⟩ 0))
    generalize hqE:ZE (kdR ns ⟨16,ws,nums,ks,ps⟩ 0)=E at EF
    have QE:=Lib.hid hqE
    clear hqE
    cases E
    ·go_enter Tryz.func20,Tryz.ntmps20
     go_upto_region 1 with fail
     generalize (w.alloc (.cells #[.int .i64 16,.slice A1 ws.length c1,.slice A2 nums.length c2,.slice A3 ks.length c3,.int .i64 ps] 29))=w1 at *
     go_wp2_with (first
      | (go_at_call 16;(with_reducible refine (WF.out w1 (Za K1.out)).mono ?_);rintro e2 w2 ⟨rfl,hb2⟩;have K2:=Lib.hid (STB.out _ _ hb2 K1.out);obtain ⟨⟨k20,k21,k22,k23,k24⟩,_⟩:=id K2.out;clear hb2)
      | (go_at_call 17;(with_reducible refine (NF.out w2 (Za K2.out)).mono ?_);rintro e3 w3 ⟨rfl,hb3⟩;have K3:=Lib.hid (STB.out _ _ hb3 K2.out);obtain ⟨⟨k30,k31,k32,k33,k34⟩,_⟩:=id K3.out;clear hb3)
      | (go_at_call 19;(with_reducible refine (EG.out w3 (Za K3.out)).mono ?_);rintro e4 w4 ⟨rfl,hb4⟩;have K4:=Lib.hid (STB.out _ _ hb4 K3.out);obtain ⟨⟨k40,k41,k42,k43,k44⟩,_⟩:=id K4.out;clear hb4)
      | (go_at_call 18;(with_reducible refine (EF.out w4).mono ?_);rintro _ _ ⟨rfl,rfl⟩))
     go_ret
     exact ⟨Zj,Za K4.out⟩
    ·have BF:=Lib.hid (show ∀ wr:World,Below w.heap.size w wr->Calls Tryz.prog 36 #[v,.agg #[.int .i64 16,.slice A1 ws.length c1,.slice A2 nums.length c2,.slice A3 ks.length c3,.int .i64 ps],.int .i64 1,.int .i64 1,.int .i64 2] wr fun e w'=>e=.returned (.bool (Zax ns ⟨16,ws,nums,ks,ps⟩ 1 1 2))/\Below wr.heap.size wr w' from fun wr hb=>BL0.out wr hb 1 1 2 (by have:=QK.out;omega) (by omega))
     generalize hqB:Zax ns ⟨16,ws,nums,ks,ps⟩ 1 1 2=B at BF
     have QB:=Lib.hid hqB
     clear hqB
     cases B
     ·go_enter Tryz.func20,Tryz.ntmps20
      go_upto_region 1 with fail
      generalize (w.alloc (.cells #[.int .i64 16,.slice A1 ws.length c1,.slice A2 nums.length c2,.slice A3 ks.length c3,.int .i64 ps] 29))=w1 at *
      go_wp2_with (first
       | (go_at_call 16;(with_reducible refine (WF.out w1 (Za K1.out)).mono ?_);rintro e2 w2 ⟨rfl,hb2⟩;have K2:=Lib.hid (STB.out _ _ hb2 K1.out);obtain ⟨⟨k20,k21,k22,k23,k24⟩,_⟩:=id K2.out;clear hb2)
       | (go_at_call 17;(with_reducible refine (NF.out w2 (Za K2.out)).mono ?_);rintro e3 w3 ⟨rfl,hb3⟩;have K3:=Lib.hid (STB.out _ _ hb3 K2.out);obtain ⟨⟨k30,k31,k32,k33,k34⟩,_⟩:=id K3.out;clear hb3)
       | (go_at_call 19;(with_reducible refine (EG.out w3 (Za K3.out)).mono ?_);rintro e4 w4 ⟨rfl,hb4⟩;have K4:=Lib.hid (STB.out _ _ hb4 K3.out);obtain ⟨⟨k40,k41,k42,k43,k44⟩,_⟩:=id K4.out;clear hb4)
       | (go_at_call 18;(with_reducible refine (EF.out w4).mono ?_);rintro _ _ ⟨rfl,rfl⟩)
       | (go_at_call 36;(with_reducible refine (BF.out w4 (Za K4.out)).mono ?_);rintro e5 w5 ⟨rfl,hb5⟩;have K5:=Lib.hid (STB.out _ _ hb5 K4.out);obtain ⟨⟨k50,k51,k52,k53,k54⟩,_⟩:=id K5.out;clear hb5))
      go_ret
      exact ⟨Zj,Za K5.out⟩
     ·go_enter Tryz.func20,Tryz.ntmps20
      go_upto_region 1 with fail
      generalize (w.alloc (.cells #[.int .i64 16,.slice A1 ws.length c1,.slice A2 nums.length c2,.slice A3 ks.length c3,.int .i64 ps] 29))=w1 at *
      go_wp2_with (first
       | (go_at_call 16;(with_reducible refine (WF.out w1 (Za K1.out)).mono ?_);rintro e2 w2 ⟨rfl,hb2⟩;have K2:=Lib.hid (STB.out _ _ hb2 K1.out);obtain ⟨⟨k20,k21,k22,k23,k24⟩,_⟩:=id K2.out;clear hb2)
       | (go_at_call 17;(with_reducible refine (NF.out w2 (Za K2.out)).mono ?_);rintro e3 w3 ⟨rfl,hb3⟩;have K3:=Lib.hid (STB.out _ _ hb3 K2.out);obtain ⟨⟨k30,k31,k32,k33,k34⟩,_⟩:=id K3.out;clear hb3)
       | (go_at_call 19;(with_reducible refine (EG.out w3 (Za K3.out)).mono ?_);rintro e4 w4 ⟨rfl,hb4⟩;have K4:=Lib.hid (STB.out _ _ hb4 K3.out);obtain ⟨⟨k40,k41,k42,k43,k44⟩,_⟩:=id K4.out;clear hb4)
       | (go_at_call 18;(with_reducible refine (EF.out w4).mono ?_);rintro _ _ ⟨rfl,rfl⟩)
       | (go_at_call 36;(with_reducible refine (BF.out w4 (Za K4.out)).mono ?_);rintro e5 w5 ⟨rfl,hb5⟩;have K5:=Lib.hid (STB.out _ _ hb5 K4.out);obtain ⟨⟨k50,k51,k52,k53,k54⟩,_⟩:=id K5.out;clear hb5))
      go_ret
      exact ⟨Zae (Zks QW.out QN.out QK.out QE.out QB.out),Za K5.out⟩
   ·have tk:¬ (0:Int)<(ks.length:Int):=by omega
    have tk2:(ks.length:Int)<=0:=by omega
    go_enter Tryz.func20,Tryz.ntmps20
    go_upto_region 1 with fail
    generalize (w.alloc (.cells #[.int .i64 16,.slice A1 ws.length c1,.slice A2 nums.length c2,.slice A3 ks.length c3,.int .i64 ps] 29))=w1 at *
    go_wp2_with (first
     | (go_at_call 16;(with_reducible refine (WF.out w1 (Za K1.out)).mono ?_);rintro e2 w2 ⟨rfl,hb2⟩;have K2:=Lib.hid (STB.out _ _ hb2 K1.out);obtain ⟨⟨k20,k21,k22,k23,k24⟩,_⟩:=id K2.out;clear hb2)
     | (go_at_call 17;(with_reducible refine (NF.out w2 (Za K2.out)).mono ?_);rintro e3 w3 ⟨rfl,hb3⟩;have K3:=Lib.hid (STB.out _ _ hb3 K2.out);obtain ⟨⟨k30,k31,k32,k33,k34⟩,_⟩:=id K3.out;clear hb3))
    go_ret
    exact ⟨Zj,Za K3.out⟩
theorem ZfN (w:World) (v:Value) (ns:List Nd) (va vb vc:Value) (ws:List (List UInt8)) (nums ks:List Int) (ps:Int) (hN:Zf w v ns) (hx:Zv w ((va,vb,vc),⟨17,ws,nums,ks,ps⟩)) (hk:Zz ks ns.length) :
  Calls Tryz.prog 20 #[v,ndV ((va,vb,vc),⟨17,ws,nums,ks,ps⟩)] w fun e w'=>OkB (Zw ns ⟨17,ws,nums,ks,ps⟩=true) e/\Below w.heap.size w w':=by
 obtain ⟨h1,h2,h3⟩:=id hx
 dsimp only at h1 h2 h3
 have WR:=Lib.hid (fun (wr:World) (hb:Below w.heap.size w wr) (a b:Int)=>ZN wr _ a b (hx.below hb))
 have NO0:=Lib.hid (fun (wr:World) (hb:Below w.heap.size w wr)=>ZU wr _ (hx.below hb))
 have KD0:=Lib.hid (fun (wr:World) (hb:Below w.heap.size w wr) (i:Nat) (hi:i<ks.length)=>Zaa wr v ns _ i (hN.below hb) (hx.below hb) hk hi)
 have BL0:=Lib.hid (fun (wr:World) (hb:Below w.heap.size w wr) (f:Nat) (a b:Int) (hf:f<=ks.length) (hf1:f<=1)=>ZF wr v ns _ f a b (hN.below hb) (hx.below hb) hk hf hf1)
 have FR0:=Lib.hid (fun (hl:nums.length=3) (wr:World) (hb:Below w.heap.size w wr)=>ZT wr _ (hx.below hb) hl)
 obtain ⟨A1,c1,rfl,_⟩:=h1
 obtain ⟨A2,c2,rfl,_,_,R2'⟩:=h2
 have KL:=Lib.hid h3.len
 obtain ⟨A3,c3,rfl,_⟩:=h3
 have R2:=Lib.hid R2'
 unfold ndV at WR NO0 KD0 BL0 FR0 ⊢
 dsimp only at WR NO0 KD0 BL0 FR0 ⊢
 have STB:=Lib.hid (show Stb (fun w'=>(w'.cell? ⟨w.heap.size,0,none⟩=some (.int .i64 17)/\w'.cell? ⟨w.heap.size,1,none⟩=some (.slice A1 ws.length c1)/\w'.cell? ⟨w.heap.size,2,none⟩=some (.slice A2 nums.length c2)/\w'.cell? ⟨w.heap.size,3,none⟩=some (.slice A3 ks.length c3)/\w'.cell? ⟨w.heap.size,4,none⟩=some (.int .i64 ps))/\Below w.heap.size w w') from Zd (Zd (Zc _ _) (Zd (Zc _ _) (Zd (Zc _ _) (Zd (Zc _ _) (Zc _ _))))) (Zn w))
 have HS1:((w.alloc (.cells #[.int .i64 17,.slice A1 ws.length c1,.slice A2 nums.length c2,.slice A3 ks.length c3,.int .i64 ps] 29)).cell? ⟨w.heap.size,0,none⟩=some (.int .i64 17)/\(w.alloc (.cells #[.int .i64 17,.slice A1 ws.length c1,.slice A2 nums.length c2,.slice A3 ks.length c3,.int .i64 ps] 29)).cell? ⟨w.heap.size,1,none⟩=some (.slice A1 ws.length c1)/\(w.alloc (.cells #[.int .i64 17,.slice A1 ws.length c1,.slice A2 nums.length c2,.slice A3 ks.length c3,.int .i64 ps] 29)).cell? ⟨w.heap.size,2,none⟩=some (.slice A2 nums.length c2)/\(w.alloc (.cells #[.int .i64 17,.slice A1 ws.length c1,.slice A2 nums.length c2,.slice A3 ks.length c3,.int .i64 ps] 29)).cell? ⟨w.heap.size,3,none⟩=some (.slice A3 ks.length c3)/\(w.alloc (.cells #[.int .i64 17,.slice A1 ws.length c1,.slice A2 nums.length c2,.slice A3 ks.length c3,.int .i64 ps] 29)).cell? ⟨w.heap.size,4,none⟩=some (.int .i64 ps))/\Below w.heap.size w (w.alloc (.cells #[.int .i64 17,.slice A1 ws.length c1,.slice A2 nums.length c2,.slice A3 ks.length c3,.int .i64 ps] 29)):=⟨⟨(Blk.start w _ _).cell 0,(Blk.start w _ _).cell 1,(Blk.start w _ _).cell 2,(Blk.start w _ _).cell 3,(Blk.start w _ _).cell 4⟩,Zb w _⟩
 have K1:=Lib.hid HS1
 obtain ⟨⟨g0,g1,g2,g3,g4⟩,_⟩:=HS1
 clear R2' hx hN hk
 have WF:=Lib.hid (show ∀ wr:World,Below w.heap.size w wr->Calls Tryz.prog 16 #[.agg #[.int .i64 17,.slice A1 ws.length c1,.slice A2 nums.length c2,.slice A3 ks.length c3,.int .i64 ps],.int .i64 0,.int .i64 0] wr fun e w'=>e=.returned (.bool (Zt ⟨17,ws,nums,ks,ps⟩ 0 0))/\Below wr.heap.size wr w' from fun wr hb=>WR.out wr hb 0 0)
 generalize hqW:Zt ⟨17,ws,nums,ks,ps⟩ 0 0=W at WF
 have QW:=Lib.hid hqW
 clear hqW
 cases W
 ·go_enter Tryz.func20,Tryz.ntmps20
  go_upto_region 1 with fail
  generalize (w.alloc (.cells #[.int .i64 17,.slice A1 ws.length c1,.slice A2 nums.length c2,.slice A3 ks.length c3,.int .i64 ps] 29))=w1 at *
  go_wp2_with (first
   | (go_at_call 16;(with_reducible refine (WF.out w1 (Za K1.out)).mono ?_);rintro e2 w2 ⟨rfl,hb2⟩;have K2:=Lib.hid (STB.out _ _ hb2 K1.out);obtain ⟨⟨k20,k21,k22,k23,k24⟩,_⟩:=id K2.out;clear hb2))
  go_ret
  exact ⟨Zj,Za K2.out⟩
 ·have NF:=Lib.hid (show ∀ wr:World,Below w.heap.size w wr->Calls Tryz.prog 17 #[.agg #[.int .i64 17,.slice A1 ws.length c1,.slice A2 nums.length c2,.slice A3 ks.length c3,.int .i64 ps]] wr fun e w'=>e=.returned (.bool (ZJ ⟨17,ws,nums,ks,ps⟩))/\Below wr.heap.size wr w' from fun wr hb=>NO0.out wr hb)
  generalize hqN:ZJ ⟨17,ws,nums,ks,ps⟩=N at NF
  have QN:=Lib.hid hqN
  clear hqN
  cases N
  ·go_enter Tryz.func20,Tryz.ntmps20
   go_upto_region 1 with fail
   generalize (w.alloc (.cells #[.int .i64 17,.slice A1 ws.length c1,.slice A2 nums.length c2,.slice A3 ks.length c3,.int .i64 ps] 29))=w1 at *
   go_wp2_with (first
    | (go_at_call 16;(with_reducible refine (WF.out w1 (Za K1.out)).mono ?_);rintro e2 w2 ⟨rfl,hb2⟩;have K2:=Lib.hid (STB.out _ _ hb2 K1.out);obtain ⟨⟨k20,k21,k22,k23,k24⟩,_⟩:=id K2.out;clear hb2)
    | (go_at_call 17;(with_reducible refine (NF.out w2 (Za K2.out)).mono ?_);rintro e3 w3 ⟨rfl,hb3⟩;have K3:=Lib.hid (STB.out _ _ hb3 K2.out);obtain ⟨⟨k30,k31,k32,k33,k34⟩,_⟩:=id K3.out;clear hb3))
   go_ret
   exact ⟨Zj,Za K3.out⟩
  ·by_cases qk:0<ks.length
   ·have tk:(0:Int)<(ks.length:Int):=by omega
    have QK:=Lib.hid qk
    have EG:=Lib.hid (show ∀ wr:World,Below w.heap.size w wr->Calls Tryz.prog 19 #[v,.agg #[.int .i64 17,.slice A1 ws.length c1,.slice A2 nums.length c2,.slice A3 ks.length c3,.int .i64 ps],.int .i64 0] wr fun e w'=>e=.returned (.int .i64 (kdR ns ⟨17,ws,nums,ks,ps⟩ 0))/\Below wr.heap.size wr w' from fun wr hb=>KD0.out wr hb 0 (by have:=QK.out;omega))
    have EF:=Lib.hid (fun wr=>Zbj wr (kdR ns ⟨17,ws,nums,ks,ps⟩ 0))
    generalize hqE:ZE (kdR ns ⟨17,ws,nums,ks,ps⟩ 0)=E at EF
    have QE:=Lib.hid hqE
    clear hqE
    cases E
    ·go_enter Tryz.func20,Tryz.ntmps20
     go_upto_region 1 with fail
     generalize (w.alloc (.cells #[.int .i64 17,.slice A1 ws.length c1,.slice A2 nums.length c2,.slice A3 ks.length c3,.int .i64 ps] 29))=w1 at *
     go_wp2_with (first
      | (go_at_call 16;(with_reducible refine (WF.out w1 (Za K1.out)).mono ?_);rintro e2 w2 ⟨rfl,hb2⟩;have K2:=Lib.hid (STB.out _ _ hb2 K1.out);obtain ⟨⟨k20,k21,k22,k23,k24⟩,_⟩:=id K2.out;clear hb2)
      | (go_at_call 17;(with_reducible refine (NF.out w2 (Za K2.out)).mono ?_);rintro e3 w3 ⟨rfl,hb3⟩;have K3:=Lib.hid (STB.out _ _ hb3 K2.out);obtain ⟨⟨k30,k31,k32,k33,k34⟩,_⟩:=id K3.out;clear hb3)
      | (go_at_call 19;(with_reducible refine (EG.out w3 (Za K3.out)).mono ?_);rintro e4 w4 ⟨rfl,hb4⟩;have K4:=Lib.hid (STB.out _ _ hb4 K3.out);obtain ⟨⟨k40,k41,k42,k43,k44⟩,_⟩:=id K4.out;clear hb4)
      | (go_at_call 18;(with_reducible refine (EF.out w4).mono ?_);rintro _ _ ⟨rfl,rfl⟩))
     go_ret
     exact ⟨Zj,Za K4.out⟩
    ·have BF:=Lib.hid (show ∀ wr:World,Below w.heap.size w wr->Calls Tryz.prog 36 #[v,.agg #[.int .i64 17,.slice A1 ws.length c1,.slice A2 nums.length c2,.slice A3 ks.length c3,.int .i64 ps],.int .i64 1,.int .i64 1,.int .i64 1] wr fun e w'=>e=.returned (.bool (Zax ns ⟨17,ws,nums,ks,ps⟩ 1 1 1))/\Below wr.heap.size wr w' from fun wr hb=>BL0.out wr hb 1 1 1 (by have:=QK.out;omega) (by omega))
     generalize hqB:Zax ns ⟨17,ws,nums,ks,ps⟩ 1 1 1=B at BF
     have QB:=Lib.hid hqB
     clear hqB
     cases B
     ·go_enter Tryz.func20,Tryz.ntmps20
      go_upto_region 1 with fail
      generalize (w.alloc (.cells #[.int .i64 17,.slice A1 ws.length c1,.slice A2 nums.length c2,.slice A3 ks.length c3,.int .i64 ps] 29))=w1 at *
      go_wp2_with (first
       | (go_at_call 16;(with_reducible refine (WF.out w1 (Za K1.out)).mono ?_);rintro e2 w2 ⟨rfl,hb2⟩;have K2:=Lib.hid (STB.out _ _ hb2 K1.out);obtain ⟨⟨k20,k21,k22,k23,k24⟩,_⟩:=id K2.out;clear hb2)
       | (go_at_call 17;(with_reducible refine (NF.out w2 (Za K2.out)).mono ?_);rintro e3 w3 ⟨rfl,hb3⟩;have K3:=Lib.hid (STB.out _ _ hb3 K2.out);obtain ⟨⟨k30,k31,k32,k33,k34⟩,_⟩:=id K3.out;clear hb3)
       | (go_at_call 19;(with_reducible refine (EG.out w3 (Za K3.out)).mono ?_);rintro e4 w4 ⟨rfl,hb4⟩;have K4:=Lib.hid (STB.out _ _ hb4 K3.out);obtain ⟨⟨k40,k41,k42,k43,k44⟩,_⟩:=id K4.out;clear hb4)
       | (go_at_call 18;(with_reducible refine (EF.out w4).mono ?_);rintro _ _ ⟨rfl,rfl⟩)
       | (go_at_call 36;(with_reducible refine (BF.out w4 (Za K4.out)).mono ?_);rintro e5 w5 ⟨rfl,hb5⟩;have K5:=Lib.hid (STB.out _ _ hb5 K4.out);obtain ⟨⟨k50,k51,k52,k53,k54⟩,_⟩:=id K5.out;clear hb5))
      go_ret
      exact ⟨Zj,Za K5.out⟩
     ·go_enter Tryz.func20,Tryz.ntmps20
      go_upto_region 1 with fail
      generalize (w.alloc (.cells #[.int .i64 17,.slice A1 ws.length c1,.slice A2 nums.length c2,.slice A3 ks.length c3,.int .i64 ps] 29))=w1 at *
      go_wp2_with (first
       | (go_at_call 16;(with_reducible refine (WF.out w1 (Za K1.out)).mono ?_);rintro e2 w2 ⟨rfl,hb2⟩;have K2:=Lib.hid (STB.out _ _ hb2 K1.out);obtain ⟨⟨k20,k21,k22,k23,k24⟩,_⟩:=id K2.out;clear hb2)
       | (go_at_call 17;(with_reducible refine (NF.out w2 (Za K2.out)).mono ?_);rintro e3 w3 ⟨rfl,hb3⟩;have K3:=Lib.hid (STB.out _ _ hb3 K2.out);obtain ⟨⟨k30,k31,k32,k33,k34⟩,_⟩:=id K3.out;clear hb3)
       | (go_at_call 19;(with_reducible refine (EG.out w3 (Za K3.out)).mono ?_);rintro e4 w4 ⟨rfl,hb4⟩;have K4:=Lib.hid (STB.out _ _ hb4 K3.out);obtain ⟨⟨k40,k41,k42,k43,k44⟩,_⟩:=id K4.out;clear hb4)
       | (go_at_call 18;(with_reducible refine (EF.out w4).mono ?_);rintro _ _ ⟨rfl,rfl⟩)
       | (go_at_call 36;(with_reducible refine (BF.out w4 (Za K4.out)).mono ?_);rintro e5 w5 ⟨rfl,hb5⟩;have K5:=Lib.hid (STB.out _ _ hb5 K4.out);obtain ⟨⟨k50,k51,k52,k53,k54⟩,_⟩:=id K5.out;clear hb5))
      go_ret
      exact ⟨Zae (ZiG QW.out QN.out QK.out QE.out QB.out),Za K5.out⟩
   ·have tk:¬ (0:Int)<(ks.length:Int):=by omega
    have tk2:(ks.length:Int)<=0:=by omega
    go_enter Tryz.func20,Tryz.ntmps20
    go_upto_region 1 with fail
    generalize (w.alloc (.cells #[.int .i64 17,.slice A1 ws.length c1,.slice A2 nums.length c2,.slice A3 ks.length c3,.int .i64 ps] 29))=w1 at *
    go_wp2_with (first
     | (go_at_call 16;(with_reducible refine (WF.out w1 (Za K1.out)).mono ?_);rintro e2 w2 ⟨rfl,hb2⟩;have K2:=Lib.hid (STB.out _ _ hb2 K1.out);obtain ⟨⟨k20,k21,k22,k23,k24⟩,_⟩:=id K2.out;clear hb2)
     | (go_at_call 17;(with_reducible refine (NF.out w2 (Za K2.out)).mono ?_);rintro e3 w3 ⟨rfl,hb3⟩;have K3:=Lib.hid (STB.out _ _ hb3 K2.out);obtain ⟨⟨k30,k31,k32,k33,k34⟩,_⟩:=id K3.out;clear hb3))
    go_ret
    exact ⟨Zj,Za K3.out⟩
theorem Zfe (w:World) (v:Value) (ns:List Nd) (va vb vc:Value) (ws:List (List UInt8)) (nums ks:List Int) (ps:Int) (hN:Zf w v ns) (hx:Zv w ((va,vb,vc),⟨18,ws,nums,ks,ps⟩)) (hk:Zz ks ns.length) :
  Calls Tryz.prog 20 #[v,ndV ((va,vb,vc),⟨18,ws,nums,ks,ps⟩)] w fun e w'=>OkB (Zw ns ⟨18,ws,nums,ks,ps⟩=true) e/\Below w.heap.size w w':=by
 obtain ⟨h1,h2,h3⟩:=id hx
 dsimp only at h1 h2 h3
 have WR:=Lib.hid (fun (wr:World) (hb:Below w.heap.size w wr) (a b:Int)=>ZN wr _ a b (hx.below hb))
 have NO0:=Lib.hid (fun (wr:World) (hb:Below w.heap.size w wr)=>ZU wr _ (hx.below hb))
 have KD0:=Lib.hid (fun (wr:World) (hb:Below w.heap.size w wr) (i:Nat) (hi:i<ks.length)=>Zaa wr v ns _ i (hN.below hb) (hx.below hb) hk hi)
 have BL0:=Lib.hid (fun (wr:World) (hb:Below w.heap.size w wr) (f:Nat) (a b:Int) (hf:f<=ks.length) (hf1:f<=1)=>ZF wr v ns _ f a b (hN.below hb) (hx.below hb) hk hf hf1)
 have FR0:=Lib.hid (fun (hl:nums.length=3) (wr:World) (hb:Below w.heap.size w wr)=>ZT wr _ (hx.below hb) hl)
 obtain ⟨A1,c1,rfl,_⟩:=h1
 obtain ⟨A2,c2,rfl,_,_,R2'⟩:=h2
 have KL:=Lib.hid h3.len
 obtain ⟨A3,c3,rfl,_⟩:=h3
 have R2:=Lib.hid R2'
 unfold ndV at WR NO0 KD0 BL0 FR0 ⊢
 dsimp only at WR NO0 KD0 BL0 FR0 ⊢
 have STB:=Lib.hid (show Stb (fun w'=>(w'.cell? ⟨w.heap.size,0,none⟩=some (.int .i64 18)/\w'.cell? ⟨w.heap.size,1,none⟩=some (.slice A1 ws.length c1)/\w'.cell? ⟨w.heap.size,2,none⟩=some (.slice A2 nums.length c2)/\w'.cell? ⟨w.heap.size,3,none⟩=some (.slice A3 ks.length c3)/\w'.cell? ⟨w.heap.size,4,none⟩=some (.int .i64 ps))/\Below w.heap.size w w') from Zd (Zd (Zc _ _) (Zd (Zc _ _) (Zd (Zc _ _) (Zd (Zc _ _) (Zc _ _))))) (Zn w))
 have HS1:((w.alloc (.cells #[.int .i64 18,.slice A1 ws.length c1,.slice A2 nums.length c2,.slice A3 ks.length c3,.int .i64 ps] 29)).cell? ⟨w.heap.size,0,none⟩=some (.int .i64 18)/\(w.alloc (.cells #[.int .i64 18,.slice A1 ws.length c1,.slice A2 nums.length c2,.slice A3 ks.length c3,.int .i64 ps] 29)).cell? ⟨w.heap.size,1,none⟩=some (.slice A1 ws.length c1)/\(w.alloc (.cells #[.int .i64 18,.slice A1 ws.length c1,.slice A2 nums.length c2,.slice A3 ks.length c3,.int .i64 ps] 29)).cell? ⟨w.heap.size,2,none⟩=some (.slice A2 nums.length c2)/\(w.alloc (.cells #[.int .i64 18,.slice A1 ws.length c1,.slice A2 nums.length c2,.slice A3 ks.length c3,.int .i64 ps] 29)).cell? ⟨w.heap.size,3,none⟩=some (.slice A3 ks.length c3)/\(w.alloc (.cells #[.int .i64 18,.slice A1 ws.length c1,.slice A2 nums.length c2,.slice A3 ks.length c3,.int .i64 ps] 29)).cell? ⟨w.heap.size,4,none⟩=some (.int .i64 ps))/\Below w.heap.size w (w.alloc (.cells #[.int .i64 18,.slice A1 ws.length c1,.slice A2 nums.length c2,.slice A3 ks.length c3,.int .i64 ps] 29)):=⟨⟨(Blk.start w _ _).cell 0,(Blk.start w _ _).cell 1,(Blk.start w _ _).cell 2,(Blk.start w _ _).cell 3,(Blk.start w _ _).cell 4⟩,Zb w _⟩
 have K1:=Lib.hid HS1
 obtain ⟨⟨g0,g1,g2,g3,g4⟩,_⟩:=HS1
 clear R2' hx hN hk
 have WF:=Lib.hid (show ∀ wr:World,Below w.heap.size w wr->Calls Tryz.prog 16 #[.agg #[.int .i64 18,.slice A1 ws.length c1,.slice A2 nums.length c2,.slice A3 ks.length c3,.int .i64 ps],.int .i64 0,.int .i64 0] wr fun e w'=>e=.returned (.bool (Zt ⟨18,ws,nums,ks,ps⟩ 0 0))/\Below wr.heap.size wr w' from fun wr hb=>WR.out wr hb 0 0)
 generalize hqW:Zt ⟨18,ws,nums,ks,ps⟩ 0 0=W at WF
 have QW:=Lib.hid hqW
 clear hqW
 cases W
 ·go_enter Tryz.func20,Tryz.ntmps20
  go_upto_region 1 with fail
  generalize (w.alloc (.cells #[.int .i64 18,.slice A1 ws.length c1,.slice A2 nums.length c2,.slice A3 ks.length c3,.int .i64 ps] 29))=w1 at *
  go_wp2_with (first
   | (go_at_call 16;(with_reducible refine (WF.out w1 (Za K1.out)).mono ?_);rintro e2 w2 ⟨rfl,hb2⟩;have K2:=Lib.hid (STB.out _ _ hb2 K1.out);obtain ⟨⟨k20,k21,k22,k23,k24⟩,_⟩:=id K2.out;clear hb2))
  go_ret
  exact ⟨Zj,Za K2.out⟩
 ·have NF:=Lib.hid (show ∀ wr:World,Below w.heap.size w wr->Calls Tryz.prog 17 #[.agg #[.int .i64 18,.slice A1 ws.length c1,.slice A2 nums.length c2,.slice A3 ks.length c3,.int .i64 ps]] wr fun e w'=>e=.returned (.bool (ZJ ⟨18,ws,nums,ks,ps⟩))/\Below wr.heap.size wr w' from fun wr hb=>NO0.out wr hb)
  generalize hqN:ZJ ⟨18,ws,nums,ks,ps⟩=N at NF
  have QN:=Lib.hid hqN
  clear hqN
  cases N
  ·go_enter Tryz.func20,Tryz.ntmps20
   go_upto_region 1 with fail
   generalize (w.alloc (.cells #[.int .i64 18,.slice A1 ws.length c1,.slice A2 nums.length c2,.slice A3 ks.length c3,.int .i64 ps] 29))=w1 at *
   go_wp2_with (first
    | (go_at_call 16;(with_reducible refine (WF.out w1 (Za K1.out)).mono ?_);rintro e2 w2 ⟨rfl,hb2⟩;have K2:=Lib.hid (STB.out _ _ hb2 K1.out);obtain ⟨⟨k20,k21,k22,k23,k24⟩,_⟩:=id K2.out;clear hb2)
    | (go_at_call 17;(with_reducible refine (NF.out w2 (Za K2.out)).mono ?_);rintro e3 w3 ⟨rfl,hb3⟩;have K3:=Lib.hid (STB.out _ _ hb3 K2.out);obtain ⟨⟨k30,k31,k32,k33,k34⟩,_⟩:=id K3.out;clear hb3))
   go_ret
   exact ⟨Zj,Za K3.out⟩
  ·by_cases qk:ks.length=1
   ·have tk:((ks.length:Int)==1)=true:=by rw [beq_iff_eq];omega
    have QK:=Lib.hid qk
    clear qk
    have EG:=Lib.hid (show ∀ wr:World,Below w.heap.size w wr->Calls Tryz.prog 19 #[v,.agg #[.int .i64 18,.slice A1 ws.length c1,.slice A2 nums.length c2,.slice A3 ks.length c3,.int .i64 ps],.int .i64 0] wr fun e w'=>e=.returned (.int .i64 (kdR ns ⟨18,ws,nums,ks,ps⟩ 0))/\Below wr.heap.size wr w' from fun wr hb=>KD0.out wr hb 0 (by have:=QK.out;omega))
    have EF:=Lib.hid (fun wr=>Zbj wr (kdR ns ⟨18,ws,nums,ks,ps⟩ 0))
    generalize hqE:ZE (kdR ns ⟨18,ws,nums,ks,ps⟩ 0)=E at EF
    have QE:=Lib.hid hqE
    clear hqE
    cases E
    ·go_enter Tryz.func20,Tryz.ntmps20
     go_upto_region 1 with fail
     generalize (w.alloc (.cells #[.int .i64 18,.slice A1 ws.length c1,.slice A2 nums.length c2,.slice A3 ks.length c3,.int .i64 ps] 29))=w1 at *
     go_wp2_with (first
      | (go_at_call 16;(with_reducible refine (WF.out w1 (Za K1.out)).mono ?_);rintro e2 w2 ⟨rfl,hb2⟩;have K2:=Lib.hid (STB.out _ _ hb2 K1.out);obtain ⟨⟨k20,k21,k22,k23,k24⟩,_⟩:=id K2.out;clear hb2)
      | (go_at_call 17;(with_reducible refine (NF.out w2 (Za K2.out)).mono ?_);rintro e3 w3 ⟨rfl,hb3⟩;have K3:=Lib.hid (STB.out _ _ hb3 K2.out);obtain ⟨⟨k30,k31,k32,k33,k34⟩,_⟩:=id K3.out;clear hb3)
      | (go_at_call 19;(with_reducible refine (EG.out w3 (Za K3.out)).mono ?_);rintro e4 w4 ⟨rfl,hb4⟩;have K4:=Lib.hid (STB.out _ _ hb4 K3.out);obtain ⟨⟨k40,k41,k42,k43,k44⟩,_⟩:=id K4.out;clear hb4)
      | (go_at_call 18;(with_reducible refine (EF.out w4).mono ?_);rintro _ _ ⟨rfl,rfl⟩))
     go_ret
     exact ⟨Zj,Za K4.out⟩
    ·go_enter Tryz.func20,Tryz.ntmps20
     go_upto_region 1 with fail
     generalize (w.alloc (.cells #[.int .i64 18,.slice A1 ws.length c1,.slice A2 nums.length c2,.slice A3 ks.length c3,.int .i64 ps] 29))=w1 at *
     go_wp2_with (first
      | (go_at_call 16;(with_reducible refine (WF.out w1 (Za K1.out)).mono ?_);rintro e2 w2 ⟨rfl,hb2⟩;have K2:=Lib.hid (STB.out _ _ hb2 K1.out);obtain ⟨⟨k20,k21,k22,k23,k24⟩,_⟩:=id K2.out;clear hb2)
      | (go_at_call 17;(with_reducible refine (NF.out w2 (Za K2.out)).mono ?_);rintro e3 w3 ⟨rfl,hb3⟩;have K3:=Lib.hid (STB.out _ _ hb3 K2.out);obtain ⟨⟨k30,k31,k32,k33,k34⟩,_⟩:=id K3.out;clear hb3)
      | (go_at_call 19;(with_reducible refine (EG.out w3 (Za K3.out)).mono ?_);rintro e4 w4 ⟨rfl,hb4⟩;have K4:=Lib.hid (STB.out _ _ hb4 K3.out);obtain ⟨⟨k40,k41,k42,k43,k44⟩,_⟩:=id K4.out;clear hb4)
      | (go_at_call 18;(with_reducible refine (EF.out w4).mono ?_);rintro _ _ ⟨rfl,rfl⟩))
     go_ret
     exact ⟨Zae (Zhy QW.out QN.out QK.out QE.out),Za K4.out⟩
   ·have tk:((ks.length:Int)==1)=false:=by rw [beq_eq_false_iff_ne];omega
    go_enter Tryz.func20,Tryz.ntmps20
    go_upto_region 1 with fail
    generalize (w.alloc (.cells #[.int .i64 18,.slice A1 ws.length c1,.slice A2 nums.length c2,.slice A3 ks.length c3,.int .i64 ps] 29))=w1 at *
    go_wp2_with (first
     | (go_at_call 16;(with_reducible refine (WF.out w1 (Za K1.out)).mono ?_);rintro e2 w2 ⟨rfl,hb2⟩;have K2:=Lib.hid (STB.out _ _ hb2 K1.out);obtain ⟨⟨k20,k21,k22,k23,k24⟩,_⟩:=id K2.out;clear hb2)
     | (go_at_call 17;(with_reducible refine (NF.out w2 (Za K2.out)).mono ?_);rintro e3 w3 ⟨rfl,hb3⟩;have K3:=Lib.hid (STB.out _ _ hb3 K2.out);obtain ⟨⟨k30,k31,k32,k33,k34⟩,_⟩:=id K3.out;clear hb3))
    go_ret
    exact ⟨Zj,Za K3.out⟩
theorem Zgj (w:World) (v:Value) (ns:List Nd) (va vb vc:Value) (ws:List (List UInt8)) (nums ks:List Int) (ps:Int) (hN:Zf w v ns) (hx:Zv w ((va,vb,vc),⟨19,ws,nums,ks,ps⟩)) (hk:Zz ks ns.length) :
  Calls Tryz.prog 20 #[v,ndV ((va,vb,vc),⟨19,ws,nums,ks,ps⟩)] w fun e w'=>OkB (Zw ns ⟨19,ws,nums,ks,ps⟩=true) e/\Below w.heap.size w w':=by
 obtain ⟨h1,h2,h3⟩:=id hx
 dsimp only at h1 h2 h3
 have WR:=Lib.hid (fun (wr:World) (hb:Below w.heap.size w wr) (a b:Int)=>ZN wr _ a b (hx.below hb))
 have NO0:=Lib.hid (fun (wr:World) (hb:Below w.heap.size w wr)=>ZU wr _ (hx.below hb))
 have KD0:=Lib.hid (fun (wr:World) (hb:Below w.heap.size w wr) (i:Nat) (hi:i<ks.length)=>Zaa wr v ns _ i (hN.below hb) (hx.below hb) hk hi)
 have BL0:=Lib.hid (fun (wr:World) (hb:Below w.heap.size w wr) (f:Nat) (a b:Int) (hf:f<=ks.length) (hf1:f<=1)=>ZF wr v ns _ f a b (hN.below hb) (hx.below hb) hk hf hf1)
 have FR0:=Lib.hid (fun (hl:nums.length=3) (wr:World) (hb:Below w.heap.size w wr)=>ZT wr _ (hx.below hb) hl)
 obtain ⟨A1,c1,rfl,_⟩:=h1
 obtain ⟨A2,c2,rfl,_,_,R2'⟩:=h2
 have KL:=Lib.hid h3.len
 obtain ⟨A3,c3,rfl,_⟩:=h3
 have R2:=Lib.hid R2'
 unfold ndV at WR NO0 KD0 BL0 FR0 ⊢
 dsimp only at WR NO0 KD0 BL0 FR0 ⊢
 have STB:=Lib.hid (show Stb (fun w'=>(w'.cell? ⟨w.heap.size,0,none⟩=some (.int .i64 19)/\w'.cell? ⟨w.heap.size,1,none⟩=some (.slice A1 ws.length c1)/\w'.cell? ⟨w.heap.size,2,none⟩=some (.slice A2 nums.length c2)/\w'.cell? ⟨w.heap.size,3,none⟩=some (.slice A3 ks.length c3)/\w'.cell? ⟨w.heap.size,4,none⟩=some (.int .i64 ps))/\Below w.heap.size w w') from Zd (Zd (Zc _ _) (Zd (Zc _ _) (Zd (Zc _ _) (Zd (Zc _ _) (Zc _ _))))) (Zn w))
 have HS1:((w.alloc (.cells #[.int .i64 19,.slice A1 ws.length c1,.slice A2 nums.length c2,.slice A3 ks.length c3,.int .i64 ps] 29)).cell? ⟨w.heap.size,0,none⟩=some (.int .i64 19)/\(w.alloc (.cells #[.int .i64 19,.slice A1 ws.length c1,.slice A2 nums.length c2,.slice A3 ks.length c3,.int .i64 ps] 29)).cell? ⟨w.heap.size,1,none⟩=some (.slice A1 ws.length c1)/\(w.alloc (.cells #[.int .i64 19,.slice A1 ws.length c1,.slice A2 nums.length c2,.slice A3 ks.length c3,.int .i64 ps] 29)).cell? ⟨w.heap.size,2,none⟩=some (.slice A2 nums.length c2)/\(w.alloc (.cells #[.int .i64 19,.slice A1 ws.length c1,.slice A2 nums.length c2,.slice A3 ks.length c3,.int .i64 ps] 29)).cell? ⟨w.heap.size,3,none⟩=some (.slice A3 ks.length c3)/\(w.alloc (.cells #[.int .i64 19,.slice A1 ws.length c1,.slice A2 nums.length c2,.slice A3 ks.length c3,.int .i64 ps] 29)).cell? ⟨w.heap.size,4,none⟩=some (.int .i64 ps))/\Below w.heap.size w (w.alloc (.cells #[.int .i64 19,.slice A1 ws.length c1,.slice A2 nums.length c2,.slice A3 ks.length c3,.int .i64 ps] 29)):=⟨⟨(Blk.start w _ _).cell 0,(Blk.start w _ _).cell 1,(Blk.start w _ _).cell 2,(Blk.start w _ _).cell 3,(Blk.start w _ _).cell 4⟩,Zb w _⟩
 have K1:=Lib.hid HS1
 obtain ⟨⟨g0,g1,g2,g3,g4⟩,_⟩:=HS1
 clear R2' hx hN hk
 have WF:=Lib.hid (show ∀ wr:World,Below w.heap.size w wr->Calls Tryz.prog 16 #[.agg #[.int .i64 19,.slice A1 ws.length c1,.slice A2 nums.length c2,.slice A3 ks.length c3,.int .i64 ps],.int .i64 0,.int .i64 0] wr fun e w'=>e=.returned (.bool (Zt ⟨19,ws,nums,ks,ps⟩ 0 0))/\Below wr.heap.size wr w' from fun wr hb=>WR.out wr hb 0 0)
 generalize hqW:Zt ⟨19,ws,nums,ks,ps⟩ 0 0=W at WF
 have QW:=Lib.hid hqW
 clear hqW
 cases W
 ·go_enter Tryz.func20,Tryz.ntmps20
  go_upto_region 1 with fail
  generalize (w.alloc (.cells #[.int .i64 19,.slice A1 ws.length c1,.slice A2 nums.length c2,.slice A3 ks.length c3,.int .i64 ps] 29))=w1 at *
  go_wp2_with (first
   | (go_at_call 16;(with_reducible refine (WF.out w1 (Za K1.out)).mono ?_);rintro e2 w2 ⟨rfl,hb2⟩;have K2:=Lib.hid (STB.out _ _ hb2 K1.out);obtain ⟨⟨k20,k21,k22,k23,k24⟩,_⟩:=id K2.out;clear hb2))
  go_ret
  exact ⟨Zj,Za K2.out⟩
 ·have NF:=Lib.hid (show ∀ wr:World,Below w.heap.size w wr->Calls Tryz.prog 17 #[.agg #[.int .i64 19,.slice A1 ws.length c1,.slice A2 nums.length c2,.slice A3 ks.length c3,.int .i64 ps]] wr fun e w'=>e=.returned (.bool (ZJ ⟨19,ws,nums,ks,ps⟩))/\Below wr.heap.size wr w' from fun wr hb=>NO0.out wr hb)
  generalize hqN:ZJ ⟨19,ws,nums,ks,ps⟩=N at NF
  have QN:=Lib.hid hqN
  clear hqN
  cases N
  ·go_enter Tryz.func20,Tryz.ntmps20
   go_upto_region 1 with fail
   generalize (w.alloc (.cells #[.int .i64 19,.slice A1 ws.length c1,.slice A2 nums.length c2,.slice A3 ks.length c3,.int .i64 ps] 29))=w1 at *
   go_wp2_with (first
    | (go_at_call 16;(with_reducible refine (WF.out w1 (Za K1.out)).mono ?_);rintro e2 w2 ⟨rfl,hb2⟩;have K2:=Lib.hid (STB.out _ _ hb2 K1.out);obtain ⟨⟨k20,k21,k22,k23,k24⟩,_⟩:=id K2.out;clear hb2)
    | (go_at_call 17;(with_reducible refine (NF.out w2 (Za K2.out)).mono ?_);rintro e3 w3 ⟨rfl,hb3⟩;have K3:=Lib.hid (STB.out _ _ hb3 K2.out);obtain ⟨⟨k30,k31,k32,k33,k34⟩,_⟩:=id K3.out;clear hb3))
   go_ret
   exact ⟨Zj,Za K3.out⟩
  ·by_cases qk:ks.length=0
   ·have tk:((ks.length:Int)==0)=true:=by rw [beq_iff_eq];omega
    have QK:=Lib.hid qk
    clear qk
    go_enter Tryz.func20,Tryz.ntmps20
    go_upto_region 1 with fail
    generalize (w.alloc (.cells #[.int .i64 19,.slice A1 ws.length c1,.slice A2 nums.length c2,.slice A3 ks.length c3,.int .i64 ps] 29))=w1 at *
    go_wp2_with (first
     | (go_at_call 16;(with_reducible refine (WF.out w1 (Za K1.out)).mono ?_);rintro e2 w2 ⟨rfl,hb2⟩;have K2:=Lib.hid (STB.out _ _ hb2 K1.out);obtain ⟨⟨k20,k21,k22,k23,k24⟩,_⟩:=id K2.out;clear hb2)
     | (go_at_call 17;(with_reducible refine (NF.out w2 (Za K2.out)).mono ?_);rintro e3 w3 ⟨rfl,hb3⟩;have K3:=Lib.hid (STB.out _ _ hb3 K2.out);obtain ⟨⟨k30,k31,k32,k33,k34⟩,_⟩:=id K3.out;clear hb3))
    go_ret
    exact ⟨Zae (Zjs QW.out QN.out QK.out),Za K3.out⟩
   ·have tk:((ks.length:Int)==0)=false:=by rw [beq_eq_false_iff_ne];omega
    go_enter Tryz.func20,Tryz.ntmps20
    go_upto_region 1 with fail
    generalize (w.alloc (.cells #[.int .i64 19,.slice A1 ws.length c1,.slice A2 nums.length c2,.slice A3 ks.length c3,.int .i64 ps] 29))=w1 at *
    go_wp2_with (first
     | (go_at_call 16;(with_reducible refine (WF.out w1 (Za K1.out)).mono ?_);rintro e2 w2 ⟨rfl,hb2⟩;have K2:=Lib.hid (STB.out _ _ hb2 K1.out);obtain ⟨⟨k20,k21,k22,k23,k24⟩,_⟩:=id K2.out;clear hb2)
     | (go_at_call 17;(with_reducible refine (NF.out w2 (Za K2.out)).mono ?_);rintro e3 w3 ⟨rfl,hb3⟩;have K3:=Lib.hid (STB.out _ _ hb3 K2.out);obtain ⟨⟨k30,k31,k32,k33,k34⟩,_⟩:=id K3.out;clear hb3))
    go_ret
    exact ⟨Zj,Za K3.out⟩
end
end Go.Proofs.YtenbomphkihmlaaGreatDoor
