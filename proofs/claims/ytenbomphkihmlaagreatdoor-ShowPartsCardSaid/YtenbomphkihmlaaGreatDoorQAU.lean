import Derived.Test.YtenbomphkihmlaaGreatDoorQAT
set_option maxRecDepth 100000
set_option maxHeartbeats 8000000
namespace Go.Proofs.YtenbomphkihmlaaGreatDoor
section
open Go.RowKit
theorem ZfS (w:World) (v:Value) (ns:List Nd) (va vb vc:Value) (ws:List (List UInt8)) (nums ks:List Int) (ps:Int) (hN:Zf w v ns) (hx:Zv w ((va,vb,vc),⟨2,ws,nums,ks,ps⟩)) (hk:Zz ks ns.length) :
  Calls Tryz.prog 15 #[v,ndV ((va,vb,vc),⟨2,ws,nums,ks,ps⟩)] w fun e w'=>OkB (Zw ns ⟨2,ws,nums,ks,ps⟩=true) e/\Below w.heap.size w w':=by
 obtain ⟨h1,h2,h3⟩:=id hx
 dsimp only at h1 h2 h3
 have WR:=Lib.hid (fun (wr:World) (hb:Below w.heap.size w wr) (a b:Int)=>ZN wr _ a b (hx.below hb))
 have NO0:=Lib.hid (fun (wr:World) (hb:Below w.heap.size w wr)=>ZU wr _ (hx.below hb))
 have KD0:=Lib.hid (fun (wr:World) (hb:Below w.heap.size w wr) (i:Nat) (hi:i<ks.length)=>Zaa wr v ns _ i (hN.below hb) (hx.below hb) hk hi)
 have BL0:=Lib.hid (fun (wr:World) (hb:Below w.heap.size w wr) (f:Nat) (a b:Int) (hf:f<=ks.length) (hf1:f<=1)=>ZF wr v ns _ f a b (hN.below hb) (hx.below hb) hk hf hf1)
 have FR0:=Lib.hid (fun (hl:nums.length=3) (wr:World) (hb:Below w.heap.size w wr)=>ZT wr _ (hx.below hb) hl)
 obtain ⟨A1,c1,rfl,_⟩:=h1
 obtain ⟨A2,c2,rfl,_,_,R2'⟩:=h2
 have KL:=Lib.hid h3.len
 obtain ⟨A3,c3,rfl,_⟩:=h3
 have R2:=Lib.hid R2'
 unfold ndV at WR NO0 KD0 BL0 FR0 ⊢
 dsimp only at WR NO0 KD0 BL0 FR0 ⊢
 have STB:=Lib.hid (show Stb (fun w'=>(w'.cell? ⟨w.heap.size,0,none⟩=some (.int .i64 2)/\w'.cell? ⟨w.heap.size,1,none⟩=some (.slice A1 ws.length c1)/\w'.cell? ⟨w.heap.size,2,none⟩=some (.slice A2 nums.length c2)/\w'.cell? ⟨w.heap.size,3,none⟩=some (.slice A3 ks.length c3)/\w'.cell? ⟨w.heap.size,4,none⟩=some (.int .i64 ps))/\Below w.heap.size w w') from Zd (Zd (Zc _ _) (Zd (Zc _ _) (Zd (Zc _ _) (Zd (Zc _ _) (Zc _ _))))) (Zn w))
 have HS1:((w.alloc (.cells #[.int .i64 2,.slice A1 ws.length c1,.slice A2 nums.length c2,.slice A3 ks.length c3,.int .i64 ps] 29)).cell? ⟨w.heap.size,0,none⟩=some (.int .i64 2)/\(w.alloc (.cells #[.int .i64 2,.slice A1 ws.length c1,.slice A2 nums.length c2,.slice A3 ks.length c3,.int .i64 ps] 29)).cell? ⟨w.heap.size,1,none⟩=some (.slice A1 ws.length c1)/\(w.alloc (.cells #[.int .i64 2,.slice A1 ws.length c1,.slice A2 nums.length c2,.slice A3 ks.length c3,.int .i64 ps] 29)).cell? ⟨w.heap.size,2,none⟩=some (.slice A2 nums.length c2)/\(w.alloc (.cells #[.int .i64 2,.slice A1 ws.length c1,.slice A2 nums.length c2,.slice A3 ks.length c3,.int .i64 ps] 29)).cell? ⟨w.heap.size,3,none⟩=some (.slice A3 ks.length c3)/\(w.alloc (.cells #[.int .i64 2,.slice A1 ws.length c1,.slice A2 nums.length c2,.slice A3 ks.length c3,.int .i64 ps] 29)).cell? ⟨w.heap.size,4,none⟩=some (.int .i64 ps))/\Below w.heap.size w (w.alloc (.cells #[.int .i64 2,.slice A1 ws.length c1,.slice A2 nums.length c2,.slice A3 ks.length c3,.int .i64 ps] 29)):=⟨⟨(Blk.start w _ _).cell 0,(Blk.start w _ _).cell 1,(Blk.start w _ _).cell 2,(Blk.start w _ _).cell 3,(Blk.start w _ _).cell 4⟩,Zb w _⟩
 have K1:=Lib.hid HS1
 obtain ⟨⟨g0,g1,g2,g3,g4⟩,_⟩:=HS1
 clear R2' hx hN hk
 have WF:=Lib.hid (show ∀ wr:World,Below w.heap.size w wr->Calls Tryz.prog 16 #[.agg #[.int .i64 2,.slice A1 ws.length c1,.slice A2 nums.length c2,.slice A3 ks.length c3,.int .i64 ps],.int .i64 1,.int .i64 1] wr fun e w'=>e=.returned (.bool (Zt ⟨2,ws,nums,ks,ps⟩ 1 1))/\Below wr.heap.size wr w' from fun wr hb=>WR.out wr hb 1 1)
 generalize hqW:Zt ⟨2,ws,nums,ks,ps⟩ 1 1=W at WF
 have QW:=Lib.hid hqW
 clear hqW
 cases W
 ·go_enter Tryz.func15,Tryz.ntmps15
  go_upto_region 1 with fail
  generalize (w.alloc (.cells #[.int .i64 2,.slice A1 ws.length c1,.slice A2 nums.length c2,.slice A3 ks.length c3,.int .i64 ps] 29))=w1 at *
  go_wp2_with (first
   | (go_at_call 16;(with_reducible refine (WF.out w1 (Za K1.out)).mono ?_);rintro e2 w2 ⟨rfl,hb2⟩;have K2:=Lib.hid (STB.out _ _ hb2 K1.out);obtain ⟨⟨k20,k21,k22,k23,k24⟩,_⟩:=id K2.out;clear hb2))
  go_ret
  exact ⟨Zj,Za K2.out⟩
 ·by_cases qn:nums.length=1
  ·have tn:((nums.length:Int)==1)=true:=by rw [beq_iff_eq];omega
   have tn2:(0:Int)<(nums.length:Int):=by omega
   obtain ⟨y,hy⟩:=List.length_eq_one_iff.mp qn
   obtain ⟨ad2,rfl,y1⟩:=Zp (x:=y) R2.out (Za K1.out) (k:=0) (by rw [hy];rfl) (by omega)
   rw [show ad2.add 0=ad2 by unfold Addr.add;simp] at y1
   have NC:=Lib.hid (fun (wr:World) (hb:Below w.heap.size w wr)=>show wr.cell? ad2=some (.int .i64 y) from by obtain ⟨a2,e2,q2⟩:=Zp (x:=y) R2.out hb (k:=0) (by rw [hy];rfl) (by omega);injection e2 with e2;subst e2;rwa [show ad2.add 0=ad2 by unfold Addr.add;simp] at q2)
   have HY:=Lib.hid hy
   clear hy qn
   by_cases qy:y=0
   ·have ty:(y==0)=true:=by rw [beq_iff_eq];exact qy
    have QY:=Lib.hid (Or.inl qy:y=0\/y=1)
    clear qy
    by_cases qk:ks.length=0
    ·have tk:((ks.length:Int)==0)=true:=by rw [beq_iff_eq];omega
     have QK:=Lib.hid qk
     clear qk
     go_enter Tryz.func15,Tryz.ntmps15
     go_upto_region 1 with fail
     generalize (w.alloc (.cells #[.int .i64 2,.slice A1 ws.length c1,.slice (some ad2) nums.length c2,.slice A3 ks.length c3,.int .i64 ps] 29))=w1 at *
     go_wp2_with (first
      | (go_at_call 16;(with_reducible refine (WF.out w1 (Za K1.out)).mono ?_);rintro e2 w2 ⟨rfl,hb2⟩;have K2:=Lib.hid (STB.out _ _ hb2 K1.out);obtain ⟨⟨k20,k21,k22,k23,k24⟩,_⟩:=id K2.out;have y2:=NC.out w2 (Za K2.out);clear hb2))
     go_ret
     exact ⟨Zae (Ze6 QW.out HY.out QY.out QK.out),Za K2.out⟩
    ·have tk:((ks.length:Int)==0)=false:=by rw [beq_eq_false_iff_ne];omega
     go_enter Tryz.func15,Tryz.ntmps15
     go_upto_region 1 with fail
     generalize (w.alloc (.cells #[.int .i64 2,.slice A1 ws.length c1,.slice (some ad2) nums.length c2,.slice A3 ks.length c3,.int .i64 ps] 29))=w1 at *
     go_wp2_with (first
      | (go_at_call 16;(with_reducible refine (WF.out w1 (Za K1.out)).mono ?_);rintro e2 w2 ⟨rfl,hb2⟩;have K2:=Lib.hid (STB.out _ _ hb2 K1.out);obtain ⟨⟨k20,k21,k22,k23,k24⟩,_⟩:=id K2.out;have y2:=NC.out w2 (Za K2.out);clear hb2))
     go_ret
     exact ⟨Zj,Za K2.out⟩
   ·have ty:(y==0)=false:=by rw [beq_eq_false_iff_ne];exact qy
    by_cases qz:y=1
    ·have tz:(y==1)=true:=by rw [beq_iff_eq];exact qz
     have QY:=Lib.hid (Or.inr qz:y=0\/y=1)
     clear qy qz
     by_cases qk:ks.length=0
     ·have tk:((ks.length:Int)==0)=true:=by rw [beq_iff_eq];omega
      have QK:=Lib.hid qk
      clear qk
      go_enter Tryz.func15,Tryz.ntmps15
      go_upto_region 1 with fail
      generalize (w.alloc (.cells #[.int .i64 2,.slice A1 ws.length c1,.slice (some ad2) nums.length c2,.slice A3 ks.length c3,.int .i64 ps] 29))=w1 at *
      go_wp2_with (first
       | (go_at_call 16;(with_reducible refine (WF.out w1 (Za K1.out)).mono ?_);rintro e2 w2 ⟨rfl,hb2⟩;have K2:=Lib.hid (STB.out _ _ hb2 K1.out);obtain ⟨⟨k20,k21,k22,k23,k24⟩,_⟩:=id K2.out;have y2:=NC.out w2 (Za K2.out);clear hb2))
      go_ret
      exact ⟨Zae (Ze6 QW.out HY.out QY.out QK.out),Za K2.out⟩
     ·have tk:((ks.length:Int)==0)=false:=by rw [beq_eq_false_iff_ne];omega
      go_enter Tryz.func15,Tryz.ntmps15
      go_upto_region 1 with fail
      generalize (w.alloc (.cells #[.int .i64 2,.slice A1 ws.length c1,.slice (some ad2) nums.length c2,.slice A3 ks.length c3,.int .i64 ps] 29))=w1 at *
      go_wp2_with (first
       | (go_at_call 16;(with_reducible refine (WF.out w1 (Za K1.out)).mono ?_);rintro e2 w2 ⟨rfl,hb2⟩;have K2:=Lib.hid (STB.out _ _ hb2 K1.out);obtain ⟨⟨k20,k21,k22,k23,k24⟩,_⟩:=id K2.out;have y2:=NC.out w2 (Za K2.out);clear hb2))
      go_ret
      exact ⟨Zj,Za K2.out⟩
    ·have tz:(y==1)=false:=by rw [beq_eq_false_iff_ne];exact qz
     go_enter Tryz.func15,Tryz.ntmps15
     go_upto_region 1 with fail
     generalize (w.alloc (.cells #[.int .i64 2,.slice A1 ws.length c1,.slice (some ad2) nums.length c2,.slice A3 ks.length c3,.int .i64 ps] 29))=w1 at *
     go_wp2_with (first
      | (go_at_call 16;(with_reducible refine (WF.out w1 (Za K1.out)).mono ?_);rintro e2 w2 ⟨rfl,hb2⟩;have K2:=Lib.hid (STB.out _ _ hb2 K1.out);obtain ⟨⟨k20,k21,k22,k23,k24⟩,_⟩:=id K2.out;have y2:=NC.out w2 (Za K2.out);clear hb2))
     go_ret
     exact ⟨Zj,Za K2.out⟩
  ·have tn:((nums.length:Int)==1)=false:=by rw [beq_eq_false_iff_ne];omega
   go_enter Tryz.func15,Tryz.ntmps15
   go_upto_region 1 with fail
   generalize (w.alloc (.cells #[.int .i64 2,.slice A1 ws.length c1,.slice A2 nums.length c2,.slice A3 ks.length c3,.int .i64 ps] 29))=w1 at *
   go_wp2_with (first
    | (go_at_call 16;(with_reducible refine (WF.out w1 (Za K1.out)).mono ?_);rintro e2 w2 ⟨rfl,hb2⟩;have K2:=Lib.hid (STB.out _ _ hb2 K1.out);obtain ⟨⟨k20,k21,k22,k23,k24⟩,_⟩:=id K2.out;clear hb2))
   go_ret
   exact ⟨Zj,Za K2.out⟩
theorem Ziy (w:World) (v:Value) (ns:List Nd) (va vb vc:Value) (ws:List (List UInt8)) (nums ks:List Int) (ps:Int) (hN:Zf w v ns) (hx:Zv w ((va,vb,vc),⟨3,ws,nums,ks,ps⟩)) (hk:Zz ks ns.length) :
  Calls Tryz.prog 15 #[v,ndV ((va,vb,vc),⟨3,ws,nums,ks,ps⟩)] w fun e w'=>OkB (Zw ns ⟨3,ws,nums,ks,ps⟩=true) e/\Below w.heap.size w w':=by
 obtain ⟨h1,h2,h3⟩:=id hx
 dsimp only at h1 h2 h3
 have WR:=Lib.hid (fun (wr:World) (hb:Below w.heap.size w wr) (a b:Int)=>ZN wr _ a b (hx.below hb))
 have NO0:=Lib.hid (fun (wr:World) (hb:Below w.heap.size w wr)=>ZU wr _ (hx.below hb))
 have KD0:=Lib.hid (fun (wr:World) (hb:Below w.heap.size w wr) (i:Nat) (hi:i<ks.length)=>Zaa wr v ns _ i (hN.below hb) (hx.below hb) hk hi)
 have BL0:=Lib.hid (fun (wr:World) (hb:Below w.heap.size w wr) (f:Nat) (a b:Int) (hf:f<=ks.length) (hf1:f<=1)=>ZF wr v ns _ f a b (hN.below hb) (hx.below hb) hk hf hf1)
 have FR0:=Lib.hid (fun (hl:nums.length=3) (wr:World) (hb:Below w.heap.size w wr)=>ZT wr _ (hx.below hb) hl)
 obtain ⟨A1,c1,rfl,_⟩:=h1
 obtain ⟨A2,c2,rfl,_,_,R2'⟩:=h2
 have KL:=Lib.hid h3.len
 obtain ⟨A3,c3,rfl,_⟩:=h3
 have R2:=Lib.hid R2'
 unfold ndV at WR NO0 KD0 BL0 FR0 ⊢
 dsimp only at WR NO0 KD0 BL0 FR0 ⊢
 have STB:=Lib.hid (show Stb (fun w'=>(w'.cell? ⟨w.heap.size,0,none⟩=some (.int .i64 3)/\w'.cell? ⟨w.heap.size,1,none⟩=some (.slice A1 ws.length c1)/\w'.cell? ⟨w.heap.size,2,none⟩=some (.slice A2 nums.length c2)/\w'.cell? ⟨w.heap.size,3,none⟩=some (.slice A3 ks.length c3)/\w'.cell? ⟨w.heap.size,4,none⟩=some (.int .i64 ps))/\Below w.heap.size w w') from Zd (Zd (Zc _ _) (Zd (Zc _ _) (Zd (Zc _ _) (Zd (Zc _ _) (Zc _ _))))) (Zn w))
 have HS1:((w.alloc (.cells #[.int .i64 3,.slice A1 ws.length c1,.slice A2 nums.length c2,.slice A3 ks.length c3,.int .i64 ps] 29)).cell? ⟨w.heap.size,0,none⟩=some (.int .i64 3)/\(w.alloc (.cells #[.int .i64 3,.slice A1 ws.length c1,.slice A2 nums.length c2,.slice A3 ks.length c3,.int .i64 ps] 29)).cell? ⟨w.heap.size,1,none⟩=some (.slice A1 ws.length c1)/\(w.alloc (.cells #[.int .i64 3,.slice A1 ws.length c1,.slice A2 nums.length c2,.slice A3 ks.length c3,.int .i64 ps] 29)).cell? ⟨w.heap.size,2,none⟩=some (.slice A2 nums.length c2)/\(w.alloc (.cells #[.int .i64 3,.slice A1 ws.length c1,.slice A2 nums.length c2,.slice A3 ks.length c3,.int .i64 ps] 29)).cell? ⟨w.heap.size,3,none⟩=some (.slice A3 ks.length c3)/\(w.alloc (.cells #[.int .i64 3,.slice A1 ws.length c1,.slice A2 nums.length c2,.slice A3 ks.length c3,.int .i64 ps] 29)).cell? ⟨w.heap.size,4,none⟩=some (.int .i64 ps))/\Below w.heap.size w (w.alloc (.cells #[.int .i64 3,.slice A1 ws.length c1,.slice A2 nums.length c2,.slice A3 ks.length c3,.int .i64 ps] 29)):=⟨⟨(Blk.start w _ _).cell 0,(Blk.start w _ _).cell 1,(Blk.start w _ _).cell 2,(Blk.start w _ _).cell 3,(Blk.start w _ _).cell 4⟩,Zb w _⟩
 have K1:=Lib.hid HS1
 obtain ⟨⟨g0,g1,g2,g3,g4⟩,_⟩:=HS1
 clear R2' hx hN hk
 have WF:=Lib.hid (show ∀ wr:World,Below w.heap.size w wr->Calls Tryz.prog 16 #[.agg #[.int .i64 3,.slice A1 ws.length c1,.slice A2 nums.length c2,.slice A3 ks.length c3,.int .i64 ps],.int .i64 4,.int .i64 1500] wr fun e w'=>e=.returned (.bool (Zt ⟨3,ws,nums,ks,ps⟩ 4 1500))/\Below wr.heap.size wr w' from fun wr hb=>WR.out wr hb 4 1500)
 generalize hqW:Zt ⟨3,ws,nums,ks,ps⟩ 4 1500=W at WF
 have QW:=Lib.hid hqW
 clear hqW
 cases W
 ·go_enter Tryz.func15,Tryz.ntmps15
  go_upto_region 1 with fail
  generalize (w.alloc (.cells #[.int .i64 3,.slice A1 ws.length c1,.slice A2 nums.length c2,.slice A3 ks.length c3,.int .i64 ps] 29))=w1 at *
  go_wp2_with (first
   | (go_at_call 16;(with_reducible refine (WF.out w1 (Za K1.out)).mono ?_);rintro e2 w2 ⟨rfl,hb2⟩;have K2:=Lib.hid (STB.out _ _ hb2 K1.out);obtain ⟨⟨k20,k21,k22,k23,k24⟩,_⟩:=id K2.out;clear hb2))
  go_ret
  exact ⟨Zj,Za K2.out⟩
 ·by_cases qe:ws.length % 2=0
  ·have te:(ws.length:Int).tmod 2=0:=by rw [Int.tmod_eq_emod_of_nonneg (by omega)];omega
   have NF:=Lib.hid (show ∀ wr:World,Below w.heap.size w wr->Calls Tryz.prog 17 #[.agg #[.int .i64 3,.slice A1 ws.length c1,.slice A2 nums.length c2,.slice A3 ks.length c3,.int .i64 ps]] wr fun e w'=>e=.returned (.bool (ZJ ⟨3,ws,nums,ks,ps⟩))/\Below wr.heap.size wr w' from fun wr hb=>NO0.out wr hb)
   generalize hqN:ZJ ⟨3,ws,nums,ks,ps⟩=N at NF
   have QN:=Lib.hid hqN
   clear hqN
   cases N
   ·go_enter Tryz.func15,Tryz.ntmps15
    go_upto_region 1 with fail
    generalize (w.alloc (.cells #[.int .i64 3,.slice A1 ws.length c1,.slice A2 nums.length c2,.slice A3 ks.length c3,.int .i64 ps] 29))=w1 at *
    go_wp2_with (first
     | (go_at_call 16;(with_reducible refine (WF.out w1 (Za K1.out)).mono ?_);rintro e2 w2 ⟨rfl,hb2⟩;have K2:=Lib.hid (STB.out _ _ hb2 K1.out);obtain ⟨⟨k20,k21,k22,k23,k24⟩,_⟩:=id K2.out;clear hb2)
     | (go_at_call 17;(with_reducible refine (NF.out w2 (Za K2.out)).mono ?_);rintro e3 w3 ⟨rfl,hb3⟩;have K3:=Lib.hid (STB.out _ _ hb3 K2.out);obtain ⟨⟨k30,k31,k32,k33,k34⟩,_⟩:=id K3.out;clear hb3))
    go_ret
    exact ⟨Zj,Za K3.out⟩
   ·by_cases qk:ks.length=0
    ·have tk:((ks.length:Int)==0)=true:=by rw [beq_iff_eq];omega
     have QK:=Lib.hid qk
     clear qk
     go_enter Tryz.func15,Tryz.ntmps15
     go_upto_region 1 with fail
     generalize (w.alloc (.cells #[.int .i64 3,.slice A1 ws.length c1,.slice A2 nums.length c2,.slice A3 ks.length c3,.int .i64 ps] 29))=w1 at *
     go_wp2_with (first
      | (go_at_call 16;(with_reducible refine (WF.out w1 (Za K1.out)).mono ?_);rintro e2 w2 ⟨rfl,hb2⟩;have K2:=Lib.hid (STB.out _ _ hb2 K1.out);obtain ⟨⟨k20,k21,k22,k23,k24⟩,_⟩:=id K2.out;clear hb2)
      | (go_at_call 17;(with_reducible refine (NF.out w2 (Za K2.out)).mono ?_);rintro e3 w3 ⟨rfl,hb3⟩;have K3:=Lib.hid (STB.out _ _ hb3 K2.out);obtain ⟨⟨k30,k31,k32,k33,k34⟩,_⟩:=id K3.out;clear hb3))
     go_ret
     exact ⟨Zae (Zkt QW.out qe QN.out QK.out),Za K3.out⟩
    ·have tk:((ks.length:Int)==0)=false:=by rw [beq_eq_false_iff_ne];omega
     go_enter Tryz.func15,Tryz.ntmps15
     go_upto_region 1 with fail
     generalize (w.alloc (.cells #[.int .i64 3,.slice A1 ws.length c1,.slice A2 nums.length c2,.slice A3 ks.length c3,.int .i64 ps] 29))=w1 at *
     go_wp2_with (first
      | (go_at_call 16;(with_reducible refine (WF.out w1 (Za K1.out)).mono ?_);rintro e2 w2 ⟨rfl,hb2⟩;have K2:=Lib.hid (STB.out _ _ hb2 K1.out);obtain ⟨⟨k20,k21,k22,k23,k24⟩,_⟩:=id K2.out;clear hb2)
      | (go_at_call 17;(with_reducible refine (NF.out w2 (Za K2.out)).mono ?_);rintro e3 w3 ⟨rfl,hb3⟩;have K3:=Lib.hid (STB.out _ _ hb3 K2.out);obtain ⟨⟨k30,k31,k32,k33,k34⟩,_⟩:=id K3.out;clear hb3))
     go_ret
     exact ⟨Zj,Za K3.out⟩
  ·have te:(ws.length:Int).tmod 2=1:=by rw [Int.tmod_eq_emod_of_nonneg (by omega)];omega
   go_enter Tryz.func15,Tryz.ntmps15
   go_upto_region 1 with fail
   generalize (w.alloc (.cells #[.int .i64 3,.slice A1 ws.length c1,.slice A2 nums.length c2,.slice A3 ks.length c3,.int .i64 ps] 29))=w1 at *
   go_wp2_with (first
    | (go_at_call 16;(with_reducible refine (WF.out w1 (Za K1.out)).mono ?_);rintro e2 w2 ⟨rfl,hb2⟩;have K2:=Lib.hid (STB.out _ _ hb2 K1.out);obtain ⟨⟨k20,k21,k22,k23,k24⟩,_⟩:=id K2.out;clear hb2))
   go_ret
   exact ⟨Zj,Za K2.out⟩
theorem ZfP (w:World) (v:Value) (ns:List Nd) (va vb vc:Value) (ws:List (List UInt8)) (nums ks:List Int) (ps:Int) (hN:Zf w v ns) (hx:Zv w ((va,vb,vc),⟨6,ws,nums,ks,ps⟩)) (hk:Zz ks ns.length) :
  Calls Tryz.prog 15 #[v,ndV ((va,vb,vc),⟨6,ws,nums,ks,ps⟩)] w fun e w'=>OkB (Zw ns ⟨6,ws,nums,ks,ps⟩=true) e/\Below w.heap.size w w':=by
 obtain ⟨h1,h2,h3⟩:=id hx
 dsimp only at h1 h2 h3
 have WR:=Lib.hid (fun (wr:World) (hb:Below w.heap.size w wr) (a b:Int)=>ZN wr _ a b (hx.below hb))
 have NO0:=Lib.hid (fun (wr:World) (hb:Below w.heap.size w wr)=>ZU wr _ (hx.below hb))
 have KD0:=Lib.hid (fun (wr:World) (hb:Below w.heap.size w wr) (i:Nat) (hi:i<ks.length)=>Zaa wr v ns _ i (hN.below hb) (hx.below hb) hk hi)
 have BL0:=Lib.hid (fun (wr:World) (hb:Below w.heap.size w wr) (f:Nat) (a b:Int) (hf:f<=ks.length) (hf1:f<=1)=>ZF wr v ns _ f a b (hN.below hb) (hx.below hb) hk hf hf1)
 have FR0:=Lib.hid (fun (hl:nums.length=3) (wr:World) (hb:Below w.heap.size w wr)=>ZT wr _ (hx.below hb) hl)
 obtain ⟨A1,c1,rfl,_⟩:=h1
 obtain ⟨A2,c2,rfl,_,_,R2'⟩:=h2
 have KL:=Lib.hid h3.len
 obtain ⟨A3,c3,rfl,_⟩:=h3
 have R2:=Lib.hid R2'
 unfold ndV at WR NO0 KD0 BL0 FR0 ⊢
 dsimp only at WR NO0 KD0 BL0 FR0 ⊢
 have STB:=Lib.hid (show Stb (fun w'=>(w'.cell? ⟨w.heap.size,0,none⟩=some (.int .i64 6)/\w'.cell? ⟨w.heap.size,1,none⟩=some (.slice A1 ws.length c1)/\w'.cell? ⟨w.heap.size,2,none⟩=some (.slice A2 nums.length c2)/\w'.cell? ⟨w.heap.size,3,none⟩=some (.slice A3 ks.length c3)/\w'.cell? ⟨w.heap.size,4,none⟩=some (.int .i64 ps))/\Below w.heap.size w w') from Zd (Zd (Zc _ _) (Zd (Zc _ _) (Zd (Zc _ _) (Zd (Zc _ _) (Zc _ _))))) (Zn w))
 have HS1:((w.alloc (.cells #[.int .i64 6,.slice A1 ws.length c1,.slice A2 nums.length c2,.slice A3 ks.length c3,.int .i64 ps] 29)).cell? ⟨w.heap.size,0,none⟩=some (.int .i64 6)/\(w.alloc (.cells #[.int .i64 6,.slice A1 ws.length c1,.slice A2 nums.length c2,.slice A3 ks.length c3,.int .i64 ps] 29)).cell? ⟨w.heap.size,1,none⟩=some (.slice A1 ws.length c1)/\(w.alloc (.cells #[.int .i64 6,.slice A1 ws.length c1,.slice A2 nums.length c2,.slice A3 ks.length c3,.int .i64 ps] 29)).cell? ⟨w.heap.size,2,none⟩=some (.slice A2 nums.length c2)/\(w.alloc (.cells #[.int .i64 6,.slice A1 ws.length c1,.slice A2 nums.length c2,.slice A3 ks.length c3,.int .i64 ps] 29)).cell? ⟨w.heap.size,3,none⟩=some (.slice A3 ks.length c3)/\(w.alloc (.cells #[.int .i64 6,.slice A1 ws.length c1,.slice A2 nums.length c2,.slice A3 ks.length c3,.int .i64 ps] 29)).cell? ⟨w.heap.size,4,none⟩=some (.int .i64 ps))/\Below w.heap.size w (w.alloc (.cells #[.int .i64 6,.slice A1 ws.length c1,.slice A2 nums.length c2,.slice A3 ks.length c3,.int .i64 ps] 29)):=⟨⟨(Blk.start w _ _).cell 0,(Blk.start w _ _).cell 1,(Blk.start w _ _).cell 2,(Blk.start w _ _).cell 3,(Blk.start w _ _).cell 4⟩,Zb w _⟩
 have K1:=Lib.hid HS1
 obtain ⟨⟨g0,g1,g2,g3,g4⟩,_⟩:=HS1
 clear R2' hx hN hk
 have WF:=Lib.hid (show ∀ wr:World,Below w.heap.size w wr->Calls Tryz.prog 16 #[.agg #[.int .i64 6,.slice A1 ws.length c1,.slice A2 nums.length c2,.slice A3 ks.length c3,.int .i64 ps],.int .i64 1,.int .i64 1500] wr fun e w'=>e=.returned (.bool (Zt ⟨6,ws,nums,ks,ps⟩ 1 1500))/\Below wr.heap.size wr w' from fun wr hb=>WR.out wr hb 1 1500)
 generalize hqW:Zt ⟨6,ws,nums,ks,ps⟩ 1 1500=W at WF
 have QW:=Lib.hid hqW
 clear hqW
 cases W
 ·go_enter Tryz.func15,Tryz.ntmps15
  go_upto_region 1 with fail
  generalize (w.alloc (.cells #[.int .i64 6,.slice A1 ws.length c1,.slice A2 nums.length c2,.slice A3 ks.length c3,.int .i64 ps] 29))=w1 at *
  go_wp2_with (first
   | (go_at_call 16;(with_reducible refine (WF.out w1 (Za K1.out)).mono ?_);rintro e2 w2 ⟨rfl,hb2⟩;have K2:=Lib.hid (STB.out _ _ hb2 K1.out);obtain ⟨⟨k20,k21,k22,k23,k24⟩,_⟩:=id K2.out;clear hb2))
  go_ret
  exact ⟨Zj,Za K2.out⟩
 ·by_cases qn:nums.length=1
  ·have tn:((nums.length:Int)==1)=true:=by rw [beq_iff_eq];omega
   have tn2:(0:Int)<(nums.length:Int):=by omega
   obtain ⟨y,hy⟩:=List.length_eq_one_iff.mp qn
   obtain ⟨ad2,rfl,y1⟩:=Zp (x:=y) R2.out (Za K1.out) (k:=0) (by rw [hy];rfl) (by omega)
   rw [show ad2.add 0=ad2 by unfold Addr.add;simp] at y1
   have NC:=Lib.hid (fun (wr:World) (hb:Below w.heap.size w wr)=>show wr.cell? ad2=some (.int .i64 y) from by obtain ⟨a2,e2,q2⟩:=Zp (x:=y) R2.out hb (k:=0) (by rw [hy];rfl) (by omega);injection e2 with e2;subst e2;rwa [show ad2.add 0=ad2 by unfold Addr.add;simp] at q2)
   have HY:=Lib.hid hy
   clear hy qn
   by_cases qy:0<=y
   ·by_cases qz:y<=2
    ·by_cases qk:ks.length=0
     ·have tk:((ks.length:Int)==0)=true:=by rw [beq_iff_eq];omega
      have QK:=Lib.hid qk
      clear qk
      go_enter Tryz.func15,Tryz.ntmps15
      go_upto_region 1 with fail
      generalize (w.alloc (.cells #[.int .i64 6,.slice A1 ws.length c1,.slice (some ad2) nums.length c2,.slice A3 ks.length c3,.int .i64 ps] 29))=w1 at *
      go_wp2_with (first
       | (go_at_call 16;(with_reducible refine (WF.out w1 (Za K1.out)).mono ?_);rintro e2 w2 ⟨rfl,hb2⟩;have K2:=Lib.hid (STB.out _ _ hb2 K1.out);obtain ⟨⟨k20,k21,k22,k23,k24⟩,_⟩:=id K2.out;have y2:=NC.out w2 (Za K2.out);clear hb2))
      go_ret
      exact ⟨Zae (ZiE QW.out HY.out qy qz QK.out),Za K2.out⟩
     ·have tk:((ks.length:Int)==0)=false:=by rw [beq_eq_false_iff_ne];omega
      go_enter Tryz.func15,Tryz.ntmps15
      go_upto_region 1 with fail
      generalize (w.alloc (.cells #[.int .i64 6,.slice A1 ws.length c1,.slice (some ad2) nums.length c2,.slice A3 ks.length c3,.int .i64 ps] 29))=w1 at *
      go_wp2_with (first
       | (go_at_call 16;(with_reducible refine (WF.out w1 (Za K1.out)).mono ?_);rintro e2 w2 ⟨rfl,hb2⟩;have K2:=Lib.hid (STB.out _ _ hb2 K1.out);obtain ⟨⟨k20,k21,k22,k23,k24⟩,_⟩:=id K2.out;have y2:=NC.out w2 (Za K2.out);clear hb2))
      go_ret
      exact ⟨Zj,Za K2.out⟩
    ·have tz:2<y:=by omega
     go_enter Tryz.func15,Tryz.ntmps15
     go_upto_region 1 with fail
     generalize (w.alloc (.cells #[.int .i64 6,.slice A1 ws.length c1,.slice (some ad2) nums.length c2,.slice A3 ks.length c3,.int .i64 ps] 29))=w1 at *
     go_wp2_with (first
      | (go_at_call 16;(with_reducible refine (WF.out w1 (Za K1.out)).mono ?_);rintro e2 w2 ⟨rfl,hb2⟩;have K2:=Lib.hid (STB.out _ _ hb2 K1.out);obtain ⟨⟨k20,k21,k22,k23,k24⟩,_⟩:=id K2.out;have y2:=NC.out w2 (Za K2.out);clear hb2))
     go_ret
     exact ⟨Zj,Za K2.out⟩
   ·have ty:y<0:=by omega
    go_enter Tryz.func15,Tryz.ntmps15
    go_upto_region 1 with fail
    generalize (w.alloc (.cells #[.int .i64 6,.slice A1 ws.length c1,.slice (some ad2) nums.length c2,.slice A3 ks.length c3,.int .i64 ps] 29))=w1 at *
    go_wp2_with (first
     | (go_at_call 16;(with_reducible refine (WF.out w1 (Za K1.out)).mono ?_);rintro e2 w2 ⟨rfl,hb2⟩;have K2:=Lib.hid (STB.out _ _ hb2 K1.out);obtain ⟨⟨k20,k21,k22,k23,k24⟩,_⟩:=id K2.out;have y2:=NC.out w2 (Za K2.out);clear hb2))
    go_ret
    exact ⟨Zj,Za K2.out⟩
  ·have tn:((nums.length:Int)==1)=false:=by rw [beq_eq_false_iff_ne];omega
   go_enter Tryz.func15,Tryz.ntmps15
   go_upto_region 1 with fail
   generalize (w.alloc (.cells #[.int .i64 6,.slice A1 ws.length c1,.slice A2 nums.length c2,.slice A3 ks.length c3,.int .i64 ps] 29))=w1 at *
   go_wp2_with (first
    | (go_at_call 16;(with_reducible refine (WF.out w1 (Za K1.out)).mono ?_);rintro e2 w2 ⟨rfl,hb2⟩;have K2:=Lib.hid (STB.out _ _ hb2 K1.out);obtain ⟨⟨k20,k21,k22,k23,k24⟩,_⟩:=id K2.out;clear hb2))
   go_ret
   exact ⟨Zj,Za K2.out⟩
end
end Go.Proofs.YtenbomphkihmlaaGreatDoor
