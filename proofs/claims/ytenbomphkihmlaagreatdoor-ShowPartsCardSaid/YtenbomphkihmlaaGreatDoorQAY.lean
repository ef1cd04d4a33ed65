import Derived.Test.YtenbomphkihmlaaGreatDoorQAT
set_option maxRecDepth 100000
set_option maxHeartbeats 8000000
namespace Go.Proofs.YtenbomphkihmlaaGreatDoor
section
open Go.RowKit
theorem ZfL (w:World) (v:Value) (ns:List Nd) (va vb vc:Value) (ws:List (List UInt8)) (nums ks:List Int) (ps:Int) (hN:Zf w v ns) (hx:Zv w ((va,vb,vc),⟨7,ws,nums,ks,ps⟩)) (hk:Zz ks ns.length) :
  Calls Tryz.prog 20 #[v,ndV ((va,vb,vc),⟨7,ws,nums,ks,ps⟩)] w fun e w'=>OkB (Zw ns ⟨7,ws,nums,ks,ps⟩=true) e/\Below w.heap.size w w':=by
 obtain ⟨h1,h2,h3⟩:=id hx
 dsimp only at h1 h2 h3
 have WR:=Lib.hid (fun (wr:World) (hb:Below w.heap.size w wr) (a b:Int)=>ZN wr _ a b (hx.below hb))
 have NO0:=Lib.hid (fun (wr:World) (hb:Below w.heap.size w wr)=>ZU wr _ (hx.below hb))
 have KD0:=Lib.hid (fun (wr:World) (hb:Below w.heap.size w wr) (i:Nat) (hi:i<ks.length)=>Zaa wr v ns _ i (hN.below hb) (hx.below hb) hk hi)
 have BL0:=Lib.hid (fun (wr:World) (hb:Below w.heap.size w wr) (f:Nat) (a b:Int) (hf:f<=ks.length) (hf1:f<=1)=>ZF wr v ns _ f a b (hN.below hb) (hx.below hb) hk hf hf1)
 have FR0:=Lib.hid (fun (hl:nums.length=3) (wr:World) (hb:Below w.heap.size w wr)=>ZT wr _ (hx.below hb) hl)
 obtain ⟨A1,c1,rfl,_⟩:=h1
 obtain ⟨A2,c2,rfl,_,_,R2'⟩:=h2
 have KL:=Lib.hid h3.len
 obtain ⟨A3,c3,rfl,_⟩:=h3
 have R2:=Lib.hid R2'
 unfold ndV at WR NO0 KD0 BL0 FR0 ⊢
 dsimp only at WR NO0 KD0 BL0 FR0 ⊢
 have STB:=Lib.hid (show Stb (fun w'=>(w'.cell? ⟨w.heap.size,0,none⟩=some (.int .i64 7)/\w'.cell? ⟨w.heap.size,1,none⟩=some (.slice A1 ws.length c1)/\w'.cell? ⟨w.heap.size,2,none⟩=some (.slice A2 nums.length c2)/\w'.cell? ⟨w.heap.size,3,none⟩=some (.slice A3 ks.length c3)/\w'.cell? ⟨w.heap.size,4,none⟩=some (.int .i64 ps))/\Below w.heap.size w w') from Zd (Zd (Zc _ _) (Zd (Zc _ _) (Zd (Zc _ _) (Zd (Zc _ _) (Zc _ _))))) (Zn w))
 have HS1:((w.alloc (.cells #[.int .i64 7,.slice A1 ws.length c1,.slice A2 nums.length c2,.slice A3 ks.length c3,.int .i64 ps] 29)).cell? ⟨w.heap.size,0,none⟩=some (.int .i64 7)/\(w.alloc (.cells #[.int .i64 7,.slice A1 ws.length c1,.slice A2 nums.length c2,.slice A3 ks.length c3,.int .i64 ps] 29)).cell? ⟨w.heap.size,1,none⟩=some (.slice A1 ws.length c1)/\(w.alloc (.cells #[.int .i64 7,.slice A1 ws.length c1,.slice A2 nums.length c2,.slice A3 ks.length c3,.int .i64 ps] 29)).cell? ⟨w.heap.size,2,none⟩=some (.slice A2 nums.length c2)/\(w.alloc (.cells #[.int .i64 7,.slice A1 ws.length c1,.slice A2 nums.length c2,.slice A3 ks.length c3,.int .i64 ps] 29)).cell? ⟨w.heap.size,3,none⟩=some (.slice A3 ks.length c3)/\(w.alloc (.cells #[.int .i64 7,.slice A1 ws.length c1,.slice A2 nums.length c2,.slice A3 ks.length c3,.int .i64 ps] 29)).cell? ⟨w.heap.size,4,none⟩=some (.int .i64 ps))/\Below w.heap.size w (w.alloc (.cells #[.int .i64 7,.slice A1 ws.length c1,.slice A2 nums.length c2,.slice A3 ks.length c3,.int .i64 ps] 29)):=⟨⟨(Blk.start w _ _).cell 0,(Blk.start w _ _).cell 1,(Blk.start w _ _).cell 2,(Blk.start w _ _).cell 3,(Blk.start w _ _).cell 4⟩,Zb w _⟩
 have K1:=Lib.hid HS1
 obtain ⟨⟨g0,g1,g2,g3,g4⟩,_⟩:=HS1
 clear R2' hx hN hk
 go_enter Tryz.func20,Tryz.ntmps20
 go_upto_region 1 with fail
 generalize (w.alloc (.cells #[.int .i64 7,.slice A1 ws.length c1,.slice A2 nums.length c2,.slice A3 ks.length c3,.int .i64 ps] 29))=w1 at *
 go_wp2_with fail
 go_loopg [6] (ks.length) (fun gk vi wr=>∃ i:Nat,vi=.int .i64 i/\i<=ks.length/\gk=ks.length-i/\ZQ ns (ks.take i) Zbk=true/\(wr.cell? ⟨w.heap.size,0,none⟩=some (.int .i64 7)/\wr.cell? ⟨w.heap.size,1,none⟩=some (.slice A1 ws.length c1)/\wr.cell? ⟨w.heap.size,2,none⟩=some (.slice A2 nums.length c2)/\wr.cell? ⟨w.heap.size,3,none⟩=some (.slice A3 ks.length c3)/\wr.cell? ⟨w.heap.size,4,none⟩=some (.int .i64 ps))/\Below w.heap.size w wr)
 case atStart=>exact ⟨0,rfl,Nat.zero_le _,rfl,rfl,K1.out⟩
 case round=>
  clear K1 g0 g1 g2 g3 g4
  obtain ⟨i,rfl,hi,hgk,hall,hS⟩:=hrel
  have K1:=Lib.hid hS
  obtain ⟨⟨g0,g1,g2,g3,g4⟩,_⟩:=hS
  by_cases hin:i=ks.length
  ·have e:ks.take i=ks:=by rw [hin];exact List.take_length
   rw [e] at hall
   have HA:=Lib.hid hall
   have ti:¬ (i:Int)<(ks.length:Int):=by omega
   clear e hall hgk
   have NF:=Lib.hid (show ∀ wr:World,Below w.heap.size w wr->Calls Tryz.prog 17 #[.agg #[.int .i64 7,.slice A1 ws.length c1,.slice A2 nums.length c2,.slice A3 ks.length c3,.int .i64 ps]] wr fun e w'=>e=.returned (.bool (ZJ ⟨7,ws,nums,ks,ps⟩))/\Below wr.heap.size wr w' from fun wr hb=>NO0.out wr hb)
   generalize hqN:ZJ ⟨7,ws,nums,ks,ps⟩=N at NF
   have QN:=Lib.hid hqN
   clear hqN
   cases N
   ·go_wp2_with (first
     | (go_at_call 17;(with_reducible refine (NF.out wr (Za K1.out)).mono ?_);rintro e2 w2 ⟨rfl,hb2⟩;have K2:=Lib.hid (STB.out _ _ hb2 K1.out);obtain ⟨⟨k20,k21,k22,k23,k24⟩,_⟩:=id K2.out;clear hb2))
    go_ret
    exact ⟨Zj,Za K2.out⟩
   ·have WF:=Lib.hid (show ∀ wr:World,Below w.heap.size w wr->Calls Tryz.prog 16 #[.agg #[.int .i64 7,.slice A1 ws.length c1,.slice A2 nums.length c2,.slice A3 ks.length c3,.int .i64 ps],.int .i64 0,.int .i64 0] wr fun e w'=>e=.returned (.bool (Zt ⟨7,ws,nums,ks,ps⟩ 0 0))/\Below wr.heap.size wr w' from fun wr hb=>WR.out wr hb 0 0)
    generalize hqW:Zt ⟨7,ws,nums,ks,ps⟩ 0 0=W at WF
    have QW:=Lib.hid hqW
    clear hqW
    cases W
    ·go_wp2_with (first
      | (go_at_call 17;(with_reducible refine (NF.out wr (Za K1.out)).mono ?_);rintro e2 w2 ⟨rfl,hb2⟩;have K2:=Lib.hid (STB.out _ _ hb2 K1.out);obtain ⟨⟨k20,k21,k22,k23,k24⟩,_⟩:=id K2.out;clear hb2)
      | (go_at_call 16;(with_reducible refine (WF.out w2 (Za K2.out)).mono ?_);rintro e3 w3 ⟨rfl,hb3⟩;have K3:=Lib.hid (STB.out _ _ hb3 K2.out);obtain ⟨⟨k30,k31,k32,k33,k34⟩,_⟩:=id K3.out;clear hb3))
     go_ret
     exact ⟨Zj,Za K3.out⟩
    ·go_wp2_with (first
      | (go_at_call 17;(with_reducible refine (NF.out wr (Za K1.out)).mono ?_);rintro e2 w2 ⟨rfl,hb2⟩;have K2:=Lib.hid (STB.out _ _ hb2 K1.out);obtain ⟨⟨k20,k21,k22,k23,k24⟩,_⟩:=id K2.out;clear hb2)
      | (go_at_call 16;(with_reducible refine (WF.out w2 (Za K2.out)).mono ?_);rintro e3 w3 ⟨rfl,hb3⟩;have K3:=Lib.hid (STB.out _ _ hb3 K2.out);obtain ⟨⟨k30,k31,k32,k33,k34⟩,_⟩:=id K3.out;clear hb3))
     go_ret
     exact ⟨Zae (ZiD HA.out QN.out QW.out),Za K3.out⟩
  ·have hlt:i<ks.length:=by omega
   obtain ⟨z,hz⟩:∃ z,ks[i]? = some z:=⟨_,List.getElem?_eq_getElem hlt⟩
   have nxt:=ZaZ (f:=fun k=>Zbk (Zq ns k)) hz hall
   have kk:kdR ns ⟨7,ws,nums,ks,ps⟩ i=Zq ns z:=by unfold kdR;dsimp only;rw [ZaQ hz]
   have KF:=Lib.hid (fun (wz:World) (hz:Below w.heap.size w wz)=>KD0.out wz hz i hlt)
   rw [kk] at KF
   have ti:(i:Int)<(ks.length:Int):=by omega
   have ti2:(0:Int)<=(i:Int):=by omega
   have wk:IntKind.i64.wrap ((i:Int)+1)=(i:Int)+1:=IntWalk.i64_in _ (by have:=KL.out;unfold maxLen at this;omega)
   have HI:=Lib.hid (And.intro hlt (And.intro hgk nxt))
   clear hgk nxt hz hall kk hin hlt hi
   generalize Zq ns z=Z at *
   have SF:=Lib.hid (fun wr=>Ziz wr Z)
   generalize hq:Zbk Z=X at SF
   have TZ:=Lib.hid hq
   clear hq
   cases X
   ·go_wp2_with (first
     | (go_at_call 19;(with_reducible refine (KF.out wr (Za K1.out)).mono ?_);rintro e2 w2 ⟨rfl,hb2⟩;have K2:=Lib.hid (STB.out _ _ hb2 K1.out);obtain ⟨⟨k20,k21,k22,k23,k24⟩,_⟩:=id K2.out;clear hb2)
     | (go_at_call 35;(with_reducible refine (SF.out w2).mono ?_);rintro _ _ ⟨rfl,rfl⟩))
    go_ret
    exact ⟨Zj,Za K2.out⟩
   ·go_wp2_with (first
     | (go_at_call 19;(with_reducible refine (KF.out wr (Za K1.out)).mono ?_);rintro e2 w2 ⟨rfl,hb2⟩;have K2:=Lib.hid (STB.out _ _ hb2 K1.out);obtain ⟨⟨k20,k21,k22,k23,k24⟩,_⟩:=id K2.out;clear hb2)
     | (go_at_call 35;(with_reducible refine (SF.out w2).mono ?_);rintro _ _ ⟨rfl,rfl⟩))
    go_roundg (ks.length-(i+1))
    case measure=>have:=HI.out;omega
    case rel=>exact ⟨i+1,by push_cast;rfl,by have:=HI.out;omega,rfl,HI.out.2.2.trans (TZ.out),K2.out⟩
theorem Zil (w:World) (v:Value) (ns:List Nd) (va vb vc:Value) (ws:List (List UInt8)) (nums ks:List Int) (ps:Int) (hN:Zf w v ns) (hx:Zv w ((va,vb,vc),⟨11,ws,nums,ks,ps⟩)) (hk:Zz ks ns.length) :
  Calls Tryz.prog 20 #[v,ndV ((va,vb,vc),⟨11,ws,nums,ks,ps⟩)] w fun e w'=>OkB (Zw ns ⟨11,ws,nums,ks,ps⟩=true) e/\Below w.heap.size w w':=by
 obtain ⟨h1,h2,h3⟩:=id hx
 dsimp only at h1 h2 h3
 have WR:=Lib.hid (fun (wr:World) (hb:Below w.heap.size w wr) (a b:Int)=>ZN wr _ a b (hx.below hb))
 have NO0:=Lib.hid (fun (wr:World) (hb:Below w.heap.size w wr)=>ZU wr _ (hx.below hb))
 have KD0:=Lib.hid (fun (wr:World) (hb:Below w.heap.size w wr) (i:Nat) (hi:i<ks.length)=>Zaa wr v ns _ i (hN.below hb) (hx.below hb) hk hi)
 have BL0:=Lib.hid (fun (wr:World) (hb:Below w.heap.size w wr) (f:Nat) (a b:Int) (hf:f<=ks.length) (hf1:f<=1)=>ZF wr v ns _ f a b (hN.below hb) (hx.below hb) hk hf hf1)
 have FR0:=Lib.hid (fun (hl:nums.length=3) (wr:World) (hb:Below w.heap.size w wr)=>ZT wr _ (hx.below hb) hl)
 obtain ⟨A1,c1,rfl,_⟩:=h1
 obtain ⟨A2,c2,rfl,_,_,R2'⟩:=h2
 have KL:=Lib.hid h3.len
 obtain ⟨A3,c3,rfl,_⟩:=h3
 have R2:=Lib.hid R2'
 unfold ndV at WR NO0 KD0 BL0 FR0 ⊢
 dsimp only at WR NO0 KD0 BL0 FR0 ⊢
 have STB:=Lib.hid (show Stb (fun w'=>(w'.cell? ⟨w.heap.size,0,none⟩=some (.int .i64 11)/\w'.cell? ⟨w.heap.size,1,none⟩=some (.slice A1 ws.length c1)/\w'.cell? ⟨w.heap.size,2,none⟩=some (.slice A2 nums.length c2)/\w'.cell? ⟨w.heap.size,3,none⟩=some (.slice A3 ks.length c3)/\w'.cell? ⟨w.heap.size,4,none⟩=some (.int .i64 ps))/\Below w.heap.size w w') from Zd (Zd (Zc _ _) (Zd (Zc _ _) (Zd (Zc _ _) (Zd (Zc _ _) (Zc _ _))))) (Zn w))
 have HS1:((w.alloc (.cells #[.int .i64 11,.slice A1 ws.length c1,.slice A2 nums.length c2,.slice A3 ks.length c3,.int .i64 ps] 29)).cell? ⟨w.heap.size,0,none⟩=some (.int .i64 11)/\(w.alloc (.cells #[.int .i64 11,.slice A1 ws.length c1,.slice A2 nums.length c2,.slice A3 ks.length c3,.int .i64 ps] 29)).cell? ⟨w.heap.size,1,none⟩=some (.slice A1 ws.length c1)/\(w.alloc (.cells #[.int .i64 11,.slice A1 ws.length c1,.slice A2 nums.length c2,.slice A3 ks.length c3,.int .i64 ps] 29)).cell? ⟨w.heap.size,2,none⟩=some (.slice A2 nums.length c2)/\(w.alloc (.cells #[.int .i64 11,.slice A1 ws.length c1,.slice A2 nums.length c2,.slice A3 ks.length c3,.int .i64 ps] 29)).cell? ⟨w.heap.size,3,none⟩=some (.slice A3 ks.length c3)/\(w.alloc (.cells #[.int .i64 11,.slice A1 ws.length c1,.slice A2 nums.length c2,.slice A3 ks.length c3,.int .i64 ps] 29)).cell? ⟨w.heap.size,4,none⟩=some (.int .i64 ps))/\Below w.heap.size w (w.alloc (.cells #[.int .i64 11,.slice A1 ws.length c1,.slice A2 nums.length c2,.slice A3 ks.length c3,.int .i64 ps] 29)):=⟨⟨(Blk.start w _ _).cell 0,(Blk.start w _ _).cell 1,(Blk.start w _ _).cell 2,(Blk.start w _ _).cell 3,(Blk.start w _ _).cell 4⟩,Zb w _⟩
 have K1:=Lib.hid HS1
 obtain ⟨⟨g0,g1,g2,g3,g4⟩,_⟩:=HS1
 clear R2' hx hN hk
 go_enter Tryz.func20,Tryz.ntmps20
 go_upto_region 1 with fail
 generalize (w.alloc (.cells #[.int .i64 11,.slice A1 ws.length c1,.slice A2 nums.length c2,.slice A3 ks.length c3,.int .i64 ps] 29))=w1 at *
 go_wp2_with fail
 go_loopg [6] (ks.length) (fun gk vi wr=>∃ i:Nat,vi=.int .i64 i/\i<=ks.length/\gk=ks.length-i/\ZQ ns (ks.take i) (isB [12])=true/\(wr.cell? ⟨w.heap.size,0,none⟩=some (.int .i64 11)/\wr.cell? ⟨w.heap.size,1,none⟩=some (.slice A1 ws.length c1)/\wr.cell? ⟨w.heap.size,2,none⟩=some (.slice A2 nums.length c2)/\wr.cell? ⟨w.heap.size,3,none⟩=some (.slice A3 ks.length c3)/\wr.cell? ⟨w.heap.size,4,none⟩=some (.int .i64 ps))/\Below w.heap.size w wr)
 case atStart=>exact ⟨0,rfl,Nat.zero_le _,rfl,rfl,K1.out⟩
 case round=>
  clear K1 g0 g1 g2 g3 g4
  obtain ⟨i,rfl,hi,hgk,hall,hS⟩:=hrel
  have K1:=Lib.hid hS
  obtain ⟨⟨g0,g1,g2,g3,g4⟩,_⟩:=hS
  by_cases hin:i=ks.length
  ·have e:ks.take i=ks:=by rw [hin];exact List.take_length
   rw [e] at hall
   have HA:=Lib.hid hall
   have ti:¬ (i:Int)<(ks.length:Int):=by omega
   clear e hall hgk
   have NF:=Lib.hid (show ∀ wr:World,Below w.heap.size w wr->Calls Tryz.prog 17 #[.agg #[.int .i64 11,.slice A1 ws.length c1,.slice A2 nums.length c2,.slice A3 ks.length c3,.int .i64 ps]] wr fun e w'=>e=.returned (.bool (ZJ ⟨11,ws,nums,ks,ps⟩))/\Below wr.heap.size wr w' from fun wr hb=>NO0.out wr hb)
   generalize hqN:ZJ ⟨11,ws,nums,ks,ps⟩=N at NF
   have QN:=Lib.hid hqN
   clear hqN
   cases N
   ·go_wp2_with (first
     | (go_at_call 17;(with_reducible refine (NF.out wr (Za K1.out)).mono ?_);rintro e2 w2 ⟨rfl,hb2⟩;have K2:=Lib.hid (STB.out _ _ hb2 K1.out);obtain ⟨⟨k20,k21,k22,k23,k24⟩,_⟩:=id K2.out;clear hb2))
    go_ret
    exact ⟨Zj,Za K2.out⟩
   ·have WF:=Lib.hid (show ∀ wr:World,Below w.heap.size w wr->Calls Tryz.prog 16 #[.agg #[.int .i64 11,.slice A1 ws.length c1,.slice A2 nums.length c2,.slice A3 ks.length c3,.int .i64 ps],.int .i64 2,.int .i64 2] wr fun e w'=>e=.returned (.bool (Zt ⟨11,ws,nums,ks,ps⟩ 2 2))/\Below wr.heap.size wr w' from fun wr hb=>WR.out wr hb 2 2)
    generalize hqW:Zt ⟨11,ws,nums,ks,ps⟩ 2 2=W at WF
    have QW:=Lib.hid hqW
    clear hqW
    cases W
    ·go_wp2_with (first
      | (go_at_call 17;(with_reducible refine (NF.out wr (Za K1.out)).mono ?_);rintro e2 w2 ⟨rfl,hb2⟩;have K2:=Lib.hid (STB.out _ _ hb2 K1.out);obtain ⟨⟨k20,k21,k22,k23,k24⟩,_⟩:=id K2.out;clear hb2)
      | (go_at_call 16;(with_reducible refine (WF.out w2 (Za K2.out)).mono ?_);rintro e3 w3 ⟨rfl,hb3⟩;have K3:=Lib.hid (STB.out _ _ hb3 K2.out);obtain ⟨⟨k30,k31,k32,k33,k34⟩,_⟩:=id K3.out;clear hb3))
     go_ret
     exact ⟨Zj,Za K3.out⟩
    ·go_wp2_with (first
      | (go_at_call 17;(with_reducible refine (NF.out wr (Za K1.out)).mono ?_);rintro e2 w2 ⟨rfl,hb2⟩;have K2:=Lib.hid (STB.out _ _ hb2 K1.out);obtain ⟨⟨k20,k21,k22,k23,k24⟩,_⟩:=id K2.out;clear hb2)
      | (go_at_call 16;(with_reducible refine (WF.out w2 (Za K2.out)).mono ?_);rintro e3 w3 ⟨rfl,hb3⟩;have K3:=Lib.hid (STB.out _ _ hb3 K2.out);obtain ⟨⟨k30,k31,k32,k33,k34⟩,_⟩:=id K3.out;clear hb3))
     go_ret
     exact ⟨Zae (Zkq HA.out QN.out QW.out),Za K3.out⟩
  ·have hlt:i<ks.length:=by omega
   obtain ⟨z,hz⟩:∃ z,ks[i]? = some z:=⟨_,List.getElem?_eq_getElem hlt⟩
   have nxt:=ZaZ (f:=fun k=>(isB [12]) (Zq ns k)) hz hall
   have kk:kdR ns ⟨11,ws,nums,ks,ps⟩ i=Zq ns z:=by unfold kdR;dsimp only;rw [ZaQ hz]
   have KF:=Lib.hid (fun (wz:World) (hz:Below w.heap.size w wz)=>KD0.out wz hz i hlt)
   rw [kk] at KF
   have ti:(i:Int)<(ks.length:Int):=by omega
   have ti2:(0:Int)<=(i:Int):=by omega
   have wk:IntKind.i64.wrap ((i:Int)+1)=(i:Int)+1:=IntWalk.i64_in _ (by have:=KL.out;unfold maxLen at this;omega)
   have HI:=Lib.hid (And.intro hlt (And.intro hgk nxt))
   clear hgk nxt hz hall kk hin hlt hi
   generalize Zq ns z=Z at *
   cases z12:(Z==12)
   ·have u12:(Z != 12)=true:=by rw [bne,z12];rfl
    go_wp2_with (first
     | (go_at_call 19;(with_reducible refine (KF.out wr (Za K1.out)).mono ?_);rintro e2 w2 ⟨rfl,hb2⟩;have K2:=Lib.hid (STB.out _ _ hb2 K1.out);obtain ⟨⟨k20,k21,k22,k23,k24⟩,_⟩:=id K2.out;clear hb2))
    go_ret
    exact ⟨Zj,Za K2.out⟩
   ·have u12:(Z != 12)=false:=by rw [bne,z12];rfl
    have TZ:=Lib.hid (show isB [12] Z=true from by unfold isB;rw [List.contains_cons,z12];rfl)
    go_wp2_with (first
     | (go_at_call 19;(with_reducible refine (KF.out wr (Za K1.out)).mono ?_);rintro e2 w2 ⟨rfl,hb2⟩;have K2:=Lib.hid (STB.out _ _ hb2 K1.out);obtain ⟨⟨k20,k21,k22,k23,k24⟩,_⟩:=id K2.out;clear hb2))
    go_roundg (ks.length-(i+1))
    case measure=>have:=HI.out;omega
    case rel=>exact ⟨i+1,by push_cast;rfl,by have:=HI.out;omega,rfl,HI.out.2.2.trans (TZ.out),K2.out⟩
end
end Go.Proofs.YtenbomphkihmlaaGreatDoor
