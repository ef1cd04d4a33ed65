import Derived.Test.YtkgkmdhpnhmcpaaGreatDoorQBQ
import Derived.Test.YtkgkmdhpnhmcpaaGreatDoorQBR
set_option maxRecDepth 100000
set_option maxHeartbeats 8000000
namespace Go.Proofs.YtkgkmdhpnhmcpaaGreatDoor
section
open Go.RowKit
theorem ZeQ (w:World) (v:Value) (ns:List Nd) (va vb vc:Value) (ws:List (List UInt8)) (nums ks:List Int) (ps:Int) (hN:Zn w v ns) (hx:ZJ w ((va,vb,vc),⟨13,ws,nums,ks,ps⟩)) (hk:ZA ks ns.length) :
  Calls Tryz.prog 72 #[v,ndV ((va,vb,vc),⟨13,ws,nums,ks,ps⟩)] w fun e w'=>e=.returned (.bool (Zm ns ⟨13,ws,nums,ks,ps⟩))/\Below w.heap.size w w':=by
 rw [show Zm ns ⟨13,ws,nums,ks,ps⟩=(Zj ⟨13,ws,nums,ks,ps⟩ 2 3&&Zdr ns ⟨13,ws,nums,ks,ps⟩) from rfl]
 obtain ⟨h1,h2,h3⟩:=id hx
 dsimp only at h1 h2 h3
 have AR:=zh (fun (wr:World) (hb:Below w.heap.size w wr) (vf:Value) (ts:List Tst) (hF:ZU wr vf ts)=>ZC wr v vc vf ns ks ts (hN.below hb) (h3.below hb) hF hk)
 have ALL:=zh (fun (wr:World) (hb:Below w.heap.size w wr) (u:Value) (t:Tst) (hu:Zp wr t u)=>ZB wr v vc u ns ks t (hN.below hb) (h3.below hb) hu hk)
 have HS0:=zh (fun (wr:World) (hb:Below w.heap.size w wr) (a b:Nat)=>ZG wr _ a b (hx.below hb))
 have PT:=zh (fun (hl:nums.length=3) (wr:World) (hb:Below w.heap.size w wr)=>Zid wr v ns _ _ _ 13 ws nums ks ps (hN.below hb) (hx.below hb) hk hl)
 obtain ⟨A1,c1,rfl,_⟩:=h1
 obtain ⟨A2,c2,rfl,_,_,R2'⟩:=h2
 have R2:=zh R2'
 clear R2'
 obtain ⟨A3,c3,rfl,_⟩:=h3
 unfold ndV at HS0 PT ⊢
 dsimp only at HS0 PT ⊢
 clear hx hN hk
 have STB:=zh (show Stb (fun w'=>(w'.cell? ⟨w.heap.size,0,none⟩=some (.int .i64 13)/\w'.cell? ⟨w.heap.size,1,none⟩=some (.slice A1 ws.length c1)/\w'.cell? ⟨w.heap.size,2,none⟩=some (.slice A2 nums.length c2)/\w'.cell? ⟨w.heap.size,3,none⟩=some (.slice A3 ks.length c3)/\w'.cell? ⟨w.heap.size,4,none⟩=some (.int .i64 ps))/\Below w.heap.size w w') from Zc (Zc (Zb _ _) (Zc (Zb _ _) (Zc (Zb _ _) (Zc (Zb _ _) (Zb _ _))))) (Zq w))
 go_enter Tryz.func72,Tryz.ntmps72
 go_upto_region 1 with fail
 have HS1:((w.alloc (.cells #[.int .i64 13,.slice A1 ws.length c1,.slice A2 nums.length c2,.slice A3 ks.length c3,.int .i64 ps] 27)).cell? ⟨w.heap.size,0,none⟩=some (.int .i64 13)/\(w.alloc (.cells #[.int .i64 13,.slice A1 ws.length c1,.slice A2 nums.length c2,.slice A3 ks.length c3,.int .i64 ps] 27)).cell? ⟨w.heap.size,1,none⟩=some (.slice A1 ws.length c1)/\(w.alloc (.cells #[.int .i64 13,.slice A1 ws.length c1,.slice A2 nums.length c2,.slice A3 ks.length c3,.int .i64 ps] 27)).cell? ⟨w.heap.size,2,none⟩=some (.slice A2 nums.length c2)/\(w.alloc (.cells #[.int .i64 13,.slice A1 ws.length c1,.slice A2 nums.length c2,.slice A3 ks.length c3,.int .i64 ps] 27)).cell? ⟨w.heap.size,3,none⟩=some (.slice A3 ks.length c3)/\(w.alloc (.cells #[.int .i64 13,.slice A1 ws.length c1,.slice A2 nums.length c2,.slice A3 ks.length c3,.int .i64 ps] 27)).cell? ⟨w.heap.size,4,none⟩=some (.int .i64 ps))/\Below w.heap.size w (w.alloc (.cells #[.int .i64 13,.slice A1 ws.length c1,.slice A2 nums.length c2,.slice A3 ks.length c3,.int .i64 ps] 27)):=⟨⟨(Blk.start w _ _).cell 0,(Blk.start w _ _).cell 1,(Blk.start w _ _).cell 2,(Blk.start w _ _).cell 3,(Blk.start w _ _).cell 4⟩,below_alloc1 w _⟩
 generalize (w.alloc (.cells #[.int .i64 13,.slice A1 ws.length c1,.slice A2 nums.length c2,.slice A3 ks.length c3,.int .i64 ps] 27))=w1 at *
 have HS:(w1.drew.cell? ⟨w.heap.size,0,none⟩=some (.int .i64 13)/\w1.drew.cell? ⟨w.heap.size,1,none⟩=some (.slice A1 ws.length c1)/\w1.drew.cell? ⟨w.heap.size,2,none⟩=some (.slice A2 nums.length c2)/\w1.drew.cell? ⟨w.heap.size,3,none⟩=some (.slice A3 ks.length c3)/\w1.drew.cell? ⟨w.heap.size,4,none⟩=some (.int .i64 ps))/\Below w.heap.size w w1.drew:=⟨HS1.1,HS1.2.drew⟩
 clear HS1
 refine wp_region_noPanic ?_
 refine wp_region_held_drew (S:=(fun w'=>(w'.cell? ⟨w.heap.size,0,none⟩=some (.int .i64 13)/\w'.cell? ⟨w.heap.size,1,none⟩=some (.slice A1 ws.length c1)/\w'.cell? ⟨w.heap.size,2,none⟩=some (.slice A2 nums.length c2)/\w'.cell? ⟨w.heap.size,3,none⟩=some (.slice A3 ks.length c3)/\w'.cell? ⟨w.heap.size,4,none⟩=some (.int .i64 ps))/\Below w.heap.size w w')) (by kernel_rfl) HS (fun hHeld=>?_)
 clear HS
 refine tk 0 rfl ?_
 refine tk 1 rfl ?_
 refine tk 2 rfl ?_
 (try simp only [cl,Act.put])
 refine rd 3 rfl fun K hK=>?_
 go_simp
 refine hK.out _ _ ?_ (fun hH2=>?_)
 ·exact STB.out _ _ (below_alloc1 _ _) (by with_reducible assumption)
 clear hK K hHeld;have hHeld:=hH2;clear hH2
 (try simp only [cl,Act.put])
 refine rd 4 rfl fun K hK=>?_
 go_simp
 (go_at_call 94;(with_reducible refine (Zf _ _ _).mono ?_);rintro e5 w5 ⟨⟨u,rfl,hT⟩,hb⟩;obtain ⟨bu,Au,cu,rfl,_,_⟩:=id hT)
 go_wp2_with fail
 refine hK.out _ _ (STB.out _ _ hb (by with_reducible assumption)) (fun hH2=>?_)
 clear hK K hHeld hb;have hHeld:=hH2;clear hH2
 (try simp only [cl,Act.put])
 refine tk 5 rfl ?_
 refine tk 6 rfl ?_
 (try simp only [cl,Act.put])
 refine wpAnyH_done (by kernel_rfl) ?_ _
 refine NoPanic.normal ?_
 have T3:=zh hT
 have H3:=zh (Za hHeld)
 have HH:=zh hHeld
 clear hT
 obtain ⟨⟨g0,g1,g2,g3,g4⟩,_⟩:=hHeld
 have HA1:=zh (show ∀ wr:World,Below w.heap.size w wr->Calls Tryz.prog 95 #[.agg #[.int .i64 13,.slice A1 ws.length c1,.slice A2 nums.length c2,.slice A3 ks.length c3,.int .i64 ps],.int .i64 2,.int .i64 3] wr fun e w'=>e=.returned (.bool (Zj ⟨13,ws,nums,ks,ps⟩ 2 3))/\Below wr.heap.size wr w' from fun wr hb=>HS0.out wr hb 2 3)
 generalize hqH1:Zj ⟨13,ws,nums,ks,ps⟩ 2 3=H1 at HA1
 have QH1:=zh hqH1
 clear hqH1
 cases H1
 ·go_wp2_with (go_at_call 95;(with_reducible refine (HA1.out _ H3.out).mono ?_);rintro e6 w6 ⟨rfl,hb6⟩;have K6:=zh (STB.out _ _ hb6 HH.out);have B6:=zh (Za K6.out);clear hb6)
  go_ret
  exact ⟨by rw [QH1.out];rfl,B6.out⟩
 ·have PT1:=zh (PT.out (by have:=(ZbA QH1.out).2;exact this))
  go_wp2_with (first
   | (go_at_call 95;(with_reducible refine (HA1.out _ H3.out).mono ?_);rintro e6 w6 ⟨rfl,hb6⟩;have K6:=zh (STB.out _ _ hb6 HH.out);have T6:=zh (T3.out.below hb6);have B6:=zh (Za K6.out);obtain ⟨⟨k60,k61,k62,k63,k64⟩,_⟩:=id K6.out;skip;clear hb6)
   | (go_at_call 101;(with_reducible refine (PT1.out _ B6.out).mono ?_);rintro e7 w7 ⟨rfl,hb7⟩;have B7:=zh (B6.out.trans (hb7.mono B6.out.size));clear hb7))
  go_ret
  exact ⟨by rw [QH1.out];rfl,B7.out⟩
theorem ZeO (w:World) (v:Value) (ns:List Nd) (va vb vc:Value) (ws:List (List UInt8)) (nums ks:List Int) (ps:Int) (hN:Zn w v ns) (hx:ZJ w ((va,vb,vc),⟨5,ws,nums,ks,ps⟩)) (hk:ZA ks ns.length) :
  Calls Tryz.prog 72 #[v,ndV ((va,vb,vc),⟨5,ws,nums,ks,ps⟩)] w fun e w'=>e=.returned (.bool (Zm ns ⟨5,ws,nums,ks,ps⟩))/\Below w.heap.size w w':=by
 rw [show Zm ns ⟨5,ws,nums,ks,ps⟩=(Zj ⟨5,ws,nums,ks,ps⟩ 1 0&&Zk ns ks []||Zj ⟨5,ws,nums,ks,ps⟩ 2 3&&Zbq ns ⟨5,ws,nums,ks,ps⟩) from rfl]
 obtain ⟨h1,h2,h3⟩:=id hx
 dsimp only at h1 h2 h3
 have AR:=zh (fun (wr:World) (hb:Below w.heap.size w wr) (vf:Value) (ts:List Tst) (hF:ZU wr vf ts)=>ZC wr v vc vf ns ks ts (hN.below hb) (h3.below hb) hF hk)
 have ALL:=zh (fun (wr:World) (hb:Below w.heap.size w wr) (u:Value) (t:Tst) (hu:Zp wr t u)=>ZB wr v vc u ns ks t (hN.below hb) (h3.below hb) hu hk)
 have HS0:=zh (fun (wr:World) (hb:Below w.heap.size w wr) (a b:Nat)=>ZG wr _ a b (hx.below hb))
 have PT:=zh (fun (hl:nums.length=3) (wr:World) (hb:Below w.heap.size w wr)=>Zex wr v ns _ _ _ 5 ws nums ks ps (hN.below hb) (hx.below hb) hk hl)
 obtain ⟨A1,c1,rfl,_⟩:=h1
 obtain ⟨A2,c2,rfl,_,_,R2'⟩:=h2
 have R2:=zh R2'
 clear R2'
 obtain ⟨A3,c3,rfl,_⟩:=h3
 unfold ndV at HS0 PT ⊢
 dsimp only at HS0 PT ⊢
 clear hx hN hk
 have STB:=zh (show Stb (fun w'=>(w'.cell? ⟨w.heap.size,0,none⟩=some (.int .i64 5)/\w'.cell? ⟨w.heap.size,1,none⟩=some (.slice A1 ws.length c1)/\w'.cell? ⟨w.heap.size,2,none⟩=some (.slice A2 nums.length c2)/\w'.cell? ⟨w.heap.size,3,none⟩=some (.slice A3 ks.length c3)/\w'.cell? ⟨w.heap.size,4,none⟩=some (.int .i64 ps))/\Below w.heap.size w w') from Zc (Zc (Zb _ _) (Zc (Zb _ _) (Zc (Zb _ _) (Zc (Zb _ _) (Zb _ _))))) (Zq w))
 go_enter Tryz.func72,Tryz.ntmps72
 go_upto_region 1 with fail
 have HS1:((w.alloc (.cells #[.int .i64 5,.slice A1 ws.length c1,.slice A2 nums.length c2,.slice A3 ks.length c3,.int .i64 ps] 27)).cell? ⟨w.heap.size,0,none⟩=some (.int .i64 5)/\(w.alloc (.cells #[.int .i64 5,.slice A1 ws.length c1,.slice A2 nums.length c2,.slice A3 ks.length c3,.int .i64 ps] 27)).cell? ⟨w.heap.size,1,none⟩=some (.slice A1 ws.length c1)/\(w.alloc (.cells #[.int .i64 5,.slice A1 ws.length c1,.slice A2 nums.length c2,.slice A3 ks.length c3,.int .i64 ps] 27)).cell? ⟨w.heap.size,2,none⟩=some (.slice A2 nums.length c2)/\(w.alloc (.cells #[.int .i64 5,.slice A1 ws.length c1,.slice A2 nums.length c2,.slice A3 ks.length c3,.int .i64 ps] 27)).cell? ⟨w.heap.size,3,none⟩=some (.slice A3 ks.length c3)/\(w.alloc (.cells #[.int .i64 5,.slice A1 ws.length c1,.slice A2 nums.length c2,.slice A3 ks.length c3,.int .i64 ps] 27)).cell? ⟨w.heap.size,4,none⟩=some (.int .i64 ps))/\Below w.heap.size w (w.alloc (.cells #[.int .i64 5,.slice A1 ws.length c1,.slice A2 nums.length c2,.slice A3 ks.length c3,.int .i64 ps] 27)):=⟨⟨(Blk.start w _ _).cell 0,(Blk.start w _ _).cell 1,(Blk.start w _ _).cell 2,(Blk.start w _ _).cell 3,(Blk.start w _ _).cell 4⟩,below_alloc1 w _⟩
 generalize (w.alloc (.cells #[.int .i64 5,.slice A1 ws.length c1,.slice A2 nums.length c2,.slice A3 ks.length c3,.int .i64 ps] 27))=w1 at *
 have HS:(w1.drew.cell? ⟨w.heap.size,0,none⟩=some (.int .i64 5)/\w1.drew.cell? ⟨w.heap.size,1,none⟩=some (.slice A1 ws.length c1)/\w1.drew.cell? ⟨w.heap.size,2,none⟩=some (.slice A2 nums.length c2)/\w1.drew.cell? ⟨w.heap.size,3,none⟩=some (.slice A3 ks.length c3)/\w1.drew.cell? ⟨w.heap.size,4,none⟩=some (.int .i64 ps))/\Below w.heap.size w w1.drew:=⟨HS1.1,HS1.2.drew⟩
 clear HS1
 refine wp_region_noPanic ?_
 refine wp_region_held_drew (S:=(fun w'=>(w'.cell? ⟨w.heap.size,0,none⟩=some (.int .i64 5)/\w'.cell? ⟨w.heap.size,1,none⟩=some (.slice A1 ws.length c1)/\w'.cell? ⟨w.heap.size,2,none⟩=some (.slice A2 nums.length c2)/\w'.cell? ⟨w.heap.size,3,none⟩=some (.slice A3 ks.length c3)/\w'.cell? ⟨w.heap.size,4,none⟩=some (.int .i64 ps))/\Below w.heap.size w w')) (by kernel_rfl) HS (fun hHeld=>?_)
 clear HS
 refine tk 0 rfl ?_
 refine tk 1 rfl ?_
 refine tk 2 rfl ?_
 (try simp only [cl,Act.put])
 refine rd 3 rfl fun K hK=>?_
 go_simp
 refine hK.out _ _ ?_ (fun hH2=>?_)
 ·exact STB.out _ _ (below_alloc1 _ _) (by with_reducible assumption)
 clear hK K hHeld;have hHeld:=hH2;clear hH2
 (try simp only [cl,Act.put])
 refine rd 4 rfl fun K hK=>?_
 go_simp
 (go_at_call 94;(with_reducible refine (Zf _ _ _).mono ?_);rintro e5 w5 ⟨⟨u,rfl,hT⟩,hb⟩;obtain ⟨bu,Au,cu,rfl,_,_⟩:=id hT)
 go_wp2_with fail
 refine hK.out _ _ (STB.out _ _ hb (by with_reducible assumption)) (fun hH2=>?_)
 clear hK K hHeld hb;have hHeld:=hH2;clear hH2
 (try simp only [cl,Act.put])
 refine tk 5 rfl ?_
 refine tk 6 rfl ?_
 (try simp only [cl,Act.put])
 refine wpAnyH_done (by kernel_rfl) ?_ _
 refine NoPanic.normal ?_
 have T3:=zh hT
 have H3:=zh (Za hHeld)
 have HH:=zh hHeld
 clear hT
 obtain ⟨⟨g0,g1,g2,g3,g4⟩,_⟩:=hHeld
 have A1_:=zh (fun (wr:World) (B:Below w.heap.size w wr) (T:Zp wr (.is [7]) (.func (.func 129) #[] #[.pointer (some ⟨bu,0,none⟩)]))=>show Calls Tryz.prog 97 #[v,.slice A3 ks.length c3,.slice none 0 0] wr (fun e w'=>e=.returned (.bool (Zk ns ks []))/\Below wr.heap.size wr w') from AR.out wr B _ [] (Za7 wr))
 have HA1:=zh (show ∀ wr:World,Below w.heap.size w wr->Calls Tryz.prog 95 #[.agg #[.int .i64 5,.slice A1 ws.length c1,.slice A2 nums.length c2,.slice A3 ks.length c3,.int .i64 ps],.int .i64 1,.int .i64 0] wr fun e w'=>e=.returned (.bool (Zj ⟨5,ws,nums,ks,ps⟩ 1 0))/\Below wr.heap.size wr w' from fun wr hb=>HS0.out wr hb 1 0)
 have HA2:=zh (show ∀ wr:World,Below w.heap.size w wr->Calls Tryz.prog 95 #[.agg #[.int .i64 5,.slice A1 ws.length c1,.slice A2 nums.length c2,.slice A3 ks.length c3,.int .i64 ps],.int .i64 2,.int .i64 3] wr fun e w'=>e=.returned (.bool (Zj ⟨5,ws,nums,ks,ps⟩ 2 3))/\Below wr.heap.size wr w' from fun wr hb=>HS0.out wr hb 2 3)
 generalize hqH1:Zj ⟨5,ws,nums,ks,ps⟩ 1 0=H1 at HA1
 have QH1:=zh hqH1
 clear hqH1
 generalize hqH2:Zj ⟨5,ws,nums,ks,ps⟩ 2 3=H2 at HA2
 have QH2:=zh hqH2
 clear hqH2
 generalize hqR1:Zk ns ks []=R1 at A1_
 have QR1:=zh hqR1
 clear hqR1
 cases H1
 ·cases H2
  ·go_wp2_with (first
    | (go_at_call 95;(with_reducible refine (HA1.out _ H3.out).mono ?_);rintro e6 w6 ⟨rfl,hb6⟩;have K6:=zh (STB.out _ _ hb6 HH.out);have T6:=zh (T3.out.below hb6);have B6:=zh (Za K6.out);obtain ⟨⟨k60,k61,k62,k63,k64⟩,_⟩:=id K6.out;skip;clear hb6)
    | (go_at_call 95;(with_reducible refine (HA2.out _ B6.out).mono ?_);rintro e7 w7 ⟨rfl,hb7⟩;have K7:=zh (STB.out _ _ hb7 K6.out);have B7:=zh (Za K7.out);clear hb7))
   go_ret
   exact ⟨by rw [QH1.out,QH2.out];rfl,B7.out⟩
  ·have PT1:=zh (PT.out (by have:=(ZbA QH2.out).2;exact this))
   go_wp2_with (first
    | (go_at_call 95;(with_reducible refine (HA1.out _ H3.out).mono ?_);rintro e6 w6 ⟨rfl,hb6⟩;have K6:=zh (STB.out _ _ hb6 HH.out);have T6:=zh (T3.out.below hb6);have B6:=zh (Za K6.out);obtain ⟨⟨k60,k61,k62,k63,k64⟩,_⟩:=id K6.out;skip;clear hb6)
    | (go_at_call 95;(with_reducible refine (HA2.out _ B6.out).mono ?_);rintro e7 w7 ⟨rfl,hb7⟩;have K7:=zh (STB.out _ _ hb7 K6.out);have T7:=zh (T6.out.below hb7);have B7:=zh (Za K7.out);obtain ⟨⟨k70,k71,k72,k73,k74⟩,_⟩:=id K7.out;skip;clear hb7)
    | (go_at_call 98;(with_reducible refine (PT1.out _ B7.out).mono ?_);rintro e8 w8 ⟨rfl,hb8⟩;have B8:=zh (B7.out.trans (hb8.mono B7.out.size));clear hb8))
   go_ret
   exact ⟨by rw [QH1.out,QH2.out];rfl,B8.out⟩
 ·cases R1
  ·cases H2
   ·go_wp2_with (first
     | (go_at_call 95;(with_reducible refine (HA1.out _ H3.out).mono ?_);rintro e6 w6 ⟨rfl,hb6⟩;have K6:=zh (STB.out _ _ hb6 HH.out);have T6:=zh (T3.out.below hb6);have B6:=zh (Za K6.out);obtain ⟨⟨k60,k61,k62,k63,k64⟩,_⟩:=id K6.out;skip;clear hb6)
     | (go_at_call 97;(with_reducible refine (A1_.out w6 B6.out T6.out).mono ?_);rintro e7 w7 ⟨rfl,hb7⟩;have K7:=zh (STB.out _ _ hb7 K6.out);have T7:=zh (T6.out.below hb7);have B7:=zh (Za K7.out);obtain ⟨⟨k70,k71,k72,k73,k74⟩,_⟩:=id K7.out;clear hb7)
     | (go_at_call 95;(with_reducible refine (HA2.out _ B7.out).mono ?_);rintro e8 w8 ⟨rfl,hb8⟩;have K8:=zh (STB.out _ _ hb8 K7.out);have B8:=zh (Za K8.out);clear hb8))
    go_ret
    exact ⟨by rw [QH1.out,QR1.out,QH2.out];rfl,B8.out⟩
   ·have PT1:=zh (PT.out (by have:=(ZbA QH2.out).2;exact this))
    go_wp2_with (first
     | (go_at_call 95;(with_reducible refine (HA1.out _ H3.out).mono ?_);rintro e6 w6 ⟨rfl,hb6⟩;have K6:=zh (STB.out _ _ hb6 HH.out);have T6:=zh (T3.out.below hb6);have B6:=zh (Za K6.out);obtain ⟨⟨k60,k61,k62,k63,k64⟩,_⟩:=id K6.out;skip;clear hb6)
     | (go_at_call 97;(with_reducible refine (A1_.out w6 B6.out T6.out).mono ?_);rintro e7 w7 ⟨rfl,hb7⟩;have K7:=zh (STB.out _ _ hb7 K6.out);have T7:=zh (T6.out.below hb7);have B7:=zh (Za K7.out);obtain ⟨⟨k70,k71,k72,k73,k74⟩,_⟩:=id K7.out;clear hb7)
     | (go_at_call 95;(with_reducible refine (HA2.out _ B7.out).mono ?_);rintro e8 w8 ⟨rfl,hb8⟩;have K8:=zh (STB.out _ _ hb8 K7.out);have T8:=zh (T7.out.below hb8);have B8:=zh (Za K8.out);obtain ⟨⟨k80,k81,k82,k83,k84⟩,_⟩:=id K8.out;skip;clear hb8)
     | (go_at_call 98;(with_reducible refine (PT1.out _ B8.out).mono ?_);rintro e9 w9 ⟨rfl,hb9⟩;have B9:=zh (B8.out.trans (hb9.mono B8.out.size));clear hb9))
    go_ret
    exact ⟨by rw [QH1.out,QR1.out,QH2.out];rfl,B9.out⟩
  ·go_wp2_with (first
    | (go_at_call 95;(with_reducible refine (HA1.out _ H3.out).mono ?_);rintro e6 w6 ⟨rfl,hb6⟩;have K6:=zh (STB.out _ _ hb6 HH.out);have T6:=zh (T3.out.below hb6);have B6:=zh (Za K6.out);obtain ⟨⟨k60,k61,k62,k63,k64⟩,_⟩:=id K6.out;skip;clear hb6)
    | (go_at_call 97;(with_reducible refine (A1_.out w6 B6.out T6.out).mono ?_);rintro e7 w7 ⟨rfl,hb7⟩;have B7:=zh (B6.out.trans (hb7.mono B6.out.size));clear hb7))
   go_ret
   exact ⟨by rw [QH1.out,QR1.out];rfl,B7.out⟩
theorem ZeN (w:World) (v:Value) (ns:List Nd) (va vb vc:Value) (kd:Int) (ws:List (List UInt8)) (nums ks:List Int) (ps:Int) (hN:Zn w v ns) (hx:ZJ w ((va,vb,vc),⟨kd,ws,nums,ks,ps⟩)) (hk:ZA ks ns.length) (e0:(kd==0)=false) (e1:(kd==1)=false) (e2:(kd==2)=false) (e3:(kd==3)=false) (e4:(kd==4)=false) (e5:(kd==5)=false) (e6:(kd==6)=false) (e7:(kd==7)=false) (e8:(kd==8)=false) (e9:(kd==9)=false) (e10:(kd==10)=false) (e11:(kd==11)=false) (e12:(kd==12)=false) (e13:(kd==13)=false) (e14:(kd==14)=false) (e15:(kd==15)=false) (e16:(kd==16)=false) (e17:(kd==17)=false) (e18:(kd==18)=false) (e19:(kd==19)=false) (e20:(kd==20)=false) (e21:(kd==21)=false) (e22:(kd==22)=false) (e23:(kd==23)=false) :
  Calls Tryz.prog 72 #[v,ndV ((va,vb,vc),⟨kd,ws,nums,ks,ps⟩)] w fun e w'=>e=.returned (.bool (Zm ns ⟨kd,ws,nums,ks,ps⟩))/\Below w.heap.size w w':=by
 rw [show Zm ns ⟨kd,ws,nums,ks,ps⟩=(false) from by unfold Zm;dsimp only;simp only [beq_eq_false_iff_ne,ne_eq] at *;rw [if_neg e0,if_neg e1,if_neg e2,if_neg e3,if_neg e4,if_neg e5,if_neg e6,if_neg e7,if_neg (not_or.mpr ⟨e8,e9⟩),if_neg e10,if_neg e11,if_neg e12,if_neg e13,if_neg e14,if_neg (not_or.mpr ⟨e15,e21⟩),if_neg e16,if_neg e17,if_neg (not_or.mpr ⟨e18,e23⟩),if_neg e19,if_neg e20,if_neg e22]]
 obtain ⟨h1,h2,h3⟩:=id hx
 dsimp only at h1 h2 h3
 have AR:=zh (fun (wr:World) (hb:Below w.heap.size w wr) (vf:Value) (ts:List Tst) (hF:ZU wr vf ts)=>ZC wr v vc vf ns ks ts (hN.below hb) (h3.below hb) hF hk)
 have ALL:=zh (fun (wr:World) (hb:Below w.heap.size w wr) (u:Value) (t:Tst) (hu:Zp wr t u)=>ZB wr v vc u ns ks t (hN.below hb) (h3.below hb) hu hk)
 have HS0:=zh (fun (wr:World) (hb:Below w.heap.size w wr) (a b:Nat)=>ZG wr _ a b (hx.below hb))
 obtain ⟨A1,c1,rfl,_⟩:=h1
 obtain ⟨A2,c2,rfl,_,_,R2'⟩:=h2
 have R2:=zh R2'
 clear R2'
 obtain ⟨A3,c3,rfl,_⟩:=h3
 unfold ndV at HS0 ⊢
 dsimp only at HS0 ⊢
 clear hx hN hk
 have STB:=zh (show Stb (fun w'=>(w'.cell? ⟨w.heap.size,0,none⟩=some (.int .i64 kd)/\w'.cell? ⟨w.heap.size,1,none⟩=some (.slice A1 ws.length c1)/\w'.cell? ⟨w.heap.size,2,none⟩=some (.slice A2 nums.length c2)/\w'.cell? ⟨w.heap.size,3,none⟩=some (.slice A3 ks.length c3)/\w'.cell? ⟨w.heap.size,4,none⟩=some (.int .i64 ps))/\Below w.heap.size w w') from Zc (Zc (Zb _ _) (Zc (Zb _ _) (Zc (Zb _ _) (Zc (Zb _ _) (Zb _ _))))) (Zq w))
 go_enter Tryz.func72,Tryz.ntmps72
 go_upto_region 1 with fail
 have HS1:((w.alloc (.cells #[.int .i64 kd,.slice A1 ws.length c1,.slice A2 nums.length c2,.slice A3 ks.length c3,.int .i64 ps] 27)).cell? ⟨w.heap.size,0,none⟩=some (.int .i64 kd)/\(w.alloc (.cells #[.int .i64 kd,.slice A1 ws.length c1,.slice A2 nums.length c2,.slice A3 ks.length c3,.int .i64 ps] 27)).cell? ⟨w.heap.size,1,none⟩=some (.slice A1 ws.length c1)/\(w.alloc (.cells #[.int .i64 kd,.slice A1 ws.length c1,.slice A2 nums.length c2,.slice A3 ks.length c3,.int .i64 ps] 27)).cell? ⟨w.heap.size,2,none⟩=some (.slice A2 nums.length c2)/\(w.alloc (.cells #[.int .i64 kd,.slice A1 ws.length c1,.slice A2 nums.length c2,.slice A3 ks.length c3,.int .i64 ps] 27)).cell? ⟨w.heap.size,3,none⟩=some (.slice A3 ks.length c3)/\(w.alloc (.cells #[.int .i64 kd,.slice A1 ws.length c1,.slice A2 nums.length c2,.slice A3 ks.length c3,.int .i64 ps] 27)).cell? ⟨w.heap.size,4,none⟩=some (.int .i64 ps))/\Below w.heap.size w (w.alloc (.cells #[.int .i64 kd,.slice A1 ws.length c1,.slice A2 nums.length c2,.slice A3 ks.length c3,.int .i64 ps] 27)):=⟨⟨(Blk.start w _ _).cell 0,(Blk.start w _ _).cell 1,(Blk.start w _ _).cell 2,(Blk.start w _ _).cell 3,(Blk.start w _ _).cell 4⟩,below_alloc1 w _⟩
 generalize (w.alloc (.cells #[.int .i64 kd,.slice A1 ws.length c1,.slice A2 nums.length c2,.slice A3 ks.length c3,.int .i64 ps] 27))=w1 at *
 have HS:(w1.drew.cell? ⟨w.heap.size,0,none⟩=some (.int .i64 kd)/\w1.drew.cell? ⟨w.heap.size,1,none⟩=some (.slice A1 ws.length c1)/\w1.drew.cell? ⟨w.heap.size,2,none⟩=some (.slice A2 nums.length c2)/\w1.drew.cell? ⟨w.heap.size,3,none⟩=some (.slice A3 ks.length c3)/\w1.drew.cell? ⟨w.heap.size,4,none⟩=some (.int .i64 ps))/\Below w.heap.size w w1.drew:=⟨HS1.1,HS1.2.drew⟩
 clear HS1
 refine wp_region_noPanic ?_
 refine wp_region_held_drew (S:=(fun w'=>(w'.cell? ⟨w.heap.size,0,none⟩=some (.int .i64 kd)/\w'.cell? ⟨w.heap.size,1,none⟩=some (.slice A1 ws.length c1)/\w'.cell? ⟨w.heap.size,2,none⟩=some (.slice A2 nums.length c2)/\w'.cell? ⟨w.heap.size,3,none⟩=some (.slice A3 ks.length c3)/\w'.cell? ⟨w.heap.size,4,none⟩=some (.int .i64 ps))/\Below w.heap.size w w')) (by kernel_rfl) HS (fun hHeld=>?_)
 clear HS
 refine tk 0 rfl ?_
 refine tk 1 rfl ?_
 refine tk 2 rfl ?_
 (try simp only [cl,Act.put])
 refine rd 3 rfl fun K hK=>?_
 go_simp
 refine hK.out _ _ ?_ (fun hH2=>?_)
 ·exact STB.out _ _ (below_alloc1 _ _) (by with_reducible assumption)
 clear hK K hHeld;have hHeld:=hH2;clear hH2
 (try simp only [cl,Act.put])
 refine rd 4 rfl fun K hK=>?_
 go_simp
 (go_at_call 94;(with_reducible refine (Zf _ _ _).mono ?_);rintro e5 w5 ⟨⟨u,rfl,hT⟩,hb⟩;obtain ⟨bu,Au,cu,rfl,_,_⟩:=id hT)
 go_wp2_with fail
 refine hK.out _ _ (STB.out _ _ hb (by with_reducible assumption)) (fun hH2=>?_)
 clear hK K hHeld hb;have hHeld:=hH2;clear hH2
 (try simp only [cl,Act.put])
 refine tk 5 rfl ?_
 refine tk 6 rfl ?_
 (try simp only [cl,Act.put])
 refine wpAnyH_done (by kernel_rfl) ?_ _
 refine NoPanic.normal ?_
 have T3:=zh hT
 have H3:=zh (Za hHeld)
 have HH:=zh hHeld
 clear hT
 obtain ⟨⟨g0,g1,g2,g3,g4⟩,_⟩:=hHeld
 go_wp2_with fail
 go_ret
 exact ⟨rfl,H3.out⟩
end
end Go.Proofs.YtkgkmdhpnhmcpaaGreatDoor
