import Derived.Test.YtkgkmdhpnhmcpaaGreatDoorQBI
set_option maxRecDepth 100000
set_option maxHeartbeats 8000000
namespace Go.Proofs.YtkgkmdhpnhmcpaaGreatDoor
section
open Go.RowKit
theorem Zgk (w:World) (v:Value) (ns:List Nd) (va vb vc:Value) (ws:List (List UInt8)) (nums ks:List Int) (ps:Int) (hN:Zn w v ns) (hx:ZJ w ((va,vb,vc),⟨8,ws,nums,ks,ps⟩)) (hk:ZA ks ns.length) :
  Calls Tryz.prog 72 #[v,ndV ((va,vb,vc),⟨8,ws,nums,ks,ps⟩)] w fun e w'=>e=.returned (.bool (Zm ns ⟨8,ws,nums,ks,ps⟩))/\Below w.heap.size w w':=by
 rw [show Zm ns ⟨8,ws,nums,ks,ps⟩=(Zj ⟨8,ws,nums,ks,ps⟩ 1 0&&Zk ns ks [ZK]) from rfl]
 obtain ⟨h1,h2,h3⟩:=id hx
 dsimp only at h1 h2 h3
 have AR:=zh (fun (wr:World) (hb:Below w.heap.size w wr) (vf:Value) (ts:List Tst) (hF:ZU wr vf ts)=>ZC wr v vc vf ns ks ts (hN.below hb) (h3.below hb) hF hk)
 have ALL:=zh (fun (wr:World) (hb:Below w.heap.size w wr) (u:Value) (t:Tst) (hu:Zp wr t u)=>ZB wr v vc u ns ks t (hN.below hb) (h3.below hb) hu hk)
 have HS0:=zh (fun (wr:World) (hb:Below w.heap.size w wr) (a b:Nat)=>ZG wr _ a b (hx.below hb))
 obtain ⟨A1,c1,rfl,_⟩:=h1
 obtain ⟨A2,c2,rfl,_,_,R2'⟩:=h2
 have R2:=zh R2'
 clear R2'
 obtain ⟨A3,c3,rfl,_⟩:=h3
 unfold ndV at HS0 ⊢
 dsimp only at HS0 ⊢
 clear hx hN hk
 have STB:=zh (show Stb (fun w'=>(w'.cell? ⟨w.heap.size,0,none⟩=some (.int .i64 8)/\w'.cell? ⟨w.heap.size,1,none⟩=some (.slice A1 ws.length c1)/\w'.cell? ⟨w.heap.size,2,none⟩=some (.slice A2 nums.length c2)/\w'.cell? ⟨w.heap.size,3,none⟩=some (.slice A3 ks.length c3)/\w'.cell? ⟨w.heap.size,4,none⟩=some (.int .i64 ps))/\Below w.heap.size w w') from Zc (Zc (Zb _ _) (Zc (Zb _ _) (Zc (Zb _ _) (Zc (Zb _ _) (Zb _ _))))) (Zq w))
 go_enter Tryz.func72,Tryz.ntmps72
 go_upto_region 1 with fail
 have HS1:((w.alloc (.cells #[.int .i64 8,.slice A1 ws.length c1,.slice A2 nums.length c2,.slice A3 ks.length c3,.int .i64 ps] 27)).cell? ⟨w.heap.size,0,none⟩=some (.int .i64 8)/\(w.alloc (.cells #[.int .i64 8,.slice A1 ws.length c1,.slice A2 nums.length c2,.slice A3 ks.length c3,.int .i64 ps] 27)).cell? ⟨w.heap.size,1,none⟩=some (.slice A1 ws.length c1)/\(w.alloc (.cells #[.int .i64 8,.slice A1 ws.length c1,.slice A2 nums.length c2,.slice A3 ks.length c3,.int .i64 ps] 27)).cell? ⟨w.heap.size,2,none⟩=some (.slice A2 nums.length c2)/\(w.alloc (.cells #[.int .i64 8,.slice A1 ws.length c1,.slice A2 nums.length c2,.slice A3 ks.length c3,.int .i64 ps] 27)).cell? ⟨w.heap.size,3,none⟩=some (.slice A3 ks.length c3)/\(w.alloc (.cells #[.int .i64 8,.slice A1 ws.length c1,.slice A2 nums.length c2,.slice A3 ks.length c3,.int .i64 ps] 27)).cell? ⟨w.heap.size,4,none⟩=some (.int .i64 ps))/\Below w.heap.size w (w.alloc (.cells #[.int .i64 8,.slice A1 ws.length c1,.slice A2 nums.length c2,.slice A3 ks.length c3,.int .i64 ps] 27)):=⟨⟨(Blk.start w _ _).cell 0,(Blk.start w _ _).cell 1,(Blk.start w _ _).cell 2,(Blk.start w _ _).cell 3,(Blk.start w _ _).cell 4⟩,below_alloc1 w _⟩
 generalize (w.alloc (.cells #[.int .i64 8,.slice A1 ws.length c1,.slice A2 nums.length c2,.slice A3 ks.length c3,.int .i64 ps] 27))=w1 at *
 have HS:(w1.drew.cell? ⟨w.heap.size,0,none⟩=some (.int .i64 8)/\w1.drew.cell? ⟨w.heap.size,1,none⟩=some (.slice A1 ws.length c1)/\w1.drew.cell? ⟨w.heap.size,2,none⟩=some (.slice A2 nums.length c2)/\w1.drew.cell? ⟨w.heap.size,3,none⟩=some (.slice A3 ks.length c3)/\w1.drew.cell? ⟨w.heap.size,4,none⟩=some (.int .i64 ps))/\Below w.heap.size w w1.drew:=⟨HS1.1,HS1.2.drew⟩
 clear HS1
 refine wp_region_noPanic ?_
 refine wp_region_held_drew (S:=(fun w'=>(w'.cell? ⟨w.heap.size,0,none⟩=some (.int .i64 8)/\w'.cell? ⟨w.heap.size,1,none⟩=some (.slice A1 ws.length c1)/\w'.cell? ⟨w.heap.size,2,none⟩=some (.slice A2 nums.length c2)/\w'.cell? ⟨w.heap.size,3,none⟩=some (.slice A3 ks.length c3)/\w'.cell? ⟨w.heap.size,4,none⟩=some (.int .i64 ps))/\Below w.heap.size w w')) (by kernel_rfl) HS (fun hHeld=>?_)
 clear HS
 refine tk 0 rfl ?_
 refine tk 1 rfl ?_
 refine tk 2 rfl ?_
 (try simp only [cl,Act.put])
 refine rd 3 rfl fun K hK=>?_
 go_simp
 refine hK.out _ _ ?_ (fun hH2=>?_)
 ·exact STB.out _ _ (below_alloc1 _ _) (by with_reducible assumption)
 clear hK K hHeld;have hHeld:=hH2;clear hH2
 (try simp only [cl,Act.put])
 refine rd 4 rfl fun K hK=>?_
 go_simp
 (go_at_call 94;(with_reducible refine (Zf _ _ _).mono ?_);rintro e5 w5 ⟨⟨u,rfl,hT⟩,hb⟩;obtain ⟨bu,Au,cu,rfl,_,_⟩:=id hT)
 go_wp2_with fail
 refine hK.out _ _ (STB.out _ _ hb (by with_reducible assumption)) (fun hH2=>?_)
 clear hK K hHeld hb;have hHeld:=hH2;clear hH2
 (try simp only [cl,Act.put])
 refine tk 5 rfl ?_
 refine tk 6 rfl ?_
 (try simp only [cl,Act.put])
 refine wpAnyH_done (by kernel_rfl) ?_ _
 refine NoPanic.normal ?_
 have T3:=zh hT
 have H3:=zh (Za hHeld)
 have HH:=zh hHeld
 clear hT
 obtain ⟨⟨g0,g1,g2,g3,g4⟩,_⟩:=hHeld
 have A6:=zh (fun (wr:World) (B:Below w.heap.size w wr) (T:Zp wr (.is [7]) (.func (.func 129) #[] #[.pointer (some ⟨bu,0,none⟩)]))=>show Calls Tryz.prog 97 #[v,.slice A3 ks.length c3,.slice (some ⟨wr.heap.size,0,none⟩) 1 1] (wr.alloc (.cells #[.func (.func 100) #[] #[]] 105)) (fun e w'=>e=.returned (.bool (Zk ns ks [ZK]))/\Below wr.heap.size wr w') from (AR.out (wr.alloc (.cells #[.func (.func 100) #[] #[]] 105)) (B.trans ((below_alloc1 _ _).mono B.size)) _ [.expr] (Zaq wr [.expr] [.func (.func 100) #[] #[]] 105 (by simp [maxLen]) ⟨rfl,trivial⟩)).mono (fun _ _ q=>⟨q.1,(below_alloc1 wr (.cells #[.func (.func 100) #[] #[]] 105)).trans (q.2.mono (below_alloc1 wr (.cells #[.func (.func 100) #[] #[]] 105)).size)⟩))
 have HA1:=zh (show ∀ wr:World,Below w.heap.size w wr->Calls Tryz.prog 95 #[.agg #[.int .i64 8,.slice A1 ws.length c1,.slice A2 nums.length c2,.slice A3 ks.length c3,.int .i64 ps],.int .i64 1,.int .i64 0] wr fun e w'=>e=.returned (.bool (Zj ⟨8,ws,nums,ks,ps⟩ 1 0))/\Below wr.heap.size wr w' from fun wr hb=>HS0.out wr hb 1 0)
 generalize hq:Zj ⟨8,ws,nums,ks,ps⟩ 1 0=H at HA1
 have HQ:=zh hq
 clear hq
 cases H
 ·go_wp2_with (go_at_call 95;(with_reducible refine (HA1.out _ H3.out).mono ?_);rintro e6 w6 ⟨rfl,hb6⟩;have K6:=zh (STB.out _ _ hb6 HH.out);have B6:=zh (Za K6.out);clear hb6)
  go_ret
  exact ⟨by rw [HQ.out];rfl,B6.out⟩
 ·go_wp2_with (first
   | (go_at_call 95;(with_reducible refine (HA1.out _ H3.out).mono ?_);rintro e6 w6 ⟨rfl,hb6⟩;have K6:=zh (STB.out _ _ hb6 HH.out);have T6:=zh (T3.out.below hb6);have B6:=zh (Za K6.out);obtain ⟨⟨k60,k61,k62,k63,k64⟩,_⟩:=id K6.out;skip;clear hb6)
   | (go_at_call 97;(with_reducible refine (A6.out w6 B6.out T6.out).mono ?_);rintro e7 w7 ⟨rfl,hb7⟩;have B7:=zh (B6.out.trans (hb7.mono B6.out.size));clear hb7))
  go_ret
  exact ⟨by rw [HQ.out];rfl,B7.out⟩
theorem Zgn (w:World) (v:Value) (ns:List Nd) (va vb vc:Value) (ws:List (List UInt8)) (nums ks:List Int) (ps:Int) (hN:Zn w v ns) (hx:ZJ w ((va,vb,vc),⟨9,ws,nums,ks,ps⟩)) (hk:ZA ks ns.length) :
  Calls Tryz.prog 72 #[v,ndV ((va,vb,vc),⟨9,ws,nums,ks,ps⟩)] w fun e w'=>e=.returned (.bool (Zm ns ⟨9,ws,nums,ks,ps⟩))/\Below w.heap.size w w':=by
 rw [show Zm ns ⟨9,ws,nums,ks,ps⟩=(Zj ⟨9,ws,nums,ks,ps⟩ 1 0&&Zk ns ks [ZK]) from rfl]
 obtain ⟨h1,h2,h3⟩:=id hx
 dsimp only at h1 h2 h3
 have AR:=zh (fun (wr:World) (hb:Below w.heap.size w wr) (vf:Value) (ts:List Tst) (hF:ZU wr vf ts)=>ZC wr v vc vf ns ks ts (hN.below hb) (h3.below hb) hF hk)
 have ALL:=zh (fun (wr:World) (hb:Below w.heap.size w wr) (u:Value) (t:Tst) (hu:Zp wr t u)=>ZB wr v vc u ns ks t (hN.below hb) (h3.below hb) hu hk)
 have HS0:=zh (fun (wr:World) (hb:Below w.heap.size w wr) (a b:Nat)=>ZG wr _ a b (hx.below hb))
 obtain ⟨A1,c1,rfl,_⟩:=h1
 obtain ⟨A2,c2,rfl,_,_,R2'⟩:=h2
 have R2:=zh R2'
 clear R2'
 obtain ⟨A3,c3,rfl,_⟩:=h3
 unfold ndV at HS0 ⊢
 dsimp only at HS0 ⊢
 clear hx hN hk
 have STB:=zh (show Stb (fun w'=>(w'.cell? ⟨w.heap.size,0,none⟩=some (.int .i64 9)/\w'.cell? ⟨w.heap.size,1,none⟩=some (.slice A1 ws.length c1)/\w'.cell? ⟨w.heap.size,2,none⟩=some (.slice A2 nums.length c2)/\w'.cell? ⟨w.heap.size,3,none⟩=some (.slice A3 ks.length c3)/\w'.cell? ⟨w.heap.size,4,none⟩=some (.int .i64 ps))/\Below w.heap.size w w') from Zc (Zc (Zb _ _) (Zc (Zb _ _) (Zc (Zb _ _) (Zc (Zb _ _) (Zb _ _))))) (Zq w))
 go_enter Tryz.func72,Tryz.ntmps72
 go_upto_region 1 with fail
 have HS1:((w.alloc (.cells #[.int .i64 9,.slice A1 ws.length c1,.slice A2 nums.length c2,.slice A3 ks.length c3,.int .i64 ps] 27)).cell? ⟨w.heap.size,0,none⟩=some (.int .i64 9)/\(w.alloc (.cells #[.int .i64 9,.slice A1 ws.length c1,.slice A2 nums.length c2,.slice A3 ks.length c3,.int .i64 ps] 27)).cell? ⟨w.heap.size,1,none⟩=some (.slice A1 ws.length c1)/\(w.alloc (.cells #[.int .i64 9,.slice A1 ws.length c1,.slice A2 nums.length c2,.slice A3 ks.length c3,.int .i64 ps] 27)).cell? ⟨w.heap.size,2,none⟩=some (.slice A2 nums.length c2)/\(w.alloc (.cells #[.int .i64 9,.slice A1 ws.length c1,.slice A2 nums.length c2,.slice A3 ks.length c3,.int .i64 ps] 27)).cell? ⟨w.heap.size,3,none⟩=some (.slice A3 ks.length c3)/\(w.alloc (.cells #[.int .i64 9,.slice A1 ws.length c1,.slice A2 nums.length c2,.slice A3 ks.length c3,.int .i64 ps] 27)).cell? ⟨w.heap.size,4,none⟩=some (.int .i64 ps))/\Below w.heap.size w (w.alloc (.cells #[.int .i64 9,.slice A1 ws.length c1,.slice A2 nums.length c2,.slice A3 ks.length c3,.int .i64 ps] 27)):=⟨⟨(Blk.start w _ _).cell 0,(Blk.start w _ _).cell 1,(Blk.start w _ _).cell 2,(Blk.start w _ _).cell 3,(Blk.start w _ _).cell 4⟩,below_alloc1 w _⟩
 generalize (w.alloc (.cells #[.int .i64 9,.slice A1 ws.length c1,.slice A2 nums.length c2,.slice A3 ks.length c3,.int .i64 ps] 27))=w1 at *
 have HS:(w1.drew.cell? ⟨w.heap.size,0,none⟩=some (.int .i64 9)/\w1.drew.cell? ⟨w.heap.size,1,none⟩=some (.slice A1 ws.length c1)/\w1.drew.cell? ⟨w.heap.size,2,none⟩=some (.slice A2 nums.length c2)/\w1.drew.cell? ⟨w.heap.size,3,none⟩=some (.slice A3 ks.length c3)/\w1.drew.cell? ⟨w.heap.size,4,none⟩=some (.int .i64 ps))/\Below w.heap.size w w1.drew:=⟨HS1.1,HS1.2.drew⟩
 clear HS1
 refine wp_region_noPanic ?_
 refine wp_region_held_drew (S:=(fun w'=>(w'.cell? ⟨w.heap.size,0,none⟩=some (.int .i64 9)/\w'.cell? ⟨w.heap.size,1,none⟩=some (.slice A1 ws.length c1)/\w'.cell? ⟨w.heap.size,2,none⟩=some (.slice A2 nums.length c2)/\w'.cell? ⟨w.heap.size,3,none⟩=some (.slice A3 ks.length c3)/\w'.cell? ⟨w.heap.size,4,none⟩=some (.int .i64 ps))/\Below w.heap.size w w')) (by kernel_rfl) HS (fun hHeld=>?_)
 clear HS
 refine tk 0 rfl ?_
 refine tk 1 rfl ?_
 refine tk 2 rfl ?_
 (try simp only [cl,Act.put])
 refine rd 3 rfl fun K hK=>?_
 go_simp
 refine hK.out _ _ ?_ (fun hH2=>?_)
 ·exact STB.out _ _ (below_alloc1 _ _) (by with_reducible assumption)
 clear hK K hHeld;have hHeld:=hH2;clear hH2
 (try simp only [cl,Act.put])
 refine rd 4 rfl fun K hK=>?_
 go_simp
 (go_at_call 94;(with_reducible refine (Zf _ _ _).mono ?_);rintro e5 w5 ⟨⟨u,rfl,hT⟩,hb⟩;obtain ⟨bu,Au,cu,rfl,_,_⟩:=id hT)
 go_wp2_with fail
 refine hK.out _ _ (STB.out _ _ hb (by with_reducible assumption)) (fun hH2=>?_)
 clear hK K hHeld hb;have hHeld:=hH2;clear hH2
 (try simp only [cl,Act.put])
 refine tk 5 rfl ?_
 refine tk 6 rfl ?_
 (try simp only [cl,Act.put])
 refine wpAnyH_done (by kernel_rfl) ?_ _
 refine NoPanic.normal ?_
 have T3:=zh hT
 have H3:=zh (Za hHeld)
 have HH:=zh hHeld
 clear hT
 obtain ⟨⟨g0,g1,g2,g3,g4⟩,_⟩:=hHeld
 have A6:=zh (fun (wr:World) (B:Below w.heap.size w wr) (T:Zp wr (.is [7]) (.func (.func 129) #[] #[.pointer (some ⟨bu,0,none⟩)]))=>show Calls Tryz.prog 97 #[v,.slice A3 ks.length c3,.slice (some ⟨wr.heap.size,0,none⟩) 1 1] (wr.alloc (.cells #[.func (.func 100) #[] #[]] 105)) (fun e w'=>e=.returned (.bool (Zk ns ks [ZK]))/\Below wr.heap.size wr w') from (AR.out (wr.alloc (.cells #[.func (.func 100) #[] #[]] 105)) (B.trans ((below_alloc1 _ _).mono B.size)) _ [.expr] (Zaq wr [.expr] [.func (.func 100) #[] #[]] 105 (by simp [maxLen]) ⟨rfl,trivial⟩)).mono (fun _ _ q=>⟨q.1,(below_alloc1 wr (.cells #[.func (.func 100) #[] #[]] 105)).trans (q.2.mono (below_alloc1 wr (.cells #[.func (.func 100) #[] #[]] 105)).size)⟩))
 have HA1:=zh (show ∀ wr:World,Below w.heap.size w wr->Calls Tryz.prog 95 #[.agg #[.int .i64 9,.slice A1 ws.length c1,.slice A2 nums.length c2,.slice A3 ks.length c3,.int .i64 ps],.int .i64 1,.int .i64 0] wr fun e w'=>e=.returned (.bool (Zj ⟨9,ws,nums,ks,ps⟩ 1 0))/\Below wr.heap.size wr w' from fun wr hb=>HS0.out wr hb 1 0)
 generalize hq:Zj ⟨9,ws,nums,ks,ps⟩ 1 0=H at HA1
 have HQ:=zh hq
 clear hq
 cases H
 ·go_wp2_with (go_at_call 95;(with_reducible refine (HA1.out _ H3.out).mono ?_);rintro e6 w6 ⟨rfl,hb6⟩;have K6:=zh (STB.out _ _ hb6 HH.out);have B6:=zh (Za K6.out);clear hb6)
  go_ret
  exact ⟨by rw [HQ.out];rfl,B6.out⟩
 ·go_wp2_with (first
   | (go_at_call 95;(with_reducible refine (HA1.out _ H3.out).mono ?_);rintro e6 w6 ⟨rfl,hb6⟩;have K6:=zh (STB.out _ _ hb6 HH.out);have T6:=zh (T3.out.below hb6);have B6:=zh (Za K6.out);obtain ⟨⟨k60,k61,k62,k63,k64⟩,_⟩:=id K6.out;skip;clear hb6)
   | (go_at_call 97;(with_reducible refine (A6.out w6 B6.out T6.out).mono ?_);rintro e7 w7 ⟨rfl,hb7⟩;have B7:=zh (B6.out.trans (hb7.mono B6.out.size));clear hb7))
  go_ret
  exact ⟨by rw [HQ.out];rfl,B7.out⟩
theorem Zfq (w:World) (v:Value) (ns:List Nd) (va vb vc:Value) (ws:List (List UInt8)) (nums ks:List Int) (ps:Int) (hN:Zn w v ns) (hx:ZJ w ((va,vb,vc),⟨10,ws,nums,ks,ps⟩)) (hk:ZA ks ns.length) :
  Calls Tryz.prog 72 #[v,ndV ((va,vb,vc),⟨10,ws,nums,ks,ps⟩)] w fun e w'=>e=.returned (.bool (Zm ns ⟨10,ws,nums,ks,ps⟩))/\Below w.heap.size w w':=by
 rw [show Zm ns ⟨10,ws,nums,ks,ps⟩=(Zj ⟨10,ws,nums,ks,ps⟩ 2 0&&Zk ns ks [isB [7],isB [7]]) from rfl]
 obtain ⟨h1,h2,h3⟩:=id hx
 dsimp only at h1 h2 h3
 have AR:=zh (fun (wr:World) (hb:Below w.heap.size w wr) (vf:Value) (ts:List Tst) (hF:ZU wr vf ts)=>ZC wr v vc vf ns ks ts (hN.below hb) (h3.below hb) hF hk)
 have ALL:=zh (fun (wr:World) (hb:Below w.heap.size w wr) (u:Value) (t:Tst) (hu:Zp wr t u)=>ZB wr v vc u ns ks t (hN.below hb) (h3.below hb) hu hk)
 have HS0:=zh (fun (wr:World) (hb:Below w.heap.size w wr) (a b:Nat)=>ZG wr _ a b (hx.below hb))
 obtain ⟨A1,c1,rfl,_⟩:=h1
 obtain ⟨A2,c2,rfl,_,_,R2'⟩:=h2
 have R2:=zh R2'
 clear R2'
 obtain ⟨A3,c3,rfl,_⟩:=h3
 unfold ndV at HS0 ⊢
 dsimp only at HS0 ⊢
 clear hx hN hk
 have STB:=zh (show Stb (fun w'=>(w'.cell? ⟨w.heap.size,0,none⟩=some (.int .i64 10)/\w'.cell? ⟨w.heap.size,1,none⟩=some (.slice A1 ws.length c1)/\w'.cell? ⟨w.heap.size,2,none⟩=some (.slice A2 nums.length c2)/\w'.cell? ⟨w.heap.size,3,none⟩=some (.slice A3 ks.length c3)/\w'.cell? ⟨w.heap.size,4,none⟩=some (.int .i64 ps))/\Below w.heap.size w w') from Zc (Zc (Zb _ _) (Zc (Zb _ _) (Zc (Zb _ _) (Zc (Zb _ _) (Zb _ _))))) (Zq w))
 go_enter Tryz.func72,Tryz.ntmps72
 go_upto_region 1 with fail
 have HS1:((w.alloc (.cells #[.int .i64 10,.slice A1 ws.length c1,.slice A2 nums.length c2,.slice A3 ks.length c3,.int .i64 ps] 27)).cell? ⟨w.heap.size,0,none⟩=some (.int .i64 10)/\(w.alloc (.cells #[.int .i64 10,.slice A1 ws.length c1,.slice A2 nums.length c2,.slice A3 ks.length c3,.int .i64 ps] 27)).cell? ⟨w.heap.size,1,none⟩=some (.slice A1 ws.length c1)/\(w.alloc (.cells #[.int .i64 10,.slice A1 ws.length c1,.slice A2 nums.length c2,.slice A3 ks.length c3,.int .i64 ps] 27)).cell? ⟨w.heap.size,2,none⟩=some (.slice A2 nums.length c2)/\(w.alloc (.cells #[.int .i64 10,.slice A1 ws.length c1,.slice A2 nums.length c2,.slice A3 ks.length c3,.int .i64 ps] 27)).cell? ⟨w.heap.size,3,none⟩=some (.slice A3 ks.length c3)/\(w.alloc (.cells #[.int .i64 10,.slice A1 ws.length c1,.slice A2 nums.length c2,.slice A3 ks.length c3,.int .i64 ps] 27)).cell? ⟨w.heap.size,4,none⟩=some (.int .i64 ps))/\Below w.heap.size w (w.alloc (.cells #[.int .i64 10,.slice A1 ws.length c1,.slice A2 nums.length c2,.slice A3 ks.length c3,.int .i64 ps] 27)):=⟨⟨(Blk.start w _ _).cell 0,(Blk.start w _ _).cell 1,(Blk.start w _ _).cell 2,(Blk.start w _ _).cell 3,(Blk.start w _ _).cell 4⟩,below_alloc1 w _⟩
 generalize (w.alloc (.cells #[.int .i64 10,.slice A1 ws.length c1,.slice A2 nums.length c2,.slice A3 ks.length c3,.int .i64 ps] 27))=w1 at *
 have HS:(w1.drew.cell? ⟨w.heap.size,0,none⟩=some (.int .i64 10)/\w1.drew.cell? ⟨w.heap.size,1,none⟩=some (.slice A1 ws.length c1)/\w1.drew.cell? ⟨w.heap.size,2,none⟩=some (.slice A2 nums.length c2)/\w1.drew.cell? ⟨w.heap.size,3,none⟩=some (.slice A3 ks.length c3)/\w1.drew.cell? ⟨w.heap.size,4,none⟩=some (.int .i64 ps))/\Below w.heap.size w w1.drew:=⟨HS1.1,HS1.2.drew⟩
 clear HS1
 refine wp_region_noPanic ?_
 refine wp_region_held_drew (S:=(fun w'=>(w'.cell? ⟨w.heap.size,0,none⟩=some (.int .i64 10)/\w'.cell? ⟨w.heap.size,1,none⟩=some (.slice A1 ws.length c1)/\w'.cell? ⟨w.heap.size,2,none⟩=some (.slice A2 nums.length c2)/\w'.cell? ⟨w.heap.size,3,none⟩=some (.slice A3 ks.length c3)/\w'.cell? ⟨w.heap.size,4,none⟩=some (.int .i64 ps))/\Below w.heap.size w w')) (by kernel_rfl) HS (fun hHeld=>?_)
 clear HS
 refine tk 0 rfl ?_
 refine tk 1 rfl ?_
 refine tk 2 rfl ?_
 (try simp only [cl,Act.put])
 refine rd 3 rfl fun K hK=>?_
 go_simp
 refine hK.out _ _ ?_ (fun hH2=>?_)
 ·exact STB.out _ _ (below_alloc1 _ _) (by with_reducible assumption)
 clear hK K hHeld;have hHeld:=hH2;clear hH2
 (try simp only [cl,Act.put])
 refine rd 4 rfl fun K hK=>?_
 go_simp
 (go_at_call 94;(with_reducible refine (Zf _ _ _).mono ?_);rintro e5 w5 ⟨⟨u,rfl,hT⟩,hb⟩;obtain ⟨bu,Au,cu,rfl,_,_⟩:=id hT)
 go_wp2_with fail
 refine hK.out _ _ (STB.out _ _ hb (by with_reducible assumption)) (fun hH2=>?_)
 clear hK K hHeld hb;have hHeld:=hH2;clear hH2
 (try simp only [cl,Act.put])
 refine tk 5 rfl ?_
 refine tk 6 rfl ?_
 (try simp only [cl,Act.put])
 refine wpAnyH_done (by kernel_rfl) ?_ _
 refine NoPanic.normal ?_
 have T3:=zh hT
 have H3:=zh (Za hHeld)
 have HH:=zh hHeld
 clear hT
 obtain ⟨⟨g0,g1,g2,g3,g4⟩,_⟩:=hHeld
 have A6:=zh (fun (wr:World) (B:Below w.heap.size w wr) (T:Zp wr (.is [7]) (.func (.func 129) #[] #[.pointer (some ⟨bu,0,none⟩)]))=>show Calls Tryz.prog 97 #[v,.slice A3 ks.length c3,.slice (some ⟨wr.heap.size,0,none⟩) 2 2] (wr.alloc (.cells #[.func (.func 129) #[] #[.pointer (some ⟨bu,0,none⟩)],.func (.func 129) #[] #[.pointer (some ⟨bu,0,none⟩)]] 105)) (fun e w'=>e=.returned (.bool (Zk ns ks [isB [7],isB [7]]))/\Below wr.heap.size wr w') from (AR.out (wr.alloc (.cells #[.func (.func 129) #[] #[.pointer (some ⟨bu,0,none⟩)],.func (.func 129) #[] #[.pointer (some ⟨bu,0,none⟩)]] 105)) (B.trans ((below_alloc1 _ _).mono B.size)) _ [.is [7],.is [7]] (Zaq wr [.is [7],.is [7]] [.func (.func 129) #[] #[.pointer (some ⟨bu,0,none⟩)],.func (.func 129) #[] #[.pointer (some ⟨bu,0,none⟩)]] 105 (by simp [maxLen]) ⟨T.below (below_alloc1 _ _),T.below (below_alloc1 _ _),trivial⟩)).mono (fun _ _ q=>⟨q.1,(below_alloc1 wr (.cells #[.func (.func 129) #[] #[.pointer (some ⟨bu,0,none⟩)],.func (.func 129) #[] #[.pointer (some ⟨bu,0,none⟩)]] 105)).trans (q.2.mono (below_alloc1 wr (.cells #[.func (.func 129) #[] #[.pointer (some ⟨bu,0,none⟩)],.func (.func 129) #[] #[.pointer (some ⟨bu,0,none⟩)]] 105)).size)⟩))
 have HA1:=zh (show ∀ wr:World,Below w.heap.size w wr->Calls Tryz.prog 95 #[.agg #[.int .i64 10,.slice A1 ws.length c1,.slice A2 nums.length c2,.slice A3 ks.length c3,.int .i64 ps],.int .i64 2,.int .i64 0] wr fun e w'=>e=.returned (.bool (Zj ⟨10,ws,nums,ks,ps⟩ 2 0))/\Below wr.heap.size wr w' from fun wr hb=>HS0.out wr hb 2 0)
 generalize hq:Zj ⟨10,ws,nums,ks,ps⟩ 2 0=H at HA1
 have HQ:=zh hq
 clear hq
 cases H
 ·go_wp2_with (go_at_call 95;(with_reducible refine (HA1.out _ H3.out).mono ?_);rintro e6 w6 ⟨rfl,hb6⟩;have K6:=zh (STB.out _ _ hb6 HH.out);have B6:=zh (Za K6.out);clear hb6)
  go_ret
  exact ⟨by rw [HQ.out];rfl,B6.out⟩
 ·go_wp2_with (first
   | (go_at_call 95;(with_reducible refine (HA1.out _ H3.out).mono ?_);rintro e6 w6 ⟨rfl,hb6⟩;have K6:=zh (STB.out _ _ hb6 HH.out);have T6:=zh (T3.out.below hb6);have B6:=zh (Za K6.out);obtain ⟨⟨k60,k61,k62,k63,k64⟩,_⟩:=id K6.out;skip;clear hb6)
   | (go_at_call 97;(with_reducible refine (A6.out w6 B6.out T6.out).mono ?_);rintro e7 w7 ⟨rfl,hb7⟩;have B7:=zh (B6.out.trans (hb7.mono B6.out.size));clear hb7))
  go_ret
  exact ⟨by rw [HQ.out];rfl,B7.out⟩
theorem Zfo (w:World) (v:Value) (ns:List Nd) (va vb vc:Value) (ws:List (List UInt8)) (nums ks:List Int) (ps:Int) (hN:Zn w v ns) (hx:ZJ w ((va,vb,vc),⟨12,ws,nums,ks,ps⟩)) (hk:ZA ks ns.length) :
  Calls Tryz.prog 72 #[v,ndV ((va,vb,vc),⟨12,ws,nums,ks,ps⟩)] w fun e w'=>e=.returned (.bool (Zm ns ⟨12,ws,nums,ks,ps⟩))/\Below w.heap.size w w':=by
 rw [show Zm ns ⟨12,ws,nums,ks,ps⟩=(Zj ⟨12,ws,nums,ks,ps⟩ 1 0&&Zk ns ks [isB [7]]) from rfl]
 obtain ⟨h1,h2,h3⟩:=id hx
 dsimp only at h1 h2 h3
 have AR:=zh (fun (wr:World) (hb:Below w.heap.size w wr) (vf:Value) (ts:List Tst) (hF:ZU wr vf ts)=>ZC wr v vc vf ns ks ts (hN.below hb) (h3.below hb) hF hk)
 have ALL:=zh (fun (wr:World) (hb:Below w.heap.size w wr) (u:Value) (t:Tst) (hu:Zp wr t u)=>ZB wr v vc u ns ks t (hN.below hb) (h3.below hb) hu hk)
 have HS0:=zh (fun (wr:World) (hb:Below w.heap.size w wr) (a b:Nat)=>ZG wr _ a b (hx.below hb))
 obtain ⟨A1,c1,rfl,_⟩:=h1
 obtain ⟨A2,c2,rfl,_,_,R2'⟩:=h2
 have R2:=zh R2'
 clear R2'
 obtain ⟨A3,c3,rfl,_⟩:=h3
 unfold ndV at HS0 ⊢
 dsimp only at HS0 ⊢
 clear hx hN hk
 have STB:=zh (show Stb (fun w'=>(w'.cell? ⟨w.heap.size,0,none⟩=some (.int .i64 12)/\w'.cell? ⟨w.heap.size,1,none⟩=some (.slice A1 ws.length c1)/\w'.cell? ⟨w.heap.size,2,none⟩=some (.slice A2 nums.length c2)/\w'.cell? ⟨w.heap.size,3,none⟩=some (.slice A3 ks.length c3)/\w'.cell? ⟨w.heap.size,4,none⟩=some (.int .i64 ps))/\Below w.heap.size w w') from Zc (Zc (Zb _ _) (Zc (Zb _ _) (Zc (Zb _ _) (Zc (Zb _ _) (Zb _ _))))) (Zq w))
 go_enter Tryz.func72,Tryz.ntmps72
 go_upto_region 1 with fail
 have HS1:((w.alloc (.cells #[.int .i64 12,.slice A1 ws.length c1,.slice A2 nums.length c2,.slice A3 ks.length c3,.int .i64 ps] 27)).cell? ⟨w.heap.size,0,none⟩=some (.int .i64 12)/\(w.alloc (.cells #[.int .i64 12,.slice A1 ws.length c1,.slice A2 nums.length c2,.slice A3 ks.length c3,.int .i64 ps] 27)).cell? ⟨w.heap.size,1,none⟩=some (.slice A1 ws.length c1)/\(w.alloc (.cells #[.int .i64 12,.slice A1 ws.length c1,.slice A2 nums.length c2,.slice A3 ks.length c3,.int .i64 ps] 27)).cell? ⟨w.heap.size,2,none⟩=some (.slice A2 nums.length c2)/\(w.alloc (.cells #[.int .i64 12,.slice A1 ws.length c1,.slice A2 nums.length c2,.slice A3 ks.length c3,.int .i64 ps] 27)).cell? ⟨w.heap.size,3,none⟩=some (.slice A3 ks.length c3)/\(w.alloc (.cells #[.int .i64 12,.slice A1 ws.length c1,.slice A2 nums.length c2,.slice A3 ks.length c3,.int .i64 ps] 27)).cell? ⟨w.heap.size,4,none⟩=some (.int .i64 ps))/\Below w.heap.size w (w.alloc (.cells #[.int .i64 12,.slice A1 ws.length c1,.slice A2 nums.length c2,.slice A3 ks.length c3,.int .i64 ps] 27)):=⟨⟨(Blk.start w _ _).cell 0,(Blk.start w _ _).cell 1,(Blk.start w _ _).cell 2,(Blk.start w _ _).cell 3,(Blk.start w _ _).cell 4⟩,below_alloc1 w _⟩
 generalize (w.alloc (.cells #[.int .i64 12,.slice A1 ws.length c1,.slice A2 nums.length c2,.slice A3 ks.length c3,.int .i64 ps] 27))=w1 at *
 have HS:(w1.drew.cell? ⟨w.heap.size,0,none⟩=some (.int .i64 12)/\w1.drew.cell? ⟨w.heap.size,1,none⟩=some (.slice A1 ws.length c1)/\w1.drew.cell? ⟨w.heap.size,2,none⟩=some (.slice A2 nums.length c2)/\w1.drew.cell? ⟨w.heap.size,3,none⟩=some (.slice A3 ks.length c3)/\w1.drew.cell? ⟨w.heap.size,4,none⟩=some (.int .i64 ps))/\Below w.heap.size w w1.drew:=⟨HS1.1,HS1.2.drew⟩
 clear HS1
 refine wp_region_noPanic ?_
 refine wp_region_held_drew (S:=(fun w'=>(w'.cell? ⟨w.heap.size,0,none⟩=some (.int .i64 12)/\w'.cell? ⟨w.heap.size,1,none⟩=some (.slice A1 ws.length c1)/\w'.cell? ⟨w.heap.size,2,none⟩=some (.slice A2 nums.length c2)/\w'.cell? ⟨w.heap.size,3,none⟩=some (.slice A3 ks.length c3)/\w'.cell? ⟨w.heap.size,4,none⟩=some (.int .i64 ps))/\Below w.heap.size w w')) (by kernel_rfl) HS (fun hHeld=>?_)
 clear HS
 refine tk 0 rfl ?_
 refine tk 1 rfl ?_
 refine tk 2 rfl ?_
 (try simp only [cl,Act.put])
 refine rd 3 rfl fun K hK=>?_
 go_simp
 refine hK.out _ _ ?_ (fun hH2=>?_)
 ·exact STB.out _ _ (below_alloc1 _ _) (by with_reducible assumption)
 clear hK K hHeld;have hHeld:=hH2;clear hH2
 (try simp only [cl,Act.put])
 refine rd 4 rfl fun K hK=>?_
 go_simp
 (go_at_call 94;(with_reducible refine (Zf _ _ _).mono ?_);rintro e5 w5 ⟨⟨u,rfl,hT⟩,hb⟩;obtain ⟨bu,Au,cu,rfl,_,_⟩:=id hT)
 go_wp2_with fail
 refine hK.out _ _ (STB.out _ _ hb (by with_reducible assumption)) (fun hH2=>?_)
 clear hK K hHeld hb;have hHeld:=hH2;clear hH2
 (try simp only [cl,Act.put])
 refine tk 5 rfl ?_
 refine tk 6 rfl ?_
 (try simp only [cl,Act.put])
 refine wpAnyH_done (by kernel_rfl) ?_ _
 refine NoPanic.normal ?_
 have T3:=zh hT
 have H3:=zh (Za hHeld)
 have HH:=zh hHeld
 clear hT
 obtain ⟨⟨g0,g1,g2,g3,g4⟩,_⟩:=hHeld
 have A6:=zh (fun (wr:World) (B:Below w.heap.size w wr) (T:Zp wr (.is [7]) (.func (.func 129) #[] #[.pointer (some ⟨bu,0,none⟩)]))=>show Calls Tryz.prog 97 #[v,.slice A3 ks.length c3,.slice (some ⟨wr.heap.size,0,none⟩) 1 1] (wr.alloc (.cells #[.func (.func 129) #[] #[.pointer (some ⟨bu,0,none⟩)]] 105)) (fun e w'=>e=.returned (.bool (Zk ns ks [isB [7]]))/\Below wr.heap.size wr w') from (AR.out (wr.alloc (.cells #[.func (.func 129) #[] #[.pointer (some ⟨bu,0,none⟩)]] 105)) (B.trans ((below_alloc1 _ _).mono B.size)) _ [.is [7]] (Zaq wr [.is [7]] [.func (.func 129) #[] #[.pointer (some ⟨bu,0,none⟩)]] 105 (by simp [maxLen]) ⟨T.below (below_alloc1 _ _),trivial⟩)).mono (fun _ _ q=>⟨q.1,(below_alloc1 wr (.cells #[.func (.func 129) #[] #[.pointer (some ⟨bu,0,none⟩)]] 105)).trans (q.2.mono (below_alloc1 wr (.cells #[.func (.func 129) #[] #[.pointer (some ⟨bu,0,none⟩)]] 105)).size)⟩))
 have HA1:=zh (show ∀ wr:World,Below w.heap.size w wr->Calls Tryz.prog 95 #[.agg #[.int .i64 12,.slice A1 ws.length c1,.slice A2 nums.length c2,.slice A3 ks.length c3,.int .i64 ps],.int .i64 1,.int .i64 0] wr fun e w'=>e=.returned (.bool (Zj ⟨12,ws,nums,ks,ps⟩ 1 0))/\Below wr.heap.size wr w' from fun wr hb=>HS0.out wr hb 1 0)
 generalize hq:Zj ⟨12,ws,nums,ks,ps⟩ 1 0=H at HA1
 have HQ:=zh hq
 clear hq
 cases H
 ·go_wp2_with (go_at_call 95;(with_reducible refine (HA1.out _ H3.out).mono ?_);rintro e6 w6 ⟨rfl,hb6⟩;have K6:=zh (STB.out _ _ hb6 HH.out);have B6:=zh (Za K6.out);clear hb6)
  go_ret
  exact ⟨by rw [HQ.out];rfl,B6.out⟩
 ·go_wp2_with (first
   | (go_at_call 95;(with_reducible refine (HA1.out _ H3.out).mono ?_);rintro e6 w6 ⟨rfl,hb6⟩;have K6:=zh (STB.out _ _ hb6 HH.out);have T6:=zh (T3.out.below hb6);have B6:=zh (Za K6.out);obtain ⟨⟨k60,k61,k62,k63,k64⟩,_⟩:=id K6.out;skip;clear hb6)
   | (go_at_call 97;(with_reducible refine (A6.out w6 B6.out T6.out).mono ?_);rintro e7 w7 ⟨rfl,hb7⟩;have B7:=zh (B6.out.trans (hb7.mono B6.out.size));clear hb7))
  go_ret
  exact ⟨by rw [HQ.out];rfl,B7.out⟩
theorem Zea (w:World) (v:Value) (ns:List Nd) (va vb vc:Value) (ws:List (List UInt8)) (nums ks:List Int) (ps:Int) (hN:Zn w v ns) (hx:ZJ w ((va,vb,vc),⟨15,ws,nums,ks,ps⟩)) (hk:ZA ks ns.length) :
  Calls Tryz.prog 72 #[v,ndV ((va,vb,vc),⟨15,ws,nums,ks,ps⟩)] w fun e w'=>e=.returned (.bool (Zm ns ⟨15,ws,nums,ks,ps⟩))/\Below w.heap.size w w':=by
 rw [show Zm ns ⟨15,ws,nums,ks,ps⟩=(Zj ⟨15,ws,nums,ks,ps⟩ 1 0&&Zk ns ks []) from rfl]
 obtain ⟨h1,h2,h3⟩:=id hx
 dsimp only at h1 h2 h3
 have AR:=zh (fun (wr:World) (hb:Below w.heap.size w wr) (vf:Value) (ts:List Tst) (hF:ZU wr vf ts)=>ZC wr v vc vf ns ks ts (hN.below hb) (h3.below hb) hF hk)
 have ALL:=zh (fun (wr:World) (hb:Below w.heap.size w wr) (u:Value) (t:Tst) (hu:Zp wr t u)=>ZB wr v vc u ns ks t (hN.below hb) (h3.below hb) hu hk)
 have HS0:=zh (fun (wr:World) (hb:Below w.heap.size w wr) (a b:Nat)=>ZG wr _ a b (hx.below hb))
 obtain ⟨A1,c1,rfl,_⟩:=h1
 obtain ⟨A2,c2,rfl,_,_,R2'⟩:=h2
 have R2:=zh R2'
 clear R2'
 obtain ⟨A3,c3,rfl,_⟩:=h3
 unfold ndV at HS0 ⊢
 dsimp only at HS0 ⊢
 clear hx hN hk
 have STB:=zh (show Stb (fun w'=>(w'.cell? ⟨w.heap.size,0,none⟩=some (.int .i64 15)/\w'.cell? ⟨w.heap.size,1,none⟩=some (.slice A1 ws.length c1)/\w'.cell? ⟨w.heap.size,2,none⟩=some (.slice A2 nums.length c2)/\w'.cell? ⟨w.heap.size,3,none⟩=some (.slice A3 ks.length c3)/\w'.cell? ⟨w.heap.size,4,none⟩=some (.int .i64 ps))/\Below w.heap.size w w') from Zc (Zc (Zb _ _) (Zc (Zb _ _) (Zc (Zb _ _) (Zc (Zb _ _) (Zb _ _))))) (Zq w))
 go_enter Tryz.func72,Tryz.ntmps72
 go_upto_region 1 with fail
 have HS1:((w.alloc (.cells #[.int .i64 15,.slice A1 ws.length c1,.slice A2 nums.length c2,.slice A3 ks.length c3,.int .i64 ps] 27)).cell? ⟨w.heap.size,0,none⟩=some (.int .i64 15)/\(w.alloc (.cells #[.int .i64 15,.slice A1 ws.length c1,.slice A2 nums.length c2,.slice A3 ks.length c3,.int .i64 ps] 27)).cell? ⟨w.heap.size,1,none⟩=some (.slice A1 ws.length c1)/\(w.alloc (.cells #[.int .i64 15,.slice A1 ws.length c1,.slice A2 nums.length c2,.slice A3 ks.length c3,.int .i64 ps] 27)).cell? ⟨w.heap.size,2,none⟩=some (.slice A2 nums.length c2)/\(w.alloc (.cells #[.int .i64 15,.slice A1 ws.length c1,.slice A2 nums.length c2,.slice A3 ks.length c3,.int .i64 ps] 27)).cell? ⟨w.heap.size,3,none⟩=some (.slice A3 ks.length c3)/\(w.alloc (.cells #[.int .i64 15,.slice A1 ws.length c1,.slice A2 nums.length c2,.slice A3 ks.length c3,.int .i64 ps] 27)).cell? ⟨w.heap.size,4,none⟩=some (.int .i64 ps))/\Below w.heap.size w (w.alloc (.cells #[.int .i64 15,.slice A1 ws.length c1,.slice A2 nums.length c2,.slice A3 ks.length c3,.int .i64 ps] 27)):=⟨⟨(Blk.start w _ _).cell 0,(Blk.start w _ _).cell 1,(Blk.start w _ _).cell 2,(Blk.start w _ _).cell 3,(Blk.start w _ _).cell 4⟩,below_alloc1 w _⟩
 generalize (w.alloc (.cells #[.int .i64 15,.slice A1 ws.length c1,.slice A2 nums.length c2,.slice A3 ks.length c3,.int .i64 ps] 27))=w1 at *
 have HS:(w1.drew.cell? ⟨w.heap.size,0,none⟩=some (.int .i64 15)/\w1.drew.cell? ⟨w.heap.size,1,none⟩=some (.slice A1 ws.length c1)/\w1.drew.cell? ⟨w.heap.size,2,none⟩=some (.slice A2 nums.length c2)/\w1.drew.cell? ⟨w.heap.size,3,none⟩=some (.slice A3 ks.length c3)/\w1.drew.cell? ⟨w.heap.size,4,none⟩=some (.int .i64 ps))/\Below w.heap.size w w1.drew:=⟨HS1.1,HS1.2.drew⟩
 clear HS1
 refine wp_region_noPanic ?_
 refine wp_region_held_drew (S:=(fun w'=>(w'.cell? ⟨w.heap.size,0,none⟩=some (.int .i64 15)/\w'.cell? ⟨w.heap.size,1,none⟩=some (.slice A1 ws.length c1)/\w'.cell? ⟨w.heap.size,2,none⟩=some (.slice A2 nums.length c2)/\w'.cell? ⟨w.heap.size,3,none⟩=some (.slice A3 ks.length c3)/\w'.cell? ⟨w.heap.size,4,none⟩=some (.int .i64 ps))/\Below w.heap.size w w')) (by kernel_rfl) HS (fun hHeld=>?_)
 clear HS
 refine tk 0 rfl ?_
 refine tk 1 rfl ?_
 refine tk 2 rfl ?_
 (try simp only [cl,Act.put])
 refine rd 3 rfl fun K hK=>?_
 go_simp
 refine hK.out _ _ ?_ (fun hH2=>?_)
 ·exact STB.out _ _ (below_alloc1 _ _) (by with_reducible assumption)
 clear hK K hHeld;have hHeld:=hH2;clear hH2
 (try simp only [cl,Act.put])
 refine rd 4 rfl fun K hK=>?_
 go_simp
 (go_at_call 94;(with_reducible refine (Zf _ _ _).mono ?_);rintro e5 w5 ⟨⟨u,rfl,hT⟩,hb⟩;obtain ⟨bu,Au,cu,rfl,_,_⟩:=id hT)
 go_wp2_with fail
 refine hK.out _ _ (STB.out _ _ hb (by with_reducible assumption)) (fun hH2=>?_)
 clear hK K hHeld hb;have hHeld:=hH2;clear hH2
 (try simp only [cl,Act.put])
 refine tk 5 rfl ?_
 refine tk 6 rfl ?_
 (try simp only [cl,Act.put])
 refine wpAnyH_done (by kernel_rfl) ?_ _
 refine NoPanic.normal ?_
 have T3:=zh hT
 have H3:=zh (Za hHeld)
 have HH:=zh hHeld
 clear hT
 obtain ⟨⟨g0,g1,g2,g3,g4⟩,_⟩:=hHeld
 have A6:=zh (fun (wr:World) (B:Below w.heap.size w wr) (T:Zp wr (.is [7]) (.func (.func 129) #[] #[.pointer (some ⟨bu,0,none⟩)]))=>show Calls Tryz.prog 97 #[v,.slice A3 ks.length c3,.slice none 0 0] wr (fun e w'=>e=.returned (.bool (Zk ns ks []))/\Below wr.heap.size wr w') from AR.out wr B _ [] (Za7 wr))
 have HA1:=zh (show ∀ wr:World,Below w.heap.size w wr->Calls Tryz.prog 95 #[.agg #[.int .i64 15,.slice A1 ws.length c1,.slice A2 nums.length c2,.slice A3 ks.length c3,.int .i64 ps],.int .i64 1,.int .i64 0] wr fun e w'=>e=.returned (.bool (Zj ⟨15,ws,nums,ks,ps⟩ 1 0))/\Below wr.heap.size wr w' from fun wr hb=>HS0.out wr hb 1 0)
 generalize hq:Zj ⟨15,ws,nums,ks,ps⟩ 1 0=H at HA1
 have HQ:=zh hq
 clear hq
 cases H
 ·go_wp2_with (go_at_call 95;(with_reducible refine (HA1.out _ H3.out).mono ?_);rintro e6 w6 ⟨rfl,hb6⟩;have K6:=zh (STB.out _ _ hb6 HH.out);have B6:=zh (Za K6.out);clear hb6)
  go_ret
  exact ⟨by rw [HQ.out];rfl,B6.out⟩
 ·go_wp2_with (first
   | (go_at_call 95;(with_reducible refine (HA1.out _ H3.out).mono ?_);rintro e6 w6 ⟨rfl,hb6⟩;have K6:=zh (STB.out _ _ hb6 HH.out);have T6:=zh (T3.out.below hb6);have B6:=zh (Za K6.out);obtain ⟨⟨k60,k61,k62,k63,k64⟩,_⟩:=id K6.out;skip;clear hb6)
   | (go_at_call 97;(with_reducible refine (A6.out w6 B6.out T6.out).mono ?_);rintro e7 w7 ⟨rfl,hb7⟩;have B7:=zh (B6.out.trans (hb7.mono B6.out.size));clear hb7))
  go_ret
  exact ⟨by rw [HQ.out];rfl,B7.out⟩
end
end Go.Proofs.YtkgkmdhpnhmcpaaGreatDoor
