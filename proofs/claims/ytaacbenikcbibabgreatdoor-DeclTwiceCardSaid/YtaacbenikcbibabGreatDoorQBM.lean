import Derived.Test.YtaacbenikcbibabGreatDoorQBK
set_option maxRecDepth 100000
set_option maxHeartbeats 8000000
namespace Go.Proofs.YtaacbenikcbibabGreatDoor
section
open Go.RowKit
theorem Zgg (w:World) (v:Value) (ns:List Nd) (va vb vc:Value) (ws:List (List UInt8)) (nums ks:List Int) (ps:Int) (hN:Zo w v ns) (hx:ZO w ((va,vb,vc),⟨21,ws,nums,ks,ps⟩)) (hk:ZA ks ns.length) :
  Calls Tryz.prog 40 #[v,ndV ((va,vb,vc),⟨21,ws,nums,ks,ps⟩)] w fun e w'=>e=.returned (.bool (Zn ns ⟨21,ws,nums,ks,ps⟩))/\Below w.heap.size w w':=by
 rw [show Zn ns ⟨21,ws,nums,ks,ps⟩=(Zj ⟨21,ws,nums,ks,ps⟩ 1 0&&Zl ns ks []) from rfl]
 obtain ⟨h1,h2,h3⟩:=id hx
 dsimp only at h1 h2 h3
 have AR:=Lib.hid (fun (wr:World) (hb:Below w.heap.size w wr) (vf:Value) (ts:List Tst) (hF:ZY wr vf ts)=>ZE wr v vc vf ns ks ts (hN.below hb) (h3.below hb) hF hk)
 have ALL:=Lib.hid (fun (wr:World) (hb:Below w.heap.size w wr) (u:Value) (t:Tst) (hu:Zq wr t u)=>ZD wr v vc u ns ks t (hN.below hb) (h3.below hb) hu hk)
 have HS0:=Lib.hid (fun (wr:World) (hb:Below w.heap.size w wr) (a b:Nat)=>ZK wr _ a b (hx.below hb))
 obtain ⟨A1,c1,rfl,_⟩:=h1
 obtain ⟨A2,c2,rfl,_,_,R2'⟩:=h2
 have R2:=Lib.hid R2'
 clear R2'
 obtain ⟨A3,c3,rfl,_⟩:=h3
 unfold ndV at HS0 ⊢
 dsimp only at HS0 ⊢
 clear hx hN hk
 have STB:=Lib.hid (show Stb (fun w'=>(w'.cell? ⟨w.heap.size,0,none⟩=some (.int .i64 21)/\w'.cell? ⟨w.heap.size,1,none⟩=some (.slice A1 ws.length c1)/\w'.cell? ⟨w.heap.size,2,none⟩=some (.slice A2 nums.length c2)/\w'.cell? ⟨w.heap.size,3,none⟩=some (.slice A3 ks.length c3)/\w'.cell? ⟨w.heap.size,4,none⟩=some (.int .i64 ps))/\Below w.heap.size w w') from Zd (Zd (Zc _ _) (Zd (Zc _ _) (Zd (Zc _ _) (Zd (Zc _ _) (Zc _ _))))) (Zr w))
 go_enter Tryz.func40,Tryz.ntmps40
 go_upto_region 1 with fail
 have HS1:((w.alloc (.cells #[.int .i64 21,.slice A1 ws.length c1,.slice A2 nums.length c2,.slice A3 ks.length c3,.int .i64 ps] 27)).cell? ⟨w.heap.size,0,none⟩=some (.int .i64 21)/\(w.alloc (.cells #[.int .i64 21,.slice A1 ws.length c1,.slice A2 nums.length c2,.slice A3 ks.length c3,.int .i64 ps] 27)).cell? ⟨w.heap.size,1,none⟩=some (.slice A1 ws.length c1)/\(w.alloc (.cells #[.int .i64 21,.slice A1 ws.length c1,.slice A2 nums.length c2,.slice A3 ks.length c3,.int .i64 ps] 27)).cell? ⟨w.heap.size,2,none⟩=some (.slice A2 nums.length c2)/\(w.alloc (.cells #[.int .i64 21,.slice A1 ws.length c1,.slice A2 nums.length c2,.slice A3 ks.length c3,.int .i64 ps] 27)).cell? ⟨w.heap.size,3,none⟩=some (.slice A3 ks.length c3)/\(w.alloc (.cells #[.int .i64 21,.slice A1 ws.length c1,.slice A2 nums.length c2,.slice A3 ks.length c3,.int .i64 ps] 27)).cell? ⟨w.heap.size,4,none⟩=some (.int .i64 ps))/\Below w.heap.size w (w.alloc (.cells #[.int .i64 21,.slice A1 ws.length c1,.slice A2 nums.length c2,.slice A3 ks.length c3,.int .i64 ps] 27)):=⟨⟨(Blk.start w _ _).cell 0,(Blk.start w _ _).cell 1,(Blk.start w _ _).cell 2,(Blk.start w _ _).cell 3,(Blk.start w _ _).cell 4⟩,Za w _⟩
 generalize (w.alloc (.cells #[.int .i64 21,.slice A1 ws.length c1,.slice A2 nums.length c2,.slice A3 ks.length c3,.int .i64 ps] 27))=w1 at *
 have HS:(w1.drew.cell? ⟨w.heap.size,0,none⟩=some (.int .i64 21)/\w1.drew.cell? ⟨w.heap.size,1,none⟩=some (.slice A1 ws.length c1)/\w1.drew.cell? ⟨w.heap.size,2,none⟩=some (.slice A2 nums.length c2)/\w1.drew.cell? ⟨w.heap.size,3,none⟩=some (.slice A3 ks.length c3)/\w1.drew.cell? ⟨w.heap.size,4,none⟩=some (.int .i64 ps))/\Below w.heap.size w w1.drew:=⟨HS1.1,HS1.2.drew⟩
 clear HS1
 refine wp_region_noPanic ?_
 refine wp_region_held_drew (S:=(fun w'=>(w'.cell? ⟨w.heap.size,0,none⟩=some (.int .i64 21)/\w'.cell? ⟨w.heap.size,1,none⟩=some (.slice A1 ws.length c1)/\w'.cell? ⟨w.heap.size,2,none⟩=some (.slice A2 nums.length c2)/\w'.cell? ⟨w.heap.size,3,none⟩=some (.slice A3 ks.length c3)/\w'.cell? ⟨w.heap.size,4,none⟩=some (.int .i64 ps))/\Below w.heap.size w w')) (by kernel_rfl) HS (fun hHeld=>?_)
 clear HS
 refine tk 0 rfl ?_
 refine tk 1 rfl ?_
 refine tk 2 rfl ?_
 (try simp only [cl,Act.put])
 refine rd 3 rfl fun K hK=>?_
 go_simp
 refine hK.out _ _ ?_ (fun hH2=>?_)
 ·exact STB.out _ _ (Za _ _) (by with_reducible assumption)
 clear hK K hHeld;have hHeld:=hH2;clear hH2
 (try simp only [cl,Act.put])
 refine rd 4 rfl fun K hK=>?_
 go_simp
 (go_at_call 55;(with_reducible refine (Zg _ _ _).mono ?_);rintro e5 w5 ⟨⟨u,rfl,hT⟩,hb⟩;obtain ⟨bu,Au,cu,rfl,_,_⟩:=id hT)
 go_wp2_with fail
 refine hK.out _ _ (STB.out _ _ hb (by with_reducible assumption)) (fun hH2=>?_)
 clear hK K hHeld hb;have hHeld:=hH2;clear hH2
 (try simp only [cl,Act.put])
 refine tk 5 rfl ?_
 refine tk 6 rfl ?_
 (try simp only [cl,Act.put])
 refine wpAnyH_done (by kernel_rfl) ?_ _
 refine NoPanic.normal ?_
 have T3:=Lib.hid hT
 have H3:=Lib.hid (Zb hHeld)
 have HH:=Lib.hid hHeld
 clear hT
 obtain ⟨⟨g0,g1,g2,g3,g4⟩,_⟩:=hHeld
 have A6:=Lib.hid (fun (wr:World) (B:Below w.heap.size w wr) (T:Zq wr (.is [7]) (.func (.func 87) #[] #[.pointer (some ⟨bu,0,none⟩)]))=>show Calls Tryz.prog 58 #[v,.slice A3 ks.length c3,.slice none 0 0] wr (fun e w'=>e=.returned (.bool (Zl ns ks []))/\Below wr.heap.size wr w') from AR.out wr B _ [] (Za8 wr))
 have HA1:=Lib.hid (show ∀ wr:World,Below w.heap.size w wr->Calls Tryz.prog 56 #[.agg #[.int .i64 21,.slice A1 ws.length c1,.slice A2 nums.length c2,.slice A3 ks.length c3,.int .i64 ps],.int .i64 1,.int .i64 0] wr fun e w'=>e=.returned (.bool (Zj ⟨21,ws,nums,ks,ps⟩ 1 0))/\Below wr.heap.size wr w' from fun wr hb=>HS0.out wr hb 1 0)
 generalize hq:Zj ⟨21,ws,nums,ks,ps⟩ 1 0=H at HA1
 have HQ:=Lib.hid hq
 clear hq
 cases H
 ·go_wp2_with (go_at_call 56;(with_reducible refine (HA1.out _ H3.out).mono ?_);rintro e6 w6 ⟨rfl,hb6⟩;have K6:=Lib.hid (STB.out _ _ hb6 HH.out);have B6:=Lib.hid (Zb K6.out);clear hb6)
  go_ret
  exact ⟨by rw [HQ.out];rfl,B6.out⟩
 ·go_wp2_with (first
   | (go_at_call 56;(with_reducible refine (HA1.out _ H3.out).mono ?_);rintro e6 w6 ⟨rfl,hb6⟩;have K6:=Lib.hid (STB.out _ _ hb6 HH.out);have T6:=Lib.hid (T3.out.below hb6);have B6:=Lib.hid (Zb K6.out);obtain ⟨⟨k60,k61,k62,k63,k64⟩,_⟩:=id K6.out;skip;clear hb6)
   | (go_at_call 58;(with_reducible refine (A6.out w6 B6.out T6.out).mono ?_);rintro e7 w7 ⟨rfl,hb7⟩;have B7:=Lib.hid (B6.out.trans (hb7.mono B6.out.size));clear hb7))
  go_ret
  exact ⟨by rw [HQ.out];rfl,B7.out⟩
theorem ZeM (w:World) (v:Value) (ns:List Nd) (va vb vc:Value) (ws:List (List UInt8)) (nums ks:List Int) (ps:Int) (hN:Zo w v ns) (hx:ZO w ((va,vb,vc),⟨17,ws,nums,ks,ps⟩)) (hk:ZA ks ns.length) :
  Calls Tryz.prog 40 #[v,ndV ((va,vb,vc),⟨17,ws,nums,ks,ps⟩)] w fun e w'=>e=.returned (.bool (Zn ns ⟨17,ws,nums,ks,ps⟩))/\Below w.heap.size w w':=by
 rw [show Zn ns ⟨17,ws,nums,ks,ps⟩=(Zj ⟨17,ws,nums,ks,ps⟩ 0 0&&Zl ns ks [ZP,isB [7]]) from rfl]
 obtain ⟨h1,h2,h3⟩:=id hx
 dsimp only at h1 h2 h3
 have AR:=Lib.hid (fun (wr:World) (hb:Below w.heap.size w wr) (vf:Value) (ts:List Tst) (hF:ZY wr vf ts)=>ZE wr v vc vf ns ks ts (hN.below hb) (h3.below hb) hF hk)
 have ALL:=Lib.hid (fun (wr:World) (hb:Below w.heap.size w wr) (u:Value) (t:Tst) (hu:Zq wr t u)=>ZD wr v vc u ns ks t (hN.below hb) (h3.below hb) hu hk)
 have HS0:=Lib.hid (fun (wr:World) (hb:Below w.heap.size w wr) (a b:Nat)=>ZK wr _ a b (hx.below hb))
 obtain ⟨A1,c1,rfl,_⟩:=h1
 obtain ⟨A2,c2,rfl,_,_,R2'⟩:=h2
 have R2:=Lib.hid R2'
 clear R2'
 obtain ⟨A3,c3,rfl,_⟩:=h3
 unfold ndV at HS0 ⊢
 dsimp only at HS0 ⊢
 clear hx hN hk
 have STB:=Lib.hid (show Stb (fun w'=>(w'.cell? ⟨w.heap.size,0,none⟩=some (.int .i64 17)/\w'.cell? ⟨w.heap.size,1,none⟩=some (.slice A1 ws.length c1)/\w'.cell? ⟨w.heap.size,2,none⟩=some (.slice A2 nums.length c2)/\w'.cell? ⟨w.heap.size,3,none⟩=some (.slice A3 ks.length c3)/\w'.cell? ⟨w.heap.size,4,none⟩=some (.int .i64 ps))/\Below w.heap.size w w') from Zd (Zd (Zc _ _) (Zd (Zc _ _) (Zd (Zc _ _) (Zd (Zc _ _) (Zc _ _))))) (Zr w))
 go_enter Tryz.func40,Tryz.ntmps40
 go_upto_region 1 with fail
 have HS1:((w.alloc (.cells #[.int .i64 17,.slice A1 ws.length c1,.slice A2 nums.length c2,.slice A3 ks.length c3,.int .i64 ps] 27)).cell? ⟨w.heap.size,0,none⟩=some (.int .i64 17)/\(w.alloc (.cells #[.int .i64 17,.slice A1 ws.length c1,.slice A2 nums.length c2,.slice A3 ks.length c3,.int .i64 ps] 27)).cell? ⟨w.heap.size,1,none⟩=some (.slice A1 ws.length c1)/\(w.alloc (.cells #[.int .i64 17,.slice A1 ws.length c1,.slice A2 nums.length c2,.slice A3 ks.length c3,.int .i64 ps] 27)).cell? ⟨w.heap.size,2,none⟩=some (.slice A2 nums.length c2)/\(w.alloc (.cells #[.int .i64 17,.slice A1 ws.length c1,.slice A2 nums.length c2,.slice A3 ks.length c3,.int .i64 ps] 27)).cell? ⟨w.heap.size,3,none⟩=some (.slice A3 ks.length c3)/\(w.alloc (.cells #[.int .i64 17,.slice A1 ws.length c1,.slice A2 nums.length c2,.slice A3 ks.length c3,.int .i64 ps] 27)).cell? ⟨w.heap.size,4,none⟩=some (.int .i64 ps))/\Below w.heap.size w (w.alloc (.cells #[.int .i64 17,.slice A1 ws.length c1,.slice A2 nums.length c2,.slice A3 ks.length c3,.int .i64 ps] 27)):=⟨⟨(Blk.start w _ _).cell 0,(Blk.start w _ _).cell 1,(Blk.start w _ _).cell 2,(Blk.start w _ _).cell 3,(Blk.start w _ _).cell 4⟩,Za w _⟩
 generalize (w.alloc (.cells #[.int .i64 17,.slice A1 ws.length c1,.slice A2 nums.length c2,.slice A3 ks.length c3,.int .i64 ps] 27))=w1 at *
 have HS:(w1.drew.cell? ⟨w.heap.size,0,none⟩=some (.int .i64 17)/\w1.drew.cell? ⟨w.heap.size,1,none⟩=some (.slice A1 ws.length c1)/\w1.drew.cell? ⟨w.heap.size,2,none⟩=some (.slice A2 nums.length c2)/\w1.drew.cell? ⟨w.heap.size,3,none⟩=some (.slice A3 ks.length c3)/\w1.drew.cell? ⟨w.heap.size,4,none⟩=some (.int .i64 ps))/\Below w.heap.size w w1.drew:=⟨HS1.1,HS1.2.drew⟩
 clear HS1
 refine wp_region_noPanic ?_
 refine wp_region_held_drew (S:=(fun w'=>(w'.cell? ⟨w.heap.size,0,none⟩=some (.int .i64 17)/\w'.cell? ⟨w.heap.size,1,none⟩=some (.slice A1 ws.length c1)/\w'.cell? ⟨w.heap.size,2,none⟩=some (.slice A2 nums.length c2)/\w'.cell? ⟨w.heap.size,3,none⟩=some (.slice A3 ks.length c3)/\w'.cell? ⟨w.heap.size,4,none⟩=some (.int .i64 ps))/\Below w.heap.size w w')) (by kernel_rfl) HS (fun hHeld=>?_)
 clear HS
 refine tk 0 rfl ?_
 refine tk 1 rfl ?_
 refine tk 2 rfl ?_
 (try simp only [cl,Act.put])
 refine rd 3 rfl fun K hK=>?_
 go_simp
 refine hK.out _ _ ?_ (fun hH2=>?_)
 ·exact STB.out _ _ (Za _ _) (by with_reducible assumption)
 clear hK K hHeld;have hHeld:=hH2;clear hH2
 (try simp only [cl,Act.put])
 refine rd 4 rfl fun K hK=>?_
 go_simp
 (go_at_call 55;(with_reducible refine (Zg _ _ _).mono ?_);rintro e5 w5 ⟨⟨u,rfl,hT⟩,hb⟩;obtain ⟨bu,Au,cu,rfl,_,_⟩:=id hT)
 go_wp2_with fail
 refine hK.out _ _ (STB.out _ _ hb (by with_reducible assumption)) (fun hH2=>?_)
 clear hK K hHeld hb;have hHeld:=hH2;clear hH2
 (try simp only [cl,Act.put])
 refine tk 5 rfl ?_
 refine tk 6 rfl ?_
 (try simp only [cl,Act.put])
 refine wpAnyH_done (by kernel_rfl) ?_ _
 refine NoPanic.normal ?_
 have T3:=Lib.hid hT
 have H3:=Lib.hid (Zb hHeld)
 have HH:=Lib.hid hHeld
 clear hT
 obtain ⟨⟨g0,g1,g2,g3,g4⟩,_⟩:=hHeld
 have A6:=Lib.hid (fun (wr:World) (B:Below w.heap.size w wr) (T:Zq wr (.is [7]) (.func (.func 87) #[] #[.pointer (some ⟨bu,0,none⟩)]))=>show Calls Tryz.prog 58 #[v,.slice A3 ks.length c3,.slice (some ⟨wr.heap.size,0,none⟩) 2 2] (wr.alloc (.cells #[.func (.func 61) #[] #[],.func (.func 87) #[] #[.pointer (some ⟨bu,0,none⟩)]] 108)) (fun e w'=>e=.returned (.bool (Zl ns ks [ZP,isB [7]]))/\Below wr.heap.size wr w') from (AR.out (wr.alloc (.cells #[.func (.func 61) #[] #[],.func (.func 87) #[] #[.pointer (some ⟨bu,0,none⟩)]] 108)) (B.trans ((Za _ _).mono B.size)) _ [.expr,.is [7]] (Zas wr [.expr,.is [7]] [.func (.func 61) #[] #[],.func (.func 87) #[] #[.pointer (some ⟨bu,0,none⟩)]] 108 (by simp [maxLen]) ⟨rfl,T.below (Za _ _),trivial⟩)).mono (fun _ _ q=>⟨q.1,(Za wr (.cells #[.func (.func 61) #[] #[],.func (.func 87) #[] #[.pointer (some ⟨bu,0,none⟩)]] 108)).trans (q.2.mono (Za wr (.cells #[.func (.func 61) #[] #[],.func (.func 87) #[] #[.pointer (some ⟨bu,0,none⟩)]] 108)).size)⟩))
 have HA1:=Lib.hid (show ∀ wr:World,Below w.heap.size w wr->Calls Tryz.prog 56 #[.agg #[.int .i64 17,.slice A1 ws.length c1,.slice A2 nums.length c2,.slice A3 ks.length c3,.int .i64 ps],.int .i64 0,.int .i64 0] wr fun e w'=>e=.returned (.bool (Zj ⟨17,ws,nums,ks,ps⟩ 0 0))/\Below wr.heap.size wr w' from fun wr hb=>HS0.out wr hb 0 0)
 generalize hq:Zj ⟨17,ws,nums,ks,ps⟩ 0 0=H at HA1
 have HQ:=Lib.hid hq
 clear hq
 cases H
 ·go_wp2_with (go_at_call 56;(with_reducible refine (HA1.out _ H3.out).mono ?_);rintro e6 w6 ⟨rfl,hb6⟩;have K6:=Lib.hid (STB.out _ _ hb6 HH.out);have B6:=Lib.hid (Zb K6.out);clear hb6)
  go_ret
  exact ⟨by rw [HQ.out];rfl,B6.out⟩
 ·go_wp2_with (first
   | (go_at_call 56;(with_reducible refine (HA1.out _ H3.out).mono ?_);rintro e6 w6 ⟨rfl,hb6⟩;have K6:=Lib.hid (STB.out _ _ hb6 HH.out);have T6:=Lib.hid (T3.out.below hb6);have B6:=Lib.hid (Zb K6.out);obtain ⟨⟨k60,k61,k62,k63,k64⟩,_⟩:=id K6.out;skip;clear hb6)
   | (go_at_call 58;(with_reducible refine (A6.out w6 B6.out T6.out).mono ?_);rintro e7 w7 ⟨rfl,hb7⟩;have B7:=Lib.hid (B6.out.trans (hb7.mono B6.out.size));clear hb7))
  go_ret
  exact ⟨by rw [HQ.out];rfl,B7.out⟩
theorem Zd5 (w:World) (v:Value) (ns:List Nd) (va vb vc:Value) (ws:List (List UInt8)) (nums ks:List Int) (ps:Int) (hN:Zo w v ns) (hx:ZO w ((va,vb,vc),⟨18,ws,nums,ks,ps⟩)) (hk:ZA ks ns.length) :
  Calls Tryz.prog 40 #[v,ndV ((va,vb,vc),⟨18,ws,nums,ks,ps⟩)] w fun e w'=>e=.returned (.bool (Zn ns ⟨18,ws,nums,ks,ps⟩))/\Below w.heap.size w w':=by
 rw [show Zn ns ⟨18,ws,nums,ks,ps⟩=(Zj ⟨18,ws,nums,ks,ps⟩ 0 0&&Zl ns ks [ZP]) from rfl]
 obtain ⟨h1,h2,h3⟩:=id hx
 dsimp only at h1 h2 h3
 have AR:=Lib.hid (fun (wr:World) (hb:Below w.heap.size w wr) (vf:Value) (ts:List Tst) (hF:ZY wr vf ts)=>ZE wr v vc vf ns ks ts (hN.below hb) (h3.below hb) hF hk)
 have ALL:=Lib.hid (fun (wr:World) (hb:Below w.heap.size w wr) (u:Value) (t:Tst) (hu:Zq wr t u)=>ZD wr v vc u ns ks t (hN.below hb) (h3.below hb) hu hk)
 have HS0:=Lib.hid (fun (wr:World) (hb:Below w.heap.size w wr) (a b:Nat)=>ZK wr _ a b (hx.below hb))
 obtain ⟨A1,c1,rfl,_⟩:=h1
 obtain ⟨A2,c2,rfl,_,_,R2'⟩:=h2
 have R2:=Lib.hid R2'
 clear R2'
 obtain ⟨A3,c3,rfl,_⟩:=h3
 unfold ndV at HS0 ⊢
 dsimp only at HS0 ⊢
 clear hx hN hk
 have STB:=Lib.hid (show Stb (fun w'=>(w'.cell? ⟨w.heap.size,0,none⟩=some (.int .i64 18)/\w'.cell? ⟨w.heap.size,1,none⟩=some (.slice A1 ws.length c1)/\w'.cell? ⟨w.heap.size,2,none⟩=some (.slice A2 nums.length c2)/\w'.cell? ⟨w.heap.size,3,none⟩=some (.slice A3 ks.length c3)/\w'.cell? ⟨w.heap.size,4,none⟩=some (.int .i64 ps))/\Below w.heap.size w w') from Zd (Zd (Zc _ _) (Zd (Zc _ _) (Zd (Zc _ _) (Zd (Zc _ _) (Zc _ _))))) (Zr w))
 go_enter Tryz.func40,Tryz.ntmps40
 go_upto_region 1 with fail
 have HS1:((w.alloc (.cells #[.int .i64 18,.slice A1 ws.length c1,.slice A2 nums.length c2,.slice A3 ks.length c3,.int .i64 ps] 27)).cell? ⟨w.heap.size,0,none⟩=some (.int .i64 18)/\(w.alloc (.cells #[.int .i64 18,.slice A1 ws.length c1,.slice A2 nums.length c2,.slice A3 ks.length c3,.int .i64 ps] 27)).cell? ⟨w.heap.size,1,none⟩=some (.slice A1 ws.length c1)/\(w.alloc (.cells #[.int .i64 18,.slice A1 ws.length c1,.slice A2 nums.length c2,.slice A3 ks.length c3,.int .i64 ps] 27)).cell? ⟨w.heap.size,2,none⟩=some (.slice A2 nums.length c2)/\(w.alloc (.cells #[.int .i64 18,.slice A1 ws.length c1,.slice A2 nums.length c2,.slice A3 ks.length c3,.int .i64 ps] 27)).cell? ⟨w.heap.size,3,none⟩=some (.slice A3 ks.length c3)/\(w.alloc (.cells #[.int .i64 18,.slice A1 ws.length c1,.slice A2 nums.length c2,.slice A3 ks.length c3,.int .i64 ps] 27)).cell? ⟨w.heap.size,4,none⟩=some (.int .i64 ps))/\Below w.heap.size w (w.alloc (.cells #[.int .i64 18,.slice A1 ws.length c1,.slice A2 nums.length c2,.slice A3 ks.length c3,.int .i64 ps] 27)):=⟨⟨(Blk.start w _ _).cell 0,(Blk.start w _ _).cell 1,(Blk.start w _ _).cell 2,(Blk.start w _ _).cell 3,(Blk.start w _ _).cell 4⟩,Za w _⟩
 generalize (w.alloc (.cells #[.int .i64 18,.slice A1 ws.length c1,.slice A2 nums.length c2,.slice A3 ks.length c3,.int .i64 ps] 27))=w1 at *
 have HS:(w1.drew.cell? ⟨w.heap.size,0,none⟩=some (.int .i64 18)/\w1.drew.cell? ⟨w.heap.size,1,none⟩=some (.slice A1 ws.length c1)/\w1.drew.cell? ⟨w.heap.size,2,none⟩=some (.slice A2 nums.length c2)/\w1.drew.cell? ⟨w.heap.size,3,none⟩=some (.slice A3 ks.length c3)/\w1.drew.cell? ⟨w.heap.size,4,none⟩=some (.int .i64 ps))/\Below w.heap.size w w1.drew:=⟨HS1.1,HS1.2.drew⟩
 clear HS1
 refine wp_region_noPanic ?_
 refine wp_region_held_drew (S:=(fun w'=>(w'.cell? ⟨w.heap.size,0,none⟩=some (.int .i64 18)/\w'.cell? ⟨w.heap.size,1,none⟩=some (.slice A1 ws.length c1)/\w'.cell? ⟨w.heap.size,2,none⟩=some (.slice A2 nums.length c2)/\w'.cell? ⟨w.heap.size,3,none⟩=some (.slice A3 ks.length c3)/\w'.cell? ⟨w.heap.size,4,none⟩=some (.int .i64 ps))/\Below w.heap.size w w')) (by kernel_rfl) HS (fun hHeld=>?_)
 clear HS
 refine tk 0 rfl ?_
 refine tk 1 rfl ?_
 refine tk 2 rfl ?_
 (try simp only [cl,Act.put])
 refine rd 3 rfl fun K hK=>?_
 go_simp
 refine hK.out _ _ ?_ (fun hH2=>?_)
 ·exact STB.out _ _ (Za _ _) (by with_reducible assumption)
 clear hK K hHeld;have hHeld:=hH2;clear hH2
 (try simp only [cl,Act.put])
 refine rd 4 rfl fun K hK=>?_
 go_simp
 (go_at_call 55;(with_reducible refine (Zg _ _ _).mono ?_);rintro e5 w5 ⟨⟨u,rfl,hT⟩,hb⟩;obtain ⟨bu,Au,cu,rfl,_,_⟩:=id hT)
 go_wp2_with fail
 refine hK.out _ _ (STB.out _ _ hb (by with_reducible assumption)) (fun hH2=>?_)
 clear hK K hHeld hb;have hHeld:=hH2;clear hH2
 (try simp only [cl,Act.put])
 refine tk 5 rfl ?_
 refine tk 6 rfl ?_
 (try simp only [cl,Act.put])
 refine wpAnyH_done (by kernel_rfl) ?_ _
 refine NoPanic.normal ?_
 have T3:=Lib.hid hT
 have H3:=Lib.hid (Zb hHeld)
 have HH:=Lib.hid hHeld
 clear hT
 obtain ⟨⟨g0,g1,g2,g3,g4⟩,_⟩:=hHeld
 have A6:=Lib.hid (fun (wr:World) (B:Below w.heap.size w wr) (T:Zq wr (.is [7]) (.func (.func 87) #[] #[.pointer (some ⟨bu,0,none⟩)]))=>show Calls Tryz.prog 58 #[v,.slice A3 ks.length c3,.slice (some ⟨wr.heap.size,0,none⟩) 1 1] (wr.alloc (.cells #[.func (.func 61) #[] #[]] 108)) (fun e w'=>e=.returned (.bool (Zl ns ks [ZP]))/\Below wr.heap.size wr w') from (AR.out (wr.alloc (.cells #[.func (.func 61) #[] #[]] 108)) (B.trans ((Za _ _).mono B.size)) _ [.expr] (Zas wr [.expr] [.func (.func 61) #[] #[]] 108 (by simp [maxLen]) ⟨rfl,trivial⟩)).mono (fun _ _ q=>⟨q.1,(Za wr (.cells #[.func (.func 61) #[] #[]] 108)).trans (q.2.mono (Za wr (.cells #[.func (.func 61) #[] #[]] 108)).size)⟩))
 have HA1:=Lib.hid (show ∀ wr:World,Below w.heap.size w wr->Calls Tryz.prog 56 #[.agg #[.int .i64 18,.slice A1 ws.length c1,.slice A2 nums.length c2,.slice A3 ks.length c3,.int .i64 ps],.int .i64 0,.int .i64 0] wr fun e w'=>e=.returned (.bool (Zj ⟨18,ws,nums,ks,ps⟩ 0 0))/\Below wr.heap.size wr w' from fun wr hb=>HS0.out wr hb 0 0)
 generalize hq:Zj ⟨18,ws,nums,ks,ps⟩ 0 0=H at HA1
 have HQ:=Lib.hid hq
 clear hq
 cases H
 ·go_wp2_with (go_at_call 56;(with_reducible refine (HA1.out _ H3.out).mono ?_);rintro e6 w6 ⟨rfl,hb6⟩;have K6:=Lib.hid (STB.out _ _ hb6 HH.out);have B6:=Lib.hid (Zb K6.out);clear hb6)
  go_ret
  exact ⟨by rw [HQ.out];rfl,B6.out⟩
 ·go_wp2_with (first
   | (go_at_call 56;(with_reducible refine (HA1.out _ H3.out).mono ?_);rintro e6 w6 ⟨rfl,hb6⟩;have K6:=Lib.hid (STB.out _ _ hb6 HH.out);have T6:=Lib.hid (T3.out.below hb6);have B6:=Lib.hid (Zb K6.out);obtain ⟨⟨k60,k61,k62,k63,k64⟩,_⟩:=id K6.out;skip;clear hb6)
   | (go_at_call 58;(with_reducible refine (A6.out w6 B6.out T6.out).mono ?_);rintro e7 w7 ⟨rfl,hb7⟩;have B7:=Lib.hid (B6.out.trans (hb7.mono B6.out.size));clear hb7))
  go_ret
  exact ⟨by rw [HQ.out];rfl,B7.out⟩
theorem Zgd (w:World) (v:Value) (ns:List Nd) (va vb vc:Value) (ws:List (List UInt8)) (nums ks:List Int) (ps:Int) (hN:Zo w v ns) (hx:ZO w ((va,vb,vc),⟨23,ws,nums,ks,ps⟩)) (hk:ZA ks ns.length) :
  Calls Tryz.prog 40 #[v,ndV ((va,vb,vc),⟨23,ws,nums,ks,ps⟩)] w fun e w'=>e=.returned (.bool (Zn ns ⟨23,ws,nums,ks,ps⟩))/\Below w.heap.size w w':=by
 rw [show Zn ns ⟨23,ws,nums,ks,ps⟩=(Zj ⟨23,ws,nums,ks,ps⟩ 0 0&&Zl ns ks [ZP]) from rfl]
 obtain ⟨h1,h2,h3⟩:=id hx
 dsimp only at h1 h2 h3
 have AR:=Lib.hid (fun (wr:World) (hb:Below w.heap.size w wr) (vf:Value) (ts:List Tst) (hF:ZY wr vf ts)=>ZE wr v vc vf ns ks ts (hN.below hb) (h3.below hb) hF hk)
 have ALL:=Lib.hid (fun (wr:World) (hb:Below w.heap.size w wr) (u:Value) (t:Tst) (hu:Zq wr t u)=>ZD wr v vc u ns ks t (hN.below hb) (h3.below hb) hu hk)
 have HS0:=Lib.hid (fun (wr:World) (hb:Below w.heap.size w wr) (a b:Nat)=>ZK wr _ a b (hx.below hb))
 obtain ⟨A1,c1,rfl,_⟩:=h1
 obtain ⟨A2,c2,rfl,_,_,R2'⟩:=h2
 have R2:=Lib.hid R2'
 clear R2'
 obtain ⟨A3,c3,rfl,_⟩:=h3
 unfold ndV at HS0 ⊢
 dsimp only at HS0 ⊢
 clear hx hN hk
 have STB:=Lib.hid (show Stb (fun w'=>(w'.cell? ⟨w.heap.size,0,none⟩=some (.int .i64 23)/\w'.cell? ⟨w.heap.size,1,none⟩=some (.slice A1 ws.length c1)/\w'.cell? ⟨w.heap.size,2,none⟩=some (.slice A2 nums.length c2)/\w'.cell? ⟨w.heap.size,3,none⟩=some (.slice A3 ks.length c3)/\w'.cell? ⟨w.heap.size,4,none⟩=some (.int .i64 ps))/\Below w.heap.size w w') from Zd (Zd (Zc _ _) (Zd (Zc _ _) (Zd (Zc _ _) (Zd (Zc _ _) (Zc _ _))))) (Zr w))
 go_enter Tryz.func40,Tryz.ntmps40
 go_upto_region 1 with fail
 have HS1:((w.alloc (.cells #[.int .i64 23,.slice A1 ws.length c1,.slice A2 nums.length c2,.slice A3 ks.length c3,.int .i64 ps] 27)).cell? ⟨w.heap.size,0,none⟩=some (.int .i64 23)/\(w.alloc (.cells #[.int .i64 23,.slice A1 ws.length c1,.slice A2 nums.length c2,.slice A3 ks.length c3,.int .i64 ps] 27)).cell? ⟨w.heap.size,1,none⟩=some (.slice A1 ws.length c1)/\(w.alloc (.cells #[.int .i64 23,.slice A1 ws.length c1,.slice A2 nums.length c2,.slice A3 ks.length c3,.int .i64 ps] 27)).cell? ⟨w.heap.size,2,none⟩=some (.slice A2 nums.length c2)/\(w.alloc (.cells #[.int .i64 23,.slice A1 ws.length c1,.slice A2 nums.length c2,.slice A3 ks.length c3,.int .i64 ps] 27)).cell? ⟨w.heap.size,3,none⟩=some (.slice A3 ks.length c3)/\(w.alloc (.cells #[.int .i64 23,.slice A1 ws.length c1,.slice A2 nums.length c2,.slice A3 ks.length c3,.int .i64 ps] 27)).cell? ⟨w.heap.size,4,none⟩=some (.int .i64 ps))/\Below w.heap.size w (w.alloc (.cells #[.int .i64 23,.slice A1 ws.length c1,.slice A2 nums.length c2,.slice A3 ks.length c3,.int .i64 ps] 27)):=⟨⟨(Blk.start w _ _).cell 0,(Blk.start w _ _).cell 1,(Blk.start w _ _).cell 2,(Blk.start w _ _).cell 3,(Blk.start w _ _).cell 4⟩,Za w _⟩
 generalize (w.alloc (.cells #[.int .i64 23,.slice A1 ws.length c1,.slice A2 nums.length c2,.slice A3 ks.length c3,.int .i64 ps] 27))=w1 at *
 have HS:(w1.drew.cell? ⟨w.heap.size,0,none⟩=some (.int .i64 23)/\w1.drew.cell? ⟨w.heap.size,1,none⟩=some (.slice A1 ws.length c1)/\w1.drew.cell? ⟨w.heap.size,2,none⟩=some (.slice A2 nums.length c2)/\w1.drew.cell? ⟨w.heap.size,3,none⟩=some (.slice A3 ks.length c3)/\w1.drew.cell? ⟨w.heap.size,4,none⟩=some (.int .i64 ps))/\Below w.heap.size w w1.drew:=⟨HS1.1,HS1.2.drew⟩
 clear HS1
 refine wp_region_noPanic ?_
 refine wp_region_held_drew (S:=(fun w'=>(w'.cell? ⟨w.heap.size,0,none⟩=some (.int .i64 23)/\w'.cell? ⟨w.heap.size,1,none⟩=some (.slice A1 ws.length c1)/\w'.cell? ⟨w.heap.size,2,none⟩=some (.slice A2 nums.length c2)/\w'.cell? ⟨w.heap.size,3,none⟩=some (.slice A3 ks.length c3)/\w'.cell? ⟨w.heap.size,4,none⟩=some (.int .i64 ps))/\Below w.heap.size w w')) (by kernel_rfl) HS (fun hHeld=>?_)
 clear HS
 refine tk 0 rfl ?_
 refine tk 1 rfl ?_
 refine tk 2 rfl ?_
 (try simp only [cl,Act.put])
 refine rd 3 rfl fun K hK=>?_
 go_simp
 refine hK.out _ _ ?_ (fun hH2=>?_)
 ·exact STB.out _ _ (Za _ _) (by with_reducible assumption)
 clear hK K hHeld;have hHeld:=hH2;clear hH2
 (try simp only [cl,Act.put])
 refine rd 4 rfl fun K hK=>?_
 go_simp
 (go_at_call 55;(with_reducible refine (Zg _ _ _).mono ?_);rintro e5 w5 ⟨⟨u,rfl,hT⟩,hb⟩;obtain ⟨bu,Au,cu,rfl,_,_⟩:=id hT)
 go_wp2_with fail
 refine hK.out _ _ (STB.out _ _ hb (by with_reducible assumption)) (fun hH2=>?_)
 clear hK K hHeld hb;have hHeld:=hH2;clear hH2
 (try simp only [cl,Act.put])
 refine tk 5 rfl ?_
 refine tk 6 rfl ?_
 (try simp only [cl,Act.put])
 refine wpAnyH_done (by kernel_rfl) ?_ _
 refine NoPanic.normal ?_
 have T3:=Lib.hid hT
 have H3:=Lib.hid (Zb hHeld)
 have HH:=Lib.hid hHeld
 clear hT
 obtain ⟨⟨g0,g1,g2,g3,g4⟩,_⟩:=hHeld
 have A6:=Lib.hid (fun (wr:World) (B:Below w.heap.size w wr) (T:Zq wr (.is [7]) (.func (.func 87) #[] #[.pointer (some ⟨bu,0,none⟩)]))=>show Calls Tryz.prog 58 #[v,.slice A3 ks.length c3,.slice (some ⟨wr.heap.size,0,none⟩) 1 1] (wr.alloc (.cells #[.func (.func 61) #[] #[]] 108)) (fun e w'=>e=.returned (.bool (Zl ns ks [ZP]))/\Below wr.heap.size wr w') from (AR.out (wr.alloc (.cells #[.func (.func 61) #[] #[]] 108)) (B.trans ((Za _ _).mono B.size)) _ [.expr] (Zas wr [.expr] [.func (.func 61) #[] #[]] 108 (by simp [maxLen]) ⟨rfl,trivial⟩)).mono (fun _ _ q=>⟨q.1,(Za wr (.cells #[.func (.func 61) #[] #[]] 108)).trans (q.2.mono (Za wr (.cells #[.func (.func 61) #[] #[]] 108)).size)⟩))
 have HA1:=Lib.hid (show ∀ wr:World,Below w.heap.size w wr->Calls Tryz.prog 56 #[.agg #[.int .i64 23,.slice A1 ws.length c1,.slice A2 nums.length c2,.slice A3 ks.length c3,.int .i64 ps],.int .i64 0,.int .i64 0] wr fun e w'=>e=.returned (.bool (Zj ⟨23,ws,nums,ks,ps⟩ 0 0))/\Below wr.heap.size wr w' from fun wr hb=>HS0.out wr hb 0 0)
 generalize hq:Zj ⟨23,ws,nums,ks,ps⟩ 0 0=H at HA1
 have HQ:=Lib.hid hq
 clear hq
 cases H
 ·go_wp2_with (go_at_call 56;(with_reducible refine (HA1.out _ H3.out).mono ?_);rintro e6 w6 ⟨rfl,hb6⟩;have K6:=Lib.hid (STB.out _ _ hb6 HH.out);have B6:=Lib.hid (Zb K6.out);clear hb6)
  go_ret
  exact ⟨by rw [HQ.out];rfl,B6.out⟩
 ·go_wp2_with (first
   | (go_at_call 56;(with_reducible refine (HA1.out _ H3.out).mono ?_);rintro e6 w6 ⟨rfl,hb6⟩;have K6:=Lib.hid (STB.out _ _ hb6 HH.out);have T6:=Lib.hid (T3.out.below hb6);have B6:=Lib.hid (Zb K6.out);obtain ⟨⟨k60,k61,k62,k63,k64⟩,_⟩:=id K6.out;skip;clear hb6)
   | (go_at_call 58;(with_reducible refine (A6.out w6 B6.out T6.out).mono ?_);rintro e7 w7 ⟨rfl,hb7⟩;have B7:=Lib.hid (B6.out.trans (hb7.mono B6.out.size));clear hb7))
  go_ret
  exact ⟨by rw [HQ.out];rfl,B7.out⟩
theorem Zfi (w:World) (v:Value) (ns:List Nd) (va vb vc:Value) (ws:List (List UInt8)) (nums ks:List Int) (ps:Int) (hN:Zo w v ns) (hx:ZO w ((va,vb,vc),⟨19,ws,nums,ks,ps⟩)) (hk:ZA ks ns.length) :
  Calls Tryz.prog 40 #[v,ndV ((va,vb,vc),⟨19,ws,nums,ks,ps⟩)] w fun e w'=>e=.returned (.bool (Zn ns ⟨19,ws,nums,ks,ps⟩))/\Below w.heap.size w w':=by
 rw [show Zn ns ⟨19,ws,nums,ks,ps⟩=(Zj ⟨19,ws,nums,ks,ps⟩ 0 0&&Zl ns ks []) from rfl]
 obtain ⟨h1,h2,h3⟩:=id hx
 dsimp only at h1 h2 h3
 have AR:=Lib.hid (fun (wr:World) (hb:Below w.heap.size w wr) (vf:Value) (ts:List Tst) (hF:ZY wr vf ts)=>ZE wr v vc vf ns ks ts (hN.below hb) (h3.below hb) hF hk)
 have ALL:=Lib.hid (fun (wr:World) (hb:Below w.heap.size w wr) (u:Value) (t:Tst) (hu:Zq wr t u)=>ZD wr v vc u ns ks t (hN.below hb) (h3.below hb) hu hk)
 have HS0:=Lib.hid (fun (wr:World) (hb:Below w.heap.size w wr) (a b:Nat)=>ZK wr _ a b (hx.below hb))
 obtain ⟨A1,c1,rfl,_⟩:=h1
 obtain ⟨A2,c2,rfl,_,_,R2'⟩:=h2
 have R2:=Lib.hid R2'
 clear R2'
 obtain ⟨A3,c3,rfl,_⟩:=h3
 unfold ndV at HS0 ⊢
 dsimp only at HS0 ⊢
 clear hx hN hk
 have STB:=Lib.hid (show Stb (fun w'=>(w'.cell? ⟨w.heap.size,0,none⟩=some (.int .i64 19)/\w'.cell? ⟨w.heap.size,1,none⟩=some (.slice A1 ws.length c1)/\w'.cell? ⟨w.heap.size,2,none⟩=some (.slice A2 nums.length c2)/\w'.cell? ⟨w.heap.size,3,none⟩=some (.slice A3 ks.length c3)/\w'.cell? ⟨w.heap.size,4,none⟩=some (.int .i64 ps))/\Below w.heap.size w w') from Zd (Zd (Zc _ _) (Zd (Zc _ _) (Zd (Zc _ _) (Zd (Zc _ _) (Zc _ _))))) (Zr w))
 go_enter Tryz.func40,Tryz.ntmps40
 go_upto_region 1 with fail
 have HS1:((w.alloc (.cells #[.int .i64 19,.slice A1 ws.length c1,.slice A2 nums.length c2,.slice A3 ks.length c3,.int .i64 ps] 27)).cell? ⟨w.heap.size,0,none⟩=some (.int .i64 19)/\(w.alloc (.cells #[.int .i64 19,.slice A1 ws.length c1,.slice A2 nums.length c2,.slice A3 ks.length c3,.int .i64 ps] 27)).cell? ⟨w.heap.size,1,none⟩=some (.slice A1 ws.length c1)/\(w.alloc (.cells #[.int .i64 19,.slice A1 ws.length c1,.slice A2 nums.length c2,.slice A3 ks.length c3,.int .i64 ps] 27)).cell? ⟨w.heap.size,2,none⟩=some (.slice A2 nums.length c2)/\(w.alloc (.cells #[.int .i64 19,.slice A1 ws.length c1,.slice A2 nums.length c2,.slice A3 ks.length c3,.int .i64 ps] 27)).cell? ⟨w.heap.size,3,none⟩=some (.slice A3 ks.length c3)/\(w.alloc (.cells #[.int .i64 19,.slice A1 ws.length c1,.slice A2 nums.length c2,.slice A3 ks.length c3,.int .i64 ps] 27)).cell? ⟨w.heap.size,4,none⟩=some (.int .i64 ps))/\Below w.heap.size w (w.alloc (.cells #[.int .i64 19,.slice A1 ws.length c1,.slice A2 nums.length c2,.slice A3 ks.length c3,.int .i64 ps] 27)):=⟨⟨(Blk.start w _ _).cell 0,(Blk.start w _ _).cell 1,(Blk.start w _ _).cell 2,(Blk.start w _ _).cell 3,(Blk.start w _ _).cell 4⟩,Za w _⟩
 generalize (w.alloc (.cells #[.int .i64 19,.slice A1 ws.length c1,.slice A2 nums.length c2,.slice A3 ks.length c3,.int .i64 ps] 27))=w1 at *
 have HS:(w1.drew.cell? ⟨w.heap.size,0,none⟩=some (.int .i64 19)/\w1.drew.cell? ⟨w.heap.size,1,none⟩=some (.slice A1 ws.length c1)/\w1.drew.cell? ⟨w.heap.size,2,none⟩=some (.slice A2 nums.length c2)/\w1.drew.cell? ⟨w.heap.size,3,none⟩=some (.slice A3 ks.length c3)/\w1.drew.cell? ⟨w.heap.size,4,none⟩=some (.int .i64 ps))/\Below w.heap.size w w1.drew:=⟨HS1.1,HS1.2.drew⟩
 clear HS1
 refine wp_region_noPanic ?_
 refine wp_region_held_drew (S:=(fun w'=>(w'.cell? ⟨w.heap.size,0,none⟩=some (.int .i64 19)/\w'.cell? ⟨w.heap.size,1,none⟩=some (.slice A1 ws.length c1)/\w'.cell? ⟨w.heap.size,2,none⟩=some (.slice A2 nums.length c2)/\w'.cell? ⟨w.heap.size,3,none⟩=some (.slice A3 ks.length c3)/\w'.cell? ⟨w.heap.size,4,none⟩=some (.int .i64 ps))/\Below w.heap.size w w')) (by kernel_rfl) HS (fun hHeld=>?_)
 clear HS
 refine tk 0 rfl ?_
 refine tk 1 rfl ?_
 refine tk 2 rfl ?_
 (try simp only [cl,Act.put])
 refine rd 3 rfl fun K hK=>?_
 go_simp
 refine hK.out _ _ ?_ (fun hH2=>?_)
 ·exact STB.out _ _ (Za _ _) (by with_reducible assumption)
 clear hK K hHeld;have hHeld:=hH2;clear hH2
 (try simp only [cl,Act.put])
 refine rd 4 rfl fun K hK=>?_
 go_simp
 (go_at_call 55;(with_reducible refine (Zg _ _ _).mono ?_);rintro e5 w5 ⟨⟨u,rfl,hT⟩,hb⟩;obtain ⟨bu,Au,cu,rfl,_,_⟩:=id hT)
 go_wp2_with fail
 refine hK.out _ _ (STB.out _ _ hb (by with_reducible assumption)) (fun hH2=>?_)
 clear hK K hHeld hb;have hHeld:=hH2;clear hH2
 (try simp only [cl,Act.put])
 refine tk 5 rfl ?_
 refine tk 6 rfl ?_
 (try simp only [cl,Act.put])
 refine wpAnyH_done (by kernel_rfl) ?_ _
 refine NoPanic.normal ?_
 have T3:=Lib.hid hT
 have H3:=Lib.hid (Zb hHeld)
 have HH:=Lib.hid hHeld
 clear hT
 obtain ⟨⟨g0,g1,g2,g3,g4⟩,_⟩:=hHeld
 have A6:=Lib.hid (fun (wr:World) (B:Below w.heap.size w wr) (T:Zq wr (.is [7]) (.func (.func 87) #[] #[.pointer (some ⟨bu,0,none⟩)]))=>show Calls Tryz.prog 58 #[v,.slice A3 ks.length c3,.slice none 0 0] wr (fun e w'=>e=.returned (.bool (Zl ns ks []))/\Below wr.heap.size wr w') from AR.out wr B _ [] (Za8 wr))
 have HA1:=Lib.hid (show ∀ wr:World,Below w.heap.size w wr->Calls Tryz.prog 56 #[.agg #[.int .i64 19,.slice A1 ws.length c1,.slice A2 nums.length c2,.slice A3 ks.length c3,.int .i64 ps],.int .i64 0,.int .i64 0] wr fun e w'=>e=.returned (.bool (Zj ⟨19,ws,nums,ks,ps⟩ 0 0))/\Below wr.heap.size wr w' from fun wr hb=>HS0.out wr hb 0 0)
 generalize hq:Zj ⟨19,ws,nums,ks,ps⟩ 0 0=H at HA1
 have HQ:=Lib.hid hq
 clear hq
 cases H
 ·go_wp2_with (go_at_call 56;(with_reducible refine (HA1.out _ H3.out).mono ?_);rintro e6 w6 ⟨rfl,hb6⟩;have K6:=Lib.hid (STB.out _ _ hb6 HH.out);have B6:=Lib.hid (Zb K6.out);clear hb6)
  go_ret
  exact ⟨by rw [HQ.out];rfl,B6.out⟩
 ·go_wp2_with (first
   | (go_at_call 56;(with_reducible refine (HA1.out _ H3.out).mono ?_);rintro e6 w6 ⟨rfl,hb6⟩;have K6:=Lib.hid (STB.out _ _ hb6 HH.out);have T6:=Lib.hid (T3.out.below hb6);have B6:=Lib.hid (Zb K6.out);obtain ⟨⟨k60,k61,k62,k63,k64⟩,_⟩:=id K6.out;skip;clear hb6)
   | (go_at_call 58;(with_reducible refine (A6.out w6 B6.out T6.out).mono ?_);rintro e7 w7 ⟨rfl,hb7⟩;have B7:=Lib.hid (B6.out.trans (hb7.mono B6.out.size));clear hb7))
  go_ret
  exact ⟨by rw [HQ.out];rfl,B7.out⟩
theorem Zge (w:World) (v:Value) (ns:List Nd) (va vb vc:Value) (ws:List (List UInt8)) (nums ks:List Int) (ps:Int) (hN:Zo w v ns) (hx:ZO w ((va,vb,vc),⟨20,ws,nums,ks,ps⟩)) (hk:ZA ks ns.length) :
  Calls Tryz.prog 40 #[v,ndV ((va,vb,vc),⟨20,ws,nums,ks,ps⟩)] w fun e w'=>e=.returned (.bool (Zn ns ⟨20,ws,nums,ks,ps⟩))/\Below w.heap.size w w':=by
 rw [show Zn ns ⟨20,ws,nums,ks,ps⟩=(Zj ⟨20,ws,nums,ks,ps⟩ 0 1&&Zl ns ks []) from rfl]
 obtain ⟨h1,h2,h3⟩:=id hx
 dsimp only at h1 h2 h3
 have AR:=Lib.hid (fun (wr:World) (hb:Below w.heap.size w wr) (vf:Value) (ts:List Tst) (hF:ZY wr vf ts)=>ZE wr v vc vf ns ks ts (hN.below hb) (h3.below hb) hF hk)
 have ALL:=Lib.hid (fun (wr:World) (hb:Below w.heap.size w wr) (u:Value) (t:Tst) (hu:Zq wr t u)=>ZD wr v vc u ns ks t (hN.below hb) (h3.below hb) hu hk)
 have HS0:=Lib.hid (fun (wr:World) (hb:Below w.heap.size w wr) (a b:Nat)=>ZK wr _ a b (hx.below hb))
 obtain ⟨A1,c1,rfl,_⟩:=h1
 obtain ⟨A2,c2,rfl,_,_,R2'⟩:=h2
 have R2:=Lib.hid R2'
 clear R2'
 obtain ⟨A3,c3,rfl,_⟩:=h3
 unfold ndV at HS0 ⊢
 dsimp only at HS0 ⊢
 clear hx hN hk
 have STB:=Lib.hid (show Stb (fun w'=>(w'.cell? ⟨w.heap.size,0,none⟩=some (.int .i64 20)/\w'.cell? ⟨w.heap.size,1,none⟩=some (.slice A1 ws.length c1)/\w'.cell? ⟨w.heap.size,2,none⟩=some (.slice A2 nums.length c2)/\w'.cell? ⟨w.heap.size,3,none⟩=some (.slice A3 ks.length c3)/\w'.cell? ⟨w.heap.size,4,none⟩=some (.int .i64 ps))/\Below w.heap.size w w') from Zd (Zd (Zc _ _) (Zd (Zc _ _) (Zd (Zc _ _) (Zd (Zc _ _) (Zc _ _))))) (Zr w))
 go_enter Tryz.func40,Tryz.ntmps40
 go_upto_region 1 with fail
 have HS1:((w.alloc (.cells #[.int .i64 20,.slice A1 ws.length c1,.slice A2 nums.length c2,.slice A3 ks.length c3,.int .i64 ps] 27)).cell? ⟨w.heap.size,0,none⟩=some (.int .i64 20)/\(w.alloc (.cells #[.int .i64 20,.slice A1 ws.length c1,.slice A2 nums.length c2,.slice A3 ks.length c3,.int .i64 ps] 27)).cell? ⟨w.heap.size,1,none⟩=some (.slice A1 ws.length c1)/\(w.alloc (.cells #[.int .i64 20,.slice A1 ws.length c1,.slice A2 nums.length c2,.slice A3 ks.length c3,.int .i64 ps] 27)).cell? ⟨w.heap.size,2,none⟩=some (.slice A2 nums.length c2)/\(w.alloc (.cells #[.int .i64 20,.slice A1 ws.length c1,.slice A2 nums.length c2,.slice A3 ks.length c3,.int .i64 ps] 27)).cell? ⟨w.heap.size,3,none⟩=some (.slice A3 ks.length c3)/\(w.alloc (.cells #[.int .i64 20,.slice A1 ws.length c1,.slice A2 nums.length c2,.slice A3 ks.length c3,.int .i64 ps] 27)).cell? ⟨w.heap.size,4,none⟩=some (.int .i64 ps))/\Below w.heap.size w (w.alloc (.cells #[.int .i64 20,.slice A1 ws.length c1,.slice A2 nums.length c2,.slice A3 ks.length c3,.int .i64 ps] 27)):=⟨⟨(Blk.start w _ _).cell 0,(Blk.start w _ _).cell 1,(Blk.start w _ _).cell 2,(Blk.start w _ _).cell 3,(Blk.start w _ _).cell 4⟩,Za w _⟩
 generalize (w.alloc (.cells #[.int .i64 20,.slice A1 ws.length c1,.slice A2 nums.length c2,.slice A3 ks.length c3,.int .i64 ps] 27))=w1 at *
 have HS:(w1.drew.cell? ⟨w.heap.size,0,none⟩=some (.int .i64 20)/\w1.drew.cell? ⟨w.heap.size,1,none⟩=some (.slice A1 ws.length c1)/\w1.drew.cell? ⟨w.heap.size,2,none⟩=some (.slice A2 nums.length c2)/\w1.drew.cell? ⟨w.heap.size,3,none⟩=some (.slice A3 ks.length c3)/\w1.drew.cell? ⟨w.heap.size,4,none⟩=some (.int .i64 ps))/\Below w.heap.size w w1.drew:=⟨HS1.1,HS1.2.drew⟩
 clear HS1
 refine wp_region_noPanic ?_
 refine wp_region_held_drew (S:=(fun w'=>(w'.cell? ⟨w.heap.size,0,none⟩=some (.int .i64 20)/\w'.cell? ⟨w.heap.size,1,none⟩=some (.slice A1 ws.length c1)/\w'.cell? ⟨w.heap.size,2,none⟩=some (.slice A2 nums.length c2)/\w'.cell? ⟨w.heap.size,3,none⟩=some (.slice A3 ks.length c3)/\w'.cell? ⟨w.heap.size,4,none⟩=some (.int .i64 ps))/\Below w.heap.size w w')) (by kernel_rfl) HS (fun hHeld=>?_)
 clear HS
 refine tk 0 rfl ?_
 refine tk 1 rfl ?_
 refine tk 2 rfl ?_
 (try simp only [cl,Act.put])
 refine rd 3 rfl fun K hK=>?_
 go_simp
 refine hK.out _ _ ?_ (fun hH2=>?_)
 ·exact STB.out _ _ (Za _ _) (by with_reducible assumption)
 clear hK K hHeld;have hHeld:=hH2;clear hH2
 (try simp only [cl,Act.put])
 refine rd 4 rfl fun K hK=>?_
 go_simp
 (go_at_call 55;(with_reducible refine (Zg _ _ _).mono ?_);rintro e5 w5 ⟨⟨u,rfl,hT⟩,hb⟩;obtain ⟨bu,Au,cu,rfl,_,_⟩:=id hT)
 go_wp2_with fail
 refine hK.out _ _ (STB.out _ _ hb (by with_reducible assumption)) (fun hH2=>?_)
 clear hK K hHeld hb;have hHeld:=hH2;clear hH2
 (try simp only [cl,Act.put])
 refine tk 5 rfl ?_
 refine tk 6 rfl ?_
 (try simp only [cl,Act.put])
 refine wpAnyH_done (by kernel_rfl) ?_ _
 refine NoPanic.normal ?_
 have T3:=Lib.hid hT
 have H3:=Lib.hid (Zb hHeld)
 have HH:=Lib.hid hHeld
 clear hT
 obtain ⟨⟨g0,g1,g2,g3,g4⟩,_⟩:=hHeld
 have A6:=Lib.hid (fun (wr:World) (B:Below w.heap.size w wr) (T:Zq wr (.is [7]) (.func (.func 87) #[] #[.pointer (some ⟨bu,0,none⟩)]))=>show Calls Tryz.prog 58 #[v,.slice A3 ks.length c3,.slice none 0 0] wr (fun e w'=>e=.returned (.bool (Zl ns ks []))/\Below wr.heap.size wr w') from AR.out wr B _ [] (Za8 wr))
 have HA1:=Lib.hid (show ∀ wr:World,Below w.heap.size w wr->Calls Tryz.prog 56 #[.agg #[.int .i64 20,.slice A1 ws.length c1,.slice A2 nums.length c2,.slice A3 ks.length c3,.int .i64 ps],.int .i64 0,.int .i64 1] wr fun e w'=>e=.returned (.bool (Zj ⟨20,ws,nums,ks,ps⟩ 0 1))/\Below wr.heap.size wr w' from fun wr hb=>HS0.out wr hb 0 1)
 generalize hq:Zj ⟨20,ws,nums,ks,ps⟩ 0 1=H at HA1
 have HQ:=Lib.hid hq
 clear hq
 cases H
 ·go_wp2_with (go_at_call 56;(with_reducible refine (HA1.out _ H3.out).mono ?_);rintro e6 w6 ⟨rfl,hb6⟩;have K6:=Lib.hid (STB.out _ _ hb6 HH.out);have B6:=Lib.hid (Zb K6.out);clear hb6)
  go_ret
  exact ⟨by rw [HQ.out];rfl,B6.out⟩
 ·go_wp2_with (first
   | (go_at_call 56;(with_reducible refine (HA1.out _ H3.out).mono ?_);rintro e6 w6 ⟨rfl,hb6⟩;have K6:=Lib.hid (STB.out _ _ hb6 HH.out);have T6:=Lib.hid (T3.out.below hb6);have B6:=Lib.hid (Zb K6.out);obtain ⟨⟨k60,k61,k62,k63,k64⟩,_⟩:=id K6.out;skip;clear hb6)
   | (go_at_call 58;(with_reducible refine (A6.out w6 B6.out T6.out).mono ?_);rintro e7 w7 ⟨rfl,hb7⟩;have B7:=Lib.hid (B6.out.trans (hb7.mono B6.out.size));clear hb7))
  go_ret
  exact ⟨by rw [HQ.out];rfl,B7.out⟩
end
end Go.Proofs.YtaacbenikcbibabGreatDoor
