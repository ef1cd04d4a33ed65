import Derived.Test.YtkgkmdhpnhmcpaaGreatDoorQBI
set_option maxRecDepth 100000
set_option maxHeartbeats 8000000
namespace Go.Proofs.YtkgkmdhpnhmcpaaGreatDoor
section
open Go.RowKit
theorem ZdK (w:World) (v:Value) (ns:List Nd) (va vb vc:Value) (ws:List (List UInt8)) (nums ks:List Int) (ps:Int) (hN:Zn w v ns) (hx:ZJ w ((va,vb,vc),⟨0,ws,nums,ks,ps⟩)) (hk:ZA ks ns.length) :
  Calls Tryz.prog 72 #[v,ndV ((va,vb,vc),⟨0,ws,nums,ks,ps⟩)] w fun e w'=>e=.returned (.bool (Zm ns ⟨0,ws,nums,ks,ps⟩))/\Below w.heap.size w w':=by
 rw [show Zm ns ⟨0,ws,nums,ks,ps⟩=(Zj ⟨0,ws,nums,ks,ps⟩ 0 0&&Zax ns ks (isB [1,4])) from rfl]
 obtain ⟨h1,h2,h3⟩:=id hx
 dsimp only at h1 h2 h3
 have AR:=zh (fun (wr:World) (hb:Below w.heap.size w wr) (vf:Value) (ts:List Tst) (hF:ZU wr vf ts)=>ZC wr v vc vf ns ks ts (hN.below hb) (h3.below hb) hF hk)
 have ALL:=zh (fun (wr:World) (hb:Below w.heap.size w wr) (u:Value) (t:Tst) (hu:Zp wr t u)=>ZB wr v vc u ns ks t (hN.below hb) (h3.below hb) hu hk)
 have HS0:=zh (fun (wr:World) (hb:Below w.heap.size w wr) (a b:Nat)=>ZG wr _ a b (hx.below hb))
 obtain ⟨A1,c1,rfl,_⟩:=h1
 obtain ⟨A2,c2,rfl,_,_,R2'⟩:=h2
 have R2:=zh R2'
 clear R2'
 obtain ⟨A3,c3,rfl,_⟩:=h3
 unfold ndV at HS0 ⊢
 dsimp only at HS0 ⊢
 clear hx hN hk
 have STB:=zh (show Stb (fun w'=>(w'.cell? ⟨w.heap.size,0,none⟩=some (.int .i64 0)/\w'.cell? ⟨w.heap.size,1,none⟩=some (.slice A1 ws.length c1)/\w'.cell? ⟨w.heap.size,2,none⟩=some (.slice A2 nums.length c2)/\w'.cell? ⟨w.heap.size,3,none⟩=some (.slice A3 ks.length c3)/\w'.cell? ⟨w.heap.size,4,none⟩=some (.int .i64 ps))/\Below w.heap.size w w') from Zc (Zc (Zb _ _) (Zc (Zb _ _) (Zc (Zb _ _) (Zc (Zb _ _) (Zb _ _))))) (Zq w))
 go_enter Tryz.func72,Tryz.ntmps72
 go_upto_region 1 with fail
 have HS1:((w.alloc (.cells #[.int .i64 0,.slice A1 ws.length c1,.slice A2 nums.length c2,.slice A3 ks.length c3,.int .i64 ps] 27)).cell? ⟨w.heap.size,0,none⟩=some (.int .i64 0)/\(w.alloc (.cells #[.int .i64 0,.slice A1 ws.length c1,.slice A2 nums.length c2,.slice A3 ks.length c3,.int .i64 ps] 27)).cell? ⟨w.heap.size,1,none⟩=some (.slice A1 ws.length c1)/\(w.alloc (.cells #[.int .i64 0,.slice A1 ws.length c1,.slice A2 nums.length c2,.slice A3 ks.length c3,.int .i64 ps] 27)).cell? ⟨w.heap.size,2,none⟩=some (.slice A2 nums.length c2)/\(w.alloc (.cells #[.int .i64 0,.slice A1 ws.length c1,.slice A2 nums.length c2,.slice A3 ks.length c3,.int .i64 ps] 27)).cell? ⟨w.heap.size,3,none⟩=some (.slice A3 ks.length c3)/\(w.alloc (.cells #[.int .i64 0,.slice A1 ws.length c1,.slice A2 nums.length c2,.slice A3 ks.length c3,.int .i64 ps] 27)).cell? ⟨w.heap.size,4,none⟩=some (.int .i64 ps))/\Below w.heap.size w (w.alloc (.cells #[.int .i64 0,.slice A1 ws.length c1,.slice A2 nums.length c2,.slice A3 ks.length c3,.int .i64 ps] 27)):=⟨⟨(Blk.start w _ _).cell 0,(Blk.start w _ _).cell 1,(Blk.start w _ _).cell 2,(Blk.start w _ _).cell 3,(Blk.start w _ _).cell 4⟩,below_alloc1 w _⟩
 generalize (w.alloc (.cells #[.int .i64 0,.slice A1 ws.length c1,.slice A2 nums.length c2,.slice A3 ks.length c3,.int .i64 ps] 27))=w1 at *
 have HS:(w1.drew.cell? ⟨w.heap.size,0,none⟩=some (.int .i64 0)/\w1.drew.cell? ⟨w.heap.size,1,none⟩=some (.slice A1 ws.length c1)/\w1.drew.cell? ⟨w.heap.size,2,none⟩=some (.slice A2 nums.length c2)/\w1.drew.cell? ⟨w.heap.size,3,none⟩=some (.slice A3 ks.length c3)/\w1.drew.cell? ⟨w.heap.size,4,none⟩=some (.int .i64 ps))/\Below w.heap.size w w1.drew:=⟨HS1.1,HS1.2.drew⟩
 clear HS1
 refine wp_region_noPanic ?_
 refine wp_region_held_drew (S:=(fun w'=>(w'.cell? ⟨w.heap.size,0,none⟩=some (.int .i64 0)/\w'.cell? ⟨w.heap.size,1,none⟩=some (.slice A1 ws.length c1)/\w'.cell? ⟨w.heap.size,2,none⟩=some (.slice A2 nums.length c2)/\w'.cell? ⟨w.heap.size,3,none⟩=some (.slice A3 ks.length c3)/\w'.cell? ⟨w.heap.size,4,none⟩=some (.int .i64 ps))/\Below w.heap.size w w')) (by kernel_rfl) HS (fun hHeld=>?_)
 clear HS
 refine tk 0 rfl ?_
 refine tk 1 rfl ?_
 refine tk 2 rfl ?_
 (try simp only [cl,Act.put])
 refine rd 3 rfl fun K hK=>?_
 go_simp
 refine hK.out _ _ ?_ (fun hH2=>?_)
 ·exact STB.out _ _ (below_alloc1 _ _) (by with_reducible assumption)
 clear hK K hHeld;have hHeld:=hH2;clear hH2
 (try simp only [cl,Act.put])
 refine rd 4 rfl fun K hK=>?_
 go_simp
 (go_at_call 94;(with_reducible refine (Zf _ _ _).mono ?_);rintro e5 w5 ⟨⟨u,rfl,hT⟩,hb⟩;obtain ⟨bu,Au,cu,rfl,_,_⟩:=id hT)
 go_wp2_with fail
 refine hK.out _ _ (STB.out _ _ hb (by with_reducible assumption)) (fun hH2=>?_)
 clear hK K hHeld hb;have hHeld:=hH2;clear hH2
 (try simp only [cl,Act.put])
 refine tk 5 rfl ?_
 refine tk 6 rfl ?_
 (try simp only [cl,Act.put])
 refine wpAnyH_done (by kernel_rfl) ?_ _
 refine NoPanic.normal ?_
 have T3:=zh hT
 have H3:=zh (Za hHeld)
 have HH:=zh hHeld
 clear hT
 obtain ⟨⟨g0,g1,g2,g3,g4⟩,_⟩:=hHeld
 have HA1:=zh (show ∀ wr:World,Below w.heap.size w wr->Calls Tryz.prog 95 #[.agg #[.int .i64 0,.slice A1 ws.length c1,.slice A2 nums.length c2,.slice A3 ks.length c3,.int .i64 ps],.int .i64 0,.int .i64 0] wr fun e w'=>e=.returned (.bool (Zj ⟨0,ws,nums,ks,ps⟩ 0 0))/\Below wr.heap.size wr w' from fun wr hb=>HS0.out wr hb 0 0)
 generalize hqH1:Zj ⟨0,ws,nums,ks,ps⟩ 0 0=H1 at HA1
 have QH1:=zh hqH1
 clear hqH1
 cases H1
 ·go_upto_region 4 with fail
  have HS:(w5.drew.cell? ⟨w.heap.size,0,none⟩=some (.int .i64 0)/\w5.drew.cell? ⟨w.heap.size,1,none⟩=some (.slice A1 ws.length c1)/\w5.drew.cell? ⟨w.heap.size,2,none⟩=some (.slice A2 nums.length c2)/\w5.drew.cell? ⟨w.heap.size,3,none⟩=some (.slice A3 ks.length c3)/\w5.drew.cell? ⟨w.heap.size,4,none⟩=some (.int .i64 ps))/\Below w.heap.size w w5.drew:=⟨HH.out.1,H3.out.drew⟩
  clear HH g0 g1 g2 g3 g4
  refine wp_region_noPanic ?_
  refine wp_region_held_drew (S:=(fun w'=>(w'.cell? ⟨w.heap.size,0,none⟩=some (.int .i64 0)/\w'.cell? ⟨w.heap.size,1,none⟩=some (.slice A1 ws.length c1)/\w'.cell? ⟨w.heap.size,2,none⟩=some (.slice A2 nums.length c2)/\w'.cell? ⟨w.heap.size,3,none⟩=some (.slice A3 ks.length c3)/\w'.cell? ⟨w.heap.size,4,none⟩=some (.int .i64 ps))/\Below w.heap.size w w')) (by kernel_rfl) HS (fun hHeld=>?_)
  clear HS
  refine tkk 0 rfl ?_
  (try simp only [cl,Act.put])
  refine rd 1 rfl fun K hK=>?_
  go_simp
  (first
   | (go_at_call 95;(with_reducible refine (HA1.out _ (Za (by with_reducible assumption))).mono ?_);rintro e6 w6 ⟨rfl,hb⟩)
   | (go_at_call 94;(with_reducible refine (Za8 _ _ _ _).mono ?_);rintro e7 w7 ⟨⟨u2,rfl,hT2⟩,hb⟩)
   | (go_at_call 96;(with_reducible refine (ALL.out _ (Za (by with_reducible assumption)) _ _ hT2).mono ?_);rintro e8 w8 ⟨rfl,hb⟩))
  go_wp2_with fail
  refine hK.out _ _ (STB.out _ _ hb (by with_reducible assumption)) (fun hH2=>?_)
  clear hK K hHeld hb;have hHeld:=hH2;clear hH2
  (try simp only [cl,Act.put])
  refine tkk 2 rfl ?_
  refine txk 3 rfl ?_
  refine txk 4 rfl ?_
  refine txk 5 rfl ?_
  refine txk 6 rfl ?_
  refine txk 7 rfl ?_
  refine txk 8 rfl ?_
  refine tkk 9 rfl ?_
  refine tkk 10 rfl ?_
  (try simp only [cl,Act.put])
  refine wpAnyH_done (by kernel_rfl) ?_ _
  refine NoPanic.normal ?_
  have B9:=zh (Za hHeld)
  clear hHeld
  go_wp2_with fail
  go_ret
  exact ⟨by rw [QH1.out];rfl,B9.out⟩
 ·go_upto_region 4 with fail
  have HS:(w5.drew.cell? ⟨w.heap.size,0,none⟩=some (.int .i64 0)/\w5.drew.cell? ⟨w.heap.size,1,none⟩=some (.slice A1 ws.length c1)/\w5.drew.cell? ⟨w.heap.size,2,none⟩=some (.slice A2 nums.length c2)/\w5.drew.cell? ⟨w.heap.size,3,none⟩=some (.slice A3 ks.length c3)/\w5.drew.cell? ⟨w.heap.size,4,none⟩=some (.int .i64 ps))/\Below w.heap.size w w5.drew:=⟨HH.out.1,H3.out.drew⟩
  clear HH g0 g1 g2 g3 g4
  refine wp_region_noPanic ?_
  refine wp_region_held_drew (S:=(fun w'=>(w'.cell? ⟨w.heap.size,0,none⟩=some (.int .i64 0)/\w'.cell? ⟨w.heap.size,1,none⟩=some (.slice A1 ws.length c1)/\w'.cell? ⟨w.heap.size,2,none⟩=some (.slice A2 nums.length c2)/\w'.cell? ⟨w.heap.size,3,none⟩=some (.slice A3 ks.length c3)/\w'.cell? ⟨w.heap.size,4,none⟩=some (.int .i64 ps))/\Below w.heap.size w w')) (by kernel_rfl) HS (fun hHeld=>?_)
  clear HS
  refine tkk 0 rfl ?_
  (try simp only [cl,Act.put])
  refine rd 1 rfl fun K hK=>?_
  go_simp
  (first
   | (go_at_call 95;(with_reducible refine (HA1.out _ (Za (by with_reducible assumption))).mono ?_);rintro e6 w6 ⟨rfl,hb⟩)
   | (go_at_call 94;(with_reducible refine (Za8 _ _ _ _).mono ?_);rintro e7 w7 ⟨⟨u2,rfl,hT2⟩,hb⟩)
   | (go_at_call 96;(with_reducible refine (ALL.out _ (Za (by with_reducible assumption)) _ _ hT2).mono ?_);rintro e8 w8 ⟨rfl,hb⟩))
  go_wp2_with fail
  refine hK.out _ _ (STB.out _ _ hb (by with_reducible assumption)) (fun hH2=>?_)
  clear hK K hHeld hb;have hHeld:=hH2;clear hH2
  (try simp only [cl,Act.put])
  refine tkk 2 rfl ?_
  refine tkk 3 rfl ?_
  refine tkk 4 rfl ?_
  refine tkk 5 rfl ?_
  (try simp only [cl,Act.put])
  refine rd 6 rfl fun K hK=>?_
  go_simp
  refine hK.out _ _ ?_ (fun hH2=>?_)
  ·exact STB.out _ _ (below_alloc1 _ _) (by with_reducible assumption)
  clear hK K hHeld;have hHeld:=hH2;clear hH2
  (try simp only [cl,Act.put])
  refine rd 7 rfl fun K hK=>?_
  go_simp
  (first
   | (go_at_call 95;(with_reducible refine (HA1.out _ (Za (by with_reducible assumption))).mono ?_);rintro e6 w6 ⟨rfl,hb⟩)
   | (go_at_call 94;(with_reducible refine (Za8 _ _ _ _).mono ?_);rintro e7 w7 ⟨⟨u2,rfl,hT2⟩,hb⟩)
   | (go_at_call 96;(with_reducible refine (ALL.out _ (Za (by with_reducible assumption)) _ _ hT2).mono ?_);rintro e8 w8 ⟨rfl,hb⟩))
  go_wp2_with fail
  refine hK.out _ _ (STB.out _ _ hb (by with_reducible assumption)) (fun hH2=>?_)
  clear hK K hHeld hb;have hHeld:=hH2;clear hH2
  (try simp only [cl,Act.put])
  refine rd 8 rfl fun K hK=>?_
  go_simp
  (first
   | (go_at_call 95;(with_reducible refine (HA1.out _ (Za (by with_reducible assumption))).mono ?_);rintro e6 w6 ⟨rfl,hb⟩)
   | (go_at_call 94;(with_reducible refine (Za8 _ _ _ _).mono ?_);rintro e7 w7 ⟨⟨u2,rfl,hT2⟩,hb⟩)
   | (go_at_call 96;(with_reducible refine (ALL.out _ (Za (by with_reducible assumption)) _ _ hT2).mono ?_);rintro e8 w8 ⟨rfl,hb⟩))
  go_wp2_with fail
  refine hK.out _ _ (STB.out _ _ hb (by with_reducible assumption)) (fun hH2=>?_)
  clear hK K hHeld hb;have hHeld:=hH2;clear hH2
  (try simp only [cl,Act.put])
  refine tkk 9 rfl ?_
  refine tkk 10 rfl ?_
  (try simp only [cl,Act.put])
  refine wpAnyH_done (by kernel_rfl) ?_ _
  refine NoPanic.normal ?_
  have B9:=zh (Za hHeld)
  clear hHeld
  go_wp2_with fail
  go_ret
  exact ⟨by rw [QH1.out];rfl,B9.out⟩
theorem ZeP (w:World) (v:Value) (ns:List Nd) (va vb vc:Value) (ws:List (List UInt8)) (nums ks:List Int) (ps:Int) (hN:Zn w v ns) (hx:ZJ w ((va,vb,vc),⟨1,ws,nums,ks,ps⟩)) (hk:ZA ks ns.length) :
  Calls Tryz.prog 72 #[v,ndV ((va,vb,vc),⟨1,ws,nums,ks,ps⟩)] w fun e w'=>e=.returned (.bool (Zm ns ⟨1,ws,nums,ks,ps⟩))/\Below w.heap.size w w':=by
 rw [show Zm ns ⟨1,ws,nums,ks,ps⟩=(Zj ⟨1,ws,nums,ks,ps⟩ 1 0&&Zax ns ks (isB [2,3])) from rfl]
 obtain ⟨h1,h2,h3⟩:=id hx
 dsimp only at h1 h2 h3
 have AR:=zh (fun (wr:World) (hb:Below w.heap.size w wr) (vf:Value) (ts:List Tst) (hF:ZU wr vf ts)=>ZC wr v vc vf ns ks ts (hN.below hb) (h3.below hb) hF hk)
 have ALL:=zh (fun (wr:World) (hb:Below w.heap.size w wr) (u:Value) (t:Tst) (hu:Zp wr t u)=>ZB wr v vc u ns ks t (hN.below hb) (h3.below hb) hu hk)
 have HS0:=zh (fun (wr:World) (hb:Below w.heap.size w wr) (a b:Nat)=>ZG wr _ a b (hx.below hb))
 obtain ⟨A1,c1,rfl,_⟩:=h1
 obtain ⟨A2,c2,rfl,_,_,R2'⟩:=h2
 have R2:=zh R2'
 clear R2'
 obtain ⟨A3,c3,rfl,_⟩:=h3
 unfold ndV at HS0 ⊢
 dsimp only at HS0 ⊢
 clear hx hN hk
 have STB:=zh (show Stb (fun w'=>(w'.cell? ⟨w.heap.size,0,none⟩=some (.int .i64 1)/\w'.cell? ⟨w.heap.size,1,none⟩=some (.slice A1 ws.length c1)/\w'.cell? ⟨w.heap.size,2,none⟩=some (.slice A2 nums.length c2)/\w'.cell? ⟨w.heap.size,3,none⟩=some (.slice A3 ks.length c3)/\w'.cell? ⟨w.heap.size,4,none⟩=some (.int .i64 ps))/\Below w.heap.size w w') from Zc (Zc (Zb _ _) (Zc (Zb _ _) (Zc (Zb _ _) (Zc (Zb _ _) (Zb _ _))))) (Zq w))
 go_enter Tryz.func72,Tryz.ntmps72
 go_upto_region 1 with fail
 have HS1:((w.alloc (.cells #[.int .i64 1,.slice A1 ws.length c1,.slice A2 nums.length c2,.slice A3 ks.length c3,.int .i64 ps] 27)).cell? ⟨w.heap.size,0,none⟩=some (.int .i64 1)/\(w.alloc (.cells #[.int .i64 1,.slice A1 ws.length c1,.slice A2 nums.length c2,.slice A3 ks.length c3,.int .i64 ps] 27)).cell? ⟨w.heap.size,1,none⟩=some (.slice A1 ws.length c1)/\(w.alloc (.cells #[.int .i64 1,.slice A1 ws.length c1,.slice A2 nums.length c2,.slice A3 ks.length c3,.int .i64 ps] 27)).cell? ⟨w.heap.size,2,none⟩=some (.slice A2 nums.length c2)/\(w.alloc (.cells #[.int .i64 1,.slice A1 ws.length c1,.slice A2 nums.length c2,.slice A3 ks.length c3,.int .i64 ps] 27)).cell? ⟨w.heap.size,3,none⟩=some (.slice A3 ks.length c3)/\(w.alloc (.cells #[.int .i64 1,.slice A1 ws.length c1,.slice A2 nums.length c2,.slice A3 ks.length c3,.int .i64 ps] 27)).cell? ⟨w.heap.size,4,none⟩=some (.int .i64 ps))/\Below w.heap.size w (w.alloc (.cells #[.int .i64 1,.slice A1 ws.length c1,.slice A2 nums.length c2,.slice A3 ks.length c3,.int .i64 ps] 27)):=⟨⟨(Blk.start w _ _).cell 0,(Blk.start w _ _).cell 1,(Blk.start w _ _).cell 2,(Blk.start w _ _).cell 3,(Blk.start w _ _).cell 4⟩,below_alloc1 w _⟩
 generalize (w.alloc (.cells #[.int .i64 1,.slice A1 ws.length c1,.slice A2 nums.length c2,.slice A3 ks.length c3,.int .i64 ps] 27))=w1 at *
 have HS:(w1.drew.cell? ⟨w.heap.size,0,none⟩=some (.int .i64 1)/\w1.drew.cell? ⟨w.heap.size,1,none⟩=some (.slice A1 ws.length c1)/\w1.drew.cell? ⟨w.heap.size,2,none⟩=some (.slice A2 nums.length c2)/\w1.drew.cell? ⟨w.heap.size,3,none⟩=some (.slice A3 ks.length c3)/\w1.drew.cell? ⟨w.heap.size,4,none⟩=some (.int .i64 ps))/\Below w.heap.size w w1.drew:=⟨HS1.1,HS1.2.drew⟩
 clear HS1
 refine wp_region_noPanic ?_
 refine wp_region_held_drew (S:=(fun w'=>(w'.cell? ⟨w.heap.size,0,none⟩=some (.int .i64 1)/\w'.cell? ⟨w.heap.size,1,none⟩=some (.slice A1 ws.length c1)/\w'.cell? ⟨w.heap.size,2,none⟩=some (.slice A2 nums.length c2)/\w'.cell? ⟨w.heap.size,3,none⟩=some (.slice A3 ks.length c3)/\w'.cell? ⟨w.heap.size,4,none⟩=some (.int .i64 ps))/\Below w.heap.size w w')) (by kernel_rfl) HS (fun hHeld=>?_)
 clear HS
 refine tk 0 rfl ?_
 refine tk 1 rfl ?_
 refine tk 2 rfl ?_
 (try simp only [cl,Act.put])
 refine rd 3 rfl fun K hK=>?_
 go_simp
 refine hK.out _ _ ?_ (fun hH2=>?_)
 ·exact STB.out _ _ (below_alloc1 _ _) (by with_reducible assumption)
 clear hK K hHeld;have hHeld:=hH2;clear hH2
 (try simp only [cl,Act.put])
 refine rd 4 rfl fun K hK=>?_
 go_simp
 (go_at_call 94;(with_reducible refine (Zf _ _ _).mono ?_);rintro e5 w5 ⟨⟨u,rfl,hT⟩,hb⟩;obtain ⟨bu,Au,cu,rfl,_,_⟩:=id hT)
 go_wp2_with fail
 refine hK.out _ _ (STB.out _ _ hb (by with_reducible assumption)) (fun hH2=>?_)
 clear hK K hHeld hb;have hHeld:=hH2;clear hH2
 (try simp only [cl,Act.put])
 refine tk 5 rfl ?_
 refine tk 6 rfl ?_
 (try simp only [cl,Act.put])
 refine wpAnyH_done (by kernel_rfl) ?_ _
 refine NoPanic.normal ?_
 have T3:=zh hT
 have H3:=zh (Za hHeld)
 have HH:=zh hHeld
 clear hT
 obtain ⟨⟨g0,g1,g2,g3,g4⟩,_⟩:=hHeld
 have HA1:=zh (show ∀ wr:World,Below w.heap.size w wr->Calls Tryz.prog 95 #[.agg #[.int .i64 1,.slice A1 ws.length c1,.slice A2 nums.length c2,.slice A3 ks.length c3,.int .i64 ps],.int .i64 1,.int .i64 0] wr fun e w'=>e=.returned (.bool (Zj ⟨1,ws,nums,ks,ps⟩ 1 0))/\Below wr.heap.size wr w' from fun wr hb=>HS0.out wr hb 1 0)
 generalize hqH1:Zj ⟨1,ws,nums,ks,ps⟩ 1 0=H1 at HA1
 have QH1:=zh hqH1
 clear hqH1
 cases H1
 ·go_upto_region 6 with fail
  have HS:(w5.drew.cell? ⟨w.heap.size,0,none⟩=some (.int .i64 1)/\w5.drew.cell? ⟨w.heap.size,1,none⟩=some (.slice A1 ws.length c1)/\w5.drew.cell? ⟨w.heap.size,2,none⟩=some (.slice A2 nums.length c2)/\w5.drew.cell? ⟨w.heap.size,3,none⟩=some (.slice A3 ks.length c3)/\w5.drew.cell? ⟨w.heap.size,4,none⟩=some (.int .i64 ps))/\Below w.heap.size w w5.drew:=⟨HH.out.1,H3.out.drew⟩
  clear HH g0 g1 g2 g3 g4
  refine wp_region_noPanic ?_
  refine wp_region_held_drew (S:=(fun w'=>(w'.cell? ⟨w.heap.size,0,none⟩=some (.int .i64 1)/\w'.cell? ⟨w.heap.size,1,none⟩=some (.slice A1 ws.length c1)/\w'.cell? ⟨w.heap.size,2,none⟩=some (.slice A2 nums.length c2)/\w'.cell? ⟨w.heap.size,3,none⟩=some (.slice A3 ks.length c3)/\w'.cell? ⟨w.heap.size,4,none⟩=some (.int .i64 ps))/\Below w.heap.size w w')) (by kernel_rfl) HS (fun hHeld=>?_)
  clear HS
  refine tkk 0 rfl ?_
  (try simp only [cl,Act.put])
  refine rd 1 rfl fun K hK=>?_
  go_simp
  (first
   | (go_at_call 95;(with_reducible refine (HA1.out _ (Za (by with_reducible assumption))).mono ?_);rintro e6 w6 ⟨rfl,hb⟩)
   | (go_at_call 94;(with_reducible refine (Za8 _ _ _ _).mono ?_);rintro e7 w7 ⟨⟨u2,rfl,hT2⟩,hb⟩)
   | (go_at_call 96;(with_reducible refine (ALL.out _ (Za (by with_reducible assumption)) _ _ hT2).mono ?_);rintro e8 w8 ⟨rfl,hb⟩))
  go_wp2_with fail
  refine hK.out _ _ (STB.out _ _ hb (by with_reducible assumption)) (fun hH2=>?_)
  clear hK K hHeld hb;have hHeld:=hH2;clear hH2
  (try simp only [cl,Act.put])
  refine tkk 2 rfl ?_
  refine txk 3 rfl ?_
  refine txk 4 rfl ?_
  refine txk 5 rfl ?_
  refine txk 6 rfl ?_
  refine txk 7 rfl ?_
  refine txk 8 rfl ?_
  refine tkk 9 rfl ?_
  refine tkk 10 rfl ?_
  (try simp only [cl,Act.put])
  refine wpAnyH_done (by kernel_rfl) ?_ _
  refine NoPanic.normal ?_
  have B9:=zh (Za hHeld)
  clear hHeld
  go_wp2_with fail
  go_ret
  exact ⟨by rw [QH1.out];rfl,B9.out⟩
 ·go_upto_region 6 with fail
  have HS:(w5.drew.cell? ⟨w.heap.size,0,none⟩=some (.int .i64 1)/\w5.drew.cell? ⟨w.heap.size,1,none⟩=some (.slice A1 ws.length c1)/\w5.drew.cell? ⟨w.heap.size,2,none⟩=some (.slice A2 nums.length c2)/\w5.drew.cell? ⟨w.heap.size,3,none⟩=some (.slice A3 ks.length c3)/\w5.drew.cell? ⟨w.heap.size,4,none⟩=some (.int .i64 ps))/\Below w.heap.size w w5.drew:=⟨HH.out.1,H3.out.drew⟩
  clear HH g0 g1 g2 g3 g4
  refine wp_region_noPanic ?_
  refine wp_region_held_drew (S:=(fun w'=>(w'.cell? ⟨w.heap.size,0,none⟩=some (.int .i64 1)/\w'.cell? ⟨w.heap.size,1,none⟩=some (.slice A1 ws.length c1)/\w'.cell? ⟨w.heap.size,2,none⟩=some (.slice A2 nums.length c2)/\w'.cell? ⟨w.heap.size,3,none⟩=some (.slice A3 ks.length c3)/\w'.cell? ⟨w.heap.size,4,none⟩=some (.int .i64 ps))/\Below w.heap.size w w')) (by kernel_rfl) HS (fun hHeld=>?_)
  clear HS
  refine tkk 0 rfl ?_
  (try simp only [cl,Act.put])
  refine rd 1 rfl fun K hK=>?_
  go_simp
  (first
   | (go_at_call 95;(with_reducible refine (HA1.out _ (Za (by with_reducible assumption))).mono ?_);rintro e6 w6 ⟨rfl,hb⟩)
   | (go_at_call 94;(with_reducible refine (Za8 _ _ _ _).mono ?_);rintro e7 w7 ⟨⟨u2,rfl,hT2⟩,hb⟩)
   | (go_at_call 96;(with_reducible refine (ALL.out _ (Za (by with_reducible assumption)) _ _ hT2).mono ?_);rintro e8 w8 ⟨rfl,hb⟩))
  go_wp2_with fail
  refine hK.out _ _ (STB.out _ _ hb (by with_reducible assumption)) (fun hH2=>?_)
  clear hK K hHeld hb;have hHeld:=hH2;clear hH2
  (try simp only [cl,Act.put])
  refine tkk 2 rfl ?_
  refine tkk 3 rfl ?_
  refine tkk 4 rfl ?_
  refine tkk 5 rfl ?_
  (try simp only [cl,Act.put])
  refine rd 6 rfl fun K hK=>?_
  go_simp
  refine hK.out _ _ ?_ (fun hH2=>?_)
  ·exact STB.out _ _ (below_alloc1 _ _) (by with_reducible assumption)
  clear hK K hHeld;have hHeld:=hH2;clear hH2
  (try simp only [cl,Act.put])
  refine rd 7 rfl fun K hK=>?_
  go_simp
  (first
   | (go_at_call 95;(with_reducible refine (HA1.out _ (Za (by with_reducible assumption))).mono ?_);rintro e6 w6 ⟨rfl,hb⟩)
   | (go_at_call 94;(with_reducible refine (Za8 _ _ _ _).mono ?_);rintro e7 w7 ⟨⟨u2,rfl,hT2⟩,hb⟩)
   | (go_at_call 96;(with_reducible refine (ALL.out _ (Za (by with_reducible assumption)) _ _ hT2).mono ?_);rintro e8 w8 ⟨rfl,hb⟩))
  go_wp2_with fail
  refine hK.out _ _ (STB.out _ _ hb (by with_reducible assumption)) (fun hH2=>?_)
  clear hK K hHeld hb;have hHeld:=hH2;clear hH2
  (try simp only [cl,Act.put])
  refine rd 8 rfl fun K hK=>?_
  go_simp
  (first
   | (go_at_call 95;(with_reducible refine (HA1.out _ (Za (by with_reducible assumption))).mono ?_);rintro e6 w6 ⟨rfl,hb⟩)
   | (go_at_call 94;(with_reducible refine (Za8 _ _ _ _).mono ?_);rintro e7 w7 ⟨⟨u2,rfl,hT2⟩,hb⟩)
   | (go_at_call 96;(with_reducible refine (ALL.out _ (Za (by with_reducible assumption)) _ _ hT2).mono ?_);rintro e8 w8 ⟨rfl,hb⟩))
  go_wp2_with fail
  refine hK.out _ _ (STB.out _ _ hb (by with_reducible assumption)) (fun hH2=>?_)
  clear hK K hHeld hb;have hHeld:=hH2;clear hH2
  (try simp only [cl,Act.put])
  refine tkk 9 rfl ?_
  refine tkk 10 rfl ?_
  (try simp only [cl,Act.put])
  refine wpAnyH_done (by kernel_rfl) ?_ _
  refine NoPanic.normal ?_
  have B9:=zh (Za hHeld)
  clear hHeld
  go_wp2_with fail
  go_ret
  exact ⟨by rw [QH1.out];rfl,B9.out⟩
theorem Zg8 (w:World) (v:Value) (ns:List Nd) (va vb vc:Value) (ws:List (List UInt8)) (nums ks:List Int) (ps:Int) (hN:Zn w v ns) (hx:ZJ w ((va,vb,vc),⟨11,ws,nums,ks,ps⟩)) (hk:ZA ks ns.length) :
  Calls Tryz.prog 72 #[v,ndV ((va,vb,vc),⟨11,ws,nums,ks,ps⟩)] w fun e w'=>e=.returned (.bool (Zm ns ⟨11,ws,nums,ks,ps⟩))/\Below w.heap.size w w':=by
 rw [show Zm ns ⟨11,ws,nums,ks,ps⟩=(Zj ⟨11,ws,nums,ks,ps⟩ 2 0&&Zax ns ks (isB [12])) from rfl]
 obtain ⟨h1,h2,h3⟩:=id hx
 dsimp only at h1 h2 h3
 have AR:=zh (fun (wr:World) (hb:Below w.heap.size w wr) (vf:Value) (ts:List Tst) (hF:ZU wr vf ts)=>ZC wr v vc vf ns ks ts (hN.below hb) (h3.below hb) hF hk)
 have ALL:=zh (fun (wr:World) (hb:Below w.heap.size w wr) (u:Value) (t:Tst) (hu:Zp wr t u)=>ZB wr v vc u ns ks t (hN.below hb) (h3.below hb) hu hk)
 have HS0:=zh (fun (wr:World) (hb:Below w.heap.size w wr) (a b:Nat)=>ZG wr _ a b (hx.below hb))
 obtain ⟨A1,c1,rfl,_⟩:=h1
 obtain ⟨A2,c2,rfl,_,_,R2'⟩:=h2
 have R2:=zh R2'
 clear R2'
 obtain ⟨A3,c3,rfl,_⟩:=h3
 unfold ndV at HS0 ⊢
 dsimp only at HS0 ⊢
 clear hx hN hk
 have STB:=zh (show Stb (fun w'=>(w'.cell? ⟨w.heap.size,0,none⟩=some (.int .i64 11)/\w'.cell? ⟨w.heap.size,1,none⟩=some (.slice A1 ws.length c1)/\w'.cell? ⟨w.heap.size,2,none⟩=some (.slice A2 nums.length c2)/\w'.cell? ⟨w.heap.size,3,none⟩=some (.slice A3 ks.length c3)/\w'.cell? ⟨w.heap.size,4,none⟩=some (.int .i64 ps))/\Below w.heap.size w w') from Zc (Zc (Zb _ _) (Zc (Zb _ _) (Zc (Zb _ _) (Zc (Zb _ _) (Zb _ _))))) (Zq w))
 go_enter Tryz.func72,Tryz.ntmps72
 go_upto_region 1 with fail
 have HS1:((w.alloc (.cells #[.int .i64 11,.slice A1 ws.length c1,.slice A2 nums.length c2,.slice A3 ks.length c3,.int .i64 ps] 27)).cell? ⟨w.heap.size,0,none⟩=some (.int .i64 11)/\(w.alloc (.cells #[.int .i64 11,.slice A1 ws.length c1,.slice A2 nums.length c2,.slice A3 ks.length c3,.int .i64 ps] 27)).cell? ⟨w.heap.size,1,none⟩=some (.slice A1 ws.length c1)/\(w.alloc (.cells #[.int .i64 11,.slice A1 ws.length c1,.slice A2 nums.length c2,.slice A3 ks.length c3,.int .i64 ps] 27)).cell? ⟨w.heap.size,2,none⟩=some (.slice A2 nums.length c2)/\(w.alloc (.cells #[.int .i64 11,.slice A1 ws.length c1,.slice A2 nums.length c2,.slice A3 ks.length c3,.int .i64 ps] 27)).cell? ⟨w.heap.size,3,none⟩=some (.slice A3 ks.length c3)/\(w.alloc (.cells #[.int .i64 11,.slice A1 ws.length c1,.slice A2 nums.length c2,.slice A3 ks.length c3,.int .i64 ps] 27)).cell? ⟨w.heap.size,4,none⟩=some (.int .i64 ps))/\Below w.heap.size w (w.alloc (.cells #[.int .i64 11,.slice A1 ws.length c1,.slice A2 nums.length c2,.slice A3 ks.length c3,.int .i64 ps] 27)):=⟨⟨(Blk.start w _ _).cell 0,(Blk.start w _ _).cell 1,(Blk.start w _ _).cell 2,(Blk.start w _ _).cell 3,(Blk.start w _ _).cell 4⟩,below_alloc1 w _⟩
 generalize (w.alloc (.cells #[.int .i64 11,.slice A1 ws.length c1,.slice A2 nums.length c2,.slice A3 ks.length c3,.int .i64 ps] 27))=w1 at *
 have HS:(w1.drew.cell? ⟨w.heap.size,0,none⟩=some (.int .i64 11)/\w1.drew.cell? ⟨w.heap.size,1,none⟩=some (.slice A1 ws.length c1)/\w1.drew.cell? ⟨w.heap.size,2,none⟩=some (.slice A2 nums.length c2)/\w1.drew.cell? ⟨w.heap.size,3,none⟩=some (.slice A3 ks.length c3)/\w1.drew.cell? ⟨w.heap.size,4,none⟩=some (.int .i64 ps))/\Below w.heap.size w w1.drew:=⟨HS1.1,HS1.2.drew⟩
 clear HS1
 refine wp_region_noPanic ?_
 refine wp_region_held_drew (S:=(fun w'=>(w'.cell? ⟨w.heap.size,0,none⟩=some (.int .i64 11)/\w'.cell? ⟨w.heap.size,1,none⟩=some (.slice A1 ws.length c1)/\w'.cell? ⟨w.heap.size,2,none⟩=some (.slice A2 nums.length c2)/\w'.cell? ⟨w.heap.size,3,none⟩=some (.slice A3 ks.length c3)/\w'.cell? ⟨w.heap.size,4,none⟩=some (.int .i64 ps))/\Below w.heap.size w w')) (by kernel_rfl) HS (fun hHeld=>?_)
 clear HS
 refine tk 0 rfl ?_
 refine tk 1 rfl ?_
 refine tk 2 rfl ?_
 (try simp only [cl,Act.put])
 refine rd 3 rfl fun K hK=>?_
 go_simp
 refine hK.out _ _ ?_ (fun hH2=>?_)
 ·exact STB.out _ _ (below_alloc1 _ _) (by with_reducible assumption)
 clear hK K hHeld;have hHeld:=hH2;clear hH2
 (try simp only [cl,Act.put])
 refine rd 4 rfl fun K hK=>?_
 go_simp
 (go_at_call 94;(with_reducible refine (Zf _ _ _).mono ?_);rintro e5 w5 ⟨⟨u,rfl,hT⟩,hb⟩;obtain ⟨bu,Au,cu,rfl,_,_⟩:=id hT)
 go_wp2_with fail
 refine hK.out _ _ (STB.out _ _ hb (by with_reducible assumption)) (fun hH2=>?_)
 clear hK K hHeld hb;have hHeld:=hH2;clear hH2
 (try simp only [cl,Act.put])
 refine tk 5 rfl ?_
 refine tk 6 rfl ?_
 (try simp only [cl,Act.put])
 refine wpAnyH_done (by kernel_rfl) ?_ _
 refine NoPanic.normal ?_
 have T3:=zh hT
 have H3:=zh (Za hHeld)
 have HH:=zh hHeld
 clear hT
 obtain ⟨⟨g0,g1,g2,g3,g4⟩,_⟩:=hHeld
 have HA1:=zh (show ∀ wr:World,Below w.heap.size w wr->Calls Tryz.prog 95 #[.agg #[.int .i64 11,.slice A1 ws.length c1,.slice A2 nums.length c2,.slice A3 ks.length c3,.int .i64 ps],.int .i64 2,.int .i64 0] wr fun e w'=>e=.returned (.bool (Zj ⟨11,ws,nums,ks,ps⟩ 2 0))/\Below wr.heap.size wr w' from fun wr hb=>HS0.out wr hb 2 0)
 generalize hqH1:Zj ⟨11,ws,nums,ks,ps⟩ 2 0=H1 at HA1
 have QH1:=zh hqH1
 clear hqH1
 cases H1
 ·go_upto_region 26 with fail
  have HS:(w5.drew.cell? ⟨w.heap.size,0,none⟩=some (.int .i64 11)/\w5.drew.cell? ⟨w.heap.size,1,none⟩=some (.slice A1 ws.length c1)/\w5.drew.cell? ⟨w.heap.size,2,none⟩=some (.slice A2 nums.length c2)/\w5.drew.cell? ⟨w.heap.size,3,none⟩=some (.slice A3 ks.length c3)/\w5.drew.cell? ⟨w.heap.size,4,none⟩=some (.int .i64 ps))/\Below w.heap.size w w5.drew:=⟨HH.out.1,H3.out.drew⟩
  clear HH g0 g1 g2 g3 g4
  refine wp_region_noPanic ?_
  refine wp_region_held_drew (S:=(fun w'=>(w'.cell? ⟨w.heap.size,0,none⟩=some (.int .i64 11)/\w'.cell? ⟨w.heap.size,1,none⟩=some (.slice A1 ws.length c1)/\w'.cell? ⟨w.heap.size,2,none⟩=some (.slice A2 nums.length c2)/\w'.cell? ⟨w.heap.size,3,none⟩=some (.slice A3 ks.length c3)/\w'.cell? ⟨w.heap.size,4,none⟩=some (.int .i64 ps))/\Below w.heap.size w w')) (by kernel_rfl) HS (fun hHeld=>?_)
  clear HS
  refine tkk 0 rfl ?_
  (try simp only [cl,Act.put])
  refine rd 1 rfl fun K hK=>?_
  go_simp
  (first
   | (go_at_call 95;(with_reducible refine (HA1.out _ (Za (by with_reducible assumption))).mono ?_);rintro e6 w6 ⟨rfl,hb⟩)
   | (go_at_call 94;(with_reducible refine (Zi _ _ _).mono ?_);rintro e7 w7 ⟨⟨u2,rfl,hT2⟩,hb⟩)
   | (go_at_call 96;(with_reducible refine (ALL.out _ (Za (by with_reducible assumption)) _ _ hT2).mono ?_);rintro e8 w8 ⟨rfl,hb⟩))
  go_wp2_with fail
  refine hK.out _ _ (STB.out _ _ hb (by with_reducible assumption)) (fun hH2=>?_)
  clear hK K hHeld hb;have hHeld:=hH2;clear hH2
  (try simp only [cl,Act.put])
  refine tkk 2 rfl ?_
  refine txk 3 rfl ?_
  refine txk 4 rfl ?_
  refine txk 5 rfl ?_
  refine txk 6 rfl ?_
  refine txk 7 rfl ?_
  refine txk 8 rfl ?_
  refine tkk 9 rfl ?_
  refine tkk 10 rfl ?_
  (try simp only [cl,Act.put])
  refine wpAnyH_done (by kernel_rfl) ?_ _
  refine NoPanic.normal ?_
  have B9:=zh (Za hHeld)
  clear hHeld
  go_wp2_with fail
  go_ret
  exact ⟨by rw [QH1.out];rfl,B9.out⟩
 ·go_upto_region 26 with fail
  have HS:(w5.drew.cell? ⟨w.heap.size,0,none⟩=some (.int .i64 11)/\w5.drew.cell? ⟨w.heap.size,1,none⟩=some (.slice A1 ws.length c1)/\w5.drew.cell? ⟨w.heap.size,2,none⟩=some (.slice A2 nums.length c2)/\w5.drew.cell? ⟨w.heap.size,3,none⟩=some (.slice A3 ks.length c3)/\w5.drew.cell? ⟨w.heap.size,4,none⟩=some (.int .i64 ps))/\Below w.heap.size w w5.drew:=⟨HH.out.1,H3.out.drew⟩
  clear HH g0 g1 g2 g3 g4
  refine wp_region_noPanic ?_
  refine wp_region_held_drew (S:=(fun w'=>(w'.cell? ⟨w.heap.size,0,none⟩=some (.int .i64 11)/\w'.cell? ⟨w.heap.size,1,none⟩=some (.slice A1 ws.length c1)/\w'.cell? ⟨w.heap.size,2,none⟩=some (.slice A2 nums.length c2)/\w'.cell? ⟨w.heap.size,3,none⟩=some (.slice A3 ks.length c3)/\w'.cell? ⟨w.heap.size,4,none⟩=some (.int .i64 ps))/\Below w.heap.size w w')) (by kernel_rfl) HS (fun hHeld=>?_)
  clear HS
  refine tkk 0 rfl ?_
  (try simp only [cl,Act.put])
  refine rd 1 rfl fun K hK=>?_
  go_simp
  (first
   | (go_at_call 95;(with_reducible refine (HA1.out _ (Za (by with_reducible assumption))).mono ?_);rintro e6 w6 ⟨rfl,hb⟩)
   | (go_at_call 94;(with_reducible refine (Zi _ _ _).mono ?_);rintro e7 w7 ⟨⟨u2,rfl,hT2⟩,hb⟩)
   | (go_at_call 96;(with_reducible refine (ALL.out _ (Za (by with_reducible assumption)) _ _ hT2).mono ?_);rintro e8 w8 ⟨rfl,hb⟩))
  go_wp2_with fail
  refine hK.out _ _ (STB.out _ _ hb (by with_reducible assumption)) (fun hH2=>?_)
  clear hK K hHeld hb;have hHeld:=hH2;clear hH2
  (try simp only [cl,Act.put])
  refine tkk 2 rfl ?_
  refine tkk 3 rfl ?_
  refine tkk 4 rfl ?_
  refine tkk 5 rfl ?_
  (try simp only [cl,Act.put])
  refine rd 6 rfl fun K hK=>?_
  go_simp
  refine hK.out _ _ ?_ (fun hH2=>?_)
  ·exact STB.out _ _ (below_alloc1 _ _) (by with_reducible assumption)
  clear hK K hHeld;have hHeld:=hH2;clear hH2
  (try simp only [cl,Act.put])
  refine rd 7 rfl fun K hK=>?_
  go_simp
  (first
   | (go_at_call 95;(with_reducible refine (HA1.out _ (Za (by with_reducible assumption))).mono ?_);rintro e6 w6 ⟨rfl,hb⟩)
   | (go_at_call 94;(with_reducible refine (Zi _ _ _).mono ?_);rintro e7 w7 ⟨⟨u2,rfl,hT2⟩,hb⟩)
   | (go_at_call 96;(with_reducible refine (ALL.out _ (Za (by with_reducible assumption)) _ _ hT2).mono ?_);rintro e8 w8 ⟨rfl,hb⟩))
  go_wp2_with fail
  refine hK.out _ _ (STB.out _ _ hb (by with_reducible assumption)) (fun hH2=>?_)
  clear hK K hHeld hb;have hHeld:=hH2;clear hH2
  (try simp only [cl,Act.put])
  refine rd 8 rfl fun K hK=>?_
  go_simp
  (first
   | (go_at_call 95;(with_reducible refine (HA1.out _ (Za (by with_reducible assumption))).mono ?_);rintro e6 w6 ⟨rfl,hb⟩)
   | (go_at_call 94;(with_reducible refine (Zi _ _ _).mono ?_);rintro e7 w7 ⟨⟨u2,rfl,hT2⟩,hb⟩)
   | (go_at_call 96;(with_reducible refine (ALL.out _ (Za (by with_reducible assumption)) _ _ hT2).mono ?_);rintro e8 w8 ⟨rfl,hb⟩))
  go_wp2_with fail
  refine hK.out _ _ (STB.out _ _ hb (by with_reducible assumption)) (fun hH2=>?_)
  clear hK K hHeld hb;have hHeld:=hH2;clear hH2
  (try simp only [cl,Act.put])
  refine tkk 9 rfl ?_
  refine tkk 10 rfl ?_
  (try simp only [cl,Act.put])
  refine wpAnyH_done (by kernel_rfl) ?_ _
  refine NoPanic.normal ?_
  have B9:=zh (Za hHeld)
  clear hHeld
  go_wp2_with fail
  go_ret
  exact ⟨by rw [QH1.out];rfl,B9.out⟩
end
end Go.Proofs.YtkgkmdhpnhmcpaaGreatDoor
