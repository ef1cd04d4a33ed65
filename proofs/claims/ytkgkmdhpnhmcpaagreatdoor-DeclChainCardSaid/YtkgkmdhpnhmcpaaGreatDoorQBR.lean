import Derived.Test.YtkgkmdhpnhmcpaaGreatDoorQBI
set_option maxRecDepth 100000
set_option maxHeartbeats 8000000
namespace Go.Proofs.YtkgkmdhpnhmcpaaGreatDoor
section
open Go.RowKit
theorem Zid (w:World) (v:Value) (ns:List Nd) (va vb vc:Value) (kd:Int) (ws:List (List UInt8)) (nums ks:List Int) (ps:Int) (hN:Zn w v ns) (hx:ZJ w ((va,vb,vc),⟨kd,ws,nums,ks,ps⟩)) (hk:ZA ks ns.length) (hl:nums.length=3) :
  Calls Tryz.prog 101 #[v,ndV ((va,vb,vc),⟨kd,ws,nums,ks,ps⟩)] w fun e w'=>e=.returned (.bool (Zdr ns ⟨kd,ws,nums,ks,ps⟩))/\Below w.heap.size w w':=by
 obtain ⟨h1,h2,h3⟩:=id hx
 dsimp only at h1 h2 h3
 have FRA:=zh (fun (wr:World) (hb:Below w.heap.size w wr)=>ZcC wr _ (hx.below hb) hl)
 have AR:=zh (fun (wr:World) (hb:Below w.heap.size w wr) (vf:Value) (ts:List Tst) (hF:ZU wr vf ts)=>ZC wr v vc vf ns ks ts (hN.below hb) (h3.below hb) hF hk)
 have WHI:=zh (fun (wr:World) (hb:Below w.heap.size w wr) (k:Nat) (q:k<ns.length)=>Zai (Zd4 wr v ns k (hN.below hb) q))
 have RK:=zh (zi h3 hk)
 obtain ⟨A1,c1,rfl,_⟩:=h1
 obtain ⟨A2,c2,rfl,_,_,R2⟩:=h2
 obtain ⟨A3,c3,rfl,_⟩:=h3
 obtain ⟨y0,hy0⟩:∃ y,nums[0]? = some y:=⟨_,List.getElem?_eq_getElem (by omega)⟩
 obtain ⟨y1,hy1⟩:∃ y,nums[1]? = some y:=⟨_,List.getElem?_eq_getElem (by omega)⟩
 obtain ⟨y2,hy2⟩:∃ y,nums[2]? = some y:=⟨_,List.getElem?_eq_getElem (by omega)⟩
 have N0:=zh (ZaL (n:=(⟨kd,ws,nums,ks,ps⟩:Nd)) hy0)
 have N1:=zh (ZaL (n:=(⟨kd,ws,nums,ks,ps⟩:Nd)) hy1)
 have N2:=zh (ZaL (n:=(⟨kd,ws,nums,ks,ps⟩:Nd)) hy2)
 obtain ⟨ad2,rfl,n0⟩:=ints_at R2 (Below.refl _ _) hy0 (by omega)
 obtain ⟨a2,e2,n1⟩:=ints_at R2 (Below.refl _ _) hy1 (by omega)
 injection e2 with e2
 subst e2
 obtain ⟨a2,e2,n2⟩:=ints_at R2 (Below.refl _ _) hy2 (by omega)
 injection e2 with e2
 subst e2
 rw [show ad2.add 0=ad2 by unfold Addr.add;simp] at n0
 rw [show ad2.add 1=⟨ad2.block,ad2.off+1,none⟩ by unfold Addr.add;simp] at n1
 rw [show ad2.add 2=⟨ad2.block,ad2.off+2,none⟩ by unfold Addr.add;simp] at n2
 unfold ndV at FRA ⊢
 dsimp only at FRA ⊢
 rw [hl] at FRA ⊢
 have hal:=below_alloc1 w (.cells #[.int .i64 kd,.slice A1 ws.length c1,.slice (some ad2) 3 c2,.slice A3 ks.length c3,.int .i64 ps] 27)
 have keep:=fun (p:Addr) (x:Value) (h:w.cell? p=some x)=>(hal.cell (World.block_lt_of_cell? _ _ h)).trans h
 have HS1:((w.alloc (.cells #[.int .i64 kd,.slice A1 ws.length c1,.slice (some ad2) 3 c2,.slice A3 ks.length c3,.int .i64 ps] 27)).cell? ⟨w.heap.size,0,none⟩=some (.int .i64 kd)/\(w.alloc (.cells #[.int .i64 kd,.slice A1 ws.length c1,.slice (some ad2) 3 c2,.slice A3 ks.length c3,.int .i64 ps] 27)).cell? ⟨w.heap.size,1,none⟩=some (.slice A1 ws.length c1)/\(w.alloc (.cells #[.int .i64 kd,.slice A1 ws.length c1,.slice (some ad2) 3 c2,.slice A3 ks.length c3,.int .i64 ps] 27)).cell? ⟨w.heap.size,2,none⟩=some (.slice (some ad2) 3 c2)/\(w.alloc (.cells #[.int .i64 kd,.slice A1 ws.length c1,.slice (some ad2) 3 c2,.slice A3 ks.length c3,.int .i64 ps] 27)).cell? ⟨w.heap.size,3,none⟩=some (.slice A3 ks.length c3)/\(w.alloc (.cells #[.int .i64 kd,.slice A1 ws.length c1,.slice (some ad2) 3 c2,.slice A3 ks.length c3,.int .i64 ps] 27)).cell? ⟨w.heap.size,4,none⟩=some (.int .i64 ps)/\(w.alloc (.cells #[.int .i64 kd,.slice A1 ws.length c1,.slice (some ad2) 3 c2,.slice A3 ks.length c3,.int .i64 ps] 27)).cell? ad2=some (.int .i64 y0)/\(w.alloc (.cells #[.int .i64 kd,.slice A1 ws.length c1,.slice (some ad2) 3 c2,.slice A3 ks.length c3,.int .i64 ps] 27)).cell? ⟨ad2.block,ad2.off+1,none⟩=some (.int .i64 y1)/\(w.alloc (.cells #[.int .i64 kd,.slice A1 ws.length c1,.slice (some ad2) 3 c2,.slice A3 ks.length c3,.int .i64 ps] 27)).cell? ⟨ad2.block,ad2.off+2,none⟩=some (.int .i64 y2))/\Below w.heap.size w (w.alloc (.cells #[.int .i64 kd,.slice A1 ws.length c1,.slice (some ad2) 3 c2,.slice A3 ks.length c3,.int .i64 ps] 27)):=⟨⟨(Blk.start w _ _).cell 0,(Blk.start w _ _).cell 1,(Blk.start w _ _).cell 2,(Blk.start w _ _).cell 3,(Blk.start w _ _).cell 4,keep _ _ n0,keep _ _ n1,keep _ _ n2⟩,hal⟩
 clear hx hN R2 n0 n1 n2 hy0 hy1 hy2 hal keep
 have STB:=zh (show Stb (fun w'=>(w'.cell? ⟨w.heap.size,0,none⟩=some (.int .i64 kd)/\w'.cell? ⟨w.heap.size,1,none⟩=some (.slice A1 ws.length c1)/\w'.cell? ⟨w.heap.size,2,none⟩=some (.slice (some ad2) 3 c2)/\w'.cell? ⟨w.heap.size,3,none⟩=some (.slice A3 ks.length c3)/\w'.cell? ⟨w.heap.size,4,none⟩=some (.int .i64 ps)/\w'.cell? ad2=some (.int .i64 y0)/\w'.cell? ⟨ad2.block,ad2.off+1,none⟩=some (.int .i64 y1)/\w'.cell? ⟨ad2.block,ad2.off+2,none⟩=some (.int .i64 y2))/\Below w.heap.size w w') from Zc (Zc (Zb _ _) ( Zc (Zb _ _) ( Zc (Zb _ _) ( Zc (Zb _ _) ( Zc (Zb _ _) ( Zc (Zb _ _) ( Zc (Zb _ _) (Zb _ _)))))))) (Zq w))
 have EQ:=zh (show Zdr ns ⟨kd,ws,nums,ks,ps⟩=(!(y0==0)&&decide (y0<=4)&&Zbl ⟨kd,ws,nums,ks,ps⟩&&(Zk ns ks [isB [7]]||Zk ns ks [isB [6],isB [7]]&&Zan ns (atI ks 0)==2)) from by unfold Zdr;rw [N0.out])
 have FR1:=zh (show ∀ wr:World,Below w.heap.size w wr->Calls Tryz.prog 133 #[.agg #[.int .i64 kd,.slice A1 ws.length c1,.slice (some ad2) 3 c2,.slice A3 ks.length c3,.int .i64 ps]] wr fun e w'=>e=.returned (.bool (Zbl ⟨kd,ws,nums,ks,ps⟩))/\Below wr.heap.size wr w' from fun wr hb=>FRA.out wr hb)
 have A1D:=zh (fun (wr:World) (hb:Below w.heap.size w wr) (bu:Nat) (T:Zp wr (.is [7]) (.func (.func 129) #[] #[.pointer (some ⟨bu,0,none⟩)]))=>show Calls Tryz.prog 97 #[v,.slice A3 ks.length c3,.slice (some ⟨wr.heap.size,0,none⟩) 1 1] (wr.alloc (.cells #[.func (.func 129) #[] #[.pointer (some ⟨bu,0,none⟩)]] 105)).drew (fun e w'=>e=.returned (.bool (Zk ns ks [isB [7]]))/\Below (wr.alloc (.cells #[.func (.func 129) #[] #[.pointer (some ⟨bu,0,none⟩)]] 105)).drew.heap.size (wr.alloc (.cells #[.func (.func 129) #[] #[.pointer (some ⟨bu,0,none⟩)]] 105)).drew w') from AR.out _ (hb.trans ((below_alloc1 _ _).mono hb.size)).drew _ [.is [7]] ((Zaq wr [.is [7]] [.func (.func 129) #[] #[.pointer (some ⟨bu,0,none⟩)]] 105 (by simp [maxLen]) ⟨T.below (below_alloc1 _ _),trivial⟩).below (Zo _)))
 have A2_:=zh (fun (wr:World) (hb:Below w.heap.size w wr) (bu b2:Nat) (T2:Zp wr (.is [6]) (.func (.func 129) #[] #[.pointer (some ⟨b2,0,none⟩)])) (T:Zp wr (.is [7]) (.func (.func 129) #[] #[.pointer (some ⟨bu,0,none⟩)]))=>show Calls Tryz.prog 97 #[v,.slice A3 ks.length c3,.slice (some ⟨wr.heap.size,0,none⟩) 2 2] (wr.alloc (.cells #[.func (.func 129) #[] #[.pointer (some ⟨b2,0,none⟩)],.func (.func 129) #[] #[.pointer (some ⟨bu,0,none⟩)]] 105)) (fun e w'=>e=.returned (.bool (Zk ns ks [isB [6],isB [7]]))/\Below (wr.alloc (.cells #[.func (.func 129) #[] #[.pointer (some ⟨b2,0,none⟩)],.func (.func 129) #[] #[.pointer (some ⟨bu,0,none⟩)]] 105)).heap.size (wr.alloc (.cells #[.func (.func 129) #[] #[.pointer (some ⟨b2,0,none⟩)],.func (.func 129) #[] #[.pointer (some ⟨bu,0,none⟩)]] 105)) w') from AR.out _ (hb.trans ((below_alloc1 _ _).mono hb.size)) _ [.is [6],.is [7]] (Zaq wr [.is [6],.is [7]] [.func (.func 129) #[] #[.pointer (some ⟨b2,0,none⟩)],.func (.func 129) #[] #[.pointer (some ⟨bu,0,none⟩)]] 105 (by simp [maxLen]) ⟨T2.below (below_alloc1 _ _),T.below (below_alloc1 _ _),trivial⟩))
 have LEN:=zh (show Zk ns ks [isB [6],isB [7]]=true->ks.length=2 from fun h=>by
  refine Classical.byContradiction fun q=>?_
  rw [Zdy ns ks [isB [6],isB [7]] q] at h
  cases h)
 clear FRA AR N0 N1 N2
 rw [EQ.out]
 generalize Zbl ⟨kd,ws,nums,ks,ps⟩=F at *
 generalize Zk ns ks [isB [7]]=R1 at *
 generalize Zk ns ks [isB [6],isB [7]]=R2 at *
 have i0:(0:Int)<((3:Nat):Int):=by decide
 clear hl hk
 cases q0:(y0==0)
 ·by_cases q4:y0<=4
  ·rw [decide_eq_true q4]
   cases F
   ·go_enter Tryz.func101,Tryz.ntmps101
    go_upto_region 1 with fail
    generalize (w.alloc (.cells #[.int .i64 kd,.slice A1 ws.length c1,.slice (some ad2) 3 c2,.slice A3 ks.length c3,.int .i64 ps] 27))=w1 at *
    have HS:(w1.drew.cell? ⟨w.heap.size,0,none⟩=some (.int .i64 kd)/\w1.drew.cell? ⟨w.heap.size,1,none⟩=some (.slice A1 ws.length c1)/\w1.drew.cell? ⟨w.heap.size,2,none⟩=some (.slice (some ad2) 3 c2)/\w1.drew.cell? ⟨w.heap.size,3,none⟩=some (.slice A3 ks.length c3)/\w1.drew.cell? ⟨w.heap.size,4,none⟩=some (.int .i64 ps)/\w1.drew.cell? ad2=some (.int .i64 y0)/\w1.drew.cell? ⟨ad2.block,ad2.off+1,none⟩=some (.int .i64 y1)/\w1.drew.cell? ⟨ad2.block,ad2.off+2,none⟩=some (.int .i64 y2))/\Below w.heap.size w w1.drew:=⟨HS1.1,HS1.2.drew⟩
    clear HS1
    refine wp_region_noPanic ?_
    refine wp_region_held_drew (S:=(fun w'=>(w'.cell? ⟨w.heap.size,0,none⟩=some (.int .i64 kd)/\w'.cell? ⟨w.heap.size,1,none⟩=some (.slice A1 ws.length c1)/\w'.cell? ⟨w.heap.size,2,none⟩=some (.slice (some ad2) 3 c2)/\w'.cell? ⟨w.heap.size,3,none⟩=some (.slice A3 ks.length c3)/\w'.cell? ⟨w.heap.size,4,none⟩=some (.int .i64 ps)/\w'.cell? ad2=some (.int .i64 y0)/\w'.cell? ⟨ad2.block,ad2.off+1,none⟩=some (.int .i64 y1)/\w'.cell? ⟨ad2.block,ad2.off+2,none⟩=some (.int .i64 y2))/\Below w.heap.size w w')) (by kernel_rfl) HS (fun hHeld=>?_)
    clear HS
    refine tkk 0 rfl ?_
    refine tkk 1 rfl ?_
    refine tkk 2 rfl ?_
    refine tkk 3 rfl ?_
    (try simp only [cl,Act.put])
    refine rd 4 rfl fun K hK=>?_
    go_simp
    refine hK.out _ _ ?_ (fun hH2=>?_)
    ·exact STB.out _ _ (below_alloc1 _ _) (by with_reducible assumption)
    clear hK K hHeld;have hHeld:=hH2;clear hH2
    (try simp only [cl,Act.put])
    refine rd 5 rfl fun K hK=>?_
    go_simp
    (go_at_call 94;(with_reducible refine (Zf _ _ _).mono ?_);rintro e5 w5 ⟨⟨u,rfl,hT⟩,hb⟩;obtain ⟨bu,Au,cu,rfl,_,_⟩:=id hT)
    go_wp2_with fail
    refine hK.out _ _ (STB.out _ _ hb (by with_reducible assumption)) (fun hH2=>?_)
    clear hK K hHeld hb;have hHeld:=hH2;clear hH2
    (try simp only [cl,Act.put])
    refine tkk 6 rfl ?_
    refine tkk 7 rfl ?_
    (try simp only [cl,Act.put])
    refine wpAnyH_done (by kernel_rfl) ?_ _
    refine NoPanic.normal ?_
    have T5:=zh hT
    have B5:=zh (Za hHeld)
    have H5:=zh hHeld
    clear hT
    obtain ⟨⟨g0,g1,g2,g3,g4,n0,n1,n2⟩,_⟩:=hHeld
    go_wp2_with (go_at_call 133;(with_reducible refine (FR1.out _ B5.out).mono ?_);rintro e6 w6 ⟨rfl,hb6⟩;have B6:=zh (B5.out.trans (hb6.mono B5.out.size));have K6:=zh (STB.out _ _ hb6 H5.out);have T6:=zh (T5.out.below hb6);clear hb6)
    go_ret
    exact ⟨rfl,B6.out⟩
   ·cases R1
    ·cases R2
     ·go_enter Tryz.func101,Tryz.ntmps101
      go_upto_region 1 with fail
      generalize (w.alloc (.cells #[.int .i64 kd,.slice A1 ws.length c1,.slice (some ad2) 3 c2,.slice A3 ks.length c3,.int .i64 ps] 27))=w1 at *
      have HS:(w1.drew.cell? ⟨w.heap.size,0,none⟩=some (.int .i64 kd)/\w1.drew.cell? ⟨w.heap.size,1,none⟩=some (.slice A1 ws.length c1)/\w1.drew.cell? ⟨w.heap.size,2,none⟩=some (.slice (some ad2) 3 c2)/\w1.drew.cell? ⟨w.heap.size,3,none⟩=some (.slice A3 ks.length c3)/\w1.drew.cell? ⟨w.heap.size,4,none⟩=some (.int .i64 ps)/\w1.drew.cell? ad2=some (.int .i64 y0)/\w1.drew.cell? ⟨ad2.block,ad2.off+1,none⟩=some (.int .i64 y1)/\w1.drew.cell? ⟨ad2.block,ad2.off+2,none⟩=some (.int .i64 y2))/\Below w.heap.size w w1.drew:=⟨HS1.1,HS1.2.drew⟩
      clear HS1
      refine wp_region_noPanic ?_
      refine wp_region_held_drew (S:=(fun w'=>(w'.cell? ⟨w.heap.size,0,none⟩=some (.int .i64 kd)/\w'.cell? ⟨w.heap.size,1,none⟩=some (.slice A1 ws.length c1)/\w'.cell? ⟨w.heap.size,2,none⟩=some (.slice (some ad2) 3 c2)/\w'.cell? ⟨w.heap.size,3,none⟩=some (.slice A3 ks.length c3)/\w'.cell? ⟨w.heap.size,4,none⟩=some (.int .i64 ps)/\w'.cell? ad2=some (.int .i64 y0)/\w'.cell? ⟨ad2.block,ad2.off+1,none⟩=some (.int .i64 y1)/\w'.cell? ⟨ad2.block,ad2.off+2,none⟩=some (.int .i64 y2))/\Below w.heap.size w w')) (by kernel_rfl) HS (fun hHeld=>?_)
      clear HS
      refine tkk 0 rfl ?_
      refine tkk 1 rfl ?_
      refine tkk 2 rfl ?_
      refine tkk 3 rfl ?_
      (try simp only [cl,Act.put])
      refine rd 4 rfl fun K hK=>?_
      go_simp
      refine hK.out _ _ ?_ (fun hH2=>?_)
      ·exact STB.out _ _ (below_alloc1 _ _) (by with_reducible assumption)
      clear hK K hHeld;have hHeld:=hH2;clear hH2
      (try simp only [cl,Act.put])
      refine rd 5 rfl fun K hK=>?_
      go_simp
      (go_at_call 94;(with_reducible refine (Zf _ _ _).mono ?_);rintro e5 w5 ⟨⟨u,rfl,hT⟩,hb⟩;obtain ⟨bu,Au,cu,rfl,_,_⟩:=id hT)
      go_wp2_with fail
      refine hK.out _ _ (STB.out _ _ hb (by with_reducible assumption)) (fun hH2=>?_)
      clear hK K hHeld hb;have hHeld:=hH2;clear hH2
      (try simp only [cl,Act.put])
      refine tkk 6 rfl ?_
      refine tkk 7 rfl ?_
      (try simp only [cl,Act.put])
      refine wpAnyH_done (by kernel_rfl) ?_ _
      refine NoPanic.normal ?_
      have T5:=zh hT
      have B5:=zh (Za hHeld)
      have H5:=zh hHeld
      clear hT
      obtain ⟨⟨g0,g1,g2,g3,g4,n0,n1,n2⟩,_⟩:=hHeld
      go_upto_region 4 with (go_at_call 133;(with_reducible refine (FR1.out _ B5.out).mono ?_);rintro e6 w6 ⟨rfl,hb6⟩;have B6:=zh (B5.out.trans (hb6.mono B5.out.size));have K6:=zh (STB.out _ _ hb6 H5.out);have T6:=zh (T5.out.below hb6);clear hb6)
      have HS:(w6.drew.cell? ⟨w.heap.size,0,none⟩=some (.int .i64 kd)/\w6.drew.cell? ⟨w.heap.size,1,none⟩=some (.slice A1 ws.length c1)/\w6.drew.cell? ⟨w.heap.size,2,none⟩=some (.slice (some ad2) 3 c2)/\w6.drew.cell? ⟨w.heap.size,3,none⟩=some (.slice A3 ks.length c3)/\w6.drew.cell? ⟨w.heap.size,4,none⟩=some (.int .i64 ps)/\w6.drew.cell? ad2=some (.int .i64 y0)/\w6.drew.cell? ⟨ad2.block,ad2.off+1,none⟩=some (.int .i64 y1)/\w6.drew.cell? ⟨ad2.block,ad2.off+2,none⟩=some (.int .i64 y2))/\Below w.heap.size w w6.drew:=⟨K6.out.1,K6.out.2.drew⟩
      refine wp_region_noPanic ?_
      refine wp_region_held_drew (S:=(fun w'=>(w'.cell? ⟨w.heap.size,0,none⟩=some (.int .i64 kd)/\w'.cell? ⟨w.heap.size,1,none⟩=some (.slice A1 ws.length c1)/\w'.cell? ⟨w.heap.size,2,none⟩=some (.slice (some ad2) 3 c2)/\w'.cell? ⟨w.heap.size,3,none⟩=some (.slice A3 ks.length c3)/\w'.cell? ⟨w.heap.size,4,none⟩=some (.int .i64 ps)/\w'.cell? ad2=some (.int .i64 y0)/\w'.cell? ⟨ad2.block,ad2.off+1,none⟩=some (.int .i64 y1)/\w'.cell? ⟨ad2.block,ad2.off+2,none⟩=some (.int .i64 y2))/\Below w.heap.size w w')) (by kernel_rfl) HS (fun hHeld=>?_)
      clear HS
      refine tkk 0 rfl ?_
      refine tkk 1 rfl ?_
      refine tkk 2 rfl ?_
      refine tkk 3 rfl ?_
      (try simp only [cl,Act.put])
      refine rd 4 rfl fun K hK=>?_
      go_simp
      refine hK.out _ _ ?_ (fun hH2=>?_)
      ·exact STB.out _ _ (below_alloc1 _ _) (by with_reducible assumption)
      clear hK K hHeld;have hHeld:=hH2;clear hH2
      (try simp only [cl,Act.put])
      refine rd 5 rfl fun K hK=>?_
      go_simp
      (first
       | (go_at_call 97;(with_reducible refine (A1D.out _ B6.out _ T6.out).mono ?_);rintro e7 w7 ⟨rfl,hb⟩;have HT7:=zh (((T6.out.below (below_alloc1 _ _)).below (Zo _)).below hb))
       | (go_at_call 94;(with_reducible refine (Zi _ _ _).mono ?_);rintro e8 w8 ⟨⟨u2,rfl,hT2⟩,hb⟩;obtain ⟨b2,Au2,cu2,rfl,_,_⟩:=id hT2;have HT8:=zh (zi ((Za hHeld).trans (hb.mono (Za hHeld).size)) (zi hT2 ((HT7.out.below (below_alloc1 _ _)).below hb))))
       | (go_at_call 97;(with_reducible refine (A2_.out _ HT8.out.1 _ _ HT8.out.2.1 HT8.out.2.2).mono ?_);rintro e9 w9 ⟨rfl,hb⟩)
       | (go_at_call 135;(with_reducible refine (WH1.out _ (Za (by with_reducible assumption))).mono ?_);rintro e10 w10 ⟨rfl,hb⟩))
      go_wp2_with fail
      refine hK.out _ _ (STB.out _ _ hb (by with_reducible assumption)) (fun hH2=>?_)
      clear hK K hHeld hb;have hHeld:=hH2;clear hH2
      (try simp only [cl,Act.put])
      refine tkk 6 rfl ?_
      refine tkk 7 rfl ?_
      refine tkk 8 rfl ?_
      refine tkk 9 rfl ?_
      refine tkk 12 rfl ?_
      (try simp only [cl,Act.put])
      refine rd 10 rfl fun K hK=>?_
      go_simp
      refine hK.out _ _ ?_ (fun hH2=>?_)
      ·exact STB.out _ _ (below_alloc1 _ _) (by with_reducible assumption)
      clear hK K hHeld;have hHeld:=hH2;clear hH2
      (try simp only [cl,Act.put])
      refine rd 11 rfl fun K hK=>?_
      go_simp
      (first
       | (go_at_call 97;(with_reducible refine (A1D.out _ B6.out _ T6.out).mono ?_);rintro e7 w7 ⟨rfl,hb⟩;have HT7:=zh (((T6.out.below (below_alloc1 _ _)).below (Zo _)).below hb))
       | (go_at_call 94;(with_reducible refine (Zi _ _ _).mono ?_);rintro e8 w8 ⟨⟨u2,rfl,hT2⟩,hb⟩;obtain ⟨b2,Au2,cu2,rfl,_,_⟩:=id hT2;have HT8:=zh (zi ((Za hHeld).trans (hb.mono (Za hHeld).size)) (zi hT2 ((HT7.out.below (below_alloc1 _ _)).below hb))))
       | (go_at_call 97;(with_reducible refine (A2_.out _ HT8.out.1 _ _ HT8.out.2.1 HT8.out.2.2).mono ?_);rintro e9 w9 ⟨rfl,hb⟩)
       | (go_at_call 135;(with_reducible refine (WH1.out _ (Za (by with_reducible assumption))).mono ?_);rintro e10 w10 ⟨rfl,hb⟩))
      go_wp2_with fail
      refine hK.out _ _ (STB.out _ _ hb (by with_reducible assumption)) (fun hH2=>?_)
      clear hK K hHeld hb;have hHeld:=hH2;clear hH2
      (try simp only [cl,Act.put])
      refine rd 13 rfl fun K hK=>?_
      go_simp
      refine hK.out _ _ ?_ (fun hH2=>?_)
      ·exact STB.out _ _ (below_alloc1 _ _) (by with_reducible assumption)
      clear hK K hHeld;have hHeld:=hH2;clear hH2
      (try simp only [cl,Act.put])
      refine rd 14 rfl fun K hK=>?_
      go_simp
      (first
       | (go_at_call 97;(with_reducible refine (A1D.out _ B6.out _ T6.out).mono ?_);rintro e7 w7 ⟨rfl,hb⟩;have HT7:=zh (((T6.out.below (below_alloc1 _ _)).below (Zo _)).below hb))
       | (go_at_call 94;(with_reducible refine (Zi _ _ _).mono ?_);rintro e8 w8 ⟨⟨u2,rfl,hT2⟩,hb⟩;obtain ⟨b2,Au2,cu2,rfl,_,_⟩:=id hT2;have HT8:=zh (zi ((Za hHeld).trans (hb.mono (Za hHeld).size)) (zi hT2 ((HT7.out.below (below_alloc1 _ _)).below hb))))
       | (go_at_call 97;(with_reducible refine (A2_.out _ HT8.out.1 _ _ HT8.out.2.1 HT8.out.2.2).mono ?_);rintro e9 w9 ⟨rfl,hb⟩)
       | (go_at_call 135;(with_reducible refine (WH1.out _ (Za (by with_reducible assumption))).mono ?_);rintro e10 w10 ⟨rfl,hb⟩))
      go_wp2_with fail
      refine hK.out _ _ (STB.out _ _ hb (by with_reducible assumption)) (fun hH2=>?_)
      clear hK K hHeld hb;have hHeld:=hH2;clear hH2
      (try simp only [cl,Act.put])
      refine tkk 15 rfl ?_
      refine txk 16 rfl ?_
      refine txk 17 rfl ?_
      refine txk 18 rfl ?_
      refine txk 19 rfl ?_
      refine txk 20 rfl ?_
      refine txk 21 rfl ?_
      refine txk 22 rfl ?_
      refine tkk 23 rfl ?_
      refine tkk 24 rfl ?_
      refine tkk 25 rfl ?_
      (try simp only [cl,Act.put])
      refine wpAnyH_done (by kernel_rfl) ?_ _
      refine NoPanic.normal ?_
      have B9:=zh (Za hHeld)
      clear hHeld
      go_wp2_with fail
      go_ret
      exact ⟨rfl,B9.out⟩
     ·obtain ⟨k0,hk0⟩:∃ y,ks[0]? = some y:=⟨_,List.getElem?_eq_getElem (by have:=LEN.out rfl;omega)⟩
      have hin:=RK.out.2 k0 (List.mem_of_getElem? hk0)
      obtain ⟨kn,rfl⟩:∃ kn:Nat,k0=kn:=⟨k0.toNat,by omega⟩
      rw [show atI ks 0=(kn:Int) from by unfold atI;rw [show (0:Int).toNat=0 from rfl,hk0];rfl]
      have WH1:=zh (fun wr hb=>WHI.out wr hb kn (by omega))
      have i3n:0<ks.length:=by have:=LEN.out rfl;omega
      have i3:(0:Int)<(ks.length:Int):=by omega
      obtain ⟨A3',c3',e3,_,_,R3⟩:=RK.out.1
      injection e3 with e3 _ e4
      subst e3 e4
      obtain ⟨ad3,rfl,_⟩:=ints_at R3 (Below.refl _ _) hk0 (by omega)
      have KC:=zh (fun (wr:World) (hb:Below w.heap.size w wr)=>show wr.cell? ad3=some (.int .i64 (kn:Int)) from by obtain ⟨a2,e2,q2⟩:=ints_at R3 hb hk0 (by omega);injection e2 with e2;subst e2;rwa [show ad3.add 0=ad3 by unfold Addr.add;simp] at q2)
      clear R3 hk0 hin
      generalize Zan ns (kn:Int)=X at *
      cases qx:(X==2)
      ·go_enter Tryz.func101,Tryz.ntmps101
       go_upto_region 1 with fail
       generalize (w.alloc (.cells #[.int .i64 kd,.slice A1 ws.length c1,.slice (some ad2) 3 c2,.slice (some ad3) ks.length c3,.int .i64 ps] 27))=w1 at *
       have HS:(w1.drew.cell? ⟨w.heap.size,0,none⟩=some (.int .i64 kd)/\w1.drew.cell? ⟨w.heap.size,1,none⟩=some (.slice A1 ws.length c1)/\w1.drew.cell? ⟨w.heap.size,2,none⟩=some (.slice (some ad2) 3 c2)/\w1.drew.cell? ⟨w.heap.size,3,none⟩=some (.slice (some ad3) ks.length c3)/\w1.drew.cell? ⟨w.heap.size,4,none⟩=some (.int .i64 ps)/\w1.drew.cell? ad2=some (.int .i64 y0)/\w1.drew.cell? ⟨ad2.block,ad2.off+1,none⟩=some (.int .i64 y1)/\w1.drew.cell? ⟨ad2.block,ad2.off+2,none⟩=some (.int .i64 y2))/\Below w.heap.size w w1.drew:=⟨HS1.1,HS1.2.drew⟩
       clear HS1
       refine wp_region_noPanic ?_
       refine wp_region_held_drew (S:=(fun w'=>(w'.cell? ⟨w.heap.size,0,none⟩=some (.int .i64 kd)/\w'.cell? ⟨w.heap.size,1,none⟩=some (.slice A1 ws.length c1)/\w'.cell? ⟨w.heap.size,2,none⟩=some (.slice (some ad2) 3 c2)/\w'.cell? ⟨w.heap.size,3,none⟩=some (.slice (some ad3) ks.length c3)/\w'.cell? ⟨w.heap.size,4,none⟩=some (.int .i64 ps)/\w'.cell? ad2=some (.int .i64 y0)/\w'.cell? ⟨ad2.block,ad2.off+1,none⟩=some (.int .i64 y1)/\w'.cell? ⟨ad2.block,ad2.off+2,none⟩=some (.int .i64 y2))/\Below w.heap.size w w')) (by kernel_rfl) HS (fun hHeld=>?_)
       clear HS
       refine tkk 0 rfl ?_
       refine tkk 1 rfl ?_
       refine tkk 2 rfl ?_
       refine tkk 3 rfl ?_
       (try simp only [cl,Act.put])
       refine rd 4 rfl fun K hK=>?_
       go_simp
       refine hK.out _ _ ?_ (fun hH2=>?_)
       ·exact STB.out _ _ (below_alloc1 _ _) (by with_reducible assumption)
       clear hK K hHeld;have hHeld:=hH2;clear hH2
       (try simp only [cl,Act.put])
       refine rd 5 rfl fun K hK=>?_
       go_simp
       (go_at_call 94;(with_reducible refine (Zf _ _ _).mono ?_);rintro e5 w5 ⟨⟨u,rfl,hT⟩,hb⟩;obtain ⟨bu,Au,cu,rfl,_,_⟩:=id hT)
       go_wp2_with fail
       refine hK.out _ _ (STB.out _ _ hb (by with_reducible assumption)) (fun hH2=>?_)
       clear hK K hHeld hb;have hHeld:=hH2;clear hH2
       (try simp only [cl,Act.put])
       refine tkk 6 rfl ?_
       refine tkk 7 rfl ?_
       (try simp only [cl,Act.put])
       refine wpAnyH_done (by kernel_rfl) ?_ _
       refine NoPanic.normal ?_
       have T5:=zh hT
       have B5:=zh (Za hHeld)
       have H5:=zh hHeld
       clear hT
       obtain ⟨⟨g0,g1,g2,g3,g4,n0,n1,n2⟩,_⟩:=hHeld
       go_upto_region 4 with (go_at_call 133;(with_reducible refine (FR1.out _ B5.out).mono ?_);rintro e6 w6 ⟨rfl,hb6⟩;have B6:=zh (B5.out.trans (hb6.mono B5.out.size));have K6:=zh (STB.out _ _ hb6 H5.out);have T6:=zh (T5.out.below hb6);clear hb6)
       have HS:(w6.drew.cell? ⟨w.heap.size,0,none⟩=some (.int .i64 kd)/\w6.drew.cell? ⟨w.heap.size,1,none⟩=some (.slice A1 ws.length c1)/\w6.drew.cell? ⟨w.heap.size,2,none⟩=some (.slice (some ad2) 3 c2)/\w6.drew.cell? ⟨w.heap.size,3,none⟩=some (.slice (some ad3) ks.length c3)/\w6.drew.cell? ⟨w.heap.size,4,none⟩=some (.int .i64 ps)/\w6.drew.cell? ad2=some (.int .i64 y0)/\w6.drew.cell? ⟨ad2.block,ad2.off+1,none⟩=some (.int .i64 y1)/\w6.drew.cell? ⟨ad2.block,ad2.off+2,none⟩=some (.int .i64 y2))/\Below w.heap.size w w6.drew:=⟨K6.out.1,K6.out.2.drew⟩
       refine wp_region_noPanic ?_
       refine wp_region_held_drew (S:=(fun w'=>(w'.cell? ⟨w.heap.size,0,none⟩=some (.int .i64 kd)/\w'.cell? ⟨w.heap.size,1,none⟩=some (.slice A1 ws.length c1)/\w'.cell? ⟨w.heap.size,2,none⟩=some (.slice (some ad2) 3 c2)/\w'.cell? ⟨w.heap.size,3,none⟩=some (.slice (some ad3) ks.length c3)/\w'.cell? ⟨w.heap.size,4,none⟩=some (.int .i64 ps)/\w'.cell? ad2=some (.int .i64 y0)/\w'.cell? ⟨ad2.block,ad2.off+1,none⟩=some (.int .i64 y1)/\w'.cell? ⟨ad2.block,ad2.off+2,none⟩=some (.int .i64 y2))/\Below w.heap.size w w')) (by kernel_rfl) HS (fun hHeld=>?_)
       clear HS
       refine tkk 0 rfl ?_
       refine tkk 1 rfl ?_
       refine tkk 2 rfl ?_
       refine tkk 3 rfl ?_
       (try simp only [cl,Act.put])
       refine rd 4 rfl fun K hK=>?_
       go_simp
       refine hK.out _ _ ?_ (fun hH2=>?_)
       ·exact STB.out _ _ (below_alloc1 _ _) (by with_reducible assumption)
       clear hK K hHeld;have hHeld:=hH2;clear hH2
       (try simp only [cl,Act.put])
       refine rd 5 rfl fun K hK=>?_
       go_simp
       (first
        | (go_at_call 97;(with_reducible refine (A1D.out _ B6.out _ T6.out).mono ?_);rintro e7 w7 ⟨rfl,hb⟩;have HT7:=zh (((T6.out.below (below_alloc1 _ _)).below (Zo _)).below hb))
        | (go_at_call 94;(with_reducible refine (Zi _ _ _).mono ?_);rintro e8 w8 ⟨⟨u2,rfl,hT2⟩,hb⟩;obtain ⟨b2,Au2,cu2,rfl,_,_⟩:=id hT2;have HT8:=zh (zi ((Za hHeld).trans (hb.mono (Za hHeld).size)) (zi hT2 ((HT7.out.below (below_alloc1 _ _)).below hb))))
        | (go_at_call 97;(with_reducible refine (A2_.out _ HT8.out.1 _ _ HT8.out.2.1 HT8.out.2.2).mono ?_);rintro e9 w9 ⟨rfl,hb⟩)
        | (go_at_call 135;(with_reducible refine (WH1.out _ (Za (by with_reducible assumption))).mono ?_);rintro e10 w10 ⟨rfl,hb⟩))
       go_wp2_with fail
       refine hK.out _ _ (STB.out _ _ hb (by with_reducible assumption)) (fun hH2=>?_)
       clear hK K hHeld hb;have hHeld:=hH2;clear hH2
       (try simp only [cl,Act.put])
       refine tkk 6 rfl ?_
       refine tkk 7 rfl ?_
       refine tkk 8 rfl ?_
       refine tkk 9 rfl ?_
       refine tkk 12 rfl ?_
       (try simp only [cl,Act.put])
       refine rd 10 rfl fun K hK=>?_
       go_simp
       refine hK.out _ _ ?_ (fun hH2=>?_)
       ·exact STB.out _ _ (below_alloc1 _ _) (by with_reducible assumption)
       clear hK K hHeld;have hHeld:=hH2;clear hH2
       (try simp only [cl,Act.put])
       refine rd 11 rfl fun K hK=>?_
       go_simp
       (first
        | (go_at_call 97;(with_reducible refine (A1D.out _ B6.out _ T6.out).mono ?_);rintro e7 w7 ⟨rfl,hb⟩;have HT7:=zh (((T6.out.below (below_alloc1 _ _)).below (Zo _)).below hb))
        | (go_at_call 94;(with_reducible refine (Zi _ _ _).mono ?_);rintro e8 w8 ⟨⟨u2,rfl,hT2⟩,hb⟩;obtain ⟨b2,Au2,cu2,rfl,_,_⟩:=id hT2;have HT8:=zh (zi ((Za hHeld).trans (hb.mono (Za hHeld).size)) (zi hT2 ((HT7.out.below (below_alloc1 _ _)).below hb))))
        | (go_at_call 97;(with_reducible refine (A2_.out _ HT8.out.1 _ _ HT8.out.2.1 HT8.out.2.2).mono ?_);rintro e9 w9 ⟨rfl,hb⟩)
        | (go_at_call 135;(with_reducible refine (WH1.out _ (Za (by with_reducible assumption))).mono ?_);rintro e10 w10 ⟨rfl,hb⟩))
       go_wp2_with fail
       refine hK.out _ _ (STB.out _ _ hb (by with_reducible assumption)) (fun hH2=>?_)
       clear hK K hHeld hb;have hHeld:=hH2;clear hH2
       (try simp only [cl,Act.put])
       refine rd 13 rfl fun K hK=>?_
       go_simp
       refine hK.out _ _ ?_ (fun hH2=>?_)
       ·exact STB.out _ _ (below_alloc1 _ _) (by with_reducible assumption)
       clear hK K hHeld;have hHeld:=hH2;clear hH2
       (try simp only [cl,Act.put])
       refine rd 14 rfl fun K hK=>?_
       go_simp
       (first
        | (go_at_call 97;(with_reducible refine (A1D.out _ B6.out _ T6.out).mono ?_);rintro e7 w7 ⟨rfl,hb⟩;have HT7:=zh (((T6.out.below (below_alloc1 _ _)).below (Zo _)).below hb))
        | (go_at_call 94;(with_reducible refine (Zi _ _ _).mono ?_);rintro e8 w8 ⟨⟨u2,rfl,hT2⟩,hb⟩;obtain ⟨b2,Au2,cu2,rfl,_,_⟩:=id hT2;have HT8:=zh (zi ((Za hHeld).trans (hb.mono (Za hHeld).size)) (zi hT2 ((HT7.out.below (below_alloc1 _ _)).below hb))))
        | (go_at_call 97;(with_reducible refine (A2_.out _ HT8.out.1 _ _ HT8.out.2.1 HT8.out.2.2).mono ?_);rintro e9 w9 ⟨rfl,hb⟩)
        | (go_at_call 135;(with_reducible refine (WH1.out _ (Za (by with_reducible assumption))).mono ?_);rintro e10 w10 ⟨rfl,hb⟩))
       go_wp2_with fail
       refine hK.out _ _ (STB.out _ _ hb (by with_reducible assumption)) (fun hH2=>?_)
       clear hK K hHeld hb;have hHeld:=hH2;clear hH2
       (try simp only [cl,Act.put])
       refine tkk 15 rfl ?_
       refine tkk 16 rfl ?_
       refine tkk 17 rfl ?_
       refine tkk 18 rfl ?_
       refine tkk 19 rfl ?_
       (try simp only [cl,Act.put])
       refine rd 20 rfl fun K hK=>?_
       have q20:=KC.out _ (Za hHeld)
       go_simp
       refine hK.out _ _ (by with_reducible assumption) (fun _=>?_)
       clear hK K q20
       (try simp only [cl,Act.put])
       refine rd 21 rfl fun K hK=>?_
       go_simp
       (first
        | (go_at_call 97;(with_reducible refine (A1D.out _ B6.out _ T6.out).mono ?_);rintro e7 w7 ⟨rfl,hb⟩;have HT7:=zh (((T6.out.below (below_alloc1 _ _)).below (Zo _)).below hb))
        | (go_at_call 94;(with_reducible refine (Zi _ _ _).mono ?_);rintro e8 w8 ⟨⟨u2,rfl,hT2⟩,hb⟩;obtain ⟨b2,Au2,cu2,rfl,_,_⟩:=id hT2;have HT8:=zh (zi ((Za hHeld).trans (hb.mono (Za hHeld).size)) (zi hT2 ((HT7.out.below (below_alloc1 _ _)).below hb))))
        | (go_at_call 97;(with_reducible refine (A2_.out _ HT8.out.1 _ _ HT8.out.2.1 HT8.out.2.2).mono ?_);rintro e9 w9 ⟨rfl,hb⟩)
        | (go_at_call 135;(with_reducible refine (WH1.out _ (Za (by with_reducible assumption))).mono ?_);rintro e10 w10 ⟨rfl,hb⟩))
       go_wp2_with fail
       refine hK.out _ _ (STB.out _ _ hb (by with_reducible assumption)) (fun hH2=>?_)
       clear hK K hHeld hb;have hHeld:=hH2;clear hH2
       (try simp only [cl,Act.put])
       refine tkk 22 rfl ?_
       refine tkk 23 rfl ?_
       refine tkk 24 rfl ?_
       refine tkk 25 rfl ?_
       (try simp only [cl,Act.put])
       refine wpAnyH_done (by kernel_rfl) ?_ _
       refine NoPanic.normal ?_
       have B9:=zh (Za hHeld)
       clear hHeld
       go_wp2_with fail
       go_ret
       exact ⟨rfl,B9.out⟩
      ·go_enter Tryz.func101,Tryz.ntmps101
       go_upto_region 1 with fail
       generalize (w.alloc (.cells #[.int .i64 kd,.slice A1 ws.length c1,.slice (some ad2) 3 c2,.slice (some ad3) ks.length c3,.int .i64 ps] 27))=w1 at *
       have HS:(w1.drew.cell? ⟨w.heap.size,0,none⟩=some (.int .i64 kd)/\w1.drew.cell? ⟨w.heap.size,1,none⟩=some (.slice A1 ws.length c1)/\w1.drew.cell? ⟨w.heap.size,2,none⟩=some (.slice (some ad2) 3 c2)/\w1.drew.cell? ⟨w.heap.size,3,none⟩=some (.slice (some ad3) ks.length c3)/\w1.drew.cell? ⟨w.heap.size,4,none⟩=some (.int .i64 ps)/\w1.drew.cell? ad2=some (.int .i64 y0)/\w1.drew.cell? ⟨ad2.block,ad2.off+1,none⟩=some (.int .i64 y1)/\w1.drew.cell? ⟨ad2.block,ad2.off+2,none⟩=some (.int .i64 y2))/\Below w.heap.size w w1.drew:=⟨HS1.1,HS1.2.drew⟩
       clear HS1
       refine wp_region_noPanic ?_
       refine wp_region_held_drew (S:=(fun w'=>(w'.cell? ⟨w.heap.size,0,none⟩=some (.int .i64 kd)/\w'.cell? ⟨w.heap.size,1,none⟩=some (.slice A1 ws.length c1)/\w'.cell? ⟨w.heap.size,2,none⟩=some (.slice (some ad2) 3 c2)/\w'.cell? ⟨w.heap.size,3,none⟩=some (.slice (some ad3) ks.length c3)/\w'.cell? ⟨w.heap.size,4,none⟩=some (.int .i64 ps)/\w'.cell? ad2=some (.int .i64 y0)/\w'.cell? ⟨ad2.block,ad2.off+1,none⟩=some (.int .i64 y1)/\w'.cell? ⟨ad2.block,ad2.off+2,none⟩=some (.int .i64 y2))/\Below w.heap.size w w')) (by kernel_rfl) HS (fun hHeld=>?_)
       clear HS
       refine tkk 0 rfl ?_
       refine tkk 1 rfl ?_
       refine tkk 2 rfl ?_
       refine tkk 3 rfl ?_
       (try simp only [cl,Act.put])
       refine rd 4 rfl fun K hK=>?_
       go_simp
       refine hK.out _ _ ?_ (fun hH2=>?_)
       ·exact STB.out _ _ (below_alloc1 _ _) (by with_reducible assumption)
       clear hK K hHeld;have hHeld:=hH2;clear hH2
       (try simp only [cl,Act.put])
       refine rd 5 rfl fun K hK=>?_
       go_simp
       (go_at_call 94;(with_reducible refine (Zf _ _ _).mono ?_);rintro e5 w5 ⟨⟨u,rfl,hT⟩,hb⟩;obtain ⟨bu,Au,cu,rfl,_,_⟩:=id hT)
       go_wp2_with fail
       refine hK.out _ _ (STB.out _ _ hb (by with_reducible assumption)) (fun hH2=>?_)
       clear hK K hHeld hb;have hHeld:=hH2;clear hH2
       (try simp only [cl,Act.put])
       refine tkk 6 rfl ?_
       refine tkk 7 rfl ?_
       (try simp only [cl,Act.put])
       refine wpAnyH_done (by kernel_rfl) ?_ _
       refine NoPanic.normal ?_
       have T5:=zh hT
       have B5:=zh (Za hHeld)
       have H5:=zh hHeld
       clear hT
       obtain ⟨⟨g0,g1,g2,g3,g4,n0,n1,n2⟩,_⟩:=hHeld
       go_upto_region 4 with (go_at_call 133;(with_reducible refine (FR1.out _ B5.out).mono ?_);rintro e6 w6 ⟨rfl,hb6⟩;have B6:=zh (B5.out.trans (hb6.mono B5.out.size));have K6:=zh (STB.out _ _ hb6 H5.out);have T6:=zh (T5.out.below hb6);clear hb6)
       have HS:(w6.drew.cell? ⟨w.heap.size,0,none⟩=some (.int .i64 kd)/\w6.drew.cell? ⟨w.heap.size,1,none⟩=some (.slice A1 ws.length c1)/\w6.drew.cell? ⟨w.heap.size,2,none⟩=some (.slice (some ad2) 3 c2)/\w6.drew.cell? ⟨w.heap.size,3,none⟩=some (.slice (some ad3) ks.length c3)/\w6.drew.cell? ⟨w.heap.size,4,none⟩=some (.int .i64 ps)/\w6.drew.cell? ad2=some (.int .i64 y0)/\w6.drew.cell? ⟨ad2.block,ad2.off+1,none⟩=some (.int .i64 y1)/\w6.drew.cell? ⟨ad2.block,ad2.off+2,none⟩=some (.int .i64 y2))/\Below w.heap.size w w6.drew:=⟨K6.out.1,K6.out.2.drew⟩
       refine wp_region_noPanic ?_
       refine wp_region_held_drew (S:=(fun w'=>(w'.cell? ⟨w.heap.size,0,none⟩=some (.int .i64 kd)/\w'.cell? ⟨w.heap.size,1,none⟩=some (.slice A1 ws.length c1)/\w'.cell? ⟨w.heap.size,2,none⟩=some (.slice (some ad2) 3 c2)/\w'.cell? ⟨w.heap.size,3,none⟩=some (.slice (some ad3) ks.length c3)/\w'.cell? ⟨w.heap.size,4,none⟩=some (.int .i64 ps)/\w'.cell? ad2=some (.int .i64 y0)/\w'.cell? ⟨ad2.block,ad2.off+1,none⟩=some (.int .i64 y1)/\w'.cell? ⟨ad2.block,ad2.off+2,none⟩=some (.int .i64 y2))/\Below w.heap.size w w')) (by kernel_rfl) HS (fun hHeld=>?_)
       clear HS
       refine tkk 0 rfl ?_
       refine tkk 1 rfl ?_
       refine tkk 2 rfl ?_
       refine tkk 3 rfl ?_
       (try simp only [cl,Act.put])
       refine rd 4 rfl fun K hK=>?_
       go_simp
       refine hK.out _ _ ?_ (fun hH2=>?_)
       ·exact STB.out _ _ (below_alloc1 _ _) (by with_reducible assumption)
       clear hK K hHeld;have hHeld:=hH2;clear hH2
       (try simp only [cl,Act.put])
       refine rd 5 rfl fun K hK=>?_
       go_simp
       (first
        | (go_at_call 97;(with_reducible refine (A1D.out _ B6.out _ T6.out).mono ?_);rintro e7 w7 ⟨rfl,hb⟩;have HT7:=zh (((T6.out.below (below_alloc1 _ _)).below (Zo _)).below hb))
        | (go_at_call 94;(with_reducible refine (Zi _ _ _).mono ?_);rintro e8 w8 ⟨⟨u2,rfl,hT2⟩,hb⟩;obtain ⟨b2,Au2,cu2,rfl,_,_⟩:=id hT2;have HT8:=zh (zi ((Za hHeld).trans (hb.mono (Za hHeld).size)) (zi hT2 ((HT7.out.below (below_alloc1 _ _)).below hb))))
        | (go_at_call 97;(with_reducible refine (A2_.out _ HT8.out.1 _ _ HT8.out.2.1 HT8.out.2.2).mono ?_);rintro e9 w9 ⟨rfl,hb⟩)
        | (go_at_call 135;(with_reducible refine (WH1.out _ (Za (by with_reducible assumption))).mono ?_);rintro e10 w10 ⟨rfl,hb⟩))
       go_wp2_with fail
       refine hK.out _ _ (STB.out _ _ hb (by with_reducible assumption)) (fun hH2=>?_)
       clear hK K hHeld hb;have hHeld:=hH2;clear hH2
       (try simp only [cl,Act.put])
       refine tkk 6 rfl ?_
       refine tkk 7 rfl ?_
       refine tkk 8 rfl ?_
       refine tkk 9 rfl ?_
       refine tkk 12 rfl ?_
       (try simp only [cl,Act.put])
       refine rd 10 rfl fun K hK=>?_
       go_simp
       refine hK.out _ _ ?_ (fun hH2=>?_)
       ·exact STB.out _ _ (below_alloc1 _ _) (by with_reducible assumption)
       clear hK K hHeld;have hHeld:=hH2;clear hH2
       (try simp only [cl,Act.put])
       refine rd 11 rfl fun K hK=>?_
       go_simp
       (first
        | (go_at_call 97;(with_reducible refine (A1D.out _ B6.out _ T6.out).mono ?_);rintro e7 w7 ⟨rfl,hb⟩;have HT7:=zh (((T6.out.below (below_alloc1 _ _)).below (Zo _)).below hb))
        | (go_at_call 94;(with_reducible refine (Zi _ _ _).mono ?_);rintro e8 w8 ⟨⟨u2,rfl,hT2⟩,hb⟩;obtain ⟨b2,Au2,cu2,rfl,_,_⟩:=id hT2;have HT8:=zh (zi ((Za hHeld).trans (hb.mono (Za hHeld).size)) (zi hT2 ((HT7.out.below (below_alloc1 _ _)).below hb))))
        | (go_at_call 97;(with_reducible refine (A2_.out _ HT8.out.1 _ _ HT8.out.2.1 HT8.out.2.2).mono ?_);rintro e9 w9 ⟨rfl,hb⟩)
        | (go_at_call 135;(with_reducible refine (WH1.out _ (Za (by with_reducible assumption))).mono ?_);rintro e10 w10 ⟨rfl,hb⟩))
       go_wp2_with fail
       refine hK.out _ _ (STB.out _ _ hb (by with_reducible assumption)) (fun hH2=>?_)
       clear hK K hHeld hb;have hHeld:=hH2;clear hH2
       (try simp only [cl,Act.put])
       refine rd 13 rfl fun K hK=>?_
       go_simp
       refine hK.out _ _ ?_ (fun hH2=>?_)
       ·exact STB.out _ _ (below_alloc1 _ _) (by with_reducible assumption)
       clear hK K hHeld;have hHeld:=hH2;clear hH2
       (try simp only [cl,Act.put])
       refine rd 14 rfl fun K hK=>?_
       go_simp
       (first
        | (go_at_call 97;(with_reducible refine (A1D.out _ B6.out _ T6.out).mono ?_);rintro e7 w7 ⟨rfl,hb⟩;have HT7:=zh (((T6.out.below (below_alloc1 _ _)).below (Zo _)).below hb))
        | (go_at_call 94;(with_reducible refine (Zi _ _ _).mono ?_);rintro e8 w8 ⟨⟨u2,rfl,hT2⟩,hb⟩;obtain ⟨b2,Au2,cu2,rfl,_,_⟩:=id hT2;have HT8:=zh (zi ((Za hHeld).trans (hb.mono (Za hHeld).size)) (zi hT2 ((HT7.out.below (below_alloc1 _ _)).below hb))))
        | (go_at_call 97;(with_reducible refine (A2_.out _ HT8.out.1 _ _ HT8.out.2.1 HT8.out.2.2).mono ?_);rintro e9 w9 ⟨rfl,hb⟩)
        | (go_at_call 135;(with_reducible refine (WH1.out _ (Za (by with_reducible assumption))).mono ?_);rintro e10 w10 ⟨rfl,hb⟩))
       go_wp2_with fail
       refine hK.out _ _ (STB.out _ _ hb (by with_reducible assumption)) (fun hH2=>?_)
       clear hK K hHeld hb;have hHeld:=hH2;clear hH2
       (try simp only [cl,Act.put])
       refine tkk 15 rfl ?_
       refine tkk 16 rfl ?_
       refine tkk 17 rfl ?_
       refine tkk 18 rfl ?_
       refine tkk 19 rfl ?_
       (try simp only [cl,Act.put])
       refine rd 20 rfl fun K hK=>?_
       have q20:=KC.out _ (Za hHeld)
       go_simp
       refine hK.out _ _ (by with_reducible assumption) (fun _=>?_)
       clear hK K q20
       (try simp only [cl,Act.put])
       refine rd 21 rfl fun K hK=>?_
       go_simp
       (first
        | (go_at_call 97;(with_reducible refine (A1D.out _ B6.out _ T6.out).mono ?_);rintro e7 w7 ⟨rfl,hb⟩;have HT7:=zh (((T6.out.below (below_alloc1 _ _)).below (Zo _)).below hb))
        | (go_at_call 94;(with_reducible refine (Zi _ _ _).mono ?_);rintro e8 w8 ⟨⟨u2,rfl,hT2⟩,hb⟩;obtain ⟨b2,Au2,cu2,rfl,_,_⟩:=id hT2;have HT8:=zh (zi ((Za hHeld).trans (hb.mono (Za hHeld).size)) (zi hT2 ((HT7.out.below (below_alloc1 _ _)).below hb))))
        | (go_at_call 97;(with_reducible refine (A2_.out _ HT8.out.1 _ _ HT8.out.2.1 HT8.out.2.2).mono ?_);rintro e9 w9 ⟨rfl,hb⟩)
        | (go_at_call 135;(with_reducible refine (WH1.out _ (Za (by with_reducible assumption))).mono ?_);rintro e10 w10 ⟨rfl,hb⟩))
       go_wp2_with fail
       refine hK.out _ _ (STB.out _ _ hb (by with_reducible assumption)) (fun hH2=>?_)
       clear hK K hHeld hb;have hHeld:=hH2;clear hH2
       (try simp only [cl,Act.put])
       refine tkk 22 rfl ?_
       refine tkk 23 rfl ?_
       refine tkk 24 rfl ?_
       refine tkk 25 rfl ?_
       (try simp only [cl,Act.put])
       refine wpAnyH_done (by kernel_rfl) ?_ _
       refine NoPanic.normal ?_
       have B9:=zh (Za hHeld)
       clear hHeld
       go_wp2_with fail
       go_ret
       exact ⟨rfl,B9.out⟩
    ·go_enter Tryz.func101,Tryz.ntmps101
     go_upto_region 1 with fail
     generalize (w.alloc (.cells #[.int .i64 kd,.slice A1 ws.length c1,.slice (some ad2) 3 c2,.slice A3 ks.length c3,.int .i64 ps] 27))=w1 at *
     have HS:(w1.drew.cell? ⟨w.heap.size,0,none⟩=some (.int .i64 kd)/\w1.drew.cell? ⟨w.heap.size,1,none⟩=some (.slice A1 ws.length c1)/\w1.drew.cell? ⟨w.heap.size,2,none⟩=some (.slice (some ad2) 3 c2)/\w1.drew.cell? ⟨w.heap.size,3,none⟩=some (.slice A3 ks.length c3)/\w1.drew.cell? ⟨w.heap.size,4,none⟩=some (.int .i64 ps)/\w1.drew.cell? ad2=some (.int .i64 y0)/\w1.drew.cell? ⟨ad2.block,ad2.off+1,none⟩=some (.int .i64 y1)/\w1.drew.cell? ⟨ad2.block,ad2.off+2,none⟩=some (.int .i64 y2))/\Below w.heap.size w w1.drew:=⟨HS1.1,HS1.2.drew⟩
     clear HS1
     refine wp_region_noPanic ?_
     refine wp_region_held_drew (S:=(fun w'=>(w'.cell? ⟨w.heap.size,0,none⟩=some (.int .i64 kd)/\w'.cell? ⟨w.heap.size,1,none⟩=some (.slice A1 ws.length c1)/\w'.cell? ⟨w.heap.size,2,none⟩=some (.slice (some ad2) 3 c2)/\w'.cell? ⟨w.heap.size,3,none⟩=some (.slice A3 ks.length c3)/\w'.cell? ⟨w.heap.size,4,none⟩=some (.int .i64 ps)/\w'.cell? ad2=some (.int .i64 y0)/\w'.cell? ⟨ad2.block,ad2.off+1,none⟩=some (.int .i64 y1)/\w'.cell? ⟨ad2.block,ad2.off+2,none⟩=some (.int .i64 y2))/\Below w.heap.size w w')) (by kernel_rfl) HS (fun hHeld=>?_)
     clear HS
     refine tkk 0 rfl ?_
     refine tkk 1 rfl ?_
     refine tkk 2 rfl ?_
     refine tkk 3 rfl ?_
     (try simp only [cl,Act.put])
     refine rd 4 rfl fun K hK=>?_
     go_simp
     refine hK.out _ _ ?_ (fun hH2=>?_)
     ·exact STB.out _ _ (below_alloc1 _ _) (by with_reducible assumption)
     clear hK K hHeld;have hHeld:=hH2;clear hH2
     (try simp only [cl,Act.put])
     refine rd 5 rfl fun K hK=>?_
     go_simp
     (go_at_call 94;(with_reducible refine (Zf _ _ _).mono ?_);rintro e5 w5 ⟨⟨u,rfl,hT⟩,hb⟩;obtain ⟨bu,Au,cu,rfl,_,_⟩:=id hT)
     go_wp2_with fail
     refine hK.out _ _ (STB.out _ _ hb (by with_reducible assumption)) (fun hH2=>?_)
     clear hK K hHeld hb;have hHeld:=hH2;clear hH2
     (try simp only [cl,Act.put])
     refine tkk 6 rfl ?_
     refine tkk 7 rfl ?_
     (try simp only [cl,Act.put])
     refine wpAnyH_done (by kernel_rfl) ?_ _
     refine NoPanic.normal ?_
     have T5:=zh hT
     have B5:=zh (Za hHeld)
     have H5:=zh hHeld
     clear hT
     obtain ⟨⟨g0,g1,g2,g3,g4,n0,n1,n2⟩,_⟩:=hHeld
     go_upto_region 4 with (go_at_call 133;(with_reducible refine (FR1.out _ B5.out).mono ?_);rintro e6 w6 ⟨rfl,hb6⟩;have B6:=zh (B5.out.trans (hb6.mono B5.out.size));have K6:=zh (STB.out _ _ hb6 H5.out);have T6:=zh (T5.out.below hb6);clear hb6)
     have HS:(w6.drew.cell? ⟨w.heap.size,0,none⟩=some (.int .i64 kd)/\w6.drew.cell? ⟨w.heap.size,1,none⟩=some (.slice A1 ws.length c1)/\w6.drew.cell? ⟨w.heap.size,2,none⟩=some (.slice (some ad2) 3 c2)/\w6.drew.cell? ⟨w.heap.size,3,none⟩=some (.slice A3 ks.length c3)/\w6.drew.cell? ⟨w.heap.size,4,none⟩=some (.int .i64 ps)/\w6.drew.cell? ad2=some (.int .i64 y0)/\w6.drew.cell? ⟨ad2.block,ad2.off+1,none⟩=some (.int .i64 y1)/\w6.drew.cell? ⟨ad2.block,ad2.off+2,none⟩=some (.int .i64 y2))/\Below w.heap.size w w6.drew:=⟨K6.out.1,K6.out.2.drew⟩
     refine wp_region_noPanic ?_
     refine wp_region_held_drew (S:=(fun w'=>(w'.cell? ⟨w.heap.size,0,none⟩=some (.int .i64 kd)/\w'.cell? ⟨w.heap.size,1,none⟩=some (.slice A1 ws.length c1)/\w'.cell? ⟨w.heap.size,2,none⟩=some (.slice (some ad2) 3 c2)/\w'.cell? ⟨w.heap.size,3,none⟩=some (.slice A3 ks.length c3)/\w'.cell? ⟨w.heap.size,4,none⟩=some (.int .i64 ps)/\w'.cell? ad2=some (.int .i64 y0)/\w'.cell? ⟨ad2.block,ad2.off+1,none⟩=some (.int .i64 y1)/\w'.cell? ⟨ad2.block,ad2.off+2,none⟩=some (.int .i64 y2))/\Below w.heap.size w w')) (by kernel_rfl) HS (fun hHeld=>?_)
     clear HS
     refine tkk 0 rfl ?_
     refine tkk 1 rfl ?_
     refine tkk 2 rfl ?_
     refine tkk 3 rfl ?_
     (try simp only [cl,Act.put])
     refine rd 4 rfl fun K hK=>?_
     go_simp
     refine hK.out _ _ ?_ (fun hH2=>?_)
     ·exact STB.out _ _ (below_alloc1 _ _) (by with_reducible assumption)
     clear hK K hHeld;have hHeld:=hH2;clear hH2
     (try simp only [cl,Act.put])
     refine rd 5 rfl fun K hK=>?_
     go_simp
     (first
      | (go_at_call 97;(with_reducible refine (A1D.out _ B6.out _ T6.out).mono ?_);rintro e7 w7 ⟨rfl,hb⟩;have HT7:=zh (((T6.out.below (below_alloc1 _ _)).below (Zo _)).below hb))
      | (go_at_call 94;(with_reducible refine (Zi _ _ _).mono ?_);rintro e8 w8 ⟨⟨u2,rfl,hT2⟩,hb⟩;obtain ⟨b2,Au2,cu2,rfl,_,_⟩:=id hT2;have HT8:=zh (zi ((Za hHeld).trans (hb.mono (Za hHeld).size)) (zi hT2 ((HT7.out.below (below_alloc1 _ _)).below hb))))
      | (go_at_call 97;(with_reducible refine (A2_.out _ HT8.out.1 _ _ HT8.out.2.1 HT8.out.2.2).mono ?_);rintro e9 w9 ⟨rfl,hb⟩)
      | (go_at_call 135;(with_reducible refine (WH1.out _ (Za (by with_reducible assumption))).mono ?_);rintro e10 w10 ⟨rfl,hb⟩))
     go_wp2_with fail
     refine hK.out _ _ (STB.out _ _ hb (by with_reducible assumption)) (fun hH2=>?_)
     clear hK K hHeld hb;have hHeld:=hH2;clear hH2
     (try simp only [cl,Act.put])
     refine tkk 6 rfl ?_
     refine txk 7 rfl ?_
     refine txk 8 rfl ?_
     refine txk 9 rfl ?_
     refine txk 10 rfl ?_
     refine txk 11 rfl ?_
     refine txk 12 rfl ?_
     refine txk 13 rfl ?_
     refine txk 14 rfl ?_
     refine txk 15 rfl ?_
     refine txk 16 rfl ?_
     refine txk 17 rfl ?_
     refine txk 18 rfl ?_
     refine txk 19 rfl ?_
     refine txk 20 rfl ?_
     refine txk 21 rfl ?_
     refine txk 22 rfl ?_
     refine txk 23 rfl ?_
     refine tkk 24 rfl ?_
     refine tkk 25 rfl ?_
     (try simp only [cl,Act.put])
     refine wpAnyH_done (by kernel_rfl) ?_ _
     refine NoPanic.normal ?_
     have B9:=zh (Za hHeld)
     clear hHeld
     go_wp2_with fail
     go_ret
     exact ⟨rfl,B9.out⟩
  ·rw [decide_eq_false q4]
   have q4':4<y0:=by omega
   go_enter Tryz.func101,Tryz.ntmps101
   go_upto_region 1 with fail
   generalize (w.alloc (.cells #[.int .i64 kd,.slice A1 ws.length c1,.slice (some ad2) 3 c2,.slice A3 ks.length c3,.int .i64 ps] 27))=w1 at *
   have HS:(w1.drew.cell? ⟨w.heap.size,0,none⟩=some (.int .i64 kd)/\w1.drew.cell? ⟨w.heap.size,1,none⟩=some (.slice A1 ws.length c1)/\w1.drew.cell? ⟨w.heap.size,2,none⟩=some (.slice (some ad2) 3 c2)/\w1.drew.cell? ⟨w.heap.size,3,none⟩=some (.slice A3 ks.length c3)/\w1.drew.cell? ⟨w.heap.size,4,none⟩=some (.int .i64 ps)/\w1.drew.cell? ad2=some (.int .i64 y0)/\w1.drew.cell? ⟨ad2.block,ad2.off+1,none⟩=some (.int .i64 y1)/\w1.drew.cell? ⟨ad2.block,ad2.off+2,none⟩=some (.int .i64 y2))/\Below w.heap.size w w1.drew:=⟨HS1.1,HS1.2.drew⟩
   clear HS1
   refine wp_region_noPanic ?_
   refine wp_region_held_drew (S:=(fun w'=>(w'.cell? ⟨w.heap.size,0,none⟩=some (.int .i64 kd)/\w'.cell? ⟨w.heap.size,1,none⟩=some (.slice A1 ws.length c1)/\w'.cell? ⟨w.heap.size,2,none⟩=some (.slice (some ad2) 3 c2)/\w'.cell? ⟨w.heap.size,3,none⟩=some (.slice A3 ks.length c3)/\w'.cell? ⟨w.heap.size,4,none⟩=some (.int .i64 ps)/\w'.cell? ad2=some (.int .i64 y0)/\w'.cell? ⟨ad2.block,ad2.off+1,none⟩=some (.int .i64 y1)/\w'.cell? ⟨ad2.block,ad2.off+2,none⟩=some (.int .i64 y2))/\Below w.heap.size w w')) (by kernel_rfl) HS (fun hHeld=>?_)
   clear HS
   refine tkk 0 rfl ?_
   refine tkk 1 rfl ?_
   refine tkk 2 rfl ?_
   refine tkk 3 rfl ?_
   (try simp only [cl,Act.put])
   refine rd 4 rfl fun K hK=>?_
   go_simp
   refine hK.out _ _ ?_ (fun hH2=>?_)
   ·exact STB.out _ _ (below_alloc1 _ _) (by with_reducible assumption)
   clear hK K hHeld;have hHeld:=hH2;clear hH2
   (try simp only [cl,Act.put])
   refine rd 5 rfl fun K hK=>?_
   go_simp
   (go_at_call 94;(with_reducible refine (Zf _ _ _).mono ?_);rintro e5 w5 ⟨⟨u,rfl,hT⟩,hb⟩;obtain ⟨bu,Au,cu,rfl,_,_⟩:=id hT)
   go_wp2_with fail
   refine hK.out _ _ (STB.out _ _ hb (by with_reducible assumption)) (fun hH2=>?_)
   clear hK K hHeld hb;have hHeld:=hH2;clear hH2
   (try simp only [cl,Act.put])
   refine tkk 6 rfl ?_
   refine tkk 7 rfl ?_
   (try simp only [cl,Act.put])
   refine wpAnyH_done (by kernel_rfl) ?_ _
   refine NoPanic.normal ?_
   have T5:=zh hT
   have B5:=zh (Za hHeld)
   have H5:=zh hHeld
   clear hT
   obtain ⟨⟨g0,g1,g2,g3,g4,n0,n1,n2⟩,_⟩:=hHeld
   go_wp2_with fail
   go_ret
   exact ⟨rfl,B5.out⟩
 ·go_enter Tryz.func101,Tryz.ntmps101
  go_upto_region 1 with fail
  generalize (w.alloc (.cells #[.int .i64 kd,.slice A1 ws.length c1,.slice (some ad2) 3 c2,.slice A3 ks.length c3,.int .i64 ps] 27))=w1 at *
  have HS:(w1.drew.cell? ⟨w.heap.size,0,none⟩=some (.int .i64 kd)/\w1.drew.cell? ⟨w.heap.size,1,none⟩=some (.slice A1 ws.length c1)/\w1.drew.cell? ⟨w.heap.size,2,none⟩=some (.slice (some ad2) 3 c2)/\w1.drew.cell? ⟨w.heap.size,3,none⟩=some (.slice A3 ks.length c3)/\w1.drew.cell? ⟨w.heap.size,4,none⟩=some (.int .i64 ps)/\w1.drew.cell? ad2=some (.int .i64 y0)/\w1.drew.cell? ⟨ad2.block,ad2.off+1,none⟩=some (.int .i64 y1)/\w1.drew.cell? ⟨ad2.block,ad2.off+2,none⟩=some (.int .i64 y2))/\Below w.heap.size w w1.drew:=⟨HS1.1,HS1.2.drew⟩
  clear HS1
  refine wp_region_noPanic ?_
  refine wp_region_held_drew (S:=(fun w'=>(w'.cell? ⟨w.heap.size,0,none⟩=some (.int .i64 kd)/\w'.cell? ⟨w.heap.size,1,none⟩=some (.slice A1 ws.length c1)/\w'.cell? ⟨w.heap.size,2,none⟩=some (.slice (some ad2) 3 c2)/\w'.cell? ⟨w.heap.size,3,none⟩=some (.slice A3 ks.length c3)/\w'.cell? ⟨w.heap.size,4,none⟩=some (.int .i64 ps)/\w'.cell? ad2=some (.int .i64 y0)/\w'.cell? ⟨ad2.block,ad2.off+1,none⟩=some (.int .i64 y1)/\w'.cell? ⟨ad2.block,ad2.off+2,none⟩=some (.int .i64 y2))/\Below w.heap.size w w')) (by kernel_rfl) HS (fun hHeld=>?_)
  clear HS
  refine tkk 0 rfl ?_
  refine tkk 1 rfl ?_
  refine tkk 2 rfl ?_
  refine tkk 3 rfl ?_
  (try simp only [cl,Act.put])
  refine rd 4 rfl fun K hK=>?_
  go_simp
  refine hK.out _ _ ?_ (fun hH2=>?_)
  ·exact STB.out _ _ (below_alloc1 _ _) (by with_reducible assumption)
  clear hK K hHeld;have hHeld:=hH2;clear hH2
  (try simp only [cl,Act.put])
  refine rd 5 rfl fun K hK=>?_
  go_simp
  (go_at_call 94;(with_reducible refine (Zf _ _ _).mono ?_);rintro e5 w5 ⟨⟨u,rfl,hT⟩,hb⟩;obtain ⟨bu,Au,cu,rfl,_,_⟩:=id hT)
  go_wp2_with fail
  refine hK.out _ _ (STB.out _ _ hb (by with_reducible assumption)) (fun hH2=>?_)
  clear hK K hHeld hb;have hHeld:=hH2;clear hH2
  (try simp only [cl,Act.put])
  refine tkk 6 rfl ?_
  refine tkk 7 rfl ?_
  (try simp only [cl,Act.put])
  refine wpAnyH_done (by kernel_rfl) ?_ _
  refine NoPanic.normal ?_
  have T5:=zh hT
  have B5:=zh (Za hHeld)
  have H5:=zh hHeld
  clear hT
  obtain ⟨⟨g0,g1,g2,g3,g4,n0,n1,n2⟩,_⟩:=hHeld
  go_wp2_with fail
  go_ret
  exact ⟨rfl,B5.out⟩
end
end Go.Proofs.YtkgkmdhpnhmcpaaGreatDoor
