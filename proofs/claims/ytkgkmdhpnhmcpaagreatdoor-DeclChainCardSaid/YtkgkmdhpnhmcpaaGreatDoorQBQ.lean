import Derived.Test.YtkgkmdhpnhmcpaaGreatDoorQBI
set_option maxRecDepth 100000
set_option maxHeartbeats 8000000
namespace Go.Proofs.YtkgkmdhpnhmcpaaGreatDoor
section
open Go.RowKit
theorem Zex (w:World) (v:Value) (ns:List Nd) (va vb vc:Value) (kd:Int) (ws:List (List UInt8)) (nums ks:List Int) (ps:Int) (hN:Zn w v ns) (hx:ZJ w ((va,vb,vc),⟨kd,ws,nums,ks,ps⟩)) (hk:ZA ks ns.length) (hl:nums.length=3) :
  Calls Tryz.prog 98 #[v,ndV ((va,vb,vc),⟨kd,ws,nums,ks,ps⟩)] w fun e w'=>e=.returned (.bool (Zbq ns ⟨kd,ws,nums,ks,ps⟩))/\Below w.heap.size w w':=by
 obtain ⟨h1,h2,h3⟩:=id hx
 dsimp only at h1 h2 h3
 have FRA:=zh (fun (wr:World) (hb:Below w.heap.size w wr)=>ZcC wr _ (hx.below hb) hl)
 have ALL:=zh (fun (wr:World) (hb:Below w.heap.size w wr) (u:Value) (t:Tst) (hu:Zp wr t u)=>ZB wr v vc u ns ks t (hN.below hb) (h3.below hb) hu hk)
 have INC:=zh (fun (wr:World) (hb:Below w.heap.size w wr)=>ZdH wr v vc ns ks (hN.below hb) (h3.below hb) hk)
 clear hk
 obtain ⟨A1,c1,rfl,_⟩:=h1
 obtain ⟨A2,c2,rfl,_,_,R2⟩:=h2
 obtain ⟨A3,c3,rfl,_⟩:=h3
 obtain ⟨y0,hy0⟩:∃ y,nums[0]? = some y:=⟨_,List.getElem?_eq_getElem (by omega)⟩
 obtain ⟨y1,hy1⟩:∃ y,nums[1]? = some y:=⟨_,List.getElem?_eq_getElem (by omega)⟩
 obtain ⟨y2,hy2⟩:∃ y,nums[2]? = some y:=⟨_,List.getElem?_eq_getElem (by omega)⟩
 have N0:=zh (ZaL (n:=(⟨kd,ws,nums,ks,ps⟩:Nd)) hy0)
 have N1:=zh (ZaL (n:=(⟨kd,ws,nums,ks,ps⟩:Nd)) hy1)
 have N2:=zh (ZaL (n:=(⟨kd,ws,nums,ks,ps⟩:Nd)) hy2)
 obtain ⟨ad2,rfl,n0⟩:=ints_at R2 (Below.refl _ _) hy0 (by omega)
 obtain ⟨a2,e2,n1⟩:=ints_at R2 (Below.refl _ _) hy1 (by omega)
 injection e2 with e2
 subst e2
 obtain ⟨a2,e2,n2⟩:=ints_at R2 (Below.refl _ _) hy2 (by omega)
 injection e2 with e2
 subst e2
 rw [show ad2.add 0=ad2 by unfold Addr.add;simp] at n0
 rw [show ad2.add 1=⟨ad2.block,ad2.off+1,none⟩ by unfold Addr.add;simp] at n1
 rw [show ad2.add 2=⟨ad2.block,ad2.off+2,none⟩ by unfold Addr.add;simp] at n2
 unfold ndV at FRA ⊢
 dsimp only at FRA ⊢
 rw [hl] at FRA ⊢
 have hal:=below_alloc1 w (.cells #[.int .i64 kd,.slice A1 ws.length c1,.slice (some ad2) 3 c2,.slice A3 ks.length c3,.int .i64 ps] 27)
 have keep:=fun (p:Addr) (x:Value) (h:w.cell? p=some x)=>(hal.cell (World.block_lt_of_cell? _ _ h)).trans h
 have HS1:((w.alloc (.cells #[.int .i64 kd,.slice A1 ws.length c1,.slice (some ad2) 3 c2,.slice A3 ks.length c3,.int .i64 ps] 27)).cell? ⟨w.heap.size,0,none⟩=some (.int .i64 kd)/\(w.alloc (.cells #[.int .i64 kd,.slice A1 ws.length c1,.slice (some ad2) 3 c2,.slice A3 ks.length c3,.int .i64 ps] 27)).cell? ⟨w.heap.size,1,none⟩=some (.slice A1 ws.length c1)/\(w.alloc (.cells #[.int .i64 kd,.slice A1 ws.length c1,.slice (some ad2) 3 c2,.slice A3 ks.length c3,.int .i64 ps] 27)).cell? ⟨w.heap.size,2,none⟩=some (.slice (some ad2) 3 c2)/\(w.alloc (.cells #[.int .i64 kd,.slice A1 ws.length c1,.slice (some ad2) 3 c2,.slice A3 ks.length c3,.int .i64 ps] 27)).cell? ⟨w.heap.size,3,none⟩=some (.slice A3 ks.length c3)/\(w.alloc (.cells #[.int .i64 kd,.slice A1 ws.length c1,.slice (some ad2) 3 c2,.slice A3 ks.length c3,.int .i64 ps] 27)).cell? ⟨w.heap.size,4,none⟩=some (.int .i64 ps)/\(w.alloc (.cells #[.int .i64 kd,.slice A1 ws.length c1,.slice (some ad2) 3 c2,.slice A3 ks.length c3,.int .i64 ps] 27)).cell? ad2=some (.int .i64 y0)/\(w.alloc (.cells #[.int .i64 kd,.slice A1 ws.length c1,.slice (some ad2) 3 c2,.slice A3 ks.length c3,.int .i64 ps] 27)).cell? ⟨ad2.block,ad2.off+1,none⟩=some (.int .i64 y1)/\(w.alloc (.cells #[.int .i64 kd,.slice A1 ws.length c1,.slice (some ad2) 3 c2,.slice A3 ks.length c3,.int .i64 ps] 27)).cell? ⟨ad2.block,ad2.off+2,none⟩=some (.int .i64 y2))/\Below w.heap.size w (w.alloc (.cells #[.int .i64 kd,.slice A1 ws.length c1,.slice (some ad2) 3 c2,.slice A3 ks.length c3,.int .i64 ps] 27)):=⟨⟨(Blk.start w _ _).cell 0,(Blk.start w _ _).cell 1,(Blk.start w _ _).cell 2,(Blk.start w _ _).cell 3,(Blk.start w _ _).cell 4,keep _ _ n0,keep _ _ n1,keep _ _ n2⟩,hal⟩
 clear hx hN R2 n0 n1 n2 hy0 hy1 hy2 hal keep
 have STB:=zh (show Stb (fun w'=>(w'.cell? ⟨w.heap.size,0,none⟩=some (.int .i64 kd)/\w'.cell? ⟨w.heap.size,1,none⟩=some (.slice A1 ws.length c1)/\w'.cell? ⟨w.heap.size,2,none⟩=some (.slice (some ad2) 3 c2)/\w'.cell? ⟨w.heap.size,3,none⟩=some (.slice A3 ks.length c3)/\w'.cell? ⟨w.heap.size,4,none⟩=some (.int .i64 ps)/\w'.cell? ad2=some (.int .i64 y0)/\w'.cell? ⟨ad2.block,ad2.off+1,none⟩=some (.int .i64 y1)/\w'.cell? ⟨ad2.block,ad2.off+2,none⟩=some (.int .i64 y2))/\Below w.heap.size w w') from Zc (Zc (Zb _ _) ( Zc (Zb _ _) ( Zc (Zb _ _) ( Zc (Zb _ _) ( Zc (Zb _ _) ( Zc (Zb _ _) ( Zc (Zb _ _) (Zb _ _)))))))) (Zq w))
 have EQ:=zh (show Zbq ns ⟨kd,ws,nums,ks,ps⟩=(decide (y0<=4)&&((y1==0&&y2==0)||Zbl ⟨kd,ws,nums,ks,ps⟩)&&Zax ns ks (isB [6])&&ZR ns ks) from by unfold Zbq;rw [N0.out,N1.out,N2.out])
 have FR1:=zh (show ∀ wr:World,Below w.heap.size w wr->Calls Tryz.prog 133 #[.agg #[.int .i64 kd,.slice A1 ws.length c1,.slice (some ad2) 3 c2,.slice A3 ks.length c3,.int .i64 ps]] wr fun e w'=>e=.returned (.bool (Zbl ⟨kd,ws,nums,ks,ps⟩))/\Below wr.heap.size wr w' from fun wr hb=>FRA.out wr hb)
 have AL1:=zh (show ∀ wr:World,Below w.heap.size w wr->∀ u:Value,Zp wr (.is [6]) u->Calls Tryz.prog 96 #[v,.slice A3 ks.length c3,u] wr fun e w'=>e=.returned (.bool (Zax ns ks (isB [6])))/\Below wr.heap.size wr w' from fun wr hb u hu=>ALL.out wr hb u _ hu)
 have IN1:=zh (show ∀ wr:World,Below w.heap.size w wr->Calls Tryz.prog 134 #[v,.slice A3 ks.length c3] wr fun e w'=>e=.returned (.bool (ZR ns ks))/\Below wr.heap.size wr w' from fun wr hb=>INC.out wr hb)
 clear FRA ALL INC N0 N1 N2
 rw [EQ.out]
 generalize Zbl ⟨kd,ws,nums,ks,ps⟩=F at *
 generalize Zax ns ks (isB [6])=L at *
 generalize ZR ns ks=I at *
 have i0:(0:Int)<((3:Nat):Int):=by decide
 have i1:(1:Int)<((3:Nat):Int):=by decide
 have i2:(2:Int)<((3:Nat):Int):=by decide
 clear hl
 cases q1:(y1==0)
 ·by_cases q0:y0<=4
  ·rw [decide_eq_true q0]
   cases F
   ·go_enter Tryz.func98,Tryz.ntmps98
    go_upto_region 1 with fail
    generalize (w.alloc (.cells #[.int .i64 kd,.slice A1 ws.length c1,.slice (some ad2) 3 c2,.slice A3 ks.length c3,.int .i64 ps] 27))=w1 at *
    have HS:(w1.drew.cell? ⟨w.heap.size,0,none⟩=some (.int .i64 kd)/\w1.drew.cell? ⟨w.heap.size,1,none⟩=some (.slice A1 ws.length c1)/\w1.drew.cell? ⟨w.heap.size,2,none⟩=some (.slice (some ad2) 3 c2)/\w1.drew.cell? ⟨w.heap.size,3,none⟩=some (.slice A3 ks.length c3)/\w1.drew.cell? ⟨w.heap.size,4,none⟩=some (.int .i64 ps)/\w1.drew.cell? ad2=some (.int .i64 y0)/\w1.drew.cell? ⟨ad2.block,ad2.off+1,none⟩=some (.int .i64 y1)/\w1.drew.cell? ⟨ad2.block,ad2.off+2,none⟩=some (.int .i64 y2))/\Below w.heap.size w w1.drew:=⟨HS1.1,HS1.2.drew⟩
    clear HS1
    refine wp_region_noPanic ?_
    refine wp_region_held_drew (S:=(fun w'=>(w'.cell? ⟨w.heap.size,0,none⟩=some (.int .i64 kd)/\w'.cell? ⟨w.heap.size,1,none⟩=some (.slice A1 ws.length c1)/\w'.cell? ⟨w.heap.size,2,none⟩=some (.slice (some ad2) 3 c2)/\w'.cell? ⟨w.heap.size,3,none⟩=some (.slice A3 ks.length c3)/\w'.cell? ⟨w.heap.size,4,none⟩=some (.int .i64 ps)/\w'.cell? ad2=some (.int .i64 y0)/\w'.cell? ⟨ad2.block,ad2.off+1,none⟩=some (.int .i64 y1)/\w'.cell? ⟨ad2.block,ad2.off+2,none⟩=some (.int .i64 y2))/\Below w.heap.size w w')) (by kernel_rfl) HS (fun hHeld=>?_)
    clear HS
    refine tkk 0 rfl ?_
    refine tkk 1 rfl ?_
    refine tkk 2 rfl ?_
    refine tkk 3 rfl ?_
    refine tkk 4 rfl ?_
    refine tkk 5 rfl ?_
    refine tkk 6 rfl ?_
    refine tkk 7 rfl ?_
    refine tkk 8 rfl ?_
    refine tkk 9 rfl ?_
    refine txk 10 rfl ?_
    refine txk 11 rfl ?_
    refine txk 12 rfl ?_
    refine txk 13 rfl ?_
    refine txk 14 rfl ?_
    refine tkk 15 rfl ?_
    refine tkk 16 rfl ?_
    refine tkk 17 rfl ?_
    (try simp only [cl,Act.put])
    refine wpAnyH_done (by kernel_rfl) ?_ _
    refine NoPanic.normal ?_
    generalize w1.drew=w5 at *
    go_upto_region 2 with fail
    have HS:(w5.drew.cell? ⟨w.heap.size,0,none⟩=some (.int .i64 kd)/\w5.drew.cell? ⟨w.heap.size,1,none⟩=some (.slice A1 ws.length c1)/\w5.drew.cell? ⟨w.heap.size,2,none⟩=some (.slice (some ad2) 3 c2)/\w5.drew.cell? ⟨w.heap.size,3,none⟩=some (.slice A3 ks.length c3)/\w5.drew.cell? ⟨w.heap.size,4,none⟩=some (.int .i64 ps)/\w5.drew.cell? ad2=some (.int .i64 y0)/\w5.drew.cell? ⟨ad2.block,ad2.off+1,none⟩=some (.int .i64 y1)/\w5.drew.cell? ⟨ad2.block,ad2.off+2,none⟩=some (.int .i64 y2))/\Below w.heap.size w w5.drew:=⟨hHeld.1,hHeld.2.drew⟩
    clear hHeld
    refine wp_region_noPanic ?_
    refine wp_region_held_drew (S:=(fun w'=>(w'.cell? ⟨w.heap.size,0,none⟩=some (.int .i64 kd)/\w'.cell? ⟨w.heap.size,1,none⟩=some (.slice A1 ws.length c1)/\w'.cell? ⟨w.heap.size,2,none⟩=some (.slice (some ad2) 3 c2)/\w'.cell? ⟨w.heap.size,3,none⟩=some (.slice A3 ks.length c3)/\w'.cell? ⟨w.heap.size,4,none⟩=some (.int .i64 ps)/\w'.cell? ad2=some (.int .i64 y0)/\w'.cell? ⟨ad2.block,ad2.off+1,none⟩=some (.int .i64 y1)/\w'.cell? ⟨ad2.block,ad2.off+2,none⟩=some (.int .i64 y2))/\Below w.heap.size w w')) (by kernel_rfl) HS (fun hHeld=>?_)
    clear HS
    refine tkk 0 rfl ?_
    refine tkk 1 rfl ?_
    refine tkk 2 rfl ?_
    refine tkk 3 rfl ?_
    refine tkk 4 rfl ?_
    refine tkk 5 rfl ?_
    (try simp only [cl,Act.put])
    refine rd 6 rfl fun K hK=>?_
    go_simp
    (first
     | (go_at_call 133;(with_reducible refine (FR1.out _ (Za (by with_reducible assumption))).mono ?_);rintro e6 w6 ⟨rfl,hb⟩)
     | (go_at_call 94;(with_reducible refine (Zi _ _ _).mono ?_);rintro e7 w7 ⟨⟨u2,rfl,hT2⟩,hb⟩)
     | (go_at_call 94;(with_reducible refine (Zf _ _ _).mono ?_);rintro e7 w7 ⟨⟨u2,rfl,hT2⟩,hb⟩)
     | (go_at_call 96;(with_reducible refine (AL1.out _ (Za (by with_reducible assumption)) _ hT2).mono ?_);rintro e8 w8 ⟨rfl,hb⟩)
     | (go_at_call 134;(with_reducible refine (IN1.out _ (Za (by with_reducible assumption))).mono ?_);rintro e9 w9 ⟨rfl,hb⟩))
    go_wp2_with fail
    refine hK.out _ _ (STB.out _ _ hb (by with_reducible assumption)) (fun hH2=>?_)
    clear hK K hHeld hb;have hHeld:=hH2;clear hH2
    (try simp only [cl,Act.put])
    refine tkk 7 rfl ?_
    refine tkk 8 rfl ?_
    refine tkk 9 rfl ?_
    refine txk 10 rfl ?_
    refine txk 11 rfl ?_
    refine txk 12 rfl ?_
    refine txk 13 rfl ?_
    refine txk 14 rfl ?_
    refine txk 15 rfl ?_
    refine tkk 16 rfl ?_
    refine tkk 17 rfl ?_
    refine txk 18 rfl ?_
    refine txk 19 rfl ?_
    refine txk 20 rfl ?_
    refine txk 21 rfl ?_
    refine tkk 22 rfl ?_
    refine tkk 23 rfl ?_
    (try simp only [cl,Act.put])
    refine wpAnyH_done (by kernel_rfl) ?_ _
    refine NoPanic.normal ?_
    have B9:=zh (Za hHeld)
    clear hHeld
    go_wp2_with fail
    go_ret
    exact ⟨rfl,B9.out⟩
   ·cases L
    ·go_enter Tryz.func98,Tryz.ntmps98
     go_upto_region 1 with fail
     generalize (w.alloc (.cells #[.int .i64 kd,.slice A1 ws.length c1,.slice (some ad2) 3 c2,.slice A3 ks.length c3,.int .i64 ps] 27))=w1 at *
     have HS:(w1.drew.cell? ⟨w.heap.size,0,none⟩=some (.int .i64 kd)/\w1.drew.cell? ⟨w.heap.size,1,none⟩=some (.slice A1 ws.length c1)/\w1.drew.cell? ⟨w.heap.size,2,none⟩=some (.slice (some ad2) 3 c2)/\w1.drew.cell? ⟨w.heap.size,3,none⟩=some (.slice A3 ks.length c3)/\w1.drew.cell? ⟨w.heap.size,4,none⟩=some (.int .i64 ps)/\w1.drew.cell? ad2=some (.int .i64 y0)/\w1.drew.cell? ⟨ad2.block,ad2.off+1,none⟩=some (.int .i64 y1)/\w1.drew.cell? ⟨ad2.block,ad2.off+2,none⟩=some (.int .i64 y2))/\Below w.heap.size w w1.drew:=⟨HS1.1,HS1.2.drew⟩
     clear HS1
     refine wp_region_noPanic ?_
     refine wp_region_held_drew (S:=(fun w'=>(w'.cell? ⟨w.heap.size,0,none⟩=some (.int .i64 kd)/\w'.cell? ⟨w.heap.size,1,none⟩=some (.slice A1 ws.length c1)/\w'.cell? ⟨w.heap.size,2,none⟩=some (.slice (some ad2) 3 c2)/\w'.cell? ⟨w.heap.size,3,none⟩=some (.slice A3 ks.length c3)/\w'.cell? ⟨w.heap.size,4,none⟩=some (.int .i64 ps)/\w'.cell? ad2=some (.int .i64 y0)/\w'.cell? ⟨ad2.block,ad2.off+1,none⟩=some (.int .i64 y1)/\w'.cell? ⟨ad2.block,ad2.off+2,none⟩=some (.int .i64 y2))/\Below w.heap.size w w')) (by kernel_rfl) HS (fun hHeld=>?_)
     clear HS
     refine tkk 0 rfl ?_
     refine tkk 1 rfl ?_
     refine tkk 2 rfl ?_
     refine tkk 3 rfl ?_
     refine tkk 4 rfl ?_
     refine tkk 5 rfl ?_
     refine tkk 6 rfl ?_
     refine tkk 7 rfl ?_
     refine tkk 8 rfl ?_
     refine tkk 9 rfl ?_
     refine txk 10 rfl ?_
     refine txk 11 rfl ?_
     refine txk 12 rfl ?_
     refine txk 13 rfl ?_
     refine txk 14 rfl ?_
     refine tkk 15 rfl ?_
     refine tkk 16 rfl ?_
     refine tkk 17 rfl ?_
     (try simp only [cl,Act.put])
     refine wpAnyH_done (by kernel_rfl) ?_ _
     refine NoPanic.normal ?_
     generalize w1.drew=w5 at *
     go_upto_region 2 with fail
     have HS:(w5.drew.cell? ⟨w.heap.size,0,none⟩=some (.int .i64 kd)/\w5.drew.cell? ⟨w.heap.size,1,none⟩=some (.slice A1 ws.length c1)/\w5.drew.cell? ⟨w.heap.size,2,none⟩=some (.slice (some ad2) 3 c2)/\w5.drew.cell? ⟨w.heap.size,3,none⟩=some (.slice A3 ks.length c3)/\w5.drew.cell? ⟨w.heap.size,4,none⟩=some (.int .i64 ps)/\w5.drew.cell? ad2=some (.int .i64 y0)/\w5.drew.cell? ⟨ad2.block,ad2.off+1,none⟩=some (.int .i64 y1)/\w5.drew.cell? ⟨ad2.block,ad2.off+2,none⟩=some (.int .i64 y2))/\Below w.heap.size w w5.drew:=⟨hHeld.1,hHeld.2.drew⟩
     clear hHeld
     refine wp_region_noPanic ?_
     refine wp_region_held_drew (S:=(fun w'=>(w'.cell? ⟨w.heap.size,0,none⟩=some (.int .i64 kd)/\w'.cell? ⟨w.heap.size,1,none⟩=some (.slice A1 ws.length c1)/\w'.cell? ⟨w.heap.size,2,none⟩=some (.slice (some ad2) 3 c2)/\w'.cell? ⟨w.heap.size,3,none⟩=some (.slice A3 ks.length c3)/\w'.cell? ⟨w.heap.size,4,none⟩=some (.int .i64 ps)/\w'.cell? ad2=some (.int .i64 y0)/\w'.cell? ⟨ad2.block,ad2.off+1,none⟩=some (.int .i64 y1)/\w'.cell? ⟨ad2.block,ad2.off+2,none⟩=some (.int .i64 y2))/\Below w.heap.size w w')) (by kernel_rfl) HS (fun hHeld=>?_)
     clear HS
     refine tkk 0 rfl ?_
     refine tkk 1 rfl ?_
     refine tkk 2 rfl ?_
     refine tkk 3 rfl ?_
     refine tkk 4 rfl ?_
     refine tkk 5 rfl ?_
     (try simp only [cl,Act.put])
     refine rd 6 rfl fun K hK=>?_
     go_simp
     (first
      | (go_at_call 133;(with_reducible refine (FR1.out _ (Za (by with_reducible assumption))).mono ?_);rintro e6 w6 ⟨rfl,hb⟩)
      | (go_at_call 94;(with_reducible refine (Zi _ _ _).mono ?_);rintro e7 w7 ⟨⟨u2,rfl,hT2⟩,hb⟩)
      | (go_at_call 94;(with_reducible refine (Zf _ _ _).mono ?_);rintro e7 w7 ⟨⟨u2,rfl,hT2⟩,hb⟩)
      | (go_at_call 96;(with_reducible refine (AL1.out _ (Za (by with_reducible assumption)) _ hT2).mono ?_);rintro e8 w8 ⟨rfl,hb⟩)
      | (go_at_call 134;(with_reducible refine (IN1.out _ (Za (by with_reducible assumption))).mono ?_);rintro e9 w9 ⟨rfl,hb⟩))
     go_wp2_with fail
     refine hK.out _ _ (STB.out _ _ hb (by with_reducible assumption)) (fun hH2=>?_)
     clear hK K hHeld hb;have hHeld:=hH2;clear hH2
     (try simp only [cl,Act.put])
     refine tkk 7 rfl ?_
     refine tkk 8 rfl ?_
     refine tkk 9 rfl ?_
     refine tkk 10 rfl ?_
     refine tkk 11 rfl ?_
     refine tkk 12 rfl ?_
     (try simp only [cl,Act.put])
     refine rd 13 rfl fun K hK=>?_
     go_simp
     refine hK.out _ _ ?_ (fun hH2=>?_)
     ·exact STB.out _ _ (below_alloc1 _ _) (by with_reducible assumption)
     clear hK K hHeld;have hHeld:=hH2;clear hH2
     (try simp only [cl,Act.put])
     refine rd 14 rfl fun K hK=>?_
     go_simp
     (first
      | (go_at_call 133;(with_reducible refine (FR1.out _ (Za (by with_reducible assumption))).mono ?_);rintro e6 w6 ⟨rfl,hb⟩)
      | (go_at_call 94;(with_reducible refine (Zi _ _ _).mono ?_);rintro e7 w7 ⟨⟨u2,rfl,hT2⟩,hb⟩)
      | (go_at_call 94;(with_reducible refine (Zf _ _ _).mono ?_);rintro e7 w7 ⟨⟨u2,rfl,hT2⟩,hb⟩)
      | (go_at_call 96;(with_reducible refine (AL1.out _ (Za (by with_reducible assumption)) _ hT2).mono ?_);rintro e8 w8 ⟨rfl,hb⟩)
      | (go_at_call 134;(with_reducible refine (IN1.out _ (Za (by with_reducible assumption))).mono ?_);rintro e9 w9 ⟨rfl,hb⟩))
     go_wp2_with fail
     refine hK.out _ _ (STB.out _ _ hb (by with_reducible assumption)) (fun hH2=>?_)
     clear hK K hHeld hb;have hHeld:=hH2;clear hH2
     (try simp only [cl,Act.put])
     refine rd 15 rfl fun K hK=>?_
     go_simp
     (first
      | (go_at_call 133;(with_reducible refine (FR1.out _ (Za (by with_reducible assumption))).mono ?_);rintro e6 w6 ⟨rfl,hb⟩)
      | (go_at_call 94;(with_reducible refine (Zi _ _ _).mono ?_);rintro e7 w7 ⟨⟨u2,rfl,hT2⟩,hb⟩)
      | (go_at_call 94;(with_reducible refine (Zf _ _ _).mono ?_);rintro e7 w7 ⟨⟨u2,rfl,hT2⟩,hb⟩)
      | (go_at_call 96;(with_reducible refine (AL1.out _ (Za (by with_reducible assumption)) _ hT2).mono ?_);rintro e8 w8 ⟨rfl,hb⟩)
      | (go_at_call 134;(with_reducible refine (IN1.out _ (Za (by with_reducible assumption))).mono ?_);rintro e9 w9 ⟨rfl,hb⟩))
     go_wp2_with fail
     refine hK.out _ _ (STB.out _ _ hb (by with_reducible assumption)) (fun hH2=>?_)
     clear hK K hHeld hb;have hHeld:=hH2;clear hH2
     (try simp only [cl,Act.put])
     refine tkk 16 rfl ?_
     refine tkk 17 rfl ?_
     refine txk 18 rfl ?_
     refine txk 19 rfl ?_
     refine txk 20 rfl ?_
     refine txk 21 rfl ?_
     refine tkk 22 rfl ?_
     refine tkk 23 rfl ?_
     (try simp only [cl,Act.put])
     refine wpAnyH_done (by kernel_rfl) ?_ _
     refine NoPanic.normal ?_
     have B9:=zh (Za hHeld)
     clear hHeld
     go_wp2_with fail
     go_ret
     exact ⟨rfl,B9.out⟩
    ·cases I
     ·go_enter Tryz.func98,Tryz.ntmps98
      go_upto_region 1 with fail
      generalize (w.alloc (.cells #[.int .i64 kd,.slice A1 ws.length c1,.slice (some ad2) 3 c2,.slice A3 ks.length c3,.int .i64 ps] 27))=w1 at *
      have HS:(w1.drew.cell? ⟨w.heap.size,0,none⟩=some (.int .i64 kd)/\w1.drew.cell? ⟨w.heap.size,1,none⟩=some (.slice A1 ws.length c1)/\w1.drew.cell? ⟨w.heap.size,2,none⟩=some (.slice (some ad2) 3 c2)/\w1.drew.cell? ⟨w.heap.size,3,none⟩=some (.slice A3 ks.length c3)/\w1.drew.cell? ⟨w.heap.size,4,none⟩=some (.int .i64 ps)/\w1.drew.cell? ad2=some (.int .i64 y0)/\w1.drew.cell? ⟨ad2.block,ad2.off+1,none⟩=some (.int .i64 y1)/\w1.drew.cell? ⟨ad2.block,ad2.off+2,none⟩=some (.int .i64 y2))/\Below w.heap.size w w1.drew:=⟨HS1.1,HS1.2.drew⟩
      clear HS1
      refine wp_region_noPanic ?_
      refine wp_region_held_drew (S:=(fun w'=>(w'.cell? ⟨w.heap.size,0,none⟩=some (.int .i64 kd)/\w'.cell? ⟨w.heap.size,1,none⟩=some (.slice A1 ws.length c1)/\w'.cell? ⟨w.heap.size,2,none⟩=some (.slice (some ad2) 3 c2)/\w'.cell? ⟨w.heap.size,3,none⟩=some (.slice A3 ks.length c3)/\w'.cell? ⟨w.heap.size,4,none⟩=some (.int .i64 ps)/\w'.cell? ad2=some (.int .i64 y0)/\w'.cell? ⟨ad2.block,ad2.off+1,none⟩=some (.int .i64 y1)/\w'.cell? ⟨ad2.block,ad2.off+2,none⟩=some (.int .i64 y2))/\Below w.heap.size w w')) (by kernel_rfl) HS (fun hHeld=>?_)
      clear HS
      refine tkk 0 rfl ?_
      refine tkk 1 rfl ?_
      refine tkk 2 rfl ?_
      refine tkk 3 rfl ?_
      refine tkk 4 rfl ?_
      refine tkk 5 rfl ?_
      refine tkk 6 rfl ?_
      refine tkk 7 rfl ?_
      refine tkk 8 rfl ?_
      refine tkk 9 rfl ?_
      refine txk 10 rfl ?_
      refine txk 11 rfl ?_
      refine txk 12 rfl ?_
      refine txk 13 rfl ?_
      refine txk 14 rfl ?_
      refine tkk 15 rfl ?_
      refine tkk 16 rfl ?_
      refine tkk 17 rfl ?_
      (try simp only [cl,Act.put])
      refine wpAnyH_done (by kernel_rfl) ?_ _
      refine NoPanic.normal ?_
      generalize w1.drew=w5 at *
      go_upto_region 2 with fail
      have HS:(w5.drew.cell? ⟨w.heap.size,0,none⟩=some (.int .i64 kd)/\w5.drew.cell? ⟨w.heap.size,1,none⟩=some (.slice A1 ws.length c1)/\w5.drew.cell? ⟨w.heap.size,2,none⟩=some (.slice (some ad2) 3 c2)/\w5.drew.cell? ⟨w.heap.size,3,none⟩=some (.slice A3 ks.length c3)/\w5.drew.cell? ⟨w.heap.size,4,none⟩=some (.int .i64 ps)/\w5.drew.cell? ad2=some (.int .i64 y0)/\w5.drew.cell? ⟨ad2.block,ad2.off+1,none⟩=some (.int .i64 y1)/\w5.drew.cell? ⟨ad2.block,ad2.off+2,none⟩=some (.int .i64 y2))/\Below w.heap.size w w5.drew:=⟨hHeld.1,hHeld.2.drew⟩
      clear hHeld
      refine wp_region_noPanic ?_
      refine wp_region_held_drew (S:=(fun w'=>(w'.cell? ⟨w.heap.size,0,none⟩=some (.int .i64 kd)/\w'.cell? ⟨w.heap.size,1,none⟩=some (.slice A1 ws.length c1)/\w'.cell? ⟨w.heap.size,2,none⟩=some (.slice (some ad2) 3 c2)/\w'.cell? ⟨w.heap.size,3,none⟩=some (.slice A3 ks.length c3)/\w'.cell? ⟨w.heap.size,4,none⟩=some (.int .i64 ps)/\w'.cell? ad2=some (.int .i64 y0)/\w'.cell? ⟨ad2.block,ad2.off+1,none⟩=some (.int .i64 y1)/\w'.cell? ⟨ad2.block,ad2.off+2,none⟩=some (.int .i64 y2))/\Below w.heap.size w w')) (by kernel_rfl) HS (fun hHeld=>?_)
      clear HS
      refine tkk 0 rfl ?_
      refine tkk 1 rfl ?_
      refine tkk 2 rfl ?_
      refine tkk 3 rfl ?_
      refine tkk 4 rfl ?_
      refine tkk 5 rfl ?_
      (try simp only [cl,Act.put])
      refine rd 6 rfl fun K hK=>?_
      go_simp
      (first
       | (go_at_call 133;(with_reducible refine (FR1.out _ (Za (by with_reducible assumption))).mono ?_);rintro e6 w6 ⟨rfl,hb⟩)
       | (go_at_call 94;(with_reducible refine (Zi _ _ _).mono ?_);rintro e7 w7 ⟨⟨u2,rfl,hT2⟩,hb⟩)
       | (go_at_call 94;(with_reducible refine (Zf _ _ _).mono ?_);rintro e7 w7 ⟨⟨u2,rfl,hT2⟩,hb⟩)
       | (go_at_call 96;(with_reducible refine (AL1.out _ (Za (by with_reducible assumption)) _ hT2).mono ?_);rintro e8 w8 ⟨rfl,hb⟩)
       | (go_at_call 134;(with_reducible refine (IN1.out _ (Za (by with_reducible assumption))).mono ?_);rintro e9 w9 ⟨rfl,hb⟩))
      go_wp2_with fail
      refine hK.out _ _ (STB.out _ _ hb (by with_reducible assumption)) (fun hH2=>?_)
      clear hK K hHeld hb;have hHeld:=hH2;clear hH2
      (try simp only [cl,Act.put])
      refine tkk 7 rfl ?_
      refine tkk 8 rfl ?_
      refine tkk 9 rfl ?_
      refine tkk 10 rfl ?_
      refine tkk 11 rfl ?_
      refine tkk 12 rfl ?_
      (try simp only [cl,Act.put])
      refine rd 13 rfl fun K hK=>?_
      go_simp
      refine hK.out _ _ ?_ (fun hH2=>?_)
      ·exact STB.out _ _ (below_alloc1 _ _) (by with_reducible assumption)
      clear hK K hHeld;have hHeld:=hH2;clear hH2
      (try simp only [cl,Act.put])
      refine rd 14 rfl fun K hK=>?_
      go_simp
      (first
       | (go_at_call 133;(with_reducible refine (FR1.out _ (Za (by with_reducible assumption))).mono ?_);rintro e6 w6 ⟨rfl,hb⟩)
       | (go_at_call 94;(with_reducible refine (Zi _ _ _).mono ?_);rintro e7 w7 ⟨⟨u2,rfl,hT2⟩,hb⟩)
       | (go_at_call 94;(with_reducible refine (Zf _ _ _).mono ?_);rintro e7 w7 ⟨⟨u2,rfl,hT2⟩,hb⟩)
       | (go_at_call 96;(with_reducible refine (AL1.out _ (Za (by with_reducible assumption)) _ hT2).mono ?_);rintro e8 w8 ⟨rfl,hb⟩)
       | (go_at_call 134;(with_reducible refine (IN1.out _ (Za (by with_reducible assumption))).mono ?_);rintro e9 w9 ⟨rfl,hb⟩))
      go_wp2_with fail
      refine hK.out _ _ (STB.out _ _ hb (by with_reducible assumption)) (fun hH2=>?_)
      clear hK K hHeld hb;have hHeld:=hH2;clear hH2
      (try simp only [cl,Act.put])
      refine rd 15 rfl fun K hK=>?_
      go_simp
      (first
       | (go_at_call 133;(with_reducible refine (FR1.out _ (Za (by with_reducible assumption))).mono ?_);rintro e6 w6 ⟨rfl,hb⟩)
       | (go_at_call 94;(with_reducible refine (Zi _ _ _).mono ?_);rintro e7 w7 ⟨⟨u2,rfl,hT2⟩,hb⟩)
       | (go_at_call 94;(with_reducible refine (Zf _ _ _).mono ?_);rintro e7 w7 ⟨⟨u2,rfl,hT2⟩,hb⟩)
       | (go_at_call 96;(with_reducible refine (AL1.out _ (Za (by with_reducible assumption)) _ hT2).mono ?_);rintro e8 w8 ⟨rfl,hb⟩)
       | (go_at_call 134;(with_reducible refine (IN1.out _ (Za (by with_reducible assumption))).mono ?_);rintro e9 w9 ⟨rfl,hb⟩))
      go_wp2_with fail
      refine hK.out _ _ (STB.out _ _ hb (by with_reducible assumption)) (fun hH2=>?_)
      clear hK K hHeld hb;have hHeld:=hH2;clear hH2
      (try simp only [cl,Act.put])
      refine tkk 16 rfl ?_
      refine tkk 17 rfl ?_
      refine tkk 18 rfl ?_
      refine tkk 19 rfl ?_
      refine tkk 20 rfl ?_
      (try simp only [cl,Act.put])
      refine rd 21 rfl fun K hK=>?_
      go_simp
      (first
       | (go_at_call 133;(with_reducible refine (FR1.out _ (Za (by with_reducible assumption))).mono ?_);rintro e6 w6 ⟨rfl,hb⟩)
       | (go_at_call 94;(with_reducible refine (Zi _ _ _).mono ?_);rintro e7 w7 ⟨⟨u2,rfl,hT2⟩,hb⟩)
       | (go_at_call 94;(with_reducible refine (Zf _ _ _).mono ?_);rintro e7 w7 ⟨⟨u2,rfl,hT2⟩,hb⟩)
       | (go_at_call 96;(with_reducible refine (AL1.out _ (Za (by with_reducible assumption)) _ hT2).mono ?_);rintro e8 w8 ⟨rfl,hb⟩)
       | (go_at_call 134;(with_reducible refine (IN1.out _ (Za (by with_reducible assumption))).mono ?_);rintro e9 w9 ⟨rfl,hb⟩))
      go_wp2_with fail
      refine hK.out _ _ (STB.out _ _ hb (by with_reducible assumption)) (fun hH2=>?_)
      clear hK K hHeld hb;have hHeld:=hH2;clear hH2
      (try simp only [cl,Act.put])
      refine tkk 22 rfl ?_
      refine tkk 23 rfl ?_
      (try simp only [cl,Act.put])
      refine wpAnyH_done (by kernel_rfl) ?_ _
      refine NoPanic.normal ?_
      have B9:=zh (Za hHeld)
      clear hHeld
      go_wp2_with fail
      go_ret
      exact ⟨rfl,B9.out⟩
     ·go_enter Tryz.func98,Tryz.ntmps98
      go_upto_region 1 with fail
      generalize (w.alloc (.cells #[.int .i64 kd,.slice A1 ws.length c1,.slice (some ad2) 3 c2,.slice A3 ks.length c3,.int .i64 ps] 27))=w1 at *
      have HS:(w1.drew.cell? ⟨w.heap.size,0,none⟩=some (.int .i64 kd)/\w1.drew.cell? ⟨w.heap.size,1,none⟩=some (.slice A1 ws.length c1)/\w1.drew.cell? ⟨w.heap.size,2,none⟩=some (.slice (some ad2) 3 c2)/\w1.drew.cell? ⟨w.heap.size,3,none⟩=some (.slice A3 ks.length c3)/\w1.drew.cell? ⟨w.heap.size,4,none⟩=some (.int .i64 ps)/\w1.drew.cell? ad2=some (.int .i64 y0)/\w1.drew.cell? ⟨ad2.block,ad2.off+1,none⟩=some (.int .i64 y1)/\w1.drew.cell? ⟨ad2.block,ad2.off+2,none⟩=some (.int .i64 y2))/\Below w.heap.size w w1.drew:=⟨HS1.1,HS1.2.drew⟩
      clear HS1
      refine wp_region_noPanic ?_
      refine wp_region_held_drew (S:=(fun w'=>(w'.cell? ⟨w.heap.size,0,none⟩=some (.int .i64 kd)/\w'.cell? ⟨w.heap.size,1,none⟩=some (.slice A1 ws.length c1)/\w'.cell? ⟨w.heap.size,2,none⟩=some (.slice (some ad2) 3 c2)/\w'.cell? ⟨w.heap.size,3,none⟩=some (.slice A3 ks.length c3)/\w'.cell? ⟨w.heap.size,4,none⟩=some (.int .i64 ps)/\w'.cell? ad2=some (.int .i64 y0)/\w'.cell? ⟨ad2.block,ad2.off+1,none⟩=some (.int .i64 y1)/\w'.cell? ⟨ad2.block,ad2.off+2,none⟩=some (.int .i64 y2))/\Below w.heap.size w w')) (by kernel_rfl) HS (fun hHeld=>?_)
      clear HS
      refine tkk 0 rfl ?_
      refine tkk 1 rfl ?_
      refine tkk 2 rfl ?_
      refine tkk 3 rfl ?_
      refine tkk 4 rfl ?_
      refine tkk 5 rfl ?_
      refine tkk 6 rfl ?_
      refine tkk 7 rfl ?_
      refine tkk 8 rfl ?_
      refine tkk 9 rfl ?_
      refine txk 10 rfl ?_
      refine txk 11 rfl ?_
      refine txk 12 rfl ?_
      refine txk 13 rfl ?_
      refine txk 14 rfl ?_
      refine tkk 15 rfl ?_
      refine tkk 16 rfl ?_
      refine tkk 17 rfl ?_
      (try simp only [cl,Act.put])
      refine wpAnyH_done (by kernel_rfl) ?_ _
      refine NoPanic.normal ?_
      generalize w1.drew=w5 at *
      go_upto_region 2 with fail
      have HS:(w5.drew.cell? ⟨w.heap.size,0,none⟩=some (.int .i64 kd)/\w5.drew.cell? ⟨w.heap.size,1,none⟩=some (.slice A1 ws.length c1)/\w5.drew.cell? ⟨w.heap.size,2,none⟩=some (.slice (some ad2) 3 c2)/\w5.drew.cell? ⟨w.heap.size,3,none⟩=some (.slice A3 ks.length c3)/\w5.drew.cell? ⟨w.heap.size,4,none⟩=some (.int .i64 ps)/\w5.drew.cell? ad2=some (.int .i64 y0)/\w5.drew.cell? ⟨ad2.block,ad2.off+1,none⟩=some (.int .i64 y1)/\w5.drew.cell? ⟨ad2.block,ad2.off+2,none⟩=some (.int .i64 y2))/\Below w.heap.size w w5.drew:=⟨hHeld.1,hHeld.2.drew⟩
      clear hHeld
      refine wp_region_noPanic ?_
      refine wp_region_held_drew (S:=(fun w'=>(w'.cell? ⟨w.heap.size,0,none⟩=some (.int .i64 kd)/\w'.cell? ⟨w.heap.size,1,none⟩=some (.slice A1 ws.length c1)/\w'.cell? ⟨w.heap.size,2,none⟩=some (.slice (some ad2) 3 c2)/\w'.cell? ⟨w.heap.size,3,none⟩=some (.slice A3 ks.length c3)/\w'.cell? ⟨w.heap.size,4,none⟩=some (.int .i64 ps)/\w'.cell? ad2=some (.int .i64 y0)/\w'.cell? ⟨ad2.block,ad2.off+1,none⟩=some (.int .i64 y1)/\w'.cell? ⟨ad2.block,ad2.off+2,none⟩=some (.int .i64 y2))/\Below w.heap.size w w')) (by kernel_rfl) HS (fun hHeld=>?_)
      clear HS
      refine tkk 0 rfl ?_
      refine tkk 1 rfl ?_
      refine tkk 2 rfl ?_
      refine tkk 3 rfl ?_
      refine tkk 4 rfl ?_
      refine tkk 5 rfl ?_
      (try simp only [cl,Act.put])
      refine rd 6 rfl fun K hK=>?_
      go_simp
      (first
       | (go_at_call 133;(with_reducible refine (FR1.out _ (Za (by with_reducible assumption))).mono ?_);rintro e6 w6 ⟨rfl,hb⟩)
       | (go_at_call 94;(with_reducible refine (Zi _ _ _).mono ?_);rintro e7 w7 ⟨⟨u2,rfl,hT2⟩,hb⟩)
       | (go_at_call 94;(with_reducible refine (Zf _ _ _).mono ?_);rintro e7 w7 ⟨⟨u2,rfl,hT2⟩,hb⟩)
       | (go_at_call 96;(with_reducible refine (AL1.out _ (Za (by with_reducible assumption)) _ hT2).mono ?_);rintro e8 w8 ⟨rfl,hb⟩)
       | (go_at_call 134;(with_reducible refine (IN1.out _ (Za (by with_reducible assumption))).mono ?_);rintro e9 w9 ⟨rfl,hb⟩))
      go_wp2_with fail
      refine hK.out _ _ (STB.out _ _ hb (by with_reducible assumption)) (fun hH2=>?_)
      clear hK K hHeld hb;have hHeld:=hH2;clear hH2
      (try simp only [cl,Act.put])
      refine tkk 7 rfl ?_
      refine tkk 8 rfl ?_
      refine tkk 9 rfl ?_
      refine tkk 10 rfl ?_
      refine tkk 11 rfl ?_
      refine tkk 12 rfl ?_
      (try simp only [cl,Act.put])
      refine rd 13 rfl fun K hK=>?_
      go_simp
      refine hK.out _ _ ?_ (fun hH2=>?_)
      ·exact STB.out _ _ (below_alloc1 _ _) (by with_reducible assumption)
      clear hK K hHeld;have hHeld:=hH2;clear hH2
      (try simp only [cl,Act.put])
      refine rd 14 rfl fun K hK=>?_
      go_simp
      (first
       | (go_at_call 133;(with_reducible refine (FR1.out _ (Za (by with_reducible assumption))).mono ?_);rintro e6 w6 ⟨rfl,hb⟩)
       | (go_at_call 94;(with_reducible refine (Zi _ _ _).mono ?_);rintro e7 w7 ⟨⟨u2,rfl,hT2⟩,hb⟩)
       | (go_at_call 94;(with_reducible refine (Zf _ _ _).mono ?_);rintro e7 w7 ⟨⟨u2,rfl,hT2⟩,hb⟩)
       | (go_at_call 96;(with_reducible refine (AL1.out _ (Za (by with_reducible assumption)) _ hT2).mono ?_);rintro e8 w8 ⟨rfl,hb⟩)
       | (go_at_call 134;(with_reducible refine (IN1.out _ (Za (by with_reducible assumption))).mono ?_);rintro e9 w9 ⟨rfl,hb⟩))
      go_wp2_with fail
      refine hK.out _ _ (STB.out _ _ hb (by with_reducible assumption)) (fun hH2=>?_)
      clear hK K hHeld hb;have hHeld:=hH2;clear hH2
      (try simp only [cl,Act.put])
      refine rd 15 rfl fun K hK=>?_
      go_simp
      (first
       | (go_at_call 133;(with_reducible refine (FR1.out _ (Za (by with_reducible assumption))).mono ?_);rintro e6 w6 ⟨rfl,hb⟩)
       | (go_at_call 94;(with_reducible refine (Zi _ _ _).mono ?_);rintro e7 w7 ⟨⟨u2,rfl,hT2⟩,hb⟩)
       | (go_at_call 94;(with_reducible refine (Zf _ _ _).mono ?_);rintro e7 w7 ⟨⟨u2,rfl,hT2⟩,hb⟩)
       | (go_at_call 96;(with_reducible refine (AL1.out _ (Za (by with_reducible assumption)) _ hT2).mono ?_);rintro e8 w8 ⟨rfl,hb⟩)
       | (go_at_call 134;(with_reducible refine (IN1.out _ (Za (by with_reducible assumption))).mono ?_);rintro e9 w9 ⟨rfl,hb⟩))
      go_wp2_with fail
      refine hK.out _ _ (STB.out _ _ hb (by with_reducible assumption)) (fun hH2=>?_)
      clear hK K hHeld hb;have hHeld:=hH2;clear hH2
      (try simp only [cl,Act.put])
      refine tkk 16 rfl ?_
      refine tkk 17 rfl ?_
      refine tkk 18 rfl ?_
      refine tkk 19 rfl ?_
      refine tkk 20 rfl ?_
      (try simp only [cl,Act.put])
      refine rd 21 rfl fun K hK=>?_
      go_simp
      (first
       | (go_at_call 133;(with_reducible refine (FR1.out _ (Za (by with_reducible assumption))).mono ?_);rintro e6 w6 ⟨rfl,hb⟩)
       | (go_at_call 94;(with_reducible refine (Zi _ _ _).mono ?_);rintro e7 w7 ⟨⟨u2,rfl,hT2⟩,hb⟩)
       | (go_at_call 94;(with_reducible refine (Zf _ _ _).mono ?_);rintro e7 w7 ⟨⟨u2,rfl,hT2⟩,hb⟩)
       | (go_at_call 96;(with_reducible refine (AL1.out _ (Za (by with_reducible assumption)) _ hT2).mono ?_);rintro e8 w8 ⟨rfl,hb⟩)
       | (go_at_call 134;(with_reducible refine (IN1.out _ (Za (by with_reducible assumption))).mono ?_);rintro e9 w9 ⟨rfl,hb⟩))
      go_wp2_with fail
      refine hK.out _ _ (STB.out _ _ hb (by with_reducible assumption)) (fun hH2=>?_)
      clear hK K hHeld hb;have hHeld:=hH2;clear hH2
      (try simp only [cl,Act.put])
      refine tkk 22 rfl ?_
      refine tkk 23 rfl ?_
      (try simp only [cl,Act.put])
      refine wpAnyH_done (by kernel_rfl) ?_ _
      refine NoPanic.normal ?_
      have B9:=zh (Za hHeld)
      clear hHeld
      go_wp2_with fail
      go_ret
      exact ⟨rfl,B9.out⟩
  ·rw [decide_eq_false q0]
   have q0':4<y0:=by omega
   go_enter Tryz.func98,Tryz.ntmps98
   go_upto_region 1 with fail
   generalize (w.alloc (.cells #[.int .i64 kd,.slice A1 ws.length c1,.slice (some ad2) 3 c2,.slice A3 ks.length c3,.int .i64 ps] 27))=w1 at *
   have HS:(w1.drew.cell? ⟨w.heap.size,0,none⟩=some (.int .i64 kd)/\w1.drew.cell? ⟨w.heap.size,1,none⟩=some (.slice A1 ws.length c1)/\w1.drew.cell? ⟨w.heap.size,2,none⟩=some (.slice (some ad2) 3 c2)/\w1.drew.cell? ⟨w.heap.size,3,none⟩=some (.slice A3 ks.length c3)/\w1.drew.cell? ⟨w.heap.size,4,none⟩=some (.int .i64 ps)/\w1.drew.cell? ad2=some (.int .i64 y0)/\w1.drew.cell? ⟨ad2.block,ad2.off+1,none⟩=some (.int .i64 y1)/\w1.drew.cell? ⟨ad2.block,ad2.off+2,none⟩=some (.int .i64 y2))/\Below w.heap.size w w1.drew:=⟨HS1.1,HS1.2.drew⟩
   clear HS1
   refine wp_region_noPanic ?_
   refine wp_region_held_drew (S:=(fun w'=>(w'.cell? ⟨w.heap.size,0,none⟩=some (.int .i64 kd)/\w'.cell? ⟨w.heap.size,1,none⟩=some (.slice A1 ws.length c1)/\w'.cell? ⟨w.heap.size,2,none⟩=some (.slice (some ad2) 3 c2)/\w'.cell? ⟨w.heap.size,3,none⟩=some (.slice A3 ks.length c3)/\w'.cell? ⟨w.heap.size,4,none⟩=some (.int .i64 ps)/\w'.cell? ad2=some (.int .i64 y0)/\w'.cell? ⟨ad2.block,ad2.off+1,none⟩=some (.int .i64 y1)/\w'.cell? ⟨ad2.block,ad2.off+2,none⟩=some (.int .i64 y2))/\Below w.heap.size w w')) (by kernel_rfl) HS (fun hHeld=>?_)
   clear HS
   refine tkk 0 rfl ?_
   refine tkk 1 rfl ?_
   refine tkk 2 rfl ?_
   refine tkk 3 rfl ?_
   refine tkk 4 rfl ?_
   refine tkk 5 rfl ?_
   refine tkk 6 rfl ?_
   refine tkk 7 rfl ?_
   refine tkk 8 rfl ?_
   refine tkk 9 rfl ?_
   refine txk 10 rfl ?_
   refine txk 11 rfl ?_
   refine txk 12 rfl ?_
   refine txk 13 rfl ?_
   refine txk 14 rfl ?_
   refine tkk 15 rfl ?_
   refine tkk 16 rfl ?_
   refine tkk 17 rfl ?_
   (try simp only [cl,Act.put])
   refine wpAnyH_done (by kernel_rfl) ?_ _
   refine NoPanic.normal ?_
   generalize w1.drew=w5 at *
   go_upto_region 2 with fail
   have HS:(w5.drew.cell? ⟨w.heap.size,0,none⟩=some (.int .i64 kd)/\w5.drew.cell? ⟨w.heap.size,1,none⟩=some (.slice A1 ws.length c1)/\w5.drew.cell? ⟨w.heap.size,2,none⟩=some (.slice (some ad2) 3 c2)/\w5.drew.cell? ⟨w.heap.size,3,none⟩=some (.slice A3 ks.length c3)/\w5.drew.cell? ⟨w.heap.size,4,none⟩=some (.int .i64 ps)/\w5.drew.cell? ad2=some (.int .i64 y0)/\w5.drew.cell? ⟨ad2.block,ad2.off+1,none⟩=some (.int .i64 y1)/\w5.drew.cell? ⟨ad2.block,ad2.off+2,none⟩=some (.int .i64 y2))/\Below w.heap.size w w5.drew:=⟨hHeld.1,hHeld.2.drew⟩
   clear hHeld
   refine wp_region_noPanic ?_
   refine wp_region_held_drew (S:=(fun w'=>(w'.cell? ⟨w.heap.size,0,none⟩=some (.int .i64 kd)/\w'.cell? ⟨w.heap.size,1,none⟩=some (.slice A1 ws.length c1)/\w'.cell? ⟨w.heap.size,2,none⟩=some (.slice (some ad2) 3 c2)/\w'.cell? ⟨w.heap.size,3,none⟩=some (.slice A3 ks.length c3)/\w'.cell? ⟨w.heap.size,4,none⟩=some (.int .i64 ps)/\w'.cell? ad2=some (.int .i64 y0)/\w'.cell? ⟨ad2.block,ad2.off+1,none⟩=some (.int .i64 y1)/\w'.cell? ⟨ad2.block,ad2.off+2,none⟩=some (.int .i64 y2))/\Below w.heap.size w w')) (by kernel_rfl) HS (fun hHeld=>?_)
   clear HS
   refine tkk 0 rfl ?_
   refine tkk 1 rfl ?_
   refine tkk 2 rfl ?_
   refine txk 3 rfl ?_
   refine txk 4 rfl ?_
   refine txk 5 rfl ?_
   refine txk 6 rfl ?_
   refine txk 7 rfl ?_
   refine tkk 8 rfl ?_
   refine tkk 9 rfl ?_
   refine txk 10 rfl ?_
   refine txk 11 rfl ?_
   refine txk 12 rfl ?_
   refine txk 13 rfl ?_
   refine txk 14 rfl ?_
   refine txk 15 rfl ?_
   refine tkk 16 rfl ?_
   refine tkk 17 rfl ?_
   refine txk 18 rfl ?_
   refine txk 19 rfl ?_
   refine txk 20 rfl ?_
   refine txk 21 rfl ?_
   refine tkk 22 rfl ?_
   refine tkk 23 rfl ?_
   (try simp only [cl,Act.put])
   refine wpAnyH_done (by kernel_rfl) ?_ _
   refine NoPanic.normal ?_
   have B9:=zh (Za hHeld)
   clear hHeld
   go_wp2_with fail
   go_ret
   exact ⟨rfl,B9.out⟩
 ·cases q2:(y2==0)
  ·by_cases q0:y0<=4
   ·rw [decide_eq_true q0]
    cases F
    ·go_enter Tryz.func98,Tryz.ntmps98
     go_upto_region 1 with fail
     generalize (w.alloc (.cells #[.int .i64 kd,.slice A1 ws.length c1,.slice (some ad2) 3 c2,.slice A3 ks.length c3,.int .i64 ps] 27))=w1 at *
     have HS:(w1.drew.cell? ⟨w.heap.size,0,none⟩=some (.int .i64 kd)/\w1.drew.cell? ⟨w.heap.size,1,none⟩=some (.slice A1 ws.length c1)/\w1.drew.cell? ⟨w.heap.size,2,none⟩=some (.slice (some ad2) 3 c2)/\w1.drew.cell? ⟨w.heap.size,3,none⟩=some (.slice A3 ks.length c3)/\w1.drew.cell? ⟨w.heap.size,4,none⟩=some (.int .i64 ps)/\w1.drew.cell? ad2=some (.int .i64 y0)/\w1.drew.cell? ⟨ad2.block,ad2.off+1,none⟩=some (.int .i64 y1)/\w1.drew.cell? ⟨ad2.block,ad2.off+2,none⟩=some (.int .i64 y2))/\Below w.heap.size w w1.drew:=⟨HS1.1,HS1.2.drew⟩
     clear HS1
     refine wp_region_noPanic ?_
     refine wp_region_held_drew (S:=(fun w'=>(w'.cell? ⟨w.heap.size,0,none⟩=some (.int .i64 kd)/\w'.cell? ⟨w.heap.size,1,none⟩=some (.slice A1 ws.length c1)/\w'.cell? ⟨w.heap.size,2,none⟩=some (.slice (some ad2) 3 c2)/\w'.cell? ⟨w.heap.size,3,none⟩=some (.slice A3 ks.length c3)/\w'.cell? ⟨w.heap.size,4,none⟩=some (.int .i64 ps)/\w'.cell? ad2=some (.int .i64 y0)/\w'.cell? ⟨ad2.block,ad2.off+1,none⟩=some (.int .i64 y1)/\w'.cell? ⟨ad2.block,ad2.off+2,none⟩=some (.int .i64 y2))/\Below w.heap.size w w')) (by kernel_rfl) HS (fun hHeld=>?_)
     clear HS
     refine tkk 0 rfl ?_
     refine tkk 1 rfl ?_
     refine tkk 2 rfl ?_
     refine tkk 3 rfl ?_
     refine tkk 4 rfl ?_
     refine tkk 5 rfl ?_
     refine tkk 6 rfl ?_
     refine tkk 7 rfl ?_
     refine tkk 8 rfl ?_
     refine tkk 9 rfl ?_
     refine tkk 10 rfl ?_
     refine tkk 11 rfl ?_
     refine tkk 12 rfl ?_
     refine tkk 13 rfl ?_
     refine tkk 14 rfl ?_
     refine tkk 15 rfl ?_
     refine tkk 16 rfl ?_
     refine tkk 17 rfl ?_
     (try simp only [cl,Act.put])
     refine wpAnyH_done (by kernel_rfl) ?_ _
     refine NoPanic.normal ?_
     generalize w1.drew=w5 at *
     go_upto_region 2 with fail
     have HS:(w5.drew.cell? ⟨w.heap.size,0,none⟩=some (.int .i64 kd)/\w5.drew.cell? ⟨w.heap.size,1,none⟩=some (.slice A1 ws.length c1)/\w5.drew.cell? ⟨w.heap.size,2,none⟩=some (.slice (some ad2) 3 c2)/\w5.drew.cell? ⟨w.heap.size,3,none⟩=some (.slice A3 ks.length c3)/\w5.drew.cell? ⟨w.heap.size,4,none⟩=some (.int .i64 ps)/\w5.drew.cell? ad2=some (.int .i64 y0)/\w5.drew.cell? ⟨ad2.block,ad2.off+1,none⟩=some (.int .i64 y1)/\w5.drew.cell? ⟨ad2.block,ad2.off+2,none⟩=some (.int .i64 y2))/\Below w.heap.size w w5.drew:=⟨hHeld.1,hHeld.2.drew⟩
     clear hHeld
     refine wp_region_noPanic ?_
     refine wp_region_held_drew (S:=(fun w'=>(w'.cell? ⟨w.heap.size,0,none⟩=some (.int .i64 kd)/\w'.cell? ⟨w.heap.size,1,none⟩=some (.slice A1 ws.length c1)/\w'.cell? ⟨w.heap.size,2,none⟩=some (.slice (some ad2) 3 c2)/\w'.cell? ⟨w.heap.size,3,none⟩=some (.slice A3 ks.length c3)/\w'.cell? ⟨w.heap.size,4,none⟩=some (.int .i64 ps)/\w'.cell? ad2=some (.int .i64 y0)/\w'.cell? ⟨ad2.block,ad2.off+1,none⟩=some (.int .i64 y1)/\w'.cell? ⟨ad2.block,ad2.off+2,none⟩=some (.int .i64 y2))/\Below w.heap.size w w')) (by kernel_rfl) HS (fun hHeld=>?_)
     clear HS
     refine tkk 0 rfl ?_
     refine tkk 1 rfl ?_
     refine tkk 2 rfl ?_
     refine tkk 3 rfl ?_
     refine tkk 4 rfl ?_
     refine tkk 5 rfl ?_
     (try simp only [cl,Act.put])
     refine rd 6 rfl fun K hK=>?_
     go_simp
     (first
      | (go_at_call 133;(with_reducible refine (FR1.out _ (Za (by with_reducible assumption))).mono ?_);rintro e6 w6 ⟨rfl,hb⟩)
      | (go_at_call 94;(with_reducible refine (Zi _ _ _).mono ?_);rintro e7 w7 ⟨⟨u2,rfl,hT2⟩,hb⟩)
      | (go_at_call 94;(with_reducible refine (Zf _ _ _).mono ?_);rintro e7 w7 ⟨⟨u2,rfl,hT2⟩,hb⟩)
      | (go_at_call 96;(with_reducible refine (AL1.out _ (Za (by with_reducible assumption)) _ hT2).mono ?_);rintro e8 w8 ⟨rfl,hb⟩)
      | (go_at_call 134;(with_reducible refine (IN1.out _ (Za (by with_reducible assumption))).mono ?_);rintro e9 w9 ⟨rfl,hb⟩))
     go_wp2_with fail
     refine hK.out _ _ (STB.out _ _ hb (by with_reducible assumption)) (fun hH2=>?_)
     clear hK K hHeld hb;have hHeld:=hH2;clear hH2
     (try simp only [cl,Act.put])
     refine tkk 7 rfl ?_
     refine tkk 8 rfl ?_
     refine tkk 9 rfl ?_
     refine txk 10 rfl ?_
     refine txk 11 rfl ?_
     refine txk 12 rfl ?_
     refine txk 13 rfl ?_
     refine txk 14 rfl ?_
     refine txk 15 rfl ?_
     refine tkk 16 rfl ?_
     refine tkk 17 rfl ?_
     refine txk 18 rfl ?_
     refine txk 19 rfl ?_
     refine txk 20 rfl ?_
     refine txk 21 rfl ?_
     refine tkk 22 rfl ?_
     refine tkk 23 rfl ?_
     (try simp only [cl,Act.put])
     refine wpAnyH_done (by kernel_rfl) ?_ _
     refine NoPanic.normal ?_
     have B9:=zh (Za hHeld)
     clear hHeld
     go_wp2_with fail
     go_ret
     exact ⟨rfl,B9.out⟩
    ·cases L
     ·go_enter Tryz.func98,Tryz.ntmps98
      go_upto_region 1 with fail
      generalize (w.alloc (.cells #[.int .i64 kd,.slice A1 ws.length c1,.slice (some ad2) 3 c2,.slice A3 ks.length c3,.int .i64 ps] 27))=w1 at *
      have HS:(w1.drew.cell? ⟨w.heap.size,0,none⟩=some (.int .i64 kd)/\w1.drew.cell? ⟨w.heap.size,1,none⟩=some (.slice A1 ws.length c1)/\w1.drew.cell? ⟨w.heap.size,2,none⟩=some (.slice (some ad2) 3 c2)/\w1.drew.cell? ⟨w.heap.size,3,none⟩=some (.slice A3 ks.length c3)/\w1.drew.cell? ⟨w.heap.size,4,none⟩=some (.int .i64 ps)/\w1.drew.cell? ad2=some (.int .i64 y0)/\w1.drew.cell? ⟨ad2.block,ad2.off+1,none⟩=some (.int .i64 y1)/\w1.drew.cell? ⟨ad2.block,ad2.off+2,none⟩=some (.int .i64 y2))/\Below w.heap.size w w1.drew:=⟨HS1.1,HS1.2.drew⟩
      clear HS1
      refine wp_region_noPanic ?_
      refine wp_region_held_drew (S:=(fun w'=>(w'.cell? ⟨w.heap.size,0,none⟩=some (.int .i64 kd)/\w'.cell? ⟨w.heap.size,1,none⟩=some (.slice A1 ws.length c1)/\w'.cell? ⟨w.heap.size,2,none⟩=some (.slice (some ad2) 3 c2)/\w'.cell? ⟨w.heap.size,3,none⟩=some (.slice A3 ks.length c3)/\w'.cell? ⟨w.heap.size,4,none⟩=some (.int .i64 ps)/\w'.cell? ad2=some (.int .i64 y0)/\w'.cell? ⟨ad2.block,ad2.off+1,none⟩=some (.int .i64 y1)/\w'.cell? ⟨ad2.block,ad2.off+2,none⟩=some (.int .i64 y2))/\Below w.heap.size w w')) (by kernel_rfl) HS (fun hHeld=>?_)
      clear HS
      refine tkk 0 rfl ?_
      refine tkk 1 rfl ?_
      refine tkk 2 rfl ?_
      refine tkk 3 rfl ?_
      refine tkk 4 rfl ?_
      refine tkk 5 rfl ?_
      refine tkk 6 rfl ?_
      refine tkk 7 rfl ?_
      refine tkk 8 rfl ?_
      refine tkk 9 rfl ?_
      refine tkk 10 rfl ?_
      refine tkk 11 rfl ?_
      refine tkk 12 rfl ?_
      refine tkk 13 rfl ?_
      refine tkk 14 rfl ?_
      refine tkk 15 rfl ?_
      refine tkk 16 rfl ?_
      refine tkk 17 rfl ?_
      (try simp only [cl,Act.put])
      refine wpAnyH_done (by kernel_rfl) ?_ _
      refine NoPanic.normal ?_
      generalize w1.drew=w5 at *
      go_upto_region 2 with fail
      have HS:(w5.drew.cell? ⟨w.heap.size,0,none⟩=some (.int .i64 kd)/\w5.drew.cell? ⟨w.heap.size,1,none⟩=some (.slice A1 ws.length c1)/\w5.drew.cell? ⟨w.heap.size,2,none⟩=some (.slice (some ad2) 3 c2)/\w5.drew.cell? ⟨w.heap.size,3,none⟩=some (.slice A3 ks.length c3)/\w5.drew.cell? ⟨w.heap.size,4,none⟩=some (.int .i64 ps)/\w5.drew.cell? ad2=some (.int .i64 y0)/\w5.drew.cell? ⟨ad2.block,ad2.off+1,none⟩=some (.int .i64 y1)/\w5.drew.cell? ⟨ad2.block,ad2.off+2,none⟩=some (.int .i64 y2))/\Below w.heap.size w w5.drew:=⟨hHeld.1,hHeld.2.drew⟩
      clear hHeld
      refine wp_region_noPanic ?_
      refine wp_region_held_drew (S:=(fun w'=>(w'.cell? ⟨w.heap.size,0,none⟩=some (.int .i64 kd)/\w'.cell? ⟨w.heap.size,1,none⟩=some (.slice A1 ws.length c1)/\w'.cell? ⟨w.heap.size,2,none⟩=some (.slice (some ad2) 3 c2)/\w'.cell? ⟨w.heap.size,3,none⟩=some (.slice A3 ks.length c3)/\w'.cell? ⟨w.heap.size,4,none⟩=some (.int .i64 ps)/\w'.cell? ad2=some (.int .i64 y0)/\w'.cell? ⟨ad2.block,ad2.off+1,none⟩=some (.int .i64 y1)/\w'.cell? ⟨ad2.block,ad2.off+2,none⟩=some (.int .i64 y2))/\Below w.heap.size w w')) (by kernel_rfl) HS (fun hHeld=>?_)
      clear HS
      refine tkk 0 rfl ?_
      refine tkk 1 rfl ?_
      refine tkk 2 rfl ?_
      refine tkk 3 rfl ?_
      refine tkk 4 rfl ?_
      refine tkk 5 rfl ?_
      (try simp only [cl,Act.put])
      refine rd 6 rfl fun K hK=>?_
      go_simp
      (first
       | (go_at_call 133;(with_reducible refine (FR1.out _ (Za (by with_reducible assumption))).mono ?_);rintro e6 w6 ⟨rfl,hb⟩)
       | (go_at_call 94;(with_reducible refine (Zi _ _ _).mono ?_);rintro e7 w7 ⟨⟨u2,rfl,hT2⟩,hb⟩)
       | (go_at_call 94;(with_reducible refine (Zf _ _ _).mono ?_);rintro e7 w7 ⟨⟨u2,rfl,hT2⟩,hb⟩)
       | (go_at_call 96;(with_reducible refine (AL1.out _ (Za (by with_reducible assumption)) _ hT2).mono ?_);rintro e8 w8 ⟨rfl,hb⟩)
       | (go_at_call 134;(with_reducible refine (IN1.out _ (Za (by with_reducible assumption))).mono ?_);rintro e9 w9 ⟨rfl,hb⟩))
      go_wp2_with fail
      refine hK.out _ _ (STB.out _ _ hb (by with_reducible assumption)) (fun hH2=>?_)
      clear hK K hHeld hb;have hHeld:=hH2;clear hH2
      (try simp only [cl,Act.put])
      refine tkk 7 rfl ?_
      refine tkk 8 rfl ?_
      refine tkk 9 rfl ?_
      refine tkk 10 rfl ?_
      refine tkk 11 rfl ?_
      refine tkk 12 rfl ?_
      (try simp only [cl,Act.put])
      refine rd 13 rfl fun K hK=>?_
      go_simp
      refine hK.out _ _ ?_ (fun hH2=>?_)
      ·exact STB.out _ _ (below_alloc1 _ _) (by with_reducible assumption)
      clear hK K hHeld;have hHeld:=hH2;clear hH2
      (try simp only [cl,Act.put])
      refine rd 14 rfl fun K hK=>?_
      go_simp
      (first
       | (go_at_call 133;(with_reducible refine (FR1.out _ (Za (by with_reducible assumption))).mono ?_);rintro e6 w6 ⟨rfl,hb⟩)
       | (go_at_call 94;(with_reducible refine (Zi _ _ _).mono ?_);rintro e7 w7 ⟨⟨u2,rfl,hT2⟩,hb⟩)
       | (go_at_call 94;(with_reducible refine (Zf _ _ _).mono ?_);rintro e7 w7 ⟨⟨u2,rfl,hT2⟩,hb⟩)
       | (go_at_call 96;(with_reducible refine (AL1.out _ (Za (by with_reducible assumption)) _ hT2).mono ?_);rintro e8 w8 ⟨rfl,hb⟩)
       | (go_at_call 134;(with_reducible refine (IN1.out _ (Za (by with_reducible assumption))).mono ?_);rintro e9 w9 ⟨rfl,hb⟩))
      go_wp2_with fail
      refine hK.out _ _ (STB.out _ _ hb (by with_reducible assumption)) (fun hH2=>?_)
      clear hK K hHeld hb;have hHeld:=hH2;clear hH2
      (try simp only [cl,Act.put])
      refine rd 15 rfl fun K hK=>?_
      go_simp
      (first
       | (go_at_call 133;(with_reducible refine (FR1.out _ (Za (by with_reducible assumption))).mono ?_);rintro e6 w6 ⟨rfl,hb⟩)
       | (go_at_call 94;(with_reducible refine (Zi _ _ _).mono ?_);rintro e7 w7 ⟨⟨u2,rfl,hT2⟩,hb⟩)
       | (go_at_call 94;(with_reducible refine (Zf _ _ _).mono ?_);rintro e7 w7 ⟨⟨u2,rfl,hT2⟩,hb⟩)
       | (go_at_call 96;(with_reducible refine (AL1.out _ (Za (by with_reducible assumption)) _ hT2).mono ?_);rintro e8 w8 ⟨rfl,hb⟩)
       | (go_at_call 134;(with_reducible refine (IN1.out _ (Za (by with_reducible assumption))).mono ?_);rintro e9 w9 ⟨rfl,hb⟩))
      go_wp2_with fail
      refine hK.out _ _ (STB.out _ _ hb (by with_reducible assumption)) (fun hH2=>?_)
      clear hK K hHeld hb;have hHeld:=hH2;clear hH2
      (try simp only [cl,Act.put])
      refine tkk 16 rfl ?_
      refine tkk 17 rfl ?_
      refine txk 18 rfl ?_
      refine txk 19 rfl ?_
      refine txk 20 rfl ?_
      refine txk 21 rfl ?_
      refine tkk 22 rfl ?_
      refine tkk 23 rfl ?_
      (try simp only [cl,Act.put])
      refine wpAnyH_done (by kernel_rfl) ?_ _
      refine NoPanic.normal ?_
      have B9:=zh (Za hHeld)
      clear hHeld
      go_wp2_with fail
      go_ret
      exact ⟨rfl,B9.out⟩
     ·cases I
      ·go_enter Tryz.func98,Tryz.ntmps98
       go_upto_region 1 with fail
       generalize (w.alloc (.cells #[.int .i64 kd,.slice A1 ws.length c1,.slice (some ad2) 3 c2,.slice A3 ks.length c3,.int .i64 ps] 27))=w1 at *
       have HS:(w1.drew.cell? ⟨w.heap.size,0,none⟩=some (.int .i64 kd)/\w1.drew.cell? ⟨w.heap.size,1,none⟩=some (.slice A1 ws.length c1)/\w1.drew.cell? ⟨w.heap.size,2,none⟩=some (.slice (some ad2) 3 c2)/\w1.drew.cell? ⟨w.heap.size,3,none⟩=some (.slice A3 ks.length c3)/\w1.drew.cell? ⟨w.heap.size,4,none⟩=some (.int .i64 ps)/\w1.drew.cell? ad2=some (.int .i64 y0)/\w1.drew.cell? ⟨ad2.block,ad2.off+1,none⟩=some (.int .i64 y1)/\w1.drew.cell? ⟨ad2.block,ad2.off+2,none⟩=some (.int .i64 y2))/\Below w.heap.size w w1.drew:=⟨HS1.1,HS1.2.drew⟩
       clear HS1
       refine wp_region_noPanic ?_
       refine wp_region_held_drew (S:=(fun w'=>(w'.cell? ⟨w.heap.size,0,none⟩=some (.int .i64 kd)/\w'.cell? ⟨w.heap.size,1,none⟩=some (.slice A1 ws.length c1)/\w'.cell? ⟨w.heap.size,2,none⟩=some (.slice (some ad2) 3 c2)/\w'.cell? ⟨w.heap.size,3,none⟩=some (.slice A3 ks.length c3)/\w'.cell? ⟨w.heap.size,4,none⟩=some (.int .i64 ps)/\w'.cell? ad2=some (.int .i64 y0)/\w'.cell? ⟨ad2.block,ad2.off+1,none⟩=some (.int .i64 y1)/\w'.cell? ⟨ad2.block,ad2.off+2,none⟩=some (.int .i64 y2))/\Below w.heap.size w w')) (by kernel_rfl) HS (fun hHeld=>?_)
       clear HS
       refine tkk 0 rfl ?_
       refine tkk 1 rfl ?_
       refine tkk 2 rfl ?_
       refine tkk 3 rfl ?_
       refine tkk 4 rfl ?_
       refine tkk 5 rfl ?_
       refine tkk 6 rfl ?_
       refine tkk 7 rfl ?_
       refine tkk 8 rfl ?_
       refine tkk 9 rfl ?_
       refine tkk 10 rfl ?_
       refine tkk 11 rfl ?_
       refine tkk 12 rfl ?_
       refine tkk 13 rfl ?_
       refine tkk 14 rfl ?_
       refine tkk 15 rfl ?_
       refine tkk 16 rfl ?_
       refine tkk 17 rfl ?_
       (try simp only [cl,Act.put])
       refine wpAnyH_done (by kernel_rfl) ?_ _
       refine NoPanic.normal ?_
       generalize w1.drew=w5 at *
       go_upto_region 2 with fail
       have HS:(w5.drew.cell? ⟨w.heap.size,0,none⟩=some (.int .i64 kd)/\w5.drew.cell? ⟨w.heap.size,1,none⟩=some (.slice A1 ws.length c1)/\w5.drew.cell? ⟨w.heap.size,2,none⟩=some (.slice (some ad2) 3 c2)/\w5.drew.cell? ⟨w.heap.size,3,none⟩=some (.slice A3 ks.length c3)/\w5.drew.cell? ⟨w.heap.size,4,none⟩=some (.int .i64 ps)/\w5.drew.cell? ad2=some (.int .i64 y0)/\w5.drew.cell? ⟨ad2.block,ad2.off+1,none⟩=some (.int .i64 y1)/\w5.drew.cell? ⟨ad2.block,ad2.off+2,none⟩=some (.int .i64 y2))/\Below w.heap.size w w5.drew:=⟨hHeld.1,hHeld.2.drew⟩
       clear hHeld
       refine wp_region_noPanic ?_
       refine wp_region_held_drew (S:=(fun w'=>(w'.cell? ⟨w.heap.size,0,none⟩=some (.int .i64 kd)/\w'.cell? ⟨w.heap.size,1,none⟩=some (.slice A1 ws.length c1)/\w'.cell? ⟨w.heap.size,2,none⟩=some (.slice (some ad2) 3 c2)/\w'.cell? ⟨w.heap.size,3,none⟩=some (.slice A3 ks.length c3)/\w'.cell? ⟨w.heap.size,4,none⟩=some (.int .i64 ps)/\w'.cell? ad2=some (.int .i64 y0)/\w'.cell? ⟨ad2.block,ad2.off+1,none⟩=some (.int .i64 y1)/\w'.cell? ⟨ad2.block,ad2.off+2,none⟩=some (.int .i64 y2))/\Below w.heap.size w w')) (by kernel_rfl) HS (fun hHeld=>?_)
       clear HS
       refine tkk 0 rfl ?_
       refine tkk 1 rfl ?_
       refine tkk 2 rfl ?_
       refine tkk 3 rfl ?_
       refine tkk 4 rfl ?_
       refine tkk 5 rfl ?_
       (try simp only [cl,Act.put])
       refine rd 6 rfl fun K hK=>?_
       go_simp
       (first
        | (go_at_call 133;(with_reducible refine (FR1.out _ (Za (by with_reducible assumption))).mono ?_);rintro e6 w6 ⟨rfl,hb⟩)
        | (go_at_call 94;(with_reducible refine (Zi _ _ _).mono ?_);rintro e7 w7 ⟨⟨u2,rfl,hT2⟩,hb⟩)
        | (go_at_call 94;(with_reducible refine (Zf _ _ _).mono ?_);rintro e7 w7 ⟨⟨u2,rfl,hT2⟩,hb⟩)
        | (go_at_call 96;(with_reducible refine (AL1.out _ (Za (by with_reducible assumption)) _ hT2).mono ?_);rintro e8 w8 ⟨rfl,hb⟩)
        | (go_at_call 134;(with_reducible refine (IN1.out _ (Za (by with_reducible assumption))).mono ?_);rintro e9 w9 ⟨rfl,hb⟩))
       go_wp2_with fail
       refine hK.out _ _ (STB.out _ _ hb (by with_reducible assumption)) (fun hH2=>?_)
       clear hK K hHeld hb;have hHeld:=hH2;clear hH2
       (try simp only [cl,Act.put])
       refine tkk 7 rfl ?_
       refine tkk 8 rfl ?_
       refine tkk 9 rfl ?_
       refine tkk 10 rfl ?_
       refine tkk 11 rfl ?_
       refine tkk 12 rfl ?_
       (try simp only [cl,Act.put])
       refine rd 13 rfl fun K hK=>?_
       go_simp
       refine hK.out _ _ ?_ (fun hH2=>?_)
       ·exact STB.out _ _ (below_alloc1 _ _) (by with_reducible assumption)
       clear hK K hHeld;have hHeld:=hH2;clear hH2
       (try simp only [cl,Act.put])
       refine rd 14 rfl fun K hK=>?_
       go_simp
       (first
        | (go_at_call 133;(with_reducible refine (FR1.out _ (Za (by with_reducible assumption))).mono ?_);rintro e6 w6 ⟨rfl,hb⟩)
        | (go_at_call 94;(with_reducible refine (Zi _ _ _).mono ?_);rintro e7 w7 ⟨⟨u2,rfl,hT2⟩,hb⟩)
        | (go_at_call 94;(with_reducible refine (Zf _ _ _).mono ?_);rintro e7 w7 ⟨⟨u2,rfl,hT2⟩,hb⟩)
        | (go_at_call 96;(with_reducible refine (AL1.out _ (Za (by with_reducible assumption)) _ hT2).mono ?_);rintro e8 w8 ⟨rfl,hb⟩)
        | (go_at_call 134;(with_reducible refine (IN1.out _ (Za (by with_reducible assumption))).mono ?_);rintro e9 w9 ⟨rfl,hb⟩))
       go_wp2_with fail
       refine hK.out _ _ (STB.out _ _ hb (by with_reducible assumption)) (fun hH2=>?_)
       clear hK K hHeld hb;have hHeld:=hH2;clear hH2
       (try simp only [cl,Act.put])
       refine rd 15 rfl fun K hK=>?_
       go_simp
       (first
        | (go_at_call 133;(with_reducible refine (FR1.out _ (Za (by with_reducible assumption))).mono ?_);rintro e6 w6 ⟨rfl,hb⟩)
        | (go_at_call 94;(with_reducible refine (Zi _ _ _).mono ?_);rintro e7 w7 ⟨⟨u2,rfl,hT2⟩,hb⟩)
        | (go_at_call 94;(with_reducible refine (Zf _ _ _).mono ?_);rintro e7 w7 ⟨⟨u2,rfl,hT2⟩,hb⟩)
        | (go_at_call 96;(with_reducible refine (AL1.out _ (Za (by with_reducible assumption)) _ hT2).mono ?_);rintro e8 w8 ⟨rfl,hb⟩)
        | (go_at_call 134;(with_reducible refine (IN1.out _ (Za (by with_reducible assumption))).mono ?_);rintro e9 w9 ⟨rfl,hb⟩))
       go_wp2_with fail
       refine hK.out _ _ (STB.out _ _ hb (by with_reducible assumption)) (fun hH2=>?_)
       clear hK K hHeld hb;have hHeld:=hH2;clear hH2
       (try simp only [cl,Act.put])
       refine tkk 16 rfl ?_
       refine tkk 17 rfl ?_
       refine tkk 18 rfl ?_
       refine tkk 19 rfl ?_
       refine tkk 20 rfl ?_
       (try simp only [cl,Act.put])
       refine rd 21 rfl fun K hK=>?_
       go_simp
       (first
        | (go_at_call 133;(with_reducible refine (FR1.out _ (Za (by with_reducible assumption))).mono ?_);rintro e6 w6 ⟨rfl,hb⟩)
        | (go_at_call 94;(with_reducible refine (Zi _ _ _).mono ?_);rintro e7 w7 ⟨⟨u2,rfl,hT2⟩,hb⟩)
        | (go_at_call 94;(with_reducible refine (Zf _ _ _).mono ?_);rintro e7 w7 ⟨⟨u2,rfl,hT2⟩,hb⟩)
        | (go_at_call 96;(with_reducible refine (AL1.out _ (Za (by with_reducible assumption)) _ hT2).mono ?_);rintro e8 w8 ⟨rfl,hb⟩)
        | (go_at_call 134;(with_reducible refine (IN1.out _ (Za (by with_reducible assumption))).mono ?_);rintro e9 w9 ⟨rfl,hb⟩))
       go_wp2_with fail
       refine hK.out _ _ (STB.out _ _ hb (by with_reducible assumption)) (fun hH2=>?_)
       clear hK K hHeld hb;have hHeld:=hH2;clear hH2
       (try simp only [cl,Act.put])
       refine tkk 22 rfl ?_
       refine tkk 23 rfl ?_
       (try simp only [cl,Act.put])
       refine wpAnyH_done (by kernel_rfl) ?_ _
       refine NoPanic.normal ?_
       have B9:=zh (Za hHeld)
       clear hHeld
       go_wp2_with fail
       go_ret
       exact ⟨rfl,B9.out⟩
      ·go_enter Tryz.func98,Tryz.ntmps98
       go_upto_region 1 with fail
       generalize (w.alloc (.cells #[.int .i64 kd,.slice A1 ws.length c1,.slice (some ad2) 3 c2,.slice A3 ks.length c3,.int .i64 ps] 27))=w1 at *
       have HS:(w1.drew.cell? ⟨w.heap.size,0,none⟩=some (.int .i64 kd)/\w1.drew.cell? ⟨w.heap.size,1,none⟩=some (.slice A1 ws.length c1)/\w1.drew.cell? ⟨w.heap.size,2,none⟩=some (.slice (some ad2) 3 c2)/\w1.drew.cell? ⟨w.heap.size,3,none⟩=some (.slice A3 ks.length c3)/\w1.drew.cell? ⟨w.heap.size,4,none⟩=some (.int .i64 ps)/\w1.drew.cell? ad2=some (.int .i64 y0)/\w1.drew.cell? ⟨ad2.block,ad2.off+1,none⟩=some (.int .i64 y1)/\w1.drew.cell? ⟨ad2.block,ad2.off+2,none⟩=some (.int .i64 y2))/\Below w.heap.size w w1.drew:=⟨HS1.1,HS1.2.drew⟩
       clear HS1
       refine wp_region_noPanic ?_
       refine wp_region_held_drew (S:=(fun w'=>(w'.cell? ⟨w.heap.size,0,none⟩=some (.int .i64 kd)/\w'.cell? ⟨w.heap.size,1,none⟩=some (.slice A1 ws.length c1)/\w'.cell? ⟨w.heap.size,2,none⟩=some (.slice (some ad2) 3 c2)/\w'.cell? ⟨w.heap.size,3,none⟩=some (.slice A3 ks.length c3)/\w'.cell? ⟨w.heap.size,4,none⟩=some (.int .i64 ps)/\w'.cell? ad2=some (.int .i64 y0)/\w'.cell? ⟨ad2.block,ad2.off+1,none⟩=some (.int .i64 y1)/\w'.cell? ⟨ad2.block,ad2.off+2,none⟩=some (.int .i64 y2))/\Below w.heap.size w w')) (by kernel_rfl) HS (fun hHeld=>?_)
       clear HS
       refine tkk 0 rfl ?_
       refine tkk 1 rfl ?_
       refine tkk 2 rfl ?_
       refine tkk 3 rfl ?_
       refine tkk 4 rfl ?_
       refine tkk 5 rfl ?_
       refine tkk 6 rfl ?_
       refine tkk 7 rfl ?_
       refine tkk 8 rfl ?_
       refine tkk 9 rfl ?_
       refine tkk 10 rfl ?_
       refine tkk 11 rfl ?_
       refine tkk 12 rfl ?_
       refine tkk 13 rfl ?_
       refine tkk 14 rfl ?_
       refine tkk 15 rfl ?_
       refine tkk 16 rfl ?_
       refine tkk 17 rfl ?_
       (try simp only [cl,Act.put])
       refine wpAnyH_done (by kernel_rfl) ?_ _
       refine NoPanic.normal ?_
       generalize w1.drew=w5 at *
       go_upto_region 2 with fail
       have HS:(w5.drew.cell? ⟨w.heap.size,0,none⟩=some (.int .i64 kd)/\w5.drew.cell? ⟨w.heap.size,1,none⟩=some (.slice A1 ws.length c1)/\w5.drew.cell? ⟨w.heap.size,2,none⟩=some (.slice (some ad2) 3 c2)/\w5.drew.cell? ⟨w.heap.size,3,none⟩=some (.slice A3 ks.length c3)/\w5.drew.cell? ⟨w.heap.size,4,none⟩=some (.int .i64 ps)/\w5.drew.cell? ad2=some (.int .i64 y0)/\w5.drew.cell? ⟨ad2.block,ad2.off+1,none⟩=some (.int .i64 y1)/\w5.drew.cell? ⟨ad2.block,ad2.off+2,none⟩=some (.int .i64 y2))/\Below w.heap.size w w5.drew:=⟨hHeld.1,hHeld.2.drew⟩
       clear hHeld
       refine wp_region_noPanic ?_
       refine wp_region_held_drew (S:=(fun w'=>(w'.cell? ⟨w.heap.size,0,none⟩=some (.int .i64 kd)/\w'.cell? ⟨w.heap.size,1,none⟩=some (.slice A1 ws.length c1)/\w'.cell? ⟨w.heap.size,2,none⟩=some (.slice (some ad2) 3 c2)/\w'.cell? ⟨w.heap.size,3,none⟩=some (.slice A3 ks.length c3)/\w'.cell? ⟨w.heap.size,4,none⟩=some (.int .i64 ps)/\w'.cell? ad2=some (.int .i64 y0)/\w'.cell? ⟨ad2.block,ad2.off+1,none⟩=some (.int .i64 y1)/\w'.cell? ⟨ad2.block,ad2.off+2,none⟩=some (.int .i64 y2))/\Below w.heap.size w w')) (by kernel_rfl) HS (fun hHeld=>?_)
       clear HS
       refine tkk 0 rfl ?_
       refine tkk 1 rfl ?_
       refine tkk 2 rfl ?_
       refine tkk 3 rfl ?_
       refine tkk 4 rfl ?_
       refine tkk 5 rfl ?_
       (try simp only [cl,Act.put])
       refine rd 6 rfl fun K hK=>?_
       go_simp
       (first
        | (go_at_call 133;(with_reducible refine (FR1.out _ (Za (by with_reducible assumption))).mono ?_);rintro e6 w6 ⟨rfl,hb⟩)
        | (go_at_call 94;(with_reducible refine (Zi _ _ _).mono ?_);rintro e7 w7 ⟨⟨u2,rfl,hT2⟩,hb⟩)
        | (go_at_call 94;(with_reducible refine (Zf _ _ _).mono ?_);rintro e7 w7 ⟨⟨u2,rfl,hT2⟩,hb⟩)
        | (go_at_call 96;(with_reducible refine (AL1.out _ (Za (by with_reducible assumption)) _ hT2).mono ?_);rintro e8 w8 ⟨rfl,hb⟩)
        | (go_at_call 134;(with_reducible refine (IN1.out _ (Za (by with_reducible assumption))).mono ?_);rintro e9 w9 ⟨rfl,hb⟩))
       go_wp2_with fail
       refine hK.out _ _ (STB.out _ _ hb (by with_reducible assumption)) (fun hH2=>?_)
       clear hK K hHeld hb;have hHeld:=hH2;clear hH2
       (try simp only [cl,Act.put])
       refine tkk 7 rfl ?_
       refine tkk 8 rfl ?_
       refine tkk 9 rfl ?_
       refine tkk 10 rfl ?_
       refine tkk 11 rfl ?_
       refine tkk 12 rfl ?_
       (try simp only [cl,Act.put])
       refine rd 13 rfl fun K hK=>?_
       go_simp
       refine hK.out _ _ ?_ (fun hH2=>?_)
       ·exact STB.out _ _ (below_alloc1 _ _) (by with_reducible assumption)
       clear hK K hHeld;have hHeld:=hH2;clear hH2
       (try simp only [cl,Act.put])
       refine rd 14 rfl fun K hK=>?_
       go_simp
       (first
        | (go_at_call 133;(with_reducible refine (FR1.out _ (Za (by with_reducible assumption))).mono ?_);rintro e6 w6 ⟨rfl,hb⟩)
        | (go_at_call 94;(with_reducible refine (Zi _ _ _).mono ?_);rintro e7 w7 ⟨⟨u2,rfl,hT2⟩,hb⟩)
        | (go_at_call 94;(with_reducible refine (Zf _ _ _).mono ?_);rintro e7 w7 ⟨⟨u2,rfl,hT2⟩,hb⟩)
        | (go_at_call 96;(with_reducible refine (AL1.out _ (Za (by with_reducible assumption)) _ hT2).mono ?_);rintro e8 w8 ⟨rfl,hb⟩)
        | (go_at_call 134;(with_reducible refine (IN1.out _ (Za (by with_reducible assumption))).mono ?_);rintro e9 w9 ⟨rfl,hb⟩))
       go_wp2_with fail
       refine hK.out _ _ (STB.out _ _ hb (by with_reducible assumption)) (fun hH2=>?_)
       clear hK K hHeld hb;have hHeld:=hH2;clear hH2
       (try simp only [cl,Act.put])
       refine rd 15 rfl fun K hK=>?_
       go_simp
       (first
        | (go_at_call 133;(with_reducible refine (FR1.out _ (Za (by with_reducible assumption))).mono ?_);rintro e6 w6 ⟨rfl,hb⟩)
        | (go_at_call 94;(with_reducible refine (Zi _ _ _).mono ?_);rintro e7 w7 ⟨⟨u2,rfl,hT2⟩,hb⟩)
        | (go_at_call 94;(with_reducible refine (Zf _ _ _).mono ?_);rintro e7 w7 ⟨⟨u2,rfl,hT2⟩,hb⟩)
        | (go_at_call 96;(with_reducible refine (AL1.out _ (Za (by with_reducible assumption)) _ hT2).mono ?_);rintro e8 w8 ⟨rfl,hb⟩)
        | (go_at_call 134;(with_reducible refine (IN1.out _ (Za (by with_reducible assumption))).mono ?_);rintro e9 w9 ⟨rfl,hb⟩))
       go_wp2_with fail
       refine hK.out _ _ (STB.out _ _ hb (by with_reducible assumption)) (fun hH2=>?_)
       clear hK K hHeld hb;have hHeld:=hH2;clear hH2
       (try simp only [cl,Act.put])
       refine tkk 16 rfl ?_
       refine tkk 17 rfl ?_
       refine tkk 18 rfl ?_
       refine tkk 19 rfl ?_
       refine tkk 20 rfl ?_
       (try simp only [cl,Act.put])
       refine rd 21 rfl fun K hK=>?_
       go_simp
       (first
        | (go_at_call 133;(with_reducible refine (FR1.out _ (Za (by with_reducible assumption))).mono ?_);rintro e6 w6 ⟨rfl,hb⟩)
        | (go_at_call 94;(with_reducible refine (Zi _ _ _).mono ?_);rintro e7 w7 ⟨⟨u2,rfl,hT2⟩,hb⟩)
        | (go_at_call 94;(with_reducible refine (Zf _ _ _).mono ?_);rintro e7 w7 ⟨⟨u2,rfl,hT2⟩,hb⟩)
        | (go_at_call 96;(with_reducible refine (AL1.out _ (Za (by with_reducible assumption)) _ hT2).mono ?_);rintro e8 w8 ⟨rfl,hb⟩)
        | (go_at_call 134;(with_reducible refine (IN1.out _ (Za (by with_reducible assumption))).mono ?_);rintro e9 w9 ⟨rfl,hb⟩))
       go_wp2_with fail
       refine hK.out _ _ (STB.out _ _ hb (by with_reducible assumption)) (fun hH2=>?_)
       clear hK K hHeld hb;have hHeld:=hH2;clear hH2
       (try simp only [cl,Act.put])
       refine tkk 22 rfl ?_
       refine tkk 23 rfl ?_
       (try simp only [cl,Act.put])
       refine wpAnyH_done (by kernel_rfl) ?_ _
       refine NoPanic.normal ?_
       have B9:=zh (Za hHeld)
       clear hHeld
       go_wp2_with fail
       go_ret
       exact ⟨rfl,B9.out⟩
   ·rw [decide_eq_false q0]
    have q0':4<y0:=by omega
    go_enter Tryz.func98,Tryz.ntmps98
    go_upto_region 1 with fail
    generalize (w.alloc (.cells #[.int .i64 kd,.slice A1 ws.length c1,.slice (some ad2) 3 c2,.slice A3 ks.length c3,.int .i64 ps] 27))=w1 at *
    have HS:(w1.drew.cell? ⟨w.heap.size,0,none⟩=some (.int .i64 kd)/\w1.drew.cell? ⟨w.heap.size,1,none⟩=some (.slice A1 ws.length c1)/\w1.drew.cell? ⟨w.heap.size,2,none⟩=some (.slice (some ad2) 3 c2)/\w1.drew.cell? ⟨w.heap.size,3,none⟩=some (.slice A3 ks.length c3)/\w1.drew.cell? ⟨w.heap.size,4,none⟩=some (.int .i64 ps)/\w1.drew.cell? ad2=some (.int .i64 y0)/\w1.drew.cell? ⟨ad2.block,ad2.off+1,none⟩=some (.int .i64 y1)/\w1.drew.cell? ⟨ad2.block,ad2.off+2,none⟩=some (.int .i64 y2))/\Below w.heap.size w w1.drew:=⟨HS1.1,HS1.2.drew⟩
    clear HS1
    refine wp_region_noPanic ?_
    refine wp_region_held_drew (S:=(fun w'=>(w'.cell? ⟨w.heap.size,0,none⟩=some (.int .i64 kd)/\w'.cell? ⟨w.heap.size,1,none⟩=some (.slice A1 ws.length c1)/\w'.cell? ⟨w.heap.size,2,none⟩=some (.slice (some ad2) 3 c2)/\w'.cell? ⟨w.heap.size,3,none⟩=some (.slice A3 ks.length c3)/\w'.cell? ⟨w.heap.size,4,none⟩=some (.int .i64 ps)/\w'.cell? ad2=some (.int .i64 y0)/\w'.cell? ⟨ad2.block,ad2.off+1,none⟩=some (.int .i64 y1)/\w'.cell? ⟨ad2.block,ad2.off+2,none⟩=some (.int .i64 y2))/\Below w.heap.size w w')) (by kernel_rfl) HS (fun hHeld=>?_)
    clear HS
    refine tkk 0 rfl ?_
    refine tkk 1 rfl ?_
    refine tkk 2 rfl ?_
    refine tkk 3 rfl ?_
    refine tkk 4 rfl ?_
    refine tkk 5 rfl ?_
    refine tkk 6 rfl ?_
    refine tkk 7 rfl ?_
    refine tkk 8 rfl ?_
    refine tkk 9 rfl ?_
    refine tkk 10 rfl ?_
    refine tkk 11 rfl ?_
    refine tkk 12 rfl ?_
    refine tkk 13 rfl ?_
    refine tkk 14 rfl ?_
    refine tkk 15 rfl ?_
    refine tkk 16 rfl ?_
    refine tkk 17 rfl ?_
    (try simp only [cl,Act.put])
    refine wpAnyH_done (by kernel_rfl) ?_ _
    refine NoPanic.normal ?_
    generalize w1.drew=w5 at *
    go_upto_region 2 with fail
    have HS:(w5.drew.cell? ⟨w.heap.size,0,none⟩=some (.int .i64 kd)/\w5.drew.cell? ⟨w.heap.size,1,none⟩=some (.slice A1 ws.length c1)/\w5.drew.cell? ⟨w.heap.size,2,none⟩=some (.slice (some ad2) 3 c2)/\w5.drew.cell? ⟨w.heap.size,3,none⟩=some (.slice A3 ks.length c3)/\w5.drew.cell? ⟨w.heap.size,4,none⟩=some (.int .i64 ps)/\w5.drew.cell? ad2=some (.int .i64 y0)/\w5.drew.cell? ⟨ad2.block,ad2.off+1,none⟩=some (.int .i64 y1)/\w5.drew.cell? ⟨ad2.block,ad2.off+2,none⟩=some (.int .i64 y2))/\Below w.heap.size w w5.drew:=⟨hHeld.1,hHeld.2.drew⟩
    clear hHeld
    refine wp_region_noPanic ?_
    refine wp_region_held_drew (S:=(fun w'=>(w'.cell? ⟨w.heap.size,0,none⟩=some (.int .i64 kd)/\w'.cell? ⟨w.heap.size,1,none⟩=some (.slice A1 ws.length c1)/\w'.cell? ⟨w.heap.size,2,none⟩=some (.slice (some ad2) 3 c2)/\w'.cell? ⟨w.heap.size,3,none⟩=some (.slice A3 ks.length c3)/\w'.cell? ⟨w.heap.size,4,none⟩=some (.int .i64 ps)/\w'.cell? ad2=some (.int .i64 y0)/\w'.cell? ⟨ad2.block,ad2.off+1,none⟩=some (.int .i64 y1)/\w'.cell? ⟨ad2.block,ad2.off+2,none⟩=some (.int .i64 y2))/\Below w.heap.size w w')) (by kernel_rfl) HS (fun hHeld=>?_)
    clear HS
    refine tkk 0 rfl ?_
    refine tkk 1 rfl ?_
    refine tkk 2 rfl ?_
    refine txk 3 rfl ?_
    refine txk 4 rfl ?_
    refine txk 5 rfl ?_
    refine txk 6 rfl ?_
    refine txk 7 rfl ?_
    refine tkk 8 rfl ?_
    refine tkk 9 rfl ?_
    refine txk 10 rfl ?_
    refine txk 11 rfl ?_
    refine txk 12 rfl ?_
    refine txk 13 rfl ?_
    refine txk 14 rfl ?_
    refine txk 15 rfl ?_
    refine tkk 16 rfl ?_
    refine tkk 17 rfl ?_
    refine txk 18 rfl ?_
    refine txk 19 rfl ?_
    refine txk 20 rfl ?_
    refine txk 21 rfl ?_
    refine tkk 22 rfl ?_
    refine tkk 23 rfl ?_
    (try simp only [cl,Act.put])
    refine wpAnyH_done (by kernel_rfl) ?_ _
    refine NoPanic.normal ?_
    have B9:=zh (Za hHeld)
    clear hHeld
    go_wp2_with fail
    go_ret
    exact ⟨rfl,B9.out⟩
  ·by_cases q0:y0<=4
   ·rw [decide_eq_true q0]
    cases L
    ·go_enter Tryz.func98,Tryz.ntmps98
     go_upto_region 1 with fail
     generalize (w.alloc (.cells #[.int .i64 kd,.slice A1 ws.length c1,.slice (some ad2) 3 c2,.slice A3 ks.length c3,.int .i64 ps] 27))=w1 at *
     have HS:(w1.drew.cell? ⟨w.heap.size,0,none⟩=some (.int .i64 kd)/\w1.drew.cell? ⟨w.heap.size,1,none⟩=some (.slice A1 ws.length c1)/\w1.drew.cell? ⟨w.heap.size,2,none⟩=some (.slice (some ad2) 3 c2)/\w1.drew.cell? ⟨w.heap.size,3,none⟩=some (.slice A3 ks.length c3)/\w1.drew.cell? ⟨w.heap.size,4,none⟩=some (.int .i64 ps)/\w1.drew.cell? ad2=some (.int .i64 y0)/\w1.drew.cell? ⟨ad2.block,ad2.off+1,none⟩=some (.int .i64 y1)/\w1.drew.cell? ⟨ad2.block,ad2.off+2,none⟩=some (.int .i64 y2))/\Below w.heap.size w w1.drew:=⟨HS1.1,HS1.2.drew⟩
     clear HS1
     refine wp_region_noPanic ?_
     refine wp_region_held_drew (S:=(fun w'=>(w'.cell? ⟨w.heap.size,0,none⟩=some (.int .i64 kd)/\w'.cell? ⟨w.heap.size,1,none⟩=some (.slice A1 ws.length c1)/\w'.cell? ⟨w.heap.size,2,none⟩=some (.slice (some ad2) 3 c2)/\w'.cell? ⟨w.heap.size,3,none⟩=some (.slice A3 ks.length c3)/\w'.cell? ⟨w.heap.size,4,none⟩=some (.int .i64 ps)/\w'.cell? ad2=some (.int .i64 y0)/\w'.cell? ⟨ad2.block,ad2.off+1,none⟩=some (.int .i64 y1)/\w'.cell? ⟨ad2.block,ad2.off+2,none⟩=some (.int .i64 y2))/\Below w.heap.size w w')) (by kernel_rfl) HS (fun hHeld=>?_)
     clear HS
     refine tkk 0 rfl ?_
     refine tkk 1 rfl ?_
     refine tkk 2 rfl ?_
     refine tkk 3 rfl ?_
     refine tkk 4 rfl ?_
     refine tkk 5 rfl ?_
     refine tkk 6 rfl ?_
     refine tkk 7 rfl ?_
     refine tkk 8 rfl ?_
     refine tkk 9 rfl ?_
     refine tkk 10 rfl ?_
     refine tkk 11 rfl ?_
     refine tkk 12 rfl ?_
     refine tkk 13 rfl ?_
     refine tkk 14 rfl ?_
     refine tkk 15 rfl ?_
     refine tkk 16 rfl ?_
     refine tkk 17 rfl ?_
     (try simp only [cl,Act.put])
     refine wpAnyH_done (by kernel_rfl) ?_ _
     refine NoPanic.normal ?_
     generalize w1.drew=w5 at *
     go_upto_region 2 with fail
     have HS:(w5.drew.cell? ⟨w.heap.size,0,none⟩=some (.int .i64 kd)/\w5.drew.cell? ⟨w.heap.size,1,none⟩=some (.slice A1 ws.length c1)/\w5.drew.cell? ⟨w.heap.size,2,none⟩=some (.slice (some ad2) 3 c2)/\w5.drew.cell? ⟨w.heap.size,3,none⟩=some (.slice A3 ks.length c3)/\w5.drew.cell? ⟨w.heap.size,4,none⟩=some (.int .i64 ps)/\w5.drew.cell? ad2=some (.int .i64 y0)/\w5.drew.cell? ⟨ad2.block,ad2.off+1,none⟩=some (.int .i64 y1)/\w5.drew.cell? ⟨ad2.block,ad2.off+2,none⟩=some (.int .i64 y2))/\Below w.heap.size w w5.drew:=⟨hHeld.1,hHeld.2.drew⟩
     clear hHeld
     refine wp_region_noPanic ?_
     refine wp_region_held_drew (S:=(fun w'=>(w'.cell? ⟨w.heap.size,0,none⟩=some (.int .i64 kd)/\w'.cell? ⟨w.heap.size,1,none⟩=some (.slice A1 ws.length c1)/\w'.cell? ⟨w.heap.size,2,none⟩=some (.slice (some ad2) 3 c2)/\w'.cell? ⟨w.heap.size,3,none⟩=some (.slice A3 ks.length c3)/\w'.cell? ⟨w.heap.size,4,none⟩=some (.int .i64 ps)/\w'.cell? ad2=some (.int .i64 y0)/\w'.cell? ⟨ad2.block,ad2.off+1,none⟩=some (.int .i64 y1)/\w'.cell? ⟨ad2.block,ad2.off+2,none⟩=some (.int .i64 y2))/\Below w.heap.size w w')) (by kernel_rfl) HS (fun hHeld=>?_)
     clear HS
     refine tkk 0 rfl ?_
     refine tkk 1 rfl ?_
     refine tkk 2 rfl ?_
     refine tkk 3 rfl ?_
     refine tkk 4 rfl ?_
     refine txk 5 rfl ?_
     refine txk 6 rfl ?_
     refine tkk 7 rfl ?_
     refine tkk 8 rfl ?_
     refine tkk 9 rfl ?_
     refine tkk 10 rfl ?_
     refine tkk 11 rfl ?_
     refine tkk 12 rfl ?_
     (try simp only [cl,Act.put])
     refine rd 13 rfl fun K hK=>?_
     go_simp
     refine hK.out _ _ ?_ (fun hH2=>?_)
     ·exact STB.out _ _ (below_alloc1 _ _) (by with_reducible assumption)
     clear hK K hHeld;have hHeld:=hH2;clear hH2
     (try simp only [cl,Act.put])
     refine rd 14 rfl fun K hK=>?_
     go_simp
     (first
      | (go_at_call 133;(with_reducible refine (FR1.out _ (Za (by with_reducible assumption))).mono ?_);rintro e6 w6 ⟨rfl,hb⟩)
      | (go_at_call 94;(with_reducible refine (Zi _ _ _).mono ?_);rintro e7 w7 ⟨⟨u2,rfl,hT2⟩,hb⟩)
      | (go_at_call 94;(with_reducible refine (Zf _ _ _).mono ?_);rintro e7 w7 ⟨⟨u2,rfl,hT2⟩,hb⟩)
      | (go_at_call 96;(with_reducible refine (AL1.out _ (Za (by with_reducible assumption)) _ hT2).mono ?_);rintro e8 w8 ⟨rfl,hb⟩)
      | (go_at_call 134;(with_reducible refine (IN1.out _ (Za (by with_reducible assumption))).mono ?_);rintro e9 w9 ⟨rfl,hb⟩))
     go_wp2_with fail
     refine hK.out _ _ (STB.out _ _ hb (by with_reducible assumption)) (fun hH2=>?_)
     clear hK K hHeld hb;have hHeld:=hH2;clear hH2
     (try simp only [cl,Act.put])
     refine rd 15 rfl fun K hK=>?_
     go_simp
     (first
      | (go_at_call 133;(with_reducible refine (FR1.out _ (Za (by with_reducible assumption))).mono ?_);rintro e6 w6 ⟨rfl,hb⟩)
      | (go_at_call 94;(with_reducible refine (Zi _ _ _).mono ?_);rintro e7 w7 ⟨⟨u2,rfl,hT2⟩,hb⟩)
      | (go_at_call 94;(with_reducible refine (Zf _ _ _).mono ?_);rintro e7 w7 ⟨⟨u2,rfl,hT2⟩,hb⟩)
      | (go_at_call 96;(with_reducible refine (AL1.out _ (Za (by with_reducible assumption)) _ hT2).mono ?_);rintro e8 w8 ⟨rfl,hb⟩)
      | (go_at_call 134;(with_reducible refine (IN1.out _ (Za (by with_reducible assumption))).mono ?_);rintro e9 w9 ⟨rfl,hb⟩))
     go_wp2_with fail
     refine hK.out _ _ (STB.out _ _ hb (by with_reducible assumption)) (fun hH2=>?_)
     clear hK K hHeld hb;have hHeld:=hH2;clear hH2
     (try simp only [cl,Act.put])
     refine tkk 16 rfl ?_
     refine tkk 17 rfl ?_
     refine txk 18 rfl ?_
     refine txk 19 rfl ?_
     refine txk 20 rfl ?_
     refine txk 21 rfl ?_
     refine tkk 22 rfl ?_
     refine tkk 23 rfl ?_
     (try simp only [cl,Act.put])
     refine wpAnyH_done (by kernel_rfl) ?_ _
     refine NoPanic.normal ?_
     have B9:=zh (Za hHeld)
     clear hHeld
     go_wp2_with fail
     go_ret
     exact ⟨rfl,B9.out⟩
    ·cases I
     ·go_enter Tryz.func98,Tryz.ntmps98
      go_upto_region 1 with fail
      generalize (w.alloc (.cells #[.int .i64 kd,.slice A1 ws.length c1,.slice (some ad2) 3 c2,.slice A3 ks.length c3,.int .i64 ps] 27))=w1 at *
      have HS:(w1.drew.cell? ⟨w.heap.size,0,none⟩=some (.int .i64 kd)/\w1.drew.cell? ⟨w.heap.size,1,none⟩=some (.slice A1 ws.length c1)/\w1.drew.cell? ⟨w.heap.size,2,none⟩=some (.slice (some ad2) 3 c2)/\w1.drew.cell? ⟨w.heap.size,3,none⟩=some (.slice A3 ks.length c3)/\w1.drew.cell? ⟨w.heap.size,4,none⟩=some (.int .i64 ps)/\w1.drew.cell? ad2=some (.int .i64 y0)/\w1.drew.cell? ⟨ad2.block,ad2.off+1,none⟩=some (.int .i64 y1)/\w1.drew.cell? ⟨ad2.block,ad2.off+2,none⟩=some (.int .i64 y2))/\Below w.heap.size w w1.drew:=⟨HS1.1,HS1.2.drew⟩
      clear HS1
      refine wp_region_noPanic ?_
      refine wp_region_held_drew (S:=(fun w'=>(w'.cell? ⟨w.heap.size,0,none⟩=some (.int .i64 kd)/\w'.cell? ⟨w.heap.size,1,none⟩=some (.slice A1 ws.length c1)/\w'.cell? ⟨w.heap.size,2,none⟩=some (.slice (some ad2) 3 c2)/\w'.cell? ⟨w.heap.size,3,none⟩=some (.slice A3 ks.length c3)/\w'.cell? ⟨w.heap.size,4,none⟩=some (.int .i64 ps)/\w'.cell? ad2=some (.int .i64 y0)/\w'.cell? ⟨ad2.block,ad2.off+1,none⟩=some (.int .i64 y1)/\w'.cell? ⟨ad2.block,ad2.off+2,none⟩=some (.int .i64 y2))/\Below w.heap.size w w')) (by kernel_rfl) HS (fun hHeld=>?_)
      clear HS
      refine tkk 0 rfl ?_
      refine tkk 1 rfl ?_
      refine tkk 2 rfl ?_
      refine tkk 3 rfl ?_
      refine tkk 4 rfl ?_
      refine tkk 5 rfl ?_
      refine tkk 6 rfl ?_
      refine tkk 7 rfl ?_
      refine tkk 8 rfl ?_
      refine tkk 9 rfl ?_
      refine tkk 10 rfl ?_
      refine tkk 11 rfl ?_
      refine tkk 12 rfl ?_
      refine tkk 13 rfl ?_
      refine tkk 14 rfl ?_
      refine tkk 15 rfl ?_
      refine tkk 16 rfl ?_
      refine tkk 17 rfl ?_
      (try simp only [cl,Act.put])
      refine wpAnyH_done (by kernel_rfl) ?_ _
      refine NoPanic.normal ?_
      generalize w1.drew=w5 at *
      go_upto_region 2 with fail
      have HS:(w5.drew.cell? ⟨w.heap.size,0,none⟩=some (.int .i64 kd)/\w5.drew.cell? ⟨w.heap.size,1,none⟩=some (.slice A1 ws.length c1)/\w5.drew.cell? ⟨w.heap.size,2,none⟩=some (.slice (some ad2) 3 c2)/\w5.drew.cell? ⟨w.heap.size,3,none⟩=some (.slice A3 ks.length c3)/\w5.drew.cell? ⟨w.heap.size,4,none⟩=some (.int .i64 ps)/\w5.drew.cell? ad2=some (.int .i64 y0)/\w5.drew.cell? ⟨ad2.block,ad2.off+1,none⟩=some (.int .i64 y1)/\w5.drew.cell? ⟨ad2.block,ad2.off+2,none⟩=some (.int .i64 y2))/\Below w.heap.size w w5.drew:=⟨hHeld.1,hHeld.2.drew⟩
      clear hHeld
      refine wp_region_noPanic ?_
      refine wp_region_held_drew (S:=(fun w'=>(w'.cell? ⟨w.heap.size,0,none⟩=some (.int .i64 kd)/\w'.cell? ⟨w.heap.size,1,none⟩=some (.slice A1 ws.length c1)/\w'.cell? ⟨w.heap.size,2,none⟩=some (.slice (some ad2) 3 c2)/\w'.cell? ⟨w.heap.size,3,none⟩=some (.slice A3 ks.length c3)/\w'.cell? ⟨w.heap.size,4,none⟩=some (.int .i64 ps)/\w'.cell? ad2=some (.int .i64 y0)/\w'.cell? ⟨ad2.block,ad2.off+1,none⟩=some (.int .i64 y1)/\w'.cell? ⟨ad2.block,ad2.off+2,none⟩=some (.int .i64 y2))/\Below w.heap.size w w')) (by kernel_rfl) HS (fun hHeld=>?_)
      clear HS
      refine tkk 0 rfl ?_
      refine tkk 1 rfl ?_
      refine tkk 2 rfl ?_
      refine tkk 3 rfl ?_
      refine tkk 4 rfl ?_
      refine txk 5 rfl ?_
      refine txk 6 rfl ?_
      refine tkk 7 rfl ?_
      refine tkk 8 rfl ?_
      refine tkk 9 rfl ?_
      refine tkk 10 rfl ?_
      refine tkk 11 rfl ?_
      refine tkk 12 rfl ?_
      (try simp only [cl,Act.put])
      refine rd 13 rfl fun K hK=>?_
      go_simp
      refine hK.out _ _ ?_ (fun hH2=>?_)
      ·exact STB.out _ _ (below_alloc1 _ _) (by with_reducible assumption)
      clear hK K hHeld;have hHeld:=hH2;clear hH2
      (try simp only [cl,Act.put])
      refine rd 14 rfl fun K hK=>?_
      go_simp
      (first
       | (go_at_call 133;(with_reducible refine (FR1.out _ (Za (by with_reducible assumption))).mono ?_);rintro e6 w6 ⟨rfl,hb⟩)
       | (go_at_call 94;(with_reducible refine (Zi _ _ _).mono ?_);rintro e7 w7 ⟨⟨u2,rfl,hT2⟩,hb⟩)
       | (go_at_call 94;(with_reducible refine (Zf _ _ _).mono ?_);rintro e7 w7 ⟨⟨u2,rfl,hT2⟩,hb⟩)
       | (go_at_call 96;(with_reducible refine (AL1.out _ (Za (by with_reducible assumption)) _ hT2).mono ?_);rintro e8 w8 ⟨rfl,hb⟩)
       | (go_at_call 134;(with_reducible refine (IN1.out _ (Za (by with_reducible assumption))).mono ?_);rintro e9 w9 ⟨rfl,hb⟩))
      go_wp2_with fail
      refine hK.out _ _ (STB.out _ _ hb (by with_reducible assumption)) (fun hH2=>?_)
      clear hK K hHeld hb;have hHeld:=hH2;clear hH2
      (try simp only [cl,Act.put])
      refine rd 15 rfl fun K hK=>?_
      go_simp
      (first
       | (go_at_call 133;(with_reducible refine (FR1.out _ (Za (by with_reducible assumption))).mono ?_);rintro e6 w6 ⟨rfl,hb⟩)
       | (go_at_call 94;(with_reducible refine (Zi _ _ _).mono ?_);rintro e7 w7 ⟨⟨u2,rfl,hT2⟩,hb⟩)
       | (go_at_call 94;(with_reducible refine (Zf _ _ _).mono ?_);rintro e7 w7 ⟨⟨u2,rfl,hT2⟩,hb⟩)
       | (go_at_call 96;(with_reducible refine (AL1.out _ (Za (by with_reducible assumption)) _ hT2).mono ?_);rintro e8 w8 ⟨rfl,hb⟩)
       | (go_at_call 134;(with_reducible refine (IN1.out _ (Za (by with_reducible assumption))).mono ?_);rintro e9 w9 ⟨rfl,hb⟩))
      go_wp2_with fail
      refine hK.out _ _ (STB.out _ _ hb (by with_reducible assumption)) (fun hH2=>?_)
      clear hK K hHeld hb;have hHeld:=hH2;clear hH2
      (try simp only [cl,Act.put])
      refine tkk 16 rfl ?_
      refine tkk 17 rfl ?_
      refine tkk 18 rfl ?_
      refine tkk 19 rfl ?_
      refine tkk 20 rfl ?_
      (try simp only [cl,Act.put])
      refine rd 21 rfl fun K hK=>?_
      go_simp
      (first
       | (go_at_call 133;(with_reducible refine (FR1.out _ (Za (by with_reducible assumption))).mono ?_);rintro e6 w6 ⟨rfl,hb⟩)
       | (go_at_call 94;(with_reducible refine (Zi _ _ _).mono ?_);rintro e7 w7 ⟨⟨u2,rfl,hT2⟩,hb⟩)
       | (go_at_call 94;(with_reducible refine (Zf _ _ _).mono ?_);rintro e7 w7 ⟨⟨u2,rfl,hT2⟩,hb⟩)
       | (go_at_call 96;(with_reducible refine (AL1.out _ (Za (by with_reducible assumption)) _ hT2).mono ?_);rintro e8 w8 ⟨rfl,hb⟩)
       | (go_at_call 134;(with_reducible refine (IN1.out _ (Za (by with_reducible assumption))).mono ?_);rintro e9 w9 ⟨rfl,hb⟩))
      go_wp2_with fail
      refine hK.out _ _ (STB.out _ _ hb (by with_reducible assumption)) (fun hH2=>?_)
      clear hK K hHeld hb;have hHeld:=hH2;clear hH2
      (try simp only [cl,Act.put])
      refine tkk 22 rfl ?_
      refine tkk 23 rfl ?_
      (try simp only [cl,Act.put])
      refine wpAnyH_done (by kernel_rfl) ?_ _
      refine NoPanic.normal ?_
      have B9:=zh (Za hHeld)
      clear hHeld
      go_wp2_with fail
      go_ret
      exact ⟨rfl,B9.out⟩
     ·go_enter Tryz.func98,Tryz.ntmps98
      go_upto_region 1 with fail
      generalize (w.alloc (.cells #[.int .i64 kd,.slice A1 ws.length c1,.slice (some ad2) 3 c2,.slice A3 ks.length c3,.int .i64 ps] 27))=w1 at *
      have HS:(w1.drew.cell? ⟨w.heap.size,0,none⟩=some (.int .i64 kd)/\w1.drew.cell? ⟨w.heap.size,1,none⟩=some (.slice A1 ws.length c1)/\w1.drew.cell? ⟨w.heap.size,2,none⟩=some (.slice (some ad2) 3 c2)/\w1.drew.cell? ⟨w.heap.size,3,none⟩=some (.slice A3 ks.length c3)/\w1.drew.cell? ⟨w.heap.size,4,none⟩=some (.int .i64 ps)/\w1.drew.cell? ad2=some (.int .i64 y0)/\w1.drew.cell? ⟨ad2.block,ad2.off+1,none⟩=some (.int .i64 y1)/\w1.drew.cell? ⟨ad2.block,ad2.off+2,none⟩=some (.int .i64 y2))/\Below w.heap.size w w1.drew:=⟨HS1.1,HS1.2.drew⟩
      clear HS1
      refine wp_region_noPanic ?_
      refine wp_region_held_drew (S:=(fun w'=>(w'.cell? ⟨w.heap.size,0,none⟩=some (.int .i64 kd)/\w'.cell? ⟨w.heap.size,1,none⟩=some (.slice A1 ws.length c1)/\w'.cell? ⟨w.heap.size,2,none⟩=some (.slice (some ad2) 3 c2)/\w'.cell? ⟨w.heap.size,3,none⟩=some (.slice A3 ks.length c3)/\w'.cell? ⟨w.heap.size,4,none⟩=some (.int .i64 ps)/\w'.cell? ad2=some (.int .i64 y0)/\w'.cell? ⟨ad2.block,ad2.off+1,none⟩=some (.int .i64 y1)/\w'.cell? ⟨ad2.block,ad2.off+2,none⟩=some (.int .i64 y2))/\Below w.heap.size w w')) (by kernel_rfl) HS (fun hHeld=>?_)
      clear HS
      refine tkk 0 rfl ?_
      refine tkk 1 rfl ?_
      refine tkk 2 rfl ?_
      refine tkk 3 rfl ?_
      refine tkk 4 rfl ?_
      refine tkk 5 rfl ?_
      refine tkk 6 rfl ?_
      refine tkk 7 rfl ?_
      refine tkk 8 rfl ?_
      refine tkk 9 rfl ?_
      refine tkk 10 rfl ?_
      refine tkk 11 rfl ?_
      refine tkk 12 rfl ?_
      refine tkk 13 rfl ?_
      refine tkk 14 rfl ?_
      refine tkk 15 rfl ?_
      refine tkk 16 rfl ?_
      refine tkk 17 rfl ?_
      (try simp only [cl,Act.put])
      refine wpAnyH_done (by kernel_rfl) ?_ _
      refine NoPanic.normal ?_
      generalize w1.drew=w5 at *
      go_upto_region 2 with fail
      have HS:(w5.drew.cell? ⟨w.heap.size,0,none⟩=some (.int .i64 kd)/\w5.drew.cell? ⟨w.heap.size,1,none⟩=some (.slice A1 ws.length c1)/\w5.drew.cell? ⟨w.heap.size,2,none⟩=some (.slice (some ad2) 3 c2)/\w5.drew.cell? ⟨w.heap.size,3,none⟩=some (.slice A3 ks.length c3)/\w5.drew.cell? ⟨w.heap.size,4,none⟩=some (.int .i64 ps)/\w5.drew.cell? ad2=some (.int .i64 y0)/\w5.drew.cell? ⟨ad2.block,ad2.off+1,none⟩=some (.int .i64 y1)/\w5.drew.cell? ⟨ad2.block,ad2.off+2,none⟩=some (.int .i64 y2))/\Below w.heap.size w w5.drew:=⟨hHeld.1,hHeld.2.drew⟩
      clear hHeld
      refine wp_region_noPanic ?_
      refine wp_region_held_drew (S:=(fun w'=>(w'.cell? ⟨w.heap.size,0,none⟩=some (.int .i64 kd)/\w'.cell? ⟨w.heap.size,1,none⟩=some (.slice A1 ws.length c1)/\w'.cell? ⟨w.heap.size,2,none⟩=some (.slice (some ad2) 3 c2)/\w'.cell? ⟨w.heap.size,3,none⟩=some (.slice A3 ks.length c3)/\w'.cell? ⟨w.heap.size,4,none⟩=some (.int .i64 ps)/\w'.cell? ad2=some (.int .i64 y0)/\w'.cell? ⟨ad2.block,ad2.off+1,none⟩=some (.int .i64 y1)/\w'.cell? ⟨ad2.block,ad2.off+2,none⟩=some (.int .i64 y2))/\Below w.heap.size w w')) (by kernel_rfl) HS (fun hHeld=>?_)
      clear HS
      refine tkk 0 rfl ?_
      refine tkk 1 rfl ?_
      refine tkk 2 rfl ?_
      refine tkk 3 rfl ?_
      refine tkk 4 rfl ?_
      refine txk 5 rfl ?_
      refine txk 6 rfl ?_
      refine tkk 7 rfl ?_
      refine tkk 8 rfl ?_
      refine tkk 9 rfl ?_
      refine tkk 10 rfl ?_
      refine tkk 11 rfl ?_
      refine tkk 12 rfl ?_
      (try simp only [cl,Act.put])
      refine rd 13 rfl fun K hK=>?_
      go_simp
      refine hK.out _ _ ?_ (fun hH2=>?_)
      ·exact STB.out _ _ (below_alloc1 _ _) (by with_reducible assumption)
      clear hK K hHeld;have hHeld:=hH2;clear hH2
      (try simp only [cl,Act.put])
      refine rd 14 rfl fun K hK=>?_
      go_simp
      (first
       | (go_at_call 133;(with_reducible refine (FR1.out _ (Za (by with_reducible assumption))).mono ?_);rintro e6 w6 ⟨rfl,hb⟩)
       | (go_at_call 94;(with_reducible refine (Zi _ _ _).mono ?_);rintro e7 w7 ⟨⟨u2,rfl,hT2⟩,hb⟩)
       | (go_at_call 94;(with_reducible refine (Zf _ _ _).mono ?_);rintro e7 w7 ⟨⟨u2,rfl,hT2⟩,hb⟩)
       | (go_at_call 96;(with_reducible refine (AL1.out _ (Za (by with_reducible assumption)) _ hT2).mono ?_);rintro e8 w8 ⟨rfl,hb⟩)
       | (go_at_call 134;(with_reducible refine (IN1.out _ (Za (by with_reducible assumption))).mono ?_);rintro e9 w9 ⟨rfl,hb⟩))
      go_wp2_with fail
      refine hK.out _ _ (STB.out _ _ hb (by with_reducible assumption)) (fun hH2=>?_)
      clear hK K hHeld hb;have hHeld:=hH2;clear hH2
      (try simp only [cl,Act.put])
      refine rd 15 rfl fun K hK=>?_
      go_simp
      (first
       | (go_at_call 133;(with_reducible refine (FR1.out _ (Za (by with_reducible assumption))).mono ?_);rintro e6 w6 ⟨rfl,hb⟩)
       | (go_at_call 94;(with_reducible refine (Zi _ _ _).mono ?_);rintro e7 w7 ⟨⟨u2,rfl,hT2⟩,hb⟩)
       | (go_at_call 94;(with_reducible refine (Zf _ _ _).mono ?_);rintro e7 w7 ⟨⟨u2,rfl,hT2⟩,hb⟩)
       | (go_at_call 96;(with_reducible refine (AL1.out _ (Za (by with_reducible assumption)) _ hT2).mono ?_);rintro e8 w8 ⟨rfl,hb⟩)
       | (go_at_call 134;(with_reducible refine (IN1.out _ (Za (by with_reducible assumption))).mono ?_);rintro e9 w9 ⟨rfl,hb⟩))
      go_wp2_with fail
      refine hK.out _ _ (STB.out _ _ hb (by with_reducible assumption)) (fun hH2=>?_)
      clear hK K hHeld hb;have hHeld:=hH2;clear hH2
      (try simp only [cl,Act.put])
      refine tkk 16 rfl ?_
      refine tkk 17 rfl ?_
      refine tkk 18 rfl ?_
      refine tkk 19 rfl ?_
      refine tkk 20 rfl ?_
      (try simp only [cl,Act.put])
      refine rd 21 rfl fun K hK=>?_
      go_simp
      (first
       | (go_at_call 133;(with_reducible refine (FR1.out _ (Za (by with_reducible assumption))).mono ?_);rintro e6 w6 ⟨rfl,hb⟩)
       | (go_at_call 94;(with_reducible refine (Zi _ _ _).mono ?_);rintro e7 w7 ⟨⟨u2,rfl,hT2⟩,hb⟩)
       | (go_at_call 94;(with_reducible refine (Zf _ _ _).mono ?_);rintro e7 w7 ⟨⟨u2,rfl,hT2⟩,hb⟩)
       | (go_at_call 96;(with_reducible refine (AL1.out _ (Za (by with_reducible assumption)) _ hT2).mono ?_);rintro e8 w8 ⟨rfl,hb⟩)
       | (go_at_call 134;(with_reducible refine (IN1.out _ (Za (by with_reducible assumption))).mono ?_);rintro e9 w9 ⟨rfl,hb⟩))
      go_wp2_with fail
      refine hK.out _ _ (STB.out _ _ hb (by with_reducible assumption)) (fun hH2=>?_)
      clear hK K hHeld hb;have hHeld:=hH2;clear hH2
      (try simp only [cl,Act.put])
      refine tkk 22 rfl ?_
      refine tkk 23 rfl ?_
      (try simp only [cl,Act.put])
      refine wpAnyH_done (by kernel_rfl) ?_ _
      refine NoPanic.normal ?_
      have B9:=zh (Za hHeld)
      clear hHeld
      go_wp2_with fail
      go_ret
      exact ⟨rfl,B9.out⟩
   ·rw [decide_eq_false q0]
    have q0':4<y0:=by omega
    go_enter Tryz.func98,Tryz.ntmps98
    go_upto_region 1 with fail
    generalize (w.alloc (.cells #[.int .i64 kd,.slice A1 ws.length c1,.slice (some ad2) 3 c2,.slice A3 ks.length c3,.int .i64 ps] 27))=w1 at *
    have HS:(w1.drew.cell? ⟨w.heap.size,0,none⟩=some (.int .i64 kd)/\w1.drew.cell? ⟨w.heap.size,1,none⟩=some (.slice A1 ws.length c1)/\w1.drew.cell? ⟨w.heap.size,2,none⟩=some (.slice (some ad2) 3 c2)/\w1.drew.cell? ⟨w.heap.size,3,none⟩=some (.slice A3 ks.length c3)/\w1.drew.cell? ⟨w.heap.size,4,none⟩=some (.int .i64 ps)/\w1.drew.cell? ad2=some (.int .i64 y0)/\w1.drew.cell? ⟨ad2.block,ad2.off+1,none⟩=some (.int .i64 y1)/\w1.drew.cell? ⟨ad2.block,ad2.off+2,none⟩=some (.int .i64 y2))/\Below w.heap.size w w1.drew:=⟨HS1.1,HS1.2.drew⟩
    clear HS1
    refine wp_region_noPanic ?_
    refine wp_region_held_drew (S:=(fun w'=>(w'.cell? ⟨w.heap.size,0,none⟩=some (.int .i64 kd)/\w'.cell? ⟨w.heap.size,1,none⟩=some (.slice A1 ws.length c1)/\w'.cell? ⟨w.heap.size,2,none⟩=some (.slice (some ad2) 3 c2)/\w'.cell? ⟨w.heap.size,3,none⟩=some (.slice A3 ks.length c3)/\w'.cell? ⟨w.heap.size,4,none⟩=some (.int .i64 ps)/\w'.cell? ad2=some (.int .i64 y0)/\w'.cell? ⟨ad2.block,ad2.off+1,none⟩=some (.int .i64 y1)/\w'.cell? ⟨ad2.block,ad2.off+2,none⟩=some (.int .i64 y2))/\Below w.heap.size w w')) (by kernel_rfl) HS (fun hHeld=>?_)
    clear HS
    refine tkk 0 rfl ?_
    refine tkk 1 rfl ?_
    refine tkk 2 rfl ?_
    refine tkk 3 rfl ?_
    refine tkk 4 rfl ?_
    refine tkk 5 rfl ?_
    refine tkk 6 rfl ?_
    refine tkk 7 rfl ?_
    refine tkk 8 rfl ?_
    refine tkk 9 rfl ?_
    refine tkk 10 rfl ?_
    refine tkk 11 rfl ?_
    refine tkk 12 rfl ?_
    refine tkk 13 rfl ?_
    refine tkk 14 rfl ?_
    refine tkk 15 rfl ?_
    refine tkk 16 rfl ?_
    refine tkk 17 rfl ?_
    (try simp only [cl,Act.put])
    refine wpAnyH_done (by kernel_rfl) ?_ _
    refine NoPanic.normal ?_
    generalize w1.drew=w5 at *
    go_upto_region 2 with fail
    have HS:(w5.drew.cell? ⟨w.heap.size,0,none⟩=some (.int .i64 kd)/\w5.drew.cell? ⟨w.heap.size,1,none⟩=some (.slice A1 ws.length c1)/\w5.drew.cell? ⟨w.heap.size,2,none⟩=some (.slice (some ad2) 3 c2)/\w5.drew.cell? ⟨w.heap.size,3,none⟩=some (.slice A3 ks.length c3)/\w5.drew.cell? ⟨w.heap.size,4,none⟩=some (.int .i64 ps)/\w5.drew.cell? ad2=some (.int .i64 y0)/\w5.drew.cell? ⟨ad2.block,ad2.off+1,none⟩=some (.int .i64 y1)/\w5.drew.cell? ⟨ad2.block,ad2.off+2,none⟩=some (.int .i64 y2))/\Below w.heap.size w w5.drew:=⟨hHeld.1,hHeld.2.drew⟩
    clear hHeld
    refine wp_region_noPanic ?_
    refine wp_region_held_drew (S:=(fun w'=>(w'.cell? ⟨w.heap.size,0,none⟩=some (.int .i64 kd)/\w'.cell? ⟨w.heap.size,1,none⟩=some (.slice A1 ws.length c1)/\w'.cell? ⟨w.heap.size,2,none⟩=some (.slice (some ad2) 3 c2)/\w'.cell? ⟨w.heap.size,3,none⟩=some (.slice A3 ks.length c3)/\w'.cell? ⟨w.heap.size,4,none⟩=some (.int .i64 ps)/\w'.cell? ad2=some (.int .i64 y0)/\w'.cell? ⟨ad2.block,ad2.off+1,none⟩=some (.int .i64 y1)/\w'.cell? ⟨ad2.block,ad2.off+2,none⟩=some (.int .i64 y2))/\Below w.heap.size w w')) (by kernel_rfl) HS (fun hHeld=>?_)
    clear HS
    refine tkk 0 rfl ?_
    refine tkk 1 rfl ?_
    refine tkk 2 rfl ?_
    refine txk 3 rfl ?_
    refine txk 4 rfl ?_
    refine txk 5 rfl ?_
    refine txk 6 rfl ?_
    refine txk 7 rfl ?_
    refine tkk 8 rfl ?_
    refine tkk 9 rfl ?_
    refine txk 10 rfl ?_
    refine txk 11 rfl ?_
    refine txk 12 rfl ?_
    refine txk 13 rfl ?_
    refine txk 14 rfl ?_
    refine txk 15 rfl ?_
    refine tkk 16 rfl ?_
    refine tkk 17 rfl ?_
    refine txk 18 rfl ?_
    refine txk 19 rfl ?_
    refine txk 20 rfl ?_
    refine txk 21 rfl ?_
    refine tkk 22 rfl ?_
    refine tkk 23 rfl ?_
    (try simp only [cl,Act.put])
    refine wpAnyH_done (by kernel_rfl) ?_ _
    refine NoPanic.normal ?_
    have B9:=zh (Za hHeld)
    clear hHeld
    go_wp2_with fail
    go_ret
    exact ⟨rfl,B9.out⟩
end
end Go.Proofs.YtkgkmdhpnhmcpaaGreatDoor
