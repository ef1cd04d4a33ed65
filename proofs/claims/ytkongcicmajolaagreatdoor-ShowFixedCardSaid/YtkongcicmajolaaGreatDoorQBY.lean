import Derived.Test.YtkongcicmajolaaGreatDoorQAL
set_option maxRecDepth 100000
set_option maxHeartbeats 8000000
namespace Go.Proofs.YtkongcicmajolaaGreatDoor
section
open Go.RowKit
theorem ZoE (w:World) (x:NdV×Nd) (a b:Nat) (h:ZaW w x) {r:Bool} (hq:ZF x.2 a b=r):Calls Tryz.prog 81 #[ndV x,.int .i64 a,.int .i64 b] w fun e w'=>e=.returned (.bool r)/\Below w.heap.size w w':=hq▸Zrs w x a b h
theorem ZkA (w:World) (v vk vf:Value) (ns:List Nd) (ks:List Int) (ts:List Tst) (hN:Zs w v ns) (hK:Zbh w vk ks) (hF:ZfZ w vf ts) (hk:ZdO ks ns.length) {r:Bool} (hq:Zp ns ks (ts.map Tst.f)=r):Calls Tryz.prog 83 #[v,vk,vf] w fun e w'=>e=.returned (.bool r)/\Below w.heap.size w w':=hq▸Zml w v vk vf ns ks ts hN hK hF hk
theorem Zq8 (w:World) (v vk vf:Value) (ns:List Nd) (ks:List Int) (ts:List Tst) (hN:Zs w v ns) (hK:Zbh w vk ks) (hF:ZfZ w vf ts) (hk:ZdO ks ns.length) (hq:Zp ns ks (ts.map Tst.f)=true):Calls Tryz.prog 83 #[v,vk,vf] w fun e w'=>e=.returned (.bool true)/\Below w.heap.size w w':=ZkA w v vk vf ns ks ts hN hK hF hk hq
theorem Zmk (w:World) (v vk u:Value) (ns:List Nd) (ks:List Int) (t:Tst) (hN:Zs w v ns) (hK:Zbh w vk ks) (hu:Za6 w t u) (hk:ZdO ks ns.length) (hq:ZbM ns ks t.f=true):Calls Tryz.prog 82 #[v,vk,u] w fun e w'=>e=.returned (.bool true)/\Below w.heap.size w w':=hq▸Zmj w v vk u ns ks t hN hK hu hk
theorem Zdd {f:FuncId} {xs:Array Value} {wr:World} {o:Obj} {P:Ending->Prop} (h:Calls Tryz.prog f xs (wr.alloc o) fun e w'=>P e/\Below (wr.alloc o).heap.size (wr.alloc o) w'):Calls Tryz.prog f xs (wr.alloc o) fun e w'=>P e/\Below wr.heap.size wr w':=
 h.mono fun _ _ q=>⟨q.1,(below_alloc1 wr o).trans (q.2.mono (below_alloc1 wr o).size)⟩
theorem Zk8 {ns:List Nd} {kd:Int} {ws:List (List UInt8)} {nums ks:List Int} {ps:Int} (h:Zn ns ⟨kd,ws,nums,ks,ps⟩=true):kd=0\/kd=1\/kd=2\/kd=3\/kd=4\/kd=5\/kd=6\/kd=7\/kd=8\/kd=9\/kd=10\/kd=11\/kd=12\/kd=13\/kd=14\/kd=15\/kd=16\/kd=17\/kd=18\/kd=19\/kd=20\/kd=21\/kd=22\/kd=23:=by
 refine Classical.byContradiction fun q=>?_
 simp only [not_or] at q
 unfold Zn at h
 dsimp only at h
 repeat rw [if_neg (by omega)] at h
 cases h
theorem ZkI (w:World) (v:Value) (ns:List Nd) (va vb vc:Value) (kd:Int) (ws:List (List UInt8)) (nums ks:List Int) (ps:Int) (hN:Zs w v ns) (hx:ZaW w ((va,vb,vc),⟨kd,ws,nums,ks,ps⟩)) (hk:ZdO ks ns.length) (hl:nums.length=3) (hq:ZcK ns ⟨kd,ws,nums,ks,ps⟩=true) :
  Calls Tryz.prog 84 #[v,ndV ((va,vb,vc),⟨kd,ws,nums,ks,ps⟩)] w fun e w'=>e=.returned (.bool true)/\Below w.heap.size w w':=by
 obtain ⟨h1,h2,h3⟩:=id hx
 dsimp only at h1 h2 h3
 have FRA:=zh (fun (wr:World) (hb:Below w.heap.size w wr)=>Zhv wr _ (hx.below hb) hl)
 have ALL:=zh (fun (wr:World) (hb:Below w.heap.size w wr) (u:Value) (t:Tst) (hu:Za6 wr t u)=>Zmj wr v vc u ns ks t (hN.below hb) (h3.below hb) hu hk)
 have INC:=zh (fun (wr:World) (hb:Below w.heap.size w wr)=>Zjz wr v vc ns ks (hN.below hb) (h3.below hb) hk)
 clear hk
 obtain ⟨A1,c1,rfl,_⟩:=h1
 obtain ⟨A2,c2,rfl,_,_,R2⟩:=h2
 obtain ⟨A3,c3,rfl,_⟩:=h3
 obtain ⟨y0,hy0⟩:∃ y,nums[0]? = some y:=⟨_,List.getElem?_eq_getElem (by omega)⟩
 obtain ⟨y1,hy1⟩:∃ y,nums[1]? = some y:=⟨_,List.getElem?_eq_getElem (by omega)⟩
 obtain ⟨y2,hy2⟩:∃ y,nums[2]? = some y:=⟨_,List.getElem?_eq_getElem (by omega)⟩
 have N0:=zh (Zd3 (n:=(⟨kd,ws,nums,ks,ps⟩:Nd)) hy0)
 have N1:=zh (Zd3 (n:=(⟨kd,ws,nums,ks,ps⟩:Nd)) hy1)
 have N2:=zh (Zd3 (n:=(⟨kd,ws,nums,ks,ps⟩:Nd)) hy2)
 obtain ⟨ad2,rfl,n0⟩:=ints_at R2 (Below.refl _ _) hy0 (by omega)
 obtain ⟨a2,e2,n1⟩:=ints_at R2 (Below.refl _ _) hy1 (by omega)
 injection e2 with e2
 subst e2
 obtain ⟨a2,e2,n2⟩:=ints_at R2 (Below.refl _ _) hy2 (by omega)
 injection e2 with e2
 subst e2
 rw [show ad2.add 0=ad2 by unfold Addr.add;simp] at n0
 rw [show ad2.add 1=⟨ad2.block,ad2.off+1,none⟩ by unfold Addr.add;simp] at n1
 rw [show ad2.add 2=⟨ad2.block,ad2.off+2,none⟩ by unfold Addr.add;simp] at n2
 unfold ndV at FRA ⊢
 dsimp only at FRA ⊢
 rw [hl] at FRA ⊢
 have hal:=below_alloc1 w (.cells #[.int .i64 kd,.slice A1 ws.length c1,.slice (some ad2) 3 c2,.slice A3 ks.length c3,.int .i64 ps] 37)
 have keep:=fun (p:Addr) (x:Value) (h:w.cell? p=some x)=>(hal.cell (World.block_lt_of_cell? _ _ h)).trans h
 have HS1:((w.alloc (.cells #[.int .i64 kd,.slice A1 ws.length c1,.slice (some ad2) 3 c2,.slice A3 ks.length c3,.int .i64 ps] 37)).cell? ⟨w.heap.size,0,none⟩=some (.int .i64 kd)/\(w.alloc (.cells #[.int .i64 kd,.slice A1 ws.length c1,.slice (some ad2) 3 c2,.slice A3 ks.length c3,.int .i64 ps] 37)).cell? ⟨w.heap.size,1,none⟩=some (.slice A1 ws.length c1)/\(w.alloc (.cells #[.int .i64 kd,.slice A1 ws.length c1,.slice (some ad2) 3 c2,.slice A3 ks.length c3,.int .i64 ps] 37)).cell? ⟨w.heap.size,2,none⟩=some (.slice (some ad2) 3 c2)/\(w.alloc (.cells #[.int .i64 kd,.slice A1 ws.length c1,.slice (some ad2) 3 c2,.slice A3 ks.length c3,.int .i64 ps] 37)).cell? ⟨w.heap.size,3,none⟩=some (.slice A3 ks.length c3)/\(w.alloc (.cells #[.int .i64 kd,.slice A1 ws.length c1,.slice (some ad2) 3 c2,.slice A3 ks.length c3,.int .i64 ps] 37)).cell? ⟨w.heap.size,4,none⟩=some (.int .i64 ps)/\(w.alloc (.cells #[.int .i64 kd,.slice A1 ws.length c1,.slice (some ad2) 3 c2,.slice A3 ks.length c3,.int .i64 ps] 37)).cell? ad2=some (.int .i64 y0)/\(w.alloc (.cells #[.int .i64 kd,.slice A1 ws.length c1,.slice (some ad2) 3 c2,.slice A3 ks.length c3,.int .i64 ps] 37)).cell? ⟨ad2.block,ad2.off+1,none⟩=some (.int .i64 y1)/\(w.alloc (.cells #[.int .i64 kd,.slice A1 ws.length c1,.slice (some ad2) 3 c2,.slice A3 ks.length c3,.int .i64 ps] 37)).cell? ⟨ad2.block,ad2.off+2,none⟩=some (.int .i64 y2))/\Below w.heap.size w (w.alloc (.cells #[.int .i64 kd,.slice A1 ws.length c1,.slice (some ad2) 3 c2,.slice A3 ks.length c3,.int .i64 ps] 37)):=⟨⟨(Blk.start w _ _).cell 0,(Blk.start w _ _).cell 1,(Blk.start w _ _).cell 2,(Blk.start w _ _).cell 3,(Blk.start w _ _).cell 4,keep _ _ n0,keep _ _ n1,keep _ _ n2⟩,hal⟩
 clear hx hN R2 n0 n1 n2 hy0 hy1 hy2 hal keep
 have STB:=zh (show Stb (fun w'=>(w'.cell? ⟨w.heap.size,0,none⟩=some (.int .i64 kd)/\w'.cell? ⟨w.heap.size,1,none⟩=some (.slice A1 ws.length c1)/\w'.cell? ⟨w.heap.size,2,none⟩=some (.slice (some ad2) 3 c2)/\w'.cell? ⟨w.heap.size,3,none⟩=some (.slice A3 ks.length c3)/\w'.cell? ⟨w.heap.size,4,none⟩=some (.int .i64 ps)/\w'.cell? ad2=some (.int .i64 y0)/\w'.cell? ⟨ad2.block,ad2.off+1,none⟩=some (.int .i64 y1)/\w'.cell? ⟨ad2.block,ad2.off+2,none⟩=some (.int .i64 y2))/\Below w.heap.size w w') from Zau (Zau (Zac _ _) ( Zau (Zac _ _) ( Zau (Zac _ _) ( Zau (Zac _ _) ( Zau (Zac _ _) ( Zau (Zac _ _) ( Zau (Zac _ _) (Zac _ _)))))))) (ZcW w))
 have EQ:(decide (y0<=4)&&((y1==0&&y2==0)||ZdY ⟨kd,ws,nums,ks,ps⟩)&&ZbM ns ks (isB [6])&&Zbm ns ks)=true:=by unfold ZcK at hq;rw [N0.out,N1.out,N2.out] at hq;exact hq
 have FQ:ZdY ⟨kd,ws,nums,ks,ps⟩=true->(y1==0)=false:=fun h=>by unfold ZdY at h;rw [N1.out,Bool.and_eq_true,decide_eq_true_eq] at h;rw [beq_eq_false_iff_ne];omega
 have FR1:=zh (show ∀ wr:World,Below w.heap.size w wr->Calls Tryz.prog 113 #[.agg #[.int .i64 kd,.slice A1 ws.length c1,.slice (some ad2) 3 c2,.slice A3 ks.length c3,.int .i64 ps]] wr fun e w'=>e=.returned (.bool (ZdY ⟨kd,ws,nums,ks,ps⟩))/\Below wr.heap.size wr w' from fun wr hb=>FRA.out wr hb)
 have AL1:=zh (show ∀ wr:World,Below w.heap.size w wr->∀ u:Value,Za6 wr (.is [6]) u->Calls Tryz.prog 82 #[v,.slice A3 ks.length c3,u] wr fun e w'=>e=.returned (.bool (ZbM ns ks (isB [6])))/\Below wr.heap.size wr w' from fun wr hb u hu=>ALL.out wr hb u _ hu)
 have IN1:=zh (show ∀ wr:World,Below w.heap.size w wr->Calls Tryz.prog 114 #[v,.slice A3 ks.length c3] wr fun e w'=>e=.returned (.bool (Zbm ns ks))/\Below wr.heap.size wr w' from fun wr hb=>INC.out wr hb)
 rw [Bool.and_eq_true,Bool.and_eq_true,Bool.and_eq_true,Bool.or_eq_true,Bool.and_eq_true,decide_eq_true_eq] at EQ
 obtain ⟨⟨⟨q0,hf⟩,e1⟩,e2⟩:=EQ
 rw [e1] at AL1
 rw [e2] at IN1
 have i0:(0:Int)<((3:Nat):Int):=by decide
 have i1:(1:Int)<((3:Nat):Int):=by decide
 have i2:(2:Int)<((3:Nat):Int):=by decide
 clear FRA ALL INC N0 N1 N2 hl hq e1 e2
 rcases hf with ⟨z1,z2⟩ | hF
 ·clear FQ
  go_enter Tryz.func84,Tryz.ntmps84
  go_upto_region 1 with fail
  generalize (w.alloc (.cells #[.int .i64 kd,.slice A1 ws.length c1,.slice (some ad2) 3 c2,.slice A3 ks.length c3,.int .i64 ps] 37))=w1 at *
  have HS:(w1.drew.cell? ⟨w.heap.size,0,none⟩=some (.int .i64 kd)/\w1.drew.cell? ⟨w.heap.size,1,none⟩=some (.slice A1 ws.length c1)/\w1.drew.cell? ⟨w.heap.size,2,none⟩=some (.slice (some ad2) 3 c2)/\w1.drew.cell? ⟨w.heap.size,3,none⟩=some (.slice A3 ks.length c3)/\w1.drew.cell? ⟨w.heap.size,4,none⟩=some (.int .i64 ps)/\w1.drew.cell? ad2=some (.int .i64 y0)/\w1.drew.cell? ⟨ad2.block,ad2.off+1,none⟩=some (.int .i64 y1)/\w1.drew.cell? ⟨ad2.block,ad2.off+2,none⟩=some (.int .i64 y2))/\Below w.heap.size w w1.drew:=⟨HS1.1,HS1.2.drew⟩
  clear HS1
  refine wp_region_noPanic ?_
  refine wp_region_held_drew (S:=(fun w'=>(w'.cell? ⟨w.heap.size,0,none⟩=some (.int .i64 kd)/\w'.cell? ⟨w.heap.size,1,none⟩=some (.slice A1 ws.length c1)/\w'.cell? ⟨w.heap.size,2,none⟩=some (.slice (some ad2) 3 c2)/\w'.cell? ⟨w.heap.size,3,none⟩=some (.slice A3 ks.length c3)/\w'.cell? ⟨w.heap.size,4,none⟩=some (.int .i64 ps)/\w'.cell? ad2=some (.int .i64 y0)/\w'.cell? ⟨ad2.block,ad2.off+1,none⟩=some (.int .i64 y1)/\w'.cell? ⟨ad2.block,ad2.off+2,none⟩=some (.int .i64 y2))/\Below w.heap.size w w')) (by kernel_rfl) HS (fun hHeld=>?_)
  clear HS
  refine tkk 0 rfl ?_
  refine tkk 1 rfl ?_
  refine tkk 2 rfl ?_
  refine tkk 3 rfl ?_
  refine tkk 4 rfl ?_
  refine tkk 5 rfl ?_
  refine tkk 6 rfl ?_
  refine tkk 7 rfl ?_
  refine tkk 8 rfl ?_
  refine tkk 9 rfl ?_
  refine tkk 10 rfl ?_
  refine tkk 11 rfl ?_
  refine tkk 12 rfl ?_
  refine tkk 13 rfl ?_
  refine tkk 14 rfl ?_
  refine tkk 15 rfl ?_
  refine tkk 16 rfl ?_
  refine tkk 17 rfl ?_
  (try simp only [cl,Act.put])
  refine wpAnyH_done (by kernel_rfl) ?_ _
  refine NoPanic.normal ?_
  generalize w1.drew=w5 at *
  go_upto_region 2 with fail
  have HS:(w5.drew.cell? ⟨w.heap.size,0,none⟩=some (.int .i64 kd)/\w5.drew.cell? ⟨w.heap.size,1,none⟩=some (.slice A1 ws.length c1)/\w5.drew.cell? ⟨w.heap.size,2,none⟩=some (.slice (some ad2) 3 c2)/\w5.drew.cell? ⟨w.heap.size,3,none⟩=some (.slice A3 ks.length c3)/\w5.drew.cell? ⟨w.heap.size,4,none⟩=some (.int .i64 ps)/\w5.drew.cell? ad2=some (.int .i64 y0)/\w5.drew.cell? ⟨ad2.block,ad2.off+1,none⟩=some (.int .i64 y1)/\w5.drew.cell? ⟨ad2.block,ad2.off+2,none⟩=some (.int .i64 y2))/\Below w.heap.size w w5.drew:=⟨hHeld.1,hHeld.2.drew⟩
  clear hHeld
  refine wp_region_noPanic ?_
  refine wp_region_held_drew (S:=(fun w'=>(w'.cell? ⟨w.heap.size,0,none⟩=some (.int .i64 kd)/\w'.cell? ⟨w.heap.size,1,none⟩=some (.slice A1 ws.length c1)/\w'.cell? ⟨w.heap.size,2,none⟩=some (.slice (some ad2) 3 c2)/\w'.cell? ⟨w.heap.size,3,none⟩=some (.slice A3 ks.length c3)/\w'.cell? ⟨w.heap.size,4,none⟩=some (.int .i64 ps)/\w'.cell? ad2=some (.int .i64 y0)/\w'.cell? ⟨ad2.block,ad2.off+1,none⟩=some (.int .i64 y1)/\w'.cell? ⟨ad2.block,ad2.off+2,none⟩=some (.int .i64 y2))/\Below w.heap.size w w')) (by kernel_rfl) HS (fun hHeld=>?_)
  clear HS
  refine tkk 0 rfl ?_
  refine tkk 1 rfl ?_
  refine tkk 2 rfl ?_
  refine tkk 3 rfl ?_
  refine tkk 4 rfl ?_
  refine txk 5 rfl ?_
  refine txk 6 rfl ?_
  refine tkk 7 rfl ?_
  refine tkk 8 rfl ?_
  refine tkk 9 rfl ?_
  refine tkk 10 rfl ?_
  refine tkk 11 rfl ?_
  refine tkk 12 rfl ?_
  (try simp only [cl,Act.put])
  refine rd 13 rfl fun K hK=>?_
  go_simp
  refine hK.out _ _ ?_ (fun hH2=>?_)
  ·exact STB.out _ _ (below_alloc1 _ _) (by with_reducible assumption)
  clear hK K hHeld;have hHeld:=hH2;clear hH2
  (try simp only [cl,Act.put])
  refine rd 14 rfl fun K hK=>?_
  go_simp
  (first
   | (go_at_call 113;(with_reducible refine (FR1.out _ (Zm (by with_reducible assumption))).mono ?_);rintro e6 w6 ⟨rfl,hb⟩)
   | (go_at_call 80;(with_reducible refine (ZbI _ _ _).mono ?_);rintro e7 w7 ⟨⟨u2,rfl,hT2⟩,hb⟩)
   | (go_at_call 80;(with_reducible refine (Zdu _ _ _).mono ?_);rintro e7 w7 ⟨⟨u2,rfl,hT2⟩,hb⟩)
   | (go_at_call 82;(with_reducible refine (AL1.out _ (Zm (by with_reducible assumption)) _ hT2).mono ?_);rintro e8 w8 ⟨rfl,hb⟩)
   | (go_at_call 114;(with_reducible refine (IN1.out _ (Zm (by with_reducible assumption))).mono ?_);rintro e9 w9 ⟨rfl,hb⟩))
  go_wp2_with fail
  refine hK.out _ _ (STB.out _ _ hb (by with_reducible assumption)) (fun hH2=>?_)
  clear hK K hHeld hb;have hHeld:=hH2;clear hH2
  (try simp only [cl,Act.put])
  refine rd 15 rfl fun K hK=>?_
  go_simp
  (first
   | (go_at_call 113;(with_reducible refine (FR1.out _ (Zm (by with_reducible assumption))).mono ?_);rintro e6 w6 ⟨rfl,hb⟩)
   | (go_at_call 80;(with_reducible refine (ZbI _ _ _).mono ?_);rintro e7 w7 ⟨⟨u2,rfl,hT2⟩,hb⟩)
   | (go_at_call 80;(with_reducible refine (Zdu _ _ _).mono ?_);rintro e7 w7 ⟨⟨u2,rfl,hT2⟩,hb⟩)
   | (go_at_call 82;(with_reducible refine (AL1.out _ (Zm (by with_reducible assumption)) _ hT2).mono ?_);rintro e8 w8 ⟨rfl,hb⟩)
   | (go_at_call 114;(with_reducible refine (IN1.out _ (Zm (by with_reducible assumption))).mono ?_);rintro e9 w9 ⟨rfl,hb⟩))
  go_wp2_with fail
  refine hK.out _ _ (STB.out _ _ hb (by with_reducible assumption)) (fun hH2=>?_)
  clear hK K hHeld hb;have hHeld:=hH2;clear hH2
  (try simp only [cl,Act.put])
  refine tkk 16 rfl ?_
  refine tkk 17 rfl ?_
  refine tkk 18 rfl ?_
  refine tkk 19 rfl ?_
  refine tkk 20 rfl ?_
  (try simp only [cl,Act.put])
  refine rd 21 rfl fun K hK=>?_
  go_simp
  (first
   | (go_at_call 113;(with_reducible refine (FR1.out _ (Zm (by with_reducible assumption))).mono ?_);rintro e6 w6 ⟨rfl,hb⟩)
   | (go_at_call 80;(with_reducible refine (ZbI _ _ _).mono ?_);rintro e7 w7 ⟨⟨u2,rfl,hT2⟩,hb⟩)
   | (go_at_call 80;(with_reducible refine (Zdu _ _ _).mono ?_);rintro e7 w7 ⟨⟨u2,rfl,hT2⟩,hb⟩)
   | (go_at_call 82;(with_reducible refine (AL1.out _ (Zm (by with_reducible assumption)) _ hT2).mono ?_);rintro e8 w8 ⟨rfl,hb⟩)
   | (go_at_call 114;(with_reducible refine (IN1.out _ (Zm (by with_reducible assumption))).mono ?_);rintro e9 w9 ⟨rfl,hb⟩))
  go_wp2_with fail
  refine hK.out _ _ (STB.out _ _ hb (by with_reducible assumption)) (fun hH2=>?_)
  clear hK K hHeld hb;have hHeld:=hH2;clear hH2
  (try simp only [cl,Act.put])
  refine tkk 22 rfl ?_
  refine tkk 23 rfl ?_
  (try simp only [cl,Act.put])
  refine wpAnyH_done (by kernel_rfl) ?_ _
  refine NoPanic.normal ?_
  have B9:=zh (Zm hHeld)
  clear hHeld
  go_wp2_with fail
  go_ret
  exact ⟨rfl,B9.out⟩
 ·have z1:=FQ hF
  rw [hF] at FR1
  clear FQ hF
  go_enter Tryz.func84,Tryz.ntmps84
  go_upto_region 1 with fail
  generalize (w.alloc (.cells #[.int .i64 kd,.slice A1 ws.length c1,.slice (some ad2) 3 c2,.slice A3 ks.length c3,.int .i64 ps] 37))=w1 at *
  have HS:(w1.drew.cell? ⟨w.heap.size,0,none⟩=some (.int .i64 kd)/\w1.drew.cell? ⟨w.heap.size,1,none⟩=some (.slice A1 ws.length c1)/\w1.drew.cell? ⟨w.heap.size,2,none⟩=some (.slice (some ad2) 3 c2)/\w1.drew.cell? ⟨w.heap.size,3,none⟩=some (.slice A3 ks.length c3)/\w1.drew.cell? ⟨w.heap.size,4,none⟩=some (.int .i64 ps)/\w1.drew.cell? ad2=some (.int .i64 y0)/\w1.drew.cell? ⟨ad2.block,ad2.off+1,none⟩=some (.int .i64 y1)/\w1.drew.cell? ⟨ad2.block,ad2.off+2,none⟩=some (.int .i64 y2))/\Below w.heap.size w w1.drew:=⟨HS1.1,HS1.2.drew⟩
  clear HS1
  refine wp_region_noPanic ?_
  refine wp_region_held_drew (S:=(fun w'=>(w'.cell? ⟨w.heap.size,0,none⟩=some (.int .i64 kd)/\w'.cell? ⟨w.heap.size,1,none⟩=some (.slice A1 ws.length c1)/\w'.cell? ⟨w.heap.size,2,none⟩=some (.slice (some ad2) 3 c2)/\w'.cell? ⟨w.heap.size,3,none⟩=some (.slice A3 ks.length c3)/\w'.cell? ⟨w.heap.size,4,none⟩=some (.int .i64 ps)/\w'.cell? ad2=some (.int .i64 y0)/\w'.cell? ⟨ad2.block,ad2.off+1,none⟩=some (.int .i64 y1)/\w'.cell? ⟨ad2.block,ad2.off+2,none⟩=some (.int .i64 y2))/\Below w.heap.size w w')) (by kernel_rfl) HS (fun hHeld=>?_)
  clear HS
  refine tkk 0 rfl ?_
  refine tkk 1 rfl ?_
  refine tkk 2 rfl ?_
  refine tkk 3 rfl ?_
  refine tkk 4 rfl ?_
  refine tkk 5 rfl ?_
  refine tkk 6 rfl ?_
  refine tkk 7 rfl ?_
  refine tkk 8 rfl ?_
  refine tkk 9 rfl ?_
  refine txk 10 rfl ?_
  refine txk 11 rfl ?_
  refine txk 12 rfl ?_
  refine txk 13 rfl ?_
  refine txk 14 rfl ?_
  refine tkk 15 rfl ?_
  refine tkk 16 rfl ?_
  refine tkk 17 rfl ?_
  (try simp only [cl,Act.put])
  refine wpAnyH_done (by kernel_rfl) ?_ _
  refine NoPanic.normal ?_
  generalize w1.drew=w5 at *
  go_upto_region 2 with fail
  have HS:(w5.drew.cell? ⟨w.heap.size,0,none⟩=some (.int .i64 kd)/\w5.drew.cell? ⟨w.heap.size,1,none⟩=some (.slice A1 ws.length c1)/\w5.drew.cell? ⟨w.heap.size,2,none⟩=some (.slice (some ad2) 3 c2)/\w5.drew.cell? ⟨w.heap.size,3,none⟩=some (.slice A3 ks.length c3)/\w5.drew.cell? ⟨w.heap.size,4,none⟩=some (.int .i64 ps)/\w5.drew.cell? ad2=some (.int .i64 y0)/\w5.drew.cell? ⟨ad2.block,ad2.off+1,none⟩=some (.int .i64 y1)/\w5.drew.cell? ⟨ad2.block,ad2.off+2,none⟩=some (.int .i64 y2))/\Below w.heap.size w w5.drew:=⟨hHeld.1,hHeld.2.drew⟩
  clear hHeld
  refine wp_region_noPanic ?_
  refine wp_region_held_drew (S:=(fun w'=>(w'.cell? ⟨w.heap.size,0,none⟩=some (.int .i64 kd)/\w'.cell? ⟨w.heap.size,1,none⟩=some (.slice A1 ws.length c1)/\w'.cell? ⟨w.heap.size,2,none⟩=some (.slice (some ad2) 3 c2)/\w'.cell? ⟨w.heap.size,3,none⟩=some (.slice A3 ks.length c3)/\w'.cell? ⟨w.heap.size,4,none⟩=some (.int .i64 ps)/\w'.cell? ad2=some (.int .i64 y0)/\w'.cell? ⟨ad2.block,ad2.off+1,none⟩=some (.int .i64 y1)/\w'.cell? ⟨ad2.block,ad2.off+2,none⟩=some (.int .i64 y2))/\Below w.heap.size w w')) (by kernel_rfl) HS (fun hHeld=>?_)
  clear HS
  refine tkk 0 rfl ?_
  refine tkk 1 rfl ?_
  refine tkk 2 rfl ?_
  refine tkk 3 rfl ?_
  refine tkk 4 rfl ?_
  refine tkk 5 rfl ?_
  (try simp only [cl,Act.put])
  refine rd 6 rfl fun K hK=>?_
  go_simp
  (first
   | (go_at_call 113;(with_reducible refine (FR1.out _ (Zm (by with_reducible assumption))).mono ?_);rintro e6 w6 ⟨rfl,hb⟩)
   | (go_at_call 80;(with_reducible refine (ZbI _ _ _).mono ?_);rintro e7 w7 ⟨⟨u2,rfl,hT2⟩,hb⟩)
   | (go_at_call 80;(with_reducible refine (Zdu _ _ _).mono ?_);rintro e7 w7 ⟨⟨u2,rfl,hT2⟩,hb⟩)
   | (go_at_call 82;(with_reducible refine (AL1.out _ (Zm (by with_reducible assumption)) _ hT2).mono ?_);rintro e8 w8 ⟨rfl,hb⟩)
   | (go_at_call 114;(with_reducible refine (IN1.out _ (Zm (by with_reducible assumption))).mono ?_);rintro e9 w9 ⟨rfl,hb⟩))
  go_wp2_with fail
  refine hK.out _ _ (STB.out _ _ hb (by with_reducible assumption)) (fun hH2=>?_)
  clear hK K hHeld hb;have hHeld:=hH2;clear hH2
  (try simp only [cl,Act.put])
  refine tkk 7 rfl ?_
  refine tkk 8 rfl ?_
  refine tkk 9 rfl ?_
  refine tkk 10 rfl ?_
  refine tkk 11 rfl ?_
  refine tkk 12 rfl ?_
  (try simp only [cl,Act.put])
  refine rd 13 rfl fun K hK=>?_
  go_simp
  refine hK.out _ _ ?_ (fun hH2=>?_)
  ·exact STB.out _ _ (below_alloc1 _ _) (by with_reducible assumption)
  clear hK K hHeld;have hHeld:=hH2;clear hH2
  (try simp only [cl,Act.put])
  refine rd 14 rfl fun K hK=>?_
  go_simp
  (first
   | (go_at_call 113;(with_reducible refine (FR1.out _ (Zm (by with_reducible assumption))).mono ?_);rintro e6 w6 ⟨rfl,hb⟩)
   | (go_at_call 80;(with_reducible refine (ZbI _ _ _).mono ?_);rintro e7 w7 ⟨⟨u2,rfl,hT2⟩,hb⟩)
   | (go_at_call 80;(with_reducible refine (Zdu _ _ _).mono ?_);rintro e7 w7 ⟨⟨u2,rfl,hT2⟩,hb⟩)
   | (go_at_call 82;(with_reducible refine (AL1.out _ (Zm (by with_reducible assumption)) _ hT2).mono ?_);rintro e8 w8 ⟨rfl,hb⟩)
   | (go_at_call 114;(with_reducible refine (IN1.out _ (Zm (by with_reducible assumption))).mono ?_);rintro e9 w9 ⟨rfl,hb⟩))
  go_wp2_with fail
  refine hK.out _ _ (STB.out _ _ hb (by with_reducible assumption)) (fun hH2=>?_)
  clear hK K hHeld hb;have hHeld:=hH2;clear hH2
  (try simp only [cl,Act.put])
  refine rd 15 rfl fun K hK=>?_
  go_simp
  (first
   | (go_at_call 113;(with_reducible refine (FR1.out _ (Zm (by with_reducible assumption))).mono ?_);rintro e6 w6 ⟨rfl,hb⟩)
   | (go_at_call 80;(with_reducible refine (ZbI _ _ _).mono ?_);rintro e7 w7 ⟨⟨u2,rfl,hT2⟩,hb⟩)
   | (go_at_call 80;(with_reducible refine (Zdu _ _ _).mono ?_);rintro e7 w7 ⟨⟨u2,rfl,hT2⟩,hb⟩)
   | (go_at_call 82;(with_reducible refine (AL1.out _ (Zm (by with_reducible assumption)) _ hT2).mono ?_);rintro e8 w8 ⟨rfl,hb⟩)
   | (go_at_call 114;(with_reducible refine (IN1.out _ (Zm (by with_reducible assumption))).mono ?_);rintro e9 w9 ⟨rfl,hb⟩))
  go_wp2_with fail
  refine hK.out _ _ (STB.out _ _ hb (by with_reducible assumption)) (fun hH2=>?_)
  clear hK K hHeld hb;have hHeld:=hH2;clear hH2
  (try simp only [cl,Act.put])
  refine tkk 16 rfl ?_
  refine tkk 17 rfl ?_
  refine tkk 18 rfl ?_
  refine tkk 19 rfl ?_
  refine tkk 20 rfl ?_
  (try simp only [cl,Act.put])
  refine rd 21 rfl fun K hK=>?_
  go_simp
  (first
   | (go_at_call 113;(with_reducible refine (FR1.out _ (Zm (by with_reducible assumption))).mono ?_);rintro e6 w6 ⟨rfl,hb⟩)
   | (go_at_call 80;(with_reducible refine (ZbI _ _ _).mono ?_);rintro e7 w7 ⟨⟨u2,rfl,hT2⟩,hb⟩)
   | (go_at_call 80;(with_reducible refine (Zdu _ _ _).mono ?_);rintro e7 w7 ⟨⟨u2,rfl,hT2⟩,hb⟩)
   | (go_at_call 82;(with_reducible refine (AL1.out _ (Zm (by with_reducible assumption)) _ hT2).mono ?_);rintro e8 w8 ⟨rfl,hb⟩)
   | (go_at_call 114;(with_reducible refine (IN1.out _ (Zm (by with_reducible assumption))).mono ?_);rintro e9 w9 ⟨rfl,hb⟩))
  go_wp2_with fail
  refine hK.out _ _ (STB.out _ _ hb (by with_reducible assumption)) (fun hH2=>?_)
  clear hK K hHeld hb;have hHeld:=hH2;clear hH2
  (try simp only [cl,Act.put])
  refine tkk 22 rfl ?_
  refine tkk 23 rfl ?_
  (try simp only [cl,Act.put])
  refine wpAnyH_done (by kernel_rfl) ?_ _
  refine NoPanic.normal ?_
  have B9:=zh (Zm hHeld)
  clear hHeld
  go_wp2_with fail
  go_ret
  exact ⟨rfl,B9.out⟩
theorem Zqw (w:World) (v:Value) (ns:List Nd) (va vb vc:Value) (kd:Int) (ws:List (List UInt8)) (nums ks:List Int) (ps:Int) (hN:Zs w v ns) (hx:ZaW w ((va,vb,vc),⟨kd,ws,nums,ks,ps⟩)) (hk:ZdO ks ns.length) (hl:nums.length=3) (hq:Zer ns ⟨kd,ws,nums,ks,ps⟩=true) :
  Calls Tryz.prog 87 #[v,ndV ((va,vb,vc),⟨kd,ws,nums,ks,ps⟩)] w fun e w'=>e=.returned (.bool true)/\Below w.heap.size w w':=by
 obtain ⟨h1,h2,h3⟩:=id hx
 dsimp only at h1 h2 h3
 have FRA:=zh (fun (wr:World) (hb:Below w.heap.size w wr)=>Zhv wr _ (hx.below hb) hl)
 have AR:=zh (fun (wr:World) (hb:Below w.heap.size w wr) (vf:Value) (ts:List Tst) (hF:ZfZ wr vf ts)=>Zml wr v vc vf ns ks ts (hN.below hb) (h3.below hb) hF hk)
 have WHI:=zh (fun (wr:World) (hb:Below w.heap.size w wr) (k:Nat) (q:k<ns.length)=>ZcU (Zkm wr v ns k (hN.below hb) q))
 have RK:=zh (zi h3 hk)
 obtain ⟨A1,c1,rfl,_⟩:=h1
 obtain ⟨A2,c2,rfl,_,_,R2⟩:=h2
 obtain ⟨A3,c3,rfl,_⟩:=h3
 obtain ⟨y0,hy0⟩:∃ y,nums[0]? = some y:=⟨_,List.getElem?_eq_getElem (by omega)⟩
 obtain ⟨y1,hy1⟩:∃ y,nums[1]? = some y:=⟨_,List.getElem?_eq_getElem (by omega)⟩
 obtain ⟨y2,hy2⟩:∃ y,nums[2]? = some y:=⟨_,List.getElem?_eq_getElem (by omega)⟩
 have N0:=zh (Zd3 (n:=(⟨kd,ws,nums,ks,ps⟩:Nd)) hy0)
 have N1:=zh (Zd3 (n:=(⟨kd,ws,nums,ks,ps⟩:Nd)) hy1)
 have N2:=zh (Zd3 (n:=(⟨kd,ws,nums,ks,ps⟩:Nd)) hy2)
 obtain ⟨ad2,rfl,n0⟩:=ints_at R2 (Below.refl _ _) hy0 (by omega)
 obtain ⟨a2,e2,n1⟩:=ints_at R2 (Below.refl _ _) hy1 (by omega)
 injection e2 with e2
 subst e2
 obtain ⟨a2,e2,n2⟩:=ints_at R2 (Below.refl _ _) hy2 (by omega)
 injection e2 with e2
 subst e2
 rw [show ad2.add 0=ad2 by unfold Addr.add;simp] at n0
 rw [show ad2.add 1=⟨ad2.block,ad2.off+1,none⟩ by unfold Addr.add;simp] at n1
 rw [show ad2.add 2=⟨ad2.block,ad2.off+2,none⟩ by unfold Addr.add;simp] at n2
 unfold ndV at FRA ⊢
 dsimp only at FRA ⊢
 rw [hl] at FRA ⊢
 have hal:=below_alloc1 w (.cells #[.int .i64 kd,.slice A1 ws.length c1,.slice (some ad2) 3 c2,.slice A3 ks.length c3,.int .i64 ps] 37)
 have keep:=fun (p:Addr) (x:Value) (h:w.cell? p=some x)=>(hal.cell (World.block_lt_of_cell? _ _ h)).trans h
 have HS1:((w.alloc (.cells #[.int .i64 kd,.slice A1 ws.length c1,.slice (some ad2) 3 c2,.slice A3 ks.length c3,.int .i64 ps] 37)).cell? ⟨w.heap.size,0,none⟩=some (.int .i64 kd)/\(w.alloc (.cells #[.int .i64 kd,.slice A1 ws.length c1,.slice (some ad2) 3 c2,.slice A3 ks.length c3,.int .i64 ps] 37)).cell? ⟨w.heap.size,1,none⟩=some (.slice A1 ws.length c1)/\(w.alloc (.cells #[.int .i64 kd,.slice A1 ws.length c1,.slice (some ad2) 3 c2,.slice A3 ks.length c3,.int .i64 ps] 37)).cell? ⟨w.heap.size,2,none⟩=some (.slice (some ad2) 3 c2)/\(w.alloc (.cells #[.int .i64 kd,.slice A1 ws.length c1,.slice (some ad2) 3 c2,.slice A3 ks.length c3,.int .i64 ps] 37)).cell? ⟨w.heap.size,3,none⟩=some (.slice A3 ks.length c3)/\(w.alloc (.cells #[.int .i64 kd,.slice A1 ws.length c1,.slice (some ad2) 3 c2,.slice A3 ks.length c3,.int .i64 ps] 37)).cell? ⟨w.heap.size,4,none⟩=some (.int .i64 ps)/\(w.alloc (.cells #[.int .i64 kd,.slice A1 ws.length c1,.slice (some ad2) 3 c2,.slice A3 ks.length c3,.int .i64 ps] 37)).cell? ad2=some (.int .i64 y0)/\(w.alloc (.cells #[.int .i64 kd,.slice A1 ws.length c1,.slice (some ad2) 3 c2,.slice A3 ks.length c3,.int .i64 ps] 37)).cell? ⟨ad2.block,ad2.off+1,none⟩=some (.int .i64 y1)/\(w.alloc (.cells #[.int .i64 kd,.slice A1 ws.length c1,.slice (some ad2) 3 c2,.slice A3 ks.length c3,.int .i64 ps] 37)).cell? ⟨ad2.block,ad2.off+2,none⟩=some (.int .i64 y2))/\Below w.heap.size w (w.alloc (.cells #[.int .i64 kd,.slice A1 ws.length c1,.slice (some ad2) 3 c2,.slice A3 ks.length c3,.int .i64 ps] 37)):=⟨⟨(Blk.start w _ _).cell 0,(Blk.start w _ _).cell 1,(Blk.start w _ _).cell 2,(Blk.start w _ _).cell 3,(Blk.start w _ _).cell 4,keep _ _ n0,keep _ _ n1,keep _ _ n2⟩,hal⟩
 clear hx hN R2 n0 n1 n2 hy0 hy1 hy2 hal keep
 have STB:=zh (show Stb (fun w'=>(w'.cell? ⟨w.heap.size,0,none⟩=some (.int .i64 kd)/\w'.cell? ⟨w.heap.size,1,none⟩=some (.slice A1 ws.length c1)/\w'.cell? ⟨w.heap.size,2,none⟩=some (.slice (some ad2) 3 c2)/\w'.cell? ⟨w.heap.size,3,none⟩=some (.slice A3 ks.length c3)/\w'.cell? ⟨w.heap.size,4,none⟩=some (.int .i64 ps)/\w'.cell? ad2=some (.int .i64 y0)/\w'.cell? ⟨ad2.block,ad2.off+1,none⟩=some (.int .i64 y1)/\w'.cell? ⟨ad2.block,ad2.off+2,none⟩=some (.int .i64 y2))/\Below w.heap.size w w') from Zau (Zau (Zac _ _) ( Zau (Zac _ _) ( Zau (Zac _ _) ( Zau (Zac _ _) ( Zau (Zac _ _) ( Zau (Zac _ _) ( Zau (Zac _ _) (Zac _ _)))))))) (ZcW w))
 have EQ:(!(y0==0)&&decide (y0<=4)&&ZdY ⟨kd,ws,nums,ks,ps⟩&&(Zp ns ks [isB [7]]||Zp ns ks [isB [6],isB [7]]&&ZaD ns (atI ks 0)==2))=true:=by unfold Zer at hq;rw [N0.out] at hq;exact hq
 have FR1:=zh (show ∀ wr:World,Below w.heap.size w wr->Calls Tryz.prog 113 #[.agg #[.int .i64 kd,.slice A1 ws.length c1,.slice (some ad2) 3 c2,.slice A3 ks.length c3,.int .i64 ps]] wr fun e w'=>e=.returned (.bool (ZdY ⟨kd,ws,nums,ks,ps⟩))/\Below wr.heap.size wr w' from fun wr hb=>FRA.out wr hb)
 have A1D:=zh (fun (wr:World) (hb:Below w.heap.size w wr) (bu:Nat) (T:Za6 wr (.is [7]) (.func (.func 109) #[] #[.pointer (some ⟨bu,0,none⟩)]))=>show Calls Tryz.prog 83 #[v,.slice A3 ks.length c3,.slice (some ⟨wr.heap.size,0,none⟩) 1 1] (wr.alloc (.cells #[.func (.func 109) #[] #[.pointer (some ⟨bu,0,none⟩)]] 64)).drew (fun e w'=>e=.returned (.bool (Zp ns ks [isB [7]]))/\Below (wr.alloc (.cells #[.func (.func 109) #[] #[.pointer (some ⟨bu,0,none⟩)]] 64)).drew.heap.size (wr.alloc (.cells #[.func (.func 109) #[] #[.pointer (some ⟨bu,0,none⟩)]] 64)).drew w') from AR.out _ (hb.trans ((below_alloc1 _ _).mono hb.size)).drew _ [.is [7]] ((ZcZ wr [.is [7]] [.func (.func 109) #[] #[.pointer (some ⟨bu,0,none⟩)]] 64 (by simp [maxLen]) ⟨T.below (below_alloc1 _ _),trivial⟩).below (Za7 _)))
 have A2_:=zh (fun (wr:World) (hb:Below w.heap.size w wr) (bu b2:Nat) (T2:Za6 wr (.is [6]) (.func (.func 109) #[] #[.pointer (some ⟨b2,0,none⟩)])) (T:Za6 wr (.is [7]) (.func (.func 109) #[] #[.pointer (some ⟨bu,0,none⟩)]))=>show Calls Tryz.prog 83 #[v,.slice A3 ks.length c3,.slice (some ⟨wr.heap.size,0,none⟩) 2 2] (wr.alloc (.cells #[.func (.func 109) #[] #[.pointer (some ⟨b2,0,none⟩)],.func (.func 109) #[] #[.pointer (some ⟨bu,0,none⟩)]] 64)) (fun e w'=>e=.returned (.bool (Zp ns ks [isB [6],isB [7]]))/\Below (wr.alloc (.cells #[.func (.func 109) #[] #[.pointer (some ⟨b2,0,none⟩)],.func (.func 109) #[] #[.pointer (some ⟨bu,0,none⟩)]] 64)).heap.size (wr.alloc (.cells #[.func (.func 109) #[] #[.pointer (some ⟨b2,0,none⟩)],.func (.func 109) #[] #[.pointer (some ⟨bu,0,none⟩)]] 64)) w') from AR.out _ (hb.trans ((below_alloc1 _ _).mono hb.size)) _ [.is [6],.is [7]] (ZcZ wr [.is [6],.is [7]] [.func (.func 109) #[] #[.pointer (some ⟨b2,0,none⟩)],.func (.func 109) #[] #[.pointer (some ⟨bu,0,none⟩)]] 64 (by simp [maxLen]) ⟨T2.below (below_alloc1 _ _),T.below (below_alloc1 _ _),trivial⟩))
 have LEN:=zh (show Zp ns ks [isB [6],isB [7]]=true->ks.length=2 from fun h=>by
  refine Classical.byContradiction fun q=>?_
  rw [Zjs ns ks [isB [6],isB [7]] q] at h
  cases h)
 rw [Bool.and_eq_true,Bool.and_eq_true,Bool.and_eq_true,Bool.or_eq_true,Bool.and_eq_true,decide_eq_true_eq,Bool.not_eq_true'] at EQ
 obtain ⟨⟨⟨q0,q4⟩,hF⟩,hw⟩:=EQ
 rw [hF] at FR1
 have i0:(0:Int)<((3:Nat):Int):=by decide
 have q4':¬ 4<y0:=by omega
 clear FRA AR N0 N1 N2 hl hk hq hF
 cases hr:Zp ns ks [isB [7]]
 ·rw [hr] at A1D hw
  obtain ⟨w1,w2⟩:=hw.resolve_left (by decide)
  clear hw hr
  have hL:=LEN.out w1
  obtain ⟨k0,hk0⟩:∃ y,ks[0]? = some y:=⟨_,List.getElem?_eq_getElem (by omega)⟩
  have hin:=RK.out.2 k0 (List.mem_of_getElem? hk0)
  obtain ⟨kn,rfl⟩:∃ kn:Nat,k0=kn:=⟨k0.toNat,by omega⟩
  rw [show atI ks 0=(kn:Int) from by unfold atI;rw [show (0:Int).toNat=0 from rfl,hk0];rfl] at w2
  have WH1:=zh (fun wr hb=>WHI.out wr hb kn (by omega))
  rw [beq_iff_eq.1 w2] at WH1
  have i3n:0<ks.length:=by omega
  have i3:(0:Int)<(ks.length:Int):=by omega
  obtain ⟨A3',c3',e3,_,_,R3⟩:=RK.out.1
  injection e3 with e3 _ e4
  subst e3 e4
  obtain ⟨ad3,rfl,_⟩:=ints_at R3 (Below.refl _ _) hk0 (by omega)
  have KC:=zh (fun (wr:World) (hb:Below w.heap.size w wr)=>show wr.cell? ad3=some (.int .i64 (kn:Int)) from by obtain ⟨a2,e2,q2⟩:=ints_at R3 hb hk0 (by omega);injection e2 with e2;subst e2;rwa [show ad3.add 0=ad3 by unfold Addr.add;simp] at q2)
  rw [w1] at A2_
  clear R3 hk0 hin w1 w2 hL
  go_enter Tryz.func87,Tryz.ntmps87
  go_upto_region 1 with fail
  generalize (w.alloc (.cells #[.int .i64 kd,.slice A1 ws.length c1,.slice (some ad2) 3 c2,.slice (some ad3) ks.length c3,.int .i64 ps] 37))=w1 at *
  have HS:(w1.drew.cell? ⟨w.heap.size,0,none⟩=some (.int .i64 kd)/\w1.drew.cell? ⟨w.heap.size,1,none⟩=some (.slice A1 ws.length c1)/\w1.drew.cell? ⟨w.heap.size,2,none⟩=some (.slice (some ad2) 3 c2)/\w1.drew.cell? ⟨w.heap.size,3,none⟩=some (.slice (some ad3) ks.length c3)/\w1.drew.cell? ⟨w.heap.size,4,none⟩=some (.int .i64 ps)/\w1.drew.cell? ad2=some (.int .i64 y0)/\w1.drew.cell? ⟨ad2.block,ad2.off+1,none⟩=some (.int .i64 y1)/\w1.drew.cell? ⟨ad2.block,ad2.off+2,none⟩=some (.int .i64 y2))/\Below w.heap.size w w1.drew:=⟨HS1.1,HS1.2.drew⟩
  clear HS1
  refine wp_region_noPanic ?_
  refine wp_region_held_drew (S:=(fun w'=>(w'.cell? ⟨w.heap.size,0,none⟩=some (.int .i64 kd)/\w'.cell? ⟨w.heap.size,1,none⟩=some (.slice A1 ws.length c1)/\w'.cell? ⟨w.heap.size,2,none⟩=some (.slice (some ad2) 3 c2)/\w'.cell? ⟨w.heap.size,3,none⟩=some (.slice (some ad3) ks.length c3)/\w'.cell? ⟨w.heap.size,4,none⟩=some (.int .i64 ps)/\w'.cell? ad2=some (.int .i64 y0)/\w'.cell? ⟨ad2.block,ad2.off+1,none⟩=some (.int .i64 y1)/\w'.cell? ⟨ad2.block,ad2.off+2,none⟩=some (.int .i64 y2))/\Below w.heap.size w w')) (by kernel_rfl) HS (fun hHeld=>?_)
  clear HS
  refine tkk 0 rfl ?_
  refine tkk 1 rfl ?_
  refine tkk 2 rfl ?_
  refine tkk 3 rfl ?_
  (try simp only [cl,Act.put])
  refine rd 4 rfl fun K hK=>?_
  go_simp
  refine hK.out _ _ ?_ (fun hH2=>?_)
  ·exact STB.out _ _ (below_alloc1 _ _) (by with_reducible assumption)
  clear hK K hHeld;have hHeld:=hH2;clear hH2
  (try simp only [cl,Act.put])
  refine rd 5 rfl fun K hK=>?_
  go_simp
  (go_at_call 80;(with_reducible refine (Zdu _ _ _).mono ?_);rintro e5 w5 ⟨⟨u,rfl,hT⟩,hb⟩;obtain ⟨bu,Au,cu,rfl,_,_⟩:=id hT)
  go_wp2_with fail
  refine hK.out _ _ (STB.out _ _ hb (by with_reducible assumption)) (fun hH2=>?_)
  clear hK K hHeld hb;have hHeld:=hH2;clear hH2
  (try simp only [cl,Act.put])
  refine tkk 6 rfl ?_
  refine tkk 7 rfl ?_
  (try simp only [cl,Act.put])
  refine wpAnyH_done (by kernel_rfl) ?_ _
  refine NoPanic.normal ?_
  have T5:=zh hT
  have B5:=zh (Zm hHeld)
  have H5:=zh hHeld
  clear hT
  obtain ⟨⟨g0,g1,g2,g3,g4,n0,n1,n2⟩,_⟩:=hHeld
  go_upto_region 4 with (go_at_call 113;(with_reducible refine (FR1.out _ B5.out).mono ?_);rintro e6 w6 ⟨rfl,hb6⟩;have B6:=zh (B5.out.trans (hb6.mono B5.out.size));have K6:=zh (STB.out _ _ hb6 H5.out);have T6:=zh (T5.out.below hb6);clear hb6)
  have HS:(w6.drew.cell? ⟨w.heap.size,0,none⟩=some (.int .i64 kd)/\w6.drew.cell? ⟨w.heap.size,1,none⟩=some (.slice A1 ws.length c1)/\w6.drew.cell? ⟨w.heap.size,2,none⟩=some (.slice (some ad2) 3 c2)/\w6.drew.cell? ⟨w.heap.size,3,none⟩=some (.slice (some ad3) ks.length c3)/\w6.drew.cell? ⟨w.heap.size,4,none⟩=some (.int .i64 ps)/\w6.drew.cell? ad2=some (.int .i64 y0)/\w6.drew.cell? ⟨ad2.block,ad2.off+1,none⟩=some (.int .i64 y1)/\w6.drew.cell? ⟨ad2.block,ad2.off+2,none⟩=some (.int .i64 y2))/\Below w.heap.size w w6.drew:=⟨K6.out.1,K6.out.2.drew⟩
  refine wp_region_noPanic ?_
  refine wp_region_held_drew (S:=(fun w'=>(w'.cell? ⟨w.heap.size,0,none⟩=some (.int .i64 kd)/\w'.cell? ⟨w.heap.size,1,none⟩=some (.slice A1 ws.length c1)/\w'.cell? ⟨w.heap.size,2,none⟩=some (.slice (some ad2) 3 c2)/\w'.cell? ⟨w.heap.size,3,none⟩=some (.slice (some ad3) ks.length c3)/\w'.cell? ⟨w.heap.size,4,none⟩=some (.int .i64 ps)/\w'.cell? ad2=some (.int .i64 y0)/\w'.cell? ⟨ad2.block,ad2.off+1,none⟩=some (.int .i64 y1)/\w'.cell? ⟨ad2.block,ad2.off+2,none⟩=some (.int .i64 y2))/\Below w.heap.size w w')) (by kernel_rfl) HS (fun hHeld=>?_)
  clear HS
  refine tkk 0 rfl ?_
  refine tkk 1 rfl ?_
  refine tkk 2 rfl ?_
  refine tkk 3 rfl ?_
  (try simp only [cl,Act.put])
  refine rd 4 rfl fun K hK=>?_
  go_simp
  refine hK.out _ _ ?_ (fun hH2=>?_)
  ·exact STB.out _ _ (below_alloc1 _ _) (by with_reducible assumption)
  clear hK K hHeld;have hHeld:=hH2;clear hH2
  (try simp only [cl,Act.put])
  refine rd 5 rfl fun K hK=>?_
  go_simp
  (first
   | (go_at_call 83;(with_reducible refine (A1D.out _ B6.out _ T6.out).mono ?_);rintro e7 w7 ⟨rfl,hb⟩;have HT7:=zh (((T6.out.below (below_alloc1 _ _)).below (Za7 _)).below hb))
   | (go_at_call 80;(with_reducible refine (ZbI _ _ _).mono ?_);rintro e8 w8 ⟨⟨u2,rfl,hT2⟩,hb⟩;obtain ⟨b2,Au2,cu2,rfl,_,_⟩:=id hT2;have HT8:=zh (zi ((Zm hHeld).trans (hb.mono (Zm hHeld).size)) (zi hT2 ((HT7.out.below (below_alloc1 _ _)).below hb))))
   | (go_at_call 83;(with_reducible refine (A2_.out _ HT8.out.1 _ _ HT8.out.2.1 HT8.out.2.2).mono ?_);rintro e9 w9 ⟨rfl,hb⟩)
   | (go_at_call 115;(with_reducible refine (WH1.out _ (Zm (by with_reducible assumption))).mono ?_);rintro e10 w10 ⟨rfl,hb⟩))
  go_wp2_with fail
  refine hK.out _ _ (STB.out _ _ hb (by with_reducible assumption)) (fun hH2=>?_)
  clear hK K hHeld hb;have hHeld:=hH2;clear hH2
  (try simp only [cl,Act.put])
  refine tkk 6 rfl ?_
  refine tkk 7 rfl ?_
  refine tkk 8 rfl ?_
  refine tkk 9 rfl ?_
  refine tkk 12 rfl ?_
  (try simp only [cl,Act.put])
  refine rd 10 rfl fun K hK=>?_
  go_simp
  refine hK.out _ _ ?_ (fun hH2=>?_)
  ·exact STB.out _ _ (below_alloc1 _ _) (by with_reducible assumption)
  clear hK K hHeld;have hHeld:=hH2;clear hH2
  (try simp only [cl,Act.put])
  refine rd 11 rfl fun K hK=>?_
  go_simp
  (first
   | (go_at_call 83;(with_reducible refine (A1D.out _ B6.out _ T6.out).mono ?_);rintro e7 w7 ⟨rfl,hb⟩;have HT7:=zh (((T6.out.below (below_alloc1 _ _)).below (Za7 _)).below hb))
   | (go_at_call 80;(with_reducible refine (ZbI _ _ _).mono ?_);rintro e8 w8 ⟨⟨u2,rfl,hT2⟩,hb⟩;obtain ⟨b2,Au2,cu2,rfl,_,_⟩:=id hT2;have HT8:=zh (zi ((Zm hHeld).trans (hb.mono (Zm hHeld).size)) (zi hT2 ((HT7.out.below (below_alloc1 _ _)).below hb))))
   | (go_at_call 83;(with_reducible refine (A2_.out _ HT8.out.1 _ _ HT8.out.2.1 HT8.out.2.2).mono ?_);rintro e9 w9 ⟨rfl,hb⟩)
   | (go_at_call 115;(with_reducible refine (WH1.out _ (Zm (by with_reducible assumption))).mono ?_);rintro e10 w10 ⟨rfl,hb⟩))
  go_wp2_with fail
  refine hK.out _ _ (STB.out _ _ hb (by with_reducible assumption)) (fun hH2=>?_)
  clear hK K hHeld hb;have hHeld:=hH2;clear hH2
  (try simp only [cl,Act.put])
  refine rd 13 rfl fun K hK=>?_
  go_simp
  refine hK.out _ _ ?_ (fun hH2=>?_)
  ·exact STB.out _ _ (below_alloc1 _ _) (by with_reducible assumption)
  clear hK K hHeld;have hHeld:=hH2;clear hH2
  (try simp only [cl,Act.put])
  refine rd 14 rfl fun K hK=>?_
  go_simp
  (first
   | (go_at_call 83;(with_reducible refine (A1D.out _ B6.out _ T6.out).mono ?_);rintro e7 w7 ⟨rfl,hb⟩;have HT7:=zh (((T6.out.below (below_alloc1 _ _)).below (Za7 _)).below hb))
   | (go_at_call 80;(with_reducible refine (ZbI _ _ _).mono ?_);rintro e8 w8 ⟨⟨u2,rfl,hT2⟩,hb⟩;obtain ⟨b2,Au2,cu2,rfl,_,_⟩:=id hT2;have HT8:=zh (zi ((Zm hHeld).trans (hb.mono (Zm hHeld).size)) (zi hT2 ((HT7.out.below (below_alloc1 _ _)).below hb))))
   | (go_at_call 83;(with_reducible refine (A2_.out _ HT8.out.1 _ _ HT8.out.2.1 HT8.out.2.2).mono ?_);rintro e9 w9 ⟨rfl,hb⟩)
   | (go_at_call 115;(with_reducible refine (WH1.out _ (Zm (by with_reducible assumption))).mono ?_);rintro e10 w10 ⟨rfl,hb⟩))
  go_wp2_with fail
  refine hK.out _ _ (STB.out _ _ hb (by with_reducible assumption)) (fun hH2=>?_)
  clear hK K hHeld hb;have hHeld:=hH2;clear hH2
  (try simp only [cl,Act.put])
  refine tkk 15 rfl ?_
  refine tkk 16 rfl ?_
  refine tkk 17 rfl ?_
  refine tkk 18 rfl ?_
  refine tkk 19 rfl ?_
  (try simp only [cl,Act.put])
  refine rd 20 rfl fun K hK=>?_
  have q20:=KC.out _ (Zm hHeld)
  go_simp
  refine hK.out _ _ (by with_reducible assumption) (fun _=>?_)
  clear hK K q20
  (try simp only [cl,Act.put])
  refine rd 21 rfl fun K hK=>?_
  go_simp
  (first
   | (go_at_call 83;(with_reducible refine (A1D.out _ B6.out _ T6.out).mono ?_);rintro e7 w7 ⟨rfl,hb⟩;have HT7:=zh (((T6.out.below (below_alloc1 _ _)).below (Za7 _)).below hb))
   | (go_at_call 80;(with_reducible refine (ZbI _ _ _).mono ?_);rintro e8 w8 ⟨⟨u2,rfl,hT2⟩,hb⟩;obtain ⟨b2,Au2,cu2,rfl,_,_⟩:=id hT2;have HT8:=zh (zi ((Zm hHeld).trans (hb.mono (Zm hHeld).size)) (zi hT2 ((HT7.out.below (below_alloc1 _ _)).below hb))))
   | (go_at_call 83;(with_reducible refine (A2_.out _ HT8.out.1 _ _ HT8.out.2.1 HT8.out.2.2).mono ?_);rintro e9 w9 ⟨rfl,hb⟩)
   | (go_at_call 115;(with_reducible refine (WH1.out _ (Zm (by with_reducible assumption))).mono ?_);rintro e10 w10 ⟨rfl,hb⟩))
  go_wp2_with fail
  refine hK.out _ _ (STB.out _ _ hb (by with_reducible assumption)) (fun hH2=>?_)
  clear hK K hHeld hb;have hHeld:=hH2;clear hH2
  (try simp only [cl,Act.put])
  refine tkk 22 rfl ?_
  refine tkk 23 rfl ?_
  refine tkk 24 rfl ?_
  refine tkk 25 rfl ?_
  (try simp only [cl,Act.put])
  refine wpAnyH_done (by kernel_rfl) ?_ _
  refine NoPanic.normal ?_
  have B9:=zh (Zm hHeld)
  clear hHeld
  go_wp2_with fail
  go_ret
  exact ⟨rfl,B9.out⟩
 ·rw [hr] at A1D
  clear hw hr
  go_enter Tryz.func87,Tryz.ntmps87
  go_upto_region 1 with fail
  generalize (w.alloc (.cells #[.int .i64 kd,.slice A1 ws.length c1,.slice (some ad2) 3 c2,.slice A3 ks.length c3,.int .i64 ps] 37))=w1 at *
  have HS:(w1.drew.cell? ⟨w.heap.size,0,none⟩=some (.int .i64 kd)/\w1.drew.cell? ⟨w.heap.size,1,none⟩=some (.slice A1 ws.length c1)/\w1.drew.cell? ⟨w.heap.size,2,none⟩=some (.slice (some ad2) 3 c2)/\w1.drew.cell? ⟨w.heap.size,3,none⟩=some (.slice A3 ks.length c3)/\w1.drew.cell? ⟨w.heap.size,4,none⟩=some (.int .i64 ps)/\w1.drew.cell? ad2=some (.int .i64 y0)/\w1.drew.cell? ⟨ad2.block,ad2.off+1,none⟩=some (.int .i64 y1)/\w1.drew.cell? ⟨ad2.block,ad2.off+2,none⟩=some (.int .i64 y2))/\Below w.heap.size w w1.drew:=⟨HS1.1,HS1.2.drew⟩
  clear HS1
  refine wp_region_noPanic ?_
  refine wp_region_held_drew (S:=(fun w'=>(w'.cell? ⟨w.heap.size,0,none⟩=some (.int .i64 kd)/\w'.cell? ⟨w.heap.size,1,none⟩=some (.slice A1 ws.length c1)/\w'.cell? ⟨w.heap.size,2,none⟩=some (.slice (some ad2) 3 c2)/\w'.cell? ⟨w.heap.size,3,none⟩=some (.slice A3 ks.length c3)/\w'.cell? ⟨w.heap.size,4,none⟩=some (.int .i64 ps)/\w'.cell? ad2=some (.int .i64 y0)/\w'.cell? ⟨ad2.block,ad2.off+1,none⟩=some (.int .i64 y1)/\w'.cell? ⟨ad2.block,ad2.off+2,none⟩=some (.int .i64 y2))/\Below w.heap.size w w')) (by kernel_rfl) HS (fun hHeld=>?_)
  clear HS
  refine tkk 0 rfl ?_
  refine tkk 1 rfl ?_
  refine tkk 2 rfl ?_
  refine tkk 3 rfl ?_
  (try simp only [cl,Act.put])
  refine rd 4 rfl fun K hK=>?_
  go_simp
  refine hK.out _ _ ?_ (fun hH2=>?_)
  ·exact STB.out _ _ (below_alloc1 _ _) (by with_reducible assumption)
  clear hK K hHeld;have hHeld:=hH2;clear hH2
  (try simp only [cl,Act.put])
  refine rd 5 rfl fun K hK=>?_
  go_simp
  (go_at_call 80;(with_reducible refine (Zdu _ _ _).mono ?_);rintro e5 w5 ⟨⟨u,rfl,hT⟩,hb⟩;obtain ⟨bu,Au,cu,rfl,_,_⟩:=id hT)
  go_wp2_with fail
  refine hK.out _ _ (STB.out _ _ hb (by with_reducible assumption)) (fun hH2=>?_)
  clear hK K hHeld hb;have hHeld:=hH2;clear hH2
  (try simp only [cl,Act.put])
  refine tkk 6 rfl ?_
  refine tkk 7 rfl ?_
  (try simp only [cl,Act.put])
  refine wpAnyH_done (by kernel_rfl) ?_ _
  refine NoPanic.normal ?_
  have T5:=zh hT
  have B5:=zh (Zm hHeld)
  have H5:=zh hHeld
  clear hT
  obtain ⟨⟨g0,g1,g2,g3,g4,n0,n1,n2⟩,_⟩:=hHeld
  go_upto_region 4 with (go_at_call 113;(with_reducible refine (FR1.out _ B5.out).mono ?_);rintro e6 w6 ⟨rfl,hb6⟩;have B6:=zh (B5.out.trans (hb6.mono B5.out.size));have K6:=zh (STB.out _ _ hb6 H5.out);have T6:=zh (T5.out.below hb6);clear hb6)
  have HS:(w6.drew.cell? ⟨w.heap.size,0,none⟩=some (.int .i64 kd)/\w6.drew.cell? ⟨w.heap.size,1,none⟩=some (.slice A1 ws.length c1)/\w6.drew.cell? ⟨w.heap.size,2,none⟩=some (.slice (some ad2) 3 c2)/\w6.drew.cell? ⟨w.heap.size,3,none⟩=some (.slice A3 ks.length c3)/\w6.drew.cell? ⟨w.heap.size,4,none⟩=some (.int .i64 ps)/\w6.drew.cell? ad2=some (.int .i64 y0)/\w6.drew.cell? ⟨ad2.block,ad2.off+1,none⟩=some (.int .i64 y1)/\w6.drew.cell? ⟨ad2.block,ad2.off+2,none⟩=some (.int .i64 y2))/\Below w.heap.size w w6.drew:=⟨K6.out.1,K6.out.2.drew⟩
  refine wp_region_noPanic ?_
  refine wp_region_held_drew (S:=(fun w'=>(w'.cell? ⟨w.heap.size,0,none⟩=some (.int .i64 kd)/\w'.cell? ⟨w.heap.size,1,none⟩=some (.slice A1 ws.length c1)/\w'.cell? ⟨w.heap.size,2,none⟩=some (.slice (some ad2) 3 c2)/\w'.cell? ⟨w.heap.size,3,none⟩=some (.slice A3 ks.length c3)/\w'.cell? ⟨w.heap.size,4,none⟩=some (.int .i64 ps)/\w'.cell? ad2=some (.int .i64 y0)/\w'.cell? ⟨ad2.block,ad2.off+1,none⟩=some (.int .i64 y1)/\w'.cell? ⟨ad2.block,ad2.off+2,none⟩=some (.int .i64 y2))/\Below w.heap.size w w')) (by kernel_rfl) HS (fun hHeld=>?_)
  clear HS
  refine tkk 0 rfl ?_
  refine tkk 1 rfl ?_
  refine tkk 2 rfl ?_
  refine tkk 3 rfl ?_
  (try simp only [cl,Act.put])
  refine rd 4 rfl fun K hK=>?_
  go_simp
  refine hK.out _ _ ?_ (fun hH2=>?_)
  ·exact STB.out _ _ (below_alloc1 _ _) (by with_reducible assumption)
  clear hK K hHeld;have hHeld:=hH2;clear hH2
  (try simp only [cl,Act.put])
  refine rd 5 rfl fun K hK=>?_
  go_simp
  (first
   | (go_at_call 83;(with_reducible refine (A1D.out _ B6.out _ T6.out).mono ?_);rintro e7 w7 ⟨rfl,hb⟩;have HT7:=zh (((T6.out.below (below_alloc1 _ _)).below (Za7 _)).below hb))
   | (go_at_call 80;(with_reducible refine (ZbI _ _ _).mono ?_);rintro e8 w8 ⟨⟨u2,rfl,hT2⟩,hb⟩;obtain ⟨b2,Au2,cu2,rfl,_,_⟩:=id hT2;have HT8:=zh (zi ((Zm hHeld).trans (hb.mono (Zm hHeld).size)) (zi hT2 ((HT7.out.below (below_alloc1 _ _)).below hb))))
   | (go_at_call 83;(with_reducible refine (A2_.out _ HT8.out.1 _ _ HT8.out.2.1 HT8.out.2.2).mono ?_);rintro e9 w9 ⟨rfl,hb⟩)
   | (go_at_call 115;(with_reducible refine (WH1.out _ (Zm (by with_reducible assumption))).mono ?_);rintro e10 w10 ⟨rfl,hb⟩))
  go_wp2_with fail
  refine hK.out _ _ (STB.out _ _ hb (by with_reducible assumption)) (fun hH2=>?_)
  clear hK K hHeld hb;have hHeld:=hH2;clear hH2
  (try simp only [cl,Act.put])
  refine tkk 6 rfl ?_
  refine txk 7 rfl ?_
  refine txk 8 rfl ?_
  refine txk 9 rfl ?_
  refine txk 10 rfl ?_
  refine txk 11 rfl ?_
  refine txk 12 rfl ?_
  refine txk 13 rfl ?_
  refine txk 14 rfl ?_
  refine txk 15 rfl ?_
  refine txk 16 rfl ?_
  refine txk 17 rfl ?_
  refine txk 18 rfl ?_
  refine txk 19 rfl ?_
  refine txk 20 rfl ?_
  refine txk 21 rfl ?_
  refine txk 22 rfl ?_
  refine txk 23 rfl ?_
  refine tkk 24 rfl ?_
  refine tkk 25 rfl ?_
  (try simp only [cl,Act.put])
  refine wpAnyH_done (by kernel_rfl) ?_ _
  refine NoPanic.normal ?_
  have B9:=zh (Zm hHeld)
  clear hHeld
  go_wp2_with fail
  go_ret
  exact ⟨rfl,B9.out⟩
end
section
open Go.RowKit
local macro "ba_using " t:term:tactic=>`(tactic| simpa only [Bool.and_eq_true,Bool.or_eq_true,decide_eq_true_eq,and_assoc] using $t)
theorem ZkS {w:World} {A:Option Addr} {c m:Nat} {v:Value} {l:List Int} (h:Zbh w v l) (e:v=.slice A l.length c) (hm:m<=l.length) :
  Zbh w (.slice A m c) (l.take m)/\Zbh w (.slice (if c=m then A else A.map (·.add m)) (l.length-m) (c-m)) (l.drop m):=by
 obtain ⟨A',c',e',h1,h2,h3⟩:=h
 rw [e] at e'
 injection e' with a _ b
 subst a b
 refine ⟨⟨A,c,by rw [List.length_take,Nat.min_eq_left hm],by rw [List.length_take];omega,h2,?_⟩,⟨_,c-m,by rw [List.length_drop],by rw [List.length_drop];omega,by omega,?_⟩⟩
 ·rw [List.length_take,Nat.min_eq_left hm]
  refine ⟨by simp;omega,fun hn=>?_⟩
  obtain ⟨ad,e,hb,hc⟩:=h3.2 (by omega)
  refine ⟨ad,e,hb,fun j u hj=>hc j u ?_⟩
  rw [List.map_take,List.getElem?_take] at hj
  split at hj
  ·exact hj
  ·cases hj
 ·have:=h3.cut (k:=m) (cap:=c) hm h1
  rw [Nat.mul_one] at this
  rw [List.length_drop,List.map_drop]
  exact this
theorem Znw (w:World) (v:Value) (ns:List Nd) (va vb vc:Value) (kd:Int) (ws:List (List UInt8)) (nums ks:List Int) (ps:Int) (hN:Zs w v ns) (hx:ZaW w ((va,vb,vc),⟨kd,ws,nums,ks,ps⟩)) (hk:ZdO ks ns.length) (hl:Zn ns ⟨kd,ws,nums,ks,ps⟩=true) :
  Calls Tryz.prog 63 #[v,ndV ((va,vb,vc),⟨kd,ws,nums,ks,ps⟩)] w fun e w'=>e=.returned (.bool true)/\Below w.heap.size w w':=by
 obtain ⟨h1,h2,h3⟩:=id hx
 dsimp only at h1 h2 h3
 have AR:=zh (fun (wr:World) (hb:Below w.heap.size w wr) (vf:Value) (ts:List Tst) (hF:ZfZ wr vf ts) (h:Zp ns ks (ts.map Tst.f)=true)=>ZkA wr v vc vf ns ks ts (hN.below hb) (h3.below hb) hF hk h)
 have ALL:=zh (fun (wr:World) (hb:Below w.heap.size w wr) (u:Value) (t:Tst) (hu:Za6 wr t u) (h:ZbM ns ks t.f=true)=>Zmk wr v vc u ns ks t (hN.below hb) (h3.below hb) hu hk h)
 have HS0:=zh (fun (wr:World) (hb:Below w.heap.size w wr) (a b:Nat) (h:ZF ⟨kd,ws,nums,ks,ps⟩ a b=true)=>ZoE wr _ a b (hx.below hb) h)
 have K3:=zh (zi h3 (zi hN hk))
 have HE0:=zh (fun (wr:World) (hb:Below w.heap.size w wr) (a b:Nat) (h:ZF ⟨kd,ws,nums,ks,ps⟩ a b=false)=>ZoE wr _ a b (hx.below hb) h)
 have AE0:=zh (fun (wr:World) (hb:Below w.heap.size w wr) (vf:Value) (ts:List Tst) (hF:ZfZ wr vf ts) (h:Zp ns ks (ts.map Tst.f)=false)=>ZkA wr v vc vf ns ks ts (hN.below hb) (h3.below hb) hF hk h)
 have PT:=zh (fun (hl:nums.length=3) (hq:Zer ns ⟨kd,ws,nums,ks,ps⟩=true) (wr:World) (hb:Below w.heap.size w wr)=>Zqw wr v ns _ _ _ kd ws nums ks ps (hN.below hb) (hx.below hb) hk hl hq)
 have CT:=zh (fun (hl:nums.length=3) (hq:ZcK ns ⟨kd,ws,nums,ks,ps⟩=true) (wr:World) (hb:Below w.heap.size w wr)=>ZkI wr v ns _ _ _ kd ws nums ks ps (hN.below hb) (hx.below hb) hk hl hq)
 obtain ⟨A1,c1,rfl,_⟩:=h1
 obtain ⟨A2,c2,rfl,_,_,R2'⟩:=h2
 have R2:=zh R2'
 clear R2'
 obtain ⟨A3,c3,rfl,_⟩:=h3
 unfold ndV at HS0 HE0 PT CT ⊢
 dsimp only at HS0 HE0 PT CT ⊢
 clear hx hN hk
 have STB:=zh (show Stb (fun w'=>(w'.cell? ⟨w.heap.size,0,none⟩=some (.int .i64 kd)/\w'.cell? ⟨w.heap.size,1,none⟩=some (.slice A1 ws.length c1)/\w'.cell? ⟨w.heap.size,2,none⟩=some (.slice A2 nums.length c2)/\w'.cell? ⟨w.heap.size,3,none⟩=some (.slice A3 ks.length c3)/\w'.cell? ⟨w.heap.size,4,none⟩=some (.int .i64 ps))/\Below w.heap.size w w') from Zau (Zau (Zac _ _) (Zau (Zac _ _) (Zau (Zac _ _) (Zau (Zac _ _) (Zac _ _))))) (ZcW w))
 go_enter Tryz.func63,Tryz.ntmps63
 go_upto_region 1 with fail
 have HS1:((w.alloc (.cells #[.int .i64 kd,.slice A1 ws.length c1,.slice A2 nums.length c2,.slice A3 ks.length c3,.int .i64 ps] 37)).cell? ⟨w.heap.size,0,none⟩=some (.int .i64 kd)/\(w.alloc (.cells #[.int .i64 kd,.slice A1 ws.length c1,.slice A2 nums.length c2,.slice A3 ks.length c3,.int .i64 ps] 37)).cell? ⟨w.heap.size,1,none⟩=some (.slice A1 ws.length c1)/\(w.alloc (.cells #[.int .i64 kd,.slice A1 ws.length c1,.slice A2 nums.length c2,.slice A3 ks.length c3,.int .i64 ps] 37)).cell? ⟨w.heap.size,2,none⟩=some (.slice A2 nums.length c2)/\(w.alloc (.cells #[.int .i64 kd,.slice A1 ws.length c1,.slice A2 nums.length c2,.slice A3 ks.length c3,.int .i64 ps] 37)).cell? ⟨w.heap.size,3,none⟩=some (.slice A3 ks.length c3)/\(w.alloc (.cells #[.int .i64 kd,.slice A1 ws.length c1,.slice A2 nums.length c2,.slice A3 ks.length c3,.int .i64 ps] 37)).cell? ⟨w.heap.size,4,none⟩=some (.int .i64 ps))/\Below w.heap.size w (w.alloc (.cells #[.int .i64 kd,.slice A1 ws.length c1,.slice A2 nums.length c2,.slice A3 ks.length c3,.int .i64 ps] 37)):=⟨⟨(Blk.start w _ _).cell 0,(Blk.start w _ _).cell 1,(Blk.start w _ _).cell 2,(Blk.start w _ _).cell 3,(Blk.start w _ _).cell 4⟩,below_alloc1 w _⟩
 generalize (w.alloc (.cells #[.int .i64 kd,.slice A1 ws.length c1,.slice A2 nums.length c2,.slice A3 ks.length c3,.int .i64 ps] 37))=w1 at *
 have HS:(w1.drew.cell? ⟨w.heap.size,0,none⟩=some (.int .i64 kd)/\w1.drew.cell? ⟨w.heap.size,1,none⟩=some (.slice A1 ws.length c1)/\w1.drew.cell? ⟨w.heap.size,2,none⟩=some (.slice A2 nums.length c2)/\w1.drew.cell? ⟨w.heap.size,3,none⟩=some (.slice A3 ks.length c3)/\w1.drew.cell? ⟨w.heap.size,4,none⟩=some (.int .i64 ps))/\Below w.heap.size w w1.drew:=⟨HS1.1,HS1.2.drew⟩
 clear HS1
 refine wp_region_noPanic ?_
 refine wp_region_held_drew (S:=(fun w'=>(w'.cell? ⟨w.heap.size,0,none⟩=some (.int .i64 kd)/\w'.cell? ⟨w.heap.size,1,none⟩=some (.slice A1 ws.length c1)/\w'.cell? ⟨w.heap.size,2,none⟩=some (.slice A2 nums.length c2)/\w'.cell? ⟨w.heap.size,3,none⟩=some (.slice A3 ks.length c3)/\w'.cell? ⟨w.heap.size,4,none⟩=some (.int .i64 ps))/\Below w.heap.size w w')) (by kernel_rfl) HS (fun hHeld=>?_)
 clear HS
 refine tk 0 rfl ?_
 refine tk 1 rfl ?_
 refine tk 2 rfl ?_
 (try simp only [cl,Act.put])
 refine rd 3 rfl fun K hK=>?_
 go_simp
 refine hK.out _ _ ?_ (fun hH2=>?_)
 ·exact STB.out _ _ (below_alloc1 _ _) (by with_reducible assumption)
 clear hK K hHeld;have hHeld:=hH2;clear hH2
 (try simp only [cl,Act.put])
 refine rd 4 rfl fun K hK=>?_
 go_simp
 (go_at_call 80;(with_reducible refine (Zdu _ _ _).mono ?_);rintro e5 w5 ⟨⟨u,rfl,hT⟩,hb⟩;obtain ⟨bu,Au,cu,rfl,_,_⟩:=id hT)
 go_wp2_with fail
 refine hK.out _ _ (STB.out _ _ hb (by with_reducible assumption)) (fun hH2=>?_)
 clear hK K hHeld hb;have hHeld:=hH2;clear hH2
 (try simp only [cl,Act.put])
 refine tk 5 rfl ?_
 refine tk 6 rfl ?_
 (try simp only [cl,Act.put])
 refine wpAnyH_done (by kernel_rfl) ?_ _
 refine NoPanic.normal ?_
 have T3:=zh hT
 have H3:=zh (Zm hHeld)
 have HH:=zh hHeld
 clear hT
 obtain ⟨⟨g0,g1,g2,g3,g4⟩,_⟩:=hHeld
 have hkk:=Zk8 hl
 rcases hkk with rfl | rfl | rfl | rfl | rfl | rfl | rfl | rfl | rfl | rfl | rfl | rfl | rfl | rfl | rfl | rfl | rfl | rfl | rfl | rfl | rfl | rfl | rfl | rfl
 ·obtain ⟨q1,q2⟩:ZF ⟨0,ws,nums,ks,ps⟩ 0 0=true/\ZbM ns ks (isB [1,4])=true:=by ba_using show (ZF ⟨0,ws,nums,ks,ps⟩ 0 0&&ZbM ns ks (isB [1,4]))=true from hl
  have HA1:=zh (show ∀ wr:World,Below w.heap.size w wr->Calls Tryz.prog 81 #[.agg #[.int .i64 0,.slice A1 ws.length c1,.slice A2 nums.length c2,.slice A3 ks.length c3,.int .i64 ps],.int .i64 0,.int .i64 0] wr fun e w'=>e=.returned (.bool true)/\Below wr.heap.size wr w' from fun wr hb=>HS0.out wr hb 0 0 q1)
  have QA:=zh (show ZbM ns ks (Tst.is [1,4]).f=true from q2)
  clear q1 q2 hl
  go_upto_region 4 with fail
  have HS:(w5.drew.cell? ⟨w.heap.size,0,none⟩=some (.int .i64 0)/\w5.drew.cell? ⟨w.heap.size,1,none⟩=some (.slice A1 ws.length c1)/\w5.drew.cell? ⟨w.heap.size,2,none⟩=some (.slice A2 nums.length c2)/\w5.drew.cell? ⟨w.heap.size,3,none⟩=some (.slice A3 ks.length c3)/\w5.drew.cell? ⟨w.heap.size,4,none⟩=some (.int .i64 ps))/\Below w.heap.size w w5.drew:=⟨HH.out.1,H3.out.drew⟩
  clear HH g0 g1 g2 g3 g4
  refine wp_region_noPanic ?_
  refine wp_region_held_drew (S:=(fun w'=>(w'.cell? ⟨w.heap.size,0,none⟩=some (.int .i64 0)/\w'.cell? ⟨w.heap.size,1,none⟩=some (.slice A1 ws.length c1)/\w'.cell? ⟨w.heap.size,2,none⟩=some (.slice A2 nums.length c2)/\w'.cell? ⟨w.heap.size,3,none⟩=some (.slice A3 ks.length c3)/\w'.cell? ⟨w.heap.size,4,none⟩=some (.int .i64 ps))/\Below w.heap.size w w')) (by kernel_rfl) HS (fun hHeld=>?_)
  clear HS
  refine tkk 0 rfl ?_
  (try simp only [cl,Act.put])
  refine rd 1 rfl fun K hK=>?_
  go_simp
  (first
   | (go_at_call 81;(with_reducible refine (HA1.out _ (Zm (by with_reducible assumption))).mono ?_);rintro e6 w6 ⟨rfl,hb⟩)
   | (go_at_call 80;(with_reducible refine (ZfV _ _ _ _).mono ?_);rintro e7 w7 ⟨⟨u2,rfl,hT2⟩,hb⟩)
   | (go_at_call 82;(with_reducible refine (ALL.out _ (Zm (by with_reducible assumption)) _ _ hT2 QA.out).mono ?_);rintro e8 w8 ⟨rfl,hb⟩))
  go_wp2_with fail
  refine hK.out _ _ (STB.out _ _ hb (by with_reducible assumption)) (fun hH2=>?_)
  clear hK K hHeld hb;have hHeld:=hH2;clear hH2
  (try simp only [cl,Act.put])
  refine tkk 2 rfl ?_
  refine tkk 3 rfl ?_
  refine tkk 4 rfl ?_
  refine tkk 5 rfl ?_
  (try simp only [cl,Act.put])
  refine rd 6 rfl fun K hK=>?_
  go_simp
  refine hK.out _ _ ?_ (fun hH2=>?_)
  ·exact STB.out _ _ (below_alloc1 _ _) (by with_reducible assumption)
  clear hK K hHeld;have hHeld:=hH2;clear hH2
  (try simp only [cl,Act.put])
  refine rd 7 rfl fun K hK=>?_
  go_simp
  (first
   | (go_at_call 81;(with_reducible refine (HA1.out _ (Zm (by with_reducible assumption))).mono ?_);rintro e6 w6 ⟨rfl,hb⟩)
   | (go_at_call 80;(with_reducible refine (ZfV _ _ _ _).mono ?_);rintro e7 w7 ⟨⟨u2,rfl,hT2⟩,hb⟩)
   | (go_at_call 82;(with_reducible refine (ALL.out _ (Zm (by with_reducible assumption)) _ _ hT2 QA.out).mono ?_);rintro e8 w8 ⟨rfl,hb⟩))
  go_wp2_with fail
  refine hK.out _ _ (STB.out _ _ hb (by with_reducible assumption)) (fun hH2=>?_)
  clear hK K hHeld hb;have hHeld:=hH2;clear hH2
  (try simp only [cl,Act.put])
  refine rd 8 rfl fun K hK=>?_
  go_simp
  (first
   | (go_at_call 81;(with_reducible refine (HA1.out _ (Zm (by with_reducible assumption))).mono ?_);rintro e6 w6 ⟨rfl,hb⟩)
   | (go_at_call 80;(with_reducible refine (ZfV _ _ _ _).mono ?_);rintro e7 w7 ⟨⟨u2,rfl,hT2⟩,hb⟩)
   | (go_at_call 82;(with_reducible refine (ALL.out _ (Zm (by with_reducible assumption)) _ _ hT2 QA.out).mono ?_);rintro e8 w8 ⟨rfl,hb⟩))
  go_wp2_with fail
  refine hK.out _ _ (STB.out _ _ hb (by with_reducible assumption)) (fun hH2=>?_)
  clear hK K hHeld hb;have hHeld:=hH2;clear hH2
  (try simp only [cl,Act.put])
  refine tkk 9 rfl ?_
  refine tkk 10 rfl ?_
  (try simp only [cl,Act.put])
  refine wpAnyH_done (by kernel_rfl) ?_ _
  refine NoPanic.normal ?_
  have B9:=zh (Zm hHeld)
  clear hHeld
  go_wp2_with fail
  go_ret
  exact ⟨rfl,B9.out⟩
 ·obtain ⟨q1,q2⟩:ZF ⟨1,ws,nums,ks,ps⟩ 1 0=true/\ZbM ns ks (isB [2,3])=true:=by ba_using show (ZF ⟨1,ws,nums,ks,ps⟩ 1 0&&ZbM ns ks (isB [2,3]))=true from hl
  have HA1:=zh (show ∀ wr:World,Below w.heap.size w wr->Calls Tryz.prog 81 #[.agg #[.int .i64 1,.slice A1 ws.length c1,.slice A2 nums.length c2,.slice A3 ks.length c3,.int .i64 ps],.int .i64 1,.int .i64 0] wr fun e w'=>e=.returned (.bool true)/\Below wr.heap.size wr w' from fun wr hb=>HS0.out wr hb 1 0 q1)
  have QA:=zh (show ZbM ns ks (Tst.is [2,3]).f=true from q2)
  clear q1 q2 hl
  go_upto_region 6 with fail
  have HS:(w5.drew.cell? ⟨w.heap.size,0,none⟩=some (.int .i64 1)/\w5.drew.cell? ⟨w.heap.size,1,none⟩=some (.slice A1 ws.length c1)/\w5.drew.cell? ⟨w.heap.size,2,none⟩=some (.slice A2 nums.length c2)/\w5.drew.cell? ⟨w.heap.size,3,none⟩=some (.slice A3 ks.length c3)/\w5.drew.cell? ⟨w.heap.size,4,none⟩=some (.int .i64 ps))/\Below w.heap.size w w5.drew:=⟨HH.out.1,H3.out.drew⟩
  clear HH g0 g1 g2 g3 g4
  refine wp_region_noPanic ?_
  refine wp_region_held_drew (S:=(fun w'=>(w'.cell? ⟨w.heap.size,0,none⟩=some (.int .i64 1)/\w'.cell? ⟨w.heap.size,1,none⟩=some (.slice A1 ws.length c1)/\w'.cell? ⟨w.heap.size,2,none⟩=some (.slice A2 nums.length c2)/\w'.cell? ⟨w.heap.size,3,none⟩=some (.slice A3 ks.length c3)/\w'.cell? ⟨w.heap.size,4,none⟩=some (.int .i64 ps))/\Below w.heap.size w w')) (by kernel_rfl) HS (fun hHeld=>?_)
  clear HS
  refine tkk 0 rfl ?_
  (try simp only [cl,Act.put])
  refine rd 1 rfl fun K hK=>?_
  go_simp
  (first
   | (go_at_call 81;(with_reducible refine (HA1.out _ (Zm (by with_reducible assumption))).mono ?_);rintro e6 w6 ⟨rfl,hb⟩)
   | (go_at_call 80;(with_reducible refine (ZfV _ _ _ _).mono ?_);rintro e7 w7 ⟨⟨u2,rfl,hT2⟩,hb⟩)
   | (go_at_call 82;(with_reducible refine (ALL.out _ (Zm (by with_reducible assumption)) _ _ hT2 QA.out).mono ?_);rintro e8 w8 ⟨rfl,hb⟩))
  go_wp2_with fail
  refine hK.out _ _ (STB.out _ _ hb (by with_reducible assumption)) (fun hH2=>?_)
  clear hK K hHeld hb;have hHeld:=hH2;clear hH2
  (try simp only [cl,Act.put])
  refine tkk 2 rfl ?_
  refine tkk 3 rfl ?_
  refine tkk 4 rfl ?_
  refine tkk 5 rfl ?_
  (try simp only [cl,Act.put])
  refine rd 6 rfl fun K hK=>?_
  go_simp
  refine hK.out _ _ ?_ (fun hH2=>?_)
  ·exact STB.out _ _ (below_alloc1 _ _) (by with_reducible assumption)
  clear hK K hHeld;have hHeld:=hH2;clear hH2
  (try simp only [cl,Act.put])
  refine rd 7 rfl fun K hK=>?_
  go_simp
  (first
   | (go_at_call 81;(with_reducible refine (HA1.out _ (Zm (by with_reducible assumption))).mono ?_);rintro e6 w6 ⟨rfl,hb⟩)
   | (go_at_call 80;(with_reducible refine (ZfV _ _ _ _).mono ?_);rintro e7 w7 ⟨⟨u2,rfl,hT2⟩,hb⟩)
   | (go_at_call 82;(with_reducible refine (ALL.out _ (Zm (by with_reducible assumption)) _ _ hT2 QA.out).mono ?_);rintro e8 w8 ⟨rfl,hb⟩))
  go_wp2_with fail
  refine hK.out _ _ (STB.out _ _ hb (by with_reducible assumption)) (fun hH2=>?_)
  clear hK K hHeld hb;have hHeld:=hH2;clear hH2
  (try simp only [cl,Act.put])
  refine rd 8 rfl fun K hK=>?_
  go_simp
  (first
   | (go_at_call 81;(with_reducible refine (HA1.out _ (Zm (by with_reducible assumption))).mono ?_);rintro e6 w6 ⟨rfl,hb⟩)
   | (go_at_call 80;(with_reducible refine (ZfV _ _ _ _).mono ?_);rintro e7 w7 ⟨⟨u2,rfl,hT2⟩,hb⟩)
   | (go_at_call 82;(with_reducible refine (ALL.out _ (Zm (by with_reducible assumption)) _ _ hT2 QA.out).mono ?_);rintro e8 w8 ⟨rfl,hb⟩))
  go_wp2_with fail
  refine hK.out _ _ (STB.out _ _ hb (by with_reducible assumption)) (fun hH2=>?_)
  clear hK K hHeld hb;have hHeld:=hH2;clear hH2
  (try simp only [cl,Act.put])
  refine tkk 9 rfl ?_
  refine tkk 10 rfl ?_
  (try simp only [cl,Act.put])
  refine wpAnyH_done (by kernel_rfl) ?_ _
  refine NoPanic.normal ?_
  have B9:=zh (Zm hHeld)
  clear hHeld
  go_wp2_with fail
  go_ret
  exact ⟨rfl,B9.out⟩
 ·obtain ⟨q1,q3,q2⟩:ZF ⟨2,ws,nums,ks,ps⟩ 1 1=true/\num ⟨2,ws,nums,ks,ps⟩ 0<=1/\Zp ns ks []=true:=by ba_using show (ZF ⟨2,ws,nums,ks,ps⟩ 1 1&&decide (num ⟨2,ws,nums,ks,ps⟩ 0<=1)&&Zp ns ks [])=true from hl
  have A6:=zh (fun (wr:World) (B:Below w.heap.size w wr) (T:Za6 wr (.is [7]) (.func (.func 109) #[] #[.pointer (some ⟨bu,0,none⟩)]))=>show Calls Tryz.prog 83 #[v,.slice A3 ks.length c3,.slice none 0 0] wr (fun e w'=>e=.returned (.bool true)/\Below wr.heap.size wr w') from AR.out wr B _ [] (ZeH wr) q2)
  have HA1:=zh (show ∀ wr:World,Below w.heap.size w wr->Calls Tryz.prog 81 #[.agg #[.int .i64 2,.slice A1 ws.length c1,.slice A2 nums.length c2,.slice A3 ks.length c3,.int .i64 ps],.int .i64 1,.int .i64 1] wr fun e w'=>e=.returned (.bool true)/\Below wr.heap.size wr w' from fun wr hb=>HS0.out wr hb 1 1 q1)
  have QH1:=zh q1
  have hl:=(ZfS QH1.out).2
  dsimp only at hl
  obtain ⟨y,hy⟩:∃ y,nums[0]? = some y:=⟨_,List.getElem?_eq_getElem (by omega)⟩
  obtain ⟨ad2,rfl,_⟩:=ints_at R2.out (Below.refl _ _) hy (by omega)
  have NC:=zh (fun (wr:World) (hb:Below w.heap.size w wr)=>show wr.cell? ad2=some (.int .i64 y) from by obtain ⟨a2,e2,q2⟩:=ints_at R2.out hb hy (by omega);injection e2 with e2;subst e2;rwa [show ad2.add 0=ad2 by unfold Addr.add;simp] at q2)
  have i3:(0:Int)<(nums.length:Int):=by omega
  clear hl
  rw [Zd3 (n:=(⟨2,ws,nums,ks,ps⟩:Nd)) hy] at q3
  clear q1 q2 hl hy QH1
  go_wp2_with (first
   | (go_at_call 81;(with_reducible refine (HA1.out _ H3.out).mono ?_);rintro e6 w6 ⟨rfl,hb6⟩;have K6:=zh (STB.out _ _ hb6 HH.out);have T6:=zh (T3.out.below hb6);have B6:=zh (Zm K6.out);obtain ⟨⟨k60,k61,k62,k63,k64⟩,_⟩:=id K6.out;have y6:=NC.out w6 B6.out;clear hb6)
   | (go_at_call 83;(with_reducible refine (A6.out w6 B6.out T6.out).mono ?_);rintro e7 w7 ⟨rfl,hb7⟩;have B7:=zh (B6.out.trans (hb7.mono B6.out.size));clear hb7))
  go_ret
  exact ⟨rfl,B7.out⟩
 ·obtain ⟨qf,qm,q1,q2⟩:4<=ws.length/\ws.length % 2=0/\ZF ⟨3,ws,nums,ks,ps⟩ ws.length 0=true/\Zp ns ks []=true:=by ba_using show (decide (4<=ws.length)&&decide (ws.length % 2=0)&&ZF ⟨3,ws,nums,ks,ps⟩ ws.length 0&&Zp ns ks [])=true from hl
  have A6:=zh (fun (wr:World) (B:Below w.heap.size w wr) (T:Za6 wr (.is [7]) (.func (.func 109) #[] #[.pointer (some ⟨bu,0,none⟩)]))=>show Calls Tryz.prog 83 #[v,.slice A3 ks.length c3,.slice none 0 0] wr (fun e w'=>e=.returned (.bool true)/\Below wr.heap.size wr w') from AR.out wr B _ [] (ZeH wr) q2)
  have HA1:=zh (show ∀ wr:World,Below w.heap.size w wr->Calls Tryz.prog 81 #[.agg #[.int .i64 3,.slice A1 ws.length c1,.slice A2 nums.length c2,.slice A3 ks.length c3,.int .i64 ps],.int .i64 (ws.length:Int),.int .i64 0] wr fun e w'=>e=.returned (.bool true)/\Below wr.heap.size wr w' from fun wr hb=>HS0.out wr hb ws.length 0 q1)
  have qf1:(4:Int)<=(ws.length:Int):=by omega
  have qm1:(ws.length:Int).tmod 2=0:=by rw [Int.tmod_eq_emod_of_nonneg (by omega)];omega
  clear q1 q2 hl qf qm
  go_wp2_with (first
   | (go_at_call 81;(with_reducible refine (HA1.out _ H3.out).mono ?_);rintro e6 w6 ⟨rfl,hb6⟩;have K6:=zh (STB.out _ _ hb6 HH.out);have T6:=zh (T3.out.below hb6);have B6:=zh (Zm K6.out);obtain ⟨⟨k60,k61,k62,k63,k64⟩,_⟩:=id K6.out;skip;clear hb6)
   | (go_at_call 83;(with_reducible refine (A6.out w6 B6.out T6.out).mono ?_);rintro e7 w7 ⟨rfl,hb7⟩;have B7:=zh (B6.out.trans (hb7.mono B6.out.size));clear hb7))
  go_ret
  exact ⟨rfl,B7.out⟩
 ·obtain ⟨q1,q2,q3⟩:ZF ⟨4,ws,nums,ks,ps⟩ 1 0=true/\ZbM ns (ks.take (ks.length-1)) (isB [5])=true/\Zp ns (ks.drop (ks.length-1)) [isB [7]]=true:=by ba_using show (ZF ⟨4,ws,nums,ks,ps⟩ 1 0&&ZbM ns (ks.take (ks.length-1)) (isB [5])&&Zp ns (ks.drop (ks.length-1)) [isB [7]])=true from hl
  have HA1:=zh (show ∀ wr:World,Below w.heap.size w wr->Calls Tryz.prog 81 #[.agg #[.int .i64 4,.slice A1 ws.length c1,.slice A2 nums.length c2,.slice A3 ks.length c3,.int .i64 ps],.int .i64 1,.int .i64 0] wr fun e w'=>e=.returned (.bool true)/\Below wr.heap.size wr w' from fun wr hb=>HS0.out wr hb 1 0 q1)
  have CU:=zh (fun (wr:World) (hb:Below w.heap.size w wr)=>ZkS (m:=ks.length-1) (K3.out.1.below hb) rfl (by omega))
  have AL3:=zh (show ∀ wr:World,Below w.heap.size w wr->∀ u:Value,Za6 wr (.is [5]) u->Calls Tryz.prog 82 #[v,.slice A3 (ks.length-1) c3,u] wr fun e w'=>e=.returned (.bool true)/\Below wr.heap.size wr w' from fun wr hb u hu=>Zmk wr v _ u ns _ _ (K3.out.2.1.below hb) (CU.out wr hb).1 hu (fun k h=>K3.out.2.2 k (List.mem_of_mem_take h)) q2)
  have AR3:=zh (fun (wr:World) (hb:Below w.heap.size w wr) (T:Za6 wr (.is [7]) (.func (.func 109) #[] #[.pointer (some ⟨bu,0,none⟩)]))=>show Calls Tryz.prog 83 #[v,.slice (if c3=ks.length-1 then A3 else A3.map (·.add (ks.length-1))) (ks.length-(ks.length-1)) (c3-(ks.length-1)),.slice (some ⟨wr.heap.size,0,none⟩) 1 1] (wr.alloc (.cells #[.func (.func 109) #[] #[.pointer (some ⟨bu,0,none⟩)]] 64)) (fun e w'=>e=.returned (.bool true)/\Below (wr.alloc (.cells #[.func (.func 109) #[] #[.pointer (some ⟨bu,0,none⟩)]] 64)).heap.size (wr.alloc (.cells #[.func (.func 109) #[] #[.pointer (some ⟨bu,0,none⟩)]] 64)) w') from Zq8 _ v _ _ ns _ _ (K3.out.2.1.below (hb.trans ((below_alloc1 _ _).mono hb.size))) (CU.out _ (hb.trans ((below_alloc1 _ _).mono hb.size))).2 (ZcZ wr [.is [7]] [.func (.func 109) #[] #[.pointer (some ⟨bu,0,none⟩)]] 64 (by simp [maxLen]) ⟨T.below (below_alloc1 _ _),trivial⟩) (fun k h=>K3.out.2.2 k (List.mem_of_mem_drop h)) q3)
  have mx:(max (IntKind.i64.wrap ((ks.length:Int)-1)) 0)=((ks.length-1:Nat):Int):=by rw [IntWalk.i64_in _ (by have:=K3.out.1.len;unfold maxLen at this;omega)];omega
  have mx2:(max (wrap64 ((ks.length:Int)-1)) 0)=((ks.length-1:Nat):Int):=by rw [<- IntWalk.i64_left];exact mx
  have c3le:ks.length<=c3:=by obtain ⟨A2',c2',e2,q,_⟩:=K3.out.1;injection e2 with _ _ e2;omega
  generalize hm:ks.length-1=m at *
  have m1:m<=ks.length:=by omega
  have m2:m<=c3:=by omega
  have m3:(0:Int)<=(m:Int):=by omega
  have m4:(m:Int)<=(ks.length:Int):=by omega
  have m5:(m:Int)<=(c3:Int):=by omega
  have m6:(ks.length:Int)<=(c3:Int):=by omega
  clear hm q1 q2 q3 hl CU K3 ALL AR HS0 HE0 AE0
  by_cases hcm:c3=m
  ·subst hcm
   rw [if_pos rfl,Nat.sub_self,show ks.length-c3=0 by omega] at AR3
   go_upto_region 13 with fail
   have HS:(w5.drew.cell? ⟨w.heap.size,0,none⟩=some (.int .i64 4)/\w5.drew.cell? ⟨w.heap.size,1,none⟩=some (.slice A1 ws.length c1)/\w5.drew.cell? ⟨w.heap.size,2,none⟩=some (.slice A2 nums.length c2)/\w5.drew.cell? ⟨w.heap.size,3,none⟩=some (.slice A3 ks.length c3)/\w5.drew.cell? ⟨w.heap.size,4,none⟩=some (.int .i64 ps))/\Below w.heap.size w w5.drew:=⟨HH.out.1,H3.out.drew⟩
   clear HH g0 g1 g2 g3 g4
   refine wp_region_noPanic ?_
   refine wp_region_held_drew (S:=(fun w'=>(w'.cell? ⟨w.heap.size,0,none⟩=some (.int .i64 4)/\w'.cell? ⟨w.heap.size,1,none⟩=some (.slice A1 ws.length c1)/\w'.cell? ⟨w.heap.size,2,none⟩=some (.slice A2 nums.length c2)/\w'.cell? ⟨w.heap.size,3,none⟩=some (.slice A3 ks.length c3)/\w'.cell? ⟨w.heap.size,4,none⟩=some (.int .i64 ps))/\Below w.heap.size w w')) (by kernel_rfl) HS (fun hHeld=>?_)
   clear HS
   refine tkk 0 rfl ?_
   (try simp only [cl,Act.put])
   refine rd 1 rfl fun K hK=>?_
   go_simp
   (first
    | (go_at_call 81;(with_reducible refine (HA1.out _ (Zm (by with_reducible assumption))).mono ?_);rintro e6 w6 ⟨rfl,hb⟩;have HT6:=zh (T3.out.below ((Za7 _).trans (hb.mono (Za7 _).size))))
    | (go_at_call 80;(with_reducible refine (ZbI _ _ _).mono ?_);rintro e7 w7 ⟨⟨u2,rfl,hT2⟩,hb⟩;have HT7:=zh ((HT6.out.below (below_alloc1 _ _)).below hb))
    | (go_at_call 82;(with_reducible refine (AL3.out _ (Zm (by with_reducible assumption)) _ hT2).mono ?_);rintro e8 w8 ⟨rfl,hb⟩;have HT8:=zh (zi ((Zm hHeld).trans (hb.mono (Zm hHeld).size)) (HT7.out.below hb)))
    | (go_at_call 83;(with_reducible refine (AR3.out _ HT8.out.1 HT8.out.2).mono ?_);rintro e9 w9 ⟨rfl,hb⟩))
   go_wp2_with fail
   refine hK.out _ _ (STB.out _ _ hb (by with_reducible assumption)) (fun hH2=>?_)
   clear hK K hHeld hb;have hHeld:=hH2;clear hH2
   (try simp only [cl,Act.put])
   refine tkk 2 rfl ?_
   refine tkk 3 rfl ?_
   refine tkk 4 rfl ?_
   refine tkk 5 rfl ?_
   refine tkk 6 rfl ?_
   refine tkk 7 rfl ?_
   (try simp only [cl,Act.put])
   refine rd 8 rfl fun K hK=>?_
   go_simp
   refine hK.out _ _ ?_ (fun hH2=>?_)
   ·exact STB.out _ _ (below_alloc1 _ _) (by with_reducible assumption)
   clear hK K hHeld;have hHeld:=hH2;clear hH2
   (try simp only [cl,Act.put])
   refine rd 9 rfl fun K hK=>?_
   go_simp
   (first
    | (go_at_call 81;(with_reducible refine (HA1.out _ (Zm (by with_reducible assumption))).mono ?_);rintro e6 w6 ⟨rfl,hb⟩;have HT6:=zh (T3.out.below ((Za7 _).trans (hb.mono (Za7 _).size))))
    | (go_at_call 80;(with_reducible refine (ZbI _ _ _).mono ?_);rintro e7 w7 ⟨⟨u2,rfl,hT2⟩,hb⟩;have HT7:=zh ((HT6.out.below (below_alloc1 _ _)).below hb))
    | (go_at_call 82;(with_reducible refine (AL3.out _ (Zm (by with_reducible assumption)) _ hT2).mono ?_);rintro e8 w8 ⟨rfl,hb⟩;have HT8:=zh (zi ((Zm hHeld).trans (hb.mono (Zm hHeld).size)) (HT7.out.below hb)))
    | (go_at_call 83;(with_reducible refine (AR3.out _ HT8.out.1 HT8.out.2).mono ?_);rintro e9 w9 ⟨rfl,hb⟩))
   go_wp2_with fail
   refine hK.out _ _ (STB.out _ _ hb (by with_reducible assumption)) (fun hH2=>?_)
   clear hK K hHeld hb;have hHeld:=hH2;clear hH2
   (try simp only [cl,Act.put])
   refine rd 10 rfl fun K hK=>?_
   go_simp
   (first
    | (go_at_call 81;(with_reducible refine (HA1.out _ (Zm (by with_reducible assumption))).mono ?_);rintro e6 w6 ⟨rfl,hb⟩;have HT6:=zh (T3.out.below ((Za7 _).trans (hb.mono (Za7 _).size))))
    | (go_at_call 80;(with_reducible refine (ZbI _ _ _).mono ?_);rintro e7 w7 ⟨⟨u2,rfl,hT2⟩,hb⟩;have HT7:=zh ((HT6.out.below (below_alloc1 _ _)).below hb))
    | (go_at_call 82;(with_reducible refine (AL3.out _ (Zm (by with_reducible assumption)) _ hT2).mono ?_);rintro e8 w8 ⟨rfl,hb⟩;have HT8:=zh (zi ((Zm hHeld).trans (hb.mono (Zm hHeld).size)) (HT7.out.below hb)))
    | (go_at_call 83;(with_reducible refine (AR3.out _ HT8.out.1 HT8.out.2).mono ?_);rintro e9 w9 ⟨rfl,hb⟩))
   go_wp2_with fail
   refine hK.out _ _ (STB.out _ _ hb (by with_reducible assumption)) (fun hH2=>?_)
   clear hK K hHeld hb;have hHeld:=hH2;clear hH2
   (try simp only [cl,Act.put])
   refine tkk 11 rfl ?_
   refine tkk 12 rfl ?_
   refine tkk 13 rfl ?_
   refine tkk 14 rfl ?_
   refine tkk 15 rfl ?_
   refine tkk 16 rfl ?_
   refine tkk 17 rfl ?_
   refine tkk 18 rfl ?_
   (try simp only [cl,Act.put])
   refine rd 19 rfl fun K hK=>?_
   go_simp
   refine hK.out _ _ ?_ (fun hH2=>?_)
   ·exact STB.out _ _ (below_alloc1 _ _) (by with_reducible assumption)
   clear hK K hHeld;have hHeld:=hH2;clear hH2
   (try simp only [cl,Act.put])
   refine rd 20 rfl fun K hK=>?_
   go_simp
   (first
    | (go_at_call 81;(with_reducible refine (HA1.out _ (Zm (by with_reducible assumption))).mono ?_);rintro e6 w6 ⟨rfl,hb⟩;have HT6:=zh (T3.out.below ((Za7 _).trans (hb.mono (Za7 _).size))))
    | (go_at_call 80;(with_reducible refine (ZbI _ _ _).mono ?_);rintro e7 w7 ⟨⟨u2,rfl,hT2⟩,hb⟩;have HT7:=zh ((HT6.out.below (below_alloc1 _ _)).below hb))
    | (go_at_call 82;(with_reducible refine (AL3.out _ (Zm (by with_reducible assumption)) _ hT2).mono ?_);rintro e8 w8 ⟨rfl,hb⟩;have HT8:=zh (zi ((Zm hHeld).trans (hb.mono (Zm hHeld).size)) (HT7.out.below hb)))
    | (go_at_call 83;(with_reducible refine (AR3.out _ HT8.out.1 HT8.out.2).mono ?_);rintro e9 w9 ⟨rfl,hb⟩))
   go_wp2_with fail
   refine hK.out _ _ (STB.out _ _ hb (by with_reducible assumption)) (fun hH2=>?_)
   clear hK K hHeld hb;have hHeld:=hH2;clear hH2
   (try simp only [cl,Act.put])
   refine tkk 21 rfl ?_
   refine tkk 22 rfl ?_
   (try simp only [cl,Act.put])
   refine wpAnyH_done (by kernel_rfl) ?_ _
   refine NoPanic.normal ?_
   have B9:=zh (Zm hHeld)
   clear hHeld
   go_wp2_with fail
   go_ret
   exact ⟨rfl,B9.out⟩
  ·rw [if_neg hcm] at AR3
   go_upto_region 13 with fail
   have HS:(w5.drew.cell? ⟨w.heap.size,0,none⟩=some (.int .i64 4)/\w5.drew.cell? ⟨w.heap.size,1,none⟩=some (.slice A1 ws.length c1)/\w5.drew.cell? ⟨w.heap.size,2,none⟩=some (.slice A2 nums.length c2)/\w5.drew.cell? ⟨w.heap.size,3,none⟩=some (.slice A3 ks.length c3)/\w5.drew.cell? ⟨w.heap.size,4,none⟩=some (.int .i64 ps))/\Below w.heap.size w w5.drew:=⟨HH.out.1,H3.out.drew⟩
   clear HH g0 g1 g2 g3 g4
   refine wp_region_noPanic ?_
   refine wp_region_held_drew (S:=(fun w'=>(w'.cell? ⟨w.heap.size,0,none⟩=some (.int .i64 4)/\w'.cell? ⟨w.heap.size,1,none⟩=some (.slice A1 ws.length c1)/\w'.cell? ⟨w.heap.size,2,none⟩=some (.slice A2 nums.length c2)/\w'.cell? ⟨w.heap.size,3,none⟩=some (.slice A3 ks.length c3)/\w'.cell? ⟨w.heap.size,4,none⟩=some (.int .i64 ps))/\Below w.heap.size w w')) (by kernel_rfl) HS (fun hHeld=>?_)
   clear HS
   refine tkk 0 rfl ?_
   (try simp only [cl,Act.put])
   refine rd 1 rfl fun K hK=>?_
   go_simp
   (first
    | (go_at_call 81;(with_reducible refine (HA1.out _ (Zm (by with_reducible assumption))).mono ?_);rintro e6 w6 ⟨rfl,hb⟩;have HT6:=zh (T3.out.below ((Za7 _).trans (hb.mono (Za7 _).size))))
    | (go_at_call 80;(with_reducible refine (ZbI _ _ _).mono ?_);rintro e7 w7 ⟨⟨u2,rfl,hT2⟩,hb⟩;have HT7:=zh ((HT6.out.below (below_alloc1 _ _)).below hb))
    | (go_at_call 82;(with_reducible refine (AL3.out _ (Zm (by with_reducible assumption)) _ hT2).mono ?_);rintro e8 w8 ⟨rfl,hb⟩;have HT8:=zh (zi ((Zm hHeld).trans (hb.mono (Zm hHeld).size)) (HT7.out.below hb)))
    | (go_at_call 83;(with_reducible refine (AR3.out _ HT8.out.1 HT8.out.2).mono ?_);rintro e9 w9 ⟨rfl,hb⟩))
   go_wp2_with fail
   refine hK.out _ _ (STB.out _ _ hb (by with_reducible assumption)) (fun hH2=>?_)
   clear hK K hHeld hb;have hHeld:=hH2;clear hH2
   (try simp only [cl,Act.put])
   refine tkk 2 rfl ?_
   refine tkk 3 rfl ?_
   refine tkk 4 rfl ?_
   refine tkk 5 rfl ?_
   refine tkk 6 rfl ?_
   refine tkk 7 rfl ?_
   (try simp only [cl,Act.put])
   refine rd 8 rfl fun K hK=>?_
   go_simp
   refine hK.out _ _ ?_ (fun hH2=>?_)
   ·exact STB.out _ _ (below_alloc1 _ _) (by with_reducible assumption)
   clear hK K hHeld;have hHeld:=hH2;clear hH2
   (try simp only [cl,Act.put])
   refine rd 9 rfl fun K hK=>?_
   go_simp
   (first
    | (go_at_call 81;(with_reducible refine (HA1.out _ (Zm (by with_reducible assumption))).mono ?_);rintro e6 w6 ⟨rfl,hb⟩;have HT6:=zh (T3.out.below ((Za7 _).trans (hb.mono (Za7 _).size))))
    | (go_at_call 80;(with_reducible refine (ZbI _ _ _).mono ?_);rintro e7 w7 ⟨⟨u2,rfl,hT2⟩,hb⟩;have HT7:=zh ((HT6.out.below (below_alloc1 _ _)).below hb))
    | (go_at_call 82;(with_reducible refine (AL3.out _ (Zm (by with_reducible assumption)) _ hT2).mono ?_);rintro e8 w8 ⟨rfl,hb⟩;have HT8:=zh (zi ((Zm hHeld).trans (hb.mono (Zm hHeld).size)) (HT7.out.below hb)))
    | (go_at_call 83;(with_reducible refine (AR3.out _ HT8.out.1 HT8.out.2).mono ?_);rintro e9 w9 ⟨rfl,hb⟩))
   go_wp2_with fail
   refine hK.out _ _ (STB.out _ _ hb (by with_reducible assumption)) (fun hH2=>?_)
   clear hK K hHeld hb;have hHeld:=hH2;clear hH2
   (try simp only [cl,Act.put])
   refine rd 10 rfl fun K hK=>?_
   go_simp
   (first
    | (go_at_call 81;(with_reducible refine (HA1.out _ (Zm (by with_reducible assumption))).mono ?_);rintro e6 w6 ⟨rfl,hb⟩;have HT6:=zh (T3.out.below ((Za7 _).trans (hb.mono (Za7 _).size))))
    | (go_at_call 80;(with_reducible refine (ZbI _ _ _).mono ?_);rintro e7 w7 ⟨⟨u2,rfl,hT2⟩,hb⟩;have HT7:=zh ((HT6.out.below (below_alloc1 _ _)).below hb))
    | (go_at_call 82;(with_reducible refine (AL3.out _ (Zm (by with_reducible assumption)) _ hT2).mono ?_);rintro e8 w8 ⟨rfl,hb⟩;have HT8:=zh (zi ((Zm hHeld).trans (hb.mono (Zm hHeld).size)) (HT7.out.below hb)))
    | (go_at_call 83;(with_reducible refine (AR3.out _ HT8.out.1 HT8.out.2).mono ?_);rintro e9 w9 ⟨rfl,hb⟩))
   go_wp2_with fail
   refine hK.out _ _ (STB.out _ _ hb (by with_reducible assumption)) (fun hH2=>?_)
   clear hK K hHeld hb;have hHeld:=hH2;clear hH2
   (try simp only [cl,Act.put])
   refine tkk 11 rfl ?_
   refine tkk 12 rfl ?_
   refine tkk 13 rfl ?_
   refine tkk 14 rfl ?_
   refine tkk 15 rfl ?_
   refine tkk 16 rfl ?_
   refine tkk 17 rfl ?_
   refine tkk 18 rfl ?_
   (try simp only [cl,Act.put])
   refine rd 19 rfl fun K hK=>?_
   go_simp
   refine hK.out _ _ ?_ (fun hH2=>?_)
   ·exact STB.out _ _ (below_alloc1 _ _) (by with_reducible assumption)
   clear hK K hHeld;have hHeld:=hH2;clear hH2
   (try simp only [cl,Act.put])
   refine rd 20 rfl fun K hK=>?_
   go_simp
   (first
    | (go_at_call 81;(with_reducible refine (HA1.out _ (Zm (by with_reducible assumption))).mono ?_);rintro e6 w6 ⟨rfl,hb⟩;have HT6:=zh (T3.out.below ((Za7 _).trans (hb.mono (Za7 _).size))))
    | (go_at_call 80;(with_reducible refine (ZbI _ _ _).mono ?_);rintro e7 w7 ⟨⟨u2,rfl,hT2⟩,hb⟩;have HT7:=zh ((HT6.out.below (below_alloc1 _ _)).below hb))
    | (go_at_call 82;(with_reducible refine (AL3.out _ (Zm (by with_reducible assumption)) _ hT2).mono ?_);rintro e8 w8 ⟨rfl,hb⟩;have HT8:=zh (zi ((Zm hHeld).trans (hb.mono (Zm hHeld).size)) (HT7.out.below hb)))
    | (go_at_call 83;(with_reducible refine (AR3.out _ HT8.out.1 HT8.out.2).mono ?_);rintro e9 w9 ⟨rfl,hb⟩))
   go_wp2_with fail
   refine hK.out _ _ (STB.out _ _ hb (by with_reducible assumption)) (fun hH2=>?_)
   clear hK K hHeld hb;have hHeld:=hH2;clear hH2
   (try simp only [cl,Act.put])
   refine tkk 21 rfl ?_
   refine tkk 22 rfl ?_
   (try simp only [cl,Act.put])
   refine wpAnyH_done (by kernel_rfl) ?_ _
   refine NoPanic.normal ?_
   have B9:=zh (Zm hHeld)
   clear hHeld
   go_wp2_with fail
   go_ret
   exact ⟨rfl,B9.out⟩
 ·obtain hl:(ZF ⟨5,ws,nums,ks,ps⟩ 1 0=true/\Zp ns ks []=true)\/(ZF ⟨5,ws,nums,ks,ps⟩ 2 3=true/\ZcK ns ⟨5,ws,nums,ks,ps⟩=true):=by ba_using show ((ZF ⟨5,ws,nums,ks,ps⟩ 1 0&&Zp ns ks [])||(ZF ⟨5,ws,nums,ks,ps⟩ 2 3&&ZcK ns ⟨5,ws,nums,ks,ps⟩))=true from hl
  rcases hl with ⟨q1,q2⟩ | ⟨q1,q2⟩
  ·have A6:=zh (fun (wr:World) (B:Below w.heap.size w wr) (T:Za6 wr (.is [7]) (.func (.func 109) #[] #[.pointer (some ⟨bu,0,none⟩)]))=>show Calls Tryz.prog 83 #[v,.slice A3 ks.length c3,.slice none 0 0] wr (fun e w'=>e=.returned (.bool true)/\Below wr.heap.size wr w') from AR.out wr B _ [] (ZeH wr) q2)
   have HA1:=zh (show ∀ wr:World,Below w.heap.size w wr->Calls Tryz.prog 81 #[.agg #[.int .i64 5,.slice A1 ws.length c1,.slice A2 nums.length c2,.slice A3 ks.length c3,.int .i64 ps],.int .i64 1,.int .i64 0] wr fun e w'=>e=.returned (.bool true)/\Below wr.heap.size wr w' from fun wr hb=>HS0.out wr hb 1 0 q1)
   clear q1 q2
   go_wp2_with (first
    | (go_at_call 81;(with_reducible refine (HA1.out _ H3.out).mono ?_);rintro e6 w6 ⟨rfl,hb6⟩;have K6:=zh (STB.out _ _ hb6 HH.out);have T6:=zh (T3.out.below hb6);have B6:=zh (Zm K6.out);obtain ⟨⟨k60,k61,k62,k63,k64⟩,_⟩:=id K6.out;skip;clear hb6)
    | (go_at_call 83;(with_reducible refine (A6.out w6 B6.out T6.out).mono ?_);rintro e7 w7 ⟨rfl,hb7⟩;have B7:=zh (B6.out.trans (hb7.mono B6.out.size));clear hb7))
   go_ret
   exact ⟨rfl,B7.out⟩
  ·have q3:ZF ⟨5,ws,nums,ks,ps⟩ 1 0=false:=by have:=(ZfS q1).1;unfold ZF;rw [decide_eq_false (by omega)];rfl
   have HA1:=zh (show ∀ wr:World,Below w.heap.size w wr->Calls Tryz.prog 81 #[.agg #[.int .i64 5,.slice A1 ws.length c1,.slice A2 nums.length c2,.slice A3 ks.length c3,.int .i64 ps],.int .i64 1,.int .i64 0] wr fun e w'=>e=.returned (.bool false)/\Below wr.heap.size wr w' from fun wr hb=>HE0.out wr hb 1 0 q3)
   have HA2:=zh (show ∀ wr:World,Below w.heap.size w wr->Calls Tryz.prog 81 #[.agg #[.int .i64 5,.slice A1 ws.length c1,.slice A2 nums.length c2,.slice A3 ks.length c3,.int .i64 ps],.int .i64 2,.int .i64 3] wr fun e w'=>e=.returned (.bool true)/\Below wr.heap.size wr w' from fun wr hb=>HS0.out wr hb 2 3 q1)
   have PT1:=zh (CT.out (by have:=(ZfS q1).2;exact this) q2)
   clear q1 q2 q3
   go_wp2_with (first
    | (go_at_call 81;(with_reducible refine (HA1.out _ H3.out).mono ?_);rintro e6 w6 ⟨rfl,hb6⟩;have K6:=zh (STB.out _ _ hb6 HH.out);have T6:=zh (T3.out.below hb6);have B6:=zh (Zm K6.out);obtain ⟨⟨k60,k61,k62,k63,k64⟩,_⟩:=id K6.out;skip;clear hb6)
    | (go_at_call 81;(with_reducible refine (HA2.out _ B6.out).mono ?_);rintro e7 w7 ⟨rfl,hb7⟩;have K7:=zh (STB.out _ _ hb7 K6.out);have T7:=zh (T6.out.below hb7);have B7:=zh (Zm K7.out);obtain ⟨⟨k70,k71,k72,k73,k74⟩,_⟩:=id K7.out;skip;clear hb7)
    | (go_at_call 84;(with_reducible refine (PT1.out _ B7.out).mono ?_);rintro e8 w8 ⟨rfl,hb8⟩;have B8:=zh (B7.out.trans (hb8.mono B7.out.size));clear hb8))
   go_ret
   exact ⟨rfl,B8.out⟩
 ·obtain ⟨qf,q1,q3,q2⟩:1<=ws.length/\ZF ⟨6,ws,nums,ks,ps⟩ ws.length 1=true/\num ⟨6,ws,nums,ks,ps⟩ 0<=2/\Zp ns ks []=true:=by ba_using show (decide (1<=ws.length)&&ZF ⟨6,ws,nums,ks,ps⟩ ws.length 1&&decide (num ⟨6,ws,nums,ks,ps⟩ 0<=2)&&Zp ns ks [])=true from hl
  have A6:=zh (fun (wr:World) (B:Below w.heap.size w wr) (T:Za6 wr (.is [7]) (.func (.func 109) #[] #[.pointer (some ⟨bu,0,none⟩)]))=>show Calls Tryz.prog 83 #[v,.slice A3 ks.length c3,.slice none 0 0] wr (fun e w'=>e=.returned (.bool true)/\Below wr.heap.size wr w') from AR.out wr B _ [] (ZeH wr) q2)
  have HA1:=zh (show ∀ wr:World,Below w.heap.size w wr->Calls Tryz.prog 81 #[.agg #[.int .i64 6,.slice A1 ws.length c1,.slice A2 nums.length c2,.slice A3 ks.length c3,.int .i64 ps],.int .i64 (ws.length:Int),.int .i64 1] wr fun e w'=>e=.returned (.bool true)/\Below wr.heap.size wr w' from fun wr hb=>HS0.out wr hb ws.length 1 q1)
  have qf1:(1:Int)<=(ws.length:Int):=by omega
  clear qf
  have QH1:=zh q1
  have hl:=(ZfS QH1.out).2
  dsimp only at hl
  obtain ⟨y,hy⟩:∃ y,nums[0]? = some y:=⟨_,List.getElem?_eq_getElem (by omega)⟩
  obtain ⟨ad2,rfl,_⟩:=ints_at R2.out (Below.refl _ _) hy (by omega)
  have NC:=zh (fun (wr:World) (hb:Below w.heap.size w wr)=>show wr.cell? ad2=some (.int .i64 y) from by obtain ⟨a2,e2,q2⟩:=ints_at R2.out hb hy (by omega);injection e2 with e2;subst e2;rwa [show ad2.add 0=ad2 by unfold Addr.add;simp] at q2)
  have i3:(0:Int)<(nums.length:Int):=by omega
  clear hl
  rw [Zd3 (n:=(⟨6,ws,nums,ks,ps⟩:Nd)) hy] at q3
  clear q1 q2 hl hy QH1
  go_wp2_with (first
   | (go_at_call 81;(with_reducible refine (HA1.out _ H3.out).mono ?_);rintro e6 w6 ⟨rfl,hb6⟩;have K6:=zh (STB.out _ _ hb6 HH.out);have T6:=zh (T3.out.below hb6);have B6:=zh (Zm K6.out);obtain ⟨⟨k60,k61,k62,k63,k64⟩,_⟩:=id K6.out;have y6:=NC.out w6 B6.out;clear hb6)
   | (go_at_call 83;(with_reducible refine (A6.out w6 B6.out T6.out).mono ?_);rintro e7 w7 ⟨rfl,hb7⟩;have B7:=zh (B6.out.trans (hb7.mono B6.out.size));clear hb7))
  go_ret
  exact ⟨rfl,B7.out⟩
 ·obtain ⟨q1,q2⟩:ZF ⟨7,ws,nums,ks,ps⟩ 0 0=true/\ZbM ns ks ZcL=true:=by ba_using show (ZF ⟨7,ws,nums,ks,ps⟩ 0 0&&ZbM ns ks ZcL)=true from hl
  have HA1:=zh (show ∀ wr:World,Below w.heap.size w wr->Calls Tryz.prog 81 #[.agg #[.int .i64 7,.slice A1 ws.length c1,.slice A2 nums.length c2,.slice A3 ks.length c3,.int .i64 ps],.int .i64 0,.int .i64 0] wr fun e w'=>e=.returned (.bool true)/\Below wr.heap.size wr w' from fun wr hb=>HS0.out wr hb 0 0 q1)
  have QA:=zh q2
  clear q1 q2 hl
  go_wp2_with (first
   | (go_at_call 81;(with_reducible refine (HA1.out _ H3.out).mono ?_);rintro e6 w6 ⟨rfl,hb6⟩;have K6:=zh (STB.out _ _ hb6 HH.out);have T6:=zh (T3.out.below hb6);have B6:=zh (Zm K6.out);obtain ⟨⟨k60,k61,k62,k63,k64⟩,_⟩:=id K6.out;have A6:=zh (ALL.out w6 B6.out (.func (.func 85) #[] #[]) .stmt rfl QA.out);clear hb6)
   | (go_at_call 82;(with_reducible refine (A6.out).mono ?_);rintro e7 w7 ⟨rfl,hb7⟩;have B7:=zh (B6.out.trans (hb7.mono B6.out.size));clear hb7))
  go_ret
  exact ⟨rfl,B7.out⟩
 ·obtain ⟨q1,q2⟩:ZF ⟨8,ws,nums,ks,ps⟩ 1 0=true/\Zp ns ks [Zat]=true:=by ba_using show (ZF ⟨8,ws,nums,ks,ps⟩ 1 0&&Zp ns ks [Zat])=true from hl
  have A6:=zh (fun (wr:World) (B:Below w.heap.size w wr) (T:Za6 wr (.is [7]) (.func (.func 109) #[] #[.pointer (some ⟨bu,0,none⟩)]))=>show Calls Tryz.prog 83 #[v,.slice A3 ks.length c3,.slice (some ⟨wr.heap.size,0,none⟩) 1 1] (wr.alloc (.cells #[.func (.func 86) #[] #[]] 64)) (fun e w'=>e=.returned (.bool true)/\Below wr.heap.size wr w') from Zdd (AR.out (wr.alloc (.cells #[.func (.func 86) #[] #[]] 64)) (B.trans ((below_alloc1 _ _).mono B.size)) _ [.expr] (ZcZ wr [.expr] [.func (.func 86) #[] #[]] 64 (by simp [maxLen]) ⟨rfl,trivial⟩) q2))
  have HA1:=zh (show ∀ wr:World,Below w.heap.size w wr->Calls Tryz.prog 81 #[.agg #[.int .i64 8,.slice A1 ws.length c1,.slice A2 nums.length c2,.slice A3 ks.length c3,.int .i64 ps],.int .i64 1,.int .i64 0] wr fun e w'=>e=.returned (.bool true)/\Below wr.heap.size wr w' from fun wr hb=>HS0.out wr hb 1 0 q1)
  clear q1 q2 hl
  go_wp2_with (first
   | (go_at_call 81;(with_reducible refine (HA1.out _ H3.out).mono ?_);rintro e6 w6 ⟨rfl,hb6⟩;have K6:=zh (STB.out _ _ hb6 HH.out);have T6:=zh (T3.out.below hb6);have B6:=zh (Zm K6.out);obtain ⟨⟨k60,k61,k62,k63,k64⟩,_⟩:=id K6.out;skip;clear hb6)
   | (go_at_call 83;(with_reducible refine (A6.out w6 B6.out T6.out).mono ?_);rintro e7 w7 ⟨rfl,hb7⟩;have B7:=zh (B6.out.trans (hb7.mono B6.out.size));clear hb7))
  go_ret
  exact ⟨rfl,B7.out⟩
 ·obtain ⟨q1,q2⟩:ZF ⟨9,ws,nums,ks,ps⟩ 1 0=true/\Zp ns ks [Zat]=true:=by ba_using show (ZF ⟨9,ws,nums,ks,ps⟩ 1 0&&Zp ns ks [Zat])=true from hl
  have A6:=zh (fun (wr:World) (B:Below w.heap.size w wr) (T:Za6 wr (.is [7]) (.func (.func 109) #[] #[.pointer (some ⟨bu,0,none⟩)]))=>show Calls Tryz.prog 83 #[v,.slice A3 ks.length c3,.slice (some ⟨wr.heap.size,0,none⟩) 1 1] (wr.alloc (.cells #[.func (.func 86) #[] #[]] 64)) (fun e w'=>e=.returned (.bool true)/\Below wr.heap.size wr w') from Zdd (AR.out (wr.alloc (.cells #[.func (.func 86) #[] #[]] 64)) (B.trans ((below_alloc1 _ _).mono B.size)) _ [.expr] (ZcZ wr [.expr] [.func (.func 86) #[] #[]] 64 (by simp [maxLen]) ⟨rfl,trivial⟩) q2))
  have HA1:=zh (show ∀ wr:World,Below w.heap.size w wr->Calls Tryz.prog 81 #[.agg #[.int .i64 9,.slice A1 ws.length c1,.slice A2 nums.length c2,.slice A3 ks.length c3,.int .i64 ps],.int .i64 1,.int .i64 0] wr fun e w'=>e=.returned (.bool true)/\Below wr.heap.size wr w' from fun wr hb=>HS0.out wr hb 1 0 q1)
  clear q1 q2 hl
  go_wp2_with (first
   | (go_at_call 81;(with_reducible refine (HA1.out _ H3.out).mono ?_);rintro e6 w6 ⟨rfl,hb6⟩;have K6:=zh (STB.out _ _ hb6 HH.out);have T6:=zh (T3.out.below hb6);have B6:=zh (Zm K6.out);obtain ⟨⟨k60,k61,k62,k63,k64⟩,_⟩:=id K6.out;skip;clear hb6)
   | (go_at_call 83;(with_reducible refine (A6.out w6 B6.out T6.out).mono ?_);rintro e7 w7 ⟨rfl,hb7⟩;have B7:=zh (B6.out.trans (hb7.mono B6.out.size));clear hb7))
  go_ret
  exact ⟨rfl,B7.out⟩
 ·obtain ⟨q1,q2⟩:ZF ⟨10,ws,nums,ks,ps⟩ 2 0=true/\Zp ns ks [isB [7],isB [7]]=true:=by ba_using show (ZF ⟨10,ws,nums,ks,ps⟩ 2 0&&Zp ns ks [isB [7],isB [7]])=true from hl
  have A6:=zh (fun (wr:World) (B:Below w.heap.size w wr) (T:Za6 wr (.is [7]) (.func (.func 109) #[] #[.pointer (some ⟨bu,0,none⟩)]))=>show Calls Tryz.prog 83 #[v,.slice A3 ks.length c3,.slice (some ⟨wr.heap.size,0,none⟩) 2 2] (wr.alloc (.cells #[.func (.func 109) #[] #[.pointer (some ⟨bu,0,none⟩)],.func (.func 109) #[] #[.pointer (some ⟨bu,0,none⟩)]] 64)) (fun e w'=>e=.returned (.bool true)/\Below wr.heap.size wr w') from Zdd (AR.out (wr.alloc (.cells #[.func (.func 109) #[] #[.pointer (some ⟨bu,0,none⟩)],.func (.func 109) #[] #[.pointer (some ⟨bu,0,none⟩)]] 64)) (B.trans ((below_alloc1 _ _).mono B.size)) _ [.is [7],.is [7]] (ZcZ wr [.is [7],.is [7]] [.func (.func 109) #[] #[.pointer (some ⟨bu,0,none⟩)],.func (.func 109) #[] #[.pointer (some ⟨bu,0,none⟩)]] 64 (by simp [maxLen]) ⟨T.below (below_alloc1 _ _),T.below (below_alloc1 _ _),trivial⟩) q2))
  have HA1:=zh (show ∀ wr:World,Below w.heap.size w wr->Calls Tryz.prog 81 #[.agg #[.int .i64 10,.slice A1 ws.length c1,.slice A2 nums.length c2,.slice A3 ks.length c3,.int .i64 ps],.int .i64 2,.int .i64 0] wr fun e w'=>e=.returned (.bool true)/\Below wr.heap.size wr w' from fun wr hb=>HS0.out wr hb 2 0 q1)
  clear q1 q2 hl
  go_wp2_with (first
   | (go_at_call 81;(with_reducible refine (HA1.out _ H3.out).mono ?_);rintro e6 w6 ⟨rfl,hb6⟩;have K6:=zh (STB.out _ _ hb6 HH.out);have T6:=zh (T3.out.below hb6);have B6:=zh (Zm K6.out);obtain ⟨⟨k60,k61,k62,k63,k64⟩,_⟩:=id K6.out;skip;clear hb6)
   | (go_at_call 83;(with_reducible refine (A6.out w6 B6.out T6.out).mono ?_);rintro e7 w7 ⟨rfl,hb7⟩;have B7:=zh (B6.out.trans (hb7.mono B6.out.size));clear hb7))
  go_ret
  exact ⟨rfl,B7.out⟩
 ·obtain ⟨q1,q2⟩:ZF ⟨11,ws,nums,ks,ps⟩ 2 0=true/\ZbM ns ks (isB [12])=true:=by ba_using show (ZF ⟨11,ws,nums,ks,ps⟩ 2 0&&ZbM ns ks (isB [12]))=true from hl
  have HA1:=zh (show ∀ wr:World,Below w.heap.size w wr->Calls Tryz.prog 81 #[.agg #[.int .i64 11,.slice A1 ws.length c1,.slice A2 nums.length c2,.slice A3 ks.length c3,.int .i64 ps],.int .i64 2,.int .i64 0] wr fun e w'=>e=.returned (.bool true)/\Below wr.heap.size wr w' from fun wr hb=>HS0.out wr hb 2 0 q1)
  have QA:=zh (show ZbM ns ks (Tst.is [12]).f=true from q2)
  clear q1 q2 hl
  go_upto_region 26 with fail
  have HS:(w5.drew.cell? ⟨w.heap.size,0,none⟩=some (.int .i64 11)/\w5.drew.cell? ⟨w.heap.size,1,none⟩=some (.slice A1 ws.length c1)/\w5.drew.cell? ⟨w.heap.size,2,none⟩=some (.slice A2 nums.length c2)/\w5.drew.cell? ⟨w.heap.size,3,none⟩=some (.slice A3 ks.length c3)/\w5.drew.cell? ⟨w.heap.size,4,none⟩=some (.int .i64 ps))/\Below w.heap.size w w5.drew:=⟨HH.out.1,H3.out.drew⟩
  clear HH g0 g1 g2 g3 g4
  refine wp_region_noPanic ?_
  refine wp_region_held_drew (S:=(fun w'=>(w'.cell? ⟨w.heap.size,0,none⟩=some (.int .i64 11)/\w'.cell? ⟨w.heap.size,1,none⟩=some (.slice A1 ws.length c1)/\w'.cell? ⟨w.heap.size,2,none⟩=some (.slice A2 nums.length c2)/\w'.cell? ⟨w.heap.size,3,none⟩=some (.slice A3 ks.length c3)/\w'.cell? ⟨w.heap.size,4,none⟩=some (.int .i64 ps))/\Below w.heap.size w w')) (by kernel_rfl) HS (fun hHeld=>?_)
  clear HS
  refine tkk 0 rfl ?_
  (try simp only [cl,Act.put])
  refine rd 1 rfl fun K hK=>?_
  go_simp
  (first
   | (go_at_call 81;(with_reducible refine (HA1.out _ (Zm (by with_reducible assumption))).mono ?_);rintro e6 w6 ⟨rfl,hb⟩)
   | (go_at_call 80;(with_reducible refine (ZbI _ _ _).mono ?_);rintro e7 w7 ⟨⟨u2,rfl,hT2⟩,hb⟩)
   | (go_at_call 82;(with_reducible refine (ALL.out _ (Zm (by with_reducible assumption)) _ _ hT2 QA.out).mono ?_);rintro e8 w8 ⟨rfl,hb⟩))
  go_wp2_with fail
  refine hK.out _ _ (STB.out _ _ hb (by with_reducible assumption)) (fun hH2=>?_)
  clear hK K hHeld hb;have hHeld:=hH2;clear hH2
  (try simp only [cl,Act.put])
  refine tkk 2 rfl ?_
  refine tkk 3 rfl ?_
  refine tkk 4 rfl ?_
  refine tkk 5 rfl ?_
  (try simp only [cl,Act.put])
  refine rd 6 rfl fun K hK=>?_
  go_simp
  refine hK.out _ _ ?_ (fun hH2=>?_)
  ·exact STB.out _ _ (below_alloc1 _ _) (by with_reducible assumption)
  clear hK K hHeld;have hHeld:=hH2;clear hH2
  (try simp only [cl,Act.put])
  refine rd 7 rfl fun K hK=>?_
  go_simp
  (first
   | (go_at_call 81;(with_reducible refine (HA1.out _ (Zm (by with_reducible assumption))).mono ?_);rintro e6 w6 ⟨rfl,hb⟩)
   | (go_at_call 80;(with_reducible refine (ZbI _ _ _).mono ?_);rintro e7 w7 ⟨⟨u2,rfl,hT2⟩,hb⟩)
   | (go_at_call 82;(with_reducible refine (ALL.out _ (Zm (by with_reducible assumption)) _ _ hT2 QA.out).mono ?_);rintro e8 w8 ⟨rfl,hb⟩))
  go_wp2_with fail
  refine hK.out _ _ (STB.out _ _ hb (by with_reducible assumption)) (fun hH2=>?_)
  clear hK K hHeld hb;have hHeld:=hH2;clear hH2
  (try simp only [cl,Act.put])
  refine rd 8 rfl fun K hK=>?_
  go_simp
  (first
   | (go_at_call 81;(with_reducible refine (HA1.out _ (Zm (by with_reducible assumption))).mono ?_);rintro e6 w6 ⟨rfl,hb⟩)
   | (go_at_call 80;(with_reducible refine (ZbI _ _ _).mono ?_);rintro e7 w7 ⟨⟨u2,rfl,hT2⟩,hb⟩)
   | (go_at_call 82;(with_reducible refine (ALL.out _ (Zm (by with_reducible assumption)) _ _ hT2 QA.out).mono ?_);rintro e8 w8 ⟨rfl,hb⟩))
  go_wp2_with fail
  refine hK.out _ _ (STB.out _ _ hb (by with_reducible assumption)) (fun hH2=>?_)
  clear hK K hHeld hb;have hHeld:=hH2;clear hH2
  (try simp only [cl,Act.put])
  refine tkk 9 rfl ?_
  refine tkk 10 rfl ?_
  (try simp only [cl,Act.put])
  refine wpAnyH_done (by kernel_rfl) ?_ _
  refine NoPanic.normal ?_
  have B9:=zh (Zm hHeld)
  clear hHeld
  go_wp2_with fail
  go_ret
  exact ⟨rfl,B9.out⟩
 ·obtain ⟨q1,q2⟩:ZF ⟨12,ws,nums,ks,ps⟩ 1 0=true/\Zp ns ks [isB [7]]=true:=by ba_using show (ZF ⟨12,ws,nums,ks,ps⟩ 1 0&&Zp ns ks [isB [7]])=true from hl
  have A6:=zh (fun (wr:World) (B:Below w.heap.size w wr) (T:Za6 wr (.is [7]) (.func (.func 109) #[] #[.pointer (some ⟨bu,0,none⟩)]))=>show Calls Tryz.prog 83 #[v,.slice A3 ks.length c3,.slice (some ⟨wr.heap.size,0,none⟩) 1 1] (wr.alloc (.cells #[.func (.func 109) #[] #[.pointer (some ⟨bu,0,none⟩)]] 64)) (fun e w'=>e=.returned (.bool true)/\Below wr.heap.size wr w') from Zdd (AR.out (wr.alloc (.cells #[.func (.func 109) #[] #[.pointer (some ⟨bu,0,none⟩)]] 64)) (B.trans ((below_alloc1 _ _).mono B.size)) _ [.is [7]] (ZcZ wr [.is [7]] [.func (.func 109) #[] #[.pointer (some ⟨bu,0,none⟩)]] 64 (by simp [maxLen]) ⟨T.below (below_alloc1 _ _),trivial⟩) q2))
  have HA1:=zh (show ∀ wr:World,Below w.heap.size w wr->Calls Tryz.prog 81 #[.agg #[.int .i64 12,.slice A1 ws.length c1,.slice A2 nums.length c2,.slice A3 ks.length c3,.int .i64 ps],.int .i64 1,.int .i64 0] wr fun e w'=>e=.returned (.bool true)/\Below wr.heap.size wr w' from fun wr hb=>HS0.out wr hb 1 0 q1)
  clear q1 q2 hl
  go_wp2_with (first
   | (go_at_call 81;(with_reducible refine (HA1.out _ H3.out).mono ?_);rintro e6 w6 ⟨rfl,hb6⟩;have K6:=zh (STB.out _ _ hb6 HH.out);have T6:=zh (T3.out.below hb6);have B6:=zh (Zm K6.out);obtain ⟨⟨k60,k61,k62,k63,k64⟩,_⟩:=id K6.out;skip;clear hb6)
   | (go_at_call 83;(with_reducible refine (A6.out w6 B6.out T6.out).mono ?_);rintro e7 w7 ⟨rfl,hb7⟩;have B7:=zh (B6.out.trans (hb7.mono B6.out.size));clear hb7))
  go_ret
  exact ⟨rfl,B7.out⟩
 ·obtain ⟨q1,q2⟩:ZF ⟨13,ws,nums,ks,ps⟩ 2 3=true/\Zer ns ⟨13,ws,nums,ks,ps⟩=true:=by ba_using show (ZF ⟨13,ws,nums,ks,ps⟩ 2 3&&Zer ns ⟨13,ws,nums,ks,ps⟩)=true from hl
  have HA1:=zh (show ∀ wr:World,Below w.heap.size w wr->Calls Tryz.prog 81 #[.agg #[.int .i64 13,.slice A1 ws.length c1,.slice A2 nums.length c2,.slice A3 ks.length c3,.int .i64 ps],.int .i64 2,.int .i64 3] wr fun e w'=>e=.returned (.bool true)/\Below wr.heap.size wr w' from fun wr hb=>HS0.out wr hb 2 3 q1)
  have PT1:=zh (PT.out (by have:=(ZfS q1).2;exact this) q2)
  clear q1 q2 hl
  go_wp2_with (first
   | (go_at_call 81;(with_reducible refine (HA1.out _ H3.out).mono ?_);rintro e6 w6 ⟨rfl,hb6⟩;have K6:=zh (STB.out _ _ hb6 HH.out);have T6:=zh (T3.out.below hb6);have B6:=zh (Zm K6.out);obtain ⟨⟨k60,k61,k62,k63,k64⟩,_⟩:=id K6.out;skip;clear hb6)
   | (go_at_call 87;(with_reducible refine (PT1.out _ B6.out).mono ?_);rintro e7 w7 ⟨rfl,hb7⟩;have B7:=zh (B6.out.trans (hb7.mono B6.out.size));clear hb7))
  go_ret
  exact ⟨rfl,B7.out⟩
 ·obtain ⟨q1,q2⟩:(ZF ⟨14,ws,nums,ks,ps⟩ 1 0=true\/ZF ⟨14,ws,nums,ks,ps⟩ 2 0=true)/\ZbM ns ks Zef=true:=by ba_using show ((ZF ⟨14,ws,nums,ks,ps⟩ 1 0||ZF ⟨14,ws,nums,ks,ps⟩ 2 0)&&ZbM ns ks Zef)=true from hl
  have QA:=zh q2
  clear q2 hl
  cases q3:ZF ⟨14,ws,nums,ks,ps⟩ 1 0
  ·have q1:=q1.resolve_left (by rw [q3];decide)
   have HA1:=zh (show ∀ wr:World,Below w.heap.size w wr->Calls Tryz.prog 81 #[.agg #[.int .i64 14,.slice A1 ws.length c1,.slice A2 nums.length c2,.slice A3 ks.length c3,.int .i64 ps],.int .i64 1,.int .i64 0] wr fun e w'=>e=.returned (.bool false)/\Below wr.heap.size wr w' from fun wr hb=>HE0.out wr hb 1 0 q3)
   have HA2:=zh (show ∀ wr:World,Below w.heap.size w wr->Calls Tryz.prog 81 #[.agg #[.int .i64 14,.slice A1 ws.length c1,.slice A2 nums.length c2,.slice A3 ks.length c3,.int .i64 ps],.int .i64 2,.int .i64 0] wr fun e w'=>e=.returned (.bool true)/\Below wr.heap.size wr w' from fun wr hb=>HS0.out wr hb 2 0 q1)
   clear q1 q3
   go_wp2_with (first
    | (go_at_call 81;(with_reducible refine (HA1.out _ H3.out).mono ?_);rintro e6 w6 ⟨rfl,hb6⟩;have K6:=zh (STB.out _ _ hb6 HH.out);have T6:=zh (T3.out.below hb6);have B6:=zh (Zm K6.out);obtain ⟨⟨k60,k61,k62,k63,k64⟩,_⟩:=id K6.out;skip;clear hb6)
    | (go_at_call 81;(with_reducible refine (HA2.out _ B6.out).mono ?_);rintro e7 w7 ⟨rfl,hb7⟩;have K7:=zh (STB.out _ _ hb7 K6.out);have T7:=zh (T6.out.below hb7);have B7:=zh (Zm K7.out);obtain ⟨⟨k70,k71,k72,k73,k74⟩,_⟩:=id K7.out;have A7:=zh (ALL.out w7 B7.out (.func (.func 88) #[] #[]) .arg rfl QA.out);clear hb7)
    | (go_at_call 82;(with_reducible refine (A7.out).mono ?_);rintro e8 w8 ⟨rfl,hb8⟩;have B8:=zh (B7.out.trans (hb8.mono B7.out.size));clear hb8))
   go_ret
   exact ⟨rfl,B8.out⟩
  ·have HA1:=zh (show ∀ wr:World,Below w.heap.size w wr->Calls Tryz.prog 81 #[.agg #[.int .i64 14,.slice A1 ws.length c1,.slice A2 nums.length c2,.slice A3 ks.length c3,.int .i64 ps],.int .i64 1,.int .i64 0] wr fun e w'=>e=.returned (.bool true)/\Below wr.heap.size wr w' from fun wr hb=>HS0.out wr hb 1 0 q3)
   clear q1 q3
   go_wp2_with (first
    | (go_at_call 81;(with_reducible refine (HA1.out _ H3.out).mono ?_);rintro e6 w6 ⟨rfl,hb6⟩;have K6:=zh (STB.out _ _ hb6 HH.out);have T6:=zh (T3.out.below hb6);have B6:=zh (Zm K6.out);obtain ⟨⟨k60,k61,k62,k63,k64⟩,_⟩:=id K6.out;have A6:=zh (ALL.out w6 B6.out (.func (.func 88) #[] #[]) .arg rfl QA.out);clear hb6)
    | (go_at_call 82;(with_reducible refine (A6.out).mono ?_);rintro e7 w7 ⟨rfl,hb7⟩;have B7:=zh (B6.out.trans (hb7.mono B6.out.size));clear hb7))
   go_ret
   exact ⟨rfl,B7.out⟩
 ·obtain ⟨q1,q2⟩:ZF ⟨15,ws,nums,ks,ps⟩ 1 0=true/\Zp ns ks []=true:=by ba_using show (ZF ⟨15,ws,nums,ks,ps⟩ 1 0&&Zp ns ks [])=true from hl
  have A6:=zh (fun (wr:World) (B:Below w.heap.size w wr) (T:Za6 wr (.is [7]) (.func (.func 109) #[] #[.pointer (some ⟨bu,0,none⟩)]))=>show Calls Tryz.prog 83 #[v,.slice A3 ks.length c3,.slice none 0 0] wr (fun e w'=>e=.returned (.bool true)/\Below wr.heap.size wr w') from AR.out wr B _ [] (ZeH wr) q2)
  have HA1:=zh (show ∀ wr:World,Below w.heap.size w wr->Calls Tryz.prog 81 #[.agg #[.int .i64 15,.slice A1 ws.length c1,.slice A2 nums.length c2,.slice A3 ks.length c3,.int .i64 ps],.int .i64 1,.int .i64 0] wr fun e w'=>e=.returned (.bool true)/\Below wr.heap.size wr w' from fun wr hb=>HS0.out wr hb 1 0 q1)
  clear q1 q2 hl
  go_wp2_with (first
   | (go_at_call 81;(with_reducible refine (HA1.out _ H3.out).mono ?_);rintro e6 w6 ⟨rfl,hb6⟩;have K6:=zh (STB.out _ _ hb6 HH.out);have T6:=zh (T3.out.below hb6);have B6:=zh (Zm K6.out);obtain ⟨⟨k60,k61,k62,k63,k64⟩,_⟩:=id K6.out;skip;clear hb6)
   | (go_at_call 83;(with_reducible refine (A6.out w6 B6.out T6.out).mono ?_);rintro e7 w7 ⟨rfl,hb7⟩;have B7:=zh (B6.out.trans (hb7.mono B6.out.size));clear hb7))
  go_ret
  exact ⟨rfl,B7.out⟩
 ·obtain ⟨q1,q2⟩:ZF ⟨16,ws,nums,ks,ps⟩ 0 0=true/\(Zp ns ks [Zat,isB [7]]=true\/Zp ns ks [Zat,isB [7],isB [7]]=true):=by ba_using show (ZF ⟨16,ws,nums,ks,ps⟩ 0 0&&(Zp ns ks [Zat,isB [7]]||Zp ns ks [Zat,isB [7],isB [7]]))=true from hl
  have HA1:=zh (show ∀ wr:World,Below w.heap.size w wr->Calls Tryz.prog 81 #[.agg #[.int .i64 16,.slice A1 ws.length c1,.slice A2 nums.length c2,.slice A3 ks.length c3,.int .i64 ps],.int .i64 0,.int .i64 0] wr fun e w'=>e=.returned (.bool true)/\Below wr.heap.size wr w' from fun wr hb=>HS0.out wr hb 0 0 q1)
  clear q1 hl
  cases q3:Zp ns ks [Zat,isB [7]]
  ·have q2:=q2.resolve_left (by rw [q3];decide)
   have A1_:=zh (fun (wr:World) (B:Below w.heap.size w wr) (T:Za6 wr (.is [7]) (.func (.func 109) #[] #[.pointer (some ⟨bu,0,none⟩)]))=>show Calls Tryz.prog 83 #[v,.slice A3 ks.length c3,.slice (some ⟨wr.heap.size,0,none⟩) 2 2] (wr.alloc (.cells #[.func (.func 86) #[] #[],.func (.func 109) #[] #[.pointer (some ⟨bu,0,none⟩)]] 64)) (fun e w'=>e=.returned (.bool false)/\Below wr.heap.size wr w') from Zdd (AE0.out (wr.alloc (.cells #[.func (.func 86) #[] #[],.func (.func 109) #[] #[.pointer (some ⟨bu,0,none⟩)]] 64)) (B.trans ((below_alloc1 _ _).mono B.size)) _ [.expr,.is [7]] (ZcZ wr [.expr,.is [7]] [.func (.func 86) #[] #[],.func (.func 109) #[] #[.pointer (some ⟨bu,0,none⟩)]] 64 (by simp [maxLen]) ⟨rfl,T.below (below_alloc1 _ _),trivial⟩) q3))
   have A2_:=zh (fun (wr:World) (B:Below w.heap.size w wr) (T:Za6 wr (.is [7]) (.func (.func 109) #[] #[.pointer (some ⟨bu,0,none⟩)]))=>show Calls Tryz.prog 83 #[v,.slice A3 ks.length c3,.slice (some ⟨wr.heap.size,0,none⟩) 3 3] (wr.alloc (.cells #[.func (.func 86) #[] #[],.func (.func 109) #[] #[.pointer (some ⟨bu,0,none⟩)],.func (.func 109) #[] #[.pointer (some ⟨bu,0,none⟩)]] 64)) (fun e w'=>e=.returned (.bool true)/\Below wr.heap.size wr w') from Zdd (AR.out (wr.alloc (.cells #[.func (.func 86) #[] #[],.func (.func 109) #[] #[.pointer (some ⟨bu,0,none⟩)],.func (.func 109) #[] #[.pointer (some ⟨bu,0,none⟩)]] 64)) (B.trans ((below_alloc1 _ _).mono B.size)) _ [.expr,.is [7],.is [7]] (ZcZ wr [.expr,.is [7],.is [7]] [.func (.func 86) #[] #[],.func (.func 109) #[] #[.pointer (some ⟨bu,0,none⟩)],.func (.func 109) #[] #[.pointer (some ⟨bu,0,none⟩)]] 64 (by simp [maxLen]) ⟨rfl,T.below (below_alloc1 _ _),T.below (below_alloc1 _ _),trivial⟩) q2))
   clear q2 q3
   go_wp2_with (first
    | (go_at_call 81;(with_reducible refine (HA1.out _ H3.out).mono ?_);rintro e6 w6 ⟨rfl,hb6⟩;have K6:=zh (STB.out _ _ hb6 HH.out);have T6:=zh (T3.out.below hb6);have B6:=zh (Zm K6.out);obtain ⟨⟨k60,k61,k62,k63,k64⟩,_⟩:=id K6.out;skip;clear hb6)
    | (go_at_call 83;(with_reducible refine (A1_.out w6 B6.out T6.out).mono ?_);rintro e7 w7 ⟨rfl,hb7⟩;have K7:=zh (STB.out _ _ hb7 K6.out);have T7:=zh (T6.out.below hb7);have B7:=zh (Zm K7.out);obtain ⟨⟨k70,k71,k72,k73,k74⟩,_⟩:=id K7.out;clear hb7)
    | (go_at_call 83;(with_reducible refine (A2_.out w7 B7.out T7.out).mono ?_);rintro e8 w8 ⟨rfl,hb8⟩;have B8:=zh (B7.out.trans (hb8.mono B7.out.size));clear hb8))
   go_ret
   exact ⟨rfl,B8.out⟩
  ·have A1_:=zh (fun (wr:World) (B:Below w.heap.size w wr) (T:Za6 wr (.is [7]) (.func (.func 109) #[] #[.pointer (some ⟨bu,0,none⟩)]))=>show Calls Tryz.prog 83 #[v,.slice A3 ks.length c3,.slice (some ⟨wr.heap.size,0,none⟩) 2 2] (wr.alloc (.cells #[.func (.func 86) #[] #[],.func (.func 109) #[] #[.pointer (some ⟨bu,0,none⟩)]] 64)) (fun e w'=>e=.returned (.bool true)/\Below wr.heap.size wr w') from Zdd (AR.out (wr.alloc (.cells #[.func (.func 86) #[] #[],.func (.func 109) #[] #[.pointer (some ⟨bu,0,none⟩)]] 64)) (B.trans ((below_alloc1 _ _).mono B.size)) _ [.expr,.is [7]] (ZcZ wr [.expr,.is [7]] [.func (.func 86) #[] #[],.func (.func 109) #[] #[.pointer (some ⟨bu,0,none⟩)]] 64 (by simp [maxLen]) ⟨rfl,T.below (below_alloc1 _ _),trivial⟩) q3))
   clear q2 q3
   go_wp2_with (first
    | (go_at_call 81;(with_reducible refine (HA1.out _ H3.out).mono ?_);rintro e6 w6 ⟨rfl,hb6⟩;have K6:=zh (STB.out _ _ hb6 HH.out);have T6:=zh (T3.out.below hb6);have B6:=zh (Zm K6.out);obtain ⟨⟨k60,k61,k62,k63,k64⟩,_⟩:=id K6.out;skip;clear hb6)
    | (go_at_call 83;(with_reducible refine (A1_.out w6 B6.out T6.out).mono ?_);rintro e7 w7 ⟨rfl,hb7⟩;have B7:=zh (B6.out.trans (hb7.mono B6.out.size));clear hb7))
   go_ret
   exact ⟨rfl,B7.out⟩
 ·obtain ⟨q1,q2⟩:ZF ⟨17,ws,nums,ks,ps⟩ 0 0=true/\Zp ns ks [Zat,isB [7]]=true:=by ba_using show (ZF ⟨17,ws,nums,ks,ps⟩ 0 0&&Zp ns ks [Zat,isB [7]])=true from hl
  have A6:=zh (fun (wr:World) (B:Below w.heap.size w wr) (T:Za6 wr (.is [7]) (.func (.func 109) #[] #[.pointer (some ⟨bu,0,none⟩)]))=>show Calls Tryz.prog 83 #[v,.slice A3 ks.length c3,.slice (some ⟨wr.heap.size,0,none⟩) 2 2] (wr.alloc (.cells #[.func (.func 86) #[] #[],.func (.func 109) #[] #[.pointer (some ⟨bu,0,none⟩)]] 64)) (fun e w'=>e=.returned (.bool true)/\Below wr.heap.size wr w') from Zdd (AR.out (wr.alloc (.cells #[.func (.func 86) #[] #[],.func (.func 109) #[] #[.pointer (some ⟨bu,0,none⟩)]] 64)) (B.trans ((below_alloc1 _ _).mono B.size)) _ [.expr,.is [7]] (ZcZ wr [.expr,.is [7]] [.func (.func 86) #[] #[],.func (.func 109) #[] #[.pointer (some ⟨bu,0,none⟩)]] 64 (by simp [maxLen]) ⟨rfl,T.below (below_alloc1 _ _),trivial⟩) q2))
  have HA1:=zh (show ∀ wr:World,Below w.heap.size w wr->Calls Tryz.prog 81 #[.agg #[.int .i64 17,.slice A1 ws.length c1,.slice A2 nums.length c2,.slice A3 ks.length c3,.int .i64 ps],.int .i64 0,.int .i64 0] wr fun e w'=>e=.returned (.bool true)/\Below wr.heap.size wr w' from fun wr hb=>HS0.out wr hb 0 0 q1)
  clear q1 q2 hl
  go_wp2_with (first
   | (go_at_call 81;(with_reducible refine (HA1.out _ H3.out).mono ?_);rintro e6 w6 ⟨rfl,hb6⟩;have K6:=zh (STB.out _ _ hb6 HH.out);have T6:=zh (T3.out.below hb6);have B6:=zh (Zm K6.out);obtain ⟨⟨k60,k61,k62,k63,k64⟩,_⟩:=id K6.out;skip;clear hb6)
   | (go_at_call 83;(with_reducible refine (A6.out w6 B6.out T6.out).mono ?_);rintro e7 w7 ⟨rfl,hb7⟩;have B7:=zh (B6.out.trans (hb7.mono B6.out.size));clear hb7))
  go_ret
  exact ⟨rfl,B7.out⟩
 ·obtain ⟨q1,q2⟩:ZF ⟨18,ws,nums,ks,ps⟩ 0 0=true/\Zp ns ks [Zat]=true:=by ba_using show (ZF ⟨18,ws,nums,ks,ps⟩ 0 0&&Zp ns ks [Zat])=true from hl
  have A6:=zh (fun (wr:World) (B:Below w.heap.size w wr) (T:Za6 wr (.is [7]) (.func (.func 109) #[] #[.pointer (some ⟨bu,0,none⟩)]))=>show Calls Tryz.prog 83 #[v,.slice A3 ks.length c3,.slice (some ⟨wr.heap.size,0,none⟩) 1 1] (wr.alloc (.cells #[.func (.func 86) #[] #[]] 64)) (fun e w'=>e=.returned (.bool true)/\Below wr.heap.size wr w') from Zdd (AR.out (wr.alloc (.cells #[.func (.func 86) #[] #[]] 64)) (B.trans ((below_alloc1 _ _).mono B.size)) _ [.expr] (ZcZ wr [.expr] [.func (.func 86) #[] #[]] 64 (by simp [maxLen]) ⟨rfl,trivial⟩) q2))
  have HA1:=zh (show ∀ wr:World,Below w.heap.size w wr->Calls Tryz.prog 81 #[.agg #[.int .i64 18,.slice A1 ws.length c1,.slice A2 nums.length c2,.slice A3 ks.length c3,.int .i64 ps],.int .i64 0,.int .i64 0] wr fun e w'=>e=.returned (.bool true)/\Below wr.heap.size wr w' from fun wr hb=>HS0.out wr hb 0 0 q1)
  clear q1 q2 hl
  go_wp2_with (first
   | (go_at_call 81;(with_reducible refine (HA1.out _ H3.out).mono ?_);rintro e6 w6 ⟨rfl,hb6⟩;have K6:=zh (STB.out _ _ hb6 HH.out);have T6:=zh (T3.out.below hb6);have B6:=zh (Zm K6.out);obtain ⟨⟨k60,k61,k62,k63,k64⟩,_⟩:=id K6.out;skip;clear hb6)
   | (go_at_call 83;(with_reducible refine (A6.out w6 B6.out T6.out).mono ?_);rintro e7 w7 ⟨rfl,hb7⟩;have B7:=zh (B6.out.trans (hb7.mono B6.out.size));clear hb7))
  go_ret
  exact ⟨rfl,B7.out⟩
 ·obtain ⟨q1,q2⟩:ZF ⟨19,ws,nums,ks,ps⟩ 0 0=true/\Zp ns ks []=true:=by ba_using show (ZF ⟨19,ws,nums,ks,ps⟩ 0 0&&Zp ns ks [])=true from hl
  have A6:=zh (fun (wr:World) (B:Below w.heap.size w wr) (T:Za6 wr (.is [7]) (.func (.func 109) #[] #[.pointer (some ⟨bu,0,none⟩)]))=>show Calls Tryz.prog 83 #[v,.slice A3 ks.length c3,.slice none 0 0] wr (fun e w'=>e=.returned (.bool true)/\Below wr.heap.size wr w') from AR.out wr B _ [] (ZeH wr) q2)
  have HA1:=zh (show ∀ wr:World,Below w.heap.size w wr->Calls Tryz.prog 81 #[.agg #[.int .i64 19,.slice A1 ws.length c1,.slice A2 nums.length c2,.slice A3 ks.length c3,.int .i64 ps],.int .i64 0,.int .i64 0] wr fun e w'=>e=.returned (.bool true)/\Below wr.heap.size wr w' from fun wr hb=>HS0.out wr hb 0 0 q1)
  clear q1 q2 hl
  go_wp2_with (first
   | (go_at_call 81;(with_reducible refine (HA1.out _ H3.out).mono ?_);rintro e6 w6 ⟨rfl,hb6⟩;have K6:=zh (STB.out _ _ hb6 HH.out);have T6:=zh (T3.out.below hb6);have B6:=zh (Zm K6.out);obtain ⟨⟨k60,k61,k62,k63,k64⟩,_⟩:=id K6.out;skip;clear hb6)
   | (go_at_call 83;(with_reducible refine (A6.out w6 B6.out T6.out).mono ?_);rintro e7 w7 ⟨rfl,hb7⟩;have B7:=zh (B6.out.trans (hb7.mono B6.out.size));clear hb7))
  go_ret
  exact ⟨rfl,B7.out⟩
 ·obtain ⟨q1,q2⟩:ZF ⟨20,ws,nums,ks,ps⟩ 0 1=true/\Zp ns ks []=true:=by ba_using show (ZF ⟨20,ws,nums,ks,ps⟩ 0 1&&Zp ns ks [])=true from hl
  have A6:=zh (fun (wr:World) (B:Below w.heap.size w wr) (T:Za6 wr (.is [7]) (.func (.func 109) #[] #[.pointer (some ⟨bu,0,none⟩)]))=>show Calls Tryz.prog 83 #[v,.slice A3 ks.length c3,.slice none 0 0] wr (fun e w'=>e=.returned (.bool true)/\Below wr.heap.size wr w') from AR.out wr B _ [] (ZeH wr) q2)
  have HA1:=zh (show ∀ wr:World,Below w.heap.size w wr->Calls Tryz.prog 81 #[.agg #[.int .i64 20,.slice A1 ws.length c1,.slice A2 nums.length c2,.slice A3 ks.length c3,.int .i64 ps],.int .i64 0,.int .i64 1] wr fun e w'=>e=.returned (.bool true)/\Below wr.heap.size wr w' from fun wr hb=>HS0.out wr hb 0 1 q1)
  clear q1 q2 hl
  go_wp2_with (first
   | (go_at_call 81;(with_reducible refine (HA1.out _ H3.out).mono ?_);rintro e6 w6 ⟨rfl,hb6⟩;have K6:=zh (STB.out _ _ hb6 HH.out);have T6:=zh (T3.out.below hb6);have B6:=zh (Zm K6.out);obtain ⟨⟨k60,k61,k62,k63,k64⟩,_⟩:=id K6.out;skip;clear hb6)
   | (go_at_call 83;(with_reducible refine (A6.out w6 B6.out T6.out).mono ?_);rintro e7 w7 ⟨rfl,hb7⟩;have B7:=zh (B6.out.trans (hb7.mono B6.out.size));clear hb7))
  go_ret
  exact ⟨rfl,B7.out⟩
 ·obtain ⟨q1,q2⟩:ZF ⟨21,ws,nums,ks,ps⟩ 1 0=true/\Zp ns ks []=true:=by ba_using show (ZF ⟨21,ws,nums,ks,ps⟩ 1 0&&Zp ns ks [])=true from hl
  have A6:=zh (fun (wr:World) (B:Below w.heap.size w wr) (T:Za6 wr (.is [7]) (.func (.func 109) #[] #[.pointer (some ⟨bu,0,none⟩)]))=>show Calls Tryz.prog 83 #[v,.slice A3 ks.length c3,.slice none 0 0] wr (fun e w'=>e=.returned (.bool true)/\Below wr.heap.size wr w') from AR.out wr B _ [] (ZeH wr) q2)
  have HA1:=zh (show ∀ wr:World,Below w.heap.size w wr->Calls Tryz.prog 81 #[.agg #[.int .i64 21,.slice A1 ws.length c1,.slice A2 nums.length c2,.slice A3 ks.length c3,.int .i64 ps],.int .i64 1,.int .i64 0] wr fun e w'=>e=.returned (.bool true)/\Below wr.heap.size wr w' from fun wr hb=>HS0.out wr hb 1 0 q1)
  clear q1 q2 hl
  go_wp2_with (first
   | (go_at_call 81;(with_reducible refine (HA1.out _ H3.out).mono ?_);rintro e6 w6 ⟨rfl,hb6⟩;have K6:=zh (STB.out _ _ hb6 HH.out);have T6:=zh (T3.out.below hb6);have B6:=zh (Zm K6.out);obtain ⟨⟨k60,k61,k62,k63,k64⟩,_⟩:=id K6.out;skip;clear hb6)
   | (go_at_call 83;(with_reducible refine (A6.out w6 B6.out T6.out).mono ?_);rintro e7 w7 ⟨rfl,hb7⟩;have B7:=zh (B6.out.trans (hb7.mono B6.out.size));clear hb7))
  go_ret
  exact ⟨rfl,B7.out⟩
 ·obtain ⟨q1,q3,q2⟩:ZF ⟨22,ws,nums,ks,ps⟩ 0 1=true/\num ⟨22,ws,nums,ks,ps⟩ 0<=5/\Zp ns ks [Zat,Zat]=true:=by ba_using show (ZF ⟨22,ws,nums,ks,ps⟩ 0 1&&decide (num ⟨22,ws,nums,ks,ps⟩ 0<=5)&&Zp ns ks [Zat,Zat])=true from hl
  have A6:=zh (fun (wr:World) (B:Below w.heap.size w wr) (T:Za6 wr (.is [7]) (.func (.func 109) #[] #[.pointer (some ⟨bu,0,none⟩)]))=>show Calls Tryz.prog 83 #[v,.slice A3 ks.length c3,.slice (some ⟨wr.heap.size,0,none⟩) 2 2] (wr.alloc (.cells #[.func (.func 86) #[] #[],.func (.func 86) #[] #[]] 64)) (fun e w'=>e=.returned (.bool true)/\Below wr.heap.size wr w') from Zdd (AR.out (wr.alloc (.cells #[.func (.func 86) #[] #[],.func (.func 86) #[] #[]] 64)) (B.trans ((below_alloc1 _ _).mono B.size)) _ [.expr,.expr] (ZcZ wr [.expr,.expr] [.func (.func 86) #[] #[],.func (.func 86) #[] #[]] 64 (by simp [maxLen]) ⟨rfl,rfl,trivial⟩) q2))
  have HA1:=zh (show ∀ wr:World,Below w.heap.size w wr->Calls Tryz.prog 81 #[.agg #[.int .i64 22,.slice A1 ws.length c1,.slice A2 nums.length c2,.slice A3 ks.length c3,.int .i64 ps],.int .i64 0,.int .i64 1] wr fun e w'=>e=.returned (.bool true)/\Below wr.heap.size wr w' from fun wr hb=>HS0.out wr hb 0 1 q1)
  have QH1:=zh q1
  have hl:=(ZfS QH1.out).2
  dsimp only at hl
  obtain ⟨y,hy⟩:∃ y,nums[0]? = some y:=⟨_,List.getElem?_eq_getElem (by omega)⟩
  obtain ⟨ad2,rfl,_⟩:=ints_at R2.out (Below.refl _ _) hy (by omega)
  have NC:=zh (fun (wr:World) (hb:Below w.heap.size w wr)=>show wr.cell? ad2=some (.int .i64 y) from by obtain ⟨a2,e2,q2⟩:=ints_at R2.out hb hy (by omega);injection e2 with e2;subst e2;rwa [show ad2.add 0=ad2 by unfold Addr.add;simp] at q2)
  have i3:(0:Int)<(nums.length:Int):=by omega
  clear hl
  rw [Zd3 (n:=(⟨22,ws,nums,ks,ps⟩:Nd)) hy] at q3
  clear q1 q2 hl hy QH1
  go_wp2_with (first
   | (go_at_call 81;(with_reducible refine (HA1.out _ H3.out).mono ?_);rintro e6 w6 ⟨rfl,hb6⟩;have K6:=zh (STB.out _ _ hb6 HH.out);have T6:=zh (T3.out.below hb6);have B6:=zh (Zm K6.out);obtain ⟨⟨k60,k61,k62,k63,k64⟩,_⟩:=id K6.out;have y6:=NC.out w6 B6.out;clear hb6)
   | (go_at_call 83;(with_reducible refine (A6.out w6 B6.out T6.out).mono ?_);rintro e7 w7 ⟨rfl,hb7⟩;have B7:=zh (B6.out.trans (hb7.mono B6.out.size));clear hb7))
  go_ret
  exact ⟨rfl,B7.out⟩
 ·obtain ⟨q1,q2⟩:ZF ⟨23,ws,nums,ks,ps⟩ 0 0=true/\Zp ns ks [Zat]=true:=by ba_using show (ZF ⟨23,ws,nums,ks,ps⟩ 0 0&&Zp ns ks [Zat])=true from hl
  have A6:=zh (fun (wr:World) (B:Below w.heap.size w wr) (T:Za6 wr (.is [7]) (.func (.func 109) #[] #[.pointer (some ⟨bu,0,none⟩)]))=>show Calls Tryz.prog 83 #[v,.slice A3 ks.length c3,.slice (some ⟨wr.heap.size,0,none⟩) 1 1] (wr.alloc (.cells #[.func (.func 86) #[] #[]] 64)) (fun e w'=>e=.returned (.bool true)/\Below wr.heap.size wr w') from Zdd (AR.out (wr.alloc (.cells #[.func (.func 86) #[] #[]] 64)) (B.trans ((below_alloc1 _ _).mono B.size)) _ [.expr] (ZcZ wr [.expr] [.func (.func 86) #[] #[]] 64 (by simp [maxLen]) ⟨rfl,trivial⟩) q2))
  have HA1:=zh (show ∀ wr:World,Below w.heap.size w wr->Calls Tryz.prog 81 #[.agg #[.int .i64 23,.slice A1 ws.length c1,.slice A2 nums.length c2,.slice A3 ks.length c3,.int .i64 ps],.int .i64 0,.int .i64 0] wr fun e w'=>e=.returned (.bool true)/\Below wr.heap.size wr w' from fun wr hb=>HS0.out wr hb 0 0 q1)
  clear q1 q2 hl
  go_wp2_with (first
   | (go_at_call 81;(with_reducible refine (HA1.out _ H3.out).mono ?_);rintro e6 w6 ⟨rfl,hb6⟩;have K6:=zh (STB.out _ _ hb6 HH.out);have T6:=zh (T3.out.below hb6);have B6:=zh (Zm K6.out);obtain ⟨⟨k60,k61,k62,k63,k64⟩,_⟩:=id K6.out;skip;clear hb6)
   | (go_at_call 83;(with_reducible refine (A6.out w6 B6.out T6.out).mono ?_);rintro e7 w7 ⟨rfl,hb7⟩;have B7:=zh (B6.out.trans (hb7.mono B6.out.size));clear hb7))
  go_ret
  exact ⟨rfl,B7.out⟩
end
section
open Go.RowKit
theorem ZpI (w:World) (v:Value) (ns:List Nd) (x:NdV×Nd) (ht:Zay w 3 ZG) (hN:Zs w v ns) (hx:ZaW w x) (hk:ZdO x.2.kids ns.length) (hq:Zc5 ns x.2=true) :
  Calls Tryz.prog 34 #[v,ndV x] w fun e w'=>e=.returned (.bool true)/\Below w.heap.size w w':=by
 have NA:=zh (fun (wr:World) (hb:Below w.heap.size w wr)=>Zo0 wr x.1.1 x.2.words (hx.1.below hb) (ht.below hb))
 have NU:=zh (fun (wr:World) (hb:Below w.heap.size w wr)=>ZlR wr x.1.2.1 x.2.nums (hx.2.1.below hb))
 unfold Zc5 at hq
 rw [Bool.and_eq_true,Bool.and_eq_true] at hq
 obtain ⟨⟨q1,q2⟩,q3⟩:=hq
 rw [q1] at NA
 rw [q2] at NU
 obtain ⟨h1,h2,h3⟩:=id hx
 obtain ⟨⟨va,vb,vc⟩,kd,ws,nums,ks,ps⟩:=x
 have LI:=zh (fun (wr:World) (hb:Below w.heap.size w wr)=>Znw wr v ns va vb vc kd ws nums ks ps (hN.below hb) (hx.below hb) hk q3)
 dsimp only at h1 h2 h3 NA NU hk
 obtain ⟨A1,c1,rfl,_⟩:=h1
 obtain ⟨A2,c2,rfl,_⟩:=h2
 obtain ⟨A3,c3,rfl,_⟩:=h3
 unfold ndV at LI ⊢
 dsimp only at LI ⊢
 have HB:=zh (below_alloc1 w (.cells #[.int .i64 kd,.slice A1 ws.length c1,.slice A2 nums.length c2,.slice A3 ks.length c3,.int .i64 ps] 37))
 clear ht hN hx hk q1 q2 q3
 have g0:=(Blk.start w #[.int .i64 kd,.slice A1 ws.length c1,.slice A2 nums.length c2,.slice A3 ks.length c3,.int .i64 ps] 37).cell 0
 go_enter Tryz.func34,Tryz.ntmps34
 go_wp2_with (first
  | (go_at_call 61;(with_reducible refine (NA.out _ HB.out).mono ?_);rintro e6 w6 ⟨rfl,rfl⟩)
  | (go_at_call 62;(with_reducible refine (NU.out _ HB.out).mono ?_);rintro e7 w7 ⟨rfl,rfl⟩)
  | (go_at_call 63;(with_reducible refine (LI.out _ HB.out).mono ?_);rintro e8 w8 ⟨rfl,hb8⟩;have B8:=zh (HB.out.trans (hb8.mono HB.out.size));clear hb8))
 go_ret
 exact ⟨rfl,B8.out⟩
theorem Zlg (w:World) (v:Value) (ns:List Nd) (h:Zs w v ns) (hV:∀ (w':World) (x:NdV×Nd) (i:Nat),Below w.heap.size w w'->ZaW w x->ns[i]? = some x.2->ZdO x.2.kids ns.length->Calls Tryz.prog 34 #[v,ndV x] w' fun e w2=>e=.returned (.bool (Zc5 ns x.2))/\Below w'.heap.size w' w2) :
  Calls Tryz.prog 16 #[v] w fun e w'=>e=.returned (.bool (Zcw ns))/\Below w.heap.size w w':=by
 cases hp:Zcg ns with
 | none=>
  have pn:=Zlc h hp
  rw [ZdT hp]
  clear h hp hV
  go_enter Tryz.func16,Tryz.ntmps16
  go_wp2_with (go_at_call 31;(with_reducible refine pn.mono ?_);rintro e w1 ⟨rfl,hb⟩;have HB:=zh hb;clear hb)
  go_ret
  exact ⟨rfl,HB.out⟩
 | some p=>
  have pn:=Zld h hp
  have hr:=Zfk hp
  obtain ⟨f1,f2,_,_⟩:=ZfK hp
  have de:=fun w g c=>Zoo (w:=w) (g:=g) (c:=c) hp
  have mx:=fun w g c=>Zsf (w:=w) (g:=g) (c:=c) hp
  have hv:=(fun (w':World) (hb:Below w.heap.size w w') (i:Nat) (x:NdV×Nd) (hx:ZaW w x) (hd:ns[i]? = some x.2)=>hV w' x i hb hx hd (Zo5 hp hd))
  obtain ⟨A,cp,rs,rfl,h2,h3,h4,h5,h6⟩:=h
  obtain ⟨n,hn⟩:∃ n,n=ns.length:=⟨_,rfl⟩
  rw [<- hn] at h2 h5 f1 f2 ⊢
  rw [<- hn] at pn
  simp only [<- hn] at de mx hv
  have HV:=zh hv
  have DE:=zh de
  have MX:=zh mx
  obtain ⟨x0,hx0⟩:∃ x,rs[0]? = some x:=⟨_,List.getElem?_eq_getElem (by have:=congrArg List.length h4;rw [List.length_map] at this;omega)⟩
  have hk0:ZJ ns 0=x0.2.kind:=Zgm (k:=0) (by rw [<- h4,List.getElem?_map,hx0];rfl)
  obtain ⟨ad,rfl,_⟩:=ZbA h5 (Below.refl _ _) hx0 (by omega)
  have D0:=zh (fun (w':World) (hb:Below w.heap.size w w')=>show w'.cell? ad=some (.int .i64 (ZJ ns 0)) from by
   obtain ⟨ad',e,d0,_⟩:=ZbA h5 hb hx0 (by omega)
   injection e with e
   rw [e,hk0]
   rwa [show ad'.add (0*5)=ad' by unfold Addr.add;simp] at d0)
  rw [hr]
  have HN:=zh (zi hn (zi f1 f2))
  have H4:=zh (zi h4 (zi h5 h6))
  have i0:(0:Int)<(n:Int):=by omega
  clear hn f1 f2 h2 h3 h4 h5 h6 hx0 hk0 hr hp hV de mx hv
  generalize ZJ ns 0=K0 at *
  generalize Zgd (Zb8 p)=M at *
  cases t1:(K0==0)
  ·have t2:(K0 != 0)=true:=by rw [bne,t1];rfl
   go_enter Tryz.func16,Tryz.ntmps16
   go_wp2_with (go_at_call 31;(with_reducible refine pn.mono ?_);rintro e w1 ⟨g,c,rfl,hP,hb⟩;have HB:=zh (zi hP hb);have d0:=D0.out w1 hb;clear hP hb)
   go_ret
   exact ⟨rfl,HB.out.2⟩
  ·have t2:(K0 != 0)=false:=by rw [bne,t1];rfl
   by_cases q:24<M
   ·have q2:¬ M<=24:=by omega
    rw [decide_eq_false q2]
    go_enter Tryz.func16,Tryz.ntmps16
    go_wp2_with (first
     | (go_at_call 31;(with_reducible refine pn.mono ?_);rintro e w1 ⟨g,c,rfl,hP,hb⟩;have HB:=zh (zi hP hb);have d0:=D0.out w1 hb;clear hP hb)
     | (go_at_call 33;(with_reducible refine (DE.out _ _ _ HB.out.1).mono ?_);rintro e w2 ⟨g2,c2,rfl,hP2,hb2⟩;have HC:=zh (zi hP2 hb2);clear hP2 hb2)
     | (go_at_call 32;(with_reducible refine (MX.out _ _ _ HC.out.1).mono ?_);rintro e w3 ⟨rfl,rfl⟩))
    go_ret
    exact ⟨rfl,HB.out.2.trans (HC.out.2.mono HB.out.2.size)⟩
   ·have q2:M<=24:=by omega
    rw [decide_eq_true q2]
    go_enter Tryz.func16,Tryz.ntmps16
    go_wp2_with (first
     | (go_at_call 31;(with_reducible refine pn.mono ?_);rintro e w1 ⟨g,c,rfl,hP,hb⟩;have HB:=zh (zi hP hb);have d0:=D0.out w1 hb;clear hP hb)
     | (go_at_call 33;(with_reducible refine (DE.out _ _ _ HB.out.1).mono ?_);rintro e w2 ⟨g2,c2,rfl,hP2,hb2⟩;have HC:=zh (zi hP2 hb2);clear hP2 hb2)
     | (go_at_call 32;(with_reducible refine (MX.out _ _ _ HC.out.1).mono ?_);rintro e w3 ⟨rfl,rfl⟩))
    have bC:=HB.out.2.trans (HC.out.2.mono HB.out.2.size)
    clear DE MX HC d0
    go_loopg [29] n (fun gk v29 wr=>∃ j:Nat,v29=.int .i64 j/\j<=n/\gk=n-j/\(ns.take j).all (Zc5 ns)=true/\Below w.heap.size w wr)
    case atStart=>exact ⟨0,rfl,Nat.zero_le _,rfl,rfl,bC⟩
    case round=>
     clear bC HB
     obtain ⟨j,rfl,hj,hgk,hall,hb⟩:=hrel
     by_cases hjn:j=n
     ·have e:ns.take j=ns:=by rw [hjn,HN.out.1];exact List.take_length
      rw [e] at hall
      subst hjn
      have FIN:=zh (zi hall hb)
      clear e hall hb hgk hj
      go_wp2_with fail
      go_ret
      exact ⟨by rw [FIN.out.1];rfl,FIN.out.2⟩
     have hlt:j<n:=by omega
     obtain ⟨x,hx⟩:∃ x,rs[j]? = some x:=⟨_,List.getElem?_eq_getElem (by have:=congrArg List.length H4.out.1;rw [List.length_map] at this;have:=HN.out.1;omega)⟩
     have hd:ns[j]? = some x.2:=by rw [<- H4.out.1,List.getElem?_map,hx];rfl
     have VX:=zh (fun w' hb=>HV.out w' hb j x (H4.out.2.2 x (List.mem_of_getElem? hx)) hd)
     have nxt:=Zie (f:=Zc5 ns) hd hall
     have bad:Zc5 ns x.2=false->ns.all (Zc5 ns)=false:=Zjr hd
     obtain ⟨ad',ea,d0,d1,d2,d3,d4⟩:=ZbA H4.out.2.1 hb hx (by omega)
     injection ea with ea
     subst ea
     have i2:(j:Int)<(n:Int):=by omega
     have i3:(0:Int)<=(j:Int):=by omega
     have u1:IntKind.i64.wrap ((j:Int)+1)=(j:Int)+1:=IntWalk.i64_in _ (by have:=HN.out;omega)
     obtain ⟨⟨A1,c1,ev1,_⟩,⟨A2,c2',ev2,_⟩,A3,c3,ev3,_⟩:=H4.out.2.2 x (List.mem_of_getElem? hx)
     have HJ:=zh (zi hgk (zi hb hlt))
     have NX:=zh (zi nxt bad)
     clear hgk hb hlt hjn hj hx hd hall nxt bad
     obtain ⟨⟨va,vb,vc⟩,kd,ws,nums,ks,ps⟩:=x
     dsimp only at d0 d1 d2 d3 d4 ev1 ev2 ev3
     subst ev1 ev2 ev3
     unfold ndV at VX
     dsimp only at VX
     generalize Zc5 ns ⟨kd,ws,nums,ks,ps⟩=B at *
     go_upto_region 7 with fail
     have a5:=below_alloc1 wr (.cells #[.int .i64 kd,.slice A1 ws.length c1,.slice A2 nums.length c2',.slice A3 ks.length c3,.int .i64 ps] 37)
     have b5:=HJ.out.2.1.trans (a5.mono HJ.out.2.1.size)
     have B5:=Blk.start wr #[.int .i64 kd,.slice A1 ws.length c1,.slice A2 nums.length c2',.slice A3 ks.length c3,.int .i64 ps] 37
     have H5:=zh b5
     have g0:=B5.cell 0
     have g1:=B5.cell 1
     have g2':=B5.cell 2
     have g3:=B5.cell 3
     have g4:=B5.cell 4
     clear a5 b5 B5 d0 d1 d2 d3 d4
     generalize wr.alloc (.cells #[.int .i64 kd,.slice A1 ws.length c1,.slice A2 nums.length c2',.slice A3 ks.length c3,.int .i64 ps] 37)=w5 at *
     generalize hnb:wr.heap.size=nb at *
     clear hnb
     simp only [List.getElem?_toArray,List.getElem?_cons_zero,List.getElem?_cons_succ] at g0 g1 g2' g3 g4
     cases B
     ·have FIN:=zh (NX.out.2 rfl)
      go_wp2_with (go_at_call 34;(with_reducible refine (VX.out _ H5.out).mono ?_);rintro e w6 ⟨rfl,hb6⟩;have H6:=zh hb6;clear hb6)
      go_ret
      exact ⟨by rw [FIN.out];rfl,H5.out.trans (H6.out.mono H5.out.size)⟩
     ·go_wp2_with (go_at_call 34;(with_reducible refine (VX.out _ H5.out).mono ?_);rintro e w6 ⟨rfl,hb6⟩;have H6:=zh hb6;clear hb6)
      go_roundg (n-(j+1))
      case measure=>have:=HJ.out;omega
      case rel=>exact ⟨j+1,by push_cast;rfl,by have:=HJ.out;omega,rfl,NX.out.1,H5.out.trans (H6.out.mono H5.out.size)⟩
theorem Zpj (w:World) (v:Value) (ns:List Nd) (h:Zs w v ns) (ht:Zay w 3 ZG) (hr:Zcw ns=true) :
  Calls Tryz.prog 16 #[v] w fun e w'=>e=.returned (.bool true)/\Below w.heap.size w w':=by
 have all:∀ d∈ns,Zc5 ns d=true:=by
  cases hp:Zcg ns with
  | none=>rw [ZdT hp] at hr;cases hr
  | some p=>
   rw [Zfk hp,Bool.and_eq_true] at hr
   exact fun d hd=>List.all_eq_true.mp hr.2 d hd
 have:=Zlg w v ns h fun w' x i hb hx hd hk=>by
  have q:=all x.2 (List.mem_of_getElem? hd)
  rw [q]
  exact ZpI w' v ns x (ht.below hb) (h.below hb) (hx.below hb) hk q
 rw [hr] at this
 exact this
theorem Zpi (w:World):Calls Tryz.prog 16 #[.slice none 0 0] w fun e w'=>e=.returned (.bool false)/\Below w.heap.size w w':=
 Zlg w _ [] (Zs.nil w) fun w' x i hb hx hd=>by simp at hd
end
end Go.Proofs.YtkongcicmajolaaGreatDoor
