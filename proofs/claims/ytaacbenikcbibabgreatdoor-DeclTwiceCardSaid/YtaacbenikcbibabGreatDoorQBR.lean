import Derived.Test.YtaacbenikcbibabGreatDoorQBK
set_option maxRecDepth 100000
set_option maxHeartbeats 8000000
namespace Go.Proofs.YtaacbenikcbibabGreatDoor
section
open Go.RowKit
theorem ZhF {w:World} {A:Option Addr} {c m:Nat} {v:Value} {l:List Int} (h:ZL w v l) (e:v=.slice A l.length c) (hm:m<=l.length) :
  ZL w (.slice A m c) (l.take m)/\ZL w (.slice (if c=m then A else A.map (·.add m)) (l.length-m) (c-m)) (l.drop m):=by
 obtain ⟨A',c',e',h1,h2,h3⟩:=h
 rw [e] at e'
 injection e' with a _ b
 subst a b
 refine ⟨⟨A,c,by rw [List.length_take,Nat.min_eq_left hm],by rw [List.length_take];omega,h2,?_⟩,⟨_,c-m,by rw [List.length_drop],by rw [List.length_drop];omega,by omega,?_⟩⟩
 ·rw [List.length_take,Nat.min_eq_left hm]
  refine ⟨by simp;omega,fun hn=>?_⟩
  obtain ⟨ad,e,hb,hc⟩:=h3.2 (by omega)
  refine ⟨ad,e,hb,fun j u hj=>hc j u ?_⟩
  rw [List.map_take,List.getElem?_take] at hj
  split at hj
  ·exact hj
  ·cases hj
 ·have:=h3.cut (k:=m) (cap:=c) hm h1
  rw [Nat.mul_one] at this
  rw [List.length_drop,List.map_drop]
  exact this
theorem ZgY (w:World) (v:Value) (ns:List Nd) (va vb vc:Value) (ws:List (List UInt8)) (nums ks:List Int) (ps:Int) (hN:Zo w v ns) (hx:ZO w ((va,vb,vc),⟨4,ws,nums,ks,ps⟩)) (hk:ZA ks ns.length) :
  Calls Tryz.prog 40 #[v,ndV ((va,vb,vc),⟨4,ws,nums,ks,ps⟩)] w fun e w'=>e=.returned (.bool (Zn ns ⟨4,ws,nums,ks,ps⟩))/\Below w.heap.size w w':=by
 rw [show Zn ns ⟨4,ws,nums,ks,ps⟩=(Zj ⟨4,ws,nums,ks,ps⟩ 1 0&&ZaB ns (ks.take (ks.length-1)) (isB [5])&&Zl ns (ks.drop (ks.length-1)) [isB [7]]) from rfl]
 obtain ⟨h1,h2,h3⟩:=id hx
 dsimp only at h1 h2 h3
 have AR:=Lib.hid (fun (wr:World) (hb:Below w.heap.size w wr) (vf:Value) (ts:List Tst) (hF:ZY wr vf ts)=>ZE wr v vc vf ns ks ts (hN.below hb) (h3.below hb) hF hk)
 have ALL:=Lib.hid (fun (wr:World) (hb:Below w.heap.size w wr) (u:Value) (t:Tst) (hu:Zq wr t u)=>ZD wr v vc u ns ks t (hN.below hb) (h3.below hb) hu hk)
 have HS0:=Lib.hid (fun (wr:World) (hb:Below w.heap.size w wr) (a b:Nat)=>ZK wr _ a b (hx.below hb))
 have CUT:=Lib.hid (show ∀ (A:Option Addr) (c:Nat),vc=.slice A ks.length c->∀ wr:World,Below w.heap.size w wr->ZL wr (.slice A (ks.length-1) c) (ks.take (ks.length-1))/\ZL wr (.slice (if c=ks.length-1 then A else A.map (·.add (ks.length-1))) (ks.length-(ks.length-1)) (c-(ks.length-1))) (ks.drop (ks.length-1)) from fun A c e wr hb=>ZhF (h3.below hb) e (by omega))
 have CLE:=Lib.hid (show ∀ (A:Option Addr) (c:Nat),vc=.slice A ks.length c->ks.length<=c from fun A c e=>by obtain ⟨A2,c2,e2,q,_⟩:=id h3;rw [e] at e2;injection e2 with _ _ e2;omega)
 have AR2:=Lib.hid (fun (wr:World) (hb:Below w.heap.size w wr) (vk:Value) (hK:ZL wr vk (ks.drop (ks.length-1))) (vf:Value) (ts:List Tst) (hF:ZY wr vf ts)=>ZE wr v vk vf ns (ks.drop (ks.length-1)) ts (hN.below hb) hK hF (fun k h=>hk k (List.mem_of_mem_drop h)))
 have AL2:=Lib.hid (fun (wr:World) (hb:Below w.heap.size w wr) (vk:Value) (hK:ZL wr vk (ks.take (ks.length-1))) (u:Value) (t:Tst) (hu:Zq wr t u)=>ZD wr v vk u ns (ks.take (ks.length-1)) t (hN.below hb) hK hu (fun k h=>hk k (List.mem_of_mem_take h)))
 have LM:=h3.len
 obtain ⟨A1,c1,rfl,_⟩:=h1
 obtain ⟨A2,c2,rfl,_,_,R2'⟩:=h2
 have R2:=Lib.hid R2'
 clear R2'
 obtain ⟨A3,c3,rfl,_⟩:=h3
 unfold ndV at HS0 ⊢
 dsimp only at HS0 ⊢
 clear hx hN hk
 have STB:=Lib.hid (show Stb (fun w'=>(w'.cell? ⟨w.heap.size,0,none⟩=some (.int .i64 4)/\w'.cell? ⟨w.heap.size,1,none⟩=some (.slice A1 ws.length c1)/\w'.cell? ⟨w.heap.size,2,none⟩=some (.slice A2 nums.length c2)/\w'.cell? ⟨w.heap.size,3,none⟩=some (.slice A3 ks.length c3)/\w'.cell? ⟨w.heap.size,4,none⟩=some (.int .i64 ps))/\Below w.heap.size w w') from Zd (Zd (Zc _ _) (Zd (Zc _ _) (Zd (Zc _ _) (Zd (Zc _ _) (Zc _ _))))) (Zr w))
 go_enter Tryz.func40,Tryz.ntmps40
 go_upto_region 1 with fail
 have HS1:((w.alloc (.cells #[.int .i64 4,.slice A1 ws.length c1,.slice A2 nums.length c2,.slice A3 ks.length c3,.int .i64 ps] 27)).cell? ⟨w.heap.size,0,none⟩=some (.int .i64 4)/\(w.alloc (.cells #[.int .i64 4,.slice A1 ws.length c1,.slice A2 nums.length c2,.slice A3 ks.length c3,.int .i64 ps] 27)).cell? ⟨w.heap.size,1,none⟩=some (.slice A1 ws.length c1)/\(w.alloc (.cells #[.int .i64 4,.slice A1 ws.length c1,.slice A2 nums.length c2,.slice A3 ks.length c3,.int .i64 ps] 27)).cell? ⟨w.heap.size,2,none⟩=some (.slice A2 nums.length c2)/\(w.alloc (.cells #[.int .i64 4,.slice A1 ws.length c1,.slice A2 nums.length c2,.slice A3 ks.length c3,.int .i64 ps] 27)).cell? ⟨w.heap.size,3,none⟩=some (.slice A3 ks.length c3)/\(w.alloc (.cells #[.int .i64 4,.slice A1 ws.length c1,.slice A2 nums.length c2,.slice A3 ks.length c3,.int .i64 ps] 27)).cell? ⟨w.heap.size,4,none⟩=some (.int .i64 ps))/\Below w.heap.size w (w.alloc (.cells #[.int .i64 4,.slice A1 ws.length c1,.slice A2 nums.length c2,.slice A3 ks.length c3,.int .i64 ps] 27)):=⟨⟨(Blk.start w _ _).cell 0,(Blk.start w _ _).cell 1,(Blk.start w _ _).cell 2,(Blk.start w _ _).cell 3,(Blk.start w _ _).cell 4⟩,Za w _⟩
 generalize (w.alloc (.cells #[.int .i64 4,.slice A1 ws.length c1,.slice A2 nums.length c2,.slice A3 ks.length c3,.int .i64 ps] 27))=w1 at *
 have HS:(w1.drew.cell? ⟨w.heap.size,0,none⟩=some (.int .i64 4)/\w1.drew.cell? ⟨w.heap.size,1,none⟩=some (.slice A1 ws.length c1)/\w1.drew.cell? ⟨w.heap.size,2,none⟩=some (.slice A2 nums.length c2)/\w1.drew.cell? ⟨w.heap.size,3,none⟩=some (.slice A3 ks.length c3)/\w1.drew.cell? ⟨w.heap.size,4,none⟩=some (.int .i64 ps))/\Below w.heap.size w w1.drew:=⟨HS1.1,HS1.2.drew⟩
 clear HS1
 refine wp_region_noPanic ?_
 refine wp_region_held_drew (S:=(fun w'=>(w'.cell? ⟨w.heap.size,0,none⟩=some (.int .i64 4)/\w'.cell? ⟨w.heap.size,1,none⟩=some (.slice A1 ws.length c1)/\w'.cell? ⟨w.heap.size,2,none⟩=some (.slice A2 nums.length c2)/\w'.cell? ⟨w.heap.size,3,none⟩=some (.slice A3 ks.length c3)/\w'.cell? ⟨w.heap.size,4,none⟩=some (.int .i64 ps))/\Below w.heap.size w w')) (by kernel_rfl) HS (fun hHeld=>?_)
 clear HS
 refine tk 0 rfl ?_
 refine tk 1 rfl ?_
 refine tk 2 rfl ?_
 (try simp only [cl,Act.put])
 refine rd 3 rfl fun K hK=>?_
 go_simp
 refine hK.out _ _ ?_ (fun hH2=>?_)
 ·exact STB.out _ _ (Za _ _) (by with_reducible assumption)
 clear hK K hHeld;have hHeld:=hH2;clear hH2
 (try simp only [cl,Act.put])
 refine rd 4 rfl fun K hK=>?_
 go_simp
 (go_at_call 55;(with_reducible refine (Zg _ _ _).mono ?_);rintro e5 w5 ⟨⟨u,rfl,hT⟩,hb⟩;obtain ⟨bu,Au,cu,rfl,_,_⟩:=id hT)
 go_wp2_with fail
 refine hK.out _ _ (STB.out _ _ hb (by with_reducible assumption)) (fun hH2=>?_)
 clear hK K hHeld hb;have hHeld:=hH2;clear hH2
 (try simp only [cl,Act.put])
 refine tk 5 rfl ?_
 refine tk 6 rfl ?_
 (try simp only [cl,Act.put])
 refine wpAnyH_done (by kernel_rfl) ?_ _
 refine NoPanic.normal ?_
 have T3:=Lib.hid hT
 have H3:=Lib.hid (Zb hHeld)
 have HH:=Lib.hid hHeld
 clear hT
 obtain ⟨⟨g0,g1,g2,g3,g4⟩,_⟩:=hHeld
 have HA1:=Lib.hid (show ∀ wr:World,Below w.heap.size w wr->Calls Tryz.prog 56 #[.agg #[.int .i64 4,.slice A1 ws.length c1,.slice A2 nums.length c2,.slice A3 ks.length c3,.int .i64 ps],.int .i64 1,.int .i64 0] wr fun e w'=>e=.returned (.bool (Zj ⟨4,ws,nums,ks,ps⟩ 1 0))/\Below wr.heap.size wr w' from fun wr hb=>HS0.out wr hb 1 0)
 have CU:=Lib.hid (CUT.out A3 c3 rfl)
 have mx:(max (IntKind.i64.wrap ((ks.length:Int)-1)) 0)=((ks.length-1:Nat):Int):=by rw [IntWalk.i64_in _ (by unfold maxLen at LM;omega)];omega
 have mx2:(max (wrap64 ((ks.length:Int)-1)) 0)=((ks.length-1:Nat):Int):=by rw [<- IntWalk.i64_left];exact mx
 have c3le:=CLE.out A3 c3 rfl
 generalize hm:ks.length-1=m at *
 have m1:m<=ks.length:=by omega
 have m2:m<=c3:=by omega
 have m3:(0:Int)<=(m:Int):=by omega
 have m4:(m:Int)<=(ks.length:Int):=by omega
 have m5:(m:Int)<=(c3:Int):=by omega
 have m6:(ks.length:Int)<=(c3:Int):=by omega
 have HMN:=Lib.hid hm
 clear hm LM
 have AL3:=Lib.hid (show ∀ wr:World,Below w.heap.size w wr->∀ u:Value,Zq wr (.is [5]) u->Calls Tryz.prog 57 #[v,.slice A3 m c3,u] wr fun e w'=>e=.returned (.bool (ZaB ns (ks.take m) (isB [5])))/\Below wr.heap.size wr w' from fun wr hb u hu=>AL2.out wr hb _ (CU.out wr hb).1 u _ hu)
 have AR3:=Lib.hid (fun (wr:World) (hb:Below w.heap.size w wr) (T:Zq wr (.is [7]) (.func (.func 87) #[] #[.pointer (some ⟨bu,0,none⟩)]))=>show Calls Tryz.prog 58 #[v,.slice (if c3=m then A3 else A3.map (·.add m)) (ks.length-m) (c3-m),.slice (some ⟨wr.heap.size,0,none⟩) 1 1] (wr.alloc (.cells #[.func (.func 87) #[] #[.pointer (some ⟨bu,0,none⟩)]] 108)) (fun e w'=>e=.returned (.bool (Zl ns (ks.drop m) [isB [7]]))/\Below (wr.alloc (.cells #[.func (.func 87) #[] #[.pointer (some ⟨bu,0,none⟩)]] 108)).heap.size (wr.alloc (.cells #[.func (.func 87) #[] #[.pointer (some ⟨bu,0,none⟩)]] 108)) w') from AR2.out _ (hb.trans ((Za _ _).mono hb.size)) _ (CU.out _ (hb.trans ((Za _ _).mono hb.size))).2 _ [.is [7]] (Zas wr [.is [7]] [.func (.func 87) #[] #[.pointer (some ⟨bu,0,none⟩)]] 108 (by simp [maxLen]) ⟨T.below (Za _ _),trivial⟩))
 generalize hq:Zj ⟨4,ws,nums,ks,ps⟩ 1 0=H1 at HA1
 have QH1:=Lib.hid hq
 clear hq
 generalize ha:ZaB ns (ks.take m) (isB [5])=L at AL3
 have QL:=Lib.hid ha
 clear ha
 clear CUT CLE AR2 AL2 CU AR ALL HS0
 cases H1
 ·go_upto_region 13 with fail
  have HS:(w5.drew.cell? ⟨w.heap.size,0,none⟩=some (.int .i64 4)/\w5.drew.cell? ⟨w.heap.size,1,none⟩=some (.slice A1 ws.length c1)/\w5.drew.cell? ⟨w.heap.size,2,none⟩=some (.slice A2 nums.length c2)/\w5.drew.cell? ⟨w.heap.size,3,none⟩=some (.slice A3 ks.length c3)/\w5.drew.cell? ⟨w.heap.size,4,none⟩=some (.int .i64 ps))/\Below w.heap.size w w5.drew:=⟨HH.out.1,H3.out.drew⟩
  clear HH g0 g1 g2 g3 g4
  refine wp_region_noPanic ?_
  refine wp_region_held_drew (S:=(fun w'=>(w'.cell? ⟨w.heap.size,0,none⟩=some (.int .i64 4)/\w'.cell? ⟨w.heap.size,1,none⟩=some (.slice A1 ws.length c1)/\w'.cell? ⟨w.heap.size,2,none⟩=some (.slice A2 nums.length c2)/\w'.cell? ⟨w.heap.size,3,none⟩=some (.slice A3 ks.length c3)/\w'.cell? ⟨w.heap.size,4,none⟩=some (.int .i64 ps))/\Below w.heap.size w w')) (by kernel_rfl) HS (fun hHeld=>?_)
  clear HS
  refine tkk 0 rfl ?_
  (try simp only [cl,Act.put])
  refine rd 1 rfl fun K hK=>?_
  go_simp
  (first
   | (go_at_call 56;(with_reducible refine (HA1.out _ (Zb (by with_reducible assumption))).mono ?_);rintro e6 w6 ⟨rfl,hb⟩;have HT6:=Lib.hid (T3.out.below ((Zp _).trans (hb.mono (Zp _).size))))
   | (go_at_call 55;(with_reducible refine (Zi _ _ _).mono ?_);rintro e7 w7 ⟨⟨u2,rfl,hT2⟩,hb⟩;have HT7:=Lib.hid ((HT6.out.below (Za _ _)).below hb))
   | (go_at_call 57;(with_reducible refine (AL3.out _ (Zb (by with_reducible assumption)) _ hT2).mono ?_);rintro e8 w8 ⟨rfl,hb⟩;have HT8:=Lib.hid (And.intro ((Zb hHeld).trans (hb.mono (Zb hHeld).size)) (HT7.out.below hb)))
   | (go_at_call 58;(with_reducible refine (AR3.out _ HT8.out.1 HT8.out.2).mono ?_);rintro e9 w9 ⟨rfl,hb⟩))
  go_wp2_with fail
  refine hK.out _ _ (STB.out _ _ hb (by with_reducible assumption)) (fun hH2=>?_)
  clear hK K hHeld hb;have hHeld:=hH2;clear hH2
  (try simp only [cl,Act.put])
  refine tkk 2 rfl ?_
  refine txk 3 rfl ?_
  refine txk 4 rfl ?_
  refine txk 5 rfl ?_
  refine txk 6 rfl ?_
  refine txk 7 rfl ?_
  refine txk 8 rfl ?_
  refine txk 9 rfl ?_
  refine txk 10 rfl ?_
  refine tkk 11 rfl ?_
  refine tkk 12 rfl ?_
  refine txk 13 rfl ?_
  refine txk 14 rfl ?_
  refine txk 15 rfl ?_
  refine txk 16 rfl ?_
  refine txk 17 rfl ?_
  refine txk 18 rfl ?_
  refine txk 19 rfl ?_
  refine txk 20 rfl ?_
  refine tkk 21 rfl ?_
  refine tkk 22 rfl ?_
  (try simp only [cl,Act.put])
  refine wpAnyH_done (by kernel_rfl) ?_ _
  refine NoPanic.normal ?_
  have B9:=Lib.hid (Zb hHeld)
  clear hHeld
  go_wp2_with fail
  go_ret
  exact ⟨by first | (rw [HMN.out,QH1.out];rfl) | (rw [QH1.out];rfl),B9.out⟩
 ·cases L
  ·go_upto_region 13 with fail
   have HS:(w5.drew.cell? ⟨w.heap.size,0,none⟩=some (.int .i64 4)/\w5.drew.cell? ⟨w.heap.size,1,none⟩=some (.slice A1 ws.length c1)/\w5.drew.cell? ⟨w.heap.size,2,none⟩=some (.slice A2 nums.length c2)/\w5.drew.cell? ⟨w.heap.size,3,none⟩=some (.slice A3 ks.length c3)/\w5.drew.cell? ⟨w.heap.size,4,none⟩=some (.int .i64 ps))/\Below w.heap.size w w5.drew:=⟨HH.out.1,H3.out.drew⟩
   clear HH g0 g1 g2 g3 g4
   refine wp_region_noPanic ?_
   refine wp_region_held_drew (S:=(fun w'=>(w'.cell? ⟨w.heap.size,0,none⟩=some (.int .i64 4)/\w'.cell? ⟨w.heap.size,1,none⟩=some (.slice A1 ws.length c1)/\w'.cell? ⟨w.heap.size,2,none⟩=some (.slice A2 nums.length c2)/\w'.cell? ⟨w.heap.size,3,none⟩=some (.slice A3 ks.length c3)/\w'.cell? ⟨w.heap.size,4,none⟩=some (.int .i64 ps))/\Below w.heap.size w w')) (by kernel_rfl) HS (fun hHeld=>?_)
   clear HS
   refine tkk 0 rfl ?_
   (try simp only [cl,Act.put])
   refine rd 1 rfl fun K hK=>?_
   go_simp
   (first
    | (go_at_call 56;(with_reducible refine (HA1.out _ (Zb (by with_reducible assumption))).mono ?_);rintro e6 w6 ⟨rfl,hb⟩;have HT6:=Lib.hid (T3.out.below ((Zp _).trans (hb.mono (Zp _).size))))
    | (go_at_call 55;(with_reducible refine (Zi _ _ _).mono ?_);rintro e7 w7 ⟨⟨u2,rfl,hT2⟩,hb⟩;have HT7:=Lib.hid ((HT6.out.below (Za _ _)).below hb))
    | (go_at_call 57;(with_reducible refine (AL3.out _ (Zb (by with_reducible assumption)) _ hT2).mono ?_);rintro e8 w8 ⟨rfl,hb⟩;have HT8:=Lib.hid (And.intro ((Zb hHeld).trans (hb.mono (Zb hHeld).size)) (HT7.out.below hb)))
    | (go_at_call 58;(with_reducible refine (AR3.out _ HT8.out.1 HT8.out.2).mono ?_);rintro e9 w9 ⟨rfl,hb⟩))
   go_wp2_with fail
   refine hK.out _ _ (STB.out _ _ hb (by with_reducible assumption)) (fun hH2=>?_)
   clear hK K hHeld hb;have hHeld:=hH2;clear hH2
   (try simp only [cl,Act.put])
   refine tkk 2 rfl ?_
   refine tkk 3 rfl ?_
   refine tkk 4 rfl ?_
   refine tkk 5 rfl ?_
   refine tkk 6 rfl ?_
   refine tkk 7 rfl ?_
   (try simp only [cl,Act.put])
   refine rd 8 rfl fun K hK=>?_
   go_simp
   refine hK.out _ _ ?_ (fun hH2=>?_)
   ·exact STB.out _ _ (Za _ _) (by with_reducible assumption)
   clear hK K hHeld;have hHeld:=hH2;clear hH2
   (try simp only [cl,Act.put])
   refine rd 9 rfl fun K hK=>?_
   go_simp
   (first
    | (go_at_call 56;(with_reducible refine (HA1.out _ (Zb (by with_reducible assumption))).mono ?_);rintro e6 w6 ⟨rfl,hb⟩;have HT6:=Lib.hid (T3.out.below ((Zp _).trans (hb.mono (Zp _).size))))
    | (go_at_call 55;(with_reducible refine (Zi _ _ _).mono ?_);rintro e7 w7 ⟨⟨u2,rfl,hT2⟩,hb⟩;have HT7:=Lib.hid ((HT6.out.below (Za _ _)).below hb))
    | (go_at_call 57;(with_reducible refine (AL3.out _ (Zb (by with_reducible assumption)) _ hT2).mono ?_);rintro e8 w8 ⟨rfl,hb⟩;have HT8:=Lib.hid (And.intro ((Zb hHeld).trans (hb.mono (Zb hHeld).size)) (HT7.out.below hb)))
    | (go_at_call 58;(with_reducible refine (AR3.out _ HT8.out.1 HT8.out.2).mono ?_);rintro e9 w9 ⟨rfl,hb⟩))
   go_wp2_with fail
   refine hK.out _ _ (STB.out _ _ hb (by with_reducible assumption)) (fun hH2=>?_)
   clear hK K hHeld hb;have hHeld:=hH2;clear hH2
   (try simp only [cl,Act.put])
   refine rd 10 rfl fun K hK=>?_
   go_simp
   (first
    | (go_at_call 56;(with_reducible refine (HA1.out _ (Zb (by with_reducible assumption))).mono ?_);rintro e6 w6 ⟨rfl,hb⟩;have HT6:=Lib.hid (T3.out.below ((Zp _).trans (hb.mono (Zp _).size))))
    | (go_at_call 55;(with_reducible refine (Zi _ _ _).mono ?_);rintro e7 w7 ⟨⟨u2,rfl,hT2⟩,hb⟩;have HT7:=Lib.hid ((HT6.out.below (Za _ _)).below hb))
    | (go_at_call 57;(with_reducible refine (AL3.out _ (Zb (by with_reducible assumption)) _ hT2).mono ?_);rintro e8 w8 ⟨rfl,hb⟩;have HT8:=Lib.hid (And.intro ((Zb hHeld).trans (hb.mono (Zb hHeld).size)) (HT7.out.below hb)))
    | (go_at_call 58;(with_reducible refine (AR3.out _ HT8.out.1 HT8.out.2).mono ?_);rintro e9 w9 ⟨rfl,hb⟩))
   go_wp2_with fail
   refine hK.out _ _ (STB.out _ _ hb (by with_reducible assumption)) (fun hH2=>?_)
   clear hK K hHeld hb;have hHeld:=hH2;clear hH2
   (try simp only [cl,Act.put])
   refine tkk 11 rfl ?_
   refine tkk 12 rfl ?_
   refine txk 13 rfl ?_
   refine txk 14 rfl ?_
   refine txk 15 rfl ?_
   refine txk 16 rfl ?_
   refine txk 17 rfl ?_
   refine txk 18 rfl ?_
   refine txk 19 rfl ?_
   refine txk 20 rfl ?_
   refine tkk 21 rfl ?_
   refine tkk 22 rfl ?_
   (try simp only [cl,Act.put])
   refine wpAnyH_done (by kernel_rfl) ?_ _
   refine NoPanic.normal ?_
   have B9:=Lib.hid (Zb hHeld)
   clear hHeld
   go_wp2_with fail
   go_ret
   exact ⟨by first | (rw [HMN.out,QH1.out,QL.out];rfl) | (rw [QH1.out,QL.out];rfl),B9.out⟩
  ·by_cases hcm:c3=m
   ·subst hcm
    rw [if_pos rfl,Nat.sub_self,show ks.length-c3=0 by omega] at AR3
    go_upto_region 13 with fail
    have HS:(w5.drew.cell? ⟨w.heap.size,0,none⟩=some (.int .i64 4)/\w5.drew.cell? ⟨w.heap.size,1,none⟩=some (.slice A1 ws.length c1)/\w5.drew.cell? ⟨w.heap.size,2,none⟩=some (.slice A2 nums.length c2)/\w5.drew.cell? ⟨w.heap.size,3,none⟩=some (.slice A3 ks.length c3)/\w5.drew.cell? ⟨w.heap.size,4,none⟩=some (.int .i64 ps))/\Below w.heap.size w w5.drew:=⟨HH.out.1,H3.out.drew⟩
    clear HH g0 g1 g2 g3 g4
    refine wp_region_noPanic ?_
    refine wp_region_held_drew (S:=(fun w'=>(w'.cell? ⟨w.heap.size,0,none⟩=some (.int .i64 4)/\w'.cell? ⟨w.heap.size,1,none⟩=some (.slice A1 ws.length c1)/\w'.cell? ⟨w.heap.size,2,none⟩=some (.slice A2 nums.length c2)/\w'.cell? ⟨w.heap.size,3,none⟩=some (.slice A3 ks.length c3)/\w'.cell? ⟨w.heap.size,4,none⟩=some (.int .i64 ps))/\Below w.heap.size w w')) (by kernel_rfl) HS (fun hHeld=>?_)
    clear HS
    refine tkk 0 rfl ?_
    (try simp only [cl,Act.put])
    refine rd 1 rfl fun K hK=>?_
    go_simp
    (first
     | (go_at_call 56;(with_reducible refine (HA1.out _ (Zb (by with_reducible assumption))).mono ?_);rintro e6 w6 ⟨rfl,hb⟩;have HT6:=Lib.hid (T3.out.below ((Zp _).trans (hb.mono (Zp _).size))))
     | (go_at_call 55;(with_reducible refine (Zi _ _ _).mono ?_);rintro e7 w7 ⟨⟨u2,rfl,hT2⟩,hb⟩;have HT7:=Lib.hid ((HT6.out.below (Za _ _)).below hb))
     | (go_at_call 57;(with_reducible refine (AL3.out _ (Zb (by with_reducible assumption)) _ hT2).mono ?_);rintro e8 w8 ⟨rfl,hb⟩;have HT8:=Lib.hid (And.intro ((Zb hHeld).trans (hb.mono (Zb hHeld).size)) (HT7.out.below hb)))
     | (go_at_call 58;(with_reducible refine (AR3.out _ HT8.out.1 HT8.out.2).mono ?_);rintro e9 w9 ⟨rfl,hb⟩))
    go_wp2_with fail
    refine hK.out _ _ (STB.out _ _ hb (by with_reducible assumption)) (fun hH2=>?_)
    clear hK K hHeld hb;have hHeld:=hH2;clear hH2
    (try simp only [cl,Act.put])
    refine tkk 2 rfl ?_
    refine tkk 3 rfl ?_
    refine tkk 4 rfl ?_
    refine tkk 5 rfl ?_
    refine tkk 6 rfl ?_
    refine tkk 7 rfl ?_
    (try simp only [cl,Act.put])
    refine rd 8 rfl fun K hK=>?_
    go_simp
    refine hK.out _ _ ?_ (fun hH2=>?_)
    ·exact STB.out _ _ (Za _ _) (by with_reducible assumption)
    clear hK K hHeld;have hHeld:=hH2;clear hH2
    (try simp only [cl,Act.put])
    refine rd 9 rfl fun K hK=>?_
    go_simp
    (first
     | (go_at_call 56;(with_reducible refine (HA1.out _ (Zb (by with_reducible assumption))).mono ?_);rintro e6 w6 ⟨rfl,hb⟩;have HT6:=Lib.hid (T3.out.below ((Zp _).trans (hb.mono (Zp _).size))))
     | (go_at_call 55;(with_reducible refine (Zi _ _ _).mono ?_);rintro e7 w7 ⟨⟨u2,rfl,hT2⟩,hb⟩;have HT7:=Lib.hid ((HT6.out.below (Za _ _)).below hb))
     | (go_at_call 57;(with_reducible refine (AL3.out _ (Zb (by with_reducible assumption)) _ hT2).mono ?_);rintro e8 w8 ⟨rfl,hb⟩;have HT8:=Lib.hid (And.intro ((Zb hHeld).trans (hb.mono (Zb hHeld).size)) (HT7.out.below hb)))
     | (go_at_call 58;(with_reducible refine (AR3.out _ HT8.out.1 HT8.out.2).mono ?_);rintro e9 w9 ⟨rfl,hb⟩))
    go_wp2_with fail
    refine hK.out _ _ (STB.out _ _ hb (by with_reducible assumption)) (fun hH2=>?_)
    clear hK K hHeld hb;have hHeld:=hH2;clear hH2
    (try simp only [cl,Act.put])
    refine rd 10 rfl fun K hK=>?_
    go_simp
    (first
     | (go_at_call 56;(with_reducible refine (HA1.out _ (Zb (by with_reducible assumption))).mono ?_);rintro e6 w6 ⟨rfl,hb⟩;have HT6:=Lib.hid (T3.out.below ((Zp _).trans (hb.mono (Zp _).size))))
     | (go_at_call 55;(with_reducible refine (Zi _ _ _).mono ?_);rintro e7 w7 ⟨⟨u2,rfl,hT2⟩,hb⟩;have HT7:=Lib.hid ((HT6.out.below (Za _ _)).below hb))
     | (go_at_call 57;(with_reducible refine (AL3.out _ (Zb (by with_reducible assumption)) _ hT2).mono ?_);rintro e8 w8 ⟨rfl,hb⟩;have HT8:=Lib.hid (And.intro ((Zb hHeld).trans (hb.mono (Zb hHeld).size)) (HT7.out.below hb)))
     | (go_at_call 58;(with_reducible refine (AR3.out _ HT8.out.1 HT8.out.2).mono ?_);rintro e9 w9 ⟨rfl,hb⟩))
    go_wp2_with fail
    refine hK.out _ _ (STB.out _ _ hb (by with_reducible assumption)) (fun hH2=>?_)
    clear hK K hHeld hb;have hHeld:=hH2;clear hH2
    (try simp only [cl,Act.put])
    refine tkk 11 rfl ?_
    refine tkk 12 rfl ?_
    refine tkk 13 rfl ?_
    refine tkk 14 rfl ?_
    refine tkk 15 rfl ?_
    refine tkk 16 rfl ?_
    refine tkk 17 rfl ?_
    refine tkk 18 rfl ?_
    (try simp only [cl,Act.put])
    refine rd 19 rfl fun K hK=>?_
    go_simp
    refine hK.out _ _ ?_ (fun hH2=>?_)
    ·exact STB.out _ _ (Za _ _) (by with_reducible assumption)
    clear hK K hHeld;have hHeld:=hH2;clear hH2
    (try simp only [cl,Act.put])
    refine rd 20 rfl fun K hK=>?_
    go_simp
    (first
     | (go_at_call 56;(with_reducible refine (HA1.out _ (Zb (by with_reducible assumption))).mono ?_);rintro e6 w6 ⟨rfl,hb⟩;have HT6:=Lib.hid (T3.out.below ((Zp _).trans (hb.mono (Zp _).size))))
     | (go_at_call 55;(with_reducible refine (Zi _ _ _).mono ?_);rintro e7 w7 ⟨⟨u2,rfl,hT2⟩,hb⟩;have HT7:=Lib.hid ((HT6.out.below (Za _ _)).below hb))
     | (go_at_call 57;(with_reducible refine (AL3.out _ (Zb (by with_reducible assumption)) _ hT2).mono ?_);rintro e8 w8 ⟨rfl,hb⟩;have HT8:=Lib.hid (And.intro ((Zb hHeld).trans (hb.mono (Zb hHeld).size)) (HT7.out.below hb)))
     | (go_at_call 58;(with_reducible refine (AR3.out _ HT8.out.1 HT8.out.2).mono ?_);rintro e9 w9 ⟨rfl,hb⟩))
    go_wp2_with fail
    refine hK.out _ _ (STB.out _ _ hb (by with_reducible assumption)) (fun hH2=>?_)
    clear hK K hHeld hb;have hHeld:=hH2;clear hH2
    (try simp only [cl,Act.put])
    refine tkk 21 rfl ?_
    refine tkk 22 rfl ?_
    (try simp only [cl,Act.put])
    refine wpAnyH_done (by kernel_rfl) ?_ _
    refine NoPanic.normal ?_
    have B9:=Lib.hid (Zb hHeld)
    clear hHeld
    go_wp2_with fail
    go_ret
    exact ⟨by first | (rw [HMN.out,QH1.out,QL.out];rfl) | (rw [QH1.out,QL.out];rfl),B9.out⟩
   ·rw [if_neg hcm] at AR3
    go_upto_region 13 with fail
    have HS:(w5.drew.cell? ⟨w.heap.size,0,none⟩=some (.int .i64 4)/\w5.drew.cell? ⟨w.heap.size,1,none⟩=some (.slice A1 ws.length c1)/\w5.drew.cell? ⟨w.heap.size,2,none⟩=some (.slice A2 nums.length c2)/\w5.drew.cell? ⟨w.heap.size,3,none⟩=some (.slice A3 ks.length c3)/\w5.drew.cell? ⟨w.heap.size,4,none⟩=some (.int .i64 ps))/\Below w.heap.size w w5.drew:=⟨HH.out.1,H3.out.drew⟩
    clear HH g0 g1 g2 g3 g4
    refine wp_region_noPanic ?_
    refine wp_region_held_drew (S:=(fun w'=>(w'.cell? ⟨w.heap.size,0,none⟩=some (.int .i64 4)/\w'.cell? ⟨w.heap.size,1,none⟩=some (.slice A1 ws.length c1)/\w'.cell? ⟨w.heap.size,2,none⟩=some (.slice A2 nums.length c2)/\w'.cell? ⟨w.heap.size,3,none⟩=some (.slice A3 ks.length c3)/\w'.cell? ⟨w.heap.size,4,none⟩=some (.int .i64 ps))/\Below w.heap.size w w')) (by kernel_rfl) HS (fun hHeld=>?_)
    clear HS
    refine tkk 0 rfl ?_
    (try simp only [cl,Act.put])
    refine rd 1 rfl fun K hK=>?_
    go_simp
    (first
     | (go_at_call 56;(with_reducible refine (HA1.out _ (Zb (by with_reducible assumption))).mono ?_);rintro e6 w6 ⟨rfl,hb⟩;have HT6:=Lib.hid (T3.out.below ((Zp _).trans (hb.mono (Zp _).size))))
     | (go_at_call 55;(with_reducible refine (Zi _ _ _).mono ?_);rintro e7 w7 ⟨⟨u2,rfl,hT2⟩,hb⟩;have HT7:=Lib.hid ((HT6.out.below (Za _ _)).below hb))
     | (go_at_call 57;(with_reducible refine (AL3.out _ (Zb (by with_reducible assumption)) _ hT2).mono ?_);rintro e8 w8 ⟨rfl,hb⟩;have HT8:=Lib.hid (And.intro ((Zb hHeld).trans (hb.mono (Zb hHeld).size)) (HT7.out.below hb)))
     | (go_at_call 58;(with_reducible refine (AR3.out _ HT8.out.1 HT8.out.2).mono ?_);rintro e9 w9 ⟨rfl,hb⟩))
    go_wp2_with fail
    refine hK.out _ _ (STB.out _ _ hb (by with_reducible assumption)) (fun hH2=>?_)
    clear hK K hHeld hb;have hHeld:=hH2;clear hH2
    (try simp only [cl,Act.put])
    refine tkk 2 rfl ?_
    refine tkk 3 rfl ?_
    refine tkk 4 rfl ?_
    refine tkk 5 rfl ?_
    refine tkk 6 rfl ?_
    refine tkk 7 rfl ?_
    (try simp only [cl,Act.put])
    refine rd 8 rfl fun K hK=>?_
    go_simp
    refine hK.out _ _ ?_ (fun hH2=>?_)
    ·exact STB.out _ _ (Za _ _) (by with_reducible assumption)
    clear hK K hHeld;have hHeld:=hH2;clear hH2
    (try simp only [cl,Act.put])
    refine rd 9 rfl fun K hK=>?_
    go_simp
    (first
     | (go_at_call 56;(with_reducible refine (HA1.out _ (Zb (by with_reducible assumption))).mono ?_);rintro e6 w6 ⟨rfl,hb⟩;have HT6:=Lib.hid (T3.out.below ((Zp _).trans (hb.mono (Zp _).size))))
     | (go_at_call 55;(with_reducible refine (Zi _ _ _).mono ?_);rintro e7 w7 ⟨⟨u2,rfl,hT2⟩,hb⟩;have HT7:=Lib.hid ((HT6.out.below (Za _ _)).below hb))
     | (go_at_call 57;(with_reducible refine (AL3.out _ (Zb (by with_reducible assumption)) _ hT2).mono ?_);rintro e8 w8 ⟨rfl,hb⟩;have HT8:=Lib.hid (And.intro ((Zb hHeld).trans (hb.mono (Zb hHeld).size)) (HT7.out.below hb)))
     | (go_at_call 58;(with_reducible refine (AR3.out _ HT8.out.1 HT8.out.2).mono ?_);rintro e9 w9 ⟨rfl,hb⟩))
    go_wp2_with fail
    refine hK.out _ _ (STB.out _ _ hb (by with_reducible assumption)) (fun hH2=>?_)
    clear hK K hHeld hb;have hHeld:=hH2;clear hH2
    (try simp only [cl,Act.put])
    refine rd 10 rfl fun K hK=>?_
    go_simp
    (first
     | (go_at_call 56;(with_reducible refine (HA1.out _ (Zb (by with_reducible assumption))).mono ?_);rintro e6 w6 ⟨rfl,hb⟩;have HT6:=Lib.hid (T3.out.below ((Zp _).trans (hb.mono (Zp _).size))))
     | (go_at_call 55;(with_reducible refine (Zi _ _ _).mono ?_);rintro e7 w7 ⟨⟨u2,rfl,hT2⟩,hb⟩;have HT7:=Lib.hid ((HT6.out.below (Za _ _)).below hb))
     | (go_at_call 57;(with_reducible refine (AL3.out _ (Zb (by with_reducible assumption)) _ hT2).mono ?_);rintro e8 w8 ⟨rfl,hb⟩;have HT8:=Lib.hid (And.intro ((Zb hHeld).trans (hb.mono (Zb hHeld).size)) (HT7.out.below hb)))
     | (go_at_call 58;(with_reducible refine (AR3.out _ HT8.out.1 HT8.out.2).mono ?_);rintro e9 w9 ⟨rfl,hb⟩))
    go_wp2_with fail
    refine hK.out _ _ (STB.out _ _ hb (by with_reducible assumption)) (fun hH2=>?_)
    clear hK K hHeld hb;have hHeld:=hH2;clear hH2
    (try simp only [cl,Act.put])
    refine tkk 11 rfl ?_
    refine tkk 12 rfl ?_
    refine tkk 13 rfl ?_
    refine tkk 14 rfl ?_
    refine tkk 15 rfl ?_
    refine tkk 16 rfl ?_
    refine tkk 17 rfl ?_
    refine tkk 18 rfl ?_
    (try simp only [cl,Act.put])
    refine rd 19 rfl fun K hK=>?_
    go_simp
    refine hK.out _ _ ?_ (fun hH2=>?_)
    ·exact STB.out _ _ (Za _ _) (by with_reducible assumption)
    clear hK K hHeld;have hHeld:=hH2;clear hH2
    (try simp only [cl,Act.put])
    refine rd 20 rfl fun K hK=>?_
    go_simp
    (first
     | (go_at_call 56;(with_reducible refine (HA1.out _ (Zb (by with_reducible assumption))).mono ?_);rintro e6 w6 ⟨rfl,hb⟩;have HT6:=Lib.hid (T3.out.below ((Zp _).trans (hb.mono (Zp _).size))))
     | (go_at_call 55;(with_reducible refine (Zi _ _ _).mono ?_);rintro e7 w7 ⟨⟨u2,rfl,hT2⟩,hb⟩;have HT7:=Lib.hid ((HT6.out.below (Za _ _)).below hb))
     | (go_at_call 57;(with_reducible refine (AL3.out _ (Zb (by with_reducible assumption)) _ hT2).mono ?_);rintro e8 w8 ⟨rfl,hb⟩;have HT8:=Lib.hid (And.intro ((Zb hHeld).trans (hb.mono (Zb hHeld).size)) (HT7.out.below hb)))
     | (go_at_call 58;(with_reducible refine (AR3.out _ HT8.out.1 HT8.out.2).mono ?_);rintro e9 w9 ⟨rfl,hb⟩))
    go_wp2_with fail
    refine hK.out _ _ (STB.out _ _ hb (by with_reducible assumption)) (fun hH2=>?_)
    clear hK K hHeld hb;have hHeld:=hH2;clear hH2
    (try simp only [cl,Act.put])
    refine tkk 21 rfl ?_
    refine tkk 22 rfl ?_
    (try simp only [cl,Act.put])
    refine wpAnyH_done (by kernel_rfl) ?_ _
    refine NoPanic.normal ?_
    have B9:=Lib.hid (Zb hHeld)
    clear hHeld
    go_wp2_with fail
    go_ret
    exact ⟨by first | (rw [HMN.out,QH1.out,QL.out];rfl) | (rw [QH1.out,QL.out];rfl),B9.out⟩
end
end Go.Proofs.YtaacbenikcbibabGreatDoor
