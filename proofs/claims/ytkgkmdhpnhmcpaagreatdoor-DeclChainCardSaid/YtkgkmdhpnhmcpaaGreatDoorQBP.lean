import Derived.Test.YtkgkmdhpnhmcpaaGreatDoorQBI
set_option maxRecDepth 100000
set_option maxHeartbeats 8000000
namespace Go.Proofs.YtkgkmdhpnhmcpaaGreatDoor
section
open Go.RowKit
theorem ZhW {w:World} {A:Option Addr} {c m:Nat} {v:Value} {l:List Int} (h:ZH w v l) (e:v=.slice A l.length c) (hm:m<=l.length) :
  ZH w (.slice A m c) (l.take m)/\ZH w (.slice (if c=m then A else A.map (·.add m)) (l.length-m) (c-m)) (l.drop m):=by
 obtain ⟨A',c',e',h1,h2,h3⟩:=h
 rw [e] at e'
 injection e' with a _ b
 subst a b
 refine ⟨⟨A,c,by rw [List.length_take,Nat.min_eq_left hm],by rw [List.length_take];omega,h2,?_⟩,⟨_,c-m,by rw [List.length_drop],by rw [List.length_drop];omega,by omega,?_⟩⟩
 ·rw [List.length_take,Nat.min_eq_left hm]
  refine ⟨by simp;omega,fun hn=>?_⟩
  obtain ⟨ad,e,hb,hc⟩:=h3.2 (by omega)
  refine ⟨ad,e,hb,fun j u hj=>hc j u ?_⟩
  rw [List.map_take,List.getElem?_take] at hj
  split at hj
  ·exact hj
  ·cases hj
 ·have:=h3.cut (k:=m) (cap:=c) hm h1
  rw [Nat.mul_one] at this
  rw [List.length_drop,List.map_drop]
  exact this
theorem Zg9 (w:World) (v:Value) (ns:List Nd) (va vb vc:Value) (ws:List (List UInt8)) (nums ks:List Int) (ps:Int) (hN:Zn w v ns) (hx:ZJ w ((va,vb,vc),⟨4,ws,nums,ks,ps⟩)) (hk:ZA ks ns.length) :
  Calls Tryz.prog 72 #[v,ndV ((va,vb,vc),⟨4,ws,nums,ks,ps⟩)] w fun e w'=>e=.returned (.bool (Zm ns ⟨4,ws,nums,ks,ps⟩))/\Below w.heap.size w w':=by
 rw [show Zm ns ⟨4,ws,nums,ks,ps⟩=(Zj ⟨4,ws,nums,ks,ps⟩ 1 0&&Zax ns (ks.take (ks.length-1)) (isB [5])&&Zk ns (ks.drop (ks.length-1)) [isB [7]]) from rfl]
 obtain ⟨h1,h2,h3⟩:=id hx
 dsimp only at h1 h2 h3
 have AR:=zh (fun (wr:World) (hb:Below w.heap.size w wr) (vf:Value) (ts:List Tst) (hF:ZU wr vf ts)=>ZC wr v vc vf ns ks ts (hN.below hb) (h3.below hb) hF hk)
 have ALL:=zh (fun (wr:World) (hb:Below w.heap.size w wr) (u:Value) (t:Tst) (hu:Zp wr t u)=>ZB wr v vc u ns ks t (hN.below hb) (h3.below hb) hu hk)
 have HS0:=zh (fun (wr:World) (hb:Below w.heap.size w wr) (a b:Nat)=>ZG wr _ a b (hx.below hb))
 have CUT:=zh (show ∀ (A:Option Addr) (c:Nat),vc=.slice A ks.length c->∀ wr:World,Below w.heap.size w wr->ZH wr (.slice A (ks.length-1) c) (ks.take (ks.length-1))/\ZH wr (.slice (if c=ks.length-1 then A else A.map (·.add (ks.length-1))) (ks.length-(ks.length-1)) (c-(ks.length-1))) (ks.drop (ks.length-1)) from fun A c e wr hb=>ZhW (h3.below hb) e (by omega))
 have CLE:=zh (show ∀ (A:Option Addr) (c:Nat),vc=.slice A ks.length c->ks.length<=c from fun A c e=>by obtain ⟨A2,c2,e2,q,_⟩:=id h3;rw [e] at e2;injection e2 with _ _ e2;omega)
 have AR2:=zh (fun (wr:World) (hb:Below w.heap.size w wr) (vk:Value) (hK:ZH wr vk (ks.drop (ks.length-1))) (vf:Value) (ts:List Tst) (hF:ZU wr vf ts)=>ZC wr v vk vf ns (ks.drop (ks.length-1)) ts (hN.below hb) hK hF (fun k h=>hk k (List.mem_of_mem_drop h)))
 have AL2:=zh (fun (wr:World) (hb:Below w.heap.size w wr) (vk:Value) (hK:ZH wr vk (ks.take (ks.length-1))) (u:Value) (t:Tst) (hu:Zp wr t u)=>ZB wr v vk u ns (ks.take (ks.length-1)) t (hN.below hb) hK hu (fun k h=>hk k (List.mem_of_mem_take h)))
 have LM:=h3.len
 obtain ⟨A1,c1,rfl,_⟩:=h1
 obtain ⟨A2,c2,rfl,_,_,R2'⟩:=h2
 have R2:=zh R2'
 clear R2'
 obtain ⟨A3,c3,rfl,_⟩:=h3
 unfold ndV at HS0 ⊢
 dsimp only at HS0 ⊢
 clear hx hN hk
 have STB:=zh (show Stb (fun w'=>(w'.cell? ⟨w.heap.size,0,none⟩=some (.int .i64 4)/\w'.cell? ⟨w.heap.size,1,none⟩=some (.slice A1 ws.length c1)/\w'.cell? ⟨w.heap.size,2,none⟩=some (.slice A2 nums.length c2)/\w'.cell? ⟨w.heap.size,3,none⟩=some (.slice A3 ks.length c3)/\w'.cell? ⟨w.heap.size,4,none⟩=some (.int .i64 ps))/\Below w.heap.size w w') from Zc (Zc (Zb _ _) (Zc (Zb _ _) (Zc (Zb _ _) (Zc (Zb _ _) (Zb _ _))))) (Zq w))
 go_enter Tryz.func72,Tryz.ntmps72
 go_upto_region 1 with fail
 have HS1:((w.alloc (.cells #[.int .i64 4,.slice A1 ws.length c1,.slice A2 nums.length c2,.slice A3 ks.length c3,.int .i64 ps] 27)).cell? ⟨w.heap.size,0,none⟩=some (.int .i64 4)/\(w.alloc (.cells #[.int .i64 4,.slice A1 ws.length c1,.slice A2 nums.length c2,.slice A3 ks.length c3,.int .i64 ps] 27)).cell? ⟨w.heap.size,1,none⟩=some (.slice A1 ws.length c1)/\(w.alloc (.cells #[.int .i64 4,.slice A1 ws.length c1,.slice A2 nums.length c2,.slice A3 ks.length c3,.int .i64 ps] 27)).cell? ⟨w.heap.size,2,none⟩=some (.slice A2 nums.length c2)/\(w.alloc (.cells #[.int .i64 4,.slice A1 ws.length c1,.slice A2 nums.length c2,.slice A3 ks.length c3,.int .i64 ps] 27)).cell? ⟨w.heap.size,3,none⟩=some (.slice A3 ks.length c3)/\(w.alloc (.cells #[.int .i64 4,.slice A1 ws.length c1,.slice A2 nums.length c2,.slice A3 ks.length c3,.int .i64 ps] 27)).cell? ⟨w.heap.size,4,none⟩=some (.int .i64 ps))/\Below w.heap.size w (w.alloc (.cells #[.int .i64 4,.slice A1 ws.length c1,.slice A2 nums.length c2,.slice A3 ks.length c3,.int .i64 ps] 27)):=⟨⟨(Blk.start w _ _).cell 0,(Blk.start w _ _).cell 1,(Blk.start w _ _).cell 2,(Blk.start w _ _).cell 3,(Blk.start w _ _).cell 4⟩,below_alloc1 w _⟩
 generalize (w.alloc (.cells #[.int .i64 4,.slice A1 ws.length c1,.slice A2 nums.length c2,.slice A3 ks.length c3,.int .i64 ps] 27))=w1 at *
 have HS:(w1.drew.cell? ⟨w.heap.size,0,none⟩=some (.int .i64 4)/\w1.drew.cell? ⟨w.heap.size,1,none⟩=some (.slice A1 ws.length c1)/\w1.drew.cell? ⟨w.heap.size,2,none⟩=some (.slice A2 nums.length c2)/\w1.drew.cell? ⟨w.heap.size,3,none⟩=some (.slice A3 ks.length c3)/\w1.drew.cell? ⟨w.heap.size,4,none⟩=some (.int .i64 ps))/\Below w.heap.size w w1.drew:=⟨HS1.1,HS1.2.drew⟩
 clear HS1
 refine wp_region_noPanic ?_
 refine wp_region_held_drew (S:=(fun w'=>(w'.cell? ⟨w.heap.size,0,none⟩=some (.int .i64 4)/\w'.cell? ⟨w.heap.size,1,none⟩=some (.slice A1 ws.length c1)/\w'.cell? ⟨w.heap.size,2,none⟩=some (.slice A2 nums.length c2)/\w'.cell? ⟨w.heap.size,3,none⟩=some (.slice A3 ks.length c3)/\w'.cell? ⟨w.heap.size,4,none⟩=some (.int .i64 ps))/\Below w.heap.size w w')) (by kernel_rfl) HS (fun hHeld=>?_)
 clear HS
 refine tk 0 rfl ?_
 refine tk 1 rfl ?_
 refine tk 2 rfl ?_
 (try simp only [cl,Act.put])
 refine rd 3 rfl fun K hK=>?_
 go_simp
 refine hK.out _ _ ?_ (fun hH2=>?_)
 ·exact STB.out _ _ (below_alloc1 _ _) (by with_reducible assumption)
 clear hK K hHeld;have hHeld:=hH2;clear hH2
 (try simp only [cl,Act.put])
 refine rd 4 rfl fun K hK=>?_
 go_simp
 (go_at_call 94;(with_reducible refine (Zf _ _ _).mono ?_);rintro e5 w5 ⟨⟨u,rfl,hT⟩,hb⟩;obtain ⟨bu,Au,cu,rfl,_,_⟩:=id hT)
 go_wp2_with fail
 refine hK.out _ _ (STB.out _ _ hb (by with_reducible assumption)) (fun hH2=>?_)
 clear hK K hHeld hb;have hHeld:=hH2;clear hH2
 (try simp only [cl,Act.put])
 refine tk 5 rfl ?_
 refine tk 6 rfl ?_
 (try simp only [cl,Act.put])
 refine wpAnyH_done (by kernel_rfl) ?_ _
 refine NoPanic.normal ?_
 have T3:=zh hT
 have H3:=zh (Za hHeld)
 have HH:=zh hHeld
 clear hT
 obtain ⟨⟨g0,g1,g2,g3,g4⟩,_⟩:=hHeld
 have HA1:=zh (show ∀ wr:World,Below w.heap.size w wr->Calls Tryz.prog 95 #[.agg #[.int .i64 4,.slice A1 ws.length c1,.slice A2 nums.length c2,.slice A3 ks.length c3,.int .i64 ps],.int .i64 1,.int .i64 0] wr fun e w'=>e=.returned (.bool (Zj ⟨4,ws,nums,ks,ps⟩ 1 0))/\Below wr.heap.size wr w' from fun wr hb=>HS0.out wr hb 1 0)
 have CU:=zh (CUT.out A3 c3 rfl)
 have mx:(max (IntKind.i64.wrap ((ks.length:Int)-1)) 0)=((ks.length-1:Nat):Int):=by rw [IntWalk.i64_in _ (by unfold maxLen at LM;omega)];omega
 have mx2:(max (wrap64 ((ks.length:Int)-1)) 0)=((ks.length-1:Nat):Int):=by rw [<- IntWalk.i64_left];exact mx
 have c3le:=CLE.out A3 c3 rfl
 generalize hm:ks.length-1=m at *
 have m1:m<=ks.length:=by omega
 have m2:m<=c3:=by omega
 have m3:(0:Int)<=(m:Int):=by omega
 have m4:(m:Int)<=(ks.length:Int):=by omega
 have m5:(m:Int)<=(c3:Int):=by omega
 have m6:(ks.length:Int)<=(c3:Int):=by omega
 have HMN:=zh hm
 clear hm LM
 have AL3:=zh (show ∀ wr:World,Below w.heap.size w wr->∀ u:Value,Zp wr (.is [5]) u->Calls Tryz.prog 96 #[v,.slice A3 m c3,u] wr fun e w'=>e=.returned (.bool (Zax ns (ks.take m) (isB [5])))/\Below wr.heap.size wr w' from fun wr hb u hu=>AL2.out wr hb _ (CU.out wr hb).1 u _ hu)
 have AR3:=zh (fun (wr:World) (hb:Below w.heap.size w wr) (T:Zp wr (.is [7]) (.func (.func 129) #[] #[.pointer (some ⟨bu,0,none⟩)]))=>show Calls Tryz.prog 97 #[v,.slice (if c3=m then A3 else A3.map (·.add m)) (ks.length-m) (c3-m),.slice (some ⟨wr.heap.size,0,none⟩) 1 1] (wr.alloc (.cells #[.func (.func 129) #[] #[.pointer (some ⟨bu,0,none⟩)]] 105)) (fun e w'=>e=.returned (.bool (Zk ns (ks.drop m) [isB [7]]))/\Below (wr.alloc (.cells #[.func (.func 129) #[] #[.pointer (some ⟨bu,0,none⟩)]] 105)).heap.size (wr.alloc (.cells #[.func (.func 129) #[] #[.pointer (some ⟨bu,0,none⟩)]] 105)) w') from AR2.out _ (hb.trans ((below_alloc1 _ _).mono hb.size)) _ (CU.out _ (hb.trans ((below_alloc1 _ _).mono hb.size))).2 _ [.is [7]] (Zaq wr [.is [7]] [.func (.func 129) #[] #[.pointer (some ⟨bu,0,none⟩)]] 105 (by simp [maxLen]) ⟨T.below (below_alloc1 _ _),trivial⟩))
 generalize hq:Zj ⟨4,ws,nums,ks,ps⟩ 1 0=H1 at HA1
 have QH1:=zh hq
 clear hq
 generalize ha:Zax ns (ks.take m) (isB [5])=L at AL3
 have QL:=zh ha
 clear ha
 clear CUT CLE AR2 AL2 CU AR ALL HS0
 cases H1
 ·go_upto_region 13 with fail
  have HS:(w5.drew.cell? ⟨w.heap.size,0,none⟩=some (.int .i64 4)/\w5.drew.cell? ⟨w.heap.size,1,none⟩=some (.slice A1 ws.length c1)/\w5.drew.cell? ⟨w.heap.size,2,none⟩=some (.slice A2 nums.length c2)/\w5.drew.cell? ⟨w.heap.size,3,none⟩=some (.slice A3 ks.length c3)/\w5.drew.cell? ⟨w.heap.size,4,none⟩=some (.int .i64 ps))/\Below w.heap.size w w5.drew:=⟨HH.out.1,H3.out.drew⟩
  clear HH g0 g1 g2 g3 g4
  refine wp_region_noPanic ?_
  refine wp_region_held_drew (S:=(fun w'=>(w'.cell? ⟨w.heap.size,0,none⟩=some (.int .i64 4)/\w'.cell? ⟨w.heap.size,1,none⟩=some (.slice A1 ws.length c1)/\w'.cell? ⟨w.heap.size,2,none⟩=some (.slice A2 nums.length c2)/\w'.cell? ⟨w.heap.size,3,none⟩=some (.slice A3 ks.length c3)/\w'.cell? ⟨w.heap.size,4,none⟩=some (.int .i64 ps))/\Below w.heap.size w w')) (by kernel_rfl) HS (fun hHeld=>?_)
  clear HS
  refine tkk 0 rfl ?_
  (try simp only [cl,Act.put])
  refine rd 1 rfl fun K hK=>?_
  go_simp
  (first
   | (go_at_call 95;(with_reducible refine (HA1.out _ (Za (by with_reducible assumption))).mono ?_);rintro e6 w6 ⟨rfl,hb⟩;have HT6:=zh (T3.out.below ((Zo _).trans (hb.mono (Zo _).size))))
   | (go_at_call 94;(with_reducible refine (Zi _ _ _).mono ?_);rintro e7 w7 ⟨⟨u2,rfl,hT2⟩,hb⟩;have HT7:=zh ((HT6.out.below (below_alloc1 _ _)).below hb))
   | (go_at_call 96;(with_reducible refine (AL3.out _ (Za (by with_reducible assumption)) _ hT2).mono ?_);rintro e8 w8 ⟨rfl,hb⟩;have HT8:=zh (zi ((Za hHeld).trans (hb.mono (Za hHeld).size)) (HT7.out.below hb)))
   | (go_at_call 97;(with_reducible refine (AR3.out _ HT8.out.1 HT8.out.2).mono ?_);rintro e9 w9 ⟨rfl,hb⟩))
  go_wp2_with fail
  refine hK.out _ _ (STB.out _ _ hb (by with_reducible assumption)) (fun hH2=>?_)
  clear hK K hHeld hb;have hHeld:=hH2;clear hH2
  (try simp only [cl,Act.put])
  refine tkk 2 rfl ?_
  refine txk 3 rfl ?_
  refine txk 4 rfl ?_
  refine txk 5 rfl ?_
  refine txk 6 rfl ?_
  refine txk 7 rfl ?_
  refine txk 8 rfl ?_
  refine txk 9 rfl ?_
  refine txk 10 rfl ?_
  refine tkk 11 rfl ?_
  refine tkk 12 rfl ?_
  refine txk 13 rfl ?_
  refine txk 14 rfl ?_
  refine txk 15 rfl ?_
  refine txk 16 rfl ?_
  refine txk 17 rfl ?_
  refine txk 18 rfl ?_
  refine txk 19 rfl ?_
  refine txk 20 rfl ?_
  refine tkk 21 rfl ?_
  refine tkk 22 rfl ?_
  (try simp only [cl,Act.put])
  refine wpAnyH_done (by kernel_rfl) ?_ _
  refine NoPanic.normal ?_
  have B9:=zh (Za hHeld)
  clear hHeld
  go_wp2_with fail
  go_ret
  exact ⟨by first | (rw [HMN.out,QH1.out];rfl) | (rw [QH1.out];rfl),B9.out⟩
 ·cases L
  ·go_upto_region 13 with fail
   have HS:(w5.drew.cell? ⟨w.heap.size,0,none⟩=some (.int .i64 4)/\w5.drew.cell? ⟨w.heap.size,1,none⟩=some (.slice A1 ws.length c1)/\w5.drew.cell? ⟨w.heap.size,2,none⟩=some (.slice A2 nums.length c2)/\w5.drew.cell? ⟨w.heap.size,3,none⟩=some (.slice A3 ks.length c3)/\w5.drew.cell? ⟨w.heap.size,4,none⟩=some (.int .i64 ps))/\Below w.heap.size w w5.drew:=⟨HH.out.1,H3.out.drew⟩
   clear HH g0 g1 g2 g3 g4
   refine wp_region_noPanic ?_
   refine wp_region_held_drew (S:=(fun w'=>(w'.cell? ⟨w.heap.size,0,none⟩=some (.int .i64 4)/\w'.cell? ⟨w.heap.size,1,none⟩=some (.slice A1 ws.length c1)/\w'.cell? ⟨w.heap.size,2,none⟩=some (.slice A2 nums.length c2)/\w'.cell? ⟨w.heap.size,3,none⟩=some (.slice A3 ks.length c3)/\w'.cell? ⟨w.heap.size,4,none⟩=some (.int .i64 ps))/\Below w.heap.size w w')) (by kernel_rfl) HS (fun hHeld=>?_)
   clear HS
   refine tkk 0 rfl ?_
   (try simp only [cl,Act.put])
   refine rd 1 rfl fun K hK=>?_
   go_simp
   (first
    | (go_at_call 95;(with_reducible refine (HA1.out _ (Za (by with_reducible assumption))).mono ?_);rintro e6 w6 ⟨rfl,hb⟩;have HT6:=zh (T3.out.below ((Zo _).trans (hb.mono (Zo _).size))))
    | (go_at_call 94;(with_reducible refine (Zi _ _ _).mono ?_);rintro e7 w7 ⟨⟨u2,rfl,hT2⟩,hb⟩;have HT7:=zh ((HT6.out.below (below_alloc1 _ _)).below hb))
    | (go_at_call 96;(with_reducible refine (AL3.out _ (Za (by with_reducible assumption)) _ hT2).mono ?_);rintro e8 w8 ⟨rfl,hb⟩;have HT8:=zh (zi ((Za hHeld).trans (hb.mono (Za hHeld).size)) (HT7.out.below hb)))
    | (go_at_call 97;(with_reducible refine (AR3.out _ HT8.out.1 HT8.out.2).mono ?_);rintro e9 w9 ⟨rfl,hb⟩))
   go_wp2_with fail
   refine hK.out _ _ (STB.out _ _ hb (by with_reducible assumption)) (fun hH2=>?_)
   clear hK K hHeld hb;have hHeld:=hH2;clear hH2
   (try simp only [cl,Act.put])
   refine tkk 2 rfl ?_
   refine tkk 3 rfl ?_
   refine tkk 4 rfl ?_
   refine tkk 5 rfl ?_
   refine tkk 6 rfl ?_
   refine tkk 7 rfl ?_
   (try simp only [cl,Act.put])
   refine rd 8 rfl fun K hK=>?_
   go_simp
   refine hK.out _ _ ?_ (fun hH2=>?_)
   ·exact STB.out _ _ (below_alloc1 _ _) (by with_reducible assumption)
   clear hK K hHeld;have hHeld:=hH2;clear hH2
   (try simp only [cl,Act.put])
   refine rd 9 rfl fun K hK=>?_
   go_simp
   (first
    | (go_at_call 95;(with_reducible refine (HA1.out _ (Za (by with_reducible assumption))).mono ?_);rintro e6 w6 ⟨rfl,hb⟩;have HT6:=zh (T3.out.below ((Zo _).trans (hb.mono (Zo _).size))))
    | (go_at_call 94;(with_reducible refine (Zi _ _ _).mono ?_);rintro e7 w7 ⟨⟨u2,rfl,hT2⟩,hb⟩;have HT7:=zh ((HT6.out.below (below_alloc1 _ _)).below hb))
    | (go_at_call 96;(with_reducible refine (AL3.out _ (Za (by with_reducible assumption)) _ hT2).mono ?_);rintro e8 w8 ⟨rfl,hb⟩;have HT8:=zh (zi ((Za hHeld).trans (hb.mono (Za hHeld).size)) (HT7.out.below hb)))
    | (go_at_call 97;(with_reducible refine (AR3.out _ HT8.out.1 HT8.out.2).mono ?_);rintro e9 w9 ⟨rfl,hb⟩))
   go_wp2_with fail
   refine hK.out _ _ (STB.out _ _ hb (by with_reducible assumption)) (fun hH2=>?_)
   clear hK K hHeld hb;have hHeld:=hH2;clear hH2
   (try simp only [cl,Act.put])
   refine rd 10 rfl fun K hK=>?_
   go_simp
   (first
    | (go_at_call 95;(with_reducible refine (HA1.out _ (Za (by with_reducible assumption))).mono ?_);rintro e6 w6 ⟨rfl,hb⟩;have HT6:=zh (T3.out.below ((Zo _).trans (hb.mono (Zo _).size))))
    | (go_at_call 94;(with_reducible refine (Zi _ _ _).mono ?_);rintro e7 w7 ⟨⟨u2,rfl,hT2⟩,hb⟩;have HT7:=zh ((HT6.out.below (below_alloc1 _ _)).below hb))
    | (go_at_call 96;(with_reducible refine (AL3.out _ (Za (by with_reducible assumption)) _ hT2).mono ?_);rintro e8 w8 ⟨rfl,hb⟩;have HT8:=zh (zi ((Za hHeld).trans (hb.mono (Za hHeld).size)) (HT7.out.below hb)))
    | (go_at_call 97;(with_reducible refine (AR3.out _ HT8.out.1 HT8.out.2).mono ?_);rintro e9 w9 ⟨rfl,hb⟩))
   go_wp2_with fail
   refine hK.out _ _ (STB.out _ _ hb (by with_reducible assumption)) (fun hH2=>?_)
   clear hK K hHeld hb;have hHeld:=hH2;clear hH2
   (try simp only [cl,Act.put])
   refine tkk 11 rfl ?_
   refine tkk 12 rfl ?_
   refine txk 13 rfl ?_
   refine txk 14 rfl ?_
   refine txk 15 rfl ?_
   refine txk 16 rfl ?_
   refine txk 17 rfl ?_
   refine txk 18 rfl ?_
   refine txk 19 rfl ?_
   refine txk 20 rfl ?_
   refine tkk 21 rfl ?_
   refine tkk 22 rfl ?_
   (try simp only [cl,Act.put])
   refine wpAnyH_done (by kernel_rfl) ?_ _
   refine NoPanic.normal ?_
   have B9:=zh (Za hHeld)
   clear hHeld
   go_wp2_with fail
   go_ret
   exact ⟨by first | (rw [HMN.out,QH1.out,QL.out];rfl) | (rw [QH1.out,QL.out];rfl),B9.out⟩
  ·by_cases hcm:c3=m
   ·subst hcm
    rw [if_pos rfl,Nat.sub_self,show ks.length-c3=0 by omega] at AR3
    go_upto_region 13 with fail
    have HS:(w5.drew.cell? ⟨w.heap.size,0,none⟩=some (.int .i64 4)/\w5.drew.cell? ⟨w.heap.size,1,none⟩=some (.slice A1 ws.length c1)/\w5.drew.cell? ⟨w.heap.size,2,none⟩=some (.slice A2 nums.length c2)/\w5.drew.cell? ⟨w.heap.size,3,none⟩=some (.slice A3 ks.length c3)/\w5.drew.cell? ⟨w.heap.size,4,none⟩=some (.int .i64 ps))/\Below w.heap.size w w5.drew:=⟨HH.out.1,H3.out.drew⟩
    clear HH g0 g1 g2 g3 g4
    refine wp_region_noPanic ?_
    refine wp_region_held_drew (S:=(fun w'=>(w'.cell? ⟨w.heap.size,0,none⟩=some (.int .i64 4)/\w'.cell? ⟨w.heap.size,1,none⟩=some (.slice A1 ws.length c1)/\w'.cell? ⟨w.heap.size,2,none⟩=some (.slice A2 nums.length c2)/\w'.cell? ⟨w.heap.size,3,none⟩=some (.slice A3 ks.length c3)/\w'.cell? ⟨w.heap.size,4,none⟩=some (.int .i64 ps))/\Below w.heap.size w w')) (by kernel_rfl) HS (fun hHeld=>?_)
    clear HS
    refine tkk 0 rfl ?_
    (try simp only [cl,Act.put])
    refine rd 1 rfl fun K hK=>?_
    go_simp
    (first
     | (go_at_call 95;(with_reducible refine (HA1.out _ (Za (by with_reducible assumption))).mono ?_);rintro e6 w6 ⟨rfl,hb⟩;have HT6:=zh (T3.out.below ((Zo _).trans (hb.mono (Zo _).size))))
     | (go_at_call 94;(with_reducible refine (Zi _ _ _).mono ?_);rintro e7 w7 ⟨⟨u2,rfl,hT2⟩,hb⟩;have HT7:=zh ((HT6.out.below (below_alloc1 _ _)).below hb))
     | (go_at_call 96;(with_reducible refine (AL3.out _ (Za (by with_reducible assumption)) _ hT2).mono ?_);rintro e8 w8 ⟨rfl,hb⟩;have HT8:=zh (zi ((Za hHeld).trans (hb.mono (Za hHeld).size)) (HT7.out.below hb)))
     | (go_at_call 97;(with_reducible refine (AR3.out _ HT8.out.1 HT8.out.2).mono ?_);rintro e9 w9 ⟨rfl,hb⟩))
    go_wp2_with fail
    refine hK.out _ _ (STB.out _ _ hb (by with_reducible assumption)) (fun hH2=>?_)
    clear hK K hHeld hb;have hHeld:=hH2;clear hH2
    (try simp only [cl,Act.put])
    refine tkk 2 rfl ?_
    refine tkk 3 rfl ?_
    refine tkk 4 rfl ?_
    refine tkk 5 rfl ?_
    refine tkk 6 rfl ?_
    refine tkk 7 rfl ?_
    (try simp only [cl,Act.put])
    refine rd 8 rfl fun K hK=>?_
    go_simp
    refine hK.out _ _ ?_ (fun hH2=>?_)
    ·exact STB.out _ _ (below_alloc1 _ _) (by with_reducible assumption)
    clear hK K hHeld;have hHeld:=hH2;clear hH2
    (try simp only [cl,Act.put])
    refine rd 9 rfl fun K hK=>?_
    go_simp
    (first
     | (go_at_call 95;(with_reducible refine (HA1.out _ (Za (by with_reducible assumption))).mono ?_);rintro e6 w6 ⟨rfl,hb⟩;have HT6:=zh (T3.out.below ((Zo _).trans (hb.mono (Zo _).size))))
     | (go_at_call 94;(with_reducible refine (Zi _ _ _).mono ?_);rintro e7 w7 ⟨⟨u2,rfl,hT2⟩,hb⟩;have HT7:=zh ((HT6.out.below (below_alloc1 _ _)).below hb))
     | (go_at_call 96;(with_reducible refine (AL3.out _ (Za (by with_reducible assumption)) _ hT2).mono ?_);rintro e8 w8 ⟨rfl,hb⟩;have HT8:=zh (zi ((Za hHeld).trans (hb.mono (Za hHeld).size)) (HT7.out.below hb)))
     | (go_at_call 97;(with_reducible refine (AR3.out _ HT8.out.1 HT8.out.2).mono ?_);rintro e9 w9 ⟨rfl,hb⟩))
    go_wp2_with fail
    refine hK.out _ _ (STB.out _ _ hb (by with_reducible assumption)) (fun hH2=>?_)
    clear hK K hHeld hb;have hHeld:=hH2;clear hH2
    (try simp only [cl,Act.put])
    refine rd 10 rfl fun K hK=>?_
    go_simp
    (first
     | (go_at_call 95;(with_reducible refine (HA1.out _ (Za (by with_reducible assumption))).mono ?_);rintro e6 w6 ⟨rfl,hb⟩;have HT6:=zh (T3.out.below ((Zo _).trans (hb.mono (Zo _).size))))
     | (go_at_call 94;(with_reducible refine (Zi _ _ _).mono ?_);rintro e7 w7 ⟨⟨u2,rfl,hT2⟩,hb⟩;have HT7:=zh ((HT6.out.below (below_alloc1 _ _)).below hb))
     | (go_at_call 96;(with_reducible refine (AL3.out _ (Za (by with_reducible assumption)) _ hT2).mono ?_);rintro e8 w8 ⟨rfl,hb⟩;have HT8:=zh (zi ((Za hHeld).trans (hb.mono (Za hHeld).size)) (HT7.out.below hb)))
     | (go_at_call 97;(with_reducible refine (AR3.out _ HT8.out.1 HT8.out.2).mono ?_);rintro e9 w9 ⟨rfl,hb⟩))
    go_wp2_with fail
    refine hK.out _ _ (STB.out _ _ hb (by with_reducible assumption)) (fun hH2=>?_)
    clear hK K hHeld hb;have hHeld:=hH2;clear hH2
    (try simp only [cl,Act.put])
    refine tkk 11 rfl ?_
    refine tkk 12 rfl ?_
    refine tkk 13 rfl ?_
    refine tkk 14 rfl ?_
    refine tkk 15 rfl ?_
    refine tkk 16 rfl ?_
    refine tkk 17 rfl ?_
    refine tkk 18 rfl ?_
    (try simp only [cl,Act.put])
    refine rd 19 rfl fun K hK=>?_
    go_simp
    refine hK.out _ _ ?_ (fun hH2=>?_)
    ·exact STB.out _ _ (below_alloc1 _ _) (by with_reducible assumption)
    clear hK K hHeld;have hHeld:=hH2;clear hH2
    (try simp only [cl,Act.put])
    refine rd 20 rfl fun K hK=>?_
    go_simp
    (first
     | (go_at_call 95;(with_reducible refine (HA1.out _ (Za (by with_reducible assumption))).mono ?_);rintro e6 w6 ⟨rfl,hb⟩;have HT6:=zh (T3.out.below ((Zo _).trans (hb.mono (Zo _).size))))
     | (go_at_call 94;(with_reducible refine (Zi _ _ _).mono ?_);rintro e7 w7 ⟨⟨u2,rfl,hT2⟩,hb⟩;have HT7:=zh ((HT6.out.below (below_alloc1 _ _)).below hb))
     | (go_at_call 96;(with_reducible refine (AL3.out _ (Za (by with_reducible assumption)) _ hT2).mono ?_);rintro e8 w8 ⟨rfl,hb⟩;have HT8:=zh (zi ((Za hHeld).trans (hb.mono (Za hHeld).size)) (HT7.out.below hb)))
     | (go_at_call 97;(with_reducible refine (AR3.out _ HT8.out.1 HT8.out.2).mono ?_);rintro e9 w9 ⟨rfl,hb⟩))
    go_wp2_with fail
    refine hK.out _ _ (STB.out _ _ hb (by with_reducible assumption)) (fun hH2=>?_)
    clear hK K hHeld hb;have hHeld:=hH2;clear hH2
    (try simp only [cl,Act.put])
    refine tkk 21 rfl ?_
    refine tkk 22 rfl ?_
    (try simp only [cl,Act.put])
    refine wpAnyH_done (by kernel_rfl) ?_ _
    refine NoPanic.normal ?_
    have B9:=zh (Za hHeld)
    clear hHeld
    go_wp2_with fail
    go_ret
    exact ⟨by first | (rw [HMN.out,QH1.out,QL.out];rfl) | (rw [QH1.out,QL.out];rfl),B9.out⟩
   ·rw [if_neg hcm] at AR3
    go_upto_region 13 with fail
    have HS:(w5.drew.cell? ⟨w.heap.size,0,none⟩=some (.int .i64 4)/\w5.drew.cell? ⟨w.heap.size,1,none⟩=some (.slice A1 ws.length c1)/\w5.drew.cell? ⟨w.heap.size,2,none⟩=some (.slice A2 nums.length c2)/\w5.drew.cell? ⟨w.heap.size,3,none⟩=some (.slice A3 ks.length c3)/\w5.drew.cell? ⟨w.heap.size,4,none⟩=some (.int .i64 ps))/\Below w.heap.size w w5.drew:=⟨HH.out.1,H3.out.drew⟩
    clear HH g0 g1 g2 g3 g4
    refine wp_region_noPanic ?_
    refine wp_region_held_drew (S:=(fun w'=>(w'.cell? ⟨w.heap.size,0,none⟩=some (.int .i64 4)/\w'.cell? ⟨w.heap.size,1,none⟩=some (.slice A1 ws.length c1)/\w'.cell? ⟨w.heap.size,2,none⟩=some (.slice A2 nums.length c2)/\w'.cell? ⟨w.heap.size,3,none⟩=some (.slice A3 ks.length c3)/\w'.cell? ⟨w.heap.size,4,none⟩=some (.int .i64 ps))/\Below w.heap.size w w')) (by kernel_rfl) HS (fun hHeld=>?_)
    clear HS
    refine tkk 0 rfl ?_
    (try simp only [cl,Act.put])
    refine rd 1 rfl fun K hK=>?_
    go_simp
    (first
     | (go_at_call 95;(with_reducible refine (HA1.out _ (Za (by with_reducible assumption))).mono ?_);rintro e6 w6 ⟨rfl,hb⟩;have HT6:=zh (T3.out.below ((Zo _).trans (hb.mono (Zo _).size))))
     | (go_at_call 94;(with_reducible refine (Zi _ _ _).mono ?_);rintro e7 w7 ⟨⟨u2,rfl,hT2⟩,hb⟩;have HT7:=zh ((HT6.out.below (below_alloc1 _ _)).below hb))
     | (go_at_call 96;(with_reducible refine (AL3.out _ (Za (by with_reducible assumption)) _ hT2).mono ?_);rintro e8 w8 ⟨rfl,hb⟩;have HT8:=zh (zi ((Za hHeld).trans (hb.mono (Za hHeld).size)) (HT7.out.below hb)))
     | (go_at_call 97;(with_reducible refine (AR3.out _ HT8.out.1 HT8.out.2).mono ?_);rintro e9 w9 ⟨rfl,hb⟩))
    go_wp2_with fail
    refine hK.out _ _ (STB.out _ _ hb (by with_reducible assumption)) (fun hH2=>?_)
    clear hK K hHeld hb;have hHeld:=hH2;clear hH2
    (try simp only [cl,Act.put])
    refine tkk 2 rfl ?_
    refine tkk 3 rfl ?_
    refine tkk 4 rfl ?_
    refine tkk 5 rfl ?_
    refine tkk 6 rfl ?_
    refine tkk 7 rfl ?_
    (try simp only [cl,Act.put])
    refine rd 8 rfl fun K hK=>?_
    go_simp
    refine hK.out _ _ ?_ (fun hH2=>?_)
    ·exact STB.out _ _ (below_alloc1 _ _) (by with_reducible assumption)
    clear hK K hHeld;have hHeld:=hH2;clear hH2
    (try simp only [cl,Act.put])
    refine rd 9 rfl fun K hK=>?_
    go_simp
    (first
     | (go_at_call 95;(with_reducible refine (HA1.out _ (Za (by with_reducible assumption))).mono ?_);rintro e6 w6 ⟨rfl,hb⟩;have HT6:=zh (T3.out.below ((Zo _).trans (hb.mono (Zo _).size))))
     | (go_at_call 94;(with_reducible refine (Zi _ _ _).mono ?_);rintro e7 w7 ⟨⟨u2,rfl,hT2⟩,hb⟩;have HT7:=zh ((HT6.out.below (below_alloc1 _ _)).below hb))
     | (go_at_call 96;(with_reducible refine (AL3.out _ (Za (by with_reducible assumption)) _ hT2).mono ?_);rintro e8 w8 ⟨rfl,hb⟩;have HT8:=zh (zi ((Za hHeld).trans (hb.mono (Za hHeld).size)) (HT7.out.below hb)))
     | (go_at_call 97;(with_reducible refine (AR3.out _ HT8.out.1 HT8.out.2).mono ?_);rintro e9 w9 ⟨rfl,hb⟩))
    go_wp2_with fail
    refine hK.out _ _ (STB.out _ _ hb (by with_reducible assumption)) (fun hH2=>?_)
    clear hK K hHeld hb;have hHeld:=hH2;clear hH2
    (try simp only [cl,Act.put])
    refine rd 10 rfl fun K hK=>?_
    go_simp
    (first
     | (go_at_call 95;(with_reducible refine (HA1.out _ (Za (by with_reducible assumption))).mono ?_);rintro e6 w6 ⟨rfl,hb⟩;have HT6:=zh (T3.out.below ((Zo _).trans (hb.mono (Zo _).size))))
     | (go_at_call 94;(with_reducible refine (Zi _ _ _).mono ?_);rintro e7 w7 ⟨⟨u2,rfl,hT2⟩,hb⟩;have HT7:=zh ((HT6.out.below (below_alloc1 _ _)).below hb))
     | (go_at_call 96;(with_reducible refine (AL3.out _ (Za (by with_reducible assumption)) _ hT2).mono ?_);rintro e8 w8 ⟨rfl,hb⟩;have HT8:=zh (zi ((Za hHeld).trans (hb.mono (Za hHeld).size)) (HT7.out.below hb)))
     | (go_at_call 97;(with_reducible refine (AR3.out _ HT8.out.1 HT8.out.2).mono ?_);rintro e9 w9 ⟨rfl,hb⟩))
    go_wp2_with fail
    refine hK.out _ _ (STB.out _ _ hb (by with_reducible assumption)) (fun hH2=>?_)
    clear hK K hHeld hb;have hHeld:=hH2;clear hH2
    (try simp only [cl,Act.put])
    refine tkk 11 rfl ?_
    refine tkk 12 rfl ?_
    refine tkk 13 rfl ?_
    refine tkk 14 rfl ?_
    refine tkk 15 rfl ?_
    refine tkk 16 rfl ?_
    refine tkk 17 rfl ?_
    refine tkk 18 rfl ?_
    (try simp only [cl,Act.put])
    refine rd 19 rfl fun K hK=>?_
    go_simp
    refine hK.out _ _ ?_ (fun hH2=>?_)
    ·exact STB.out _ _ (below_alloc1 _ _) (by with_reducible assumption)
    clear hK K hHeld;have hHeld:=hH2;clear hH2
    (try simp only [cl,Act.put])
    refine rd 20 rfl fun K hK=>?_
    go_simp
    (first
     | (go_at_call 95;(with_reducible refine (HA1.out _ (Za (by with_reducible assumption))).mono ?_);rintro e6 w6 ⟨rfl,hb⟩;have HT6:=zh (T3.out.below ((Zo _).trans (hb.mono (Zo _).size))))
     | (go_at_call 94;(with_reducible refine (Zi _ _ _).mono ?_);rintro e7 w7 ⟨⟨u2,rfl,hT2⟩,hb⟩;have HT7:=zh ((HT6.out.below (below_alloc1 _ _)).below hb))
     | (go_at_call 96;(with_reducible refine (AL3.out _ (Za (by with_reducible assumption)) _ hT2).mono ?_);rintro e8 w8 ⟨rfl,hb⟩;have HT8:=zh (zi ((Za hHeld).trans (hb.mono (Za hHeld).size)) (HT7.out.below hb)))
     | (go_at_call 97;(with_reducible refine (AR3.out _ HT8.out.1 HT8.out.2).mono ?_);rintro e9 w9 ⟨rfl,hb⟩))
    go_wp2_with fail
    refine hK.out _ _ (STB.out _ _ hb (by with_reducible assumption)) (fun hH2=>?_)
    clear hK K hHeld hb;have hHeld:=hH2;clear hH2
    (try simp only [cl,Act.put])
    refine tkk 21 rfl ?_
    refine tkk 22 rfl ?_
    (try simp only [cl,Act.put])
    refine wpAnyH_done (by kernel_rfl) ?_ _
    refine NoPanic.normal ?_
    have B9:=zh (Za hHeld)
    clear hHeld
    go_wp2_with fail
    go_ret
    exact ⟨by first | (rw [HMN.out,QH1.out,QL.out];rfl) | (rw [QH1.out,QL.out];rfl),B9.out⟩
end
end Go.Proofs.YtkgkmdhpnhmcpaaGreatDoor
