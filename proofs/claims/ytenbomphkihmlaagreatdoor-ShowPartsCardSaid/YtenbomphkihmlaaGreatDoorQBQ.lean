import Derived.Test.YtenbomphkihmlaaGreatDoorQBP
set_option maxRecDepth 100000
set_option maxHeartbeats 8000000
namespace Go.Proofs.YtenbomphkihmlaaGreatDoor
section
open Go.RowKit
theorem Zf5:Zbb 47:=Zbg Tryz.func47 (by kernel_rfl) rfl
theorem ZcS (w0:World) (ns:List Nd) (dp:Nat) (S:Nd->Prop) (T:Nd->Txt) (hd:dp<4000) (hS:Za4 47 w0 ns (dp+1) S T):Za4 31 w0 ns dp (Za8 ns S) (fun m=>ZA dp (m.kids.map fun k=>T (Ze ns k))):=by
 intro w bp t vn x h hN hx hok hl
 have hq:=hx
 obtain ⟨⟨vw,vu,vk⟩,kd,ws,nums,ks,ps⟩:=x
 obtain ⟨hw,hu,hkk⟩:=hx
 dsimp only at hok hw hu hkk hl ⊢
 obtain ⟨Aw,cw,rfl,hwl,hwm,hW,hWl⟩:=hw
 obtain ⟨Au,cu,rfl,hul,hum,hU⟩:=hu
 obtain ⟨Ak,ck,rfl,hkl,hkm,hK⟩:=hkk
 have a1:=Zb w (.cells #[.int .i64 kd,.slice Aw ws.length cw,.slice Au nums.length cu,.slice Ak ks.length ck,.int .i64 ps] 29)
 have B1:Zm _ _ _ _:=Zm.start w #[.int .i64 kd,.slice Aw ws.length cw,.slice Au nums.length cu,.slice Ak ks.length ck,.int .i64 ps] 29
 have p1:=h.keep a1
 have hok:ZM ns ks S:=hok
 obtain ⟨c0,c1,c2,c3,c4⟩:=Zg (x:=((.slice Aw ws.length cw,.slice Au nums.length cu,.slice Ak ks.length ck),⟨kd,ws,nums,ks,ps⟩)) (B1)
 dsimp only at c0 c1 c2 c3 c4
 generalize hw1:w.alloc (.cells #[.int .i64 kd,.slice Aw ws.length cw,.slice Au nums.length cu,.slice Ak ks.length ck,.int .i64 ps] 29)=w1 at *
 have BR:=Lib.hid (ZcT _ Zf5 w0 w1 bp dp t vn ns Ak ck ks S T p1 hN hd hK (by omega) hok hS hl)
 have HX:=Lib.hid a1
 clear p1 B1 a1 hq hwl hwm hW hWl hul hum hU hkl hkm hK h hl hN hok hS hd
 go_enter Tryz.func31,Tryz.ntmps31
 go_wp2_with (go_at_call 27;(refine BR.out.mono ?_);rintro e w2 ⟨rfl,hp,hf⟩;have H2:=Lib.hid (And.intro hp hf);clear hp hf)
 go_end0
 exact ⟨rfl,H2.out.1,(Fr.of_below bp (hw1▸HX.out)).trans H2.out.2⟩
theorem ZhG (w0 w:World) (bp dp b2 b3:Nat) (t:Txt) (vn:Value) (ns:List Nd) (A:Option Addr) (c:Nat) (ks:List Int) (Ok:Nd->Prop) (T:Nd->Txt) (k:Nat) (y:Int) (h:PrS w0 w bp t dp vn) (hN:Zf w0 vn ns)
  (hB2:Zm w b2 34 #[ZW bp]) (hB3:Zm w b3 25 #[.slice A ks.length c])
  (hK:ZB w0 w0.heap.size 1 A ks.length (ks.map (Value.int .i64))) (hok:ZM ns ks Ok) (hE:Za4 31 w0 ns dp Ok T) (hy:ks[k]? = some y) (hl:t.length+(T (Ze ns y)).length+10000<=140737488355328) :
  Calls Tryz.prog 88 #[.int .i64 (k:Int),ZW b2,ZW b3] w fun e w'=>e=.returned (.tuple #[])/\PrS w0 w' bp (t++T (Ze ns y)) dp vn/\Fr w w' bp:=by
 obtain ⟨An,cn,rs,rfl,_,hcn,hm,hR,hNd⟩:=id hN
 have hkl:=(List.getElem?_eq_some_iff.1 hy).1
 obtain ⟨hy0,hyn,hyo⟩:=hok y (List.mem_of_getElem? hy)
 obtain ⟨n,rfl⟩:=Int.eq_ofNat_of_zero_le hy0
 have hnl:n<ns.length:=by omega
 obtain ⟨r,hr⟩:∃ r,rs[n]? = some r:=⟨_,List.getElem?_eq_getElem (by rw [<- hm,List.length_map] at hnl;exact hnl)⟩
 have hrn:ns[n]? = some r.2:=by rw [<- hm,List.getElem?_map,hr];rfl
 rw [Zat hrn] at hyo hl ⊢
 obtain ⟨ak,rfl,q0⟩:=Zp hK h.below hy (by omega)
 obtain ⟨an,rfl,n0,n1,n2,n3,n4⟩:=ZK hR h.below hr (by omega)
 have j1:(k:Int)<(ks.length:Int):=by omega
 have j0:(0:Int)<=(k:Int):=by omega
 have i0:(0:Int)<=(n:Int):=by omega
 have i1:(n:Int)<(ns.length:Int):=by omega
 have e2:=ZZ hB2
 have e3:=ZZ hB3
 have c2:=h.cells.2.2
 have hb:=Zh w
 have EC:=Lib.hid (hE w.drew bp t _ r (h.keep hb) hN (hNd r (List.mem_of_getElem? hr)) hyo hl)
 have HB:=Lib.hid (Fr.of_below bp hb)
 have hr2:=hNd r (List.mem_of_getElem? hr)
 clear h hN hB2 hB3 hK hok hE hy hl hm hR hNd hkl hy0 hyn hyo hnl hr hrn hb
 obtain ⟨⟨yw,yu,yk⟩,kd2,ws2,nums2,ks2,ps2⟩:=r
 obtain ⟨h61,h62,h63⟩:=hr2
 dsimp only at h61 h62 h63
 obtain ⟨Bw,dw,rfl,_⟩:=h61
 obtain ⟨Bu,du,rfl,_⟩:=h62
 obtain ⟨Bk,dk,rfl,_⟩:=h63
 unfold ndX at EC
 dsimp only at n0 n1 n2 n3 n4 EC
 go_enter Tryz.func88,Tryz.ntmps88
 go_upto_region 0 with fail
 refine wp_region_still_tail 11 (by kernel_rfl) (by kernel_rfl) ?_
 simp only [List.take_succ_cons,List.take_zero,List.drop_succ_cons,List.drop_zero]
 iterate 11 still_step
 refine wpStill_nil ?_
 change wpList _ _ _ _ _ w.drew
 go_wp2_with (go_at_call 31;refine EC.out.mono ?_;rintro e w2 ⟨rfl,hp,hf⟩;have H2:=Lib.hid (And.intro hp hf);clear hp hf)
 go_end0
 exact ⟨rfl,H2.out.1,HB.out.trans H2.out.2⟩
theorem Zdf (w0 w:World) (bp dp:Nat) (t:Txt) (vn:Value) (ns:List Nd) (A:Option Addr) (c:Nat) (ks:List Int) (Ok:Nd->Prop) (T:Nd->Txt) (h:PrS w0 w bp t dp vn) (hN:Zf w0 vn ns)
  (hK:ZB w0 w0.heap.size 1 A ks.length (ks.map (Value.int .i64))) (hkl:ks.length<=maxLen) (hok:ZM ns ks Ok) (hE:Za4 31 w0 ns dp Ok T) (hl:t.length+(ZS [32,101,108,115,101] (ks.map fun k=>T (Ze ns k))).length+10000<=140737488355328) :
  Calls Tryz.prog 65 #[ZW bp,.slice A ks.length c] w fun e w'=>e=.returned (.tuple #[])/\PrS w0 w' bp (t++ZS [32,101,108,115,101] (ks.map fun k=>T (Ze ns k))) dp vn/\Fr w w' bp:=by
 have a1:=Zb w (.cells #[ZW bp] 34)
 have B2:Zm _ _ _ _:=Zm.start w #[ZW bp] 34
 generalize hw1:w.alloc (.cells #[ZW bp] 34)=w1 at *
 have a2:=Zb w1 (.cells #[.slice A ks.length c] 25)
 have B3:Zm _ _ _ _:=Zm.start w1 #[.slice A ks.length c] 25
 generalize hw2:w1.alloc (.cells #[.slice A ks.length c] 25)=w2 at *
 have B2':=B2.keep a2
 have p2:=(h.keep a1).keep a2
 have F2:=(Fr.of_below bp a1).trans (Fr.of_below bp a2)
 have c2:=ZZ B2'
 have c3:=ZZ B3
 have T2:=B2'.keep (Zh w2)
 have T3:=B3.keep (Zh w2)
 have d2:=ZZ T2
 have d3:=ZZ T3
 have p3:=p2.keep (Zh w2)
 have SP:=Lib.hid (Zce 88 #[ZW w.heap.size,ZW w1.heap.size] (Zbg Tryz.func88 (by kernel_rfl) rfl) w0 w2.drew bp dp t [32,101,108,115,101] vn (ks.map fun k=>T (Ze ns k)) p3 (fun k x w' t' hx hp hf hl'=>by
  rw [List.getElem?_map] at hx
  cases hy:ks[k]? with
  | none=>rw [hy] at hx;cases hx
  | some y=>
   rw [hy] at hx
   obtain rfl:=Option.some.inj hx
   exact ZhG w0 w' bp dp _ _ t' vn ns A c ks Ok T k y hp hN (hf.at_ _ _ _ (Zal p3 T2 (by decide)) (by decide) T2) (hf.at_ _ _ _ (Zal p3 T3 (by decide)) (by decide) T3) hK hok hE hy hl') (by rw [List.length_map];exact hkl) hl)
 rw [List.length_map] at SP
 have HX:=Lib.hid F2
 clear a1 a2 B2 B3 B2' p2 F2 T2 T3 p3 h hN hK hkl hok hE hl
 go_enter Tryz.func65,Tryz.ntmps65
 go_upto_region 1 with fail
 go_region_with (go_at_call 42;(refine SP.out.mono ?_);rintro e w5 ⟨rfl,hp,hf⟩;have H5:=Lib.hid (And.intro hp hf);clear hp hf)
 all_goals
  go_wp2_with fail
  go_end0
  exact ⟨rfl,H5.out.1,(HX.out.trans (Fr.of_below bp (Zh w2))).trans H5.out.2⟩
theorem ZfH (w0:World) (ns:List Nd) (dp:Nat) (Ok:Nd->Prop) (T:Nd->Txt) (hB:Za4 31 w0 ns dp Ok T):Za4 89 w0 ns dp (fun n=>(∃ s r,n.words=s::r)/\∃ k,n.kids=[k]/\ZM ns [k] Ok) (fun n=>ZD n 0++T (ZP ns n 0)):=by
 intro w bp t vn x h hN hx hok hl
 obtain ⟨⟨s,r,hn⟩,kz,hi,hko⟩:=hok
 obtain ⟨hk0,hk1,hv⟩:=hko kz (by simp)
 obtain ⟨k,rfl⟩:=Int.eq_ofNat_of_zero_le hk0
 have hkn:k<ns.length:=by omega
 have hq:=hx
 obtain ⟨⟨vw,vu,vk⟩,kd,ws,nums,ks,ps⟩:=x
 obtain ⟨hw,hu,hkk⟩:=hx
 dsimp only at hn hi hw hu hkk hl ⊢
 obtain ⟨Aw,cw,rfl,hwl,hwm,hW,hWl⟩:=hw
 obtain ⟨Au,cu,rfl,hul,hum,hU⟩:=hu
 obtain ⟨Ak,ck,rfl,hkl,hkm,hK⟩:=hkk
 have a1:=Zb w (.cells #[.int .i64 kd,.slice Aw ws.length cw,.slice Au nums.length cu,.slice Ak ks.length ck,.int .i64 ps] 29)
 have B1:Zm _ _ _ _:=Zm.start w #[.int .i64 kd,.slice Aw ws.length cw,.slice Au nums.length cu,.slice Ak ks.length ck,.int .i64 ps] 29
 have p1:=h.keep a1
 obtain ⟨z,hz⟩:∃ z,ns[k]? = some z:=⟨_,List.getElem?_eq_getElem hkn⟩
 have he:ZD ⟨kd,ws,nums,ks,ps⟩ 0++T (ZP ns ⟨kd,ws,nums,ks,ps⟩ 0)=s++T z:=by
  unfold ZD
  rw [ZaA (n:=⟨kd,ws,nums,ks,ps⟩) (k:=k) (by rw [hi];rfl) hz]
  dsimp only
  rw [hn]
  rfl
 rw [Zat hz] at hv
 rw [he] at hl ⊢
 simp only [List.length_append] at hl
 obtain ⟨c0,c1,c2,c3,c4⟩:=Zg (x:=((.slice Aw ws.length cw,.slice Au nums.length cu,.slice Ak ks.length ck),⟨kd,ws,nums,ks,ps⟩)) (B1)
 dsimp only at c0 c1 c2 c3 c4
 generalize hw1:w.alloc (.cells #[.int .i64 kd,.slice Aw ws.length cw,.slice Au nums.length cu,.slice Ak ks.length ck,.int .i64 ps] 29)=w1 at *
 obtain ⟨au,rfl,u0⟩:=ZaH (k:=0) (x:=s) hW (p1.keep (Zh w1)).below (by rw [hn];rfl) (by rw [hn];exact Nat.succ_pos _)
 have u1:w1.drew.cell? au=some (txt s):=u0
 have u2:w1.cell? au=some (txt s):=u0
 have hl2:0<ws.length:=by rw [hn];exact Nat.succ_pos _
 obtain ⟨d0,d1,d2,d3,d4⟩:=Zg (x:=((.slice (some au) ws.length cw,.slice Au nums.length cu,.slice Ak ks.length ck),⟨kd,ws,nums,ks,ps⟩)) (B1.keep (Zh w1))
 dsimp only at d0 d1 d2 d3 d4
 have AD:=Lib.hid (ZH w0 w1.drew bp dp t vn s (p1.keep (Zh w1)) (by omega))
 have HX:=Lib.hid (And.intro a1 (And.intro (B1.keep (Zh w1)) (And.intro hq (And.intro hN (And.intro hB (And.intro hl (p1.keep (Zh w1))))))))
 have HI:=Lib.hid (And.intro (show ks[0]? = some (k:Int) by rw [hi];rfl) (And.intro hkn (And.intro hz hv)))
 clear p1 B1 a1 hq hwl hwm hW hWl hul hum hU hkl hkm hK h hl he u0 hn hi hkn hz hv hB hN hko hk0 hk1
 go_enter Tryz.func89,Tryz.ntmps89
 go_upto_region 1 with fail
 go_region_with (go_at_call 26;(refine AD.out.mono ?_);rintro e w3 ⟨rfl,hp,hf⟩;have H3:=Lib.hid (And.intro hp hf);clear hp hf)
 all_goals
  have K3:=H3.out.2.at_ _ _ _ (Za3 HX.out.2.2.2.2.2.2 HX.out.2.1) (by decide) HX.out.2.1
  obtain ⟨b0,b1,b2,b3,b4⟩:=Zg (x:=((.slice (some au) ws.length cw,.slice Au nums.length cu,.slice Ak ks.length ck),⟨kd,ws,nums,ks,ps⟩)) (K3)
  dsimp only at b0 b1 b2 b3 b4
  have KI:=Lib.hid (Zas w0 w3 bp dp _ vn ns _ 0 k ⟨H3.out.1,HX.out.2.2.2.1⟩ HX.out.2.2.1 HI.out.1 HI.out.2.1)
  clear K3
  go_wp2_with (first
   | (go_at_call 32;(refine KI.out.mono ?_);rintro e w4 ⟨y,rfl,hy,hy2,hb⟩;have ey:y.2=z:=Option.some.inj (hy.symm.trans HI.out.2.2.1);have H4:=Lib.hid (And.intro hy2 (And.intro hb ey));clear hy hy2 hb ey;have EX:=Lib.hid (HX.out.2.2.2.2.1 w4 bp _ vn y (H3.out.1.keep H4.out.2.1) HX.out.2.2.2.1 H4.out.1 (H4.out.2.2▸HI.out.2.2.2) (by rw [H4.out.2.2];have:=HX.out.2.2.2.2.2.1;simp only [List.length_append];omega)))
   | (go_at_call 31;(refine EX.out.mono ?_);rintro e w5 ⟨rfl,hp,hf⟩;have H5:=Lib.hid (And.intro (show PrS w0 w5 bp (t++s++T z) dp vn from H4.out.2.2▸hp) hf);clear hp hf))
  go_end0
  refine ⟨rfl,?_,((((Fr.of_below bp (hw1▸HX.out.1)).trans (Fr.of_below bp (Zh w1))).trans H3.out.2).trans (Fr.of_below bp H4.out.2.1)).trans H5.out.2⟩
  have:=H5.out.1
  simp only [List.append_assoc] at this ⊢
  exact this
end
end Go.Proofs.YtenbomphkihmlaaGreatDoor
