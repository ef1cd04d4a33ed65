import Derived.Test.YtkongcicmajolaaGreatDoorQBT
import Derived.Test.YtkongcicmajolaaGreatDoorQBV
set_option maxRecDepth 100000
set_option maxHeartbeats 8000000
namespace Go.Proofs.YtkongcicmajolaaGreatDoor
section
open Go.RowKit
theorem ZnE (w0 w:World) (bp dp:Nat) (t:Txt) (vn:Value) (ns:List Nd) (x:NdV×Nd) (h:PrS w0 w bp t dp vn) (hN:Zs w0 vn ns) (hx:ZaW w0 x) (a:Txt) (hn:x.2.words=[a]) (hl:t.length+(ZbR ns x.2).length+10000<=140737488355328) :
  Calls Tryz.prog 40 #[.pointer (some ⟨bp,0,none⟩),ndX x] w fun e w'=>e=.returned (.tuple #[])/\PrS w0 w' bp (t++ZbR ns x.2) dp vn/\Fr w w' bp:=by
 have hq:=hx
 obtain ⟨⟨vw,vu,vk⟩,kd,ws,nums,ks,ps⟩:=x
 obtain ⟨hw,hu,hkk⟩:=hx
 dsimp only at hn hw hu hkk hl ⊢
 obtain ⟨Aw,cw,rfl,hwl,hwm,hW,hWl⟩:=hw
 obtain ⟨Au,cu,rfl,hul,hum,hU⟩:=hu
 obtain ⟨Ak,ck,rfl,hkl,hkm,hK⟩:=hkk
 have he:ZbR ns ⟨kd,ws,nums,ks,ps⟩=a:=by
  unfold ZbR word
  dsimp only
  rw [hn]
  exact List.append_nil a
 rw [he] at hl ⊢
 clear he
 have t1:((ws.length:Int)==1)=true:=by rw [hn];rfl
 have N1:=Nw.start (w:=w) #[.int .i64 kd,.slice Aw ws.length cw,.slice Au nums.length cu,.slice Ak ks.length ck,.int .i64 ps] h
 generalize hw1:w.alloc (.cells #[.int .i64 kd,.slice Aw ws.length cw,.slice Au nums.length cu,.slice Ak ks.length ck,.int .i64 ps] 37)=w1 at *
 obtain ⟨aw,rfl,_⟩:=Zcl (k:=0) (x:=a) hW N1.p.below (by rw [hn];rfl) (by rw [hn];exact Nat.succ_pos _)
 have lw0:0<ws.length:=by rw [hn];exact Nat.succ_pos _
 have SW:=zh (zi hW hn)
 have H1:=zh N1
 have HN:=zh (zi hN (zi hq (zi hK (zi hkm hkl))))
 have HL:=zh hl
 clear N1 hq hwl hwm hW hWl hul hum hU hkl hkm hK h hN hl hn
 have D1:=zh H1.out.drew
 obtain ⟨c0,c1,c2,c3,c4⟩:=Zg (x:=((.slice (some aw) ws.length cw,.slice Au nums.length cu,.slice Ak ks.length ck),⟨kd,ws,nums,ks,ps⟩)) H1.out.k
 dsimp only at c0 c1 c2 c3 c4
 have cw0:=Zz (k:=0) (x:=a) SW.out.1 H1.out.p.below (by rw [SW.out.2];rfl) lw0
 have cv0:w1.cell? aw=some (txt a):=cw0
 obtain ⟨d0,d1,d2,d3,d4⟩:=Zg (x:=((.slice (some aw) ws.length cw,.slice Au nums.length cu,.slice Ak ks.length ck),⟨kd,ws,nums,ks,ps⟩)) D1.out.k
 dsimp only at d0 d1 d2 d3 d4
 have dw0:=Zz (k:=0) (x:=a) SW.out.1 D1.out.p.below (by rw [SW.out.2];rfl) lw0
 have dv0:w1.drew.cell? aw=some (txt a):=dw0
 have AD:=zh (Zaf w0 w1.drew bp dp t vn a D1.out.p (by have:=HL.out;omega))
 go_enter Tryz.func40,Tryz.ntmps40
 go_upto_region 1 with fail
 go_region_with (go_at_call 36;(refine AD.out.mono ?_);rintro e w2 ⟨rfl,hp,hf⟩;have H2:=zh (D1.out.next hp hf);clear hp hf)
 all_goals
  clear c0 c1 c2 c3 c4 cw0 cv0 d0 d1 d2 d3 d4 dw0 dv0
  obtain ⟨c0,c1,c2,c3,c4⟩:=Zg (x:=((.slice (some aw) ws.length cw,.slice Au nums.length cu,.slice Ak ks.length ck),⟨kd,ws,nums,ks,ps⟩)) H2.out.k
  dsimp only at c0 c1 c2 c3 c4
  have cw0:=Zz (k:=0) (x:=a) SW.out.1 H2.out.p.below (by rw [SW.out.2];rfl) lw0
  have cv0:w2.cell? aw=some (txt a):=cw0
  go_wp2_with fail
  refine bodyPost_ret (v:=.tuple #[]) (results_none (by kernel_rfl) _ _ _) rfl ⟨rfl,H2.out.p,H2.out.f⟩
theorem ZnF (w0 w:World) (bp dp:Nat) (t:Txt) (vn:Value) (ns:List Nd) (x:NdV×Nd) (h:PrS w0 w bp t dp vn) (hN:Zs w0 vn ns) (hx:ZaW w0 x) (htk:Zay w0 1 ZeX) (htn:Zay w0 2 Zcm) (ht:Zff w0 w0)
  (a b:Txt) (hn:x.2.words=[a,b]) (p:Nat) (q r:Int) (hm:x.2.nums=[(p:Int),q,r]) (hp4:p<=4) (hq0:ZaI q) (hr0:ZaI r) (hol:Zaa ns x.2.kids ZeB) (hl:t.length+(ZbR ns x.2).length+10000<=140737488355328) :
  Calls Tryz.prog 40 #[.pointer (some ⟨bp,0,none⟩),ndX x] w fun e w'=>e=.returned (.tuple #[])/\PrS w0 w' bp (t++ZbR ns x.2) dp vn/\Fr w w' bp:=by
 have hq:=hx
 obtain ⟨⟨vw,vu,vk⟩,kd,ws,nums,ks,ps⟩:=x
 obtain ⟨hw,hu,hkk⟩:=hx
 dsimp only at hn hm hol hw hu hkk hl ⊢
 obtain ⟨Aw,cw,rfl,hwl,hwm,hW,hWl⟩:=hw
 obtain ⟨Au,cu,rfl,hul,hum,hU⟩:=hu
 obtain ⟨Ak,ck,rfl,hkl,hkm,hK⟩:=hkk
 obtain ⟨Z,hZ⟩:∃ Z,Z=(if 0<r then [32,108,101,97,115,116,32]++Zdk q r else []):=⟨_,rfl⟩
 have he:ZbR ns ⟨kd,ws,nums,ks,ps⟩=a++([58,32]++b++[32]++Zax p++Z++Zb5 ns ks):=by
  unfold ZbR word num Zb5
  dsimp only
  rw [hn,hm,hZ]
  rfl
 rw [he] at hl ⊢
 clear he
 simp only [List.length_append,List.length_cons,List.length_nil] at hl
 have t1:((ws.length:Int)==1)=false:=by rw [hn];rfl
 have p0:(0:Int)<=(p:Int):=by omega
 have p1:(p:Int)<5:=by omega
 have N1:=Nw.start (w:=w) #[.int .i64 kd,.slice Aw ws.length cw,.slice Au nums.length cu,.slice Ak ks.length ck,.int .i64 ps] h
 generalize hw1:w.alloc (.cells #[.int .i64 kd,.slice Aw ws.length cw,.slice Au nums.length cu,.slice Ak ks.length ck,.int .i64 ps] 37)=w1 at *
 obtain ⟨aw,rfl,_⟩:=Zcl (k:=0) (x:=a) hW N1.p.below (by rw [hn];rfl) (by rw [hn];exact Nat.succ_pos _)
 have lw0:0<ws.length:=by rw [hn];exact Nat.succ_pos _
 have lw1:1<ws.length:=by rw [hn];simp only [List.length_cons];omega
 have SW:=zh (zi hW hn)
 obtain ⟨au,rfl,_⟩:=ints_at (k:=0) (x:=(p:Int)) hU N1.p.below (by rw [hm];rfl) (by rw [hm];exact Nat.succ_pos _)
 have lu0:0<nums.length:=by rw [hm];exact Nat.succ_pos _
 have lu1:1<nums.length:=by rw [hm];simp only [List.length_cons];omega
 have lu2:2<nums.length:=by rw [hm];simp only [List.length_cons];omega
 have SU:=zh (zi hU hm)
 have H1:=zh N1
 have HN:=zh (zi hN (zi hq (zi hK (zi hkm hkl))))
 have HL:=zh hl
 have HT:=zh (zi htk (zi htn ht))
 have HQ:=zh (zi hp4 (zi hq0 (zi hr0 hol)))
 have HZ:=zh hZ
 clear N1 hq hwl hwm hW hWl hul hum hU hkl hkm hK h hN hl hn hm hol htk htn ht hp4 hq0 hr0 hZ
 have D1:=zh H1.out.drew
 obtain ⟨c0,c1,c2,c3,c4⟩:=Zg (x:=((.slice (some aw) ws.length cw,.slice (some au) nums.length cu,.slice Ak ks.length ck),⟨kd,ws,nums,ks,ps⟩)) H1.out.k
 dsimp only at c0 c1 c2 c3 c4
 have cw0:=Zz (k:=0) (x:=a) SW.out.1 H1.out.p.below (by rw [SW.out.2];rfl) lw0
 have cv0:w1.cell? aw=some (txt a):=cw0
 have cw1:=Zz (k:=1) (x:=b) SW.out.1 H1.out.p.below (by rw [SW.out.2];rfl) lw1
 have cv1:w1.cell? ⟨aw.block,aw.off+1,none⟩=some (txt b):=cw1
 have cn0:=ZaM (k:=0) (x:=(p:Int)) SU.out.1 H1.out.p.below (by rw [SU.out.2];rfl) lu0
 have cm0:w1.cell? au=some (.int .i64 (p:Int)):=cn0
 have cn1:=ZaM (k:=1) (x:=q) SU.out.1 H1.out.p.below (by rw [SU.out.2];rfl) lu1
 have cm1:w1.cell? ⟨au.block,au.off+1,none⟩=some (.int .i64 q):=cn1
 have cn2:=ZaM (k:=2) (x:=r) SU.out.1 H1.out.p.below (by rw [SU.out.2];rfl) lu2
 have cm2:w1.cell? ⟨au.block,au.off+2,none⟩=some (.int .i64 r):=cn2
 obtain ⟨d0,d1,d2,d3,d4⟩:=Zg (x:=((.slice (some aw) ws.length cw,.slice (some au) nums.length cu,.slice Ak ks.length ck),⟨kd,ws,nums,ks,ps⟩)) D1.out.k
 dsimp only at d0 d1 d2 d3 d4
 have dw0:=Zz (k:=0) (x:=a) SW.out.1 D1.out.p.below (by rw [SW.out.2];rfl) lw0
 have dv0:w1.drew.cell? aw=some (txt a):=dw0
 have dw1:=Zz (k:=1) (x:=b) SW.out.1 D1.out.p.below (by rw [SW.out.2];rfl) lw1
 have dv1:w1.drew.cell? ⟨aw.block,aw.off+1,none⟩=some (txt b):=dw1
 have dn0:=ZaM (k:=0) (x:=(p:Int)) SU.out.1 D1.out.p.below (by rw [SU.out.2];rfl) lu0
 have dm0:w1.drew.cell? au=some (.int .i64 (p:Int)):=dn0
 have dn1:=ZaM (k:=1) (x:=q) SU.out.1 D1.out.p.below (by rw [SU.out.2];rfl) lu1
 have dm1:w1.drew.cell? ⟨au.block,au.off+1,none⟩=some (.int .i64 q):=dn1
 have dn2:=ZaM (k:=2) (x:=r) SU.out.1 D1.out.p.below (by rw [SU.out.2];rfl) lu2
 have dm2:w1.drew.cell? ⟨au.block,au.off+2,none⟩=some (.int .i64 r):=dn2
 have AD:=zh (Zaf w0 w1.drew bp dp t vn a D1.out.p (by have:=HL.out;omega))
 have jw0:(0:Int)<(ws.length:Int):=by omega
 have jw1:(1:Int)<(ws.length:Int):=by omega
 have ju0:(0:Int)<(nums.length:Int):=by omega
 have ju1:(1:Int)<(nums.length:Int):=by omega
 have ju2:(2:Int)<(nums.length:Int):=by omega
 go_enter Tryz.func40,Tryz.ntmps40
 go_upto_region 1 with fail
 go_region_with (go_at_call 36;(refine AD.out.mono ?_);rintro e w2 ⟨rfl,hp,hf⟩;have H2:=zh (D1.out.next hp hf);clear hp hf)
 all_goals
  clear c0 c1 c2 c3 c4 cw0 cw1 cn0 cn1 cn2 cv0 cv1 cm0 cm1 cm2 d0 d1 d2 d3 d4 dw0 dw1 dn0 dn1 dn2 dv0 dv1 dm0 dm1 dm2
  obtain ⟨c0,c1,c2,c3,c4⟩:=Zg (x:=((.slice (some aw) ws.length cw,.slice (some au) nums.length cu,.slice Ak ks.length ck),⟨kd,ws,nums,ks,ps⟩)) H2.out.k
  dsimp only at c0 c1 c2 c3 c4
  have cw0:=Zz (k:=0) (x:=a) SW.out.1 H2.out.p.below (by rw [SW.out.2];rfl) lw0
  have cv0:w2.cell? aw=some (txt a):=cw0
  have cw1:=Zz (k:=1) (x:=b) SW.out.1 H2.out.p.below (by rw [SW.out.2];rfl) lw1
  have cv1:w2.cell? ⟨aw.block,aw.off+1,none⟩=some (txt b):=cw1
  have cn0:=ZaM (k:=0) (x:=(p:Int)) SU.out.1 H2.out.p.below (by rw [SU.out.2];rfl) lu0
  have cm0:w2.cell? au=some (.int .i64 (p:Int)):=cn0
  have cn1:=ZaM (k:=1) (x:=q) SU.out.1 H2.out.p.below (by rw [SU.out.2];rfl) lu1
  have cm1:w2.cell? ⟨au.block,au.off+1,none⟩=some (.int .i64 q):=cn1
  have cn2:=ZaM (k:=2) (x:=r) SU.out.1 H2.out.p.below (by rw [SU.out.2];rfl) lu2
  have cm2:w2.cell? ⟨au.block,au.off+2,none⟩=some (.int .i64 r):=cn2
  go_upto_region 3 with fail
  clear c0 c1 c2 c3 c4 cw0 cw1 cn0 cn1 cn2 cv0 cv1 cm0 cm1 cm2
  have D2:=zh H2.out.drew
  have AD:=zh (Zid w0 w2.drew bp dp _ vn [58,32] b [32] (Zax p) D2.out.p (by have:=HL.out;simp only [List.length_append,List.length_cons,List.length_nil];omega))
  have HS:(fun W:World=>(W.cell? ⟨w.heap.size,1,none⟩=some (.slice (some aw) ws.length cw)/\W.cell? ⟨w.heap.size,2,none⟩=some (.slice (some au) nums.length cu)/\W.cell? aw=some (txt a)/\W.cell? (aw.add 1)=some (txt b)/\W.cell? ⟨aw.block,aw.off+1,none⟩=some (txt b)/\W.cell? au=some (.int .i64 (p:Int))/\W.cell? ⟨1,p,none⟩=some (txt (Zax p)))/\Zh W w.heap.size 37 #[.int .i64 kd,.slice (some aw) ws.length cw,.slice (some au) nums.length cu,.slice Ak ks.length ck,.int .i64 ps]/\Below w0.heap.size w0 W) w2.drew:=ZfU (D2.out.k) (D2.out.p.below) SW.out.1 SU.out.1 (by rw [SW.out.2];rfl) (by rw [SW.out.2];rfl) (by rw [SU.out.2];rfl) HT.out.1 HQ.out.1
  refine wp_region_noPanic ?_
  refine wp_region_held_drew (S:=fun W:World=>(W.cell? ⟨w.heap.size,1,none⟩=some (.slice (some aw) ws.length cw)/\W.cell? ⟨w.heap.size,2,none⟩=some (.slice (some au) nums.length cu)/\W.cell? aw=some (txt a)/\W.cell? (aw.add 1)=some (txt b)/\W.cell? ⟨aw.block,aw.off+1,none⟩=some (txt b)/\W.cell? au=some (.int .i64 (p:Int))/\W.cell? ⟨1,p,none⟩=some (txt (Zax p)))/\Zh W w.heap.size 37 #[.int .i64 kd,.slice (some aw) ws.length cw,.slice (some au) nums.length cu,.slice Ak ks.length ck,.int .i64 ps]/\Below w0.heap.size w0 W) (by kernel_rfl) HS (fun hHeld=>?_)
  clear HS
  refine tk 0 rfl ?_
  refine tk 1 rfl ?_
  refine tk 2 rfl ?_
  refine tk 3 rfl ?_
  refine tk 4 rfl ?_
  refine tk 5 rfl ?_
  refine tk 6 rfl ?_
  refine tk 7 rfl ?_
  refine tk 8 rfl ?_
  refine tk 9 rfl ?_
  refine tk 10 rfl ?_
  refine tk 11 rfl ?_
  refine tk 12 rfl ?_
  (try simp only [cl,Act.put])
  refine rd 13 rfl fun K hK=>?_
  go_simp
  refine hK.out _ _ ?_ (fun hH2=>?_)
  ·exact ZfU (hHeld.2.1.keep (below_alloc1 _ _)) (hHeld.2.2.trans ((below_alloc1 _ _).mono hHeld.2.2.size)) SW.out.1 SU.out.1 (by rw [SW.out.2];rfl) (by rw [SW.out.2];rfl) (by rw [SU.out.2];rfl) HT.out.1 HQ.out.1
  clear hK K hHeld;have hHeld:=hH2;clear hH2
  (try simp only [cl,Act.put])
  refine rd 14 rfl fun K hK=>?_
  go_simp
  go_at_call 36
  refine AD.out.mono ?_
  rintro e w3 ⟨rfl,hp,hf⟩
  have H3:=zh (D2.out.next hp hf)
  have hb:=H3.out.p.below
  clear hp hf
  go_wp2_with fail
  refine hK.out _ _ (ZfU (H3.out.k) (H3.out.p.below) SW.out.1 SU.out.1 (by rw [SW.out.2];rfl) (by rw [SW.out.2];rfl) (by rw [SU.out.2];rfl) HT.out.1 HQ.out.1) (fun hH2=>?_)
  clear hK K hHeld hb;have hHeld:=hH2;clear hH2
  (try simp only [cl,Act.put])
  refine wpAnyH_done (by kernel_rfl) ?_ _
  refine NoPanic.normal ?_
  clear hHeld
  obtain ⟨c0,c1,c2,c3,c4⟩:=Zg (x:=((.slice (some aw) ws.length cw,.slice (some au) nums.length cu,.slice Ak ks.length ck),⟨kd,ws,nums,ks,ps⟩)) H3.out.k
  dsimp only at c0 c1 c2 c3 c4
  have cw0:=Zz (k:=0) (x:=a) SW.out.1 H3.out.p.below (by rw [SW.out.2];rfl) lw0
  have cv0:w3.cell? aw=some (txt a):=cw0
  have cw1:=Zz (k:=1) (x:=b) SW.out.1 H3.out.p.below (by rw [SW.out.2];rfl) lw1
  have cv1:w3.cell? ⟨aw.block,aw.off+1,none⟩=some (txt b):=cw1
  have cn0:=ZaM (k:=0) (x:=(p:Int)) SU.out.1 H3.out.p.below (by rw [SU.out.2];rfl) lu0
  have cm0:w3.cell? au=some (.int .i64 (p:Int)):=cn0
  have cn1:=ZaM (k:=1) (x:=q) SU.out.1 H3.out.p.below (by rw [SU.out.2];rfl) lu1
  have cm1:w3.cell? ⟨au.block,au.off+1,none⟩=some (.int .i64 q):=cn1
  have cn2:=ZaM (k:=2) (x:=r) SU.out.1 H3.out.p.below (by rw [SU.out.2];rfl) lu2
  have cm2:w3.cell? ⟨au.block,au.off+2,none⟩=some (.int .i64 r):=cn2
  by_cases hr:0<r
  ·have ez:=HZ.out
   rw [if_pos hr] at ez
   have HE:=zh ez
   clear ez
   have AD:=zh (Zaf w0 w3 bp dp _ vn [32,108,101,97,115,116,32] H3.out.p (by have:=HL.out;rw [HE.out] at this;simp only [List.length_append,List.length_cons,List.length_nil] at this ⊢;omega))
   go_upto_region 6 with (go_at_call 36;(refine AD.out.mono ?_);rintro e w4 ⟨rfl,hp,hf⟩;have H4:=zh (H3.out.next hp hf);clear hp hf)
   clear hr c0 c1 c2 c3 c4 cw0 cw1 cn0 cn1 cn2 cv0 cv1 cm0 cm1 cm2
   have D4:=zh H4.out.drew
   obtain ⟨c0,c1,c2,c3,c4⟩:=Zg (x:=((.slice (some aw) ws.length cw,.slice (some au) nums.length cu,.slice Ak ks.length ck),⟨kd,ws,nums,ks,ps⟩)) H4.out.k
   dsimp only at c0 c1 c2 c3 c4
   have cw0:=Zz (k:=0) (x:=a) SW.out.1 H4.out.p.below (by rw [SW.out.2];rfl) lw0
   have cv0:w4.cell? aw=some (txt a):=cw0
   have cw1:=Zz (k:=1) (x:=b) SW.out.1 H4.out.p.below (by rw [SW.out.2];rfl) lw1
   have cv1:w4.cell? ⟨aw.block,aw.off+1,none⟩=some (txt b):=cw1
   have cn0:=ZaM (k:=0) (x:=(p:Int)) SU.out.1 H4.out.p.below (by rw [SU.out.2];rfl) lu0
   have cm0:w4.cell? au=some (.int .i64 (p:Int)):=cn0
   have cn1:=ZaM (k:=1) (x:=q) SU.out.1 H4.out.p.below (by rw [SU.out.2];rfl) lu1
   have cm1:w4.cell? ⟨au.block,au.off+1,none⟩=some (.int .i64 q):=cn1
   have cn2:=ZaM (k:=2) (x:=r) SU.out.1 H4.out.p.below (by rw [SU.out.2];rfl) lu2
   have cm2:w4.cell? ⟨au.block,au.off+2,none⟩=some (.int .i64 r):=cn2
   have FA:=zh (Zhh w0 w4.drew bp dp _ vn q r D4.out.p HT.out.2.2 (by have:=HQ.out.2.1;unfold ZaI at this;omega) (by have:=HQ.out.2.2.1;unfold ZaI at this;omega) (by have:=HL.out;rw [HE.out] at this;simp only [List.length_append,List.length_cons,List.length_nil] at this ⊢;omega))
   refine wp_region_still_tail 11 (by kernel_rfl) (by kernel_rfl) ?_
   simp only [List.take_succ_cons,List.take_zero,List.drop_succ_cons,List.drop_zero]
   iterate 11 still_step
   refine wpStill_nil ?_
   change wpList _ _ _ _ _ w4.drew
   go_upto_region 7 with (go_at_call 67;(refine FA.out.mono ?_);rintro e w5 ⟨rfl,hp,hf⟩;have H5:=zh (D4.out.next hp hf);clear hp hf)
   clear c0 c1 c2 c3 c4 cw0 cw1 cn0 cn1 cn2 cv0 cv1 cm0 cm1 cm2
   have H6:=zh (show Nw w0 w w5 bp w.heap.size (t++(a++([58,32]++b++[32]++Zax p++Z))) dp vn #[.int .i64 kd,.slice (some aw) ws.length cw,.slice (some au) nums.length cu,.slice Ak ks.length ck,.int .i64 ps] by have:=H5.out;rw [HE.out];simp only [List.append_assoc] at this ⊢;exact this)
   obtain ⟨c0,c1,c2,c3,c4⟩:=Zg (x:=((.slice (some aw) ws.length cw,.slice (some au) nums.length cu,.slice Ak ks.length ck),⟨kd,ws,nums,ks,ps⟩)) H6.out.k
   dsimp only at c0 c1 c2 c3 c4
   have cw0:=Zz (k:=0) (x:=a) SW.out.1 H6.out.p.below (by rw [SW.out.2];rfl) lw0
   have cv0:w5.cell? aw=some (txt a):=cw0
   have cw1:=Zz (k:=1) (x:=b) SW.out.1 H6.out.p.below (by rw [SW.out.2];rfl) lw1
   have cv1:w5.cell? ⟨aw.block,aw.off+1,none⟩=some (txt b):=cw1
   have cn0:=ZaM (k:=0) (x:=(p:Int)) SU.out.1 H6.out.p.below (by rw [SU.out.2];rfl) lu0
   have cm0:w5.cell? au=some (.int .i64 (p:Int)):=cn0
   have cn1:=ZaM (k:=1) (x:=q) SU.out.1 H6.out.p.below (by rw [SU.out.2];rfl) lu1
   have cm1:w5.cell? ⟨au.block,au.off+1,none⟩=some (.int .i64 q):=cn1
   have cn2:=ZaM (k:=2) (x:=r) SU.out.1 H6.out.p.below (by rw [SU.out.2];rfl) lu2
   have cm2:w5.cell? ⟨au.block,au.off+2,none⟩=some (.int .i64 r):=cn2
   have FLe:=zh (zi (fun i=>Zij (ns:=ns) (l:=ks) i) HQ.out.2.2.2)
   go_wp2_with fail
   clear c0 c1 c2 c3 c4 cw0 cw1 cn0 cn1 cn2 cv0 cv1 cm0 cm1 cm2
   go_loopg [58] ks.length (fun g v58 wr=>∃ i:Nat,v58=.int .i64 i/\i<=ks.length/\g=ks.length-i/\Nw w0 w wr bp w.heap.size (t++(a++([58,32]++b++[32]++Zax p++Z))++Zb5 ns (ks.take i)) dp vn #[.int .i64 kd,.slice (some aw) ws.length cw,.slice (some au) nums.length cu,.slice Ak ks.length ck,.int .i64 ps])
   case atStart=>exact ⟨0,rfl,Nat.zero_le _,rfl,by simpa [Zb5] using H6.out⟩
   case round=>
    obtain ⟨i,rfl,hi,hg,hS⟩:=hrel
    have HS:=zh hS
    obtain ⟨c0,c1,c2,c3,c4⟩:=Zg (x:=((.slice (some aw) ws.length cw,.slice (some au) nums.length cu,.slice Ak ks.length ck),⟨kd,ws,nums,ks,ps⟩)) HS.out.k
    dsimp only at c0 c1 c2 c3 c4
    have cw0:=Zz (k:=0) (x:=a) SW.out.1 HS.out.p.below (by rw [SW.out.2];rfl) lw0
    have cv0:wr.cell? aw=some (txt a):=cw0
    have cw1:=Zz (k:=1) (x:=b) SW.out.1 HS.out.p.below (by rw [SW.out.2];rfl) lw1
    have cv1:wr.cell? ⟨aw.block,aw.off+1,none⟩=some (txt b):=cw1
    have cn0:=ZaM (k:=0) (x:=(p:Int)) SU.out.1 HS.out.p.below (by rw [SU.out.2];rfl) lu0
    have cm0:wr.cell? au=some (.int .i64 (p:Int)):=cn0
    have cn1:=ZaM (k:=1) (x:=q) SU.out.1 HS.out.p.below (by rw [SU.out.2];rfl) lu1
    have cm1:wr.cell? ⟨au.block,au.off+1,none⟩=some (.int .i64 q):=cn1
    have cn2:=ZaM (k:=2) (x:=r) SU.out.1 HS.out.p.below (by rw [SU.out.2];rfl) lu2
    have cm2:wr.cell? ⟨au.block,au.off+2,none⟩=some (.int .i64 r):=cn2
    by_cases him:i=ks.length
    ·have j1:decide (i<ks.length)=false:=decide_eq_false (by omega)
     have j2:¬ ((i:Int)<(ks.length:Int)):=by omega
     have hi2:ks.take i=ks:=by rw [him,List.take_length]
     rw [hi2] at HS
     clear hi hg hS him hi2
     go_wp2_with fail
     go_end0
     refine ⟨rfl,?_,HS.out.f⟩
     have:=HS.out.p
     simp only [List.append_assoc] at this ⊢
     exact this
    ·have hlt:i<ks.length:=by omega
     obtain ⟨y0,hy0⟩:∃ y,ks[i]? = some y:=⟨_,List.getElem?_eq_getElem hlt⟩
     obtain ⟨g0,g1,g2⟩:=FLe.out.2 y0 (List.mem_of_getElem? hy0)
     obtain ⟨n,rfl⟩:=Int.eq_ofNat_of_zero_le g0
     have hnl:n<ns.length:=by omega
     obtain ⟨z2,hz2⟩:∃ z,ns[n]? = some z:=⟨_,List.getElem?_eq_getElem hnl⟩
     rw [ZbC hz2] at g2
     have nx:=ZgZ (ns:=ns) hy0
     rw [ZbC hz2] at nx
     have j1:(i:Int)<(ks.length:Int):=by omega
     have wk:IntKind.i64.wrap ((i:Int)+1)=(i:Int)+1:=IntWalk.i64_in _ (by have:=HN.out.2.2.2;have e:maxLen=9223372036854775807:=rfl;omega)
     have KI:=zh (ZbB w0 wr bp dp _ vn ns _ i n ⟨HS.out.p,HN.out.1⟩ HN.out.2.1 hy0 hnl)
     have le:(Zb5 ns (ks.take i)).length+(ZaT z2).length<=(Zb5 ns ks).length:=by
      have:=FLe.out.1 (i+1)
      rw [nx,List.length_append] at this
      exact this
     have HI:=zh (zi hlt (zi hg (zi nx (zi hz2 (zi g2 le)))))
     clear hi hg hS him hy0 g0 g1 g2 hnl hz2 nx le hlt
     go_wp2_with (first
      | (go_at_call 42;(refine KI.out.mono ?_);rintro e w8 ⟨y,rfl,hy,hy2,hb⟩;have ey:y.2=z2:=Option.some.inj (hy.symm.trans HI.out.2.2.2.1);have H8:=zh (zi hy2 (zi (HS.out.below hb) ey));clear hy hy2 hb ey;have EX:=zh (Zg3 w0 ns dp HT.out.2.1 w8 bp _ vn y H8.out.2.1.p HN.out.1 H8.out.1 (H8.out.2.2▸HI.out.2.2.2.2.1) (by rw [H8.out.2.2];have:=HL.out;have:=HI.out.2.2.2.2.2;simp only [List.length_append,List.length_cons,List.length_nil];omega)))
      | (go_at_call 68;(refine EX.out.mono ?_);rintro e w9 ⟨rfl,hp,hf⟩;have H9:=zh (H8.out.2.1.next hp hf);clear hp hf))
     go_roundg (ks.length-(i+1))
     case measure=>have:=HI.out.1;have:=HI.out.2.1;omega
     case rel=>
      refine ⟨i+1,by push_cast;rfl,HI.out.1,rfl,?_⟩
      rw [HI.out.2.2.1]
      have:=H9.out
      rw [H8.out.2.2] at this
      simp only [List.append_assoc] at this ⊢
      exact this
  ·have ez:=HZ.out
   rw [if_neg hr] at ez
   have HE:=zh ez
   clear ez
   go_upto_region 7 with fail
   clear hr c0 c1 c2 c3 c4 cw0 cw1 cn0 cn1 cn2 cv0 cv1 cm0 cm1 cm2
   have H6:=zh (show Nw w0 w w3 bp w.heap.size (t++(a++([58,32]++b++[32]++Zax p++Z))) dp vn #[.int .i64 kd,.slice (some aw) ws.length cw,.slice (some au) nums.length cu,.slice Ak ks.length ck,.int .i64 ps] by have:=H3.out;rw [HE.out];simp only [List.append_assoc,List.append_nil] at this ⊢;exact this)
   obtain ⟨c0,c1,c2,c3,c4⟩:=Zg (x:=((.slice (some aw) ws.length cw,.slice (some au) nums.length cu,.slice Ak ks.length ck),⟨kd,ws,nums,ks,ps⟩)) H6.out.k
   dsimp only at c0 c1 c2 c3 c4
   have cw0:=Zz (k:=0) (x:=a) SW.out.1 H6.out.p.below (by rw [SW.out.2];rfl) lw0
   have cv0:w3.cell? aw=some (txt a):=cw0
   have cw1:=Zz (k:=1) (x:=b) SW.out.1 H6.out.p.below (by rw [SW.out.2];rfl) lw1
   have cv1:w3.cell? ⟨aw.block,aw.off+1,none⟩=some (txt b):=cw1
   have cn0:=ZaM (k:=0) (x:=(p:Int)) SU.out.1 H6.out.p.below (by rw [SU.out.2];rfl) lu0
   have cm0:w3.cell? au=some (.int .i64 (p:Int)):=cn0
   have cn1:=ZaM (k:=1) (x:=q) SU.out.1 H6.out.p.below (by rw [SU.out.2];rfl) lu1
   have cm1:w3.cell? ⟨au.block,au.off+1,none⟩=some (.int .i64 q):=cn1
   have cn2:=ZaM (k:=2) (x:=r) SU.out.1 H6.out.p.below (by rw [SU.out.2];rfl) lu2
   have cm2:w3.cell? ⟨au.block,au.off+2,none⟩=some (.int .i64 r):=cn2
   have FLe:=zh (zi (fun i=>Zij (ns:=ns) (l:=ks) i) HQ.out.2.2.2)
   go_wp2_with fail
   clear c0 c1 c2 c3 c4 cw0 cw1 cn0 cn1 cn2 cv0 cv1 cm0 cm1 cm2
   go_loopg [58] ks.length (fun g v58 wr=>∃ i:Nat,v58=.int .i64 i/\i<=ks.length/\g=ks.length-i/\Nw w0 w wr bp w.heap.size (t++(a++([58,32]++b++[32]++Zax p++Z))++Zb5 ns (ks.take i)) dp vn #[.int .i64 kd,.slice (some aw) ws.length cw,.slice (some au) nums.length cu,.slice Ak ks.length ck,.int .i64 ps])
   case atStart=>exact ⟨0,rfl,Nat.zero_le _,rfl,by simpa [Zb5] using H6.out⟩
   case round=>
    obtain ⟨i,rfl,hi,hg,hS⟩:=hrel
    have HS:=zh hS
    obtain ⟨c0,c1,c2,c3,c4⟩:=Zg (x:=((.slice (some aw) ws.length cw,.slice (some au) nums.length cu,.slice Ak ks.length ck),⟨kd,ws,nums,ks,ps⟩)) HS.out.k
    dsimp only at c0 c1 c2 c3 c4
    have cw0:=Zz (k:=0) (x:=a) SW.out.1 HS.out.p.below (by rw [SW.out.2];rfl) lw0
    have cv0:wr.cell? aw=some (txt a):=cw0
    have cw1:=Zz (k:=1) (x:=b) SW.out.1 HS.out.p.below (by rw [SW.out.2];rfl) lw1
    have cv1:wr.cell? ⟨aw.block,aw.off+1,none⟩=some (txt b):=cw1
    have cn0:=ZaM (k:=0) (x:=(p:Int)) SU.out.1 HS.out.p.below (by rw [SU.out.2];rfl) lu0
    have cm0:wr.cell? au=some (.int .i64 (p:Int)):=cn0
    have cn1:=ZaM (k:=1) (x:=q) SU.out.1 HS.out.p.below (by rw [SU.out.2];rfl) lu1
    have cm1:wr.cell? ⟨au.block,au.off+1,none⟩=some (.int .i64 q):=cn1
    have cn2:=ZaM (k:=2) (x:=r) SU.out.1 HS.out.p.below (by rw [SU.out.2];rfl) lu2
    have cm2:wr.cell? ⟨au.block,au.off+2,none⟩=some (.int .i64 r):=cn2
    by_cases him:i=ks.length
    ·have j1:decide (i<ks.length)=false:=decide_eq_false (by omega)
     have j2:¬ ((i:Int)<(ks.length:Int)):=by omega
     have hi2:ks.take i=ks:=by rw [him,List.take_length]
     rw [hi2] at HS
     clear hi hg hS him hi2
     go_wp2_with fail
     go_end0
     refine ⟨rfl,?_,HS.out.f⟩
     have:=HS.out.p
     simp only [List.append_assoc] at this ⊢
     exact this
    ·have hlt:i<ks.length:=by omega
     obtain ⟨y0,hy0⟩:∃ y,ks[i]? = some y:=⟨_,List.getElem?_eq_getElem hlt⟩
     obtain ⟨g0,g1,g2⟩:=FLe.out.2 y0 (List.mem_of_getElem? hy0)
     obtain ⟨n,rfl⟩:=Int.eq_ofNat_of_zero_le g0
     have hnl:n<ns.length:=by omega
     obtain ⟨z2,hz2⟩:∃ z,ns[n]? = some z:=⟨_,List.getElem?_eq_getElem hnl⟩
     rw [ZbC hz2] at g2
     have nx:=ZgZ (ns:=ns) hy0
     rw [ZbC hz2] at nx
     have j1:(i:Int)<(ks.length:Int):=by omega
     have wk:IntKind.i64.wrap ((i:Int)+1)=(i:Int)+1:=IntWalk.i64_in _ (by have:=HN.out.2.2.2;have e:maxLen=9223372036854775807:=rfl;omega)
     have KI:=zh (ZbB w0 wr bp dp _ vn ns _ i n ⟨HS.out.p,HN.out.1⟩ HN.out.2.1 hy0 hnl)
     have le:(Zb5 ns (ks.take i)).length+(ZaT z2).length<=(Zb5 ns ks).length:=by
      have:=FLe.out.1 (i+1)
      rw [nx,List.length_append] at this
      exact this
     have HI:=zh (zi hlt (zi hg (zi nx (zi hz2 (zi g2 le)))))
     clear hi hg hS him hy0 g0 g1 g2 hnl hz2 nx le hlt
     go_wp2_with (first
      | (go_at_call 42;(refine KI.out.mono ?_);rintro e w8 ⟨y,rfl,hy,hy2,hb⟩;have ey:y.2=z2:=Option.some.inj (hy.symm.trans HI.out.2.2.2.1);have H8:=zh (zi hy2 (zi (HS.out.below hb) ey));clear hy hy2 hb ey;have EX:=zh (Zg3 w0 ns dp HT.out.2.1 w8 bp _ vn y H8.out.2.1.p HN.out.1 H8.out.1 (H8.out.2.2▸HI.out.2.2.2.2.1) (by rw [H8.out.2.2];have:=HL.out;have:=HI.out.2.2.2.2.2;simp only [List.length_append,List.length_cons,List.length_nil];omega)))
      | (go_at_call 68;(refine EX.out.mono ?_);rintro e w9 ⟨rfl,hp,hf⟩;have H9:=zh (H8.out.2.1.next hp hf);clear hp hf))
     go_roundg (ks.length-(i+1))
     case measure=>have:=HI.out.1;have:=HI.out.2.1;omega
     case rel=>
      refine ⟨i+1,by push_cast;rfl,HI.out.1,rfl,?_⟩
      rw [HI.out.2.2.1]
      have:=H9.out
      rw [H8.out.2.2] at this
      simp only [List.append_assoc] at this ⊢
      exact this
theorem ZnG (w0:World) (ns:List Nd) (dp:Nat) (htk:Zay w0 1 ZeX) (htn:Zay w0 2 Zcm) (ht:Zff w0 w0):Zc1 40 w0 ns dp (Zgz ns) (ZbR ns):=by
 intro w bp t vn x h hN hx hok hl
 rcases hok with ⟨s,hn⟩ | ⟨⟨a,b,hn⟩,⟨p,q,r,hm,h0,h4,hq,hr⟩,hk⟩
 ·exact ZnE w0 w bp dp t vn ns x h hN hx s hn hl
 ·obtain ⟨p,rfl⟩:=Int.eq_ofNat_of_zero_le h0
  exact ZnF w0 w bp dp t vn ns x h hN hx htk htn ht a b hn p q r hm (by omega) hq hr hk hl
end
section
open Go.RowKit
theorem ZfT {w0 W:World} {b b2 bp cw:Nat} {aw:Addr} {ws:List Txt} {kd ps vu vk:Value} {s1:Txt} (hk:Zh W b 37 #[kd,.slice (some aw) ws.length cw,vu,vk,ps]) (h2:Zh W b2 42 #[ZaE bp]) (hb:Below w0.heap.size w0 W)
  (hW:ZM w0 w0.heap.size 1 (some aw) ws.length (ws.map txt)) (h0:ws[0]? = some s1) :
  (W.cell? ⟨b,1,none⟩=some (.slice (some aw) ws.length cw)/\W.cell? ⟨b2,0,none⟩=some (ZaE bp)/\W.cell? aw=some (txt s1))/\Zh W b 37 #[kd,.slice (some aw) ws.length cw,vu,vk,ps]/\Zh W b2 42 #[ZaE bp]/\Below w0.heap.size w0 W:=by
 have c1:=hk.blk.cell 1
 simp only [List.getElem?_toArray,List.getElem?_cons_zero,List.getElem?_cons_succ] at c1
 exact ⟨⟨c1,one_cell h2,Zz hW hb h0 (List.getElem?_eq_some_iff.1 h0).1⟩,hk,h2,hb⟩
theorem ZlU (w0 w:World) (bp dp:Nat) (t:Txt) (vn:Value) (ns:List Nd) (x:NdV×Nd) (h:PrS w0 w bp t dp vn) (hN:Zs w0 vn ns) (hx:ZaW w0 x) (hk:x.2.kind=2) (a:Txt) (hn:x.2.words=[a]) (hm:x.2.nums=[0]) (hl:t.length+(ZbZ x.2).length+10000<=140737488355328) :
  Calls Tryz.prog 38 #[.pointer (some ⟨bp,0,none⟩),ndX x] w fun e w'=>e=.returned (.tuple #[])/\PrS w0 w' bp (t++ZbZ x.2) dp vn/\Fr w w' bp:=by
 have hq:=hx
 obtain ⟨⟨vw,vu,vk⟩,kd,ws,nums,ks,ps⟩:=x
 obtain ⟨hw,hu,hkk⟩:=hx
 dsimp only at hk hn hm hw hu hkk hl ⊢
 obtain ⟨Aw,cw,rfl,hwl,hwm,hW,hWl⟩:=hw
 obtain ⟨Au,cu,rfl,hul,hum,hU⟩:=hu
 obtain ⟨Ak,ck,rfl,hkl,hkm,hK⟩:=hkk
 subst hk
 have he:ZbZ ⟨2,ws,nums,ks,ps⟩=[115,116,97,116,101,32]++a++[59]:=by
  unfold ZbZ word num
  dsimp only
  rw [hn,hm]
  rfl
 rw [he] at hl ⊢
 clear he
 simp only [List.length_append,List.length_cons,List.length_nil] at hl
 have a0:=below_alloc1 w (.cells #[ZaE bp] 42)
 have BP:Zh _ _ _ _:=Zh.start w #[ZaE bp] 42
 have P0:=h.keep a0
 generalize hw0:w.alloc (.cells #[ZaE bp] 42)=wb at *
 have h:=P0
 have HP:=zh (zi P0 (zi BP a0))
 clear P0 BP a0
 have N1:=Nw.start (w:=wb) #[.int .i64 2,.slice Aw ws.length cw,.slice Au nums.length cu,.slice Ak ks.length ck,.int .i64 ps] h
 generalize hw1:wb.alloc (.cells #[.int .i64 2,.slice Aw ws.length cw,.slice Au nums.length cu,.slice Ak ks.length ck,.int .i64 ps] 37)=w1 at *
 obtain ⟨aw,rfl,_⟩:=Zcl (k:=0) (x:=a) hW N1.p.below (by rw [hn];rfl) (by rw [hn];exact Nat.succ_pos _)
 have lw0:0<ws.length:=by rw [hn];exact Nat.succ_pos _
 have SW:=zh (zi hW hn)
 obtain ⟨au,rfl,_⟩:=ints_at (k:=0) (x:=0) hU N1.p.below (by rw [hm];rfl) (by rw [hm];exact Nat.succ_pos _)
 have lu0:0<nums.length:=by rw [hm];exact Nat.succ_pos _
 have SU:=zh (zi hU hm)
 have H1:=zh N1
 have HN:=zh (zi hN (zi hq (zi hK (zi hkm hkl))))
 have HL:=zh hl
 clear N1 hq hwl hwm hW hWl hul hum hU hkl hkm hK h hN hl hn hm
 have D1:=zh H1.out.drew
 obtain ⟨c0,c1,c2,c3,c4⟩:=Zg (x:=((.slice (some aw) ws.length cw,.slice (some au) nums.length cu,.slice Ak ks.length ck),⟨2,ws,nums,ks,ps⟩)) H1.out.k
 dsimp only at c0 c1 c2 c3 c4
 have cw0:=Zz (k:=0) (x:=a) SW.out.1 H1.out.p.below (by rw [SW.out.2];rfl) lw0
 have cv0:w1.cell? aw=some (txt a):=cw0
 have cn0:=ZaM (k:=0) (x:=0) SU.out.1 H1.out.p.below (by rw [SU.out.2];rfl) lu0
 have cm0:w1.cell? au=some (.int .i64 0):=cn0
 have AD:=zh (Zds w0 w1.drew bp dp t vn [115,116,97,116,101,32] a D1.out.p (by have:=HL.out;simp only [List.length_cons,List.length_nil];omega))
 have jw0:(0:Int)<(ws.length:Int):=by omega
 go_enter Tryz.func38,Tryz.ntmps38
 go_upto_region 7 with fail
 clear c0 c1 c2 c3 c4 cw0 cn0 cv0 cm0
 have HS:(fun W:World=>(W.cell? ⟨wb.heap.size,1,none⟩=some (.slice (some aw) ws.length cw)/\W.cell? ⟨w.heap.size,0,none⟩=some (ZaE bp)/\W.cell? aw=some (txt a))/\Zh W wb.heap.size 37 #[.int .i64 2,.slice (some aw) ws.length cw,.slice (some au) nums.length cu,.slice Ak ks.length ck,.int .i64 ps]/\Zh W w.heap.size 42 #[ZaE bp]/\Below w0.heap.size w0 W) w1.drew:=ZfT (D1.out.k) ((D1.out.f.at_ _ _ _ (Zbv HP.out.1 HP.out.2.1 (by decide)) (by decide) HP.out.2.1)) (D1.out.p.below) SW.out.1 (by rw [SW.out.2];rfl)
 refine wp_region_noPanic ?_
 refine wp_region_held_drew (S:=fun W:World=>(W.cell? ⟨wb.heap.size,1,none⟩=some (.slice (some aw) ws.length cw)/\W.cell? ⟨w.heap.size,0,none⟩=some (ZaE bp)/\W.cell? aw=some (txt a))/\Zh W wb.heap.size 37 #[.int .i64 2,.slice (some aw) ws.length cw,.slice (some au) nums.length cu,.slice Ak ks.length ck,.int .i64 ps]/\Zh W w.heap.size 42 #[ZaE bp]/\Below w0.heap.size w0 W) (by kernel_rfl) HS (fun hHeld=>?_)
 clear HS
 refine tk 0 rfl ?_
 refine tk 1 rfl ?_
 refine tk 2 rfl ?_
 refine tk 3 rfl ?_
 refine tk 4 rfl ?_
 refine tk 5 rfl ?_
 refine tk 6 rfl ?_
 (try simp only [cl,Act.put])
 refine rd 7 rfl fun K hK=>?_
 go_simp
 refine hK.out _ _ ?_ (fun hH2=>?_)
 ·exact ZfT (hHeld.2.1.keep (below_alloc1 _ _)) (hHeld.2.2.1.keep (below_alloc1 _ _)) (hHeld.2.2.2.trans ((below_alloc1 _ _).mono hHeld.2.2.2.size)) SW.out.1 (by rw [SW.out.2];rfl)
 clear hK K hHeld;have hHeld:=hH2;clear hH2
 (try simp only [cl,Act.put])
 refine rd 8 rfl fun K hK=>?_
 go_simp
 go_at_call 36
 refine AD.out.mono ?_
 rintro e w2 ⟨rfl,hp,hf⟩
 have H2:=zh (D1.out.next hp hf)
 have G2:=zh hf
 have hb:=H2.out.p.below
 clear hp hf
 go_wp2_with fail
 refine hK.out _ _ (ZfT (H2.out.k) ((H2.out.f.at_ _ _ _ (Zbv HP.out.1 HP.out.2.1 (by decide)) (by decide) HP.out.2.1)) (H2.out.p.below) SW.out.1 (by rw [SW.out.2];rfl)) (fun hH2=>?_)
 clear hK K hHeld hb;have hHeld:=hH2;clear hH2
 (try simp only [cl,Act.put])
 refine wpAnyH_done (by kernel_rfl) ?_ _
 refine NoPanic.normal ?_
 clear hHeld
 have ep:=one_cell (H2.out.f.at_ _ _ _ (Zbv HP.out.1 HP.out.2.1 (by decide)) (by decide) HP.out.2.1)
 have AD:=zh (Zaf w0 w2 bp dp _ vn [59] H2.out.p (by have:=HL.out;simp only [List.length_append,List.length_cons,List.length_nil];omega))
 go_wp2_with (go_at_call 36;(refine AD.out.mono ?_);rintro e w3 ⟨rfl,hp,hf⟩;have H3:=zh (H2.out.next hp hf);clear hp hf)
 go_end0
 refine ⟨rfl,?_,(Fr.of_below bp HP.out.2.2).trans H3.out.f⟩
 have:=H3.out.p
 simp only [List.append_assoc] at this ⊢
 exact this
theorem ZlV (w0 w:World) (bp dp:Nat) (t:Txt) (vn:Value) (ns:List Nd) (x:NdV×Nd) (h:PrS w0 w bp t dp vn) (hN:Zs w0 vn ns) (hx:ZaW w0 x) (hk:x.2.kind=2) (a:Txt) (hn:x.2.words=[a]) (hm:x.2.nums=[1]) (hl:t.length+(ZbZ x.2).length+10000<=140737488355328) :
  Calls Tryz.prog 38 #[.pointer (some ⟨bp,0,none⟩),ndX x] w fun e w'=>e=.returned (.tuple #[])/\PrS w0 w' bp (t++ZbZ x.2) dp vn/\Fr w w' bp:=by
 have hq:=hx
 obtain ⟨⟨vw,vu,vk⟩,kd,ws,nums,ks,ps⟩:=x
 obtain ⟨hw,hu,hkk⟩:=hx
 dsimp only at hk hn hm hw hu hkk hl ⊢
 obtain ⟨Aw,cw,rfl,hwl,hwm,hW,hWl⟩:=hw
 obtain ⟨Au,cu,rfl,hul,hum,hU⟩:=hu
 obtain ⟨Ak,ck,rfl,hkl,hkm,hK⟩:=hkk
 subst hk
 have he:ZbZ ⟨2,ws,nums,ks,ps⟩=[102,105,110,97,108,32]++a++[59]:=by
  unfold ZbZ word num
  dsimp only
  rw [hn,hm]
  rfl
 rw [he] at hl ⊢
 clear he
 simp only [List.length_append,List.length_cons,List.length_nil] at hl
 have a0:=below_alloc1 w (.cells #[ZaE bp] 42)
 have BP:Zh _ _ _ _:=Zh.start w #[ZaE bp] 42
 have P0:=h.keep a0
 generalize hw0:w.alloc (.cells #[ZaE bp] 42)=wb at *
 have h:=P0
 have HP:=zh (zi P0 (zi BP a0))
 clear P0 BP a0
 have N1:=Nw.start (w:=wb) #[.int .i64 2,.slice Aw ws.length cw,.slice Au nums.length cu,.slice Ak ks.length ck,.int .i64 ps] h
 generalize hw1:wb.alloc (.cells #[.int .i64 2,.slice Aw ws.length cw,.slice Au nums.length cu,.slice Ak ks.length ck,.int .i64 ps] 37)=w1 at *
 obtain ⟨aw,rfl,_⟩:=Zcl (k:=0) (x:=a) hW N1.p.below (by rw [hn];rfl) (by rw [hn];exact Nat.succ_pos _)
 have lw0:0<ws.length:=by rw [hn];exact Nat.succ_pos _
 have SW:=zh (zi hW hn)
 obtain ⟨au,rfl,_⟩:=ints_at (k:=0) (x:=1) hU N1.p.below (by rw [hm];rfl) (by rw [hm];exact Nat.succ_pos _)
 have lu0:0<nums.length:=by rw [hm];exact Nat.succ_pos _
 have SU:=zh (zi hU hm)
 have H1:=zh N1
 have HN:=zh (zi hN (zi hq (zi hK (zi hkm hkl))))
 have HL:=zh hl
 clear N1 hq hwl hwm hW hWl hul hum hU hkl hkm hK h hN hl hn hm
 have D1:=zh H1.out.drew
 obtain ⟨c0,c1,c2,c3,c4⟩:=Zg (x:=((.slice (some aw) ws.length cw,.slice (some au) nums.length cu,.slice Ak ks.length ck),⟨2,ws,nums,ks,ps⟩)) H1.out.k
 dsimp only at c0 c1 c2 c3 c4
 have cw0:=Zz (k:=0) (x:=a) SW.out.1 H1.out.p.below (by rw [SW.out.2];rfl) lw0
 have cv0:w1.cell? aw=some (txt a):=cw0
 have cn0:=ZaM (k:=0) (x:=1) SU.out.1 H1.out.p.below (by rw [SU.out.2];rfl) lu0
 have cm0:w1.cell? au=some (.int .i64 1):=cn0
 have AD:=zh (Zds w0 w1.drew bp dp t vn [102,105,110,97,108,32] a D1.out.p (by have:=HL.out;simp only [List.length_cons,List.length_nil];omega))
 have jw0:(0:Int)<(ws.length:Int):=by omega
 go_enter Tryz.func38,Tryz.ntmps38
 go_upto_region 1 with fail
 clear c0 c1 c2 c3 c4 cw0 cn0 cv0 cm0
 have HS:(fun W:World=>(W.cell? ⟨wb.heap.size,1,none⟩=some (.slice (some aw) ws.length cw)/\W.cell? ⟨w.heap.size,0,none⟩=some (ZaE bp)/\W.cell? aw=some (txt a))/\Zh W wb.heap.size 37 #[.int .i64 2,.slice (some aw) ws.length cw,.slice (some au) nums.length cu,.slice Ak ks.length ck,.int .i64 ps]/\Zh W w.heap.size 42 #[ZaE bp]/\Below w0.heap.size w0 W) w1.drew:=ZfT (D1.out.k) ((D1.out.f.at_ _ _ _ (Zbv HP.out.1 HP.out.2.1 (by decide)) (by decide) HP.out.2.1)) (D1.out.p.below) SW.out.1 (by rw [SW.out.2];rfl)
 refine wp_region_noPanic ?_
 refine wp_region_held_drew (S:=fun W:World=>(W.cell? ⟨wb.heap.size,1,none⟩=some (.slice (some aw) ws.length cw)/\W.cell? ⟨w.heap.size,0,none⟩=some (ZaE bp)/\W.cell? aw=some (txt a))/\Zh W wb.heap.size 37 #[.int .i64 2,.slice (some aw) ws.length cw,.slice (some au) nums.length cu,.slice Ak ks.length ck,.int .i64 ps]/\Zh W w.heap.size 42 #[ZaE bp]/\Below w0.heap.size w0 W) (by kernel_rfl) HS (fun hHeld=>?_)
 clear HS
 refine tk 0 rfl ?_
 refine tk 1 rfl ?_
 refine tk 2 rfl ?_
 refine tk 3 rfl ?_
 refine tk 4 rfl ?_
 refine tk 5 rfl ?_
 refine tk 6 rfl ?_
 (try simp only [cl,Act.put])
 refine rd 7 rfl fun K hK=>?_
 go_simp
 refine hK.out _ _ ?_ (fun hH2=>?_)
 ·exact ZfT (hHeld.2.1.keep (below_alloc1 _ _)) (hHeld.2.2.1.keep (below_alloc1 _ _)) (hHeld.2.2.2.trans ((below_alloc1 _ _).mono hHeld.2.2.2.size)) SW.out.1 (by rw [SW.out.2];rfl)
 clear hK K hHeld;have hHeld:=hH2;clear hH2
 (try simp only [cl,Act.put])
 refine rd 8 rfl fun K hK=>?_
 go_simp
 go_at_call 36
 refine AD.out.mono ?_
 rintro e w2 ⟨rfl,hp,hf⟩
 have H2:=zh (D1.out.next hp hf)
 have G2:=zh hf
 have hb:=H2.out.p.below
 clear hp hf
 go_wp2_with fail
 refine hK.out _ _ (ZfT (H2.out.k) ((H2.out.f.at_ _ _ _ (Zbv HP.out.1 HP.out.2.1 (by decide)) (by decide) HP.out.2.1)) (H2.out.p.below) SW.out.1 (by rw [SW.out.2];rfl)) (fun hH2=>?_)
 clear hK K hHeld hb;have hHeld:=hH2;clear hH2
 (try simp only [cl,Act.put])
 refine wpAnyH_done (by kernel_rfl) ?_ _
 refine NoPanic.normal ?_
 clear hHeld
 have ep:=one_cell (H2.out.f.at_ _ _ _ (Zbv HP.out.1 HP.out.2.1 (by decide)) (by decide) HP.out.2.1)
 have AD:=zh (Zaf w0 w2 bp dp _ vn [59] H2.out.p (by have:=HL.out;simp only [List.length_append,List.length_cons,List.length_nil];omega))
 go_wp2_with (go_at_call 36;(refine AD.out.mono ?_);rintro e w3 ⟨rfl,hp,hf⟩;have H3:=zh (H2.out.next hp hf);clear hp hf)
 go_end0
 refine ⟨rfl,?_,(Fr.of_below bp HP.out.2.2).trans H3.out.f⟩
 have:=H3.out.p
 simp only [List.append_assoc] at this ⊢
 exact this
theorem Zjx {w0 W:World} {b b2 bp cw:Nat} {aw:Addr} {ws:List Txt} {kd ps vu vk:Value} {s1 s2:Txt} (hk:Zh W b 37 #[kd,.slice (some aw) ws.length cw,vu,vk,ps]) (h2:Zh W b2 42 #[ZaE bp]) (hb:Below w0.heap.size w0 W)
  (hW:ZM w0 w0.heap.size 1 (some aw) ws.length (ws.map txt)) (h0:ws[0]? = some s1) (h1:ws[1]? = some s2) :
  (W.cell? ⟨b,1,none⟩=some (.slice (some aw) ws.length cw)/\W.cell? ⟨b2,0,none⟩=some (ZaE bp)/\W.cell? aw=some (txt s1)/\W.cell? (aw.add 1)=some (txt s2)/\W.cell? ⟨aw.block,aw.off+1,none⟩=some (txt s2))/\Zh W b 37 #[kd,.slice (some aw) ws.length cw,vu,vk,ps]/\Zh W b2 42 #[ZaE bp]/\Below w0.heap.size w0 W:=by
 have c1:=hk.blk.cell 1
 simp only [List.getElem?_toArray,List.getElem?_cons_zero,List.getElem?_cons_succ] at c1
 have l1:=(List.getElem?_eq_some_iff.1 h1).1
 have e1:=Zz hW hb h1 l1
 exact ⟨⟨c1,one_cell h2,Zz hW hb h0 (by omega),e1,e1⟩,hk,h2,hb⟩
theorem ZrF (w0 w:World) (bp dp:Nat) (t:Txt) (vn:Value) (ns:List Nd) (x:NdV×Nd) (h:PrS w0 w bp t dp vn) (hN:Zs w0 vn ns) (hx:ZaW w0 x) (hk:x.2.kind=3) (a b:Txt) (r:List Txt) (hn:x.2.words=a::b::r) (hev:r.length % 2=0) (hr2:2<=r.length) (hl:t.length+(ZbZ x.2).length+10000<=140737488355328) :
  Calls Tryz.prog 38 #[.pointer (some ⟨bp,0,none⟩),ndX x] w fun e w'=>e=.returned (.tuple #[])/\PrS w0 w' bp (t++ZbZ x.2) dp vn/\Fr w w' bp:=by
 have hq:=hx
 obtain ⟨⟨vw,vu,vk⟩,kd,ws,nums,ks,ps⟩:=x
 obtain ⟨hw,hu,hkk⟩:=hx
 dsimp only at hk hn hw hu hkk hl ⊢
 obtain ⟨Aw,cw,rfl,hwl,hwm,hW,hWl⟩:=hw
 obtain ⟨Au,cu,rfl,hul,hum,hU⟩:=hu
 obtain ⟨Ak,ck,rfl,hkl,hkm,hK⟩:=hkk
 subst hk
 have he:ZbZ ⟨3,ws,nums,ks,ps⟩=[111,112,32]++a++[32]++b++[32,45,62,32]++Zal [44,32] (Za9 r)++[59]:=by
  unfold ZbZ word
  dsimp only
  rw [hn]
  rfl
 rw [he] at hl ⊢
 clear he
 simp only [List.length_append,List.length_cons,List.length_nil] at hl
 have jw0:(0:Int)<(ws.length:Int):=by rw [hn];simp only [List.length_cons];omega
 have jw1:(1:Int)<(ws.length:Int):=by rw [hn];simp only [List.length_cons];omega
 have jw2:(2:Int)<=(ws.length:Int):=by rw [hn];simp only [List.length_cons];omega
 have jn2:2<=ws.length:=by omega
 have wz:ws.length=r.length+2:=by rw [hn];simp only [List.length_cons]
 have wd:ws.drop 2=r:=by rw [hn];rfl
 have a0:=below_alloc1 w (.cells #[ZaE bp] 42)
 have BP:Zh _ _ _ _:=Zh.start w #[ZaE bp] 42
 have P0:=h.keep a0
 generalize hw0:w.alloc (.cells #[ZaE bp] 42)=wb at *
 have h:=P0
 have HP:=zh (zi P0 (zi BP a0))
 clear P0 BP a0
 have N1:=Nw.start (w:=wb) #[.int .i64 3,.slice Aw ws.length cw,.slice Au nums.length cu,.slice Ak ks.length ck,.int .i64 ps] h
 generalize hw1:wb.alloc (.cells #[.int .i64 3,.slice Aw ws.length cw,.slice Au nums.length cu,.slice Ak ks.length ck,.int .i64 ps] 37)=w1 at *
 obtain ⟨aw,rfl,_⟩:=Zcl (k:=0) (x:=a) hW N1.p.below (by rw [hn];rfl) (by rw [hn];exact Nat.succ_pos _)
 have lw0:0<ws.length:=by rw [hn];exact Nat.succ_pos _
 have lw1:1<ws.length:=by rw [hn];simp only [List.length_cons];omega
 have SW:=zh (zi hW hn)
 have H1:=zh N1
 have HN:=zh (zi hN (zi hq (zi hK (zi hkm hkl))))
 have HL:=zh hl
 have HR:=zh (zi hev (zi hr2 (zi wz (zi wd (zi hwl hwm)))))
 clear N1 hq hwl hwm hW hWl hul hum hU hkl hkm hK h hN hl hn hev hr2 wz wd
 obtain ⟨c0,c1,c2,c3,c4⟩:=Zg (x:=((.slice (some aw) ws.length cw,.slice Au nums.length cu,.slice Ak ks.length ck),⟨3,ws,nums,ks,ps⟩)) H1.out.k
 dsimp only at c0 c1 c2 c3 c4
 have cw0:=Zz (k:=0) (x:=a) SW.out.1 H1.out.p.below (by rw [SW.out.2];rfl) lw0
 have cv0:w1.cell? aw=some (txt a):=cw0
 have cw1:=Zz (k:=1) (x:=b) SW.out.1 H1.out.p.below (by rw [SW.out.2];rfl) lw1
 have cv1:w1.cell? ⟨aw.block,aw.off+1,none⟩=some (txt b):=cw1
 go_enter Tryz.func38,Tryz.ntmps38
 have lw2:(if cw=2 then some aw else some (⟨aw.block,aw.off+2,none⟩:Addr))=some ⟨aw.block,aw.off+2,none⟩:=by rw [if_neg (by have:=HR.out;omega)]
 have lz:ws.length-2=r.length:=by have:=HR.out.2.2.1;omega
 have BO:Zh _ _ _ _:=Zh.start w1 #[.slice (some ⟨aw.block,aw.off+2,none⟩) r.length (cw-2)] 33
 have a2:=below_alloc1 w1 (.cells #[.slice (some ⟨aw.block,aw.off+2,none⟩) r.length (cw-2)] 33)
 go_upto_region 4 with fail
 generalize hA2:(⟨aw.block,aw.off+2,none⟩:Addr)=A2 at *
 have HA2:=zh (show aw.add 2=A2 from hA2)
 clear hA2
 clear c0 c1 c2 c3 c4 cw0 cw1 cv0 cv1
 generalize hw2:w1.alloc (.cells #[.slice (some A2) r.length (cw-2)] 33)=w2 at *
 have H2:=zh (H1.out.below a2)
 have HO:=zh BO
 clear a2 BO lw2 lz
 have D2:=zh H2.out.drew
 have AD:=zh (ZpO w0 w2.drew bp dp t vn [111,112,32] a [32] b [32,45,62,32] D2.out.p (by have:=HL.out;simp only [List.length_cons,List.length_nil];omega))
 have HS:(fun W:World=>(W.cell? ⟨wb.heap.size,1,none⟩=some (.slice (some aw) ws.length cw)/\W.cell? ⟨w.heap.size,0,none⟩=some (ZaE bp)/\W.cell? aw=some (txt a)/\W.cell? (aw.add 1)=some (txt b)/\W.cell? ⟨aw.block,aw.off+1,none⟩=some (txt b))/\Zh W wb.heap.size 37 #[.int .i64 3,.slice (some aw) ws.length cw,.slice Au nums.length cu,.slice Ak ks.length ck,.int .i64 ps]/\Zh W w.heap.size 42 #[ZaE bp]/\Below w0.heap.size w0 W) w2.drew:=Zjx (D2.out.k) ((D2.out.f.at_ _ _ _ (Zbv HP.out.1 HP.out.2.1 (by decide)) (by decide) HP.out.2.1)) (D2.out.p.below) SW.out.1 (by rw [SW.out.2];rfl) (by rw [SW.out.2];rfl)
 refine wp_region_noPanic ?_
 refine wp_region_held_drew (S:=fun W:World=>(W.cell? ⟨wb.heap.size,1,none⟩=some (.slice (some aw) ws.length cw)/\W.cell? ⟨w.heap.size,0,none⟩=some (ZaE bp)/\W.cell? aw=some (txt a)/\W.cell? (aw.add 1)=some (txt b)/\W.cell? ⟨aw.block,aw.off+1,none⟩=some (txt b))/\Zh W wb.heap.size 37 #[.int .i64 3,.slice (some aw) ws.length cw,.slice Au nums.length cu,.slice Ak ks.length ck,.int .i64 ps]/\Zh W w.heap.size 42 #[ZaE bp]/\Below w0.heap.size w0 W) (by kernel_rfl) HS (fun hHeld=>?_)
 clear HS
 refine tk 0 rfl ?_
 refine tk 1 rfl ?_
 refine tk 2 rfl ?_
 refine tk 3 rfl ?_
 refine tk 4 rfl ?_
 refine tk 5 rfl ?_
 refine tk 6 rfl ?_
 refine tk 7 rfl ?_
 refine tk 8 rfl ?_
 refine tk 9 rfl ?_
 refine tk 10 rfl ?_
 (try simp only [cl,Act.put])
 refine rd 11 rfl fun K hK=>?_
 go_simp
 refine hK.out _ _ ?_ (fun hH2=>?_)
 ·exact Zjx (hHeld.2.1.keep (below_alloc1 _ _)) (hHeld.2.2.1.keep (below_alloc1 _ _)) (hHeld.2.2.2.trans ((below_alloc1 _ _).mono hHeld.2.2.2.size)) SW.out.1 (by rw [SW.out.2];rfl) (by rw [SW.out.2];rfl)
 clear hK K hHeld;have hHeld:=hH2;clear hH2
 (try simp only [cl,Act.put])
 refine rd 12 rfl fun K hK=>?_
 go_simp
 go_at_call 36
 refine AD.out.mono ?_
 rintro e w3 ⟨rfl,hp,hf⟩
 have H3:=zh (D2.out.next hp hf)
 have G3:=zh hf
 have hb:=H3.out.p.below
 clear hp hf
 go_wp2_with fail
 refine hK.out _ _ (Zjx (H3.out.k) ((H3.out.f.at_ _ _ _ (Zbv HP.out.1 HP.out.2.1 (by decide)) (by decide) HP.out.2.1)) (H3.out.p.below) SW.out.1 (by rw [SW.out.2];rfl) (by rw [SW.out.2];rfl)) (fun hH2=>?_)
 clear hK K hHeld hb;have hHeld:=hH2;clear hH2
 (try simp only [cl,Act.put])
 refine wpAnyH_done (by kernel_rfl) ?_ _
 refine NoPanic.normal ?_
 clear hHeld
 have D3:=zh H3.out.drew
 have TO:=zh (G3.out.at_ _ _ _ (Zbv D2.out.p (HO.out.keep (Zj w2)) (by decide)) (by decide) (HO.out.keep (Zj w2)))
 have TP:=zh (H3.out.f.at_ _ _ _ (Zbv HP.out.1 HP.out.2.1 (by decide)) (by decide) HP.out.2.1)
 have e1:=one_cell TO.out
 have e2:=one_cell TP.out
 have f1:=one_cell (TO.out.keep (Zj w3))
 have f2:=one_cell (TP.out.keep (Zj w3))
 have RD:=zh (show ZM w0 w0.heap.size 1 (some A2) r.length (r.map txt) from by
  have:=Zi5 SW.out.1 2 (by have:=HR.out;omega)
  rw [<- List.map_drop,HR.out.2.2.2.1,HA2.out] at this
  rw [show r.length=ws.length-2 by have:=HR.out;omega]
  exact this)
 have q0:(r.length:Int).tdiv 2=((Za9 r).length:Int):=by rw [Ze2,Int.tdiv_eq_ediv_of_nonneg (by omega)];omega
 have q3:(r.length:Int) / 2=((Za9 r).length:Int):=by rw [Ze2];omega
 have q1:IntKind.i64.wrap ((Za9 r).length:Int)=((Za9 r).length:Int):=IntWalk.i64_in _ (by rw [Ze2];have:=HR.out;have e9:maxLen=9223372036854775807:=rfl;omega)
 have SP:=zh (ZfB 65 #[ZaE w.heap.size,ZaE w1.heap.size] (enters_of Tryz.func65 (by kernel_rfl) rfl) w0 w3.drew bp dp _ [44,32] vn (Za9 r) D3.out.p (fun k x w' t' hx hp hf hl'=>by
  obtain ⟨u,v,h1,h2,rfl⟩:=Zj0 r k x hx
  exact Zo7 w0 w' bp dp _ _ t' vn A2 (cw-2) r k u v hp
   (hf.at_ _ _ _ (Zbv D3.out.p (TP.out.keep (Zj w3)) (by decide)) (by decide) (TP.out.keep (Zj w3)))
   (hf.at_ _ _ _ (Zbv D3.out.p (TO.out.keep (Zj w3)) (by decide)) (by decide) (TO.out.keep (Zj w3)))
   RD.out (by have:=HR.out;have e9:maxLen=9223372036854775807:=rfl;omega) h1 h2 hl') (by rw [Ze2];have:=HR.out;have e9:maxLen=9223372036854775807:=rfl;omega) (by have:=HL.out;simp only [List.length_append,List.length_cons,List.length_nil];omega))
 go_upto_region 5 with fail
 go_region_with (go_at_call 64;(refine SP.out.mono ?_);rintro e w4 ⟨rfl,hp,hf⟩;have H4:=zh (D3.out.next hp hf);clear hp hf)
 all_goals
  have ep:=one_cell (H4.out.f.at_ _ _ _ (Zbv HP.out.1 HP.out.2.1 (by decide)) (by decide) HP.out.2.1)
  have AD:=zh (Zaf w0 w4 bp dp _ vn [59] H4.out.p (by have:=HL.out;simp only [List.length_append,List.length_cons,List.length_nil];omega))
  go_wp2_with (go_at_call 36;(refine AD.out.mono ?_);rintro e w5 ⟨rfl,hp,hf⟩;have H5:=zh (H4.out.next hp hf);clear hp hf)
  go_end0
  refine ⟨rfl,?_,(Fr.of_below bp HP.out.2.2).trans H5.out.f⟩
  have:=H5.out.p
  simp only [List.append_assoc] at this ⊢
  exact this
theorem Zo8 (w0:World) (ns:List Nd) (dp:Nat):Zc1 38 w0 ns dp Zfo ZbZ:=by
 intro w bp t vn x h hN hx hok hl
 rcases hok with ⟨hk,a,b,r,hn,he,h2⟩ | ⟨hk,⟨a,hn⟩,y,hm,h0,h1⟩
 ·exact ZrF w0 w bp dp t vn ns x h hN hx hk a b r hn he h2 hl
 ·have:y=0\/y=1:=by omega
  rcases this with rfl | rfl
  ·exact ZlU w0 w bp dp t vn ns x h hN hx hk a hn hm hl
  ·exact ZlV w0 w bp dp t vn ns x h hN hx hk a hn hm hl
end
section
open Go.RowKit
theorem ZnS {w0:World} {A:Option Addr} {n b:Nat} {l:List Value} (h:ZM w0 b 1 A n l) (k:Nat) (hk:k<=n):ZM w0 b 1 A k (l.take k):=by
 obtain ⟨h1,h2⟩:=h
 refine ⟨by rw [List.length_take,h1];omega,fun h0=>?_⟩
 obtain ⟨ad,e,hb,hc⟩:=h2 (by omega)
 refine ⟨ad,e,hb,fun i v hv=>hc i v ?_⟩
 rw [List.getElem?_take] at hv
 split at hv
 ·exact hv
 ·cases hv
theorem Znm (w0 w:World) (bp:Nat) (t:Txt) (vn:Value) (ns:List Nd) (f:Nat) (x:NdV×Nd) (h:PrS w0 w bp t 0 vn) (hN:Zs w0 vn ns) (hx:ZaW w0 x) (hk:x.2.kind=1) (a:Txt) (hn:x.2.words=[a]) (hok:Zaa ns x.2.kids Zfo) (hl:t.length+(Zcn ns f x.2).length+10000<=140737488355328) :
  Calls Tryz.prog 18 #[.pointer (some ⟨bp,0,none⟩),ndX x] w fun e w'=>e=.returned (.tuple #[])/\PrS w0 w' bp (t++Zcn ns f x.2) 0 vn/\Fr w w' bp:=by
 have hq:=hx
 obtain ⟨⟨vw,vu,vk⟩,kd,ws,nums,ks,ps⟩:=x
 obtain ⟨hw,hu,hkk⟩:=hx
 dsimp only at hk hn hok hw hu hkk hl ⊢
 obtain ⟨Aw,cw,rfl,hwl,hwm,hW,hWl⟩:=hw
 obtain ⟨Au,cu,rfl,hul,hum,hU⟩:=hu
 obtain ⟨Ak,ck,rfl,hkl,hkm,hK⟩:=hkk
 subst hk
 have he:Zcn ns f ⟨1,ws,nums,ks,ps⟩=[112,114,111,116,111,32]++a++ZI 0 (ks.map fun k=>ZbZ (Za ns k)):=by
  unfold Zcn word
  dsimp only
  rw [if_pos rfl,hn]
  rfl
 rw [he] at hl ⊢
 clear he
 simp only [List.length_append,List.length_cons,List.length_nil] at hl
 have N1:=Nw.start (w:=w) #[.int .i64 1,.slice Aw ws.length cw,.slice Au nums.length cu,.slice Ak ks.length ck,.int .i64 ps] h
 generalize hw1:w.alloc (.cells #[.int .i64 1,.slice Aw ws.length cw,.slice Au nums.length cu,.slice Ak ks.length ck,.int .i64 ps] 37)=w1 at *
 obtain ⟨aw,rfl,_⟩:=Zcl (k:=0) (x:=a) hW N1.p.below (by rw [hn];rfl) (by rw [hn];exact Nat.succ_pos _)
 have lw0:0<ws.length:=by rw [hn];exact Nat.succ_pos _
 have SW:=zh (zi hW hn)
 have H1:=zh N1
 have HN:=zh (zi hN (zi hq (zi hK (zi hkm hkl))))
 have HL:=zh hl
 have HO:=zh hok
 clear N1 hq hwl hwm hW hWl hul hum hU hkl hkm hK h hN hl hn hok
 have D1:=zh H1.out.drew
 obtain ⟨c0,c1,c2,c3,c4⟩:=Zg (x:=((.slice (some aw) ws.length cw,.slice Au nums.length cu,.slice Ak ks.length ck),⟨1,ws,nums,ks,ps⟩)) H1.out.k
 dsimp only at c0 c1 c2 c3 c4
 have cw0:=Zz (k:=0) (x:=a) SW.out.1 H1.out.p.below (by rw [SW.out.2];rfl) lw0
 have cv0:w1.cell? aw=some (txt a):=cw0
 obtain ⟨d0,d1,d2,d3,d4⟩:=Zg (x:=((.slice (some aw) ws.length cw,.slice Au nums.length cu,.slice Ak ks.length ck),⟨1,ws,nums,ks,ps⟩)) D1.out.k
 dsimp only at d0 d1 d2 d3 d4
 have dw0:=Zz (k:=0) (x:=a) SW.out.1 D1.out.p.below (by rw [SW.out.2];rfl) lw0
 have dv0:w1.drew.cell? aw=some (txt a):=dw0
 have AD:=zh (Zds w0 w1.drew bp 0 t vn [112,114,111,116,111,32] a D1.out.p (by have:=HL.out;simp only [List.length_cons,List.length_nil];omega))
 go_enter Tryz.func18,Tryz.ntmps18
 go_upto_region 2 with fail
 go_region_with (go_at_call 36;(refine AD.out.mono ?_);rintro e w2 ⟨rfl,hp,hf⟩;have H2:=zh (D1.out.next hp hf);clear hp hf)
 all_goals
  clear c0 c1 c2 c3 c4 cw0 cv0 d0 d1 d2 d3 d4 dw0 dv0
  obtain ⟨c0,c1,c2,c3,c4⟩:=Zg (x:=((.slice (some aw) ws.length cw,.slice Au nums.length cu,.slice Ak ks.length ck),⟨1,ws,nums,ks,ps⟩)) H2.out.k
  dsimp only at c0 c1 c2 c3 c4
  have cw0:=Zz (k:=0) (x:=a) SW.out.1 H2.out.p.below (by rw [SW.out.2];rfl) lw0
  have cv0:w2.cell? aw=some (txt a):=cw0
  have BR:=zh (ZgQ _ ZlI w0 w2 bp 0 _ vn ns Ak ck ks Zfo ZbZ H2.out.p HN.out.1 (by omega) HN.out.2.2.1 (by have:=HN.out.2.2.2;omega) HO.out (Zo8 w0 ns 1) (by have:=HL.out;simp only [List.length_append,List.length_cons,List.length_nil];omega))
  go_wp2_with (go_at_call 37;(refine BR.out.mono ?_);rintro e w3 ⟨rfl,hp,hf⟩;have H3:=zh (H2.out.next hp hf);clear hp hf)
  refine bodyPost_ret (v:=.tuple #[]) (results_none (by kernel_rfl) _ _ _) rfl ⟨rfl,?_,H3.out.f⟩
  have:=H3.out.p
  simp only [List.append_assoc,List.cons_append,List.nil_append] at this ⊢
  exact this
theorem Zrz (w0 w:World) (bp:Nat) (t:Txt) (vn:Value) (ns:List Nd) (f:Nat) (x:NdV×Nd) (h:PrS w0 w bp t 0 vn) (hN:Zs w0 vn ns) (hx:ZaW w0 x) (htk:Zay w0 1 ZeX) (htn:Zay w0 2 Zcm) (ht:Zff w0 w0) (S:Nd->Prop)
  (hS:Zc1 69 w0 ns 1 S (Zl ns f 1)) (hk:x.2.kind=4) (a:Txt) (hn:x.2.words=[a]) (l:List Int) (k:Nat) (hks:x.2.kids=l++[(k:Int)]) (hol:Zaa ns l (Zgz ns)) (hkn:k<ns.length) (hok:Zck ns S (Za ns k)) (hl:t.length+(Zcn ns f x.2).length+10000<=140737488355328) :
  Calls Tryz.prog 18 #[.pointer (some ⟨bp,0,none⟩),ndX x] w fun e w'=>e=.returned (.tuple #[])/\PrS w0 w' bp (t++Zcn ns f x.2) 0 vn/\Fr w w' bp:=by
 have hq:=hx
 obtain ⟨⟨vw,vu,vk⟩,kd,ws,nums,ks,ps⟩:=x
 obtain ⟨hw,hu,hkk⟩:=hx
 dsimp only at hk hn hks hw hu hkk hl ⊢
 obtain ⟨Aw,cw,rfl,hwl,hwm,hW,hWl⟩:=hw
 obtain ⟨Au,cu,rfl,hul,hum,hU⟩:=hu
 obtain ⟨Ak,ck,rfl,hkl,hkm,hK⟩:=hkk
 subst hk
 obtain ⟨z,hz⟩:∃ z,ns[k]? = some z:=⟨_,List.getElem?_eq_getElem hkn⟩
 have hkl2:ks.length=l.length+1:=by rw [hks];simp
 have hlast:ks[l.length]? = some (k:Int):=by rw [hks];simp
 have he:Zcn ns f ⟨4,ws,nums,ks,ps⟩=[102,110,32]++a++([40]++Zal [44,32] (l.map fun k=>ZbR ns (Za ns k))++[41])++ZI 0 (z.kids.map fun k=>Zl ns f 1 (Za ns k)):=by
  unfold Zcn word
  dsimp only
  rw [if_neg (by decide),show ks.length-1=l.length by omega,ZbU (n:=⟨4,ws,nums,ks,ps⟩) hlast hz,show ks.take l.length=l by rw [hks];simp,hn]
  simp only [List.append_assoc]
  rfl
 rw [he] at hl ⊢
 clear he
 rw [ZbC hz] at hok
 simp only [List.length_append,List.length_cons,List.length_nil] at hl
 obtain ⟨ak,rfl,_⟩:=ints_at hK h.below hlast (by omega)
 have wl:IntKind.i64.wrap ((ks.length:Int)-1)=(l.length:Int):=by rw [hkl2];exact (IntWalk.i64_in _ (by have e:maxLen=9223372036854775807:=rfl;omega)).trans (by push_cast;omega)
 have jl:(l.length:Int)<=(ks.length:Int):=by omega
 have jc:(l.length:Int)<=(ck:Int):=by omega
 have RT:=ZnS hK l.length (by omega)
 rw [<- List.map_take,show ks.take l.length=l by rw [hks];simp] at RT
 have N1:=Nw.start (w:=w) #[.int .i64 4,.slice Aw ws.length cw,.slice Au nums.length cu,.slice (some ak) ks.length ck,.int .i64 ps] h
 generalize hw1:w.alloc (.cells #[.int .i64 4,.slice Aw ws.length cw,.slice Au nums.length cu,.slice (some ak) ks.length ck,.int .i64 ps] 37)=w1 at *
 obtain ⟨aw,rfl,_⟩:=Zcl (k:=0) (x:=a) hW N1.p.below (by rw [hn];rfl) (by rw [hn];exact Nat.succ_pos _)
 have lw0:0<ws.length:=by rw [hn];exact Nat.succ_pos _
 have SW:=zh (zi hW hn)
 have H1:=zh N1
 have HN:=zh (zi hN (zi hq (zi hK (zi hkm hkl))))
 have HL:=zh hl
 have HK:=zh (zi hlast (zi hkn (zi hz (zi hok hkl2))))
 have HO:=zh (zi hol (zi hS RT))
 have HT:=zh (zi htk (zi htn ht))
 clear N1 hq hwl hwm hW hWl hul hum hU hkl hkm hK h hN hl hn hks hlast hkn hz hok hol hS RT htk htn ht hkl2
 have D1:=zh H1.out.drew
 obtain ⟨c0,c1,c2,c3,c4⟩:=Zg (x:=((.slice (some aw) ws.length cw,.slice Au nums.length cu,.slice (some ak) ks.length ck),⟨4,ws,nums,ks,ps⟩)) H1.out.k
 dsimp only at c0 c1 c2 c3 c4
 have cw0:=Zz (k:=0) (x:=a) SW.out.1 H1.out.p.below (by rw [SW.out.2];rfl) lw0
 have cv0:w1.cell? aw=some (txt a):=cw0
 obtain ⟨d0,d1,d2,d3,d4⟩:=Zg (x:=((.slice (some aw) ws.length cw,.slice Au nums.length cu,.slice (some ak) ks.length ck),⟨4,ws,nums,ks,ps⟩)) D1.out.k
 dsimp only at d0 d1 d2 d3 d4
 have dw0:=Zz (k:=0) (x:=a) SW.out.1 D1.out.p.below (by rw [SW.out.2];rfl) lw0
 have dv0:w1.drew.cell? aw=some (txt a):=dw0
 have AD:=zh (Zds w0 w1.drew bp 0 t vn [102,110,32] a D1.out.p (by have:=HL.out;simp only [List.length_cons,List.length_nil];omega))
 go_enter Tryz.func18,Tryz.ntmps18
 go_upto_region 5 with fail
 go_region_with (go_at_call 36;(refine AD.out.mono ?_);rintro e w2 ⟨rfl,hp,hf⟩;have H2:=zh (D1.out.next hp hf);clear hp hf)
 all_goals
  clear c0 c1 c2 c3 c4 cw0 cv0 d0 d1 d2 d3 d4 dw0 dv0
  obtain ⟨c0,c1,c2,c3,c4⟩:=Zg (x:=((.slice (some aw) ws.length cw,.slice Au nums.length cu,.slice (some ak) ks.length ck),⟨4,ws,nums,ks,ps⟩)) H2.out.k
  dsimp only at c0 c1 c2 c3 c4
  have cw0:=Zz (k:=0) (x:=a) SW.out.1 H2.out.p.below (by rw [SW.out.2];rfl) lw0
  have cv0:w2.cell? aw=some (txt a):=cw0
  have EN:=zh (Zf3 _ ZkN w0 w2 bp 0 _ vn ns (some ak) ck l (Zgz ns) (ZbR ns) H2.out.p HN.out.1 HO.out.2.2 (by have:=HN.out.2.2.2;have:=HK.out.2.2.2.2;omega) HO.out.1 (ZnG w0 ns 0 HT.out.1 HT.out.2.1 HT.out.2.2) (by have:=HL.out;simp only [List.length_append,List.length_cons,List.length_nil];omega))
  go_upto_region 7 with (go_at_call 39;(refine EN.out.mono ?_);rintro e w3 ⟨rfl,hp,hf⟩;have H3:=zh (H2.out.next hp hf);clear hp hf)
  clear c0 c1 c2 c3 c4 cw0 cv0
  obtain ⟨c0,c1,c2,c3,c4⟩:=Zg (x:=((.slice (some aw) ws.length cw,.slice Au nums.length cu,.slice (some ak) ks.length ck),⟨4,ws,nums,ks,ps⟩)) H3.out.k
  dsimp only at c0 c1 c2 c3 c4
  have cw0:=Zz (k:=0) (x:=a) SW.out.1 H3.out.p.below (by rw [SW.out.2];rfl) lw0
  have cv0:w3.cell? aw=some (txt a):=cw0
  have KI:=zh (ZbB w0 w3 bp 0 _ vn ns _ l.length k ⟨H3.out.p,HN.out.1⟩ HN.out.2.1 HK.out.1 HK.out.2.1)
  have HB:=zh (ZgP w0 ns 0 S (Zl ns f 1) (by omega) HO.out.2.1)
  go_wp2_with (first
   | (go_at_call 42;(refine KI.out.mono ?_);rintro e w4 ⟨y,rfl,hy,hy2,hb⟩;have ey:y.2=z:=Option.some.inj (hy.symm.trans HK.out.2.2.1);have H4:=zh (zi hy2 (zi (H3.out.below hb) ey));clear hy hy2 hb ey;have EX:=zh (HB.out w4 bp _ vn y H4.out.2.1.p HN.out.1 H4.out.1 (H4.out.2.2▸HK.out.2.2.2.1) (by rw [H4.out.2.2];have:=HL.out;simp only [List.length_append,List.length_cons,List.length_nil];omega)))
   | (go_at_call 41;(refine EX.out.mono ?_);rintro e w5 ⟨rfl,hp,hf⟩;have H5:=zh (H4.out.2.1.next hp hf);clear hp hf))
  go_end0
  refine ⟨rfl,?_,H5.out.f⟩
  have:=H5.out.p
  rw [H4.out.2.2] at this
  simp only [List.append_assoc,List.cons_append,List.nil_append] at this ⊢
  exact this
end
end Go.Proofs.YtkongcicmajolaaGreatDoor
